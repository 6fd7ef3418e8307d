/- What VaultOwn stands on, part 12. -/
import Derived.Test.YtmjbnmbobocpdaaGreatVaultOwnP1
import Derived.Test.YtmjbnmbobocpdaaGreatVaultOwnP2
import Derived.Test.YtmjbnmbobocpdaaGreatVaultOwnP3
import Derived.Test.YtmjbnmbobocpdaaGreatVaultOwnP4
import Derived.Test.YtmjbnmbobocpdaaGreatVaultOwnP5
import Derived.Test.YtmjbnmbobocpdaaGreatVaultOwnP6
import Derived.Test.YtmjbnmbobocpdaaGreatVaultOwnP7
import Derived.Test.YtmjbnmbobocpdaaGreatVaultOwnP8
import Derived.Test.YtmjbnmbobocpdaaGreatVaultOwnP9
import Derived.Test.YtmjbnmbobocpdaaGreatVaultOwnP10
import Derived.Test.YtmjbnmbobocpdaaGreatVaultOwnP11
set_option maxRecDepth 100000
set_option maxHeartbeats 8000000
set_option linter.unusedVariables false
set_option linter.unusedSimpArgs false
namespace Go.Proofs.YtmjbnmbobocpdaaGreat
open Go.ChangeShapes Go.WideShapes Go.ChangeAt Go.RowKit
theorem settle_any (g:Nat) (c:Nat→CelN) (fl:Bool) (lf:Int) (dd:Bool) (s n:Nat→Value) (A0:Option Addr) (m c0:Nat) (tx:Nat→Int) (hmc:m≤c0) (hv:z1a ⟨c,fl,lf,dd⟩) (w:World) (hT:RdI w A0 m tx) (hTg:¬ifp A0 m g) (hr:RowsV w g c s n) (hg:w.heap[g]? = some (.cells (vltA ⟨c,fl,lf,dd⟩ s n) 80 (0,0))):
  Calls Tryz.prog 61 #[(zO g),.slice A0 m c0] w fun e w'=>∃ t,e=.returned t∧∃ s' n',RowsV w' g (setC c tx m 18) s' n'∧(∀ b,zo 18 s' n' b→zo 18 s n b∨w.heap.size≤b)∧w'.heap[g]? = some (.cells (vltA ⟨setC c tx m 18,false,-1,false⟩ s' n') 80 (0,0))∧w.grownBy w' (some g):=by
 have hlen:∀ i,i<18→(c i).s.length≤1000∧(c i).n.length≤1000:=hv
 refine zk (args:=[(zO g),.slice A0 m c0]) 66 Tryz.func61 rfl rfl rfl ?_
 intro fa F
 have M:=Mx.rowsG hr hg 1
 refine zSk fun _ hK1=>zT fun _ hK2=>rm rfl F fun _ F3=>hK2 _ _ (wp_block ?_)
 refine zeb (α:=Nat×Option Addr×Nat×Nat×(Nat→Int)×(Nat→Value)×(Nat→Value)) (n:=66) (G:=(some g)) (w0:=w) (fun x=>[(0,(zO g)),(8,zI (x.1:Int)),(1,.slice x.2.1 x.2.2.1 x.2.2.2.1)]) (fun x=>[(1,zua 0 18 (setC c tx m x.1) x.2.2.2.2.2.1 x.2.2.2.2.2.2),(0,blkR g 80 (vltA ⟨(setC c tx m x.1),fl,lf,dd⟩ x.2.2.2.2.2.1 x.2.2.2.2.2.2))]) (fun k x=>k=(18-x.1)∧(x.1≤18∧(∀ b,zo 18 x.2.2.2.2.2.1 x.2.2.2.2.2.2 b→zo 18 s n b∨w.heap.size≤b)∧RdI w x.2.1 x.2.2.1 x.2.2.2.2.1∧(¬ifp x.2.1 x.2.2.1 g)∧x.2.2.1≤x.2.2.2.1∧x.2.2.1+setK c m x.1=m∧∀ i,i<x.2.2.1→x.2.2.2.2.1 i=tx (setK c m x.1+i))) _ ⟨0,A0,m,c0,tx,s,n⟩ ⟨rfl,⟨Nat.zero_le _,fun b hb=>.inl hb,hT,hTg,hmc,rfl,fun i _=>by rw [show setK c m 0=0 from rfl,Nat.zero_add]⟩⟩ (F3.sb) (M.sb) ?_
 rintro k4 ⟨jn,At,qt,ct,yt,sq,nq⟩ a4 w4 K4 ⟨ek4,I4⟩ F4 M4 hK4
 replace F4:Fx 66 a4 [(0,(zO g)),(8,zI (jn:Int)),(1,.slice At qt ct)]:=F4
 replace M4:Mx _ _ w4 [(1,zua 0 18 (setC c tx m jn) sq nq),(0,blkR g 80 (vltA ⟨(setC c tx m jn),fl,lf,dd⟩ sq nq))]:=M4
 replace I4:jn≤18∧(∀ b,zo 18 sq nq b→zo 18 s n b∨w.heap.size≤b)∧RdI w At qt yt∧(¬ifp At qt g)∧qt≤ct∧qt+setK c m jn=m∧∀ i,i<qt→yt i=tx (setK c m jn+i):=I4
 replace ek4:k4=(18-jn):=ek4
 obtain ⟨hj,hfp,hT1,hTg1,hqc,hqm,hyx⟩:=I4
 by_cases hlt:jn<18
 ·have hcj:setC c tx m jn jn=c jn:=setC_ge c tx m jn jn (Nat.le_refl _)
  obtain ⟨fj,hfj⟩:∃ b,(c jn).f=b:=⟨_,rfl⟩
  refine zT fun _ hK5=>zc (w':=w4) rfl rfl F4 rfl (.bool true) (zka _ _ _ _ rfl (F4 8 rfl) rfl (decide_eq_true (show (jn:Int)<18 by omega))) fun _ F6=>?_
  refine hK5 _ _ (zSk fun _ hK7=>wp_cond_true (F6 9 rfl) (wp_skip (hK7 _ _ (zSk fun _ hK8=>wp_block (zT fun _ hK9=>rm rfl F6 fun _ F10=>rm rfl F10 fun _ F11=>hK9 _ _ (zT fun _ hK12=>zB 4 [(0,(zO g)),(8,zI (jn:Int)),(1,.slice At qt ct),(12,zI (jn:Int)),(14,(zO g))] [] dnil [] F11 fun _ F13=>?_))))))
  refine zc (w':=w4) rfl rfl F13 rfl (zP g (3*jn)) (y_ixC3 (N:=18) 76 (by kernel_rfl) (by kernel_rfl) (by kernel_rfl) rfl (F13 14 rfl) (F13 12 rfl) rfl hlt) fun _ F14=>?_
  refine rm rfl F14 fun _ F15=>hK12 _ _ (zSk fun _ hK16=>zT fun _ hK17=>rm rfl F15 fun _ F18=>zc (w':=w4) rfl rfl F18 rfl (zP g (3*jn)) (by unfold execOp;simp only [(F18 16 rfl)];kernel_rfl) fun _ F19=>?_)
  refine zc (w':=w4) rfl rfl F19 rfl (zP g (3*jn+2)) (y_fa (off:=2) rfl (F19 17 rfl) (by kernel_rfl) rfl) fun _ F20=>?_
  refine zc (w':=w4) rfl rfl F20 rfl (.bool fj) (zda _ _ rfl (F20 18 rfl) (M4.blk (k:=0) rfl) ((vlt_f ⟨(setC c tx m jn),fl,lf,dd⟩ sq nq hlt).trans (show some (Value.bool ((setC c tx m jn) jn).f)=_ by rw [hcj,hfj])) Tryz.underlying4 rfl) fun _ F21=>?_
  cases fj
  ·refine zc (w':=w4) rfl rfl F21 rfl (.bool true) (zgb _ _ rfl (F21 19 rfl)) fun _ F22=>?_
   refine hK17 _ _ (wp_cond_true (F22 20 rfl) (wp_exit ?_))
   simp only [Exit.then,Exit.inBlock,↓reduceIte,Nat.reduceEqDiff]
   refine hK8 _ _ (zR (zc (w':=w4) rfl rfl F22 rfl (zI ((jn+1:Nat):Int)) (zoa _ _ _ _ rfl (F22 8 rfl) rfl (by omega) (by omega)) fun _ F23=>?_))
   refine rm rfl F23 fun _ F24=>?_
   have hsC:setC c tx m (jn+1)=(setC c tx m jn):=setC_no hfj
   have hsK:setK c m (jn+1)=setK c m jn:=setK_no hfj
   subst ek4
   exact hK4 _ ⟨(jn+1),At,qt,ct,yt,sq,nq⟩ _ _ (by omega) ⟨rfl,⟨by omega,hfp,hT1,hTg1,hqc,by rw [hsK];exact hqm,by rw [hsK];exact hyx⟩⟩ (F24.sb) (M4.sub ⟨(by rw [hsC];rfl),(by rw [hsC];rfl),trivial⟩)
  ·have hf:(c jn).f=true:=hfj
   obtain ⟨nl,hnl⟩:∃ l,(c jn).n=l:=⟨_,rfl⟩
   obtain ⟨sl,hsl⟩:∃ l,(c jn).s=l:=⟨_,rfl⟩
   have hln:=hlen jn hlt
   rw [hnl,hsl] at hln
   have hNl:IsB w4 nl (nq jn):=by rw [←hnl,←hcj];exact M4.rowsN (i:=1) rfl hlt
   have hSl:IsB w4 sl (sq jn):=by rw [←hsl,←hcj];exact M4.rowsS (i:=1) rfl hlt
   have M25:=(M4.part 50 (bytR nl (nq jn)) hNl z2b rfl (k:=1) rfl rfl (fun b hb=>⟨jn,hlt,.inr hb⟩)).part 51 (bytR sl (sq jn)) hSl z2b rfl (k:=1) rfl rfl (fun b hb=>⟨jn,hlt,.inl hb⟩)
   refine zc (w':=w4) rfl rfl F21 rfl (.bool false) (zgb _ _ rfl (F21 19 rfl)) fun _ F26=>?_
   refine hK17 _ _ (wp_cond_false (F26 20 rfl) (wp_skip (hK16 _ _ (zT fun _ hK27=>rm rfl F26 fun _ F28=>hK27 _ _ (zSk fun _ hK29=>zT fun _ hK30=>rm rfl F28 fun _ F31=>zc (w':=w4) rfl rfl F31 rfl (zI (qt:Int)) (y_lnG 22 Tryz.underlying22 _ rfl (F31 21 rfl) rfl) fun _ F32=>?_)))))
   by_cases h33:0<(qt:Int)
   ·have hq:0<qt:=by omega
    obtain ⟨tn,htn⟩:∃ t,tornN (yt 0) nl.length=t:=⟨_,rfl⟩
    have htl:tn≤nl.length:=by rw [←htn];exact tornN_le _ _
    obtain ⟨km,hkm⟩:∃ k,min tn sl.length=k:=⟨_,rfl⟩
    have hks:km≤sl.length:=by omega
    refine zc (w':=w4) rfl rfl F32 rfl (.bool true) (zbc _ _ _ _ rfl (F32 22 rfl) rfl (decide_eq_true h33)) fun _ F34=>?_
    refine hK30 _ _ (wp_cond_true (F34 23 rfl) (zSk fun _ hK35=>z4a F34 (SK [.inl (.slice At qt ct),.inl ((ixV (.slice At qt ct) 0)),.inl (zI (yt 0)),.inl (zI (max (yt 0) 0)),.inl (zP g (3*jn)),.inl (zP g (3*jn)),.inl (zP g (3*jn+1)),.inl ((nq jn)),.inl (zI (nl.length:Int)),.inl (zI (tn:Int)),.inl (zI (tn:Int))]) 11 rfl (by kernel_rfl) ⟨hop0 F34,?_,?_,?_,hop0 F34,hop0 F34,?_,?_,?_,?_,hop0 F34,trivial⟩ ?_))
    ·intro ua uw hb hd
     have e24:ua.eval (.tmp 24)=.slice At qt ct:=hd 24 (by decide)
     exact z9b (F:=(StK.eq ((ixV (.slice At qt ct) 0))).F) rfl ((ixV (.slice At qt ct) 0)) (y_ixJ _ _ rfl e24 (hT1.grow (M25.step hb).grown hTg1) rfl rfl hq) rfl
    ·intro ua uw hb hd
     have e25:ua.eval (.tmp 25)=(ixV (.slice At qt ct) 0):=hd 25 (by decide)
     exact z9b (F:=(StK.eq (zI (yt 0))).F) rfl (zI (yt 0)) (y_ldJ _ rfl e25 (hT1.grow (M25.step hb).grown hTg1) hq) rfl
    ·intro ua uw hb hd
     have e26:ua.eval (.tmp 26)=zI (yt 0):=hd 26 (by decide)
     exact z9b (F:=(StK.eq (zI (max (yt 0) 0))).F) rfl (zI (max (yt 0) 0)) (y_maxI _ _ rfl e26 rfl rfl) rfl
    ·intro ua uw hb hd
     have e29:ua.eval (.tmp 29)=(zP g (3*jn)):=hd 29 (by decide)
     exact z9b (F:=(StK.eq (zP g (3*jn+1))).F) rfl (zP g (3*jn+1)) (y_fa (off:=1) rfl e29 (by kernel_rfl) rfl) rfl
    ·intro ua uw hb hd
     have e30:ua.eval (.tmp 30)=(zP g (3*jn+1)):=hd 30 (by decide)
     exact z9b (F:=(StK.eq ((nq jn))).F) rfl ((nq jn)) (zda _ _ rfl e30 ((M25.step hb).blk (k:=0) rfl) (vlt_n ⟨(setC c tx m jn),fl,lf,dd⟩ sq nq hlt) Tryz.underlying23 rfl) rfl
    ·intro ua uw hb hd
     have e31:ua.eval (.tmp 31)=(nq jn):=hd 31 (by decide)
     exact z9b (F:=(StK.eq (zI (nl.length:Int))).F) rfl (zI (nl.length:Int)) (z8a _ rfl e31 ((M25.step hb).isb (k:=50) rfl) rfl) rfl
    ·intro ua uw hb hd
     have e27:ua.eval (.tmp 27)=zI (max (yt 0) 0):=hd 27 (by decide)
     have e32:ua.eval (.tmp 32)=zI (nl.length:Int):=hd 32 (by decide)
     exact z9b (F:=(StK.eq (zI (tn:Int))).F) rfl (zI (tn:Int)) (y_min _ _ rfl e27 e32 (by rw [←htn,tornN_int];split <;> omega)) rfl
    intro p37 a37 w37 b37 G37 y37
    obtain ⟨-,-,-,-,-,-,-,-,-,-,q10,-⟩:=y37
    have r10:p37 10=zI (tn:Int):=q10 (by decide)
    simp only [List.take,layV,Nat.zero_add,Nat.reduceAdd,r10] at G37
    have M37:=M25.kc b37
    clear F34 M25 r10 q10
    refine hK35 _ _ (zR (rm rfl G37 fun _ F38=>zc (w':=w37) rfl rfl F38 rfl (.slice (tlA At ct) (qt-1) (ct-1)) (y_slI1 _ _ rfl (F38 34 rfl) rfl hq hqc) fun _ F39=>?_))
    refine rm rfl F39 fun _ F40=>hK29 _ _ (zSk fun _ hK41=>?_)
    refine zva F40 [fun vE=>vE=(zP g (3*jn)),fun vE=>vE=(zP g (3*jn)),fun vE=>vE=(zP g (3*jn)),fun vE=>vE=(sq jn),fun vE=>vE=zI (tn:Int),fun vE=>vE=(zP g (3*jn)),fun vE=>vE=(zP g (3*jn)),fun vE=>vE=(zP g (3*jn)),fun vE=>vE=(sq jn),fun vE=>vE=zI (sl.length:Int),fun vE=>vE=zI (km:Int)] (JM (some g) w fun SV pV=>[(51,bytR sl (sq jn)),(50,bytR nl (nq jn)),(1,zua 0 18 (setC c tx m jn) sq nq),(0,blkR g 80 (vltA ⟨(setC c tx m jn),fl,lf,dd⟩ sq nq))]) 11 rfl (by kernel_rfl) rfl ⟨trivial,trivial,trivial,trivial,trivial,trivial,trivial,trivial,trivial,trivial,trivial,trivial⟩ (fun p=>(M37.step (zsa _)).sub ⟨rfl,rfl,rfl,rfl,trivial⟩) ⟨?_,?_,?_,?_,?_,?_,?_,?_,?_,?_,?_,trivial⟩ ?_
    ·intro ua uw SV pV (M:Mx (some g) w uw _) hk hn hd
     have e5:ua.eval (.tmp 5)=(zP g (3*jn)):=(show ua.eval (.tmp 5)=_ from hd 5 (by decide)).trans (F40 5 rfl)
     exact ze rfl (zP g (3*jn)) (zla _ (.inl rfl) e5) rfl (M.sb)
    ·intro ua uw SV pV (M:Mx (some g) w uw _) hk hn hd
     have e36:ua.eval (.tmp 36)=(zP g (3*jn)):=zQ1 (hd 36 (by decide))
     exact ze rfl (zP g (3*jn)) (by unfold execOp;simp only [e36];kernel_rfl) rfl (M.sb)
    ·intro ua uw SV pV (M:Mx (some g) w uw _) hk hn hd
     have e37:ua.eval (.tmp 37)=(zP g (3*jn)):=zQ1 (hd 37 (by decide))
     exact ze rfl (zP g (3*jn)) (y_fa (off:=0) rfl e37 (by kernel_rfl) rfl) rfl (M.sb)
    ·intro ua uw SV pV (M:Mx (some g) w uw _) hk hn hd
     have e38:ua.eval (.tmp 38)=(zP g (3*jn)):=zQ1 (hd 38 (by decide))
     exact ze rfl ((sq jn)) (zda _ _ rfl e38 (M.blk (k:=0) rfl) (vlt_s ⟨(setC c tx m jn),fl,lf,dd⟩ sq nq hlt) Tryz.underlying23 rfl) rfl (M.sb)
    ·intro ua uw SV pV (M:Mx (some g) w uw _) hk hn hd
     have e6:ua.eval (.tmp 6)=zI (tn:Int):=(show ua.eval (.tmp 6)=_ from hd 6 (by decide)).trans (F40 6 rfl)
     exact ze rfl (zI (tn:Int)) (zla _ (.inl rfl) e6) rfl (M.sb)
    ·intro ua uw SV pV (M:Mx (some g) w uw _) hk hn hd
     have e5:ua.eval (.tmp 5)=(zP g (3*jn)):=(show ua.eval (.tmp 5)=_ from hd 5 (by decide)).trans (F40 5 rfl)
     exact ze rfl (zP g (3*jn)) (zla _ (.inl rfl) e5) rfl (M.sb)
    ·intro ua uw SV pV (M:Mx (some g) w uw _) hk hn hd
     have e41:ua.eval (.tmp 41)=(zP g (3*jn)):=zQ1 (hd 41 (by decide))
     exact ze rfl (zP g (3*jn)) (by unfold execOp;simp only [e41];kernel_rfl) rfl (M.sb)
    ·intro ua uw SV pV (M:Mx (some g) w uw _) hk hn hd
     have e42:ua.eval (.tmp 42)=(zP g (3*jn)):=zQ1 (hd 42 (by decide))
     exact ze rfl (zP g (3*jn)) (y_fa (off:=0) rfl e42 (by kernel_rfl) rfl) rfl (M.sb)
    ·intro ua uw SV pV (M:Mx (some g) w uw _) hk hn hd
     have e43:ua.eval (.tmp 43)=(zP g (3*jn)):=zQ1 (hd 43 (by decide))
     exact ze rfl ((sq jn)) (zda _ _ rfl e43 (M.blk (k:=0) rfl) (vlt_s ⟨(setC c tx m jn),fl,lf,dd⟩ sq nq hlt) Tryz.underlying23 rfl) rfl (M.sb)
    ·intro ua uw SV pV (M:Mx (some g) w uw _) hk hn hd
     have e44:ua.eval (.tmp 44)=(sq jn):=zQ1 (hd 44 (by decide))
     exact ze rfl (zI (sl.length:Int)) (z8a _ rfl e44 (M.isb (k:=51) rfl) rfl) rfl (M.sb)
    ·intro ua uw SV pV (M:Mx (some g) w uw _) hk hn hd
     have e40:ua.eval (.tmp 40)=zI (tn:Int):=zQ1 (hd 40 (by decide))
     have e45:ua.eval (.tmp 45)=zI (sl.length:Int):=zQ1 (hd 45 (by decide))
     exact ze rfl (zI (km:Int)) (y_min _ _ rfl e40 e45 (by rw [←hkm];split <;> omega)) rfl (M.sb)
    intro p42 a42 w42 M42 G42 y42
    obtain ⟨-,-,-,q3,-,-,-,-,-,-,q10,-⟩:=y42
    have r3:p42 3=(sq jn):=q3
    have r10:p42 10=zI (km:Int):=q10
    replace M42:Mx _ _ w42 [(51,bytR sl (sq jn)),(50,bytR nl (nq jn)),(1,zua 0 18 (setC c tx m jn) sq nq),(0,blkR g 80 (vltA ⟨(setC c tx m jn),fl,lf,dd⟩ sq nq))]:=M42
    simp only [List.take,layV,Nat.zero_add,Nat.reduceAdd,r3,r10] at G42
    refine zrc rfl rfl G42 rfl (y_slFrom _ _ rfl (G42 39 rfl) (M42.isb (k:=51) rfl) (G42 46 rfl) (i:=km) rfl (by omega)) ?_
    intro v43 a43 h43 F43
    clear G42
    have M43:=M42.partB 60 (k:=51) rfl h43.1 h43.2
    obtain ⟨A43,c43,rfl⟩:=(M43.isb (k:=60) rfl).shape
    refine rm rfl F43 fun _ F44=>hK41 _ _ (zR (rm rfl F44 fun _ F45=>rm rfl F45 fun _ F46=>zc (w':=w42) rfl rfl F46 rfl (zP g (3*jn)) (by unfold execOp;simp only [(F46 49 rfl)];kernel_rfl) fun _ F47=>?_))
    refine zc (w':=w42) rfl rfl F47 rfl (zP g (3*jn+1)) (y_fa (off:=1) rfl (F47 50 rfl) (by kernel_rfl) rfl) fun _ F48=>?_
    refine zc (w':=w42) rfl rfl F48 rfl ((nq jn)) (zda _ _ rfl (F48 51 rfl) (M43.blk (k:=0) rfl) (vlt_n ⟨(setC c tx m jn),fl,lf,dd⟩ sq nq hlt) Tryz.underlying23 rfl) fun _ F49=>?_
    refine rm rfl F49 fun _ F50=>zrc rfl rfl F50 rfl (y_slTo _ _ rfl (F50 52 rfl) (M43.isb (k:=50) rfl) (F50 53 rfl) (j:=tn) rfl (by omega)) ?_
    intro v51 a51 h51 F51
    have M51:=M43.partB 61 (k:=50) rfl h51.1 h51.2
    obtain ⟨A51,c51,rfl⟩:=(M51.isb (k:=61) rfl).shape
    refine rm rfl F51 fun _ F52=>wl_allocS rfl rfl F52 rfl M51 62 (t:=23) (c:=#[.slice A51 ((nl.take tn)).length c51,.slice A43 ((sl.drop km)).length c43]) (k:=2) (m:=2) (y_litG 68 23 (s:=1) (zv:=zN) Tryz.underlying68 (by kernel_rfl) (by kernel_rfl) rfl (#[.slice A51 ((nl.take tn)).length c51,.slice A43 ((sl.drop km)).length c43]) (by decide) (by decide) (by simp only [List.map_toArray,List.map_cons,List.map_nil,(F52 54 rfl),(F52 55 rfl)];kernel_rfl)) ?_
    intro g53 a53 w53 F53 M53
    refine zh rfl rfl F53 rfl rfl (zE Tryz.func91 rfl) #[.slice (some ⟨g53,0,none⟩) 2 2] (zaa (F53 56 rfl)) ((concat2 (nl.take tn) (sl.drop km) (.slice (some ⟨g53,0,none⟩) 2 2) (by rw [List.length_take,List.length_drop];omega) w53 (isP2 ⟨_,rfl,M53.blk (k:=62) rfl⟩ (M53.isb (k:=61) rfl) (M53.isb (k:=60) rfl)))) ?_
    rintro v54 w54 a54 h54 F54
    have M54:=M53.newO h54.2 63 h54.1
    clear M53 h54
    obtain ⟨A54,c54,rfl⟩:=(M54.isO (k:=63) rfl).shape
    refine zc (w':=w54) rfl rfl F54 rfl (.agg (#[.slice A54 (((nl.take tn)++(sl.drop km))).length c54,zN,.bool false])) (by unfold execOp;simp only [List.map_toArray,List.map_cons,List.map_nil,(F54 57 rfl)];kernel_rfl) fun _ F55=>?_
    refine zc (w':=w54) rfl rfl F55 rfl (zP g (3*jn)) (by unfold execOp;simp only [(F55 48 rfl)];kernel_rfl) fun _ F56=>?_
    refine zt rfl rfl F56 M54 (k:=0) rfl _ _ _ rfl (F56 59 rfl) (F56 58 rfl) (#[.slice A54 (((nl.take tn)++(sl.drop km))).length c54,zN,.bool false]) (vltA ⟨(putC (setC c tx m jn) jn ⟨((nl.take tn)++(sl.drop km)),[],false⟩),fl,lf,dd⟩ (putN sq jn (.slice A54 (((nl.take tn)++(sl.drop km))).length c54)) (putN nq jn (zN))) rfl (show 3*jn+3≤57 by omega) (by simp [Value.oneCell']) (put_c (setC c tx m jn) fl lf dd sq nq (.slice A54 (((nl.take tn)++(sl.drop km))).length c54) (zN) ((nl.take tn)++(sl.drop km)) [] false hlt) (by kernel_rfl) ?_
    intro w57 M57
    refine hK8 _ _ (zR (zc (w':=w57) rfl rfl F56 rfl (zI ((jn+1:Nat):Int)) (zoa _ _ _ _ rfl (F56 8 rfl) rfl (by omega) (by omega)) fun _ F58=>?_))
    refine rm rfl F58 fun _ F59=>?_
    have hown:∀ b,bfp (.slice A54 (((nl.take tn)++(sl.drop km))).length c54) b→w.heap.size≤b:=fun b hb=>(M57.own 63 _ rfl rfl b (zta hb)).resolve_right (fun e=>M57.dis 0 63 _ _ rfl rfl (by decide) rfl b (Option.some.inj e).symm (zta hb))
    have M60:=M57.rowsPut (i:=1) (k:=63) rfl rfl (fun b _=>Nat.zero_le _) jn rfl
    have hk:setK c m jn<m:=by omega
    have hy0:yt 0=tx (setK c m jn):=hyx 0 hq
    have hsC:setC c tx m (jn+1)=putC (setC c tx m jn) jn ⟨((nl.take tn)++(sl.drop km)),[],false⟩:=by
     rw [setC_in hf hk,←hy0,hnl,htn,tornC,hnl,hsl,←hkm,drop_min]
    have hsK:setK c m (jn+1)=setK c m jn+1:=setK_in hf hk
    subst ek4
    exact hK4 _ ⟨(jn+1),(tlA At ct),(qt-1),(ct-1),(fun i=>yt (i+1)),(putN sq jn (.slice A54 (((nl.take tn)++(sl.drop km))).length c54)),(putN nq jn (zN))⟩ _ _ (by omega) ⟨rfl,⟨by omega,fun b hb=>(rowsfp_put hb).elim (fun h=>hfp b h) (fun h=>.inr (hown b h)),rdI_tl hT1 hq hqc,fun h=>hTg1 (ifp_tl hT1 hq hqc h),by dsimp only;omega,by dsimp only;rw [hsK];omega,fun i hi=>by dsimp only at hi ⊢;rw [hsK,show setK c m jn+1+i=setK c m jn+(i+1) by omega];exact hyx (i+1) (by omega)⟩⟩ (F59.sb) (M60.sub ⟨(by rw [hsC];rfl),(by rw [hsC];rfl),trivial⟩)
   ·have hq:qt=0:=by omega
    refine zc (w':=w4) rfl rfl F32 rfl (.bool false) (zbc _ _ _ _ rfl (F32 22 rfl) rfl (decide_eq_false h33)) fun _ F61=>?_
    refine hK30 _ _ (wp_cond_false (F61 23 rfl) (wp_skip (hK29 _ _ (zSk fun _ hK62=>?_))))
    refine zva F61 [fun vE=>vE=(zP g (3*jn)),fun vE=>vE=(zP g (3*jn)),fun vE=>vE=(zP g (3*jn)),fun vE=>vE=(sq jn),fun vE=>vE=zI 0,fun vE=>vE=(zP g (3*jn)),fun vE=>vE=(zP g (3*jn)),fun vE=>vE=(zP g (3*jn)),fun vE=>vE=(sq jn),fun vE=>vE=zI (sl.length:Int),fun vE=>vE=zI 0] (JM (some g) w fun SV pV=>[(51,bytR sl (sq jn)),(50,bytR nl (nq jn)),(1,zua 0 18 (setC c tx m jn) sq nq),(0,blkR g 80 (vltA ⟨(setC c tx m jn),fl,lf,dd⟩ sq nq))]) 11 rfl (by kernel_rfl) rfl ⟨trivial,trivial,trivial,trivial,trivial,trivial,trivial,trivial,trivial,trivial,trivial,trivial⟩ (fun p=>(M25.step (zsa _)).sub ⟨rfl,rfl,rfl,rfl,trivial⟩) ⟨?_,?_,?_,?_,?_,?_,?_,?_,?_,?_,?_,trivial⟩ ?_
    ·intro ua uw SV pV (M:Mx (some g) w uw _) hk hn hd
     have e5:ua.eval (.tmp 5)=(zP g (3*jn)):=(show ua.eval (.tmp 5)=_ from hd 5 (by decide)).trans (F61 5 rfl)
     exact ze rfl (zP g (3*jn)) (zla _ (.inl rfl) e5) rfl (M.sb)
    ·intro ua uw SV pV (M:Mx (some g) w uw _) hk hn hd
     have e36:ua.eval (.tmp 36)=(zP g (3*jn)):=zQ1 (hd 36 (by decide))
     exact ze rfl (zP g (3*jn)) (by unfold execOp;simp only [e36];kernel_rfl) rfl (M.sb)
    ·intro ua uw SV pV (M:Mx (some g) w uw _) hk hn hd
     have e37:ua.eval (.tmp 37)=(zP g (3*jn)):=zQ1 (hd 37 (by decide))
     exact ze rfl (zP g (3*jn)) (y_fa (off:=0) rfl e37 (by kernel_rfl) rfl) rfl (M.sb)
    ·intro ua uw SV pV (M:Mx (some g) w uw _) hk hn hd
     have e38:ua.eval (.tmp 38)=(zP g (3*jn)):=zQ1 (hd 38 (by decide))
     exact ze rfl ((sq jn)) (zda _ _ rfl e38 (M.blk (k:=0) rfl) (vlt_s ⟨(setC c tx m jn),fl,lf,dd⟩ sq nq hlt) Tryz.underlying23 rfl) rfl (M.sb)
    ·intro ua uw SV pV (M:Mx (some g) w uw _) hk hn hd
     have e6:ua.eval (.tmp 6)=zI 0:=(show ua.eval (.tmp 6)=_ from hd 6 (by decide)).trans (F61 6 rfl)
     exact ze rfl (zI 0) (zla _ (.inl rfl) e6) rfl (M.sb)
    ·intro ua uw SV pV (M:Mx (some g) w uw _) hk hn hd
     have e5:ua.eval (.tmp 5)=(zP g (3*jn)):=(show ua.eval (.tmp 5)=_ from hd 5 (by decide)).trans (F61 5 rfl)
     exact ze rfl (zP g (3*jn)) (zla _ (.inl rfl) e5) rfl (M.sb)
    ·intro ua uw SV pV (M:Mx (some g) w uw _) hk hn hd
     have e41:ua.eval (.tmp 41)=(zP g (3*jn)):=zQ1 (hd 41 (by decide))
     exact ze rfl (zP g (3*jn)) (by unfold execOp;simp only [e41];kernel_rfl) rfl (M.sb)
    ·intro ua uw SV pV (M:Mx (some g) w uw _) hk hn hd
     have e42:ua.eval (.tmp 42)=(zP g (3*jn)):=zQ1 (hd 42 (by decide))
     exact ze rfl (zP g (3*jn)) (y_fa (off:=0) rfl e42 (by kernel_rfl) rfl) rfl (M.sb)
    ·intro ua uw SV pV (M:Mx (some g) w uw _) hk hn hd
     have e43:ua.eval (.tmp 43)=(zP g (3*jn)):=zQ1 (hd 43 (by decide))
     exact ze rfl ((sq jn)) (zda _ _ rfl e43 (M.blk (k:=0) rfl) (vlt_s ⟨(setC c tx m jn),fl,lf,dd⟩ sq nq hlt) Tryz.underlying23 rfl) rfl (M.sb)
    ·intro ua uw SV pV (M:Mx (some g) w uw _) hk hn hd
     have e44:ua.eval (.tmp 44)=(sq jn):=zQ1 (hd 44 (by decide))
     exact ze rfl (zI (sl.length:Int)) (z8a _ rfl e44 (M.isb (k:=51) rfl) rfl) rfl (M.sb)
    ·intro ua uw SV pV (M:Mx (some g) w uw _) hk hn hd
     have e40:ua.eval (.tmp 40)=zI 0:=zQ1 (hd 40 (by decide))
     have e45:ua.eval (.tmp 45)=zI (sl.length:Int):=zQ1 (hd 45 (by decide))
     exact ze rfl (zI 0) (y_min _ _ rfl e40 e45 (by split <;> omega)) rfl (M.sb)
    intro p63 a63 w63 M63 G63 y63
    obtain ⟨-,-,-,q3,-,-,-,-,-,-,q10,-⟩:=y63
    have r3:p63 3=(sq jn):=q3
    have r10:p63 10=zI 0:=q10
    replace M63:Mx _ _ w63 [(51,bytR sl (sq jn)),(50,bytR nl (nq jn)),(1,zua 0 18 (setC c tx m jn) sq nq),(0,blkR g 80 (vltA ⟨(setC c tx m jn),fl,lf,dd⟩ sq nq))]:=M63
    simp only [List.take,layV,Nat.zero_add,Nat.reduceAdd,r3,r10] at G63
    refine zrc rfl rfl G63 rfl (y_slFrom _ _ rfl (G63 39 rfl) (M63.isb (k:=51) rfl) (G63 46 rfl) (i:=0) rfl (Nat.zero_le _)) ?_
    intro v64 a64 h64 F64
    clear G63
    have M64:=M63.partB 60 (k:=51) rfl h64.1 h64.2
    obtain ⟨A64,c64,rfl⟩:=(M64.isb (k:=60) rfl).shape
    refine rm rfl F64 fun _ F65=>hK62 _ _ (zR (rm rfl F65 fun _ F66=>rm rfl F66 fun _ F67=>zc (w':=w63) rfl rfl F67 rfl (zP g (3*jn)) (by unfold execOp;simp only [(F67 49 rfl)];kernel_rfl) fun _ F68=>?_))
    refine zc (w':=w63) rfl rfl F68 rfl (zP g (3*jn+1)) (y_fa (off:=1) rfl (F68 50 rfl) (by kernel_rfl) rfl) fun _ F69=>?_
    refine zc (w':=w63) rfl rfl F69 rfl ((nq jn)) (zda _ _ rfl (F69 51 rfl) (M64.blk (k:=0) rfl) (vlt_n ⟨(setC c tx m jn),fl,lf,dd⟩ sq nq hlt) Tryz.underlying23 rfl) fun _ F70=>?_
    refine rm rfl F70 fun _ F71=>zrc rfl rfl F71 rfl (y_slTo _ _ rfl (F71 52 rfl) (M64.isb (k:=50) rfl) (F71 53 rfl) (j:=0) rfl (Nat.zero_le _)) ?_
    intro v72 a72 h72 F72
    have M72:=M64.partB 61 (k:=50) rfl h72.1 h72.2
    obtain ⟨A72,c72,rfl⟩:=(M72.isb (k:=61) rfl).shape
    refine rm rfl F72 fun _ F73=>wl_allocS rfl rfl F73 rfl M72 62 (t:=23) (c:=#[.slice A72 ((nl.take 0)).length c72,.slice A64 ((sl.drop 0)).length c64]) (k:=2) (m:=2) (y_litG 68 23 (s:=1) (zv:=zN) Tryz.underlying68 (by kernel_rfl) (by kernel_rfl) rfl (#[.slice A72 ((nl.take 0)).length c72,.slice A64 ((sl.drop 0)).length c64]) (by decide) (by decide) (by simp only [List.map_toArray,List.map_cons,List.map_nil,(F73 54 rfl),(F73 55 rfl)];kernel_rfl)) ?_
    intro g74 a74 w74 F74 M74
    refine zh rfl rfl F74 rfl rfl (zE Tryz.func91 rfl) #[.slice (some ⟨g74,0,none⟩) 2 2] (zaa (F74 56 rfl)) ((concat2 (nl.take 0) (sl.drop 0) (.slice (some ⟨g74,0,none⟩) 2 2) (by rw [List.length_take,List.length_drop];omega) w74 (isP2 ⟨_,rfl,M74.blk (k:=62) rfl⟩ (M74.isb (k:=61) rfl) (M74.isb (k:=60) rfl)))) ?_
    rintro v75 w75 a75 h75 F75
    have M75:=M74.newO h75.2 63 h75.1
    clear M74 h75
    obtain ⟨A75,c75,rfl⟩:=(M75.isO (k:=63) rfl).shape
    refine zc (w':=w75) rfl rfl F75 rfl (.agg (#[.slice A75 (((nl.take 0)++(sl.drop 0))).length c75,zN,.bool false])) (by unfold execOp;simp only [List.map_toArray,List.map_cons,List.map_nil,(F75 57 rfl)];kernel_rfl) fun _ F76=>?_
    refine zc (w':=w75) rfl rfl F76 rfl (zP g (3*jn)) (by unfold execOp;simp only [(F76 48 rfl)];kernel_rfl) fun _ F77=>?_
    refine zt rfl rfl F77 M75 (k:=0) rfl _ _ _ rfl (F77 59 rfl) (F77 58 rfl) (#[.slice A75 (((nl.take 0)++(sl.drop 0))).length c75,zN,.bool false]) (vltA ⟨(putC (setC c tx m jn) jn ⟨((nl.take 0)++(sl.drop 0)),[],false⟩),fl,lf,dd⟩ (putN sq jn (.slice A75 (((nl.take 0)++(sl.drop 0))).length c75)) (putN nq jn (zN))) rfl (show 3*jn+3≤57 by omega) (by simp [Value.oneCell']) (put_c (setC c tx m jn) fl lf dd sq nq (.slice A75 (((nl.take 0)++(sl.drop 0))).length c75) (zN) ((nl.take 0)++(sl.drop 0)) [] false hlt) (by kernel_rfl) ?_
    intro w78 M78
    refine hK8 _ _ (zR (zc (w':=w78) rfl rfl F77 rfl (zI ((jn+1:Nat):Int)) (zoa _ _ _ _ rfl (F77 8 rfl) rfl (by omega) (by omega)) fun _ F79=>?_))
    refine rm rfl F79 fun _ F80=>?_
    have hown:∀ b,bfp (.slice A75 (((nl.take 0)++(sl.drop 0))).length c75) b→w.heap.size≤b:=fun b hb=>(M78.own 63 _ rfl rfl b (zta hb)).resolve_right (fun e=>M78.dis 0 63 _ _ rfl rfl (by decide) rfl b (Option.some.inj e).symm (zta hb))
    have M81:=M78.rowsPut (i:=1) (k:=63) rfl rfl (fun b _=>Nat.zero_le _) jn rfl
    have hk:¬setK c m jn<m:=by omega
    have hsC:setC c tx m (jn+1)=putC (setC c tx m jn) jn ⟨((nl.take 0)++(sl.drop 0)),[],false⟩:=by
     rw [setC_out hf hk,tornC,hnl,hsl]
    have hsK:setK c m (jn+1)=setK c m jn:=setK_out hk
    subst ek4
    exact hK4 _ ⟨(jn+1),At,qt,ct,yt,(putN sq jn (.slice A75 (((nl.take 0)++(sl.drop 0))).length c75)),(putN nq jn (zN))⟩ _ _ (by omega) ⟨rfl,⟨by omega,fun b hb=>(rowsfp_put hb).elim (fun h=>hfp b h) (fun h=>.inr (hown b h)),hT1,hTg1,hqc,by rw [hsK];exact hqm,by rw [hsK];exact hyx⟩⟩ (F80.sb) (M81.sub ⟨(by rw [hsC];rfl),(by rw [hsC];rfl),trivial⟩)
 ·obtain rfl:jn=18:=by omega
  refine zT fun _ hK82=>zc (w':=w4) rfl rfl F4 rfl (.bool false) (zka _ _ _ _ rfl (F4 8 rfl) rfl (decide_eq_false (by decide))) fun _ F83=>?_
  refine hK82 _ _ (zSk fun _ hK84=>wp_cond_false (F83 9 rfl) (wp_exit ?_))
  simp only [Exit.then,Exit.inBlock,↓reduceIte,Nat.reduceEqDiff]
  refine hK1 _ _ (zT fun _ hK85=>rm rfl F83 fun _ F86=>zh rfl rfl F86 rfl rfl (zE Tryz.func46 rfl) #[(zO g),zI (-1)] (zfa (F86 61 rfl) rfl) (dfail_any g (setC c tx m 18) fl lf dd sq nq (-1) w4 (M4.blk (k:=0) rfl)) ?_)
  rintro _ w87 a87 ⟨hc87,hg87⟩ F87
  have M87:=M4.put (k:=0) rfl hg87 (show _=some (Obj.cells (vltA ⟨(setC c tx m 18),false,-1,dd⟩ sq nq) 80 (0,0)) from hc87)
  clear M4 hg87 hc87
  refine hK85 _ _ (zR (zB 3 [(0,(zO g)),(8,zI ((18:Nat):Int)),(1,.slice At qt ct),(65,(zP g 56))] [] dnil [] F87 fun _ F88=>?_))
  refine zt rfl rfl F88 M87 (k:=0) rfl _ _ _ rfl (F88 65 rfl) rfl (#[.bool false]) (vltA ⟨(setC c tx m 18),false,(-1),false⟩ sq nq) rfl (zL rfl) (by simp [Value.oneCell']) (by kernel_rfl) (by kernel_rfl) ?_
  intro w89 M89
  refine wpList_nil ?_
  exact bodyPost_end (res0 rfl) F88.defers ⟨_,rfl,sq,nq,M89.rowsV (i:=1) (k:=0) rfl rfl (by decide),hfp,M89.blk (k:=0) rfl,M89.grown⟩
def zac (V:VltN) (x:Nat→Int) (m:Nat):VltN:=⟨setC V.c x m 18,false,-1,false⟩
theorem tornC_short {c:CelN} {k:Nat} (hk:k≤c.n.length) (h:c.s.length≤1000∧c.n.length≤1000):(tornC c k).s.length≤1000∧(tornC c k).n.length≤1000:=by
 refine ⟨?_,Nat.zero_le _⟩
 show (c.n.take k++c.s.drop k).length≤1000
 rw [List.length_append,List.length_take,List.length_drop]
 omega
theorem setC_all {c:Nat→CelN} {x:Nat→Int} {m:Nat} {p:Nat→CelN→Prop} (h:∀ i,p i (c i)) (ht:∀ i k,(c i).f=true→k≤(c i).n.length→p i (tornC (c i) k)):∀ j i,p i (setC c x m j i)
 | 0,i=>h i
 | j+1,i=>by
  unfold setC
  split
  ·rename_i hf
   by_cases e:i=j
   ·subst e
    rw [zec]
    split
    ·exact ht i _ hf (tornN_le _ _)
    ·exact ht i _ hf (Nat.zero_le _)
   ·rw [ztc _ _ e]
    exact setC_all h ht j i
  ·exact setC_all h ht j i
theorem setlV_short {V:VltN} (h:z1a V) (x:Nat→Int) (m:Nat):z1a (zac V x m):=fun i hi=>
 setC_all (p:=fun i c=>i<18→c.s.length≤1000∧c.n.length≤1000) (fun i hi=>h i hi) (fun i k _ hk hi=>tornC_short hk (h i hi)) 18 i hi
theorem settle_is (g:Nat) (V:VltN) (s n:Nat→Value) (A0:Option Addr) (m c0:Nat) (tx:Nat→Int) (hmc:m≤c0) (hv:z1a V) (w:World) (hT:RdI w A0 m tx) (hTg:¬ifp A0 m g) (hr:RowsV w g V.c s n) (hg:w.heap[g]? = some (.cells (vltA V s n) 80 (0,0))):
  Calls Tryz.prog 61 #[(zO g),.slice A0 m c0] w fun e w'=>∃ t,e=.returned t∧∃ s' n',RowsV w' g (zac V tx m).c s' n'∧(∀ b,zo 18 s' n' b→zo 18 s n b∨w.heap.size≤b)∧w'.heap[g]? = some (.cells (vltA (zac V tx m) s' n') 80 (0,0))∧w.grownBy w' (some g):=by
 obtain ⟨c,fl,lf,dd⟩:=V
 exact settle_any g c fl lf dd s n A0 m c0 tx hmc hv w hT hTg hr hg
theorem vagain_any (g:Nat) (V:VltN) (s n:Nat→Value) (hv:z1a V) (A0:Option Addr) (m c0:Nat) (tx:Nat→Int) (hmc:m≤c0) (hb:-9223372036854775808≤zic (zac V tx m) 16∧zic (zac V tx m) 16<9223372036854775807) (ht:anyB zr (zac V tx m) 16=true → -9223372036854775808≤cntT (zac V tx m) 16∧cntT (zac V tx m) 16<9223372036854775807) (w:World) (hT:RdI w A0 m tx) (hTg:¬ifp A0 m g) (hr:RowsV w g V.c s n) (hg:w.heap[g]? = some (.cells (vltA V s n) 80 (0,0))):
  Calls Tryz.prog 30 #[(zO g),.slice A0 m c0] w fun e w'=>∃ t,e=.returned t∧∃ s' n',RowsV w' g (ageW (zac V tx m)).c s' n'∧(∀ b,zo 18 s' n' b→zo 18 s n b∨w.heap.size≤b)∧w'.heap[g]? = some (.cells (vltA (ageW (zac V tx m)) s' n') 80 (0,0))∧w.grownBy w' (some g):=by
 obtain ⟨VS,hVS⟩:∃ x,zac V tx m=x:=⟨_,rfl⟩
 have hvs:z1a VS:=by rw [←hVS];exact setlV_short hv tx m
 rw [hVS] at hb ht ⊢
 refine zk (args:=[(zO g),.slice A0 m c0]) 11 Tryz.func30 rfl rfl rfl ?_
 intro fa F
 have M:=Mx.theG hg 0
 refine zT fun _ hK1=>zB 4 [(0,(zO g)),(6,(zO g)),(7,.slice A0 m c0)] [] dnil [] F fun _ F2=>?_
 refine zh rfl rfl F2 rfl rfl (zE Tryz.func61 rfl) #[(zO g),.slice A0 m c0] (zfa (F2 6 rfl) (F2 7 rfl)) (settle_is g V s n A0 m c0 tx hmc hv w (hT.grow M.grown hTg) hTg (hr.grow M.grown) (M.blk (k:=0) rfl)) ?_
 rintro _ w3 a3 ⟨s3,n3,hr3,ht3,hc3,hg3⟩ F3
 rw [hVS] at hr3 hc3
 have M3:=M.put (k:=0) rfl hg3 hc3
 refine hK1 _ _ (zR (rm rfl F3 fun _ F4=>zh rfl rfl F4 rfl rfl (zE Tryz.func39 rfl) #[(zO g)] (zaa (F4 9 rfl)) (age_any g VS s3 n3 hvs hb ht w3 hr3 (M3.blk (k:=0) rfl)) ?_))
 rintro _ w5 a5 ⟨s5,n5,hr5,ht5,hc5,hg5⟩ F5
 have M5:=M3.put (k:=0) rfl hg5 hc5
 refine wpList_nil ?_
 exact bodyPost_end (res0 rfl) F5.defers ⟨_,rfl,s5,n5,hr5,(fun b hb=>(ht5 b hb).elim (fun h=>(ht3 b h).imp id (fun h=>Nat.le_trans M.le h)) (fun h=>.inr (Nat.le_trans M3.le h))),hc5,M3.grown.trans hg5⟩
theorem find_yes (g:Nat) (V:VltN) (s n:Nat→Value) (hv:z1a V) (nm:ByteArray) (k:Nat) (hk:fst8 (zz V nm)=k) (h8:k<8) (w:World) (h:HasV w g V s n):Calls Tryz.prog 49 #[(zO g),.string nm] w fun e w'=>e=.returned (.tuple #[.agg #[zI ((2*k:Nat):Int),.func (.func 105) #[] #[]],.bool true])∧Below w.heap.size w w':=
 (find_any g V s n hv nm w h).mono fun e w' ⟨t,h1,h2,h3⟩=>⟨by
  rcases h2 with ⟨k',q1,q2,q3⟩ | ⟨q1,q2⟩
  ·rw [hk] at q2;subst q2;rw [h1,q3]
  ·omega,h3⟩
theorem find_not (g:Nat) (V:VltN) (s n:Nat→Value) (hv:z1a V) (nm:ByteArray) (hk:fst8 (zz V nm)=8) (w:World) (h:HasV w g V s n):Calls Tryz.prog 49 #[(zO g),.string nm] w fun e w'=>e=.returned (.tuple #[.agg #[zI 0,.nilFunc],.bool false])∧Below w.heap.size w w':=
 (find_any g V s n hv nm w h).mono fun e w' ⟨t,h1,h2,h3⟩=>⟨by
  rcases h2 with ⟨k',q1,q2,q3⟩ | ⟨q1,q2⟩
  ·omega
  ·rw [h1,q2],h3⟩
theorem free_yes (g:Nat) (V:VltN) (s n:Nat→Value) (hv:z1a V) (k:Nat) (hk:fst8 (fun i=>zxa V (2*i))=k) (h8:k<8) (w:World) (h:HasV w g V s n):Calls Tryz.prog 50 #[(zO g)] w fun e w'=>e=.returned (.tuple #[.agg #[zI ((2*k:Nat):Int),.func (.func 105) #[] #[]],.bool true])∧Below w.heap.size w w':=
 (free_any g V s n hv w h).mono fun e w' ⟨t,h1,h2,h3⟩=>⟨by
  rcases h2 with ⟨k',q1,q2,q3⟩ | ⟨q1,q2⟩
  ·rw [hk] at q2;subst q2;rw [h1,q3]
  ·omega,h3⟩
theorem free_not (g:Nat) (V:VltN) (s n:Nat→Value) (hv:z1a V) (hk:fst8 (fun i=>zxa V (2*i))=8) (w:World) (h:HasV w g V s n):Calls Tryz.prog 50 #[(zO g)] w fun e w'=>e=.returned (.tuple #[.agg #[zI 0,.nilFunc],.bool false])∧Below w.heap.size w w':=
 (free_any g V s n hv w h).mono fun e w' ⟨t,h1,h2,h3⟩=>⟨by
  rcases h2 with ⟨k',q1,q2,q3⟩ | ⟨q1,q2⟩
  ·omega
  ·rw [h1,q2],h3⟩
theorem gone_dead (g:Nat) (V:VltN) (s n:Nat→Value) (hv:z1a V) (nm:ByteArray) (hd:V.dd=true) (w:World) (hr:RowsV w g V.c s n) (hg:w.heap[g]? = some (.cells (vltA V s n) 80 (0,0))):
  Calls Tryz.prog 27 #[(zO g),.string nm] w fun e w'=>∃ t,e=.returned t∧t=zI 10∧∃ s' n',RowsV w' g (V).c s' n'∧(∀ b,zo 18 s' n' b→zo 18 s n b∨w.heap.size≤b)∧w'.heap[g]? = some (.cells (vltA (V) s' n') 80 (0,0))∧w.grownBy w' (some g):=by
 refine zk (args:=[(zO g),.string nm]) 23 Tryz.func27 rfl rfl rfl ?_
 intro fa F
 have M:=Mx.theG hg 0
 refine zT fun _ hK1=>rm rfl F fun _ F2=>hK1 _ _ (zSk fun _ hK3=>zT fun _ hK4=>zB 4 [(0,(zO g)),(1,.string nm),(4,zI 0),(10,(zP g 56))] [] dnil [] F2 fun _ F5=>?_)
 refine zc (w':=w) rfl rfl F5 rfl (.bool true) (zda _ _ rfl (F5 10 rfl) (M.blk (k:=0) rfl) (show _=some (Value.bool _) from by rw [←hd];rfl) Tryz.underlying4 rfl) fun _ F6=>?_
 refine hK4 _ _ (wp_cond_true (F6 11 rfl) (zT fun _ hK7=>rm rfl F6 fun _ F8=>hK7 _ _ (wp_ret ?_)))
 try simp only [Exit.then,Exit.inBlock,Exit.jump]
 exact bodyPost_ret (res1 rfl (F8.get rfl)) F8.defers ⟨_,rfl,rfl,s,n,hr.grow M.grown,fun b h=>.inl h,M.blk (k:=0) rfl,M.grown⟩
theorem gone_not (g:Nat) (V:VltN) (s n:Nat→Value) (hv:z1a V) (nm:ByteArray) (hd:V.dd=false) (hk:fst8 (zz V nm)=8) (w:World) (hr:RowsV w g V.c s n) (hg:w.heap[g]? = some (.cells (vltA V s n) 80 (0,0))):
  Calls Tryz.prog 27 #[(zO g),.string nm] w fun e w'=>∃ t,e=.returned t∧t=zI 3∧∃ s' n',RowsV w' g (V).c s' n'∧(∀ b,zo 18 s' n' b→zo 18 s n b∨w.heap.size≤b)∧w'.heap[g]? = some (.cells (vltA (V) s' n') 80 (0,0))∧w.grownBy w' (some g):=by
 refine zk (args:=[(zO g),.string nm]) 23 Tryz.func27 rfl rfl rfl ?_
 intro fa F
 have M:=Mx.theG hg 0
 refine zT fun _ hK1=>rm rfl F fun _ F2=>hK1 _ _ (zSk fun _ hK3=>zT fun _ hK4=>zB 4 [(0,(zO g)),(1,.string nm),(4,zI 0),(10,(zP g 56))] [] dnil [] F2 fun _ F5=>?_)
 refine zc (w':=w) rfl rfl F5 rfl (.bool false) (zda _ _ rfl (F5 10 rfl) (M.blk (k:=0) rfl) (show _=some (Value.bool _) from by rw [←hd];rfl) Tryz.underlying4 rfl) fun _ F6=>?_
 refine hK4 _ _ (wp_cond_false (F6 11 rfl) (wp_skip (hK3 _ _ (zT fun _ hK7=>rm rfl F6 fun _ F8=>rm rfl F8 fun _ F9=>zh rfl rfl F9 rfl rfl (zE Tryz.func49 rfl) #[(zO g),.string nm] (zfa (F9 13 rfl) (F9 14 rfl)) (zba ((find_not g V s n hv nm hk w (HasV.of (M.blk (k:=0) rfl) (hr.grow M.grown))))) ?_))))
 rintro _ w10 a10 ⟨rfl,b10⟩ F10
 have M10:=M.step b10
 refine zB 3 [(0,(zO g)),(4,zI 0),(16,.agg (#[zI 0,.nilFunc])),(17,.bool false)] [] dnil [] F10 fun _ F11=>?_
 refine zq rfl rfl F11 rfl M10 1 (t:=87) (c:=#[zI 0,.nilFunc]) (by unfold execOp;kernel_rfl) ?_
 intro g12 a12 w12 F12 M12
 refine zt rfl rfl F12 M12 (k:=1) rfl _ _ _ rfl (F12 5 rfl) (F12 16 rfl) (#[zI 0,.nilFunc]) _ rfl (zL rfl) (by first | rfl | simp [Value.oneCell']) (zca rfl) (by kernel_rfl) ?_
 intro w13 M13
 refine rm rfl F12 fun _ F14=>hK7 _ _ (zSk fun _ hK15=>zT fun _ hK16=>zAx 2 [(18,.bool false),(19,.bool true)] [] dnil [] F14 fun _ F17=>?_)
 refine hK16 _ _ (wp_cond_true (F17 19 rfl) (zT fun _ hK18=>rm rfl F17 fun _ F19=>hK18 _ _ (wp_ret ?_)))
 try simp only [Exit.then,Exit.inBlock,Exit.jump]
 exact bodyPost_ret (res1 rfl (F19.get rfl)) F19.defers ⟨_,rfl,rfl,s,n,hr.grow M13.grown,fun b h=>.inl h,M13.blk (k:=0) rfl,M13.grown⟩
theorem gone_yes (g:Nat) (V:VltN) (s n:Nat→Value) (hv:z1a V) (nm:ByteArray) (hd:V.dd=false) (k:Nat) (hk:fst8 (zz V nm)=k) (h8:k<8) (ht:anyB zr V (2*k)=true → -9223372036854775808≤cntT V (2*k)∧cntT V (2*k)<9223372036854775807) (w:World) (hr:RowsV w g V.c s n) (hg:w.heap[g]? = some (.cells (vltA V s n) 80 (0,0))):
  Calls Tryz.prog 27 #[(zO g),.string nm] w fun e w'=>∃ t,e=.returned t∧t=zI (if (sayW V (2*k) []).2=true then 0 else 10)∧∃ s' n',RowsV w' g ((sayW V (2*k) []).1).c s' n'∧(∀ b,zo 18 s' n' b→zo 18 s n b∨w.heap.size≤b)∧w'.heap[g]? = some (.cells (vltA ((sayW V (2*k) []).1) s' n') 80 (0,0))∧w.grownBy w' (some g):=by
 refine zk (args:=[(zO g),.string nm]) 23 Tryz.func27 rfl rfl rfl ?_
 intro fa F
 have M:=Mx.theG hg 0
 refine zT fun _ hK1=>rm rfl F fun _ F2=>hK1 _ _ (zSk fun _ hK3=>zT fun _ hK4=>zB 4 [(0,(zO g)),(1,.string nm),(4,zI 0),(10,(zP g 56))] [] dnil [] F2 fun _ F5=>?_)
 refine zc (w':=w) rfl rfl F5 rfl (.bool false) (zda _ _ rfl (F5 10 rfl) (M.blk (k:=0) rfl) (show _=some (Value.bool _) from by rw [←hd];rfl) Tryz.underlying4 rfl) fun _ F6=>?_
 refine hK4 _ _ (wp_cond_false (F6 11 rfl) (wp_skip (hK3 _ _ (zT fun _ hK7=>rm rfl F6 fun _ F8=>rm rfl F8 fun _ F9=>zh rfl rfl F9 rfl rfl (zE Tryz.func49 rfl) #[(zO g),.string nm] (zfa (F9 13 rfl) (F9 14 rfl)) (zba ((find_yes g V s n hv nm k hk h8 w (HasV.of (M.blk (k:=0) rfl) (hr.grow M.grown))))) ?_))))
 rintro _ w10 a10 ⟨rfl,b10⟩ F10
 have M10:=M.step b10
 refine zB 3 [(0,(zO g)),(4,zI 0),(16,.agg (#[zI ((2*k:Nat):Int),.func (.func 105) #[] #[]])),(17,.bool true)] [] dnil [] F10 fun _ F11=>?_
 refine zq rfl rfl F11 rfl M10 1 (t:=87) (c:=#[zI 0,.nilFunc]) (by unfold execOp;kernel_rfl) ?_
 intro g12 a12 w12 F12 M12
 refine zt rfl rfl F12 M12 (k:=1) rfl _ _ _ rfl (F12 5 rfl) (F12 16 rfl) (#[zI ((2*k:Nat):Int),.func (.func 105) #[] #[]]) _ rfl (zL rfl) (by first | rfl | simp [Value.oneCell']) (zca rfl) (by kernel_rfl) ?_
 intro w13 M13
 refine rm rfl F12 fun _ F14=>hK7 _ _ (zSk fun _ hK15=>zT fun _ hK16=>zAx 2 [(18,.bool true),(19,.bool false)] [] dnil [] F14 fun _ F17=>?_)
 refine hK16 _ _ (wp_cond_false (F17 19 rfl) (wp_skip (hK15 _ _ (zT fun _ hK18=>rm rfl F17 fun _ F19=>zc (w':=w13) rfl rfl F19 rfl _ (zjb _ _ rfl (F19 5 rfl) (M13.blk (k:=1) rfl) (#[zI ((2*k:Nat):Int),.func (.func 105) #[] #[]]) (znb rfl) Tryz.underlying87 rfl (by kernel_rfl)) fun _ F20=>?_))))
 refine zh rfl rfl F20 rfl rfl (zE Tryz.func51 rfl) #[(zO g),.agg (#[zI ((2*k:Nat):Int),.func (.func 105) #[] #[]]),zN] (args3 (F20 20 rfl) (F20 21 rfl) rfl) (vwrite_any g V s n hv k h8 [] (zN) (Nat.zero_le _) ht w13 (zia _) (zpa _) (hr.grow M13.grown) (M13.blk (k:=0) rfl)) ?_
 rintro _ w21 a21 ⟨rfl,s21,n21,hr21,ht21,hc21,hg21⟩ F21
 have M21:=M13.put (k:=0) rfl hg21 hc21
 exact rm rfl F21 fun _ F22=>hK18 _ _ (wp_ret (bodyPost_ret (res1 rfl (F22.get rfl)) F22.defers ⟨_,rfl,rfl,s21,n21,hr21,(fun b hb=>(ht21 b hb).imp id (fun hb=>Nat.le_trans M13.le hb)),hc21,M13.grown.trans hg21⟩))
theorem put_dead (g:Nat) (V:VltN) (s n:Nat→Value) (hv:z1a V) (r:RecN) (Vr:RecV) (hd:V.dd=true) (w:World) (hR:RecIs w r Vr) (hRg:¬bfp Vr.v2 g∧¬bfp Vr.v5 g) (hr:RowsV w g V.c s n) (hg:w.heap[g]? = some (.cells (vltA V s n) 80 (0,0))):
  Calls Tryz.prog 22 #[(zO g),.agg (recA r Vr)] w fun e w'=>∃ t,e=.returned t∧t=zI 10∧∃ s' n',RowsV w' g (V).c s' n'∧(∀ b,zo 18 s' n' b→zo 18 s n b∨w.heap.size≤b)∧w'.heap[g]? = some (.cells (vltA (V) s' n') 80 (0,0))∧w.grownBy w' (some g):=by
 skip
 refine zk (args:=[(zO g),.agg (recA r Vr)]) 40 Tryz.func22 rfl rfl rfl ?_
 intro fa F
 have M:=Mx.theG hg 0
 refine zT fun _ hK1=>zq rfl rfl F rfl M 1 (t:=37) (c:=recA r Vr) (by unfold execOp;simp only [(F 1 rfl)];kernel_rfl) ?_
 intro g2 a2 w2 F2 M2
 refine rm rfl F2 fun _ F3=>hK1 _ _ (zSk fun _ hK4=>zT fun _ hK5=>zB 4 [(0,(zO g)),(3,(zO g2)),(4,zI 0),(11,(zP g 56))] [] dnil [] F3 fun _ F6=>?_)
 refine zc (w':=w2) rfl rfl F6 rfl (.bool true) (zda _ _ rfl (F6 11 rfl) (M2.blk (k:=0) rfl) (show _=some (Value.bool _) from by rw [←hd];rfl) Tryz.underlying4 rfl) fun _ F7=>?_
 refine hK5 _ _ (wp_cond_true (F7 12 rfl) (zT fun _ hK8=>rm rfl F7 fun _ F9=>hK8 _ _ (wp_ret ?_)))
 try simp only [Exit.then,Exit.inBlock,Exit.jump]
 exact bodyPost_ret (res1 rfl (F9.get rfl)) F9.defers ⟨_,rfl,rfl,s,n,hr.grow M2.grown,fun b h=>.inl h,M2.blk (k:=0) rfl,M2.grown⟩
theorem put_range (g:Nat) (V:VltN) (s n:Nat→Value) (hv:z1a V) (r:RecN) (Vr:RecV) (ho:RecOk r) (hd:V.dd=false) (l:List UInt8) (hrl:recE r=l) (hkeep:zga r=false) (w:World) (hR:RecIs w r Vr) (hRg:¬bfp Vr.v2 g∧¬bfp Vr.v5 g) (hr:RowsV w g V.c s n) (hg:w.heap[g]? = some (.cells (vltA V s n) 80 (0,0))):
  Calls Tryz.prog 22 #[(zO g),.agg (recA r Vr)] w fun e w'=>∃ t,e=.returned t∧t=zI 11∧∃ s' n',RowsV w' g (V).c s' n'∧(∀ b,zo 18 s' n' b→zo 18 s n b∨w.heap.size≤b)∧w'.heap[g]? = some (.cells (vltA (V) s' n') 80 (0,0))∧w.grownBy w' (some g):=by
 skip
 refine zk (args:=[(zO g),.agg (recA r Vr)]) 40 Tryz.func22 rfl rfl rfl ?_
 intro fa F
 have M:=Mx.theG hg 0
 have hkp:zga r=false:=hkeep
 refine zT fun _ hK1=>zq rfl rfl F rfl M 1 (t:=37) (c:=recA r Vr) (by unfold execOp;simp only [(F 1 rfl)];kernel_rfl) ?_
 intro g2 a2 w2 F2 M2
 refine rm rfl F2 fun _ F3=>hK1 _ _ (zSk fun _ hK4=>zT fun _ hK5=>zB 4 [(0,(zO g)),(3,(zO g2)),(4,zI 0),(11,(zP g 56))] [] dnil [] F3 fun _ F6=>?_)
 refine zc (w':=w2) rfl rfl F6 rfl (.bool false) (zda _ _ rfl (F6 11 rfl) (M2.blk (k:=0) rfl) (show _=some (Value.bool _) from by rw [←hd];rfl) Tryz.underlying4 rfl) fun _ F7=>?_
 refine hK5 _ _ (wp_cond_false (F7 12 rfl) (wp_skip (hK4 _ _ (zT fun _ hK8=>zc (w':=w2) rfl rfl F7 rfl _ (zjb _ _ rfl (F7 3 rfl) (M2.blk (k:=1) rfl) (recA r Vr) (znb rfl) Tryz.underlying37 rfl (by kernel_rfl)) fun _ F9=>?_))))
 refine zh rfl rfl F9 rfl rfl (zE Tryz.func48 rfl) #[.agg (recA r Vr)] (zaa (F9 14 rfl)) (rec_is r Vr ho false l hkp hrl w2 ⟨hR.h2.grow M2.grown hRg.1,hR.h5.grow M2.grown hRg.2⟩) ?_
 rintro _ w10 a10 ⟨v10,rfl,hv10,b10⟩ F10
 have M10:=M2.newO b10 2 hv10
 clear M2 b10 hv10
 obtain ⟨A10,c10,rfl⟩:=(M10.isO (k:=2) rfl).shape
 refine zB 5 [(0,(zO g)),(3,(zO g2)),(4,zI 0),(5,.slice A10 (l).length c10),(6,.bool false)] [] dnil [] F10 fun _ F11=>?_
 refine hK8 _ _ (zSk fun _ hK12=>zT fun _ hK13=>zAx 2 [(18,.bool false),(19,.bool true)] [] dnil [] F11 fun _ F14=>?_)
 refine hK13 _ _ (wp_cond_true (F14 19 rfl) (zT fun _ hK15=>rm rfl F14 fun _ F16=>hK15 _ _ (wp_ret ?_)))
 try simp only [Exit.then,Exit.inBlock,Exit.jump]
 exact bodyPost_ret (res1 rfl (F16.get rfl)) F16.defers ⟨_,rfl,rfl,s,n,hr.grow M10.grown,fun b h=>.inl h,M10.blk (k:=0) rfl,M10.grown⟩
theorem put_found (g:Nat) (V:VltN) (s n:Nat→Value) (hv:z1a V) (r:RecN) (Vr:RecV) (ho:RecOk r) (hd:V.dd=false) (l:List UInt8) (hrl:recE r=l) (hkeep:zga r=true) (hll:l.length≤1000) (k:Nat) (hk:fst8 (zz V r.s)=k) (h8:k<8) (ht:anyB zr V (2*k)=true → -9223372036854775808≤cntT V (2*k)∧cntT V (2*k)<9223372036854775807) (w:World) (hR:RecIs w r Vr) (hRg:¬bfp Vr.v2 g∧¬bfp Vr.v5 g) (hr:RowsV w g V.c s n) (hg:w.heap[g]? = some (.cells (vltA V s n) 80 (0,0))):
  Calls Tryz.prog 22 #[(zO g),.agg (recA r Vr)] w fun e w'=>∃ t,e=.returned t∧t=zI (if (sayW V (2*k) l).2=true then 0 else 10)∧∃ s' n',RowsV w' g ((sayW V (2*k) l).1).c s' n'∧(∀ b,zo 18 s' n' b→zo 18 s n b∨w.heap.size≤b)∧w'.heap[g]? = some (.cells (vltA ((sayW V (2*k) l).1) s' n') 80 (0,0))∧w.grownBy w' (some g):=by
 skip
 refine zk (args:=[(zO g),.agg (recA r Vr)]) 40 Tryz.func22 rfl rfl rfl ?_
 intro fa F
 have M:=Mx.theG hg 0
 have hkp:zga r=true:=hkeep
 refine zT fun _ hK1=>zq rfl rfl F rfl M 1 (t:=37) (c:=recA r Vr) (by unfold execOp;simp only [(F 1 rfl)];kernel_rfl) ?_
 intro g2 a2 w2 F2 M2
 refine rm rfl F2 fun _ F3=>hK1 _ _ (zSk fun _ hK4=>zT fun _ hK5=>zB 4 [(0,(zO g)),(3,(zO g2)),(4,zI 0),(11,(zP g 56))] [] dnil [] F3 fun _ F6=>?_)
 refine zc (w':=w2) rfl rfl F6 rfl (.bool false) (zda _ _ rfl (F6 11 rfl) (M2.blk (k:=0) rfl) (show _=some (Value.bool _) from by rw [←hd];rfl) Tryz.underlying4 rfl) fun _ F7=>?_
 refine hK5 _ _ (wp_cond_false (F7 12 rfl) (wp_skip (hK4 _ _ (zT fun _ hK8=>zc (w':=w2) rfl rfl F7 rfl _ (zjb _ _ rfl (F7 3 rfl) (M2.blk (k:=1) rfl) (recA r Vr) (znb rfl) Tryz.underlying37 rfl (by kernel_rfl)) fun _ F9=>?_))))
 refine zh rfl rfl F9 rfl rfl (zE Tryz.func48 rfl) #[.agg (recA r Vr)] (zaa (F9 14 rfl)) (rec_is r Vr ho true l hkp hrl w2 ⟨hR.h2.grow M2.grown hRg.1,hR.h5.grow M2.grown hRg.2⟩) ?_
 rintro _ w10 a10 ⟨v10,rfl,hv10,b10⟩ F10
 have M10:=M2.newO b10 2 hv10
 clear M2 b10 hv10
 obtain ⟨A10,c10,rfl⟩:=(M10.isO (k:=2) rfl).shape
 refine zB 5 [(0,(zO g)),(3,(zO g2)),(4,zI 0),(5,.slice A10 (l).length c10),(6,.bool true)] [] dnil [] F10 fun _ F11=>?_
 refine hK8 _ _ (zSk fun _ hK12=>zT fun _ hK13=>zAx 2 [(18,.bool true),(19,.bool false)] [] dnil [] F11 fun _ F14=>?_)
 refine hK13 _ _ (wp_cond_false (F14 19 rfl) (wp_skip (hK12 _ _ (zT fun _ hK15=>zAx 3 [(21,(zO g)),(22,(zP g2 1)),(23,.string r.s)] [0] (zu (M10.blk (k:=1) rfl) dnil) [g2] F14 fun _ F16=>?_))))
 refine zh rfl rfl F16 rfl rfl (zE Tryz.func49 rfl) #[(zO g),.string r.s] (zfa (F16 21 rfl) (F16 23 rfl)) (zba ((find_yes g V s n hv r.s k hk h8 w10 (HasV.of (M10.blk (k:=0) rfl) (hr.grow M10.grown))))) ?_
 rintro _ w17 a17 ⟨rfl,b17⟩ F17
 have M17:=M10.step b17
 refine rm rfl F17 fun _ F18=>zAx 2 [(25,.agg (#[zI ((2*k:Nat):Int),.func (.func 105) #[] #[]])),(26,.bool true)] [] dnil [] F18 fun _ F19=>?_
 refine zq rfl rfl F19 rfl M17 3 (t:=87) (c:=#[zI 0,.nilFunc]) (by unfold execOp;kernel_rfl) ?_
 intro g20 a20 w20 F20 M20
 refine zt rfl rfl F20 M20 (k:=3) rfl _ _ _ rfl (F20 7 rfl) (F20 25 rfl) (#[zI ((2*k:Nat):Int),.func (.func 105) #[] #[]]) _ rfl (zL rfl) (by first | rfl | simp [Value.oneCell']) (zca rfl) (by kernel_rfl) ?_
 intro w21 M21
 refine rm rfl F20 fun _ F22=>hK15 _ _ (zSk fun _ hK23=>zT fun _ hK24=>zAx 2 [(27,.bool true),(28,.bool false)] [] dnil [] F22 fun _ F25=>?_)
 refine hK24 _ _ (wp_cond_false (F25 28 rfl) (wp_skip (hK23 _ _ (zSk fun _ hK26=>zT fun _ hK27=>zAx 2 [(34,.bool true),(35,.bool false)] [] dnil [] F25 fun _ F28=>?_))))
 refine hK27 _ _ (wp_cond_false (F28 35 rfl) (wp_skip (hK26 _ _ (zT fun _ hK29=>rm rfl F28 fun _ F30=>zc (w':=w21) rfl rfl F30 rfl _ (zjb _ _ rfl (F30 7 rfl) (M21.blk (k:=3) rfl) (#[zI ((2*k:Nat):Int),.func (.func 105) #[] #[]]) (znb rfl) Tryz.underlying87 rfl (by kernel_rfl)) fun _ F31=>?_))))
 refine rm rfl F31 fun _ F32=>zh rfl rfl F32 rfl rfl (zE Tryz.func51 rfl) #[(zO g),.agg (#[zI ((2*k:Nat):Int),.func (.func 105) #[] #[]]),.slice A10 (l).length c10] (args3 (F32 36 rfl) (F32 37 rfl) (F32 38 rfl)) (vwrite_any g V s n hv k h8 l (.slice A10 (l).length c10) hll ht w21 (M21.isO (k:=2) rfl) (fun h=>M21.dis 0 2 _ _ rfl rfl (by decide) rfl g rfl (zta h)) (hr.grow M21.grown) (M21.blk (k:=0) rfl)) ?_
 rintro _ w33 a33 ⟨rfl,s33,n33,hr33,ht33,hc33,hg33⟩ F33
 have M33:=M21.put (k:=0) rfl hg33 hc33
 exact rm rfl F33 fun _ F34=>hK29 _ _ (wp_ret (bodyPost_ret (res1 rfl (F34.get rfl)) F34.defers ⟨_,rfl,rfl,s33,n33,hr33,(fun b hb=>(ht33 b hb).imp id (fun hb=>Nat.le_trans M21.le hb)),hc33,M21.grown.trans hg33⟩))
theorem put_none (g:Nat) (V:VltN) (s n:Nat→Value) (hv:z1a V) (r:RecN) (Vr:RecV) (ho:RecOk r) (hd:V.dd=false) (l:List UInt8) (hrl:recE r=l) (hkeep:zga r=true) (hk:fst8 (zz V r.s)=8) (hf:fst8 (fun i=>zxa V (2*i))=8) (w:World) (hR:RecIs w r Vr) (hRg:¬bfp Vr.v2 g∧¬bfp Vr.v5 g) (hr:RowsV w g V.c s n) (hg:w.heap[g]? = some (.cells (vltA V s n) 80 (0,0))):
  Calls Tryz.prog 22 #[(zO g),.agg (recA r Vr)] w fun e w'=>∃ t,e=.returned t∧t=zI 7∧∃ s' n',RowsV w' g (V).c s' n'∧(∀ b,zo 18 s' n' b→zo 18 s n b∨w.heap.size≤b)∧w'.heap[g]? = some (.cells (vltA (V) s' n') 80 (0,0))∧w.grownBy w' (some g):=by
 skip
 refine zk (args:=[(zO g),.agg (recA r Vr)]) 40 Tryz.func22 rfl rfl rfl ?_
 intro fa F
 have M:=Mx.theG hg 0
 have hkp:zga r=true:=hkeep
 refine zT fun _ hK1=>zq rfl rfl F rfl M 1 (t:=37) (c:=recA r Vr) (by unfold execOp;simp only [(F 1 rfl)];kernel_rfl) ?_
 intro g2 a2 w2 F2 M2
 refine rm rfl F2 fun _ F3=>hK1 _ _ (zSk fun _ hK4=>zT fun _ hK5=>zB 4 [(0,(zO g)),(3,(zO g2)),(4,zI 0),(11,(zP g 56))] [] dnil [] F3 fun _ F6=>?_)
 refine zc (w':=w2) rfl rfl F6 rfl (.bool false) (zda _ _ rfl (F6 11 rfl) (M2.blk (k:=0) rfl) (show _=some (Value.bool _) from by rw [←hd];rfl) Tryz.underlying4 rfl) fun _ F7=>?_
 refine hK5 _ _ (wp_cond_false (F7 12 rfl) (wp_skip (hK4 _ _ (zT fun _ hK8=>zc (w':=w2) rfl rfl F7 rfl _ (zjb _ _ rfl (F7 3 rfl) (M2.blk (k:=1) rfl) (recA r Vr) (znb rfl) Tryz.underlying37 rfl (by kernel_rfl)) fun _ F9=>?_))))
 refine zh rfl rfl F9 rfl rfl (zE Tryz.func48 rfl) #[.agg (recA r Vr)] (zaa (F9 14 rfl)) (rec_is r Vr ho true l hkp hrl w2 ⟨hR.h2.grow M2.grown hRg.1,hR.h5.grow M2.grown hRg.2⟩) ?_
 rintro _ w10 a10 ⟨v10,rfl,hv10,b10⟩ F10
 have M10:=M2.newO b10 2 hv10
 clear M2 b10 hv10
 obtain ⟨A10,c10,rfl⟩:=(M10.isO (k:=2) rfl).shape
 refine zB 5 [(0,(zO g)),(3,(zO g2)),(4,zI 0),(5,.slice A10 (l).length c10),(6,.bool true)] [] dnil [] F10 fun _ F11=>?_
 refine hK8 _ _ (zSk fun _ hK12=>zT fun _ hK13=>zAx 2 [(18,.bool true),(19,.bool false)] [] dnil [] F11 fun _ F14=>?_)
 refine hK13 _ _ (wp_cond_false (F14 19 rfl) (wp_skip (hK12 _ _ (zT fun _ hK15=>zAx 3 [(21,(zO g)),(22,(zP g2 1)),(23,.string r.s)] [0] (zu (M10.blk (k:=1) rfl) dnil) [g2] F14 fun _ F16=>?_))))
 refine zh rfl rfl F16 rfl rfl (zE Tryz.func49 rfl) #[(zO g),.string r.s] (zfa (F16 21 rfl) (F16 23 rfl)) (zba ((find_not g V s n hv r.s hk w10 (HasV.of (M10.blk (k:=0) rfl) (hr.grow M10.grown))))) ?_
 rintro _ w17 a17 ⟨rfl,b17⟩ F17
 have M17:=M10.step b17
 refine zB 3 [(0,(zO g)),(4,zI 0),(5,.slice A10 (l).length c10),(6,.bool true),(25,.agg (#[zI 0,.nilFunc])),(26,.bool false)] [] dnil [] F17 fun _ F18=>?_
 refine zq rfl rfl F18 rfl M17 3 (t:=87) (c:=#[zI 0,.nilFunc]) (by unfold execOp;kernel_rfl) ?_
 intro g19 a19 w19 F19 M19
 refine zt rfl rfl F19 M19 (k:=3) rfl _ _ _ rfl (F19 7 rfl) (F19 25 rfl) (#[zI 0,.nilFunc]) _ rfl (zL rfl) (by first | rfl | simp [Value.oneCell']) (zca rfl) (by kernel_rfl) ?_
 intro w20 M20
 refine rm rfl F19 fun _ F21=>hK15 _ _ (zSk fun _ hK22=>zT fun _ hK23=>zAx 2 [(27,.bool false),(28,.bool true)] [] dnil [] F21 fun _ F24=>?_)
 refine hK23 _ _ (wp_cond_true (F24 28 rfl) (zR (rm rfl F24 fun _ F25=>zh rfl rfl F25 rfl rfl (zE Tryz.func50 rfl) #[(zO g)] (zaa (F25 30 rfl)) (zba ((free_not g V s n hv hf w20 (HasV.of (M20.blk (k:=0) rfl) (hr.grow M20.grown))))) ?_)))
 rintro _ w26 a26 ⟨rfl,b26⟩ F26
 have M26:=M20.step b26
 refine zAx 3 [(29,.tuple #[.agg (#[zI 0,.nilFunc]),.bool false]),(32,.agg (#[zI 0,.nilFunc])),(33,.bool false)] [] dnil [] F26 fun _ F27=>?_
 refine zt rfl rfl F27 M26 (k:=3) rfl _ _ _ rfl (F27 7 rfl) (F27 32 rfl) (#[zI 0,.nilFunc]) _ rfl (zL rfl) (by first | rfl | simp [Value.oneCell']) (zca rfl) (by kernel_rfl) ?_
 intro w28 M28
 refine rm rfl F27 fun _ F29=>hK22 _ _ (zSk fun _ hK30=>zT fun _ hK31=>zAx 2 [(34,.bool false),(35,.bool true)] [] dnil [] F29 fun _ F32=>?_)
 refine hK31 _ _ (wp_cond_true (F32 35 rfl) (zT fun _ hK33=>rm rfl F32 fun _ F34=>hK33 _ _ (wp_ret ?_)))
 try simp only [Exit.then,Exit.inBlock,Exit.jump]
 exact bodyPost_ret (res1 rfl (F34.get rfl)) F34.defers ⟨_,rfl,rfl,s,n,hr.grow M28.grown,fun b h=>.inl h,M28.blk (k:=0) rfl,M28.grown⟩
theorem put_free (g:Nat) (V:VltN) (s n:Nat→Value) (hv:z1a V) (r:RecN) (Vr:RecV) (ho:RecOk r) (hd:V.dd=false) (l:List UInt8) (hrl:recE r=l) (hkeep:zga r=true) (hll:l.length≤1000) (hk:fst8 (zz V r.s)=8) (k:Nat) (hf:fst8 (fun i=>zxa V (2*i))=k) (h8:k<8) (ht:anyB zr V (2*k)=true → -9223372036854775808≤cntT V (2*k)∧cntT V (2*k)<9223372036854775807) (w:World) (hR:RecIs w r Vr) (hRg:¬bfp Vr.v2 g∧¬bfp Vr.v5 g) (hr:RowsV w g V.c s n) (hg:w.heap[g]? = some (.cells (vltA V s n) 80 (0,0))):
  Calls Tryz.prog 22 #[(zO g),.agg (recA r Vr)] w fun e w'=>∃ t,e=.returned t∧t=zI (if (sayW V (2*k) l).2=true then 0 else 10)∧∃ s' n',RowsV w' g ((sayW V (2*k) l).1).c s' n'∧(∀ b,zo 18 s' n' b→zo 18 s n b∨w.heap.size≤b)∧w'.heap[g]? = some (.cells (vltA ((sayW V (2*k) l).1) s' n') 80 (0,0))∧w.grownBy w' (some g):=by
 skip
 refine zk (args:=[(zO g),.agg (recA r Vr)]) 40 Tryz.func22 rfl rfl rfl ?_
 intro fa F
 have M:=Mx.theG hg 0
 have hkp:zga r=true:=hkeep
 refine zT fun _ hK1=>zq rfl rfl F rfl M 1 (t:=37) (c:=recA r Vr) (by unfold execOp;simp only [(F 1 rfl)];kernel_rfl) ?_
 intro g2 a2 w2 F2 M2
 refine rm rfl F2 fun _ F3=>hK1 _ _ (zSk fun _ hK4=>zT fun _ hK5=>zB 4 [(0,(zO g)),(3,(zO g2)),(4,zI 0),(11,(zP g 56))] [] dnil [] F3 fun _ F6=>?_)
 refine zc (w':=w2) rfl rfl F6 rfl (.bool false) (zda _ _ rfl (F6 11 rfl) (M2.blk (k:=0) rfl) (show _=some (Value.bool _) from by rw [←hd];rfl) Tryz.underlying4 rfl) fun _ F7=>?_
 refine hK5 _ _ (wp_cond_false (F7 12 rfl) (wp_skip (hK4 _ _ (zT fun _ hK8=>zc (w':=w2) rfl rfl F7 rfl _ (zjb _ _ rfl (F7 3 rfl) (M2.blk (k:=1) rfl) (recA r Vr) (znb rfl) Tryz.underlying37 rfl (by kernel_rfl)) fun _ F9=>?_))))
 refine zh rfl rfl F9 rfl rfl (zE Tryz.func48 rfl) #[.agg (recA r Vr)] (zaa (F9 14 rfl)) (rec_is r Vr ho true l hkp hrl w2 ⟨hR.h2.grow M2.grown hRg.1,hR.h5.grow M2.grown hRg.2⟩) ?_
 rintro _ w10 a10 ⟨v10,rfl,hv10,b10⟩ F10
 have M10:=M2.newO b10 2 hv10
 clear M2 b10 hv10
 obtain ⟨A10,c10,rfl⟩:=(M10.isO (k:=2) rfl).shape
 refine zB 5 [(0,(zO g)),(3,(zO g2)),(4,zI 0),(5,.slice A10 (l).length c10),(6,.bool true)] [] dnil [] F10 fun _ F11=>?_
 refine hK8 _ _ (zSk fun _ hK12=>zT fun _ hK13=>zAx 2 [(18,.bool true),(19,.bool false)] [] dnil [] F11 fun _ F14=>?_)
 refine hK13 _ _ (wp_cond_false (F14 19 rfl) (wp_skip (hK12 _ _ (zT fun _ hK15=>zAx 3 [(21,(zO g)),(22,(zP g2 1)),(23,.string r.s)] [0] (zu (M10.blk (k:=1) rfl) dnil) [g2] F14 fun _ F16=>?_))))
 refine zh rfl rfl F16 rfl rfl (zE Tryz.func49 rfl) #[(zO g),.string r.s] (zfa (F16 21 rfl) (F16 23 rfl)) (zba ((find_not g V s n hv r.s hk w10 (HasV.of (M10.blk (k:=0) rfl) (hr.grow M10.grown))))) ?_
 rintro _ w17 a17 ⟨rfl,b17⟩ F17
 have M17:=M10.step b17
 refine zB 3 [(0,(zO g)),(4,zI 0),(5,.slice A10 (l).length c10),(6,.bool true),(25,.agg (#[zI 0,.nilFunc])),(26,.bool false)] [] dnil [] F17 fun _ F18=>?_
 refine zq rfl rfl F18 rfl M17 3 (t:=87) (c:=#[zI 0,.nilFunc]) (by unfold execOp;kernel_rfl) ?_
 intro g19 a19 w19 F19 M19
 refine zt rfl rfl F19 M19 (k:=3) rfl _ _ _ rfl (F19 7 rfl) (F19 25 rfl) (#[zI 0,.nilFunc]) _ rfl (zL rfl) (by first | rfl | simp [Value.oneCell']) (zca rfl) (by kernel_rfl) ?_
 intro w20 M20
 refine rm rfl F19 fun _ F21=>hK15 _ _ (zSk fun _ hK22=>zT fun _ hK23=>zAx 2 [(27,.bool false),(28,.bool true)] [] dnil [] F21 fun _ F24=>?_)
 refine hK23 _ _ (wp_cond_true (F24 28 rfl) (zR (rm rfl F24 fun _ F25=>zh rfl rfl F25 rfl rfl (zE Tryz.func50 rfl) #[(zO g)] (zaa (F25 30 rfl)) (zba ((free_yes g V s n hv k hf h8 w20 (HasV.of (M20.blk (k:=0) rfl) (hr.grow M20.grown))))) ?_)))
 rintro _ w26 a26 ⟨rfl,b26⟩ F26
 have M26:=M20.step b26
 refine rm rfl F26 fun _ F27=>zAx 2 [(32,.agg (#[zI ((2*k:Nat):Int),.func (.func 105) #[] #[]])),(33,.bool true)] [] dnil [] F27 fun _ F28=>?_
 refine zt rfl rfl F28 M26 (k:=3) rfl _ _ _ rfl (F28 7 rfl) (F28 32 rfl) (#[zI ((2*k:Nat):Int),.func (.func 105) #[] #[]]) _ rfl (zL rfl) (by first | rfl | simp [Value.oneCell']) (zca rfl) (by kernel_rfl) ?_
 intro w29 M29
 refine rm rfl F28 fun _ F30=>hK22 _ _ (zSk fun _ hK31=>zT fun _ hK32=>zAx 2 [(34,.bool true),(35,.bool false)] [] dnil [] F30 fun _ F33=>?_)
 refine hK32 _ _ (wp_cond_false (F33 35 rfl) (wp_skip (hK31 _ _ (zT fun _ hK34=>rm rfl F33 fun _ F35=>zc (w':=w29) rfl rfl F35 rfl _ (zjb _ _ rfl (F35 7 rfl) (M29.blk (k:=3) rfl) (#[zI ((2*k:Nat):Int),.func (.func 105) #[] #[]]) (znb rfl) Tryz.underlying87 rfl (by kernel_rfl)) fun _ F36=>?_))))
 refine rm rfl F36 fun _ F37=>zh rfl rfl F37 rfl rfl (zE Tryz.func51 rfl) #[(zO g),.agg (#[zI ((2*k:Nat):Int),.func (.func 105) #[] #[]]),.slice A10 (l).length c10] (args3 (F37 36 rfl) (F37 37 rfl) (F37 38 rfl)) (vwrite_any g V s n hv k h8 l (.slice A10 (l).length c10) hll ht w29 (M29.isO (k:=2) rfl) (fun h=>M29.dis 0 2 _ _ rfl rfl (by decide) rfl g rfl (zta h)) (hr.grow M29.grown) (M29.blk (k:=0) rfl)) ?_
 rintro _ w38 a38 ⟨rfl,s38,n38,hr38,ht38,hc38,hg38⟩ F38
 have M38:=M29.put (k:=0) rfl hg38 hc38
 exact rm rfl F38 fun _ F39=>hK34 _ _ (wp_ret (bodyPost_ret (res1 rfl (F39.get rfl)) F39.defers ⟨_,rfl,rfl,s38,n38,hr38,(fun b hb=>(ht38 b hb).imp id (fun hb=>Nat.le_trans M29.le hb)),hc38,M29.grown.trans hg38⟩))
theorem vfail_any (g:Nat) (c:Nat→CelN) (fl:Bool) (lf:Int) (dd:Bool) (s n:Nat→Value) (z:Int) (w:World) (hg:w.heap[g]? = some (.cells (vltA ⟨c,fl,lf,dd⟩ s n) 80 (0,0))):
  Calls Tryz.prog 19 #[(zO g),zI z] w fun e w'=>∃ t,e=.returned t∧w'.heap[g]? = some (.cells (vltA ⟨c,decide (0≤z),z,dd⟩ s n) 80 (0,0))∧w.grownBy w' (some g):=by
 refine zk (args:=[(zO g),zI z]) 9 Tryz.func19 rfl rfl rfl ?_
 intro fa F
 have M:=Mx.theG hg 0
 refine zR (zB 4 [(6,(zO g)),(7,zI z)] [] dnil [] F fun _ F1=>?_)
 refine zh rfl rfl F1 rfl rfl (zE Tryz.func46 rfl) #[(zO g),zI z] (zfa (F1 6 rfl) (F1 7 rfl)) (dfail_any g c fl lf dd s n z w (M.blk (k:=0) rfl)) ?_
 rintro _ w2 a2 ⟨hc2,hg2⟩ F2
 have M2:=M.put (k:=0) rfl hg2 hc2
 clear M hg2 hc2
 refine wpList_nil ?_
 exact bodyPost_end (res0 rfl) F2.defers ⟨_,rfl,M2.blk (k:=0) rfl,M2.grown⟩
theorem vdead_any (g:Nat) (V:VltN) (s n:Nat→Value) (w:World) (h:HasV w g V s n):
  Calls Tryz.prog 32 #[(zO g)] w fun e w'=>e=.returned (.bool V.dd)∧Below w.heap.size w w':=by
 obtain ⟨dd,hd⟩:∃ x,V.dd=x:=⟨_,rfl⟩
 rw [hd]
 refine zk (args:=[(zO g)]) 8 Tryz.func32 rfl rfl rfl ?_
 intro fa F
 have M:=Mx.start w
 replace M:=M.argO 0 h.blk (fun b e=>by cases e)
 refine zT fun _ hK1=>rm rfl F fun _ F2=>hK1 _ _ (zT fun _ hK3=>zB 4 [(2,.bool false),(6,(zP g 56))] [] dnil [] F2 fun _ F4=>?_)
 refine zc (w':=w) rfl rfl F4 rfl (.bool dd) (zda _ _ rfl (F4 6 rfl) (M.roB (k:=0) rfl) (show _=some (Value.bool _) from by rw [←hd];rfl) Tryz.underlying4 rfl) fun _ F5=>?_
 exact rm rfl F5 fun _ F6=>hK3 _ _ (wp_ret (bodyPost_ret (res1 rfl (F6.get rfl)) F6.defers ⟨rfl,M.below⟩))
section
open Go.Shelf
theorem eightI_low {n:Nat} (h:n<256):zy (n:Int)=[0,0,0,0,0,0,0,zj (n:Int)]:=by
 have e:∀ j:Nat,j<7→zj ((n:Int) / 2^(8*(7-j)))=0:=fun j hj=>by
  have h1:((n:Int) / 2^(8*(7-j)))=0:=by
   apply Int.ediv_eq_zero_of_lt (by omega)
   have h2:2^8≤2^(8*(7-j)):=Nat.pow_le_pow_right (by omega) (by omega)
   have h3:((2^(8*(7-j)):Nat):Int)=(2:Int)^(8*(7-j)):=by simp
   omega
  rw [h1];rfl
 have e7:zj ((n:Int) / 2^(8*(7-7)))=zj (n:Int):=by simp
 unfold zy
 have hr:List.range 8=[0,1,2,3,4,5,6,7]:=rfl
 rw [hr]
 simp only [List.map_cons,List.map_nil]
 rw [e 0 (by omega),e 1 (by omega),e 2 (by omega),e 3 (by omega),e 4 (by omega),e 5 (by omega),e 6 (by omega),e7]
def CellOk (K:Nat) (b:List UInt8):Prop:=b.length≤280∧(∀ j,j<7→b.getD j 0=0)∧(b.getD 7 0).toNat≤K
def CelOk (K:Nat) (c:CelN):Prop:=CellOk K c.s∧CellOk K c.n
def InvV (K:Nat) (V:VltN):Prop:=∀ i,CelOk K (V.c i)
theorem CellOk.nil (K:Nat):CellOk K []:=⟨Nat.zero_le _,fun _ _=>rfl,Nat.zero_le _⟩
theorem CellOk.mono {K K':Nat} (h:K≤K') {b:List UInt8} (hb:CellOk K b):CellOk K' b:=⟨hb.1,hb.2.1,Nat.le_trans hb.2.2 h⟩
theorem CelOk.mono {K K':Nat} (h:K≤K') {c:CelN} (hb:CelOk K c):CelOk K' c:=⟨hb.1.mono h,hb.2.mono h⟩
theorem InvV.mono {K K':Nat} (h:K≤K') {V:VltN} (hb:InvV K V):InvV K' V:=fun i=>(hb i).mono h
theorem getD_torn {x y:List UInt8} {k:Nat} (hk:k≤x.length) (j:Nat):(x.take k++y.drop k).getD j 0=if j<k then x.getD j 0 else y.getD j 0:=by
 have hl:(x.take k).length=k:=by rw [List.length_take];omega
 simp only [List.getD_eq_getElem?_getD]
 by_cases h:j<k
 ·rw [if_pos h,List.getElem?_append_left (by omega),List.getElem?_take,if_pos h]
 ·rw [if_neg h,List.getElem?_append_right (by omega),hl,List.getElem?_drop,show k+(j-k)=j by omega]
theorem CellOk.torn {K:Nat} {x y:List UInt8} {k:Nat} (hk:k≤x.length) (hx:CellOk K x) (hy:CellOk K y):CellOk K (x.take k++y.drop k):=by
 refine ⟨?_,fun j hj=>?_,?_⟩
 ·have h1:=hx.1
  have h2:=hy.1
  rw [List.length_append,List.length_take,List.length_drop]
  omega
 ·rw [getD_torn hk]
  split
  ·exact hx.2.1 j hj
  ·exact hy.2.1 j hj
 ·rw [getD_torn hk]
  split
  ·exact hx.2.2
  ·exact hy.2.2
theorem take8_of {K:Nat} {b:List UInt8} (h:CellOk K b) (h8:8≤b.length):b.take 8=zy (((b.getD 7 0).toNat:Nat):Int):=by
 rw [eightI_low (UInt8.toNat_lt _)]
 have hb:zj (((b.getD 7 0).toNat:Nat):Int)=b.getD 7 0:=byteI_id _
 rw [hb]
 apply List.ext_getElem?
 intro j
 rw [List.getElem?_take]
 have hget:∀ i,i<8→b[i]? = some (b.getD i 0):=fun i hi=>by rw [List.getD_eq_getElem?_getD,List.getElem?_eq_getElem (by omega)];rfl
 by_cases hj:j<8
 ·rw [if_pos hj,hget j hj]
  match j,hj with
  | 0,_=>rw [h.2.1 0 (by omega)];rfl
  | 1,_=>rw [h.2.1 1 (by omega)];rfl
  | 2,_=>rw [h.2.1 2 (by omega)];rfl
  | 3,_=>rw [h.2.1 3 (by omega)];rfl
  | 4,_=>rw [h.2.1 4 (by omega)];rfl
  | 5,_=>rw [h.2.1 5 (by omega)];rfl
  | 6,_=>rw [h.2.1 6 (by omega)];rfl
  | 7,_=>rfl
  | k+8,hk=>exact absurd hk (by omega)
 ·rw [if_neg hj,List.getElem?_eq_none (by simp;omega)]
theorem turn_of {K:Nat} {b:List UInt8} (h:CellOk K b) (h8:8≤b.length):turnL b=(((b.getD 7 0).toNat:Nat):Int):=by
 have:=UInt8.toNat_lt (b.getD 7 0)
 unfold turnL
 rw [take8_of h h8,zzc (by omega) (by omega)]
theorem entT_bd {K:Nat} {b:List UInt8} (h:CellOk K b):0≤entT b∧entT b≤(K:Int):=by
 unfold entT
 split
 ·rw [turn_of h (by omega)]
  have:=h.2.2
  omega
 ·omega
theorem cnt_bd {K:Nat} {V:VltN} (h:InvV K V) (q:Nat):0≤cntT V q∧cntT V q≤(K:Int):=by
 unfold cntT
 split
 ·exact entT_bd (h (q+1)).1
 ·exact entT_bd (h q).1
theorem nxtT_bd {K:Nat} {V:VltN} (h:InvV K V) (q:Nat):1≤nxtT V q∧nxtT V q≤(K:Int)+1:=by
 have:=cnt_bd h q
 unfold nxtT
 split <;> omega
theorem said_ok {K p:Nat} {t:Int} {s:List UInt8} (h0:0≤t) (hK:t≤(K:Int)) (hk:K<256) (hs:s.length≤255):CellOk K (z7a zr p t s):=by
 obtain ⟨m,rfl⟩:∃ m:Nat,t=(m:Int):=⟨t.toNat,by omega⟩
 have h8:=saidL_take8 zr p (m:Int) s
 rw [eightI_low (by omega)] at h8
 have hg:∀ j,j<8→(z7a zr p (m:Int) s).getD j 0=([0,0,0,0,0,0,0,zj (m:Int)]:List UInt8).getD j 0:=fun j hj=>by
  rw [←h8]
  simp only [List.getD_eq_getElem?_getD,List.getElem?_take,if_pos hj]
 refine ⟨by rw [saidL_len zr sealH_len];omega,fun j hj=>?_,?_⟩
 ·rw [hg j (by omega)]
  match j,hj with
  | 0,_ | 1,_ | 2,_ | 3,_ | 4,_ | 5,_ | 6,_=>rfl
  | k+7,hk=>exact absurd hk (by omega)
 ·rw [hg 7 (by omega)]
  show (zj (m:Int)).toNat≤K
  rw [byteI_nat (by omega)];omega
theorem nxtP_in (V:VltN) (q:Nat):nxtP V q=q∨nxtP V q=q+1:=by
 unfold nxtP
 split
 ·rename_i h
  rcases cntP_in h with h | h <;> rw [h] <;> omega
 ·exact .inl rfl
theorem sayW_c (V:VltN) (q:Nat) (l:List UInt8):(∀ i,i≠nxtP V q→(sayW V q l).1.c i=V.c i) ∧
  ((sayW V q l).1.c (nxtP V q)=V.c (nxtP V q)∨(sayW V q l).1.c (nxtP V q)=⟨(V.c (nxtP V q)).s,z7a zr (nxtP V q) (nxtT V q) l,true⟩∨(sayW V q l).1.c (nxtP V q)=⟨z7a zr (nxtP V q) (nxtT V q) l,[],false⟩):=by
 unfold sayW wrtV
 split
 ·exact ⟨fun _ _=>rfl,.inl rfl⟩
 ·split
  ·refine ⟨fun i hi=>ztc _ _ hi,.inr (.inl (zec _ _ _))⟩
  ·refine ⟨fun i hi=>?_,.inr (.inr ?_)⟩
   ·show putC (putC V.c _ _) _ _ i=V.c i
    rw [ztc _ _ hi,ztc _ _ hi]
   ·show putC (putC V.c _ _) _ ⟨(putC V.c _ _ _).n,[],false⟩ _=_
    rw [zec,zec]
theorem sayW_inv {K:Nat} {V:VltN} (h:InvV K V) (hK:K<255) (q:Nat) {l:List UInt8} (hl:l.length≤255):InvV (K+1) (sayW V q l).1:=fun i=>by
 obtain ⟨h1,h2⟩:=sayW_c V q l
 by_cases hi:i=nxtP V q
 ·subst hi
  have hb:=nxtT_bd h q
  have hs:CellOk (K+1) (z7a zr (nxtP V q) (nxtT V q) l):=said_ok (by omega) (by omega) (by omega) hl
  rcases h2 with h2 | h2 | h2 <;> rw [h2]
  ·exact (h _).mono (by omega)
  ·exact ⟨(h _).1.mono (by omega),hs⟩
  ·exact ⟨hs,CellOk.nil _⟩
 ·rw [h1 i hi]
  exact (h i).mono (by omega)
theorem setl_inv {K:Nat} {V:VltN} (h:InvV K V) (x:Nat→Int) (m:Nat):InvV K (zac V x m):=fun i=>
 setC_all (p:=fun _ c=>CelOk K c) h (fun i k _ hk=>⟨CellOk.torn hk (h i).2 (h i).1,CellOk.nil _⟩) 18 i
theorem age_inv {K:Nat} {V:VltN} (h:InvV K V) (hK:K<255):InvV (K+1) (ageW V):=sayW_inv h hK 16 (by rw [zja];omega)
theorem zero_inv (K:Nat):InvV K zeroV:=fun i=>⟨CellOk.nil K,CellOk.nil K⟩
theorem z7b {K:Nat} {V:VltN} (h:InvV K V):z1a V:=fun i hi=>⟨by have:=(h i).1.1;omega,by have:=(h i).2.1;omega⟩
theorem inv_turn {K:Nat} {V:VltN} (h:InvV K V) (hK:K<256) (q:Nat):anyB zr V q=true → -9223372036854775808≤cntT V q∧cntT V q<9223372036854775807:=fun _=>by
 have:=cnt_bd h q;omega
theorem pair_eq {V V':VltN} {q:Nat} (h1:(V'.c q).s=(V.c q).s) (h2:(V'.c (q+1)).s=(V.c (q+1)).s):anyB zr V' q=anyB zr V q∧cntS V' q=cntS V q∧cntT V' q=cntT V q∧cntP V' q=cntP V q:=by
 have hs:secB zr V' q=secB zr V q:=by unfold secB;rw [h1,h2]
 refine ⟨by unfold anyB;rw [hs,h1],by unfold cntS;rw [hs,h1,h2],by unfold cntT;rw [hs,h1,h2],by unfold cntP;rw [hs,h1,h2]⟩
theorem said_eq {V V':VltN} {q:Nat} (h:anyB zr V' q=anyB zr V q∧cntS V' q=cntS V q∧cntT V' q=cntT V q∧cntP V' q=cntP V q):zfc V' q=zfc V q∧z0a V' q=z0a V q∧zxa V' q=zxa V q∧numB V' q=numB V q∧zic V' q=zic V q:=by
 obtain ⟨h1,h2,-,-⟩:=h
 refine ⟨by unfold zfc;rw [h1,h2],by unfold z0a;rw [h1,h2],by unfold zxa;rw [h1,h2],by unfold numB;rw [h1,h2],by unfold zic;rw [h1,h2]⟩
theorem sayW_other (V:VltN) {q q':Nat} (l:List UInt8) (h:q'+1<q∨q+1<q'):(sayW V q l).1.c q'=V.c q'∧(sayW V q l).1.c (q'+1)=V.c (q'+1):=by
 have h1:=(sayW_c V q l).1
 have hp:=nxtP_in V q
 exact ⟨h1 _ (by omega),h1 _ (by omega)⟩
theorem sayW_pair (V:VltN) {q q':Nat} (l:List UInt8) (h:q'+1<q∨q+1<q'):anyB zr (sayW V q l).1 q'=anyB zr V q'∧cntS (sayW V q l).1 q'=cntS V q'∧cntT (sayW V q l).1 q'=cntT V q'∧cntP (sayW V q l).1 q'=cntP V q':=by
 obtain ⟨h1,h2⟩:=sayW_other V l h
 exact pair_eq (by rw [h1]) (by rw [h2])
theorem sayW_live {V:VltN} (q:Nat) (l:List UInt8) (hf:V.fl=false):(sayW V q l).2=true∧(sayW V q l).1.fl=false∧(sayW V q l).1.dd=V.dd∧(sayW V q l).1.c (nxtP V q)=⟨z7a zr (nxtP V q) (nxtT V q) l,[],false⟩:=by
 unfold sayW wrtV
 rw [if_neg (by unfold zpc;rw [hf];simp),if_neg (by unfold zpc zkc;rw [hf];simp)]
 refine ⟨rfl,hf,rfl,?_⟩
 show putC (putC V.c _ _) _ ⟨(putC V.c _ _ _).n,[],false⟩ _=_
 rw [zec,zec]
theorem sayW_fl (V:VltN) (q:Nat) (l:List UInt8):(sayW V q l).1.fl=V.fl:=by
 unfold sayW wrtV
 split
 ·rfl
 ·split <;> rfl
theorem wrote {K:Nat} {V V':VltN} {q:Nat} {l:List UInt8} (h:InvV K V) (hK:K<255) (hp:(V'.c (nxtP V q)).s=z7a zr (nxtP V q) (nxtT V q) l) (ho:∀ i,i≠nxtP V q→(V'.c i).s=(V.c i).s):anyB zr V' q=true∧cntS V' q=l:=by
 have hb:=nxtT_bd h q
 have hcb:=cnt_bd h q
 have hgood:zob zr (nxtP V q) (z7a zr (nxtP V q) (nxtT V q) l)=true:=good_said zr sealH_len _ (by omega) (by omega) _
 have hturn:turnL (z7a zr (nxtP V q) (nxtT V q) l)=nxtT V q:=saidL_turn zr _ (by omega) (by omega) _
 have hlen:25≤(z7a zr (nxtP V q) (nxtT V q) l).length:=by rw [saidL_len zr sealH_len];omega
 have hents:entS (z7a zr (nxtP V q) (nxtT V q) l)=l:=by unfold entS;rw [if_pos hlen,saidL_says zr sealH_len]
 by_cases hA:anyB zr V q=true
 ·by_cases hs:secB zr V q=true
  ·-- the second counts: the first is written
   have hP:nxtP V q=q:=by
    have:cntP V q=q+1:=by
     unfold cntP
     rw [if_pos hs]
     have:zob zr (q+1) (V.c (q+1)).s=true:=by unfold secB at hs;simp only [Bool.and_eq_true] at hs;exact hs.1
     exact if_pos (good_ge this)
    unfold nxtP
    rw [if_pos hA,this];omega
   have hT:nxtT V q=turnL (V.c (q+1)).s+1:=by
    have hg:zob zr (q+1) (V.c (q+1)).s=true:=by unfold secB at hs;simp only [Bool.and_eq_true] at hs;exact hs.1
    unfold nxtT cntT
    rw [if_pos hA,if_pos hs,show entT (V.c (q+1)).s=turnL (V.c (q+1)).s from if_pos (good_ge hg)]
   rw [hP] at hp hgood hturn hents ho
   have h2:(V'.c (q+1)).s=(V.c (q+1)).s:=ho _ (by omega)
   have hs2:secB zr V' q=false:=by
    unfold secB
    rw [h2,hp,hgood,hturn,hT]
    simp
    intro _
    omega
   refine ⟨by unfold anyB;rw [hs2,hp,hgood];rfl,by unfold cntS;rw [hs2,hp];exact hents⟩
  ·have hs:secB zr V q=false:=by simpa using hs
   have hg:zob zr q (V.c q).s=true:=by unfold anyB at hA;rw [hs] at hA;simpa using hA
   have hP:nxtP V q=q+1:=by
    have:cntP V q=q:=by
     unfold cntP
     rw [if_neg (by rw [hs];exact Bool.false_ne_true)]
     exact if_pos (good_ge hg)
    unfold nxtP
    rw [if_pos hA,this];omega
   have hT:nxtT V q=turnL (V.c q).s+1:=by
    unfold nxtT cntT
    rw [if_pos hA,if_neg (by rw [hs];exact Bool.false_ne_true),show entT (V.c q).s=turnL (V.c q).s from if_pos (good_ge hg)]
   rw [hP] at hp hgood hturn hents ho
   have h2:(V'.c q).s=(V.c q).s:=ho _ (by omega)
   have hs2:secB zr V' q=true:=by
    unfold secB
    rw [h2,hp,hgood,hturn,hT,hg]
    simp
    omega
   refine ⟨by unfold anyB;rw [hs2];rfl,by unfold cntS;rw [hs2,hp];exact hents⟩
 ·have hA:anyB zr V q=false:=by simpa using hA
  have hs:secB zr V q=false:=by unfold anyB at hA;simp only [Bool.or_eq_false_iff] at hA;exact hA.1
  have hg:zob zr q (V.c q).s=false:=by unfold anyB at hA;simp only [Bool.or_eq_false_iff] at hA;exact hA.2
  have hg2:zob zr (q+1) (V.c (q+1)).s=false:=by
   unfold secB at hs
   rw [hg] at hs
   simpa using hs
  have hP:nxtP V q=q:=by unfold nxtP;rw [if_neg (by rw [hA];exact Bool.false_ne_true)]
  rw [hP] at hp hgood hturn hents ho
  have h2:(V'.c (q+1)).s=(V.c (q+1)).s:=ho _ (by omega)
  have hs2:secB zr V' q=false:=by unfold secB;rw [h2,hg2];rfl
  refine ⟨by unfold anyB;rw [hs2,hp,hgood];rfl,by unfold cntS;rw [hs2,hp];exact hents⟩
theorem say_says {K:Nat} {V:VltN} (h:InvV K V) (hK:K<255) (q:Nat) (l:List UInt8) (hf:V.fl=false):anyB zr (sayW V q l).1 q=true∧cntS (sayW V q l).1 q=l:=
 wrote h hK (by rw [(sayW_live q l hf).2.2.2]) (fun i hi=>by rw [(sayW_c V q l).1 i hi])
/-! The era. -/
def EraV (V:VltN) (e:Int):Prop:=(V.c 16).f=false∧(V.c 17).f=false∧anyB zr V 16=true∧zic V 16=e
theorem era_num {K:Nat} {V:VltN} (h:InvV K V) (hK:K<255) {e:Int} (he:zic V 16=e) (h0:0≤e) (h1:e<1000) (hf:V.fl=false) (h16:(V.c 16).f=false) (h17:(V.c 17).f=false):EraV (ageW V) (e+1):=by
 obtain ⟨ha,hc⟩:=say_says h hK 16 (zy (zic V 16+1)) hf
 obtain ⟨h1',h2',h3',h4'⟩:=sayW_live 16 (zy (zic V 16+1)) hf
 have hfr:∀ i,(V.c i).f=false→((ageW V).c i).f=false:=fun i hi=>by
  by_cases e:i=nxtP V 16
  ·subst e;unfold ageW;rw [h4']
  ·unfold ageW;rw [(sayW_c V 16 _).1 i e];exact hi
 refine ⟨hfr 16 h16,hfr 17 h17,ha,?_⟩
 unfold zic
 rw [if_pos (show anyB zr (ageW V) 16=true from ha),show cntS (ageW V) 16=zy (zic V 16+1) from hc,he]
 exact zzc (by omega) (by omega)
theorem era_say {V:VltN} {e:Int} (h:EraV V e) {q:Nat} (hq:q+1<16) (l:List UInt8):EraV (sayW V q l).1 e:=by
 obtain ⟨h1,h2⟩:=sayW_other V (q':=16) l (.inr hq)
 have hp:=sayW_pair V (q':=16) l (.inr hq)
 refine ⟨by rw [h1];exact h.1,by rw [h2];exact h.2.1,by rw [hp.1];exact h.2.2.1,by rw [(said_eq hp).2.2.2.2];exact h.2.2.2⟩
theorem setC_unf {c:Nat→CelN} {x:Nat→Int} {m:Nat} {i:Nat} (hi:(c i).f=false):∀ j,setC c x m j i=c i
 | 0=>rfl
 | j+1=>by
  unfold setC
  split
  ·rename_i hf
   rw [ztc _ _ (fun e=>by subst e;rw [hi] at hf;cases hf)]
   exact setC_unf hi j
  ·exact setC_unf hi j
theorem era_setl {V:VltN} {e:Int} (h:EraV V e) (x:Nat→Int) (m:Nat):EraV (zac V x m) e:=by
 have h1:(zac V x m).c 16=V.c 16:=setC_unf h.1 18
 have h2:(zac V x m).c 17=V.c 17:=setC_unf h.2.1 18
 have hp:=pair_eq (V:=V) (V':=zac V x m) (q:=16) (by rw [h1]) (by rw [h2])
 refine ⟨by rw [h1];exact h.1,by rw [h2];exact h.2.1,by rw [hp.1];exact h.2.2.1,by rw [(said_eq hp).2.2.2.2];exact h.2.2.2⟩
theorem age_fl (V:VltN):(ageW V).fl=V.fl:=sayW_fl V 16 _
theorem age_dd {V:VltN} (hf:V.fl=false):(ageW V).dd=V.dd:=(sayW_live 16 _ hf).2.2.1
theorem again_is {K:Nat} {V:VltN} (h:InvV K V) (hK:K<255) {e:Int} (he:EraV V e) (h0:0≤e) (h1:e<1000) (x:Nat→Int) (m:Nat):EraV (ageW (zac V x m)) (e+1)∧InvV (K+1) (ageW (zac V x m))∧(ageW (zac V x m)).fl=false∧(ageW (zac V x m)).dd=false:=by
 have hs:=era_setl he x m
 exact ⟨era_num (setl_inv h x m) hK hs.2.2.2 h0 h1 rfl hs.1 hs.2.1,age_inv (setl_inv h x m) hK,age_fl _,age_dd rfl⟩
theorem new_is:EraV (ageW zeroV) 1∧InvV 1 (ageW zeroV)∧(ageW zeroV).fl=false∧(ageW zeroV).dd=false:=
 ⟨era_num (zero_inv 0) (by omega) num0 (by omega) (by omega) rfl rfl rfl,age_inv (zero_inv 0) (by omega),age_fl _,age_dd rfl⟩
theorem era_bd {V:VltN} {e:Int} (h:EraV V e) (h0:0≤e) (h1:e<1000):-9223372036854775808≤zic V 16∧zic V 16<9223372036854775807:=by rw [h.2.2.2];omega
noncomputable def putV (V:VltN) (r:RecN):VltN×Int:=
 if V.dd=true then (V,10) else if zga r=false then (V,11) else
 if fst8 (zz V r.s)<8 then ((sayW V (2*fst8 (zz V r.s)) (recE r)).1,if (sayW V (2*fst8 (zz V r.s)) (recE r)).2=true then 0 else 10) else
 if fst8 (fun i=>zxa V (2*i))<8 then ((sayW V (2*fst8 (fun i=>zxa V (2*i))) (recE r)).1,if (sayW V (2*fst8 (fun i=>zxa V (2*i))) (recE r)).2=true then 0 else 10) else (V,7)
noncomputable def goneV (V:VltN) (nm:ByteArray):VltN×Int:=
 if V.dd=true then (V,10) else
 if fst8 (zz V nm)<8 then ((sayW V (2*fst8 (zz V nm)) []).1,if (sayW V (2*fst8 (zz V nm)) []).2=true then 0 else 10) else (V,3)
theorem fst8_le (p:Nat→Bool):fst8 p≤8:=by rcases fst8_spec p with ⟨h,_⟩ | ⟨h,_⟩ <;> omega
theorem recE_bd (r:RecN):(recE r).length≤200:=by
 unfold recE
 split
 ·rename_i h
  obtain ⟨h1,h2,h3⟩:=keep_len h
  rw [recL_is]
  have ha:(zbb r.a).length=4:=z8c _
  have hb:(zbb r.b).length=4:=z8c _
  have hc:(zy r.c).length=8:=zja _
  have hd:(zy r.z).length=8:=zja _
  simp only [List.length_cons,List.length_append]
  omega
 ·simp
theorem put_any {K:Nat} (g:Nat) (V:VltN) (s n:Nat→Value) (r:RecN) (Vr:RecV) (ho:RecOk r) (hi:InvV K V) (hK:K<256) (w:World) (hR:RecIs w r Vr) (hRg:¬bfp Vr.v2 g∧¬bfp Vr.v5 g) (hr:RowsV w g V.c s n) (hg:w.heap[g]? = some (.cells (vltA V s n) 80 (0,0))):
  Calls Tryz.prog 22 #[(zO g),.agg (recA r Vr)] w fun e w'=>∃ t,e=.returned t∧t=zI (putV V r).2∧∃ s' n',RowsV w' g (putV V r).1.c s' n'∧(∀ b,zo 18 s' n' b→zo 18 s n b∨w.heap.size≤b)∧w'.heap[g]? = some (.cells (vltA (putV V r).1 s' n') 80 (0,0))∧w.grownBy w' (some g):=by
 have hv:=z7b hi
 unfold putV
 cases hd:V.dd with
 | true=>exact put_dead g V s n hv r Vr hd w hR hRg hr hg
 | false=>
  rw [if_neg Bool.false_ne_true]
  cases hk:zga r with
  | false=>exact put_range g V s n hv r Vr ho hd (recE r) rfl hk w hR hRg hr hg
  | true=>
   rw [if_neg (fun h=>Bool.noConfusion h)]
   by_cases h1:fst8 (zz V r.s)<8
   ·rw [if_pos h1]
    exact put_found g V s n hv r Vr ho hd (recE r) rfl hk (by have:=recE_bd r;omega) _ rfl h1 (inv_turn hi hK _) w hR hRg hr hg
   ·have h8:fst8 (zz V r.s)=8:=by have:=fst8_le (zz V r.s);omega
    rw [if_neg h1]
    by_cases h2:fst8 (fun i=>zxa V (2*i))<8
    ·rw [if_pos h2]
     exact put_free g V s n hv r Vr ho hd (recE r) rfl hk (by have:=recE_bd r;omega) h8 _ rfl h2 (inv_turn hi hK _) w hR hRg hr hg
    ·rw [if_neg h2]
     exact put_none g V s n hv r Vr ho hd (recE r) rfl hk h8 (by have:=fst8_le (fun i=>zxa V (2*i));omega) w hR hRg hr hg
theorem gone_any {K:Nat} (g:Nat) (V:VltN) (s n:Nat→Value) (nm:ByteArray) (hi:InvV K V) (hK:K<256) (w:World) (hr:RowsV w g V.c s n) (hg:w.heap[g]? = some (.cells (vltA V s n) 80 (0,0))):
  Calls Tryz.prog 27 #[(zO g),.string nm] w fun e w'=>∃ t,e=.returned t∧t=zI (goneV V nm).2∧∃ s' n',RowsV w' g (goneV V nm).1.c s' n'∧(∀ b,zo 18 s' n' b→zo 18 s n b∨w.heap.size≤b)∧w'.heap[g]? = some (.cells (vltA (goneV V nm).1 s' n') 80 (0,0))∧w.grownBy w' (some g):=by
 have hv:=z7b hi
 unfold goneV
 cases hd:V.dd with
 | true=>exact gone_dead g V s n hv nm hd w hr hg
 | false=>
  rw [if_neg Bool.false_ne_true]
  by_cases h1:fst8 (zz V nm)<8
  ·rw [if_pos h1]
   exact gone_yes g V s n hv nm hd _ rfl h1 (inv_turn hi hK _) w hr hg
  ·rw [if_neg h1]
   exact gone_not g V s n hv nm hd (by have:=fst8_le (zz V nm);omega) w hr hg
theorem say_keep {K:Nat} {V:VltN} {e:Int} (hi:InvV K V) (hK:K<255) (he:EraV V e) {k:Nat} (hk:k<8) {l:List UInt8} (hl:l.length≤255):InvV (K+1) (sayW V (2*k) l).1∧EraV (sayW V (2*k) l).1 e:=
 ⟨sayW_inv hi hK _ hl,era_say he (by omega) l⟩
theorem put_keep {K:Nat} {V:VltN} {e:Int} (hi:InvV K V) (hK:K<255) (he:EraV V e) (r:RecN):InvV (K+1) (putV V r).1∧EraV (putV V r).1 e:=by
 have hl:=recE_bd r
 unfold putV
 split
 ·exact ⟨hi.mono (by omega),he⟩
 ·split
  ·exact ⟨hi.mono (by omega),he⟩
  ·split
   ·rename_i h;exact say_keep hi hK he h (by omega)
   ·split
    ·rename_i h;exact say_keep hi hK he h (by omega)
    ·exact ⟨hi.mono (by omega),he⟩
end
theorem rnum6_any (l:List UInt8) (v:Value) (hl:8≤l.length) (w:World) (hv:IsB w l v):
  Calls Tryz.prog 68 #[v] w fun e w'=>e=.returned (zI (numR l))∧Below w.heap.size w w':=by
 refine zk (args:=[v]) 18 Tryz.func68 rfl rfl rfl ?_
 intro fa F
 have M:=Mx.start w
 replace M:=M.argB 0 hv (fun g e=>by cases e)
 refine zT fun _ hK1=>rm rfl F fun _ F2=>hK1 _ _ (zT fun _ hK3=>rm rfl F2 fun _ F4=>hK3 _ _ (zSk fun _ hK5=>zT fun _ hK6=>rm rfl F4 fun _ F7=>hK6 _ _ (wp_block (zeb (α:=Nat) (n:=18) (G:=none) (w0:=w) (fun x=>[(0,v),(2,zI 0),(4,zI (x:Int)),(3,zI (numP l x))]) (fun x=>[(0,bytR l v)]) (fun k x=>k=8-x∧(x≤8)) _ 0 ⟨rfl,(Nat.zero_le _)⟩ (F7.sb) (M.sb) ?_))))
 rintro k8 jn a8 w8 K8 ⟨ek8,I8⟩ F8 M8 hK8
 replace F8:Fx 18 a8 [(0,v),(2,zI 0),(4,zI (jn:Int)),(3,zI (numP l jn))]:=F8
 replace M8:Mx _ _ w8 [(0,bytR l v)]:=M8
 replace I8:jn≤8:=I8
 replace ek8:k8=8-jn:=ek8
 by_cases h8:jn<8
 ·have hlt:jn<l.length:=by omega
  obtain ⟨x,hx⟩:∃ x,l[jn]? = some x:=⟨_,List.getElem?_eq_getElem hlt⟩
  have hnx:=numP_next hx
  refine zSk fun _ hK9=>zT fun _ hK10=>rm rfl F8 fun _ F11=>zc (w':=w8) rfl rfl F11 rfl (.bool true) (zka _ _ _ _ rfl (F11 5 rfl) rfl (decide_eq_true (show (jn:Int)<8 by omega))) fun _ F12=>?_
  refine hK10 _ _ (wp_cond_true (F12 6 rfl) (wp_skip (hK9 _ _ (zSk fun _ hK13=>wp_block (zR (rm rfl F12 fun _ F14=>zc (w':=w8) rfl rfl F14 rfl (zI (IntKind.i64.wrap (numP l jn*2^(8:Int).toNat))) (y_shlI _ _ _ _ rfl (F14 9 rfl) rfl (by decide) rfl) fun _ F15=>?_))))))
  refine rm rfl F15 fun _ F16=>rm rfl F16 fun _ F17=>zc (w':=w8) rfl rfl F17 rfl ((ixV (v) jn)) (y_ixB _ _ rfl (F17 11 rfl) (M8.isb (k:=0) rfl) (F17 12 rfl) rfl hlt) fun _ F18=>?_
  refine zc (w':=w8) rfl rfl F18 rfl (zY ((x.toNat:Nat):Int)) (y_ldB _ rfl (F18 13 rfl) (M8.isb (k:=0) rfl) hx rfl) fun _ F19=>?_
  refine zc (w':=w8) rfl rfl F19 rfl (zI ((x.toNat:Nat):Int)) (y_cvI _ _ _ rfl (F19 14 rfl) Tryz.underlying5 Tryz.underlying3 (byte_i64 _)) fun _ F20=>?_
  refine zc (w':=w8) rfl rfl F20 rfl (zI (numP l (jn+1))) (y_orU _ _ _ _ rfl (F20 10 rfl) (F20 15 rfl) hnx) fun _ F21=>?_
  refine rm rfl F21 fun _ F22=>hK13 _ _ (zR (rm rfl F22 fun _ F23=>zc (w':=w8) rfl rfl F23 rfl (zI ((jn+1:Nat):Int)) (zoa _ _ _ _ rfl (F23 7 rfl) rfl (by omega) (by omega)) fun _ F24=>?_))
  refine rm rfl F24 fun _ F25=>?_
  subst ek8
  exact hK8 _ (jn+1) _ _ (by omega) ⟨rfl,(by omega)⟩ (F25.sb) (M8.sb)
 ·refine zSk fun _ hK26=>zT fun _ hK27=>rm rfl F8 fun _ F28=>zc (w':=w8) rfl rfl F28 rfl (.bool false) (zka _ _ _ _ rfl (F28 5 rfl) rfl (decide_eq_false (show ¬(jn:Int)<8 by omega))) fun _ F29=>?_
  refine hK27 _ _ (wp_cond_false (F29 6 rfl) (wp_exit ?_))
  simp only [Exit.then,Exit.inBlock,↓reduceIte,Nat.reduceEqDiff]
  refine hK5 _ _ (zT fun _ hK30=>rm rfl F29 fun _ F31=>?_)
  exact rm rfl F31 fun _ F32=>hK30 _ _ (wp_ret (bodyPost_ret (res1 rfl (F32.get rfl)) F32.defers ⟨by rw [show numR l=numP l jn from by rw [show jn=8 by omega];rfl],M8.below⟩))
theorem str_q {l r:List UInt8} {q:Bool} (h:decide (l=r)=q):decide ((⟨l.toArray⟩:ByteArray).toList=(⟨r.toArray⟩:ByteArray).toList)=q:=by rw [mk_toList,mk_toList];exact h
theorem res3 {P:Program} {fn:Func} {t u r:Tmp} {a:Act} {v x y:Value} {w:World} (h:fn.results=#[.tmp t,.tmp u,.tmp r]) (e:a.eval (.tmp t)=v) (e2:a.eval (.tmp u)=x) (e3:a.eval (.tmp r)=y):(results fn a.tmps).run P w=.ok (.tuple #[v,x,y]) w:=by
 have h3:(results fn a.tmps).run P w=.ok (.tuple #[a.tmps.getD t undef,a.tmps.getD u undef,a.tmps.getD r undef]) w:=by simp [results,h]
 rw [h3,←e,←e2,←e3];rfl
theorem numR_of {K:Nat} {b:List UInt8} (h:CellOk K b) (h8:8≤b.length):numR b=(((b.getD 7 0).toNat:Nat):Int)∧numOk (b.take 8)=true:=by
 have:=UInt8.toNat_lt (b.getD 7 0)
 have hn:numOk (b.take 8)=true:=by rw [take8_of h h8];exact numOk_eight (by omega) (by omega)
 have e:numR b=numR (b.take 8):=by unfold numR;rw [List.take_take,Nat.min_self]
 exact ⟨by rw [e,numR_I hn];exact turn_of h h8,hn⟩
theorem good_no {K p:Nat} {b:List UInt8} (h:CellOk K b) (h25:25≤b.length) (hx:¬(((b.getD 8 0).toNat:Nat):Int)+25=(b.length:Int)):zob zr p b=false:=by
 rw [←good_eq zr (by have:=h.1;omega) (numR_of h (by omega)).2]
 unfold goodR
 rw [decide_eq_false hx,Bool.and_false,Bool.false_and]
theorem good_at {K p:Nat} {b:List UInt8} (h:CellOk K b) (h25:25≤b.length):zob zr p b=decide (z7a zr p (((b.getD 7 0).toNat:Nat):Int) (saysL b)=b):=by
 rw [good_long h25,turn_of h (by omega)]
theorem rgood_any {K:Nat} (p:Nat) (hp:p<18) (b:List UInt8) (bv:Value) (hK:CellOk K b) (w:World) (hB:IsB w b bv):
  Calls Tryz.prog 92 #[zI (p:Int),bv] w fun e w'=>∃ n S L,e=.returned (.tuple #[zI n,S,.bool (zob zr p b)])∧IsB w L S∧(∀ g,bfp S g→bfp bv g)∧(zob zr p b=true→n=entT b∧L=entS b)∧Below w.heap.size w w':=by
 obtain ⟨Ab,cb,rfl⟩:=hB.shape
 have h280:=hK.1
 by_cases h25:25≤b.length
 ·have hlt8:8<b.length:=by omega
  obtain ⟨x8,hx8⟩:∃ x,b[8]? = some x:=⟨_,List.getElem?_eq_getElem hlt8⟩
  have hg8:b.getD 8 0=x8:=by rw [List.getD_eq_getElem?_getD,hx8];rfl
  have hx8b:=x8.toNat_lt
  by_cases h8:((x8.toNat:Nat):Int)+25=(b.length:Int)
  ·obtain ⟨E,hE⟩:∃ E,b.length-16=E:=⟨_,rfl⟩
   obtain ⟨T,hT⟩:∃ x:Nat,(b.getD 7 0).toNat=x:=⟨_,rfl⟩
   have hT8:T<256:=by rw [←hT];exact UInt8.toNat_lt _
   have hs:saysL b=((b.drop 9).take (E-9)):=by unfold saysL;rw [hE,List.drop_take]
   obtain ⟨qG,hG⟩:∃ x,decide (z7a zr p (T:Int) ((b.drop 9).take (E-9))=b)=x:=⟨_,rfl⟩
   have hgd:zob zr p b=qG:=by rw [good_at hK h25,hT,hs,hG]
   have heT:entT b=(T:Int):=(if_pos h25).trans ((turn_of hK (by omega)).trans (by rw [hT]))
   have heS:entS b=((b.drop 9).take (E-9)):=(if_pos h25).trans hs
   rw [hgd,heT,heS]
   have hnR:numR b=(T:Int):=by rw [(numR_of hK (by omega)).1,hT]
   have hl9:((b.drop 9).take (E-9)).length≤1000:=by rw [List.length_take,List.length_drop];omega
   refine zk (args:=[zI (p:Int),.slice Ab b.length cb]) 39 Tryz.func92 rfl rfl rfl ?_
   intro fa F
   have M:=Mx.start w
   replace M:=M.argB 0 hB (fun g e=>by cases e)
   refine zT fun _ hK1=>rm rfl F fun _ F2=>rm rfl F2 fun _ F3=>rm rfl F3 fun _ F4=>hK1 _ _ (zSk fun _ hK5=>zT fun _ hK6=>rm rfl F4 fun _ F7=>zc (w':=w) rfl rfl F7 rfl (zI (b.length:Int)) (z8a _ rfl (F7 9 rfl) (M.isb (k:=0) rfl) rfl) fun _ F8=>?_)
   refine zc (w':=w) rfl rfl F8 rfl (.bool false) (zka _ _ _ _ rfl (F8 10 rfl) rfl (decide_eq_false (by omega))) fun _ F9=>?_
   refine rm rfl F9 fun _ F10=>rm rfl F10 fun _ F11=>zc (w':=w) (zd rfl rfl rfl (F11 12 rfl)) rfl F11 rfl (zI (b.length:Int)) (z8a _ rfl (F11 13 rfl) (M.isb (k:=0) rfl) rfl) fun _ F12=>?_
   refine rm rfl F12 fun _ F13=>zc (w':=w) (zd rfl rfl rfl (F13 12 rfl)) rfl F13 rfl ((ixV (.slice Ab b.length cb) 8)) (y_ixB _ _ rfl (F13 15 rfl) (M.isb (k:=0) rfl) rfl rfl hlt8) fun _ F14=>?_
   refine zc (w':=w) (zd rfl rfl rfl (F14 12 rfl)) rfl F14 rfl (zY ((x8.toNat:Nat):Int)) (y_ldB _ rfl (F14 16 rfl) (M.isb (k:=0) rfl) hx8 rfl) fun _ F15=>?_
   refine zc (w':=w) (zd rfl rfl rfl (F15 12 rfl)) rfl F15 rfl (zI ((x8.toNat:Nat):Int)) (y_cvI _ _ _ rfl (F15 17 rfl) Tryz.underlying5 Tryz.underlying3 (byte_i64 _)) fun _ F16=>?_
   refine zc (w':=w) (zd rfl rfl rfl (F16 12 rfl)) rfl F16 rfl (zI (25+((x8.toNat:Nat):Int))) (zoa _ _ _ _ rfl rfl (F16 18 rfl) (by omega) (by omega)) fun _ F17=>?_
   refine zc (w':=w) (zd rfl rfl rfl (F17 12 rfl)) rfl F17 rfl (.bool false) (y_neI _ _ _ _ rfl (F17 14 rfl) (F17 19 rfl) Tryz.underlying3 (y_bneF (by omega))) fun _ F18=>?_
   refine zc (w':=w) rfl rfl F18 rfl (.bool false) (z0b rfl (F18 12 rfl) (F18 20 rfl)) fun _ F19=>?_
   refine hK6 _ _ (wp_cond_false (F19 21 rfl) (wp_skip (hK5 _ _ (zT fun _ hK20=>rm rfl F19 fun _ F21=>zh rfl rfl F21 rfl rfl (zE Tryz.func68 rfl) #[.slice Ab b.length cb] (zaa (F21 22 rfl)) (zba ((hnR▸rnum6_any b (.slice Ab b.length cb) (by omega) w (M.isb (k:=0) rfl)))) ?_))))
   rintro _ w22 a22 ⟨rfl,b22⟩ F22
   have M22:=M.step b22
   refine rm rfl F22 fun _ F23=>hK20 _ _ (zT fun _ hK24=>rm rfl F23 fun _ F25=>rm rfl F25 fun _ F26=>zc (w':=w22) rfl rfl F26 rfl (zI (b.length:Int)) (z8a _ rfl (F26 25 rfl) (M22.isb (k:=0) rfl) rfl) fun _ F27=>?_)
   refine zc (w':=w22) rfl rfl F27 rfl (zI (E:Int)) (z3c _ _ _ _ rfl (F27 26 rfl) rfl (by omega) (by omega)) fun _ F28=>?_
   refine zrc rfl rfl F28 rfl (y_slOf _ _ _ rfl (F28 24 rfl) (M22.isb (k:=0) rfl) rfl (i:=9) rfl (F28 27 rfl) (j:=E) rfl (by omega) (by omega)) ?_
   intro v29 a29 h29 F29
   have M29:=M22.partB 1 (k:=0) rfl h29.1 h29.2
   obtain ⟨A29,c29,rfl⟩:=(M29.isb (k:=1) rfl).shape
   refine rm rfl F29 fun _ F30=>hK24 _ _ (zSk fun _ hK31=>?_)
   refine zva F30 [fun vE=>vE=zI (T:Int),fun vE=>vE=.slice A29 (((b.drop 9).take (E-9))).length c29,fun vE=>vE=zI (p:Int),fun vE=>vE=zI (T:Int),fun vE=>vE=.slice A29 (((b.drop 9).take (E-9))).length c29,fun _=>True,fun vE=>vE=.string (⟨((z7a zr p (T:Int) ((b.drop 9).take (E-9)))).toArray⟩),fun vE=>vE=.slice Ab b.length cb,fun vE=>vE=.string (⟨(b).toArray⟩),fun vE=>vE=.bool qG,fun vE=>vE=zI (T:Int),fun vE=>vE=.slice A29 (((b.drop 9).take (E-9))).length c29,fun vE=>vE=.bool qG] (JM none w fun SV pV=>[(0,bytR b (.slice Ab b.length cb)),(1,bytR ((b.drop 9).take (E-9)) (.slice A29 (((b.drop 9).take (E-9))).length c29)),(2,z5a (SV 5) (ownR (z7a zr p (T:Int) ((b.drop 9).take (E-9))) (pV 5)))]) 13 rfl (by kernel_rfl) rfl ⟨trivial,trivial,trivial,trivial,trivial,trivial,trivial,trivial,trivial,trivial,trivial,trivial,trivial,trivial⟩ (fun p=>((M29.step (zsa _)).triv 2).sub ⟨rfl,rfl,rfl,trivial⟩) ⟨?_,?_,?_,?_,?_,?_,?_,?_,?_,?_,?_,?_,?_,trivial⟩ ?_
   ·intro ua uw SV pV (M:Mx none w uw _) hk hn hd
    have e7:ua.eval (.tmp 7)=zI (T:Int):=(show ua.eval (.tmp 7)=_ from hd 7 (by decide)).trans (F30 7 rfl)
    exact ze rfl (zI (T:Int)) (zla _ (.inl rfl) e7) rfl (M.sb)
   ·intro ua uw SV pV (M:Mx none w uw _) hk hn hd
    have e8:ua.eval (.tmp 8)=.slice A29 (((b.drop 9).take (E-9))).length c29:=(show ua.eval (.tmp 8)=_ from hd 8 (by decide)).trans (F30 8 rfl)
    exact ze rfl (.slice A29 (((b.drop 9).take (E-9))).length c29) (zla _ (.inl rfl) e8) rfl (M.sb)
   ·intro ua uw SV pV (M:Mx none w uw _) hk hn hd
    have e0:ua.eval (.tmp 0)=zI (p:Int):=(show ua.eval (.tmp 0)=_ from hd 0 (by decide)).trans (F30 0 rfl)
    exact ze rfl (zI (p:Int)) (zla _ (.inl rfl) e0) rfl (M.sb)
   ·intro ua uw SV pV (M:Mx none w uw _) hk hn hd
    have e7:ua.eval (.tmp 7)=zI (T:Int):=(show ua.eval (.tmp 7)=_ from hd 7 (by decide)).trans (F30 7 rfl)
    exact ze rfl (zI (T:Int)) (zla _ (.inl rfl) e7) rfl (M.sb)
   ·intro ua uw SV pV (M:Mx none w uw _) hk hn hd
    have e8:ua.eval (.tmp 8)=.slice A29 (((b.drop 9).take (E-9))).length c29:=(show ua.eval (.tmp 8)=_ from hd 8 (by decide)).trans (F30 8 rfl)
    exact ze rfl (.slice A29 (((b.drop 9).take (E-9))).length c29) (zla _ (.inl rfl) e8) rfl (M.sb)
   ·intro ua uw SV pV (M:Mx none w uw _) hk hn hd
    have e31:ua.eval (.tmp 31)=zI (p:Int):=zQ1 (hd 31 (by decide))
    have e32:ua.eval (.tmp 32)=zI (T:Int):=zQ1 (hd 32 (by decide))
    have e33:ua.eval (.tmp 33)=.slice A29 (((b.drop 9).take (E-9))).length c29:=zQ1 (hd 33 (by decide))
    exact z9a rfl rfl #[zI (p:Int),zI (T:Int),.slice A29 (((b.drop 9).take (E-9))).length c29] (args3 e31 e32 e33) (zE Tryz.func83 rfl) (((rsaid_any p T hp (by omega) ((b.drop 9).take (E-9)) (.slice A29 (((b.drop 9).take (E-9))).length c29) hl9 uw (M.isb (k:=1) rfl))).mono fun e w2 h=>(by obtain ⟨u,h1,h2,h3⟩:=h;exact ⟨u,h1,trivial,(M.newO h3 2 h2).sub ⟨rfl,rfl,rfl,trivial⟩⟩))
   ·intro ua uw SV pV (M:Mx none w uw _) hk hn hd
    obtain ⟨s5,f34,q34⟩:=(show SV 5=true∧ua.eval (.tmp 34)=pV 5∧stE _ 5 (pV 5) from hd 34 (by decide))
    have e34:ua.eval (.tmp 34)=(pV 5):=f34
    exact ze rfl (.string (⟨((z7a zr p (T:Int) ((b.drop 9).take (E-9)))).toArray⟩)) (y_str _ rfl e34 (M.isO (k:=2) (zya s5 rfl))) rfl (M.sb)
   ·intro ua uw SV pV (M:Mx none w uw _) hk hn hd
    have e1:ua.eval (.tmp 1)=.slice Ab b.length cb:=(show ua.eval (.tmp 1)=_ from hd 1 (by decide)).trans (F30 1 rfl)
    exact ze rfl (.slice Ab b.length cb) (zla _ (.inl rfl) e1) rfl (M.sb)
   ·intro ua uw SV pV (M:Mx none w uw _) hk hn hd
    have e36:ua.eval (.tmp 36)=.slice Ab b.length cb:=zQ1 (hd 36 (by decide))
    exact ze rfl (.string (⟨(b).toArray⟩)) (y_str _ rfl e36 (M.isb (k:=0) rfl)) rfl (M.sb)
   ·intro ua uw SV pV (M:Mx none w uw _) hk hn hd
    have e35:ua.eval (.tmp 35)=.string (⟨((z7a zr p (T:Int) ((b.drop 9).take (E-9)))).toArray⟩):=zQ1 (hd 35 (by decide))
    have e37:ua.eval (.tmp 37)=.string (⟨(b).toArray⟩):=zQ1 (hd 37 (by decide))
    exact ze rfl (.bool qG) (y_eqS _ _ _ rfl e35 e37 (str_q hG)) rfl (M.sb)
   ·intro ua uw SV pV (M:Mx none w uw _) hk hn hd
    have e29:ua.eval (.tmp 29)=zI (T:Int):=zQ1 (hd 29 (by decide))
    exact ze rfl (zI (T:Int)) (zla _ (.inr rfl) e29) rfl (M.sb)
   ·intro ua uw SV pV (M:Mx none w uw _) hk hn hd
    have e30:ua.eval (.tmp 30)=.slice A29 (((b.drop 9).take (E-9))).length c29:=zQ1 (hd 30 (by decide))
    exact ze rfl (.slice A29 (((b.drop 9).take (E-9))).length c29) (zla _ (.inr rfl) e30) rfl (M.sb)
   ·intro ua uw SV pV (M:Mx none w uw _) hk hn hd
    have e38:ua.eval (.tmp 38)=.bool qG:=zQ1 (hd 38 (by decide))
    exact ze rfl (.bool qG) (zla _ (.inr rfl) e38) rfl (M.sb)
   intro p32 a32 w32 M32 G32 y32
   obtain ⟨-,-,-,-,-,-,-,-,-,-,q10,q11,q12,-⟩:=y32
   have r10:p32 10=zI (T:Int):=q10
   have r11:p32 11=.slice A29 (((b.drop 9).take (E-9))).length c29:=q11
   have r12:p32 12=.bool qG:=q12
   replace M32:Mx _ _ w32 [(0,bytR b (.slice Ab b.length cb)),(1,bytR ((b.drop 9).take (E-9)) (.slice A29 (((b.drop 9).take (E-9))).length c29)),(2,z5a true (ownR (z7a zr p (T:Int) ((b.drop 9).take (E-9))) (p32 5)))]:=M32
   simp only [List.take,layV,Nat.zero_add,Nat.reduceAdd,r10,r11,r12] at G32
   exact hK31 _ _ (wp_ret (bodyPost_ret (res3 rfl (G32 4 rfl) (G32 5 rfl) (G32 6 rfl)) G32.defers ⟨_,_,((b.drop 9).take (E-9)),rfl,IsB.back (M32.isb (k:=1) rfl) M32.below (fun g hg=>hB.lt (h29.2 g hg)),h29.2,(fun _=>⟨rfl,rfl⟩),M32.below⟩))
  ·rw [good_no (p:=p) hK h25 (by rw [hg8];exact h8)]
   refine zk (args:=[zI (p:Int),.slice Ab b.length cb]) 39 Tryz.func92 rfl rfl rfl ?_
   intro fa F
   have M:=Mx.start w
   replace M:=M.argB 0 hB (fun g e=>by cases e)
   refine zT fun _ hK1=>rm rfl F fun _ F2=>rm rfl F2 fun _ F3=>rm rfl F3 fun _ F4=>hK1 _ _ (zSk fun _ hK5=>zT fun _ hK6=>rm rfl F4 fun _ F7=>zc (w':=w) rfl rfl F7 rfl (zI (b.length:Int)) (z8a _ rfl (F7 9 rfl) (M.isb (k:=0) rfl) rfl) fun _ F8=>?_)
   refine zc (w':=w) rfl rfl F8 rfl (.bool false) (zka _ _ _ _ rfl (F8 10 rfl) rfl (decide_eq_false (by omega))) fun _ F9=>?_
   refine rm rfl F9 fun _ F10=>rm rfl F10 fun _ F11=>zc (w':=w) (zd rfl rfl rfl (F11 12 rfl)) rfl F11 rfl (zI (b.length:Int)) (z8a _ rfl (F11 13 rfl) (M.isb (k:=0) rfl) rfl) fun _ F12=>?_
   refine rm rfl F12 fun _ F13=>zc (w':=w) (zd rfl rfl rfl (F13 12 rfl)) rfl F13 rfl ((ixV (.slice Ab b.length cb) 8)) (y_ixB _ _ rfl (F13 15 rfl) (M.isb (k:=0) rfl) rfl rfl hlt8) fun _ F14=>?_
   refine zc (w':=w) (zd rfl rfl rfl (F14 12 rfl)) rfl F14 rfl (zY ((x8.toNat:Nat):Int)) (y_ldB _ rfl (F14 16 rfl) (M.isb (k:=0) rfl) hx8 rfl) fun _ F15=>?_
   refine zc (w':=w) (zd rfl rfl rfl (F15 12 rfl)) rfl F15 rfl (zI ((x8.toNat:Nat):Int)) (y_cvI _ _ _ rfl (F15 17 rfl) Tryz.underlying5 Tryz.underlying3 (byte_i64 _)) fun _ F16=>?_
   refine zc (w':=w) (zd rfl rfl rfl (F16 12 rfl)) rfl F16 rfl (zI (25+((x8.toNat:Nat):Int))) (zoa _ _ _ _ rfl rfl (F16 18 rfl) (by omega) (by omega)) fun _ F17=>?_
   refine zc (w':=w) (zd rfl rfl rfl (F17 12 rfl)) rfl F17 rfl (.bool true) (y_neI _ _ _ _ rfl (F17 14 rfl) (F17 19 rfl) Tryz.underlying3 (y_bneT (by omega))) fun _ F18=>?_
   refine zc (w':=w) rfl rfl F18 rfl (.bool true) (z0b rfl (F18 12 rfl) (F18 20 rfl)) fun _ F19=>?_
   refine hK6 _ _ (wp_cond_true (F19 21 rfl) (zT fun _ hK20=>rm rfl F19 fun _ F21=>rm rfl F21 fun a22 F22=>rm rfl F22 fun _ F23=>hK20 _ _ (wp_ret ?_)))
   try simp only [Exit.then,Exit.inBlock,Exit.jump]
   exact bodyPost_ret (res3 rfl (F23.get rfl) (F23.get rfl) (F23.get rfl)) F23.defers ⟨_,_,[],rfl,zia _,fun g hg=>absurd hg (zpa g),(fun h=>by cases h),M.below⟩
 ·rw [good_short (p:=p) h25]
  refine zk (args:=[zI (p:Int),.slice Ab b.length cb]) 39 Tryz.func92 rfl rfl rfl ?_
  intro fa F
  have M:=Mx.start w
  replace M:=M.argB 0 hB (fun g e=>by cases e)
  refine zT fun _ hK1=>rm rfl F fun _ F2=>rm rfl F2 fun _ F3=>rm rfl F3 fun _ F4=>hK1 _ _ (zSk fun _ hK5=>zT fun _ hK6=>rm rfl F4 fun _ F7=>zc (w':=w) rfl rfl F7 rfl (zI (b.length:Int)) (z8a _ rfl (F7 9 rfl) (M.isb (k:=0) rfl) rfl) fun _ F8=>?_)
  refine zc (w':=w) rfl rfl F8 rfl (.bool true) (zka _ _ _ _ rfl (F8 10 rfl) rfl (decide_eq_true (by omega))) fun _ F9=>?_
  refine zB 10 [(0,zI (p:Int)),(1,.slice Ab b.length cb),(4,zI 0),(5,zN),(6,.bool false),(21,.bool true)] [] dnil [] F9 fun _ F10=>?_
  refine hK6 _ _ (wp_cond_true (F10 21 rfl) (zT fun _ hK11=>rm rfl F10 fun _ F12=>rm rfl F12 fun _ F13=>rm rfl F13 fun _ F14=>hK11 _ _ (wp_ret ?_)))
  try simp only [Exit.then,Exit.inBlock,Exit.jump]
  exact bodyPost_ret (res3 rfl (F14.get rfl) (F14.get rfl) (F14.get rfl)) F14.defers ⟨_,_,[],rfl,zia _,fun g hg=>absurd hg (zpa g),(fun h=>by cases h),M.below⟩
end Go.Proofs.YtmjbnmbobocpdaaGreat
