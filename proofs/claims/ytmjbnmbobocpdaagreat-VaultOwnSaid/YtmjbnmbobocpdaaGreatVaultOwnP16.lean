/- What VaultOwn stands on, part 16. -/
import Derived.Test.YtmjbnmbobocpdaaGreatVaultOwnP1
import Derived.Test.YtmjbnmbobocpdaaGreatVaultOwnP2
import Derived.Test.YtmjbnmbobocpdaaGreatVaultOwnP3
import Derived.Test.YtmjbnmbobocpdaaGreatVaultOwnP4
import Derived.Test.YtmjbnmbobocpdaaGreatVaultOwnP5
import Derived.Test.YtmjbnmbobocpdaaGreatVaultOwnP6
import Derived.Test.YtmjbnmbobocpdaaGreatVaultOwnP7
import Derived.Test.YtmjbnmbobocpdaaGreatVaultOwnP8
import Derived.Test.YtmjbnmbobocpdaaGreatVaultOwnP9
import Derived.Test.YtmjbnmbobocpdaaGreatVaultOwnP10
import Derived.Test.YtmjbnmbobocpdaaGreatVaultOwnP11
import Derived.Test.YtmjbnmbobocpdaaGreatVaultOwnP12
import Derived.Test.YtmjbnmbobocpdaaGreatVaultOwnP13
import Derived.Test.YtmjbnmbobocpdaaGreatVaultOwnP14
import Derived.Test.YtmjbnmbobocpdaaGreatVaultOwnP15
set_option maxRecDepth 100000
set_option maxHeartbeats 8000000
set_option linter.unusedVariables false
set_option linter.unusedSimpArgs false
namespace Go.Proofs.YtmjbnmbobocpdaaGreat
open Go.ChangeShapes Go.WideShapes Go.ChangeAt Go.RowKit
theorem rnames_any {K:Nat} (gx gc:Nat) (V:VltN) (L:Int) (s n:Nat→Value) (hi:InvV K V) (L8:List ByteArray) (hM:srtL (namL V 8)=L8) (w:World) (h:HasX w gx gc V L s n):
  Calls Tryz.prog 43 #[(zO gx)] w fun e w'=>∃ v,e=.returned v∧TxtAt w' w.heap.size L8 v∧Below w.heap.size w w':=by
 refine zk (args:=[(zO gx)]) 59 Tryz.func43 rfl rfl rfl ?_
 intro fa F
 have M:=Mx.start w
 replace M:=M.argO 0 h.hx (fun b e=>by cases e)
 replace M:=M.argO 1 h.hc (fun b e=>by cases e)
 refine zT fun _ hK1=>rm rfl F fun _ F2=>hK1 _ _ (zT fun _ hK3=>rm rfl F2 fun _ F4=>hK3 _ _ (zSk fun _ hK5=>zT fun _ hK6=>rm rfl F4 fun _ F7=>hK6 _ _ (wp_block ?_)))
 have M8:=M.nilRow 2 9 1
 refine zeb (α:=Nat×List ByteArray×Value) (n:=59) (G:=none) (w0:=w) (fun x=>[(0,(zO gx)),(4,zI (x.1:Int)),(3,x.2.2)]) (fun x=>[(2,rowR 9 1 x.2.1.length (strV x.2.1) x.2.2),(0,blkO gx 72 (#[.slice (some ⟨gc,0,none⟩) 18 18,zI L,.bool V.dd])),(1,blkO gc 63 (celA V.c s n))]) (fun k x=>k=(8-x.1)∧(x.1≤8∧srtL (namL V x.1)=x.2.1)) _ ⟨0,[],(zN)⟩ ⟨rfl,⟨Nat.zero_le _,rfl⟩⟩ (F7.sb) (M8.sb) ?_
 rintro k9 ⟨jn,D,v3⟩ a9 w9 K9 ⟨ek9,I9⟩ F9 M9 hK9
 replace F9:Fx 59 a9 [(0,(zO gx)),(4,zI (jn:Int)),(3,v3)]:=F9
 replace M9:Mx _ _ w9 [(2,rowR 9 1 D.length (strV D) v3),(0,blkO gx 72 (#[.slice (some ⟨gc,0,none⟩) 18 18,zI L,.bool V.dd])),(1,blkO gc 63 (celA V.c s n))]:=M9
 replace I9:jn≤8∧srtL (namL V jn)=D:=I9
 replace ek9:k9=(8-jn):=ek9
 obtain ⟨hj,hD⟩:=I9
 obtain ⟨A3,c3,e3,hdc,-⟩:=row_slice (M9.rowF (k:=2) rfl)
 subst e3
 have hD8:D.length≤8:=by rw [←hD,srtL_len];exact Nat.le_trans (namL_len V jn) hj
 by_cases h8:jn<8
 ·obtain ⟨ca,ct,cl,hC⟩:∃ a t l,cntR V (2*jn) 2=(a,t,l):=⟨_,_,_,rfl⟩
  have hcl:=cnt_short hi (by omega) hC
  obtain ⟨qR,hR⟩:∃ x,rdOk cl=x:=⟨_,rfl⟩
  obtain ⟨rr,hrr⟩:∃ x,rdR cl=x:=⟨_,rfl⟩
  obtain ⟨hn1,hn2⟩:=nam_cnt hC
  rw [hR] at hn1 hn2
  rw [hrr] at hn2
  refine zSk fun _ hK10=>zT fun _ hK11=>rm rfl F9 fun _ F12=>zc (w':=w9) rfl rfl F12 rfl (.bool true) (zka _ _ _ _ rfl (F12 11 rfl) rfl (decide_eq_true (show (jn:Int)<8 by omega))) fun _ F13=>?_
  refine hK11 _ _ (wp_cond_true (F13 12 rfl) (wp_skip (hK10 _ _ (zSk fun _ hK14=>wp_block (zT fun _ hK15=>rm rfl F13 fun _ F16=>rm rfl F16 fun _ F17=>zh rfl rfl F17 rfl rfl (zE Tryz.func62 rfl) #[(zO gx),zI (jn:Int)] (zfa (F17 16 rfl) (F17 17 rfl)) (rcounts_is gx gc V L s n hi jn (by omega) hC w9 (h.step M9.below)) ?_)))))
  rintro _ w18 a18 ⟨S18,rfl,hS18,b18⟩ F18
  have M18:=M9.step b18
  have lS18:=hS18.step b18
  refine zB 7 [(0,(zO gx)),(4,zI (jn:Int)),(3,.slice A3 D.length c3),(7,S18)] [] dnil [] F18 fun _ F19=>?_
  refine hK15 _ _ (zT fun _ hK20=>rm rfl F19 fun _ F21=>zh rfl rfl F21 rfl rfl (zE Tryz.func63 rfl) #[S18] (zaa (F21 23 rfl)) (rrd6_is cl (S18) hcl qR rr hR hrr w18 lS18) ?_)
  rintro _ w22 a22 ⟨V22,rfl,is22,lo22,b22⟩ F22
  have M22:=M18.newRec b22 is22 lo22 3 4
  clear M18 b22 lo22
  refine zB 3 [(0,(zO gx)),(4,zI (jn:Int)),(3,.slice A3 D.length c3),(25,.agg (recA rr V22)),(26,.bool qR)] [] dnil [] F22 fun _ F23=>?_
  refine zq rfl rfl F23 rfl M22 5 (t:=37) (c:=recA ⟨0, "".toUTF8,[],0,0,[],0,0,0⟩ ⟨zN,zN⟩) (by unfold execOp;kernel_rfl) ?_
  intro g24 a24 w24 F24 M24
  refine zt rfl rfl F24 M24 (k:=5) rfl _ _ _ rfl (F24 8 rfl) (F24 25 rfl) (recA rr V22) _ rfl (zL rfl) (z6a (w:=w24) ⟨(M24.isb (k:=3) rfl),(M24.isb (k:=4) rfl)⟩) (zca rfl) (by kernel_rfl) ?_
  intro w25 M25
  refine rm rfl F24 fun _ F26=>hK20 _ _ (zSk fun _ hK27=>zT fun _ hK28=>rm rfl F26 fun _ F29=>?_)
  cases qR
  ·refine zc (w':=w25) rfl rfl F29 rfl (.bool true) (zgb _ _ rfl (F29 27 rfl)) fun _ F30=>?_
   refine hK28 _ _ (wp_cond_true (F30 28 rfl) (wp_exit ?_))
   simp only [Exit.then,Exit.inBlock,↓reduceIte,Nat.reduceEqDiff]
   refine hK14 _ _ (zR (rm rfl F30 fun _ F31=>zc (w':=w25) rfl rfl F31 rfl (zI ((jn+1:Nat):Int)) (zoa _ _ _ _ rfl (F31 13 rfl) rfl (by omega) (by omega)) fun _ F32=>?_))
   refine rm rfl F32 fun _ F33=>?_
   subst ek9
   exact hK9 _ ⟨(jn+1),D,(.slice A3 D.length c3)⟩ _ _ (by dsimp only;omega) ⟨rfl,⟨by (dsimp only;omega),by (dsimp only;rw [namL_no hn1];exact hD)⟩⟩ (F33.sb) (M25.sb)
  ·refine zc (w':=w25) rfl rfl F29 rfl (.bool false) (zgb _ _ rfl (F29 27 rfl)) fun _ F34=>?_
   refine hK28 _ _ (wp_cond_false (F34 28 rfl) (wp_skip (hK27 _ _ (zT fun _ hK35=>rm rfl F34 fun _ F36=>zc (w':=w25) rfl rfl F36 rfl (zI (D.length:Int)) (y_lnG 45 Tryz.underlying45 _ rfl (F36 29 rfl) rfl) fun _ F37=>?_))))
   refine rm rfl F37 fun _ F38=>hK35 _ _ (zSk fun _ hK39=>wp_block ?_)
   refine zeb (α:=Nat) (n:=59) (G:=none) (w0:=w) (fun x=>[(0,(zO gx)),(4,zI (jn:Int)),(3,.slice A3 D.length c3),(8,(zO g24)),(10,zI (x:Int))]) (fun x=>[(2,rowR 9 1 D.length (strV D) (.slice A3 D.length c3)),(0,blkO gx 72 (#[.slice (some ⟨gc,0,none⟩) 18 18,zI L,.bool V.dd])),(1,blkO gc 63 (celA V.c s n)),(3,bytR rr.l2 V22.v2),(4,bytR rr.l5 V22.v5),(5,blkR g24 37 (recA rr V22))]) (fun k x=>k=(x+1)∧(x≤D.length∧insR D rr.s=insR (D.take x) rr.s++D.drop x)) _ D.length ⟨rfl,⟨Nat.le_refl _,by rw [List.take_length,List.drop_length,List.append_nil]⟩⟩ (F38.sb) (M25.sb) ?_
   rintro k40 kk a40 w40 K40 ⟨ek40,I40⟩ F40 M40 hK40
   replace F40:Fx 59 a40 [(0,(zO gx)),(4,zI (jn:Int)),(3,.slice A3 D.length c3),(8,(zO g24)),(10,zI (kk:Int))]:=F40
   replace M40:Mx _ _ w40 [(2,rowR 9 1 D.length (strV D) (.slice A3 D.length c3)),(0,blkO gx 72 (#[.slice (some ⟨gc,0,none⟩) 18 18,zI L,.bool V.dd])),(1,blkO gc 63 (celA V.c s n)),(3,bytR rr.l2 V22.v2),(4,bytR rr.l5 V22.v5),(5,blkR g24 37 (recA rr V22))]:=M40
   replace I40:kk≤D.length∧insR D rr.s=insR (D.take kk) rr.s++D.drop kk:=I40
   replace ek40:k40=(kk+1):=ek40
   obtain ⟨hkD,hin⟩:=I40
   refine zSk fun _ hK41=>zSk fun _ hK42=>?_
   by_cases h43:0<(kk:Int)
   ·have hkd:kk-1<D.length:=by omega
    obtain ⟨yt,hyt⟩:∃ y,D[kk-1]? = some y:=⟨_,List.getElem?_eq_getElem hkd⟩
    obtain ⟨bl,hbl⟩:∃ b,Op.bytesLess rr.s.toList yt.toList=b:=⟨_,rfl⟩
    have hD44:=(zu (M40.blk (k:=5) rfl) dnil)
    refine z4a F40 (SK [.inl (zI (kk:Int)),.inl (.bool true),.inl (.bool true),.inl (zP g24 1),.inl (.string rr.s),.inl (.slice A3 D.length c3),.inl (zI (kk:Int)),.inl (zI ((kk-1:Nat):Int)),.inl ((ixG (.slice A3 D.length c3) ((kk-1)*1))),.inl (.string yt),.inl (.bool bl),.inl (.bool bl)]) 12 rfl (by kernel_rfl) ⟨hop0 F40,hopR F40 [(31,zI (kk:Int))] (v:=.bool true) fun ua uw hb ⟨e31,_⟩=>(zbc _ _ _ _ rfl e31 rfl (decide_eq_true h43)),hop0 F40,hop0 F40,hopP F40 hD44 0 (some g24),hop0 F40,hop0 F40,hopR F40 [(37,zI (kk:Int))] (v:=zI ((kk-1:Nat):Int)) fun ua uw hb ⟨e37,_⟩=>(z3c _ _ _ _ rfl e37 rfl (by omega) (by omega)),hopR F40 [(36,.slice A3 D.length c3),(38,zI ((kk-1:Nat):Int))] fun ua uw hb ⟨e36,e38,_⟩=>(y_ixR (M40.step hb) (k:=2) rfl 45 Tryz.underlying45 (by kernel_rfl) _ _ rfl e36 e38 rfl hkd),hopR F40 [(39,(ixG (.slice A3 D.length c3) ((kk-1)*1)))] fun ua uw hb ⟨e39,_⟩=>(y_ldRs (M40.step hb) (k:=2) rfl _ rfl e39 hyt),hopR F40 [(35,.string rr.s),(40,.string yt)] (v:=.bool bl) fun ua uw hb ⟨e35,e40,_⟩=>(y_lssS _ _ rfl e35 e40 hbl),hop0 F40,trivial⟩ ?_
    intro p45 a45 w45 b45 G45 y45
    obtain ⟨-,-,-,-,-,-,-,-,-,-,-,q11,-⟩:=y45
    have r11:p45 11=.bool bl:=q11 (by decide)
    simp only [List.take,layV,Nat.zero_add,Nat.reduceAdd,r11] at G45
    have M45:=M40.kc b45
    clear F40 M40 r11 q11
    refine hK42 _ _ ?_
    cases bl
    ·refine wp_cond_false (G45 42 rfl) (wp_exit ?_)
     simp only [Exit.then,Exit.inBlock,↓reduceIte,Nat.reduceEqDiff]
     refine hK39 _ _ ?_
     have hlast:kk=0∨∃ y,0<kk∧D[kk-1]? = some y∧Op.bytesLess rr.s.toList y.toList=false:=.inr ⟨yt,by omega,hyt,hbl⟩
     refine zva G45 [fun _=>True,fun vE=>vE=.slice A3 D.length c3,fun vE=>vE=zI (kk:Int),fun vE=>vE=(.slice A3 kk c3),fun _=>True,fun vE=>vE=(zP g24 1),fun vE=>vE=.string rr.s,fun _=>True,fun _=>True,fun vE=>vE=.slice A3 D.length c3,fun vE=>vE=zI (kk:Int),fun vE=>vE=(slD A3 c3 D.length kk),fun _=>True] (JQ none w (fun SV=>SV 8=true→SV 4=true) (fun (xJ:Unit) SV pV=>[(2,rowR 9 1 D.length (strV D) (.slice A3 D.length c3)),(0,blkO gx 72 (#[.slice (some ⟨gc,0,none⟩) 18 18,zI L,.bool V.dd])),(1,blkO gc 63 (celA V.c s n)),(3,bytR rr.l2 V22.v2),(4,bytR rr.l5 V22.v5),(5,blkR g24 37 (recA rr V22)),(6,zha (SV 4) (zha (SV 8) (zha (SV 12) (rowR 9 1 ((([]++D.take kk)++[rr.s])++D.drop kk).length (strV ((([]++D.take kk)++[rr.s])++D.drop kk)) (pV 12)) (rowR 9 1 (([]++D.take kk)++[rr.s]).length (strV (([]++D.take kk)++[rr.s])) (pV 8))) (rowR 9 1 ([]++D.take kk).length (strV ([]++D.take kk)) (pV 4))) (z5a (SV 0) (rowR 9 1 ([]:List ByteArray).length (strV ([]:List ByteArray)) (pV 0)))),(7,z5a (SV 7) (slcR 9 1 #[.string rr.s] (pV 7)))])) 13 rfl (by kernel_rfl) rfl ⟨trivial,trivial,trivial,trivial,trivial,trivial,trivial,trivial,trivial,trivial,trivial,trivial,trivial,trivial⟩ (fun p=>JQ.mk (fun h=>absurd h (by decide)) () ((((M45.step (zsa _)).triv 6).triv 7).sub ⟨rfl,rfl,rfl,rfl,rfl,rfl,rfl,rfl,trivial⟩)) ⟨?_,?_,?_,?_,?_,?_,?_,?_,?_,?_,?_,?_,?_,trivial⟩ ?_
     ·intro ua uw SV pV M0 hk hn hd
      obtain ⟨HP,xJ,M⟩:=M0
      replace M:Mx none w uw _:=M
      exact z4b rfl (run_row0 M 6 rfl) fun v w2 h2=>⟨trivial,(JQ.mk HP () (h2.sub ⟨rfl,rfl,rfl,rfl,rfl,rfl,(zzb (hn 4 (by kernel_rfl)) rfl),rfl,trivial⟩))⟩
     ·intro ua uw SV pV M0 hk hn hd
      obtain ⟨HP,xJ,M⟩:=M0
      replace M:Mx none w uw _:=M
      have e3:ua.eval (.tmp 3)=.slice A3 D.length c3:=(show ua.eval (.tmp 3)=_ from hd 3 (by decide)).trans (G45 3 rfl)
      exact ze rfl (.slice A3 D.length c3) (zla _ (.inl rfl) e3) rfl ((JQ.mk HP () (M.sb)))
     ·intro ua uw SV pV M0 hk hn hd
      obtain ⟨HP,xJ,M⟩:=M0
      replace M:Mx none w uw _:=M
      have e10:ua.eval (.tmp 10)=zI (kk:Int):=(show ua.eval (.tmp 10)=_ from hd 10 (by decide)).trans (G45 10 rfl)
      exact ze rfl (zI (kk:Int)) (zla _ (.inl rfl) e10) rfl ((JQ.mk HP () (M.sb)))
     ·intro ua uw SV pV M0 hk hn hd
      obtain ⟨HP,xJ,M⟩:=M0
      replace M:Mx none w uw _:=M
      have e46:ua.eval (.tmp 46)=.slice A3 D.length c3:=zQ1 (hd 46 (by decide))
      have e47:ua.eval (.tmp 47)=zI (kk:Int):=zQ1 (hd 47 (by decide))
      exact ze rfl ((.slice A3 kk c3)) (y_slS1 _ _ rfl e46 e47 rfl (Nat.le_trans hkD hdc)) rfl ((JQ.mk HP () (M.sb)))
     ·intro ua uw SV pV M0 hk hn hd
      obtain ⟨HP,xJ,M⟩:=M0
      replace M:Mx none w uw _:=M
      obtain ⟨s0,f45,q45⟩:=(show SV 0=true∧ua.eval (.tmp 45)=pV 0∧stE _ 0 (pV 0) from hd 45 (by decide))
      have e45:ua.eval (.tmp 45)=(pV 0):=f45
      have e48:ua.eval (.tmp 48)=(.slice A3 kk c3):=zQ1 (hd 48 (by decide))
      exact z4b rfl (run_appP M (k:=6) (D:=([]:List ByteArray)) (L:=(D.take kk)) (zya s0 (zea hk rfl)) (pc_take (M.rowF (k:=2) rfl) hkD) (by simp only [List.length_append,List.length_nil,List.length_take,List.length_cons,List.length_drop];omega) _ _ rfl e45 e48) fun v w2 h2=>⟨trivial,(JQ.mk (fun _=>rfl) () (h2.sub ⟨rfl,rfl,rfl,rfl,rfl,rfl,(zzb (hn 8 (by kernel_rfl)) rfl),rfl,trivial⟩))⟩
     ·intro ua uw SV pV M0 hk hn hd
      obtain ⟨HP,xJ,M⟩:=M0
      replace M:Mx none w uw _:=M
      have e8:ua.eval (.tmp 8)=(zO g24):=(show ua.eval (.tmp 8)=_ from hd 8 (by decide)).trans (G45 8 rfl)
      exact ze rfl (zP g24 1) (y_fa (off:=1) rfl e8 (by kernel_rfl) rfl) rfl ((JQ.mk HP () (M.sb)))
     ·intro ua uw SV pV M0 hk hn hd
      obtain ⟨HP,xJ,M⟩:=M0
      replace M:Mx none w uw _:=M
      have e50:ua.eval (.tmp 50)=(zP g24 1):=zQ1 (hd 50 (by decide))
      exact ze rfl (.string rr.s) (zda _ _ rfl e50 (M.blk (k:=5) rfl) rfl Tryz.underlying9 rfl) rfl ((JQ.mk HP () (M.sb)))
     ·intro ua uw SV pV M0 hk hn hd
      obtain ⟨HP,xJ,M⟩:=M0
      replace M:Mx none w uw _:=M
      have e51:ua.eval (.tmp 51)=.string rr.s:=zQ1 (hd 51 (by decide))
      exact ze rfl _ (y_litG 45 9 (s:=1) (zv:=.string "".toUTF8) Tryz.underlying45 (by kernel_rfl) (by kernel_rfl) rfl (#[.string rr.s]) (by decide) (by decide) (by simp only [List.map_toArray,List.map_cons,List.map_nil,e51];kernel_rfl)) trivial ((JQ.mk HP () ((M.allocS 7 9 1 (#[.string rr.s])).sub ⟨rfl,rfl,rfl,rfl,rfl,rfl,rfl,rfl,trivial⟩)))
     ·intro ua uw SV pV M0 hk hn hd
      obtain ⟨HP,xJ,M⟩:=M0
      replace M:Mx none w uw _:=M
      obtain ⟨s4,f49,q49⟩:=(show SV 4=true∧ua.eval (.tmp 49)=pV 4∧stE _ 4 (pV 4) from hd 49 (by decide))
      have e49:ua.eval (.tmp 49)=(pV 4):=f49
      obtain ⟨s7,f52,q52⟩:=(show SV 7=true∧ua.eval (.tmp 52)=pV 7∧stE _ 7 (pV 7) from hd 52 (by decide))
      have e52:ua.eval (.tmp 52)=(pV 7):=f52
      exact z4b rfl (run_appP M (k:=6) (D:=([]++D.take kk)) (L:=[rr.s]) (zea hk (z6c s4 rfl)) (pc_lit (M.at_ 7 _ (zya s7 rfl))) (by simp only [List.length_append,List.length_nil,List.length_take,List.length_cons,List.length_drop];omega) _ _ rfl e49 e52) fun v w2 h2=>⟨trivial,(JQ.mk (fun _=>s4) () (h2.sub ⟨rfl,rfl,rfl,rfl,rfl,rfl,(zwc s4 (zwc rfl (zzb (hn 12 (by kernel_rfl)) rfl))),rfl,trivial⟩))⟩
     ·intro ua uw SV pV M0 hk hn hd
      obtain ⟨HP,xJ,M⟩:=M0
      replace M:Mx none w uw _:=M
      have e3:ua.eval (.tmp 3)=.slice A3 D.length c3:=(show ua.eval (.tmp 3)=_ from hd 3 (by decide)).trans (G45 3 rfl)
      exact ze rfl (.slice A3 D.length c3) (zla _ (.inl rfl) e3) rfl ((JQ.mk HP () (M.sb)))
     ·intro ua uw SV pV M0 hk hn hd
      obtain ⟨HP,xJ,M⟩:=M0
      replace M:Mx none w uw _:=M
      have e10:ua.eval (.tmp 10)=zI (kk:Int):=(show ua.eval (.tmp 10)=_ from hd 10 (by decide)).trans (G45 10 rfl)
      exact ze rfl (zI (kk:Int)) (zla _ (.inl rfl) e10) rfl ((JQ.mk HP () (M.sb)))
     ·intro ua uw SV pV M0 hk hn hd
      obtain ⟨HP,xJ,M⟩:=M0
      replace M:Mx none w uw _:=M
      have e54:ua.eval (.tmp 54)=.slice A3 D.length c3:=zQ1 (hd 54 (by decide))
      have e55:ua.eval (.tmp 55)=zI (kk:Int):=zQ1 (hd 55 (by decide))
      exact ze rfl ((slD A3 c3 D.length kk)) (y_slS2 _ _ rfl e54 e55 rfl hkD) rfl ((JQ.mk HP () (M.sb)))
     ·intro ua uw SV pV M0 hk hn hd
      obtain ⟨HP,xJ,M⟩:=M0
      replace M:Mx none w uw _:=M
      obtain ⟨s8,f53,q53⟩:=(show SV 8=true∧ua.eval (.tmp 53)=pV 8∧stE _ 8 (pV 8) from hd 53 (by decide))
      have e53:ua.eval (.tmp 53)=(pV 8):=f53
      have e56:ua.eval (.tmp 56)=(slD A3 c3 D.length kk):=zQ1 (hd 56 (by decide))
      have s4:SV 4=true:=HP s8
      exact z4b rfl (run_appP M (k:=6) (D:=(([]++D.take kk)++[rr.s])) (L:=(D.drop kk)) (zea hk (z6c s8 (z6c s4 rfl))) (pc_drop (M.rowF (k:=2) rfl) hkD) (by simp only [List.length_append,List.length_nil,List.length_take,List.length_cons,List.length_drop];omega) _ _ rfl e53 e56) fun v w2 h2=>⟨trivial,(JQ.mk HP () (h2.sub ⟨rfl,rfl,rfl,rfl,rfl,rfl,(zwc s4 (zwc s8 rfl)),rfl,trivial⟩))⟩
     intro p46 a46 w46 M46 G46 y46
     obtain ⟨-,-,-,-,-,-,-,-,-,-,-,-,q12,-⟩:=y46
     obtain ⟨vq46,r12⟩:∃ v,p46 12=v:=⟨_,rfl⟩
     obtain ⟨-,xJ46,M46⟩:=M46
     replace M46:Mx _ _ w46 [(2,rowR 9 1 D.length (strV D) (.slice A3 D.length c3)),(0,blkO gx 72 (#[.slice (some ⟨gc,0,none⟩) 18 18,zI L,.bool V.dd])),(1,blkO gc 63 (celA V.c s n)),(3,bytR rr.l2 V22.v2),(4,bytR rr.l5 V22.v5),(5,blkR g24 37 (recA rr V22)),(6,zha true (zha true (zha true (rowR 9 1 ((([]++D.take kk)++[rr.s])++D.drop kk).length (strV ((([]++D.take kk)++[rr.s])++D.drop kk)) (p46 12)) (rowR 9 1 (([]++D.take kk)++[rr.s]).length (strV (([]++D.take kk)++[rr.s])) (p46 8))) (rowR 9 1 ([]++D.take kk).length (strV ([]++D.take kk)) (p46 4))) (z5a true (rowR 9 1 ([]:List ByteArray).length (strV ([]:List ByteArray)) (p46 0)))),(7,z5a true (slcR 9 1 #[.string rr.s] (p46 7)))]:=M46
     simp only [List.take,layV,Nat.zero_add,Nat.reduceAdd,r12] at G46
     rw [r12] at M46
     refine rm rfl G46 fun _ F47=>hK14 _ _ (zR (rm rfl F47 fun _ F48=>zc (w':=w46) rfl rfl F48 rfl (zI ((jn+1:Nat):Int)) (zoa _ _ _ _ rfl (F48 13 rfl) rfl (by omega) (by omega)) fun _ F49=>?_))
     refine rm rfl F49 fun _ F50=>?_
     have M51:=M46.moved (q:=6) (row:=2) rfl (by decide)
     subst ek9
     exact hK9 _ ⟨(jn+1),((([]++D.take kk)++[rr.s])++D.drop kk),vq46⟩ _ _ (by dsimp only;omega) ⟨rfl,⟨by (dsimp only;omega),by (dsimp only;rw [namL_yes hn1 (hn2 rfl),srt_app,hD];exact ins_end hin hlast)⟩⟩ (F50.sb) (M51.sb)
    ·refine wp_cond_true (G45 42 rfl) (wp_skip (hK41 _ _ (wp_block (zR (rm rfl G45 fun _ F52=>zc (w':=w45) rfl rfl F52 rfl (zI ((kk-1:Nat):Int)) (z3c _ _ _ _ rfl (F52 43 rfl) rfl (by omega) (by omega)) fun _ F53=>?_)))))
     refine rm rfl F53 fun _ F54=>?_
     subst ek40
     exact hK40 _ (kk-1) _ _ (by omega) ⟨rfl,⟨by omega,ins_go (by omega) hyt hin hbl⟩⟩ (F54.sb) (M45.sb)
   ·refine z4a F40 (SK [.inl (zI (kk:Int)),.inl (.bool false),.inl (.bool false),.inl (undef),.inl (undef),.inl (undef),.inl (undef),.inl (undef),.inl (undef),.inl (undef),.inl (undef),.inl (.bool false)]) 12 rfl (by kernel_rfl) ⟨hop0 F40,hopR F40 [(31,zI (kk:Int))] (v:=.bool false) fun ua uw hb ⟨e31,_⟩=>(zbc _ _ _ _ rfl e31 rfl (decide_eq_false h43)),hop0 F40,hop0 F40,hop0 F40,hop0 F40,hop0 F40,hop0 F40,hop0 F40,hop0 F40,hop0 F40,hop0 F40,trivial⟩ ?_
    intro p56 a56 w56 b56 G56 y56
    obtain ⟨-,-,-,-,-,-,-,-,-,-,-,q11,-⟩:=y56
    have r11:p56 11=.bool false:=q11 (by decide)
    simp only [List.take,layV,Nat.zero_add,Nat.reduceAdd,r11] at G56
    have M56:=M40.kc b56
    clear F40 M40 r11 q11
    refine hK42 _ _ (wp_cond_false (G56 42 rfl) (wp_exit ?_))
    simp only [Exit.then,Exit.inBlock,↓reduceIte,Nat.reduceEqDiff]
    refine hK39 _ _ ?_
    have hlast:kk=0∨∃ y,0<kk∧D[kk-1]? = some y∧Op.bytesLess rr.s.toList y.toList=false:=.inl (by omega)
    refine zva G56 [fun _=>True,fun vE=>vE=.slice A3 D.length c3,fun vE=>vE=zI (kk:Int),fun vE=>vE=(.slice A3 kk c3),fun _=>True,fun vE=>vE=(zP g24 1),fun vE=>vE=.string rr.s,fun _=>True,fun _=>True,fun vE=>vE=.slice A3 D.length c3,fun vE=>vE=zI (kk:Int),fun vE=>vE=(slD A3 c3 D.length kk),fun _=>True] (JQ none w (fun SV=>SV 8=true→SV 4=true) (fun (xJ:Unit) SV pV=>[(2,rowR 9 1 D.length (strV D) (.slice A3 D.length c3)),(0,blkO gx 72 (#[.slice (some ⟨gc,0,none⟩) 18 18,zI L,.bool V.dd])),(1,blkO gc 63 (celA V.c s n)),(3,bytR rr.l2 V22.v2),(4,bytR rr.l5 V22.v5),(5,blkR g24 37 (recA rr V22)),(6,zha (SV 4) (zha (SV 8) (zha (SV 12) (rowR 9 1 ((([]++D.take kk)++[rr.s])++D.drop kk).length (strV ((([]++D.take kk)++[rr.s])++D.drop kk)) (pV 12)) (rowR 9 1 (([]++D.take kk)++[rr.s]).length (strV (([]++D.take kk)++[rr.s])) (pV 8))) (rowR 9 1 ([]++D.take kk).length (strV ([]++D.take kk)) (pV 4))) (z5a (SV 0) (rowR 9 1 ([]:List ByteArray).length (strV ([]:List ByteArray)) (pV 0)))),(7,z5a (SV 7) (slcR 9 1 #[.string rr.s] (pV 7)))])) 13 rfl (by kernel_rfl) rfl ⟨trivial,trivial,trivial,trivial,trivial,trivial,trivial,trivial,trivial,trivial,trivial,trivial,trivial,trivial⟩ (fun p=>JQ.mk (fun h=>absurd h (by decide)) () ((((M56.step (zsa _)).triv 6).triv 7).sub ⟨rfl,rfl,rfl,rfl,rfl,rfl,rfl,rfl,trivial⟩)) ⟨?_,?_,?_,?_,?_,?_,?_,?_,?_,?_,?_,?_,?_,trivial⟩ ?_
    ·intro ua uw SV pV M0 hk hn hd
     obtain ⟨HP,xJ,M⟩:=M0
     replace M:Mx none w uw _:=M
     exact z4b rfl (run_row0 M 6 rfl) fun v w2 h2=>⟨trivial,(JQ.mk HP () (h2.sub ⟨rfl,rfl,rfl,rfl,rfl,rfl,(zzb (hn 4 (by kernel_rfl)) rfl),rfl,trivial⟩))⟩
    ·intro ua uw SV pV M0 hk hn hd
     obtain ⟨HP,xJ,M⟩:=M0
     replace M:Mx none w uw _:=M
     have e3:ua.eval (.tmp 3)=.slice A3 D.length c3:=(show ua.eval (.tmp 3)=_ from hd 3 (by decide)).trans (G56 3 rfl)
     exact ze rfl (.slice A3 D.length c3) (zla _ (.inl rfl) e3) rfl ((JQ.mk HP () (M.sb)))
    ·intro ua uw SV pV M0 hk hn hd
     obtain ⟨HP,xJ,M⟩:=M0
     replace M:Mx none w uw _:=M
     have e10:ua.eval (.tmp 10)=zI (kk:Int):=(show ua.eval (.tmp 10)=_ from hd 10 (by decide)).trans (G56 10 rfl)
     exact ze rfl (zI (kk:Int)) (zla _ (.inl rfl) e10) rfl ((JQ.mk HP () (M.sb)))
    ·intro ua uw SV pV M0 hk hn hd
     obtain ⟨HP,xJ,M⟩:=M0
     replace M:Mx none w uw _:=M
     have e46:ua.eval (.tmp 46)=.slice A3 D.length c3:=zQ1 (hd 46 (by decide))
     have e47:ua.eval (.tmp 47)=zI (kk:Int):=zQ1 (hd 47 (by decide))
     exact ze rfl ((.slice A3 kk c3)) (y_slS1 _ _ rfl e46 e47 rfl (Nat.le_trans hkD hdc)) rfl ((JQ.mk HP () (M.sb)))
    ·intro ua uw SV pV M0 hk hn hd
     obtain ⟨HP,xJ,M⟩:=M0
     replace M:Mx none w uw _:=M
     obtain ⟨s0,f45,q45⟩:=(show SV 0=true∧ua.eval (.tmp 45)=pV 0∧stE _ 0 (pV 0) from hd 45 (by decide))
     have e45:ua.eval (.tmp 45)=(pV 0):=f45
     have e48:ua.eval (.tmp 48)=(.slice A3 kk c3):=zQ1 (hd 48 (by decide))
     exact z4b rfl (run_appP M (k:=6) (D:=([]:List ByteArray)) (L:=(D.take kk)) (zya s0 (zea hk rfl)) (pc_take (M.rowF (k:=2) rfl) hkD) (by simp only [List.length_append,List.length_nil,List.length_take,List.length_cons,List.length_drop];omega) _ _ rfl e45 e48) fun v w2 h2=>⟨trivial,(JQ.mk (fun _=>rfl) () (h2.sub ⟨rfl,rfl,rfl,rfl,rfl,rfl,(zzb (hn 8 (by kernel_rfl)) rfl),rfl,trivial⟩))⟩
    ·intro ua uw SV pV M0 hk hn hd
     obtain ⟨HP,xJ,M⟩:=M0
     replace M:Mx none w uw _:=M
     have e8:ua.eval (.tmp 8)=(zO g24):=(show ua.eval (.tmp 8)=_ from hd 8 (by decide)).trans (G56 8 rfl)
     exact ze rfl (zP g24 1) (y_fa (off:=1) rfl e8 (by kernel_rfl) rfl) rfl ((JQ.mk HP () (M.sb)))
    ·intro ua uw SV pV M0 hk hn hd
     obtain ⟨HP,xJ,M⟩:=M0
     replace M:Mx none w uw _:=M
     have e50:ua.eval (.tmp 50)=(zP g24 1):=zQ1 (hd 50 (by decide))
     exact ze rfl (.string rr.s) (zda _ _ rfl e50 (M.blk (k:=5) rfl) rfl Tryz.underlying9 rfl) rfl ((JQ.mk HP () (M.sb)))
    ·intro ua uw SV pV M0 hk hn hd
     obtain ⟨HP,xJ,M⟩:=M0
     replace M:Mx none w uw _:=M
     have e51:ua.eval (.tmp 51)=.string rr.s:=zQ1 (hd 51 (by decide))
     exact ze rfl _ (y_litG 45 9 (s:=1) (zv:=.string "".toUTF8) Tryz.underlying45 (by kernel_rfl) (by kernel_rfl) rfl (#[.string rr.s]) (by decide) (by decide) (by simp only [List.map_toArray,List.map_cons,List.map_nil,e51];kernel_rfl)) trivial ((JQ.mk HP () ((M.allocS 7 9 1 (#[.string rr.s])).sub ⟨rfl,rfl,rfl,rfl,rfl,rfl,rfl,rfl,trivial⟩)))
    ·intro ua uw SV pV M0 hk hn hd
     obtain ⟨HP,xJ,M⟩:=M0
     replace M:Mx none w uw _:=M
     obtain ⟨s4,f49,q49⟩:=(show SV 4=true∧ua.eval (.tmp 49)=pV 4∧stE _ 4 (pV 4) from hd 49 (by decide))
     have e49:ua.eval (.tmp 49)=(pV 4):=f49
     obtain ⟨s7,f52,q52⟩:=(show SV 7=true∧ua.eval (.tmp 52)=pV 7∧stE _ 7 (pV 7) from hd 52 (by decide))
     have e52:ua.eval (.tmp 52)=(pV 7):=f52
     exact z4b rfl (run_appP M (k:=6) (D:=([]++D.take kk)) (L:=[rr.s]) (zea hk (z6c s4 rfl)) (pc_lit (M.at_ 7 _ (zya s7 rfl))) (by simp only [List.length_append,List.length_nil,List.length_take,List.length_cons,List.length_drop];omega) _ _ rfl e49 e52) fun v w2 h2=>⟨trivial,(JQ.mk (fun _=>s4) () (h2.sub ⟨rfl,rfl,rfl,rfl,rfl,rfl,(zwc s4 (zwc rfl (zzb (hn 12 (by kernel_rfl)) rfl))),rfl,trivial⟩))⟩
    ·intro ua uw SV pV M0 hk hn hd
     obtain ⟨HP,xJ,M⟩:=M0
     replace M:Mx none w uw _:=M
     have e3:ua.eval (.tmp 3)=.slice A3 D.length c3:=(show ua.eval (.tmp 3)=_ from hd 3 (by decide)).trans (G56 3 rfl)
     exact ze rfl (.slice A3 D.length c3) (zla _ (.inl rfl) e3) rfl ((JQ.mk HP () (M.sb)))
    ·intro ua uw SV pV M0 hk hn hd
     obtain ⟨HP,xJ,M⟩:=M0
     replace M:Mx none w uw _:=M
     have e10:ua.eval (.tmp 10)=zI (kk:Int):=(show ua.eval (.tmp 10)=_ from hd 10 (by decide)).trans (G56 10 rfl)
     exact ze rfl (zI (kk:Int)) (zla _ (.inl rfl) e10) rfl ((JQ.mk HP () (M.sb)))
    ·intro ua uw SV pV M0 hk hn hd
     obtain ⟨HP,xJ,M⟩:=M0
     replace M:Mx none w uw _:=M
     have e54:ua.eval (.tmp 54)=.slice A3 D.length c3:=zQ1 (hd 54 (by decide))
     have e55:ua.eval (.tmp 55)=zI (kk:Int):=zQ1 (hd 55 (by decide))
     exact ze rfl ((slD A3 c3 D.length kk)) (y_slS2 _ _ rfl e54 e55 rfl hkD) rfl ((JQ.mk HP () (M.sb)))
    ·intro ua uw SV pV M0 hk hn hd
     obtain ⟨HP,xJ,M⟩:=M0
     replace M:Mx none w uw _:=M
     obtain ⟨s8,f53,q53⟩:=(show SV 8=true∧ua.eval (.tmp 53)=pV 8∧stE _ 8 (pV 8) from hd 53 (by decide))
     have e53:ua.eval (.tmp 53)=(pV 8):=f53
     have e56:ua.eval (.tmp 56)=(slD A3 c3 D.length kk):=zQ1 (hd 56 (by decide))
     have s4:SV 4=true:=HP s8
     exact z4b rfl (run_appP M (k:=6) (D:=(([]++D.take kk)++[rr.s])) (L:=(D.drop kk)) (zea hk (z6c s8 (z6c s4 rfl))) (pc_drop (M.rowF (k:=2) rfl) hkD) (by simp only [List.length_append,List.length_nil,List.length_take,List.length_cons,List.length_drop];omega) _ _ rfl e53 e56) fun v w2 h2=>⟨trivial,(JQ.mk HP () (h2.sub ⟨rfl,rfl,rfl,rfl,rfl,rfl,(zwc s4 (zwc s8 rfl)),rfl,trivial⟩))⟩
    intro p57 a57 w57 M57 G57 y57
    obtain ⟨-,-,-,-,-,-,-,-,-,-,-,-,q12,-⟩:=y57
    obtain ⟨vq57,r12⟩:∃ v,p57 12=v:=⟨_,rfl⟩
    obtain ⟨-,xJ57,M57⟩:=M57
    replace M57:Mx _ _ w57 [(2,rowR 9 1 D.length (strV D) (.slice A3 D.length c3)),(0,blkO gx 72 (#[.slice (some ⟨gc,0,none⟩) 18 18,zI L,.bool V.dd])),(1,blkO gc 63 (celA V.c s n)),(3,bytR rr.l2 V22.v2),(4,bytR rr.l5 V22.v5),(5,blkR g24 37 (recA rr V22)),(6,zha true (zha true (zha true (rowR 9 1 ((([]++D.take kk)++[rr.s])++D.drop kk).length (strV ((([]++D.take kk)++[rr.s])++D.drop kk)) (p57 12)) (rowR 9 1 (([]++D.take kk)++[rr.s]).length (strV (([]++D.take kk)++[rr.s])) (p57 8))) (rowR 9 1 ([]++D.take kk).length (strV ([]++D.take kk)) (p57 4))) (z5a true (rowR 9 1 ([]:List ByteArray).length (strV ([]:List ByteArray)) (p57 0)))),(7,z5a true (slcR 9 1 #[.string rr.s] (p57 7)))]:=M57
    simp only [List.take,layV,Nat.zero_add,Nat.reduceAdd,r12] at G57
    rw [r12] at M57
    refine rm rfl G57 fun _ F58=>hK14 _ _ (zR (rm rfl F58 fun _ F59=>zc (w':=w57) rfl rfl F59 rfl (zI ((jn+1:Nat):Int)) (zoa _ _ _ _ rfl (F59 13 rfl) rfl (by omega) (by omega)) fun _ F60=>?_))
    refine rm rfl F60 fun _ F61=>?_
    have M62:=M57.moved (q:=6) (row:=2) rfl (by decide)
    subst ek9
    exact hK9 _ ⟨(jn+1),((([]++D.take kk)++[rr.s])++D.drop kk),vq57⟩ _ _ (by dsimp only;omega) ⟨rfl,⟨by (dsimp only;omega),by (dsimp only;rw [namL_yes hn1 (hn2 rfl),srt_app,hD];exact ins_end hin hlast)⟩⟩ (F61.sb) (M62.sb)
 ·have hj8:jn=8:=by omega
  refine zSk fun _ hK63=>zT fun _ hK64=>rm rfl F9 fun _ F65=>zc (w':=w9) rfl rfl F65 rfl (.bool false) (zka _ _ _ _ rfl (F65 11 rfl) rfl (decide_eq_false (show ¬(jn:Int)<8 by omega))) fun _ F66=>?_
  refine hK64 _ _ (wp_cond_false (F66 12 rfl) (wp_exit ?_))
  simp only [Exit.then,Exit.inBlock,↓reduceIte,Nat.reduceEqDiff]
  refine hK5 _ _ (zT fun _ hK67=>rm rfl F66 fun _ F68=>rm rfl F68 fun _ F69=>hK67 _ _ (wp_ret ?_))
  exact bodyPost_ret (res1 rfl (F69.get rfl)) F69.defers ⟨_,rfl,⟨A3,c3,by rw [←hM,←hj8,hD],fun h0=>(by
   have e9:srtL (namL V 8)=D:=by rw [←hj8];exact hD
   rw [←hM,e9] at h0 ⊢
   obtain ⟨g9,cur9,e1,e2,e3⟩:=names_row M9 (k:=2) rfl h0
   exact ⟨g9,cur9,e1,e2,e3⟩)⟩,M9.below⟩
section
open Go.Shelf
theorem names_ok:NamesOk:=fun gx gc K V L s n hi M hM w h=>rnames_any gx gc V L s n hi M hM w h
theorem lstep_all (g gx gc:Nat) {K E:Nat} (V:VltN) (s n sx nx:Nat→Value) (hP:PlOk K E V) (hK:K<255) (hE:E<999) (b:List UInt8) (bv:Value) (hb:b.length≤1000) (At:Option Addr) (mt ct:Nat) (xt:Nat→Int) (hmt:mt≤ct) (hmt1:mt≤10) (z:Int) (hz:0≤z∧z<1073741824) (w:World) (hr:RowsV w g V.c s n) (hg:w.heap[g]? = some (.cells (vltA V s n) 80 (0,0))) (hx:XOk w gx gc V sx nx) (hgx:¬(xR gx gc V sx nx).fp g) (hB:IsB w b bv) (hBg:¬bfp bv g) (hT:RdI w At mt xt) (hTg:(¬ifp At mt g)∧∀ b,ifp At mt b→¬(xR gx gc V sx nx).fp b):
  Calls Tryz.prog 16 #[(zO g),(zO gx),zI z,bv,.slice At mt ct] w fun e w'=>∃ t,e=.returned t∧t=.bool true∧∃ V' E',E'≤E+1∧PlOk (K+1) E' V'∧∃ wm s' n',VTo w wm g (zo 18 s n) V' s' n'∧XTo wm w' gx gc (zo 18 sx nx) V':=by
 by_cases h7:z%12≤7
 ·exact (lstep_any g gx gc V s n sx nx hP.inv hK hP.left b bv (.slice At mt ct) hb z hz h7 w hr hg hx hgx hB hBg).mono fun e w' ⟨t,h1,h2,V',h3,h4⟩=>⟨t,h1,h2,V',E,by omega,pl_step hP hK h3,h4⟩
 ·exact (lstepA_any g gx gc V s n sx nx hP hK hE bv At mt ct xt hmt hmt1 z hz (by omega) w hr hg hx hgx hT hTg).mono fun e w' ⟨t,h1,h2,V',h3,h4⟩=>by
   obtain ⟨E',h5,h6⟩:=pl_stepA hP hK hE h3
   exact ⟨t,h1,h2,V',E',h5,h6,h4⟩
end
section
open Go.Shelf
theorem y_addU8o {a:Act} {w:World} {o:Oper} (ty tz:TypeId) (x y:Operand) {p q:Int} (ho:o.op=.binOp .add ty x y tz) (hx:a.eval x=zY p) (hy:a.eval y=zY q):(execOp a.eval o).run Tryz.prog w=.ok (.value (zY (((zj (p+q)).toNat:Nat):Int))) w:=by
 unfold execOp;simp only [ho,hx,hy];simp [go_sem,ztb]
theorem u8_exo {a:Int} (h:0≤a) (h2:a<256):∃ c:UInt8,a=((c.toNat:Nat):Int):=⟨zj a,by have:=zvc a;omega⟩
def celVs (c:Nat→CelN) (s:Nat→Value):List (Value×Nat):=(List.range 18).map fun k=>(s k,(c k).s.length)
theorem celVs_mem {c:Nat→CelN} {s:Nat→Value} {k:Nat} (hk:k<18):(s k,(c k).s.length)∈celVs c s:=List.mem_map.2 ⟨k,List.mem_range.2 hk,rfl⟩
theorem cellsW_is {K:Nat} (g:Nat) (V:VltN) (s n:Nat→Value) (hi:InvV K V) (w:World) (h:HasV w g V s n):Calls Tryz.prog 28 #[(zO g)] w fun e w'=>∃ t,e=.returned t∧∃ gq s' n',t=.slice (some ⟨gq,0,none⟩) 18 18∧CelsAt w' w.heap.size gq V.c s' n'∧unfz (zo 18 s' n') w'∧Below w.heap.size w w':=
 (cellsW_any g V s n (z7b hi) w h).mono fun e w' ⟨gq,s',n',h1,h2,h3,h4⟩=>⟨_,h1,gq,s',n',rfl,h2,h3,h4⟩
theorem Mx.newCelsW {G:Option Nat} {w0 w w':World} {R:List (Nat×Res)} {gq:Nat} {c:Nat→CelN} {s n:Nat→Value} (M:Mx G w0 w R) (hb:Below w.heap.size w w') (kg kb:Nat) (hq:CelsAt w' w.heap.size gq c s n) (hu:unfz (zo 18 s n) w'):Mx G w0 w' ((kb,blobR (zo 18 s n) (celVs c s))::(kg,blkO gq 63 (celA c s n))::R):=by
 have M1:Mx G w0 w' ((kg,blkO gq 63 (celA c s n))::R):=(M.step hb).cons kg _ hq.1 blkO_dep (fun b hb=>by cases hb;exact z2a hq.1) (fun e=>by cases e) fun k r e hkk hw b h h2=>by
  rcases hw with hw | hw
  ·cases hw
  have h3:=M.lt k r e b h2
  have h4:b=gq:=h
  have:=hq.2.1
  omega
 have lo:∀ b,zo 18 s n b→w.heap.size≤b:=fun b ⟨j,hj,h⟩=>(hq.2.2.1 j hj).2.2 b h
 refine M1.cons kb _ ⟨hu,fun p hp=>?_⟩ blob_dep (fun b hb=>?_) (fun _ b hb=>.inl (Nat.le_trans M.le (lo b hb))) fun k r e hkk hw b h h2=>?_
 ·obtain ⟨j,hj,rfl⟩:=List.mem_map.1 hp
  have hj:=List.mem_range.1 hj
  exact ⟨fun g hg=>⟨j,hj,.inl hg⟩,(c j).s,rfl,(hq.2.2.1 j hj).1⟩
 ·obtain ⟨x,hx⟩:=hu b hb
  exact z2a hx
 ·rw [zx] at e
  split at e
  ·cases e
   obtain ⟨j,hj,hh⟩:=h
   have h5:b=gq:=h2
   subst h5
   rcases hh with hh | hh
   ·exact (hq.2.2.2 j hj).1 hh
   ·exact (hq.2.2.2 j hj).2 hh
  ·have:=M.lt k r e b h2
   have:=lo b h
   omega
theorem isb_max {w:World} {l:List UInt8} {v:Value} (h:IsB w l v):l.length≤9223372036854775807:=by
 obtain ⟨A,c,-,h1,h2,-⟩:=h
 unfold maxLen at h2
 omega
theorem get_isU {K:Nat} (g:Nat) (V:VltN) (s n:Nat→Value) (hi:InvV K V) (nm:ByteArray) (b:Bool) (r:RecN) (hb:decide (fst8 (zz V nm)<8)=b) (hr:recG V nm=r) (w:World) (h:HasV w g V s n):Calls Tryz.prog 24 #[(zO g),.string nm] w fun e w'=>∃ t,e=.returned t∧∃ V',t=.tuple #[.agg (recA r V'),.bool b]∧RecU w' r V'∧(∀ q,bfp V'.v2 q∨bfp V'.v5 q→w.heap.size≤q)∧Below w.heap.size w w':=by
 subst hb hr
 by_cases h8:fst8 (zz V nm)<8
 ·rw [decide_eq_true h8]
  exact get_yesU g V s n hi nm _ h8 rfl _ (if_pos h8).symm w h
 ·rw [decide_eq_false h8]
  refine (get_not g V s n hi nm (by have:=fst8_le (zz V nm);omega) w h).mono fun e w' ⟨h1,h2⟩=>⟨_,h1,⟨zN,zN⟩,by rw [show recG V nm=zeroRec from if_neg h8],?_,fun q hq=>(by rcases hq with hq | hq <;> exact absurd hq (zpa q)),h2⟩
  rw [show recG V nm=zeroRec from if_neg h8]
  exact ⟨zia _,zia _,fun g hg=>absurd hg (zpa g)⟩
theorem nms_new:srtL (namL (ageW zeroV) 8)=([]:List ByteArray):=by
 rw [namL_acc acc_new 8 (Nat.le_refl _)]
 rfl
end
theorem VaultOwn_walk (A0:Option Addr) (n0 cap0:Nat) (x0:Nat→Int)
  (A1:Option Addr) (n1 cap1:Nat) (l1:List UInt8) (hn1:l1.length=n1) (hc1:n1≤cap1) (hm1:cap1≤maxLen) (hz1:A1=none→cap1=0)
  (a2:Int) (hk2:0≤a2) (hl2:a2<256) (w:World) (hr0:RdI w A0 n0 x0) (hr1:Rd w A1 l1):
  Calls Tryz.prog 12 #[.slice A0 n0 cap0,.slice A1 n1 cap1,zY a2] w fun e w'=>e=.returned (.bool true)∧Below w.heap.size w w':=by
 have ib1:IsB w l1 (.slice A1 n1 cap1):=hr1.isB' hn1 hc1 hm1 hz1
 obtain ⟨c2,rfl⟩:=u8_exo hk2 hl2
 by_cases b0:60<l1.length
 ·refine zk (args:=[.slice A0 n0 cap0,.slice A1 n1 cap1,zY ((c2.toNat:Nat):Int)]) 115 Tryz.func12 rfl rfl rfl ?_
  intro fa F
  have M:=Mx.start w
  replace M:=M.argB 0 ib1 (fun g e=>by cases e)
  replace M:=M.argI 1 hr0 (fun g e=>by cases e)
  refine zT fun _ hK21=>rm rfl F fun _ F22=>hK21 _ _ (zSk fun _ hK23=>zT fun _ hK24=>zh rfl rfl F22 rfl rfl (zE Tryz.func13 rfl) #[] (args0) (zba (known6_any w)) ?_)
  rintro _ w25 a25 ⟨rfl,b25⟩ F25
  have M25:=M.step b25
  refine zc (w':=w25) rfl rfl F25 rfl (.bool false) (zgb _ _ rfl (F25 18 rfl)) fun _ F26=>?_
  refine hK24 _ _ (wp_cond_false (F26 19 rfl) (wp_skip (hK23 _ _ (zSk fun _ hK27=>zT fun _ hK28=>rm rfl F26 fun _ F29=>zc (w':=w25) rfl rfl F29 rfl (zI (l1.length:Int)) (z8a _ rfl (F29 20 rfl) (M25.isb (k:=0) rfl) rfl) fun _ F30=>?_))))
  refine zc (w':=w25) rfl rfl F30 rfl (.bool true) (zbc _ _ _ _ rfl (F30 21 rfl) rfl (decide_eq_true (show (60:Int)<(l1.length:Int) by omega))) fun _ F31=>?_
  refine hK28 _ _ (wp_cond_true (F31 22 rfl) (zT fun _ hK32=>rm rfl F31 fun a33 F33=>hK32 _ _ (wp_ret ?_)))
  try simp only [Exit.then,Exit.inBlock,Exit.jump]
  exact bodyPost_ret (res1 rfl (F33.get rfl)) F33.defers ⟨rfl,M25.below⟩
 ·obtain ⟨hE1,hI1,hf1,hd1⟩:=new_is
  have hA1:=acc_new
  obtain ⟨V1,hV1⟩:∃ x,ageW zeroV=x:=⟨_,rfl⟩
  rw [hV1] at hE1 hI1 hf1 hd1 hA1
  have hP1:=pl_new
  have hN1:=nms_new
  rw [hV1] at hP1 hN1
  refine zk (args:=[.slice A0 n0 cap0,.slice A1 n1 cap1,zY ((c2.toNat:Nat):Int)]) 115 Tryz.func12 rfl rfl rfl ?_
  intro fa F
  have M:=Mx.start w
  replace M:=M.argB 0 ib1 (fun g e=>by cases e)
  replace M:=M.argI 1 hr0 (fun g e=>by cases e)
  refine zT fun _ hK21=>rm rfl F fun _ F22=>hK21 _ _ (zSk fun _ hK23=>zT fun _ hK24=>zh rfl rfl F22 rfl rfl (zE Tryz.func13 rfl) #[] (args0) (zba (known6_any w)) ?_)
  rintro _ w25 a25 ⟨rfl,b25⟩ F25
  have M25:=M.step b25
  refine zc (w':=w25) rfl rfl F25 rfl (.bool false) (zgb _ _ rfl (F25 18 rfl)) fun _ F26=>?_
  refine hK24 _ _ (wp_cond_false (F26 19 rfl) (wp_skip (hK23 _ _ (zSk fun _ hK27=>zT fun _ hK28=>rm rfl F26 fun _ F29=>zc (w':=w25) rfl rfl F29 rfl (zI (l1.length:Int)) (z8a _ rfl (F29 20 rfl) (M25.isb (k:=0) rfl) rfl) fun _ F30=>?_))))
  refine zc (w':=w25) rfl rfl F30 rfl (.bool false) (zbc _ _ _ _ rfl (F30 21 rfl) rfl (decide_eq_false (show ¬(60:Int)<(l1.length:Int) by omega))) fun _ F31=>?_
  refine hK28 _ _ (wp_cond_false (F31 22 rfl) (wp_skip (hK27 _ _ (zT fun _ hK32=>zh rfl rfl F31 rfl rfl (zE Tryz.func14 rfl) #[] (args0) (vnew_is V1 hV1 w25) ?_))))
  rintro _ w33 a33 ⟨g33,rfl,hg33,s33,n33,hr33,ht33,hc33,b33⟩ F33
  have M33:=M25.newVault b33 2 3 hg33 hc33 hr33 ht33
  clear M25 b33 hg33 hc33 hr33 ht33
  refine zh rfl rfl F33 rfl rfl (zE Tryz.func14 rfl) #[] (args0) (vnew_is V1 hV1 w33) ?_
  rintro _ w34 a34 ⟨g34,rfl,hg34,s34,n34,hr34,ht34,hc34,b34⟩ F34
  have M34:=M33.newVault b34 4 5 hg34 hc34 hr34 ht34
  clear M33 b34 hg34 hc34 hr34 ht34
  refine zh rfl rfl F34 rfl rfl (zE Tryz.func15 rfl) #[] (args0) (xnew_is V1 hV1 w34) ?_
  rintro _ w35 a35 ⟨gx35,gc35,s35,n35,rfl,xo35,lx35,lc35,lr35,b35⟩ F35
  have M35:=M34.xnew 6 b35 xo35 lx35 lc35 lr35
  clear M34 b35 xo35 lx35 lc35 lr35
  refine rm rfl F35 fun _ F36=>rm rfl F36 fun _ F37=>rm rfl F37 fun _ F38=>hK32 _ _ (zSk fun _ hK39=>zT fun _ hK40=>rm rfl F38 fun _ F41=>zc (w':=w35) rfl rfl F41 rfl (.bool false) (y_eqPN 25 _ Tryz.underlying25 (by kernel_rfl) _ rfl (F41 26 rfl)) fun _ F42=>?_)
  refine rm rfl F42 fun _ F43=>rm rfl F43 fun _ F44=>zc (w':=w35) (zd rfl rfl rfl (F44 28 rfl)) rfl F44 rfl (.bool false) (y_eqPN 25 _ Tryz.underlying25 (by kernel_rfl) _ rfl (F44 29 rfl)) fun _ F45=>?_
  refine zc (w':=w35) rfl rfl F45 rfl (.bool false) (z0b rfl (F45 28 rfl) (F45 30 rfl)) fun _ F46=>?_
  refine hK40 _ _ (wp_cond_false (F46 31 rfl) (wp_skip (hK39 _ _ (zSk fun _ hK47=>zT fun _ hK48=>rm rfl F46 fun _ F49=>hK48 _ _ (wp_block ?_)))))
  refine zeb (α:=Nat×Nat×VltN×(Nat→Value)×(Nat→Value)×(Nat→Value)×(Nat→Value)) (n:=115) (G:=none) (w0:=w) (fun x=>[(0,.slice A0 n0 cap0),(1,.slice A1 n1 cap1),(2,zY ((c2.toNat:Nat):Int)),(7,(zO g33)),(8,(zO g34)),(9,(zO gx35)),(10,zI (x.1:Int))]) (fun x=>[(0,bytR l1 (.slice A1 n1 cap1)),(1,intR A0 n0 x0),(2,blkR g33 80 (vltA x.2.2.1 x.2.2.2.1 x.2.2.2.2.1)),(3,zua 0 18 x.2.2.1.c x.2.2.2.1 x.2.2.2.2.1),(4,blkR g34 80 (vltA V1 s34 n34)),(5,zua 0 18 V1.c s34 n34),(6,xR gx35 gc35 x.2.2.1 x.2.2.2.2.2.1 x.2.2.2.2.2.2)]) (fun k x=>k=(20-x.1)∧(x.1≤20∧x.2.1≤x.1+1∧PlOk (x.1+1) x.2.1 x.2.2.1)) _ ⟨0,1,V1,s33,n33,s35,n35⟩ ⟨rfl,⟨Nat.zero_le _,Nat.le_refl _,hP1⟩⟩ (F49.sb) (M35.sb) ?_
  rintro k50 ⟨jn,Ev,Vv,sv,nv,sx,nx⟩ a50 w50 K50 ⟨ek50,I50⟩ F50 M50 hK50
  replace F50:Fx 115 a50 [(0,.slice A0 n0 cap0),(1,.slice A1 n1 cap1),(2,zY ((c2.toNat:Nat):Int)),(7,(zO g33)),(8,(zO g34)),(9,(zO gx35)),(10,zI (jn:Int))]:=F50
  replace M50:Mx _ _ w50 [(0,bytR l1 (.slice A1 n1 cap1)),(1,intR A0 n0 x0),(2,blkR g33 80 (vltA Vv sv nv)),(3,zua 0 18 Vv.c sv nv),(4,blkR g34 80 (vltA V1 s34 n34)),(5,zua 0 18 V1.c s34 n34),(6,xR gx35 gc35 Vv sx nx)]:=M50
  replace I50:jn≤20∧Ev≤jn+1∧PlOk (jn+1) Ev Vv:=I50
  replace ek50:k50=(20-jn):=ek50
  obtain ⟨hj,hEj,hP⟩:=I50
  refine zSk fun _ hK51=>zT fun _ hK52=>rm rfl F50 fun _ F53=>rm rfl F53 fun _ F54=>zc (w':=w50) rfl rfl F54 rfl (zI (n0:Int)) (y_lnG 22 Tryz.underlying22 _ rfl (F54 33 rfl) rfl) fun _ F55=>?_
  by_cases h56:(jn:Int)<(n0:Int)
  ·refine zc (w':=w50) rfl rfl F55 rfl (.bool true) (zka _ _ _ _ rfl (F55 32 rfl) (F55 34 rfl) (decide_eq_true h56)) fun _ F57=>?_
   refine rm rfl F57 fun _ F58=>rm rfl F58 fun _ F59=>?_
   by_cases h60:(jn:Int)<20
   ·have xb:=hr0.2.1 jn
    obtain ⟨nn,hnn,hnnl⟩:∃ k:Nat,(x0 jn)%1073741824=(k:Int)∧k<1073741824:=in6 _ (by decide)
    refine zc (w':=w50) (zd rfl rfl rfl (F59 36 rfl)) rfl F59 rfl (.bool true) (zka _ _ _ _ rfl (F59 37 rfl) rfl (decide_eq_true h60)) fun _ F61=>?_
    refine zc (w':=w50) rfl rfl F61 rfl (.bool true) (zpb rfl (F61 36 rfl) (F61 38 rfl)) fun _ F62=>?_
    refine hK52 _ _ (wp_cond_true (F62 39 rfl) (wp_skip (hK51 _ _ (zSk fun _ hK63=>wp_block (zT fun _ hK64=>rm rfl F62 fun _ F65=>rm rfl F65 fun _ F66=>zc (w':=w50) rfl rfl F66 rfl ((ixV (.slice A0 n0 cap0) jn)) (y_ixJ _ _ rfl (F66 42 rfl) (M50.rdI (k:=1) rfl) (F66 43 rfl) rfl (by omega)) fun _ F67=>?_)))))
    refine zc (w':=w50) rfl rfl F67 rfl (zI (x0 jn)) (y_ldJ _ rfl (F67 44 rfl) (M50.rdI (k:=1) rfl) (by omega)) fun _ F68=>?_
    refine zh rfl rfl F68 rfl rfl (zE Tryz.func17 rfl) #[zI (x0 jn),zI 1073741824] (zfa (F68 45 rfl) rfl) (zba ((hnn▸within6_any (x0 jn) 1073741824 (by decide) (by decide) xb.1 xb.2 w50))) ?_
    rintro _ w69 a69 ⟨rfl,rfl⟩ F69
    refine rm rfl F69 fun _ F70=>hK64 _ _ (zSk fun _ hK71=>zT fun _ hK72=>rm rfl F70 fun _ F73=>rm rfl F73 fun _ F74=>rm rfl F74 fun _ F75=>rm rfl F75 fun _ F76=>?_)
    refine zh rfl rfl F76 rfl rfl (zE Tryz.func16 rfl) #[(zO g33),(zO gx35),zI (nn:Int),.slice A1 n1 cap1,zN] (args5 (F76 47 rfl) (F76 48 rfl) (F76 49 rfl) (F76 50 rfl) rfl) (lstep_all g33 gx35 gc35 Vv sv nv sx nx hP (by omega) (by omega) l1 (.slice A1 n1 cap1) (by omega) none 0 0 (fun _=>0) (Nat.le_refl _) (by decide) (nn:Int) ⟨by omega,by omega⟩ w50 (M50.rowsV (i:=3) (k:=2) rfl rfl (by decide)) (M50.blk (k:=2) rfl) (M50.xOk (k:=6) rfl) (fun h=>M50.dis 2 6 _ _ rfl rfl (by decide) rfl _ rfl h) (M50.isb (k:=0) rfl) (fun h=>M50.dis 2 0 _ _ rfl rfl (by decide) rfl _ rfl h) (rdI_none _) ⟨fun h=>absurd h.1 (Nat.not_lt_zero _),fun b hb=>absurd hb.1 (Nat.not_lt_zero _)⟩) ?_
    rintro _ w77 a77 ⟨rfl,V77,E77,le77,pl77,wm77,s77,n77,vt77,xt77⟩ F77
    obtain ⟨sx77,nx77,M77⟩:=(M50.vault (kg:=2) (kr:=3) rfl rfl vt77.grown vt77.blk vt77.rows vt77.fpt).xput (k:=6) rfl xt77
    clear M50 vt77 xt77
    refine zc (w':=w77) rfl rfl F77 rfl (.bool false) (zgb _ _ rfl (F77 51 rfl)) fun _ F78=>?_
    refine hK72 _ _ (wp_cond_false (F78 52 rfl) (wp_skip (hK71 _ _ (zT fun _ hK79=>rm rfl F78 fun _ F80=>zh rfl rfl F80 rfl rfl (zE Tryz.func28 rfl) #[(zO g33)] (zaa (F80 53 rfl)) (cellsW_is g33 V77 s77 n77 pl77.inv w77 (M77.hasV (kg:=2) (kr:=3) rfl rfl (by decide))) ?_))))
    rintro _ w81 a81 ⟨gq81,s81,n81,rfl,ce81,cu81,b81⟩ F81
    have M81:=M77.newCelsW b81 7 8 ce81 cu81
    clear M77 ce81 cu81 b81
    refine rm rfl F81 fun _ F82=>hK79 _ _ (zSk fun _ hK83=>zT fun _ hK84=>rm rfl F82 fun _ F85=>hK84 _ _ (wp_block ?_))
    refine zeb (α:=Nat) (n:=115) (G:=none) (w0:=w) (fun x=>[(0,.slice A0 n0 cap0),(1,.slice A1 n1 cap1),(2,zY ((c2.toNat:Nat):Int)),(7,(zO g33)),(8,(zO g34)),(9,(zO gx35)),(10,zI (jn:Int)),(12,.slice (some ⟨gq81,0,none⟩) 18 18),(13,zI (x:Int))]) (fun x=>[(0,bytR l1 (.slice A1 n1 cap1)),(1,intR A0 n0 x0),(2,blkR g33 80 (vltA V77 s77 n77)),(3,zua 0 18 V77.c s77 n77),(4,blkR g34 80 (vltA V1 s34 n34)),(5,zua 0 18 V1.c s34 n34),(6,xR gx35 gc35 V77 sx77 nx77),(7,blkO gq81 63 (celA V77.c s81 n81)),(8,blobR (zo 18 s81 n81) (celVs V77.c s81))]) (fun k x=>k=(18-x)∧(x≤18)) _ 0 ⟨rfl,(Nat.zero_le _)⟩ (F85.sb) (M81.sb) ?_
    rintro k86 kn a86 w86 K86 ⟨ek86,I86⟩ F86 M86 hK86
    replace F86:Fx 115 a86 [(0,.slice A0 n0 cap0),(1,.slice A1 n1 cap1),(2,zY ((c2.toNat:Nat):Int)),(7,(zO g33)),(8,(zO g34)),(9,(zO gx35)),(10,zI (jn:Int)),(12,.slice (some ⟨gq81,0,none⟩) 18 18),(13,zI (kn:Int))]:=F86
    replace M86:Mx _ _ w86 [(0,bytR l1 (.slice A1 n1 cap1)),(1,intR A0 n0 x0),(2,blkR g33 80 (vltA V77 s77 n77)),(3,zua 0 18 V77.c s77 n77),(4,blkR g34 80 (vltA V1 s34 n34)),(5,zua 0 18 V1.c s34 n34),(6,xR gx35 gc35 V77 sx77 nx77),(7,blkO gq81 63 (celA V77.c s81 n81)),(8,blobR (zo 18 s81 n81) (celVs V77.c s81))]:=M86
    replace I86:kn≤18:=I86
    replace ek86:k86=(18-kn):=ek86
    by_cases hkl:kn<18
    ·obtain ⟨nb,hnb⟩:∃ x,(V77.c kn).s.length=x:=⟨_,rfl⟩
     have hnb8:nb≤1000:=by rw [←hnb];exact (z7b pl77.inv kn hkl).1
     refine zSk fun _ hK87=>zT fun _ hK88=>rm rfl F86 fun _ F89=>rm rfl F89 fun _ F90=>zc (w':=w86) rfl rfl F90 rfl (zI 18) (y_lnG 49 Tryz.underlying49 _ rfl (F90 56 rfl) rfl) fun _ F91=>?_
     refine zc (w':=w86) rfl rfl F91 rfl (.bool true) (zka _ _ _ _ rfl (F91 55 rfl) (F91 57 rfl) (decide_eq_true (show (kn:Int)<18 by omega))) fun _ F92=>?_
     refine hK88 _ _ (wp_cond_true (F92 58 rfl) (wp_skip (hK87 _ _ (zSk fun _ hK93=>wp_block (zT fun _ hK94=>rm rfl F92 fun _ F95=>hK94 _ _ (wp_block ?_))))))
     refine zeb (α:=Nat) (n:=115) (G:=none) (w0:=w) (fun x=>[(0,.slice A0 n0 cap0),(1,.slice A1 n1 cap1),(2,zY ((c2.toNat:Nat):Int)),(7,(zO g33)),(8,(zO g34)),(9,(zO gx35)),(10,zI (jn:Int)),(12,.slice (some ⟨gq81,0,none⟩) 18 18),(13,zI (kn:Int)),(14,zI (x:Int))]) (fun x=>[(0,bytR l1 (.slice A1 n1 cap1)),(1,intR A0 n0 x0),(2,blkR g33 80 (vltA V77 s77 n77)),(3,zua 0 18 V77.c s77 n77),(4,blkR g34 80 (vltA V1 s34 n34)),(5,zua 0 18 V1.c s34 n34),(6,xR gx35 gc35 V77 sx77 nx77),(7,blkO gq81 63 (celA V77.c s81 n81)),(8,blobR (zo 18 s81 n81) (celVs V77.c s81))]) (fun k x=>k=(nb-x)∧(x≤nb)) _ 0 ⟨rfl,(Nat.zero_le _)⟩ (F95.sb) (M86.sb) ?_
     rintro k96 jc a96 w96 K96 ⟨ek96,I96⟩ F96 M96 hK96
     replace F96:Fx 115 a96 [(0,.slice A0 n0 cap0),(1,.slice A1 n1 cap1),(2,zY ((c2.toNat:Nat):Int)),(7,(zO g33)),(8,(zO g34)),(9,(zO gx35)),(10,zI (jn:Int)),(12,.slice (some ⟨gq81,0,none⟩) 18 18),(13,zI (kn:Int)),(14,zI (jc:Int))]:=F96
     replace M96:Mx _ _ w96 [(0,bytR l1 (.slice A1 n1 cap1)),(1,intR A0 n0 x0),(2,blkR g33 80 (vltA V77 s77 n77)),(3,zua 0 18 V77.c s77 n77),(4,blkR g34 80 (vltA V1 s34 n34)),(5,zua 0 18 V1.c s34 n34),(6,xR gx35 gc35 V77 sx77 nx77),(7,blkO gq81 63 (celA V77.c s81 n81)),(8,blobR (zo 18 s81 n81) (celVs V77.c s81))]:=M96
     replace I96:jc≤nb:=I96
     replace ek96:k96=(nb-jc):=ek96
     have hjc:=I96
     obtain ⟨lv,hlv,hB⟩:=M96.blobAt (k:=8) rfl (celVs_mem hkl)
     have hlv:lv.length=(V77.c kn).s.length:=hlv
     by_cases hlt:jc<nb
     ·obtain ⟨bb,hbb⟩:∃ b,lv[jc]? = some b:=⟨_,List.getElem?_eq_getElem (by omega)⟩
      refine zSk fun _ hK97=>zT fun _ hK98=>rm rfl F96 fun _ F99=>rm rfl F99 fun _ F100=>rm rfl F100 fun _ F101=>zc (w':=w96) rfl rfl F101 rfl (zP gq81 (3*kn)) (zcc 49 (s:=3) Tryz.underlying49 (by kernel_rfl) _ _ rfl (F101 62 rfl) (F101 63 rfl) rfl hkl ((Nat.zero_add _).trans (Nat.mul_comm kn 3))) fun _ F102=>?_
      refine zc (w':=w96) rfl rfl F102 rfl (zP gq81 (3*kn+0)) (y_fa (off:=0) rfl (F102 64 rfl) (by kernel_rfl) rfl) fun _ F103=>?_
      refine zc (w':=w96) rfl rfl F103 rfl ((s81 kn)) (zda _ _ rfl (F103 65 rfl) (M96.roB (k:=7) rfl) (cel_s V77.c s81 n81 hkl) Tryz.underlying23 rfl) fun _ F104=>?_
      refine zc (w':=w96) rfl rfl F104 rfl (zI (nb:Int)) (z8a _ rfl (F104 66 rfl) hB (show ((lv.length:Nat):Int)=(nb:Int) by omega)) fun _ F105=>?_
      refine zc (w':=w96) rfl rfl F105 rfl (.bool true) (zka _ _ _ _ rfl (F105 61 rfl) (F105 67 rfl) (decide_eq_true (show (jc:Int)<(nb:Int) by omega))) fun _ F106=>?_
      refine hK98 _ _ (wp_cond_true (F106 68 rfl) (wp_skip (hK97 _ _ (zSk fun _ hK107=>wp_block (zR (rm rfl F106 fun _ F108=>rm rfl F108 fun _ F109=>zc (w':=w96) rfl rfl F109 rfl (zP gq81 (3*kn)) (zcc 49 (s:=3) Tryz.underlying49 (by kernel_rfl) _ _ rfl (F109 71 rfl) (F109 72 rfl) rfl hkl ((Nat.zero_add _).trans (Nat.mul_comm kn 3))) fun _ F110=>?_))))))
      refine zc (w':=w96) rfl rfl F110 rfl (zP gq81 (3*kn+0)) (y_fa (off:=0) rfl (F110 73 rfl) (by kernel_rfl) rfl) fun _ F111=>?_
      refine zc (w':=w96) rfl rfl F111 rfl ((s81 kn)) (zda _ _ rfl (F111 74 rfl) (M96.roB (k:=7) rfl) (cel_s V77.c s81 n81 hkl) Tryz.underlying23 rfl) fun _ F112=>?_
      refine rm rfl F112 fun _ F113=>zc (w':=w96) rfl rfl F113 rfl ((ixV ((s81 kn)) jc)) (y_ixB _ _ rfl (F113 75 rfl) hB (F113 76 rfl) rfl (by omega)) fun _ F114=>?_
      refine zc (w':=w96) rfl rfl F114 rfl (zY ((bb.toNat:Nat):Int)) (y_ldB _ rfl (F114 77 rfl) hB hbb rfl) fun _ F115=>?_
      refine rm rfl F115 fun _ F116=>zc (w':=w96) rfl rfl F116 rfl (zY (((zj (((bb.toNat:Nat):Int)+((c2.toNat:Nat):Int))).toNat:Nat):Int)) (y_addU8o _ _ _ _ rfl (F116 78 rfl) (F116 79 rfl)) fun _ F117=>?_
      refine zc (w':=w96) rfl rfl F117 rfl ((ixV ((s81 kn)) jc)) (y_ixB _ _ rfl (F117 75 rfl) hB (F117 76 rfl) rfl (by omega)) fun _ F118=>?_
      refine wl_doM rfl rfl F118 (run_setW M96 (k:=8) rfl (celVs_mem hkl) _ _ rfl (F118 81 rfl) (zj (((bb.toNat:Nat):Int)+((c2.toNat:Nat):Int))) (F118 80 rfl) rfl (by dsimp only;omega)) ?_
      intro w119 M119
      refine hK107 _ _ (zR (rm rfl F118 fun _ F120=>zc (w':=w119) rfl rfl F120 rfl (zI ((jc+1:Nat):Int)) (zoa _ _ _ _ rfl (F120 69 rfl) rfl (by omega) (by omega)) fun _ F121=>?_))
      refine rm rfl F121 fun _ F122=>?_
      subst ek96
      exact hK96 _ (jc+1) _ _ (by omega) ⟨rfl,(by omega)⟩ (F122.sb) (M119.sb)
     ·refine zSk fun _ hK123=>zT fun _ hK124=>rm rfl F96 fun _ F125=>rm rfl F125 fun _ F126=>rm rfl F126 fun _ F127=>zc (w':=w96) rfl rfl F127 rfl (zP gq81 (3*kn)) (zcc 49 (s:=3) Tryz.underlying49 (by kernel_rfl) _ _ rfl (F127 62 rfl) (F127 63 rfl) rfl hkl ((Nat.zero_add _).trans (Nat.mul_comm kn 3))) fun _ F128=>?_
      refine zc (w':=w96) rfl rfl F128 rfl (zP gq81 (3*kn+0)) (y_fa (off:=0) rfl (F128 64 rfl) (by kernel_rfl) rfl) fun _ F129=>?_
      refine zc (w':=w96) rfl rfl F129 rfl ((s81 kn)) (zda _ _ rfl (F129 65 rfl) (M96.roB (k:=7) rfl) (cel_s V77.c s81 n81 hkl) Tryz.underlying23 rfl) fun _ F130=>?_
      refine zc (w':=w96) rfl rfl F130 rfl (zI (nb:Int)) (z8a _ rfl (F130 66 rfl) hB (show ((lv.length:Nat):Int)=(nb:Int) by omega)) fun _ F131=>?_
      refine zc (w':=w96) rfl rfl F131 rfl (.bool false) (zka _ _ _ _ rfl (F131 61 rfl) (F131 67 rfl) (decide_eq_false (show ¬(jc:Int)<(nb:Int) by omega))) fun _ F132=>?_
      refine hK124 _ _ (wp_cond_false (F132 68 rfl) (wp_exit ?_))
      simp only [Exit.then,Exit.inBlock,↓reduceIte,Nat.reduceEqDiff]
      refine hK93 _ _ (zR (rm rfl F132 fun _ F133=>zc (w':=w96) rfl rfl F133 rfl (zI ((kn+1:Nat):Int)) (zoa _ _ _ _ rfl (F133 59 rfl) rfl (by omega) (by omega)) fun _ F134=>?_))
      refine rm rfl F134 fun _ F135=>?_
      subst ek86
      exact hK86 _ (kn+1) _ _ (by omega) ⟨rfl,(by omega)⟩ (F135.sb) (M96.sb)
    ·refine zSk fun _ hK136=>zT fun _ hK137=>rm rfl F86 fun _ F138=>rm rfl F138 fun _ F139=>zc (w':=w86) rfl rfl F139 rfl (zI 18) (y_lnG 49 Tryz.underlying49 _ rfl (F139 56 rfl) rfl) fun _ F140=>?_
     refine zc (w':=w86) rfl rfl F140 rfl (.bool false) (zka _ _ _ _ rfl (F140 55 rfl) (F140 57 rfl) (decide_eq_false (show ¬(kn:Int)<18 by omega))) fun _ F141=>?_
     refine hK137 _ _ (wp_cond_false (F141 58 rfl) (wp_exit ?_))
     simp only [Exit.then,Exit.inBlock,↓reduceIte,Nat.reduceEqDiff]
     refine hK83 _ _ (zT fun _ hK142=>rm rfl F141 fun _ F143=>?_)
     obtain ⟨ba,hba⟩:∃ x,decide (fst8 (zz V77 ({ data:=#[97] }))<8)=x:=⟨_,rfl⟩
     obtain ⟨ra,hra⟩:∃ x,recG V77 ({ data:=#[97] })=x:=⟨_,rfl⟩
     refine zh rfl rfl F143 rfl rfl (zE Tryz.func24 rfl) #[(zO g33),.string ({ data:=#[97] })] (zfa (F143 83 rfl) rfl) (get_isU g33 V77 s77 n77 pl77.inv ({ data:=#[97] }) ba ra hba hra w86 (M86.hasV (kg:=2) (kr:=3) rfl rfl (by decide))) ?_
     rintro _ w144 a144 ⟨V144,rfl,is144,lo144,b144⟩ F144
     obtain ⟨vs2,vs5⟩:=V144
     obtain ⟨As,cs,rfl⟩:=(show IsB _ ra.l2 vs2 from is144.h2).shape
     obtain ⟨nr,hnr⟩:∃ x,ra.l2.length=x:=⟨_,rfl⟩
     have hnr8:=isb_max is144.h2
     rw [hnr] at hnr8
     have M144:=M86.blob b144 9 (fp:=bfp (.slice As ra.l2.length cs)) (Vs:=[(.slice As ra.l2.length cs,ra.l2.length)]) is144.u (by
      intro p hp
      obtain rfl:=List.mem_singleton.1 hp
      exact ⟨fun g h=>h,ra.l2,rfl,is144.h2⟩) (fun g h=>lo144 g (.inl h))
     clear M86 b144 lo144
     refine zAx 3 [(82,.tuple #[.agg (recA ra ⟨.slice As ra.l2.length cs,vs5⟩),.bool ba]),(85,.agg (recA ra ⟨.slice As ra.l2.length cs,vs5⟩)),(86,.bool ba)] [] dnil [] F144 fun _ F145=>?_
     refine zq rfl rfl F145 rfl M144 10 (t:=37) (c:=recA ⟨0, "".toUTF8,[],0,0,[],0,0,0⟩ ⟨zN,zN⟩) (by unfold execOp;kernel_rfl) ?_
     intro g146 a146 w146 F146 M146
     refine zt rfl rfl F146 M146 (k:=10) rfl _ _ _ rfl (F146 15 rfl) (F146 85 rfl) (recA ra ⟨.slice As ra.l2.length cs,vs5⟩) _ rfl (zL rfl) (z6a is144.is) (zca rfl) (by kernel_rfl) ?_
     intro w147 M147
     refine rm rfl F146 fun _ F148=>hK142 _ _ (zSk fun _ hK149=>zT fun _ hK150=>rm rfl F148 fun _ F151=>hK150 _ _ (wp_block ?_))
     refine zeb (α:=Nat) (n:=115) (G:=none) (w0:=w) (fun x=>[(0,.slice A0 n0 cap0),(1,.slice A1 n1 cap1),(2,zY ((c2.toNat:Nat):Int)),(7,(zO g33)),(8,(zO g34)),(9,(zO gx35)),(10,zI (jn:Int)),(15,(zO g146)),(17,zI (x:Int))]) (fun x=>[(0,bytR l1 (.slice A1 n1 cap1)),(1,intR A0 n0 x0),(2,blkR g33 80 (vltA V77 s77 n77)),(3,zua 0 18 V77.c s77 n77),(4,blkR g34 80 (vltA V1 s34 n34)),(5,zua 0 18 V1.c s34 n34),(6,xR gx35 gc35 V77 sx77 nx77),(7,blkO gq81 63 (celA V77.c s81 n81)),(8,blobR (zo 18 s81 n81) (celVs V77.c s81)),(9,blobR (bfp (.slice As ra.l2.length cs)) [(.slice As ra.l2.length cs,ra.l2.length)]),(10,blkR g146 37 (recA ra ⟨.slice As ra.l2.length cs,vs5⟩))]) (fun k x=>k=(nr-x)∧(x≤nr)) _ 0 ⟨rfl,(Nat.zero_le _)⟩ (F151.sb) (M147.sb) ?_
     rintro k152 jc a152 w152 K152 ⟨ek152,I152⟩ F152 M152 hK152
     replace F152:Fx 115 a152 [(0,.slice A0 n0 cap0),(1,.slice A1 n1 cap1),(2,zY ((c2.toNat:Nat):Int)),(7,(zO g33)),(8,(zO g34)),(9,(zO gx35)),(10,zI (jn:Int)),(15,(zO g146)),(17,zI (jc:Int))]:=F152
     replace M152:Mx _ _ w152 [(0,bytR l1 (.slice A1 n1 cap1)),(1,intR A0 n0 x0),(2,blkR g33 80 (vltA V77 s77 n77)),(3,zua 0 18 V77.c s77 n77),(4,blkR g34 80 (vltA V1 s34 n34)),(5,zua 0 18 V1.c s34 n34),(6,xR gx35 gc35 V77 sx77 nx77),(7,blkO gq81 63 (celA V77.c s81 n81)),(8,blobR (zo 18 s81 n81) (celVs V77.c s81)),(9,blobR (bfp (.slice As ra.l2.length cs)) [(.slice As ra.l2.length cs,ra.l2.length)]),(10,blkR g146 37 (recA ra ⟨.slice As ra.l2.length cs,vs5⟩))]:=M152
     replace I152:jc≤nr:=I152
     replace ek152:k152=(nr-jc):=ek152
     have hjc:=I152
     obtain ⟨lv2,hlv2,hB2⟩:=M152.blobAt (k:=9) rfl (List.mem_singleton.2 rfl)
     have hlv2:lv2.length=ra.l2.length:=hlv2
     by_cases hlt:jc<nr
     ·obtain ⟨bb,hbb⟩:∃ b,lv2[jc]? = some b:=⟨_,List.getElem?_eq_getElem (by omega)⟩
      refine zSk fun _ hK153=>zT fun _ hK154=>zAx 3 [(87,zI (jc:Int)),(88,(zP g146 2)),(89,.slice As ra.l2.length cs)] [0] (zu (M152.blk (k:=10) rfl) dnil) [g146] F152 fun _ F155=>?_
      refine zc (w':=w152) rfl rfl F155 rfl (zI (nr:Int)) (z8a _ rfl (F155 89 rfl) hB2 (show ((lv2.length:Nat):Int)=(nr:Int) by omega)) fun _ F156=>?_
      refine zc (w':=w152) rfl rfl F156 rfl (.bool true) (zka _ _ _ _ rfl (F156 87 rfl) (F156 90 rfl) (decide_eq_true (show (jc:Int)<(nr:Int) by omega))) fun _ F157=>?_
      refine hK154 _ _ (wp_cond_true (F157 91 rfl) (wp_skip (hK153 _ _ (zSk fun _ hK158=>wp_block (zR (zAx 3 [(94,(zP g146 2)),(95,.slice As ra.l2.length cs),(96,zI (jc:Int))] [0] (zu (M152.blk (k:=10) rfl) dnil) [g146] F157 fun _ F159=>?_))))))
      refine zc (w':=w152) rfl rfl F159 rfl ((ixV (.slice As ra.l2.length cs) jc)) (y_ixB _ _ rfl (F159 95 rfl) hB2 (F159 96 rfl) rfl (by omega)) fun _ F160=>?_
      refine zc (w':=w152) rfl rfl F160 rfl (zY ((bb.toNat:Nat):Int)) (y_ldB _ rfl (F160 97 rfl) hB2 hbb rfl) fun _ F161=>?_
      refine rm rfl F161 fun _ F162=>zc (w':=w152) rfl rfl F162 rfl (zY (((zj (((bb.toNat:Nat):Int)+((c2.toNat:Nat):Int))).toNat:Nat):Int)) (y_addU8o _ _ _ _ rfl (F162 98 rfl) (F162 99 rfl)) fun _ F163=>?_
      refine zc (w':=w152) rfl rfl F163 rfl ((ixV (.slice As ra.l2.length cs) jc)) (y_ixB _ _ rfl (F163 95 rfl) hB2 (F163 96 rfl) rfl (by omega)) fun _ F164=>?_
      refine wl_doM rfl rfl F164 (run_setW M152 (k:=9) rfl (List.mem_singleton.2 rfl) _ _ rfl (F164 101 rfl) (zj (((bb.toNat:Nat):Int)+((c2.toNat:Nat):Int))) (F164 100 rfl) rfl (by dsimp only;omega)) ?_
      intro w165 M165
      refine hK158 _ _ (zR (rm rfl F164 fun _ F166=>zc (w':=w165) rfl rfl F166 rfl (zI ((jc+1:Nat):Int)) (zoa _ _ _ _ rfl (F166 92 rfl) rfl (by omega) (by omega)) fun _ F167=>?_))
      refine rm rfl F167 fun _ F168=>?_
      subst ek152
      exact hK152 _ (jc+1) _ _ (by omega) ⟨rfl,(by omega)⟩ (F168.sb) (M165.sb)
     ·refine zSk fun _ hK169=>zT fun _ hK170=>zAx 3 [(87,zI (jc:Int)),(88,(zP g146 2)),(89,.slice As ra.l2.length cs)] [0] (zu (M152.blk (k:=10) rfl) dnil) [g146] F152 fun _ F171=>?_
      refine zc (w':=w152) rfl rfl F171 rfl (zI (nr:Int)) (z8a _ rfl (F171 89 rfl) hB2 (show ((lv2.length:Nat):Int)=(nr:Int) by omega)) fun _ F172=>?_
      refine zc (w':=w152) rfl rfl F172 rfl (.bool false) (zka _ _ _ _ rfl (F172 87 rfl) (F172 90 rfl) (decide_eq_false (show ¬(jc:Int)<(nr:Int) by omega))) fun _ F173=>?_
      refine hK170 _ _ (wp_cond_false (F173 91 rfl) (wp_exit ?_))
      simp only [Exit.then,Exit.inBlock,↓reduceIte,Nat.reduceEqDiff]
      refine hK149 _ _ (zT fun _ hK174=>rm rfl F173 fun _ F175=>rm rfl F175 fun _ F176=>zh rfl rfl F176 rfl rfl (zE Tryz.func18 rfl) #[(zO g33),(zO gx35)] (zfa (F176 102 rfl) (F176 103 rfl)) (zba ((same_any6 names_ok g33 gx35 gc35 V77 s77 n77 sx77 nx77 pl77 (by omega) w152 (M152.hasV (kg:=2) (kr:=3) rfl rfl (by decide)) (M152.xOk (k:=6) rfl).has))) ?_)
      rintro _ w177 a177 ⟨rfl,b177⟩ F177
      have M177:=M152.step b177
      refine zc (w':=w177) rfl rfl F177 rfl (.bool false) (zgb _ _ rfl (F177 104 rfl)) fun _ F178=>?_
      refine hK174 _ _ (wp_cond_false (F178 105 rfl) (wp_skip (hK63 _ _ (zR (rm rfl F178 fun _ F179=>zc (w':=w177) rfl rfl F179 rfl (zI ((jn+1:Nat):Int)) (zoa _ _ _ _ rfl (F179 40 rfl) rfl (by omega) (by omega)) fun _ F180=>?_)))))
      refine rm rfl F180 fun _ F181=>?_
      subst ek50
      exact hK50 _ ⟨(jn+1),E77,V77,s77,n77,sx77,nx77⟩ _ _ (by omega) ⟨rfl,⟨by omega,by (dsimp only;omega),pl77⟩⟩ (F181.sb) (M177.sb)
   ·refine zc (w':=w50) (zd rfl rfl rfl (F59 36 rfl)) rfl F59 rfl (.bool false) (zka _ _ _ _ rfl (F59 37 rfl) rfl (decide_eq_false h60)) fun _ F182=>?_
    refine zc (w':=w50) rfl rfl F182 rfl (.bool false) (zpb rfl (F182 36 rfl) (F182 38 rfl)) fun _ F183=>?_
    refine hK52 _ _ (wp_cond_false (F183 39 rfl) (wp_exit ?_))
    simp only [Exit.then,Exit.inBlock,↓reduceIte,Nat.reduceEqDiff]
    refine hK47 _ _ (zT fun _ hK184=>rm rfl F183 fun _ F185=>zh rfl rfl F185 rfl rfl (zE Tryz.func25 rfl) #[(zO g34)] (zaa (F185 106 rfl)) (names_is g34 V1 s34 n34 hI1 ([]:List ByteArray) hN1 w50 (M50.hasV (kg:=4) (kr:=5) rfl rfl (by decide))) ?_)
    rintro _ w186 a186 ⟨tx186,b186⟩ F186
    obtain ⟨A186,c186,e186,-⟩:=tx186
    subst e186
    have M186:=M50.step b186
    clear M50 b186
    refine zc (w':=w186) rfl rfl F186 rfl (zI 0) (y_lnG 45 Tryz.underlying45 _ rfl (F186 107 rfl) rfl) fun _ F187=>?_
    refine zAx 3 [(109,.bool true),(110,.bool true),(111,(zO g34))] [] dnil [] F187 fun _ F188=>?_
    refine zh (zd rfl rfl rfl (F188 110 rfl)) rfl F188 rfl rfl (zE Tryz.func26 rfl) #[(zO g34)] (zaa (F188 111 rfl)) (zba ((boot_is g34 V1 s34 n34 hI1 hE1 w186 (M186.hasV (kg:=4) (kr:=5) rfl rfl (by decide))))) ?_
    rintro _ w189 a189 ⟨rfl,b189⟩ F189
    have M189:=M186.step b189
    refine zAx 3 [(113,.bool true),(114,.bool true),(6,.bool true)] [] dnil [] F189 fun _ F190=>?_
    exact hK184 _ _ (wp_ret (bodyPost_ret (res1 rfl (F190.get rfl)) F190.defers ⟨rfl,M189.below⟩))
  ·refine zc (w':=w50) rfl rfl F55 rfl (.bool false) (zka _ _ _ _ rfl (F55 32 rfl) (F55 34 rfl) (decide_eq_false h56)) fun _ F191=>?_
   refine zAx 4 [(36,.bool false),(37,undef),(38,undef),(39,.bool false)] [] dnil [] F191 fun _ F192=>?_
   refine hK52 _ _ (wp_cond_false (F192 39 rfl) (wp_exit ?_))
   simp only [Exit.then,Exit.inBlock,↓reduceIte,Nat.reduceEqDiff]
   refine hK47 _ _ (zT fun _ hK193=>rm rfl F192 fun _ F194=>zh rfl rfl F194 rfl rfl (zE Tryz.func25 rfl) #[(zO g34)] (zaa (F194 106 rfl)) (names_is g34 V1 s34 n34 hI1 ([]:List ByteArray) hN1 w50 (M50.hasV (kg:=4) (kr:=5) rfl rfl (by decide))) ?_)
   rintro _ w195 a195 ⟨tx195,b195⟩ F195
   obtain ⟨A195,c195,e195,-⟩:=tx195
   subst e195
   have M195:=M50.step b195
   clear M50 b195
   refine zc (w':=w195) rfl rfl F195 rfl (zI 0) (y_lnG 45 Tryz.underlying45 _ rfl (F195 107 rfl) rfl) fun _ F196=>?_
   refine zAx 3 [(109,.bool true),(110,.bool true),(111,(zO g34))] [] dnil [] F196 fun _ F197=>?_
   refine zh (zd rfl rfl rfl (F197 110 rfl)) rfl F197 rfl rfl (zE Tryz.func26 rfl) #[(zO g34)] (zaa (F197 111 rfl)) (zba ((boot_is g34 V1 s34 n34 hI1 hE1 w195 (M195.hasV (kg:=4) (kr:=5) rfl rfl (by decide))))) ?_
   rintro _ w198 a198 ⟨rfl,b198⟩ F198
   have M198:=M195.step b198
   refine zAx 3 [(113,.bool true),(114,.bool true),(6,.bool true)] [] dnil [] F198 fun _ F199=>?_
   exact hK193 _ _ (wp_ret (bodyPost_ret (res1 rfl (F199.get rfl)) F199.defers ⟨rfl,M198.below⟩))
end Go.Proofs.YtmjbnmbobocpdaaGreat
