/- What VaultOwn stands on, part 7. -/
import Derived.Deep.AppendSrc
import Derived.Test.YtmjbnmbobocpdaaGreatVaultOwnP1
import Derived.Test.YtmjbnmbobocpdaaGreatVaultOwnP2
import Derived.Test.YtmjbnmbobocpdaaGreatVaultOwnP3
import Derived.Test.YtmjbnmbobocpdaaGreatVaultOwnP4
import Derived.Test.YtmjbnmbobocpdaaGreatVaultOwnP5
import Derived.Test.YtmjbnmbobocpdaaGreatVaultOwnP6
set_option maxRecDepth 100000
set_option maxHeartbeats 8000000
set_option linter.unusedVariables false
set_option linter.unusedSimpArgs false
namespace Go.Proofs.YtmjbnmbobocpdaaGreat
open Go.ChangeShapes Go.WideShapes Go.ChangeAt Go.RowKit
theorem y_sliceSum {a:Act} {w:World} {o:Oper} (x:Operand) (ho:o.op=.slice 65 x none none none) {g:Nat} (hx:a.eval x=(zO g)):(execOp a.eval o).run Tryz.prog w=.ok (.value (.slice (some ⟨g,0,none⟩) 16 16)) w:=by
 have h:=slice_sum w g
 unfold execOp
 simp only [ho,hx]
 simp only [Option.map_none,Sem.run_bind]
 rw [h];rfl
theorem arr16_get (y:Nat→Int) {j:Nat} (h:j<16):(z3a y)[j]? = some (zY (y j)):=by
 have:j=0∨j=1∨j=2∨j=3∨j=4∨j=5∨j=6∨j=7∨j=8∨j=9∨j=10∨j=11∨j=12∨j=13∨j=14∨j=15:=by omega
 rcases this with rfl | rfl | rfl | rfl | rfl | rfl | rfl | rfl | rfl | rfl | rfl | rfl | rfl | rfl | rfl | rfl <;> rfl
theorem arr16_rd {w:World} {g:Nat} {y:Nat→Int} {t:TypeId} (h:w.heap[g]? = some (.cells (z3a y) t (0,0))) (hy:∀ k,0≤y k∧y k<256):Rd w (some ⟨g,0,none⟩) (sumY y):=fun _=>by
 refine ⟨_,rfl,z2a h,fun j b hj=>?_⟩
 have hj16:j<16:=by have:=(List.getElem?_eq_some_iff.1 hj).1;rwa [sumY_len] at this
 rw [zna,Nat.zero_add]
 unfold sumY at hj
 rw [List.getElem?_map,List.getElem?_range hj16] at hj
 obtain rfl:=Option.some.inj hj
 have hc:w.cell? ⟨g,j,none⟩=some (zY (y j)):=by simp [World.cell?,h,arr16_get y hj16]
 rw [hc]
 unfold bv
 rw [sumY_val (hy j)]
theorem isb_sum {w:World} {g:Nat} {y:Nat→Int} {t:TypeId} (hy:∀ k,0≤y k∧y k<256) (h:w.heap[g]? = some (.cells (z3a y) t (0,0))):IsB w (sumY y) (.slice (some ⟨g,0,none⟩) 16 16):=
 ⟨some ⟨g,0,none⟩,16,(by rw [sumY_len]),(by rw [sumY_len];exact Nat.le_refl _),(by unfold maxLen;decide),(fun e=>by cases e),arr16_rd h hy⟩
theorem isP3 {w:World} {u v1 v2 v3:Value} {l1 l2 l3:List UInt8} (h:(slcR 23 3 #[v1,v2,v3] u).F w) (h1:IsB w l1 v1) (h2:IsB w l2 v2) (h3:IsB w l3 v3):IsP w [l1,l2,l3] u:=by
 obtain ⟨g,rfl,hg⟩:=h
 refine ⟨some ⟨g,0,none⟩,3,rfl,Nat.le_refl _,by unfold maxLen;decide,fun _=>⟨g,0,rfl,z2a hg,fun j l hj=>?_⟩⟩
 match j,hj with
 | 0,hj=>
  obtain rfl:l1=l:=Option.some.inj hj
  obtain ⟨A,c,rfl,q1,q2,q3,q4⟩:=h1
  exact ⟨A,c,by simp [World.cell?,hg],q1,q2,q3,q4⟩
 | 1,hj=>
  obtain rfl:l2=l:=Option.some.inj hj
  obtain ⟨A,c,rfl,q1,q2,q3,q4⟩:=h2
  exact ⟨A,c,by simp [World.cell?,hg],q1,q2,q3,q4⟩
 | 2,hj=>
  obtain rfl:l3=l:=Option.some.inj hj
  obtain ⟨A,c,rfl,q1,q2,q3,q4⟩:=h3
  exact ⟨A,c,by simp [World.cell?,hg],q1,q2,q3,q4⟩
 | n+3,hj=>exact absurd hj (by simp)
theorem isP2 {w:World} {u v1 v2:Value} {l1 l2:List UInt8} (h:(slcR 23 2 #[v1,v2] u).F w) (h1:IsB w l1 v1) (h2:IsB w l2 v2):IsP w [l1,l2] u:=by
 obtain ⟨g,rfl,hg⟩:=h
 refine ⟨some ⟨g,0,none⟩,2,rfl,Nat.le_refl _,by unfold maxLen;decide,fun _=>⟨g,0,rfl,z2a hg,fun j l hj=>?_⟩⟩
 match j,hj with
 | 0,hj=>
  obtain rfl:l1=l:=Option.some.inj hj
  obtain ⟨A,c,rfl,q1,q2,q3,q4⟩:=h1
  exact ⟨A,c,by simp [World.cell?,hg],q1,q2,q3,q4⟩
 | 1,hj=>
  obtain rfl:l2=l:=Option.some.inj hj
  obtain ⟨A,c,rfl,q1,q2,q3,q4⟩:=h2
  exact ⟨A,c,by simp [World.cell?,hg],q1,q2,q3,q4⟩
 | n+2,hj=>exact absurd hj (by simp)
theorem concat3 (l1 l2 l3:List UInt8) (u:Value) (hl:l1.length+l2.length+l3.length≤1000000) (w:World) (hu:IsP w [l1,l2,l3] u):
  Calls Tryz.prog 91 #[u] w fun e w'=>∃ v,e=.returned v∧Byt w' w.heap.size v (l1++l2++l3)∧Below w.heap.size w w':=by
 have e:[l1,l2,l3].flatten=l1++l2++l3:=by simp
 have:=vconcat_any [l1,l2,l3] u (by rw [e];simp only [List.length_append];omega) w hu
 rwa [e] at this
theorem concat2 (l1 l2:List UInt8) (u:Value) (hl:l1.length+l2.length≤1000000) (w:World) (hu:IsP w [l1,l2] u):
  Calls Tryz.prog 91 #[u] w fun e w'=>∃ v,e=.returned v∧Byt w' w.heap.size v (l1++l2)∧Below w.heap.size w w':=by
 have e:[l1,l2].flatten=l1++l2:=by simp
 have:=vconcat_any [l1,l2] u (by rw [e];simp only [List.length_append];omega) w hu
 rwa [e] at this
theorem eightI_b (n:Int) (w:World):Calls Tryz.prog 67 #[zI n] w fun e w'=>∃ u,e=.returned u∧Below w.heap.size w w'∧(StK.bytes (zy n)).F w' u:=
 (eightI_any n w).mono fun e w' ⟨v,h1,h2,h3⟩=>⟨v,h1,h3,Byt.isb h2⟩
def cellB:List UInt8:=[99,101,108,108]
def zr (p:Nat) (b:List UInt8):List UInt8:=sumY (outF (macW [] [cellB,zy (p:Int),b]))
theorem sealH_len (p:Nat) (b:List UInt8):(zr p b).length=16:=sumY_len _
theorem cbytes_any (p:Nat) (t:Int) (s:List UInt8) (sv:Value) (hs:s.length≤1000) (w:World) (hB:IsB w s sv):
  Calls Tryz.prog 99 #[.agg #[zI (p:Int),zI t,sv]] w fun e w'=>∃ v,e=.returned v∧Byt w' w.heap.size v (z7a zr p t s)∧Below w.heap.size w w':=by
 obtain ⟨As,cs,rfl⟩:=hB.shape
 have h8:=zja t
 refine zk (args:=[.agg (#[zI (p:Int),zI t,.slice As s.length cs])]) 28 Tryz.func99 rfl rfl rfl ?_
 intro fa F
 have M:=Mx.start w
 replace M:=M.argB 0 hB (fun g e=>by cases e)
 refine zT fun _ hK1=>zq rfl rfl F rfl M 1 (t:=128) (c:=#[zI (p:Int),zI t,.slice As s.length cs]) (by unfold execOp;simp only [(F 0 rfl)];kernel_rfl) ?_
 intro g2 a2 w2 F2 M2
 refine rm rfl F2 fun _ F3=>hK1 _ _ (zSk fun _ hK4=>?_)
 refine zva F3 [fun vE=>vE=(zP g2 1),fun vE=>vE=zI t,fun _=>True,fun vE=>vE=(zP g2 2),fun vE=>vE=.slice As s.length cs,fun vE=>vE=zI (s.length:Int),fun vE=>vE=zY (((zj (s.length:Int)).toNat:Nat):Int),fun _=>True,fun vE=>vE=(zP g2 2),fun vE=>vE=.slice As s.length cs,fun _=>True,fun _=>True] (JQ none w (fun SV=>SV 10=true→SV 2=true∧SV 7=true) (fun (xJ:Unit) SV pV=>[(0,bytR s (.slice As s.length cs)),(1,blkR g2 128 (#[zI (p:Int),zI t,.slice As s.length cs])),(2,z5a (SV 2) (ownR (zy t) (pV 2))),(3,z5a (SV 7) (ownR [(zj (s.length:Int))] (pV 7))),(4,z5a (SV 10) (slcR 23 3 (#[(pV 2),(pV 7),.slice As s.length cs]) (pV 10))),(5,z5a (SV 11) (ownR ((zy t)++[(zj (s.length:Int))]++s) (pV 11)))])) 12 rfl (by kernel_rfl) rfl ⟨trivial,trivial,trivial,trivial,trivial,trivial,trivial,trivial,trivial,trivial,trivial,trivial,trivial⟩ (fun p=>JQ.mk (fun h=>absurd h (by decide)) () ((((((M2.step (zsa _)).triv 2).triv 3).triv 4).triv 5).sub ⟨rfl,rfl,rfl,rfl,rfl,rfl,trivial⟩)) ⟨?_,?_,?_,?_,?_,?_,?_,?_,?_,?_,?_,?_,trivial⟩ ?_
 ·intro ua uw SV pV M0 hk hn hd
  obtain ⟨HP,xJ,M⟩:=M0
  replace M:Mx none w uw _:=M
  have e1:ua.eval (.tmp 1)=(zO g2):=(show ua.eval (.tmp 1)=_ from hd 1 (by decide)).trans (F3 1 rfl)
  exact ze rfl (zP g2 1) (y_fa (off:=1) rfl e1 (by kernel_rfl) rfl) rfl ((JQ.mk HP () (M.sb)))
 ·intro ua uw SV pV M0 hk hn hd
  obtain ⟨HP,xJ,M⟩:=M0
  replace M:Mx none w uw _:=M
  have e5:ua.eval (.tmp 5)=(zP g2 1):=zQ1 (hd 5 (by decide))
  exact ze rfl (zI t) (zda _ _ rfl e5 (M.blk (k:=1) rfl) rfl Tryz.underlying3 rfl) rfl ((JQ.mk HP () (M.sb)))
 ·intro ua uw SV pV M0 hk hn hd
  obtain ⟨HP,xJ,M⟩:=M0
  replace M:Mx none w uw _:=M
  have e6:ua.eval (.tmp 6)=zI t:=zQ1 (hd 6 (by decide))
  exact z9a rfl rfl #[zI t] (zaa e6) (zE Tryz.func67 rfl) (((eightI_any t uw)).mono fun e w2 h=>(by obtain ⟨u,h1,h2,h3⟩:=h;exact ⟨u,h1,trivial,(JQ.mk (fun h=>⟨rfl,(HP h).2⟩) () ((M.newO h3 2 h2).sub ⟨rfl,rfl,rfl,rfl,(condR_off (hn 10 (by kernel_rfl)) rfl),rfl,trivial⟩))⟩))
 ·intro ua uw SV pV M0 hk hn hd
  obtain ⟨HP,xJ,M⟩:=M0
  replace M:Mx none w uw _:=M
  have e1:ua.eval (.tmp 1)=(zO g2):=(show ua.eval (.tmp 1)=_ from hd 1 (by decide)).trans (F3 1 rfl)
  exact ze rfl (zP g2 2) (y_fa (off:=2) rfl e1 (by kernel_rfl) rfl) rfl ((JQ.mk HP () (M.sb)))
 ·intro ua uw SV pV M0 hk hn hd
  obtain ⟨HP,xJ,M⟩:=M0
  replace M:Mx none w uw _:=M
  have e8:ua.eval (.tmp 8)=(zP g2 2):=zQ1 (hd 8 (by decide))
  exact ze rfl (.slice As s.length cs) (zda _ _ rfl e8 (M.blk (k:=1) rfl) rfl Tryz.underlying23 rfl) rfl ((JQ.mk HP () (M.sb)))
 ·intro ua uw SV pV M0 hk hn hd
  obtain ⟨HP,xJ,M⟩:=M0
  replace M:Mx none w uw _:=M
  have e9:ua.eval (.tmp 9)=.slice As s.length cs:=zQ1 (hd 9 (by decide))
  exact ze rfl (zI (s.length:Int)) (z8a _ rfl e9 (M.isb (k:=0) rfl) rfl) rfl ((JQ.mk HP () (M.sb)))
 ·intro ua uw SV pV M0 hk hn hd
  obtain ⟨HP,xJ,M⟩:=M0
  replace M:Mx none w uw _:=M
  have e10:ua.eval (.tmp 10)=zI (s.length:Int):=zQ1 (hd 10 (by decide))
  exact ze rfl (zY (((zj (s.length:Int)).toNat:Nat):Int)) (y_cvI _ _ _ rfl e10 Tryz.underlying3 Tryz.underlying5 (ztb _)) rfl ((JQ.mk HP () (M.sb)))
 ·intro ua uw SV pV M0 hk hn hd
  obtain ⟨HP,xJ,M⟩:=M0
  replace M:Mx none w uw _:=M
  have e11:ua.eval (.tmp 11)=zY (((zj (s.length:Int)).toNat:Nat):Int):=zQ1 (hd 11 (by decide))
  exact z4b rfl (zdd M 3 [(zj (s.length:Int))] 1 rfl (by decide) (by decide) rfl (by simp only [List.map_toArray,List.map_cons,List.map_nil,e11];kernel_rfl)) fun v w2 h2=>⟨trivial,(JQ.mk (fun h=>⟨(HP h).1,rfl⟩) () (h2.sub ⟨rfl,rfl,rfl,rfl,(condR_off (hn 10 (by kernel_rfl)) rfl),rfl,trivial⟩))⟩
 ·intro ua uw SV pV M0 hk hn hd
  obtain ⟨HP,xJ,M⟩:=M0
  replace M:Mx none w uw _:=M
  have e1:ua.eval (.tmp 1)=(zO g2):=(show ua.eval (.tmp 1)=_ from hd 1 (by decide)).trans (F3 1 rfl)
  exact ze rfl (zP g2 2) (y_fa (off:=2) rfl e1 (by kernel_rfl) rfl) rfl ((JQ.mk HP () (M.sb)))
 ·intro ua uw SV pV M0 hk hn hd
  obtain ⟨HP,xJ,M⟩:=M0
  replace M:Mx none w uw _:=M
  have e13:ua.eval (.tmp 13)=(zP g2 2):=zQ1 (hd 13 (by decide))
  exact ze rfl (.slice As s.length cs) (zda _ _ rfl e13 (M.blk (k:=1) rfl) rfl Tryz.underlying23 rfl) rfl ((JQ.mk HP () (M.sb)))
 ·intro ua uw SV pV M0 hk hn hd
  obtain ⟨HP,xJ,M⟩:=M0
  replace M:Mx none w uw _:=M
  obtain ⟨s2,f7,q7⟩:=(show SV 2=true∧ua.eval (.tmp 7)=pV 2∧stE _ 2 (pV 2) from hd 7 (by decide))
  have e7:ua.eval (.tmp 7)=(pV 2):=f7
  obtain ⟨s7,f12,q12⟩:=(show SV 7=true∧ua.eval (.tmp 12)=pV 7∧stE _ 7 (pV 7) from hd 12 (by decide))
  have e12:ua.eval (.tmp 12)=(pV 7):=f12
  have e14:ua.eval (.tmp 14)=.slice As s.length cs:=zQ1 (hd 14 (by decide))
  exact ze rfl _ (y_litG 68 23 (s:=1) (zv:=zN) Tryz.underlying68 (by kernel_rfl) (by kernel_rfl) rfl (#[(pV 2),(pV 7),.slice As s.length cs]) (by decide) (by decide) (by simp only [List.map_toArray,List.map_cons,List.map_nil,e7,e12,e14];exact fill_s3 (IsB.slc (M.isO (k:=2) (zya s2 rfl))) (IsB.slc (M.isO (k:=3) (zya s7 rfl))) (IsB.slc (M.isb (k:=0) rfl)))) trivial ((JQ.mk (fun _=>⟨s2,s7⟩) () ((M.allocS 4 23 3 (#[(pV 2),(pV 7),.slice As s.length cs])).sub ⟨rfl,rfl,rfl,rfl,rfl,rfl,trivial⟩)))
 ·intro ua uw SV pV M0 hk hn hd
  obtain ⟨HP,xJ,M⟩:=M0
  replace M:Mx none w uw _:=M
  obtain ⟨s10,f15,q15⟩:=(show SV 10=true∧ua.eval (.tmp 15)=pV 10∧stE _ 10 (pV 10) from hd 15 (by decide))
  have e15:ua.eval (.tmp 15)=(pV 10):=f15
  obtain ⟨s2,s7⟩:=HP s10
  exact z9a rfl rfl #[(pV 10)] (zaa e15) (zE Tryz.func91 rfl) (((concat3 (zy t) [(zj (s.length:Int))] s ((pV 10)) (by simp only [List.length_cons,List.length_nil];omega) uw (isP3 (M.at_ 4 _ (zya s10 rfl)) (M.isO (k:=2) (zya s2 rfl)) (M.isO (k:=3) (zya s7 rfl)) (M.isb (k:=0) rfl)))).mono fun e w2 h=>(by obtain ⟨u,h1,h2,h3⟩:=h;exact ⟨u,h1,trivial,(JQ.mk HP () ((M.newO h3 5 h2).sub ⟨rfl,rfl,rfl,rfl,rfl,rfl,trivial⟩))⟩))
 intro p5 a5 w5 M5 G5 y5
 obtain ⟨-,-,-,-,-,-,-,-,-,-,-,q11,-⟩:=y5
 obtain ⟨-,xJ5,M5⟩:=M5
 replace M5:Mx _ _ w5 [(0,bytR s (.slice As s.length cs)),(1,blkR g2 128 (#[zI (p:Int),zI t,.slice As s.length cs])),(2,z5a true (ownR (zy t) (p5 2))),(3,z5a true (ownR [(zj (s.length:Int))] (p5 7))),(4,z5a true (slcR 23 3 (#[(p5 2),(p5 7),.slice As s.length cs]) (p5 10))),(5,z5a true (ownR ((zy t)++[(zj (s.length:Int))]++s) (p5 11)))]:=M5
 simp only [List.take,layV,Nat.zero_add,Nat.reduceAdd] at G5
 obtain ⟨gs4x5,rs4⟩:=(show ∃ g,p5 10=.slice (some ⟨g,0,none⟩) 3 3 from (M5.at_ 4 _ rfl).elim fun g h=>⟨g,h.1⟩)
 have M5_4:=M5.slcB (k:=4) (g:=gs4x5) rfl rs4
 rw [rs4] at G5
 obtain ⟨Ap5_2,cp5_2,hp5_2⟩:=(M5_4.isO (k:=2) rfl).shape
 rw [hp5_2] at M5_4
 try rw [hp5_2] at G5
 obtain ⟨Ap5_3,cp5_3,hp5_3⟩:=(M5_4.isO (k:=3) rfl).shape
 rw [hp5_3] at M5_4
 try rw [hp5_3] at G5
 obtain ⟨Ap5_5,cp5_5,hp5_5⟩:=(M5_4.isO (k:=5) rfl).shape
 rw [hp5_5] at M5_4
 try rw [hp5_5] at G5
 refine rm rfl G5 fun _ F6=>hK4 _ _ (zSk fun _ hK7=>?_)
 have hD8:=(zu (M5_4.blk (k:=1) rfl) dnil)
 refine region_fxU F6 (SK [.inr (StK.lit w5.heap.size [99,101,108,108]),.inr (StK.lit w5.heap.size [99,101,108,108]),.inl (zO g2),.inl (zI (p:Int)),.inr (StK.bytes (zy (p:Int))),.inl ((.slice Ap5_5 (((zy t)++[(zj (s.length:Int))]++s)).length cp5_5)),.inr (StK.parts [[99,101,108,108],(zy (p:Int)),((zy t)++[(zj (s.length:Int))]++s)]),.inl (.agg (z3a (outF (macW [] [[99,101,108,108],(zy (p:Int)),((zy t)++[(zj (s.length:Int))]++s)]))))]) 8 (by kernel_rfl) rfl ⟨?_,?_,hop0 F6,hopP F6 hD8 0 (some g2),?_,hop0 F6,?_,?_,trivial⟩ ?_
 ·intro ua uw hb hd
  exact hop_lit rfl hb.size [99,101,108,108] (by decide) (by decide) _ rfl (by simp only [List.map_toArray,List.map_cons,List.map_nil];kernel_rfl)
 ·intro ua uw hb hd
  have l17:LitB w5.heap.size uw [99,101,108,108] (ua.eval (.tmp 17)):=hd 17 (by decide)
  have e17:=l17.isB
  exact hop_convK rfl _ rfl l17
 ·intro ua uw hb hd
  have e20:ua.eval (.tmp 20)=zI (p:Int):=hd 20 (by decide)
  exact z6b (F:=(StK.bytes (zy (p:Int))).F) rfl hb.size rfl #[zI (p:Int)] (zaa e20) (zE Tryz.func67 rfl) (eightI_b (p:Int) uw)
 ·intro ua uw hb hd
  have l18:LitB w5.heap.size uw [99,101,108,108] (ua.eval (.tmp 18)):=hd 18 (by decide)
  have e18:=l18.isB
  have e21:IsB uw (zy (p:Int)) (ua.eval (.tmp 21)):=hd 21 (by decide)
  have e22:ua.eval (.tmp 22)=(.slice Ap5_5 (((zy t)++[(zj (s.length:Int))]++s)).length cp5_5):=hd 22 (by decide)
  exact hop_parts3 rfl hb.size (.tmp 18) (.tmp 21) (.tmp 22) rfl e18 e21 (by rw [e22];exact ((M5_4.step hb).isO (k:=5) rfl))
 ·intro ua uw hb hd
  have e23:IsP uw [[99,101,108,108],(zy (p:Int)),((zy t)++[(zj (s.length:Int))]++s)] (ua.eval (.tmp 23)):=hd 23 (by decide)
  exact z6b (F:=(StK.eq (.agg (z3a (outF (macW [] [[99,101,108,108],(zy (p:Int)),((zy t)++[(zj (s.length:Int))]++s)]))))).F) rfl hb.size rfl #[(ua.eval (.tmp 23))] (zaa rfl) (zE Tryz.func126 rfl) (zad (of_b e23))
 intro p9 a9 w9 b9 G9 y9
 obtain ⟨-,-,-,-,-,-,-,q7,-⟩:=y9
 have r7:p9 7=.agg (z3a (outF (macW [] [[99,101,108,108],(zy (p:Int)),((zy t)++[(zj (s.length:Int))]++s)]))):=q7 (by decide)
 simp only [List.take,layV,Nat.zero_add,Nat.reduceAdd,r7] at G9
 have M9:=M5_4.kc b9
 clear F6 M5_4 r7 q7
 refine zq rfl rfl G9 rfl M9 7 (t:=65) (c:=z3a (fun _=>0)) (by unfold execOp;kernel_rfl) ?_
 intro g10 a10 w10 F10 M10
 clear G9 M9
 refine zt rfl rfl F10 M10 (k:=7) rfl _ _ _ rfl (F10 4 rfl) (F10 24 rfl) (z3a (outF (macW [] [[99,101,108,108],(zy (p:Int)),((zy t)++[(zj (s.length:Int))]++s)]))) _ rfl (zL rfl) (arr16_one _) (zca rfl) (by kernel_rfl) ?_
 intro w11 M11
 refine hK7 _ _ (zT fun _ hK12=>rm rfl F10 fun _ F13=>zc (w':=w11) rfl rfl F13 rfl (.slice (some ⟨g10,0,none⟩) 16 16) (y_sliceSum _ rfl (F13 4 rfl)) fun _ F14=>?_)
 refine zwa rfl rfl F14 rfl (zfb M11 (k:=5) rfl _ _ rfl (F14 25 rfl) (F14 26 rfl) (isb_sum (outF_bd _) (M11.blk (k:=7) rfl)) (by simp only [sumY_len,List.length_append,List.length_cons,List.length_nil];omega)) ?_
 intro v15 a15 w15 F15 M15
 obtain ⟨A15,c15,rfl⟩:=(M15.isO (k:=5) rfl).shape
 exact rm rfl F15 fun _ F16=>hK12 _ _ (wp_ret (bodyPost_ret (res1 rfl (F16.get rfl)) F16.defers ⟨_,rfl,M15.byt (k:=5) rfl,M15.below⟩))
theorem zyc {p t:Int} {S:Value} {w:World} {l:List UInt8} (h:IsB w l S):(#[zI p,zI t,S]:Array Value).all (·.oneCell')=true:=by
 obtain ⟨A,c,rfl⟩:=h.shape
 simp [Value.oneCell']
def entP (p:Nat) (b:List UInt8):Nat:=if 25≤b.length then p else 0
def entT (b:List UInt8):Int:=if 25≤b.length then turnL b else 0
def entS (b:List UInt8):List UInt8:=if 25≤b.length then saysL b else []
theorem good_short {p:Nat} {b:List UInt8} (h:¬25≤b.length):zob zr p b=false:=by unfold zob;rw [decide_eq_false h];rfl
theorem good_long {p:Nat} {b:List UInt8} (h:25≤b.length):zob zr p b=decide (z7a zr p (turnL b) (saysL b)=b):=by unfold zob;rw [decide_eq_true h];rfl
theorem IsB.back {w w':World} {l:List UInt8} {v:Value} (h:IsB w' l v) (hb:Below w.heap.size w w') (hlt:∀ g,bfp v g→g<w.heap.size):IsB w l v:=by
 obtain ⟨A,c,rfl,h1,h2,h3,h4⟩:=h
 refine ⟨A,c,rfl,h1,h2,h3,fun hl=>?_⟩
 obtain ⟨ad,rfl,q1,q2⟩:=h4 hl
 obtain ⟨g,o,s⟩:=ad
 have hg:g<w.heap.size:=hlt g ⟨o,s,_,_,rfl,hl⟩
 have e:w'.heap[g]? = w.heap[g]?:=hb.block g hg
 refine ⟨_,rfl,hg,fun j b hj=>?_⟩
 have hblk:((⟨g,o,s⟩:Addr).add j).block=g:=by unfold Addr.add;split <;> rfl
 have:=q2 j b hj
 simp only [World.cell?,hblk,e] at this ⊢
 exact this
theorem vgood_any (p:Nat) (b:List UInt8) (bv:Value) (hl:b.length≤1000) (w:World) (hB:IsB w b bv):
  Calls Tryz.prog 120 #[zI (p:Int),bv] w fun e w'=>∃ S,e=.returned (.tuple #[.agg #[zI (entP p b:Int),zI (entT b),S],.bool (zob zr p b)])∧IsB w (entS b) S∧(∀ g,bfp S g→bfp bv g)∧Below w.heap.size w w':=by
 obtain ⟨Ab,cb,rfl⟩:=hB.shape
 by_cases h25:25≤b.length
 ·obtain ⟨E,hE⟩:∃ E,b.length-16=E:=⟨_,rfl⟩
  obtain ⟨T,hT⟩:∃ x,turnL b=x:=⟨_,rfl⟩
  have hs:saysL b=((b.drop 9).take (E-9)):=by unfold saysL;rw [hE,List.drop_take]
  obtain ⟨qG,hG⟩:∃ x,decide (z7a zr p T ((b.drop 9).take (E-9))=b)=x:=⟨_,rfl⟩
  rw [show entP p b=p from if_pos h25,show entT b=T from (if_pos h25).trans hT,show entS b=((b.drop 9).take (E-9)) from (if_pos h25).trans hs,show zob zr p b=qG by rw [good_long h25,hT,hs,hG]]
  have hT8:numI (b.take 8)=T:=hT
  have hl9:((b.drop 9).take (E-9)).length≤1000:=by rw [List.length_take];omega
  refine zk (args:=[zI (p:Int),.slice Ab b.length cb]) 33 Tryz.func120 rfl rfl rfl ?_
  intro fa F
  have M:=Mx.start w
  replace M:=M.argB 0 hB (fun g e=>by cases e)
  refine zT fun _ hK1=>zq rfl rfl F rfl M 1 (t:=128) (c:=#[zI 0,zI 0,zN]) (by unfold execOp;kernel_rfl) ?_
  intro g2 a2 w2 F2 M2
  refine rm rfl F2 fun _ F3=>hK1 _ _ (zT fun _ hK4=>rm rfl F3 fun _ F5=>zc (w':=w2) rfl rfl F5 rfl (zI (b.length:Int)) (z8a _ rfl (F5 10 rfl) (M2.isb (k:=0) rfl) rfl) fun _ F6=>?_)
  refine zc (w':=w2) rfl rfl F6 rfl (zI (E:Int)) (z3c _ _ _ _ rfl (F6 11 rfl) rfl (by omega) (by omega)) fun _ F7=>?_
  refine rm rfl F7 fun _ F8=>hK4 _ _ (zSk fun _ hK9=>zT fun _ hK10=>rm rfl F8 fun _ F11=>zc (w':=w2) rfl rfl F11 rfl (.bool false) (zka _ _ _ _ rfl (F11 13 rfl) rfl (decide_eq_false (show ¬(E:Int)<9 by omega))) fun _ F12=>?_)
  refine hK10 _ _ (wp_cond_false (F12 14 rfl) (wp_skip (hK9 _ _ (zT fun _ hK13=>rm rfl F12 fun _ F14=>zrc rfl rfl F14 rfl (y_slTo _ _ rfl (F14 17 rfl) (M2.isb (k:=0) rfl) rfl (j:=8) rfl (by omega)) ?_))))
  intro v15 a15 h15 F15
  have M15:=M2.partB 2 (k:=0) rfl h15.1 h15.2
  obtain ⟨A15,c15,rfl⟩:=(M15.isb (k:=2) rfl).shape
  refine zh rfl rfl F15 rfl rfl (zE Tryz.func88 rfl) #[.slice A15 ((b.take 8)).length c15] (zaa (F15 18 rfl)) (zba ((hT8▸number_any (b.take 8) (.slice A15 ((b.take 8)).length c15) (by rw [List.length_take];omega) w2 (M15.isb (k:=2) rfl)))) ?_
  rintro _ w16 a16 ⟨rfl,b16⟩ F16
  have M16:=M15.step b16
  refine zB 5 [(0,zI (p:Int)),(1,.slice Ab b.length cb),(4,(zO g2)),(5,.bool false),(6,zI (E:Int)),(7,zI T)] [] dnil [] F16 fun _ F17=>?_
  refine hK13 _ _ (zT fun _ hK18=>rm rfl F17 fun _ F19=>rm rfl F19 fun _ F20=>rm rfl F20 fun _ F21=>rm rfl F21 fun _ F22=>zrc rfl rfl F22 rfl (y_slOf _ _ _ rfl (F22 24 rfl) (M16.isb (k:=0) rfl) rfl (i:=9) rfl (F22 25 rfl) (j:=E) rfl (by omega) (by omega)) ?_)
  intro v23 a23 h23 F23
  have M23:=M16.partB 3 (k:=0) rfl h23.1 h23.2
  obtain ⟨A23,c23,rfl⟩:=(M23.isb (k:=3) rfl).shape
  refine zc (w':=w16) rfl rfl F23 rfl (.agg (#[zI (p:Int),zI T,.slice A23 (((b.drop 9).take (E-9))).length c23])) (by unfold execOp;simp only [List.map_toArray,List.map_cons,List.map_nil,(F23 22 rfl),(F23 23 rfl),(F23 26 rfl)];kernel_rfl) fun _ F24=>?_
  refine zq rfl rfl F24 rfl M23 4 (t:=128) (c:=#[zI 0,zI 0,zN]) (by unfold execOp;kernel_rfl) ?_
  intro g25 a25 w25 F25 M25
  refine zt rfl rfl F25 M25 (k:=4) rfl _ _ _ rfl (F25 9 rfl) (F25 27 rfl) (#[zI (p:Int),zI T,.slice A23 (((b.drop 9).take (E-9))).length c23]) _ rfl (zL rfl) (zyc (M25.isb (k:=3) rfl)) (zca rfl) (by kernel_rfl) ?_
  intro w26 M26
  refine hK18 _ _ (zSk fun _ hK27=>?_)
  refine zva F25 (SE [.inl (.agg (#[zI (p:Int),zI T,.slice A23 (((b.drop 9).take (E-9))).length c23])),.inl (.agg (#[zI (p:Int),zI T,.slice A23 (((b.drop 9).take (E-9))).length c23])),.inr (fun _=>True),.inl (.slice Ab b.length cb),.inl (.bool qG)]) (JM none w fun SV pV=>[(0,bytR b (.slice Ab b.length cb)),(1,blkR g2 128 (#[zI 0,zI 0,zN])),(2,bytR (b.take 8) (.slice A15 ((b.take 8)).length c15)),(3,bytR ((b.drop 9).take (E-9)) (.slice A23 (((b.drop 9).take (E-9))).length c23)),(4,blkR g25 128 (#[zI (p:Int),zI T,.slice A23 (((b.drop 9).take (E-9))).length c23])),(5,z5a (SV 2) (ownR (z7a zr p T ((b.drop 9).take (E-9))) (pV 2)))]) 5 rfl (by kernel_rfl) rfl ⟨trivial,trivial,trivial,trivial,trivial,trivial⟩ (fun p=>((M26.step (zsa _)).triv 5).sub ⟨rfl,rfl,rfl,rfl,rfl,rfl,trivial⟩) ⟨hopMP F25 (fun _ _ _ M=>zu (Mx.blk (k:=4) M rfl) dnil) (some g25),hopMP F25 (fun _ _ _ M=>zu (Mx.blk (k:=4) M rfl) dnil) (some g25),?_,zcb F25,?_,trivial⟩ ?_
  ·intro ua uw SV pV (M:Mx none w uw _) hk hn hd
   have e29:ua.eval (.tmp 29)=.agg (#[zI (p:Int),zI T,.slice A23 (((b.drop 9).take (E-9))).length c23]):=zQ1 (hd 29 (by decide))
   exact z9a rfl rfl #[.agg (#[zI (p:Int),zI T,.slice A23 (((b.drop 9).take (E-9))).length c23])] (zaa e29) (zE Tryz.func99 rfl) (((cbytes_any p T ((b.drop 9).take (E-9)) (.slice A23 (((b.drop 9).take (E-9))).length c23) hl9 uw (M.isb (k:=3) rfl))).mono fun e w2 h=>(by obtain ⟨u,h1,h2,h3⟩:=h;exact ⟨u,h1,trivial,(M.newO h3 5 h2).sub ⟨rfl,rfl,rfl,rfl,rfl,rfl,trivial⟩⟩))
  ·intro ua uw SV pV (M:Mx none w uw _) hk hn hd
   obtain ⟨s2,f30,q30⟩:=(show SV 2=true∧ua.eval (.tmp 30)=pV 2∧stE _ 2 (pV 2) from hd 30 (by decide))
   have e30:ua.eval (.tmp 30)=(pV 2):=f30
   have e31:ua.eval (.tmp 31)=.slice Ab b.length cb:=zQ1 (hd 31 (by decide))
   exact z9a rfl rfl #[(pV 2),.slice Ab b.length cb] (zfa e30 e31) (zE Tryz.func140 rfl) (((hG▸equal_any (z7a zr p T ((b.drop 9).take (E-9))) b ((pV 2)) (.slice Ab b.length cb) uw (M.isO (k:=5) (zya s2 rfl)) (M.isb (k:=0) rfl))).mono fun e w2 h=>⟨_,h.1,rfl,(M.step h.2).sub ⟨rfl,rfl,rfl,rfl,rfl,rfl,trivial⟩⟩)
  intro p28 a28 w28 M28 G28 y28
  obtain ⟨q0,-,-,-,q4,-⟩:=y28
  have r0:p28 0=.agg (#[zI (p:Int),zI T,.slice A23 (((b.drop 9).take (E-9))).length c23]):=q0
  have r4:p28 4=.bool qG:=q4
  replace M28:Mx _ _ w28 [(0,bytR b (.slice Ab b.length cb)),(1,blkR g2 128 (#[zI 0,zI 0,zN])),(2,bytR (b.take 8) (.slice A15 ((b.take 8)).length c15)),(3,bytR ((b.drop 9).take (E-9)) (.slice A23 (((b.drop 9).take (E-9))).length c23)),(4,blkR g25 128 (#[zI (p:Int),zI T,.slice A23 (((b.drop 9).take (E-9))).length c23])),(5,z5a true (ownR (z7a zr p T ((b.drop 9).take (E-9))) (p28 2)))]:=M28
  simp only [List.take,layV,Nat.zero_add,Nat.reduceAdd,r0,r4] at G28
  obtain ⟨Ap28_5,cp28_5,hp28_5⟩:=(M28.isO (k:=5) rfl).shape
  rw [hp28_5] at M28
  try rw [hp28_5] at G28
  refine zt rfl rfl G28 M28 (k:=1) rfl _ _ _ rfl (G28 4 rfl) (G28 28 rfl) (#[zI (p:Int),zI T,.slice A23 (((b.drop 9).take (E-9))).length c23]) _ rfl (zL rfl) (zyc (M28.isb (k:=3) rfl)) (zca rfl) (by kernel_rfl) ?_
  intro w29 M29
  exact rm rfl G28 fun _ F30=>hK27 _ _ (wp_ret (bodyPost_ret (resCT rfl (F30.get rfl) (M29.blk (k:=1) rfl) (F30.get rfl) Tryz.underlying128 rfl (by kernel_rfl)) F30.defers ⟨_,rfl,IsB.back (M29.isb (k:=3) rfl) M29.below (fun g hg=>hB.lt (h23.2 g hg)),h23.2,M29.below⟩))
 ·rw [show entP p b=0 from if_neg h25,show entT b=0 from if_neg h25,show entS b=[] from if_neg h25,good_short h25]
  refine zk (args:=[zI (p:Int),.slice Ab b.length cb]) 33 Tryz.func120 rfl rfl rfl ?_
  intro fa F
  have M:=Mx.start w
  replace M:=M.argB 0 hB (fun g e=>by cases e)
  refine zT fun _ hK1=>zq rfl rfl F rfl M 1 (t:=128) (c:=#[zI 0,zI 0,zN]) (by unfold execOp;kernel_rfl) ?_
  intro g2 a2 w2 F2 M2
  refine rm rfl F2 fun _ F3=>hK1 _ _ (zT fun _ hK4=>rm rfl F3 fun _ F5=>zc (w':=w2) rfl rfl F5 rfl (zI (b.length:Int)) (z8a _ rfl (F5 10 rfl) (M2.isb (k:=0) rfl) rfl) fun _ F6=>?_)
  refine zc (w':=w2) rfl rfl F6 rfl (zI ((b.length:Int)-16)) (z3c _ _ _ _ rfl (F6 11 rfl) rfl rfl (by omega)) fun _ F7=>?_
  refine rm rfl F7 fun _ F8=>hK4 _ _ (zSk fun _ hK9=>zT fun _ hK10=>rm rfl F8 fun _ F11=>zc (w':=w2) rfl rfl F11 rfl (.bool true) (zka _ _ _ _ rfl (F11 13 rfl) rfl (decide_eq_true (show ((b.length:Int)-16)<9 by omega))) fun _ F12=>?_)
  refine hK10 _ _ (wp_cond_true (F12 14 rfl) (zT fun _ hK13=>zc (w':=w2) rfl rfl F12 rfl (.agg (#[zI 0,zI 0,zN])) (by unfold execOp;kernel_rfl) fun _ F14=>?_))
  refine zt rfl rfl F14 M2 (k:=1) rfl _ _ _ rfl (F14 4 rfl) (F14 15 rfl) (#[zI 0,zI 0,zN]) _ rfl (zL rfl) (by simp [Value.oneCell']) (zca rfl) (by kernel_rfl) ?_
  intro w15 M15
  refine rm rfl F14 fun a16 F16=>hK13 _ _ (wp_ret ?_)
  try simp only [Exit.then,Exit.inBlock,Exit.jump]
  exact bodyPost_ret (resCT rfl (F16.get rfl) (M15.blk (k:=1) rfl) (F16.get rfl) Tryz.underlying128 rfl (by kernel_rfl)) F16.defers ⟨_,rfl,zia _,fun g hg=>absurd hg (zpa g),M15.below⟩
section
def vltA (V:VltN) (s n:Nat→Value):Array Value:=#[s 0,n 0,.bool (V.c 0).f,s 1,n 1,.bool (V.c 1).f,s 2,n 2,.bool (V.c 2).f,s 3,n 3,.bool (V.c 3).f,s 4,n 4,.bool (V.c 4).f,s 5,n 5,.bool (V.c 5).f,s 6,n 6,.bool (V.c 6).f,s 7,n 7,.bool (V.c 7).f,s 8,n 8,.bool (V.c 8).f,s 9,n 9,.bool (V.c 9).f,s 10,n 10,.bool (V.c 10).f,s 11,n 11,.bool (V.c 11).f,s 12,n 12,.bool (V.c 12).f,s 13,n 13,.bool (V.c 13).f,s 14,n 14,.bool (V.c 14).f,s 15,n 15,.bool (V.c 15).f,s 16,n 16,.bool (V.c 16).f,s 17,n 17,.bool (V.c 17).f,.bool V.fl,zI V.lf,.bool V.dd]
def putN (s:Nat→Value) (p:Nat) (v:Value):Nat→Value:=fun i=>if i=p then v else s i
theorem vlt_s (V:VltN) (s n:Nat→Value):∀ {j:Nat},j<18→(vltA V s n)[3*j]? = some (s j)
 | j,h=>by
  match j,h with
  | 0,_ | 1,_ | 2,_ | 3,_ | 4,_ | 5,_ | 6,_ | 7,_ | 8,_ | 9,_ | 10,_ | 11,_ | 12,_ | 13,_ | 14,_ | 15,_ | 16,_ | 17,_=>rfl
  | k+18,h=>exact absurd h (by omega)
theorem vlt_n (V:VltN) (s n:Nat→Value):∀ {j:Nat},j<18→(vltA V s n)[3*j+1]? = some (n j)
 | j,h=>by
  match j,h with
  | 0,_ | 1,_ | 2,_ | 3,_ | 4,_ | 5,_ | 6,_ | 7,_ | 8,_ | 9,_ | 10,_ | 11,_ | 12,_ | 13,_ | 14,_ | 15,_ | 16,_ | 17,_=>rfl
  | k+18,h=>exact absurd h (by omega)
theorem vlt_f (V:VltN) (s n:Nat→Value):∀ {j:Nat},j<18→(vltA V s n)[3*j+2]? = some (.bool (V.c j).f)
 | j,h=>by
  match j,h with
  | 0,_ | 1,_ | 2,_ | 3,_ | 4,_ | 5,_ | 6,_ | 7,_ | 8,_ | 9,_ | 10,_ | 11,_ | 12,_ | 13,_ | 14,_ | 15,_ | 16,_ | 17,_=>rfl
  | k+18,h=>exact absurd h (by omega)
structure HasV (w:World) (g:Nat) (V:VltN) (s n:Nat→Value):Prop where
 blk:w.heap[g]? = some (.cells (vltA V s n) 80 (0,0))
 hs:∀ i,i<18→IsB w (V.c i).s (s i)
 hn:∀ i,i<18→IsB w (V.c i).n (n i)
def z1a (V:VltN):Prop:=∀ i,i<18→(V.c i).s.length≤1000∧(V.c i).n.length≤1000
variable {a:Act} {w:World} {o:Oper} {x y:Operand} {z:Int}
theorem y_ixC (t:TypeId) {N sz:Nat} (hN:Tryz.prog.arrayLen t=N) (he:Tryz.prog.underlying t=some (.array (Tryz.prog.arrayLen t) (Tryz.prog.elem t))) (h1:(Tryz.prog.info? (Tryz.prog.elem t)).map (·.size)=some sz) (ho:o.op=.indexAddr t x y) {b i c:Nat} (hx:a.eval x=(zP b c)) (hy:a.eval y=zI z) (hz:z=(i:Int)) (hi:i<N):(execOp a.eval o).run Tryz.prog w=.ok (.value (zP b (c+i*sz))) w:=by
 subst hz hN
 have hs:(sizeOf (Tryz.prog.elem t)).run Tryz.prog w=.ok sz w:=by
  cases hq:Tryz.prog.info? (Tryz.prog.elem t) with
  | none=>simp [hq] at h1
  | some inf=>simp [sizeOf,typeInfo,hq];simpa [hq] using h1
 have h5:(i:Int)<(Tryz.prog.arrayLen t:Int):=by omega
 have hrun:(Instr.indexAt t (zP b c) (zI (i:Int))).run Tryz.prog w=.ok (zP b (c+i*sz)) w:=by
  rw [run_indexAt_array (h:=he),if_pos ⟨by omega,h5⟩,hs]
  simp only [Result.andThen_ok,Int.toNat_natCast,zna]
 unfold execOp
 simp only [ho,hx,hy,Sem.run_bind,hrun,Result.andThen_ok,Sem.run_pure]
theorem y_ixC3 (t:TypeId) {N:Nat} (hN:Tryz.prog.arrayLen t=N) (he:Tryz.prog.underlying t=some (.array (Tryz.prog.arrayLen t) (Tryz.prog.elem t))) (h1:(Tryz.prog.info? (Tryz.prog.elem t)).map (·.size)=some 3) (ho:o.op=.indexAddr t x y) {b i:Nat} (hx:a.eval x=(zO b)) (hy:a.eval y=zI z) (hz:z=(i:Int)) (hi:i<N):(execOp a.eval o).run Tryz.prog w=.ok (.value (zP b (3*i))) w:=by
 have:=y_ixC (w:=w) t hN he h1 ho hx hy hz hi
 rwa [Nat.zero_add,Nat.mul_comm] at this
end
section
open Go.Shelf
theorem one_slcB {w:World} {l:List UInt8} {v:Value} (h:IsB w l v):(#[v]).all (·.oneCell')=true:=by
 obtain ⟨A,c,rfl⟩:=h.shape
 simp [Value.oneCell']
theorem tdiv_in {p q:Int} (hp:-9223372036854775808≤p∧p<9223372036854775808) (hq:0<q):-9223372036854775808≤p.tdiv q∧p.tdiv q≤9223372036854775807:=by
 by_cases h:0≤p
 ·rw [Int.tdiv_eq_ediv_of_nonneg h]
  have h1:=Int.ediv_le_self q h
  have h2:=Int.ediv_nonneg h (Int.le_of_lt hq)
  omega
 ·obtain ⟨r,rfl⟩:∃ r,p = -r:=⟨-p,by omega⟩
  rw [Int.neg_tdiv,Int.tdiv_eq_ediv_of_nonneg (by omega)]
  have h1:=Int.ediv_le_self q (show 0≤r by omega)
  have h2:=Int.ediv_nonneg (show 0≤r by omega) (Int.le_of_lt hq)
  omega
theorem cells_slcB {w:World} {l:List UInt8} {v:Value} (h:IsB w l v):v.cells=#[v]:=by
 obtain ⟨A,c,rfl⟩:=h.shape
 rfl
section
variable {P:Program} {a:Act} {w w0:World} {o:Oper} {G:Option Nat} {R:List (Nat×Res)}
theorem run_st (M:Mx G w0 w R) {k g off:Nat} {t:TypeId} {c:Array Value} (hk:look R k=some (blkR g t c)) (ty:TypeId) (x y:Operand) (ho:o.op=.store ty x y) (hx:a.eval x=(zP g off)) {v:Value} (hy:a.eval y=v)
  (s c':Array Value) (hv:v.cells=s) (hos:off+s.size≤c.size) (h1:s.all (·.oneCell')=true) (hc':(c.toList.take off++s.toList++c.toList.drop (off+s.size)).toArray=c') (hi:(P.info? ty).map (·.size)=some s.size):
  ∃ w',(execOp a.eval o).run P w=.ok .skip w'∧Mx G w0 w' ((k,blkR g t c')::R):=
 ⟨_,y_st ty x y ho hx hy (M.blk hk) s c' hv hos h1 hc' hi,M.put hk (z1b _ _ _) (setRow_heap w g c c' t (0,0) (M.blk hk))⟩
theorem y_quoT (ty tz:TypeId) (x y:Operand) {p q z:Int} (ho:o.op=.binOp .quo ty x y tz) (hx:a.eval x=zI p) (hy:a.eval y=zI q) (hp:-9223372036854775808≤p∧p<9223372036854775808) (hq:0<q) (hz:p.tdiv q=z):(execOp a.eval o).run Tryz.prog w=.ok (.value (zI z)) w:=by
 subst hz
 have h0:¬q=0:=by omega
 have h1:IntKind.i64.wrap (p.tdiv q)=p.tdiv q:=Go.IntWalk.i64_in _ (tdiv_in hp hq)
 unfold execOp;simp only [ho,hx,hy];simp [go_sem,h0,h1]
end
end
def aggC:Value→Array Value
 | .agg c=>c
 | _=>#[]
theorem Mx.ptrV {G:Option Nat} {w0 w:World} {R:List (Nat×Res)} (M:Mx G w0 w R) {k g:Nat} {t:TypeId} {c:Array Value} {v:Value} (hk:look R k=some (ptrR t c v)) (hv:v=(zO g)):Mx G w0 w ((k,blkR g t c)::R):=by
 subst hv;exact M.ptr hk
theorem Mx.toPtr {G:Option Nat} {w0 w:World} {R:List (Nat×Res)} (M:Mx G w0 w R) {k g:Nat} {t:TypeId} {c c':Array Value} {v:Value} (hk:look R k=some (blkR g t c)) (hv:v=(zO g)) (hc:c'=c):Mx G w0 w ((k,ptrR t c' v)::R):=by
 subst hv hc
 have h:=M.at_ k _ hk
 exact M.cons k _ ⟨g,rfl,h⟩ ptrR_dep (fun b hb=>by cases hb;exact z2a h) (fun _ b hb=>M.own k _ hk rfl b (by cases hb;rfl)) fun j s e hj _ b hb=>M.dis k j _ s hk e hj rfl b (by cases hb;rfl)
theorem Mx.toB {G:Option Nat} {w0 w:World} {R:List (Nat×Res)} (M:Mx G w0 w R) {k g:Nat} {t:TypeId} {c c2:Array Value} (hk:look R k=some (blkR g t c)) (hc:c2=c):Mx G w0 w ((k,blkR g t c2)::R):=by
 subst hc
 have h:=M.at_ k _ hk
 exact M.cons k _ h z9c (fun b hb=>by cases hb;exact z2a h) (fun _ b hb=>M.own k _ hk rfl b hb) fun j s e hj _ b hb=>M.dis k j _ s hk e hj rfl b hb
theorem good_ge {p:Nat} {b:List UInt8} (h:zob zr p b=true):25≤b.length:=by
 unfold zob at h
 simp only [Bool.and_eq_true,decide_eq_true_eq] at h
 exact h.1
theorem sec_eq {V:VltN} {q:Nat} {b1 b2:Bool} (h1:zob zr q (V.c q).s=b1) (h2:zob zr (q+1) (V.c (q+1)).s=b2):secB zr V q=(b2&&(!b1||decide (entT (V.c q).s<entT (V.c (q+1)).s))):=by
 unfold secB
 rw [h1,h2]
 cases b2 with
 | false=>rfl
 | true=>
  cases b1 with
  | false=>rfl
  | true=>rw [show entT (V.c q).s=turnL (V.c q).s from if_pos (good_ge h1),show entT (V.c (q+1)).s=turnL (V.c (q+1)).s from if_pos (good_ge h2)]
def cntP (V:VltN) (q:Nat):Nat:=if secB zr V q=true then entP (q+1) (V.c (q+1)).s else entP q (V.c q).s
def cntT (V:VltN) (q:Nat):Int:=if secB zr V q=true then entT (V.c (q+1)).s else entT (V.c q).s
def cntS (V:VltN) (q:Nat):List UInt8:=if secB zr V q=true then entS (V.c (q+1)).s else entS (V.c q).s
theorem counts_tw (c2:Bool) (q:Nat) (hq:q+1<18) (g:Nat) (V:VltN) (s n:Nat→Value) (hv:z1a V) (w:World) (h:HasV w g V s n):let tw1:FuncId:=cond c2 106 89;let tw2:FuncId:=cond c2 105 88;let tw3:TypeId:=cond c2 87 100;let tw0f:Func:=cond c2 Tryz.f106 Tryz.f89;Calls Tryz.prog tw1 #[.agg #[zI (q:Int),.func (.func tw2) #[] #[]],(zO g)] w fun e w'=>∃ S,e=.returned (.tuple #[.agg #[zI (cntP V q:Int),zI (cntT V q),S],.bool (anyB zr V q)])∧IsB w (cntS V q) S∧(∀ b,bfp S b→bfp (s q) b∨bfp (s (q+1)) b)∧Below w.heap.size w w':=by
 intro tw1 tw2 tw3 tw0f
 cases c2
 all_goals
  have tw0:Tryz.prog.funcs[tw1]? = some (tw0f):=by first | exact Tryz.func106 | exact Tryz.func89
  obtain ⟨b1,hb1⟩:∃ x,zob zr q (V.c q).s=x:=⟨_,rfl⟩
  obtain ⟨b2,hb2⟩:∃ x,zob zr (q+1) (V.c (q+1)).s=x:=⟨_,rfl⟩
  have hs1:=h.hs q (by omega)
  have hs2:=h.hs (q+1) hq
  refine zk (args:=[.agg (#[zI (q:Int),.func (.func tw2) #[] #[]]),(zO g)]) 55 tw0 rfl rfl rfl ?_
  intro fa F
  have M:=Mx.start w
  replace M:=M.argO 0 h.blk (fun b e=>by cases e)
  refine zT fun _ hK1=>zq rfl rfl F rfl M 1 (t:=tw3) (c:=#[zI (q:Int),.func (.func tw2) #[] #[]]) (by unfold execOp;simp only [(F 0 rfl)];kernel_rfl) ?_
  intro g2 a2 w2 F2 M2
  refine zq rfl rfl F2 rfl M2 2 (t:=128) (c:=#[zI 0,zI 0,zN]) (by unfold execOp;kernel_rfl) ?_
  intro g3 a3 w3 F3 M3
  refine rm rfl F3 fun _ F4=>hK1 _ _ (zSk fun _ hK5=>?_)
  refine zva F4 (SE [.inl (zO g2),.inl (zI (q:Int)),.inl (zO g),.inl (zO g2),.inl (zI (q:Int)),.inl (zO g),.inl (zO g),.inl (zP g (3*q)),.inl (zP g (3*q)),.inl ((s q)),.inr (fun vE=>∃ S_,vE=.tuple #[.agg #[zI (entP q ((V.c q).s):Int),zI (entT ((V.c q).s)),S_],.bool b1]∧IsB w (entS ((V.c q).s)) S_∧∀ g,bfp S_ g→bfp (s q) g),.inr (fun vE=>∃ S_,vE=.tuple #[.agg #[zI (entP q ((V.c q).s):Int),zI (entT ((V.c q).s)),S_],.bool b1]∧IsB w (entS ((V.c q).s)) S_∧∀ g,bfp S_ g→bfp (s q) g),.inr (fun vE=>∃ S_,vE=.agg #[zI (entP q ((V.c q).s):Int),zI (entT ((V.c q).s)),S_]∧IsB w (entS ((V.c q).s)) S_∧∀ g,bfp S_ g→bfp (s q) g),.inl (.bool b1),.inr (fun vE=>∃ g,vE=(zO g)),.inl (undef)]) (JM none w fun SV pV=>[(0,blkO g 80 (vltA V s n)),(1,blkR g2 tw3 (#[zI (q:Int),.func (.func tw2) #[] #[]])),(2,blkR g3 128 (#[zI 0,zI 0,zN])),(3,zha (SV 15) (ptrR 128 (aggC (pV 12)) (pV 14)) (z5a (SV 14) (ptrR 128 (#[zI 0,zI 0,zN]) (pV 14))))]) 16 rfl (by kernel_rfl) rfl ⟨trivial,trivial,trivial,trivial,trivial,trivial,trivial,trivial,trivial,trivial,trivial,trivial,trivial,trivial,trivial,fun _=>Iff.rfl,trivial⟩ (fun p=>((M3.step (zsa _)).triv 3).sub ⟨rfl,rfl,rfl,rfl,trivial⟩) ⟨zcb F4,hopMP F4 (fun _ _ _ M=>zu (Mx.blk (k:=1) M rfl) dnil) (some g2),zcb F4,zcb F4,hopMP F4 (fun _ _ _ M=>zu (Mx.blk (k:=1) M rfl) dnil) (some g2),zcb F4,zcb F4,?_,?_,?_,?_,?_,?_,?_,?_,?_,trivial⟩ ?_
  ·intro ua uw SV pV (M:Mx none w uw _) hk hn hd
   have e17:ua.eval (.tmp 17)=(zO g):=zQ1 (hd 17 (by decide))
   have e15:ua.eval (.tmp 15)=zI (q:Int):=zQ1 (hd 15 (by decide))
   exact ze rfl (zP g (3*q)) (y_ixC3 (N:=18) 76 (by kernel_rfl) (by kernel_rfl) (by kernel_rfl) rfl e17 e15 rfl (by omega)) rfl (M.sb)
  ·intro ua uw SV pV (M:Mx none w uw _) hk hn hd
   have e18:ua.eval (.tmp 18)=(zP g (3*q)):=zQ1 (hd 18 (by decide))
   exact ze rfl (zP g (3*q)) (y_fa (off:=0) rfl e18 (by kernel_rfl) rfl) rfl (M.sb)
  ·intro ua uw SV pV (M:Mx none w uw _) hk hn hd
   have e19:ua.eval (.tmp 19)=(zP g (3*q)):=zQ1 (hd 19 (by decide))
   exact ze rfl ((s q)) (zda _ _ rfl e19 (M.roB (k:=0) rfl) (vlt_s V s n (by omega)) Tryz.underlying23 rfl) rfl (M.sb)
  ·intro ua uw SV pV (M:Mx none w uw _) hk hn hd
   have e12:ua.eval (.tmp 12)=zI (q:Int):=zQ1 (hd 12 (by decide))
   have e20:ua.eval (.tmp 20)=(s q):=zQ1 (hd 20 (by decide))
   exact z9a rfl rfl #[zI (q:Int),(s q)] (zfa e12 e20) (zE Tryz.func120 rfl) ((hb1▸vgood_any q ((V.c q).s) (s q) (hv q (by omega)).1 uw (hs1.step M.below)).mono fun e w2 h=>(by obtain ⟨S_,h1,h2,h4,h3⟩:=h;exact ⟨_,h1,⟨S_,rfl,h2.back M.below (fun g hg=>hs1.lt (h4 g hg)),h4⟩,(M.step h3).sub ⟨rfl,rfl,rfl,rfl,trivial⟩⟩))
  ·intro ua uw SV pV (M:Mx none w uw _) hk hn hd
   obtain ⟨s10,f21,q21⟩:=(show SV 10=true∧ua.eval (.tmp 21)=pV 10∧stE _ 10 (pV 10) from hd 21 (by decide))
   have e21:ua.eval (.tmp 21)=(pV 10):=f21
   obtain ⟨S_,eS_,hS_⟩:=(show ∃ S_,(pV 10)=.tuple #[.agg #[zI (entP q ((V.c q).s):Int),zI (entT ((V.c q).s)),S_],.bool b1]∧IsB w (entS ((V.c q).s)) S_∧∀ g,bfp S_ g→bfp (s q) g from q21)
   exact ze rfl ((pV 10)) (zla _ (.inl rfl) e21) ⟨S_,eS_,hS_⟩ (M.sb)
  ·intro ua uw SV pV (M:Mx none w uw _) hk hn hd
   obtain ⟨s11,f10,q10⟩:=(show SV 11=true∧ua.eval (.tmp 10)=pV 11∧stE _ 11 (pV 11) from hd 10 (by decide))
   have e10:ua.eval (.tmp 10)=(pV 11):=f10
   obtain ⟨S_,eS_,hS_⟩:=(show ∃ S_,(pV 11)=.tuple #[.agg #[zI (entP q ((V.c q).s):Int),zI (entT ((V.c q).s)),S_],.bool b1]∧IsB w (entS ((V.c q).s)) S_∧∀ g,bfp S_ g→bfp (s q) g from q10)
   exact ze rfl _ (y_ext _ _ rfl (e10.trans eS_) rfl) ⟨S_,rfl,hS_⟩ (M.sub ⟨rfl,rfl,rfl,(eitherR_off (hn 15 (by kernel_rfl)) rfl),trivial⟩)
  ·intro ua uw SV pV (M:Mx none w uw _) hk hn hd
   obtain ⟨s11,f10,q10⟩:=(show SV 11=true∧ua.eval (.tmp 10)=pV 11∧stE _ 11 (pV 11) from hd 10 (by decide))
   have e10:ua.eval (.tmp 10)=(pV 11):=f10
   obtain ⟨S_,eS_,hS_⟩:=(show ∃ S_,(pV 11)=.tuple #[.agg #[zI (entP q ((V.c q).s):Int),zI (entT ((V.c q).s)),S_],.bool b1]∧IsB w (entS ((V.c q).s)) S_∧∀ g,bfp S_ g→bfp (s q) g from q10)
   exact ze rfl (.bool b1) (y_ext _ _ rfl (e10.trans eS_) rfl) rfl (M.sb)
  ·intro ua uw SV pV (M:Mx none w uw _) hk hn hd
   exact ze rfl _ (by unfold execOp;kernel_rfl) ⟨_,rfl⟩ ((M.allocP 3 128 (#[zI 0,zI 0,zN])).sub ⟨rfl,rfl,rfl,(zzb (hn 15 (by kernel_rfl)) rfl),trivial⟩)
  ·intro ua uw SV pV (M:Mx none w uw _) hk hn hd
   obtain ⟨s14,f6,q6⟩:=(show SV 14=true∧ua.eval (.tmp 6)=pV 14∧stE _ 14 (pV 14) from hd 6 (by decide))
   obtain ⟨s12,f22,q22⟩:=(show SV 12=true∧ua.eval (.tmp 22)=pV 12∧stE _ 12 (pV 12) from hd 22 (by decide))
   have e22:ua.eval (.tmp 22)=(pV 12):=f22
   obtain ⟨S_,eS_,hS_⟩:=(show ∃ S_,pV 12=.agg #[zI (entP q ((V.c q).s):Int),zI (entT ((V.c q).s)),S_]∧IsB w (entS ((V.c q).s)) S_∧∀ g,bfp S_ g→bfp (s q) g from q22)
   have eA_:aggC (pV 12)=#[zI (entP q ((V.c q).s):Int),zI (entT ((V.c q).s)),S_]:=by rw [eS_];rfl
   obtain ⟨g_,r_⟩:=(show ∃ g,pV 14=(zO g) from q6)
   have M2:=M.ptrV (k:=3) (g:=g_) (zya s14 (zea hk rfl)) r_
   exact hopM_doM rfl rfl (run_st M2 (k:=3) rfl _ _ _ rfl (f6.trans r_) (f22.trans eS_) (#[zI (entP q ((V.c q).s):Int),zI (entT ((V.c q).s)),S_]) _ rfl (zL rfl) (zyc hS_.1) (zca rfl) (by kernel_rfl)) (fun w2 h2=>(h2.toPtr (k:=3) rfl r_ eA_).sub ⟨rfl,rfl,rfl,rfl,trivial⟩) rfl
  intro p6 a6 w6 M6 G6 y6
  obtain ⟨-,-,-,-,-,-,-,-,-,-,-,-,q12,q13,q14,-,-⟩:=y6
  obtain ⟨gp14x5,r14⟩:=(show ∃ g,p6 14=(zO g) from q14)
  obtain ⟨S6,r12,hS6⟩:=(show ∃ S_,p6 12=.agg #[zI (entP q ((V.c q).s):Int),zI (entT ((V.c q).s)),S_]∧IsB w (entS ((V.c q).s)) S_∧∀ g,bfp S_ g→bfp (s q) g from q12)
  have r13:p6 13=.bool b1:=q13
  replace M6:Mx _ _ w6 [(0,blkO g 80 (vltA V s n)),(1,blkR g2 tw3 (#[zI (q:Int),.func (.func tw2) #[] #[]])),(2,blkR g3 128 (#[zI 0,zI 0,zN])),(3,zha true (ptrR 128 (aggC (p6 12)) (p6 14)) (z5a true (ptrR 128 (#[zI 0,zI 0,zN]) (p6 14))))]:=M6
  simp only [List.take,layV,Nat.zero_add,Nat.reduceAdd,r12,r13,r14] at G6
  rw [r14,r12] at M6
  have M6_3:=M6.ptr (k:=3) (g:=gp14x5) rfl
  replace M6_3:=M6_3.toB (k:=3) (c2:=#[zI (entP q ((V.c q).s):Int),zI (entT ((V.c q).s)),S6]) rfl rfl
  refine rm rfl G6 fun _ F7=>hK5 _ _ (zSk fun _ hK8=>?_)
  refine zva F7 (SE [.inl (zO g2),.inl (zI (q:Int)),.inl (zI ((q+1:Nat):Int)),.inl (zO g),.inl (zO g2),.inl (zI (q:Int)),.inl (zI ((q+1:Nat):Int)),.inl (zO g),.inl (zO g),.inl (zP g (3*(q+1))),.inl (zP g (3*(q+1))),.inl ((s (q+1))),.inr (fun vE=>∃ S_,vE=.tuple #[.agg #[zI (entP (q+1) ((V.c (q+1)).s):Int),zI (entT ((V.c (q+1)).s)),S_],.bool b2]∧IsB w (entS ((V.c (q+1)).s)) S_∧∀ g,bfp S_ g→bfp (s (q+1)) g),.inr (fun vE=>∃ S_,vE=.tuple #[.agg #[zI (entP (q+1) ((V.c (q+1)).s):Int),zI (entT ((V.c (q+1)).s)),S_],.bool b2]∧IsB w (entS ((V.c (q+1)).s)) S_∧∀ g,bfp S_ g→bfp (s (q+1)) g),.inr (fun vE=>∃ S_,vE=.agg #[zI (entP (q+1) ((V.c (q+1)).s):Int),zI (entT ((V.c (q+1)).s)),S_]∧IsB w (entS ((V.c (q+1)).s)) S_∧∀ g,bfp S_ g→bfp (s (q+1)) g),.inl (.bool b2),.inr (fun vE=>∃ g,vE=(zO g)),.inl (undef)]) (JM none w fun SV pV=>[(0,blkO g 80 (vltA V s n)),(1,blkR g2 tw3 (#[zI (q:Int),.func (.func tw2) #[] #[]])),(2,blkR g3 128 (#[zI 0,zI 0,zN])),(3,blkR gp14x5 128 (#[zI (entP q ((V.c q).s):Int),zI (entT ((V.c q).s)),S6])),(4,zha (SV 17) (ptrR 128 (aggC (pV 14)) (pV 16)) (z5a (SV 16) (ptrR 128 (#[zI 0,zI 0,zN]) (pV 16))))]) 18 rfl (by kernel_rfl) rfl ⟨trivial,trivial,trivial,trivial,trivial,trivial,trivial,trivial,trivial,trivial,trivial,trivial,trivial,trivial,trivial,trivial,trivial,fun _=>Iff.rfl,trivial⟩ (fun p=>((M6_3.step (zsa _)).triv 4).sub ⟨rfl,rfl,rfl,rfl,rfl,trivial⟩) ⟨zcb F7,hopMP F7 (fun _ _ _ M=>zu (Mx.blk (k:=1) M rfl) dnil) (some g2),?_,zcb F7,zcb F7,hopMP F7 (fun _ _ _ M=>zu (Mx.blk (k:=1) M rfl) dnil) (some g2),?_,zcb F7,zcb F7,?_,?_,?_,?_,?_,?_,?_,?_,?_,trivial⟩ ?_
  ·intro ua uw SV pV (M:Mx none w uw _) hk hn hd
   have e26:ua.eval (.tmp 26)=zI (q:Int):=zQ1 (hd 26 (by decide))
   exact ze rfl (zI ((q+1:Nat):Int)) (zoa _ _ _ _ rfl e26 rfl (by omega) (by omega)) rfl (M.sb)
  ·intro ua uw SV pV (M:Mx none w uw _) hk hn hd
   have e30:ua.eval (.tmp 30)=zI (q:Int):=zQ1 (hd 30 (by decide))
   exact ze rfl (zI ((q+1:Nat):Int)) (zoa _ _ _ _ rfl e30 rfl (by omega) (by omega)) rfl (M.sb)
  ·intro ua uw SV pV (M:Mx none w uw _) hk hn hd
   have e33:ua.eval (.tmp 33)=(zO g):=zQ1 (hd 33 (by decide))
   have e31:ua.eval (.tmp 31)=zI ((q+1:Nat):Int):=zQ1 (hd 31 (by decide))
   exact ze rfl (zP g (3*(q+1))) (y_ixC3 (N:=18) 76 (by kernel_rfl) (by kernel_rfl) (by kernel_rfl) rfl e33 e31 rfl hq) rfl (M.sb)
  ·intro ua uw SV pV (M:Mx none w uw _) hk hn hd
   have e34:ua.eval (.tmp 34)=(zP g (3*(q+1))):=zQ1 (hd 34 (by decide))
   exact ze rfl (zP g (3*(q+1))) (y_fa (off:=0) rfl e34 (by kernel_rfl) rfl) rfl (M.sb)
  ·intro ua uw SV pV (M:Mx none w uw _) hk hn hd
   have e35:ua.eval (.tmp 35)=(zP g (3*(q+1))):=zQ1 (hd 35 (by decide))
   exact ze rfl ((s (q+1))) (zda _ _ rfl e35 (M.roB (k:=0) rfl) (vlt_s V s n hq) Tryz.underlying23 rfl) rfl (M.sb)
  ·intro ua uw SV pV (M:Mx none w uw _) hk hn hd
   have e27:ua.eval (.tmp 27)=zI ((q+1:Nat):Int):=zQ1 (hd 27 (by decide))
   have e36:ua.eval (.tmp 36)=(s (q+1)):=zQ1 (hd 36 (by decide))
   exact z9a rfl rfl #[zI ((q+1:Nat):Int),(s (q+1))] (zfa e27 e36) (zE Tryz.func120 rfl) ((hb2▸vgood_any (q+1) ((V.c (q+1)).s) (s (q+1)) (hv (q+1) hq).1 uw (hs2.step M.below)).mono fun e w2 h=>(by obtain ⟨S_,h1,h2,h4,h3⟩:=h;exact ⟨_,h1,⟨S_,rfl,h2.back M.below (fun g hg=>hs2.lt (h4 g hg)),h4⟩,(M.step h3).sub ⟨rfl,rfl,rfl,rfl,rfl,trivial⟩⟩))
  ·intro ua uw SV pV (M:Mx none w uw _) hk hn hd
   obtain ⟨s12,f37,q37⟩:=(show SV 12=true∧ua.eval (.tmp 37)=pV 12∧stE _ 12 (pV 12) from hd 37 (by decide))
   have e37:ua.eval (.tmp 37)=(pV 12):=f37
   obtain ⟨S_,eS_,hS_⟩:=(show ∃ S_,(pV 12)=.tuple #[.agg #[zI (entP (q+1) ((V.c (q+1)).s):Int),zI (entT ((V.c (q+1)).s)),S_],.bool b2]∧IsB w (entS ((V.c (q+1)).s)) S_∧∀ g,bfp S_ g→bfp (s (q+1)) g from q37)
   exact ze rfl ((pV 12)) (zla _ (.inl rfl) e37) ⟨S_,eS_,hS_⟩ (M.sb)
  ·intro ua uw SV pV (M:Mx none w uw _) hk hn hd
   obtain ⟨s13,f24,q24⟩:=(show SV 13=true∧ua.eval (.tmp 24)=pV 13∧stE _ 13 (pV 13) from hd 24 (by decide))
   have e24:ua.eval (.tmp 24)=(pV 13):=f24
   obtain ⟨S_,eS_,hS_⟩:=(show ∃ S_,(pV 13)=.tuple #[.agg #[zI (entP (q+1) ((V.c (q+1)).s):Int),zI (entT ((V.c (q+1)).s)),S_],.bool b2]∧IsB w (entS ((V.c (q+1)).s)) S_∧∀ g,bfp S_ g→bfp (s (q+1)) g from q24)
   exact ze rfl _ (y_ext _ _ rfl (e24.trans eS_) rfl) ⟨S_,rfl,hS_⟩ (M.sub ⟨rfl,rfl,rfl,rfl,(eitherR_off (hn 17 (by kernel_rfl)) rfl),trivial⟩)
  ·intro ua uw SV pV (M:Mx none w uw _) hk hn hd
   obtain ⟨s13,f24,q24⟩:=(show SV 13=true∧ua.eval (.tmp 24)=pV 13∧stE _ 13 (pV 13) from hd 24 (by decide))
   have e24:ua.eval (.tmp 24)=(pV 13):=f24
   obtain ⟨S_,eS_,hS_⟩:=(show ∃ S_,(pV 13)=.tuple #[.agg #[zI (entP (q+1) ((V.c (q+1)).s):Int),zI (entT ((V.c (q+1)).s)),S_],.bool b2]∧IsB w (entS ((V.c (q+1)).s)) S_∧∀ g,bfp S_ g→bfp (s (q+1)) g from q24)
   exact ze rfl (.bool b2) (y_ext _ _ rfl (e24.trans eS_) rfl) rfl (M.sb)
  ·intro ua uw SV pV (M:Mx none w uw _) hk hn hd
   exact ze rfl _ (by unfold execOp;kernel_rfl) ⟨_,rfl⟩ ((M.allocP 4 128 (#[zI 0,zI 0,zN])).sub ⟨rfl,rfl,rfl,rfl,(zzb (hn 17 (by kernel_rfl)) rfl),trivial⟩)
  ·intro ua uw SV pV (M:Mx none w uw _) hk hn hd
   obtain ⟨s16,f8,q8⟩:=(show SV 16=true∧ua.eval (.tmp 8)=pV 16∧stE _ 16 (pV 16) from hd 8 (by decide))
   obtain ⟨s14,f38,q38⟩:=(show SV 14=true∧ua.eval (.tmp 38)=pV 14∧stE _ 14 (pV 14) from hd 38 (by decide))
   have e38:ua.eval (.tmp 38)=(pV 14):=f38
   obtain ⟨S_,eS_,hS_⟩:=(show ∃ S_,pV 14=.agg #[zI (entP (q+1) ((V.c (q+1)).s):Int),zI (entT ((V.c (q+1)).s)),S_]∧IsB w (entS ((V.c (q+1)).s)) S_∧∀ g,bfp S_ g→bfp (s (q+1)) g from q38)
   have eA_:aggC (pV 14)=#[zI (entP (q+1) ((V.c (q+1)).s):Int),zI (entT ((V.c (q+1)).s)),S_]:=by rw [eS_];rfl
   obtain ⟨g_,r_⟩:=(show ∃ g,pV 16=(zO g) from q8)
   have M2:=M.ptrV (k:=4) (g:=g_) (zya s16 (zea hk rfl)) r_
   exact hopM_doM rfl rfl (run_st M2 (k:=4) rfl _ _ _ rfl (f8.trans r_) (f38.trans eS_) (#[zI (entP (q+1) ((V.c (q+1)).s):Int),zI (entT ((V.c (q+1)).s)),S_]) _ rfl (zL rfl) (zyc hS_.1) (zca rfl) (by kernel_rfl)) (fun w2 h2=>(h2.toPtr (k:=4) rfl r_ eA_).sub ⟨rfl,rfl,rfl,rfl,rfl,trivial⟩) rfl
  intro p9 a9 w9 M9 G9 y9
  obtain ⟨-,-,-,-,-,-,-,-,-,-,-,-,-,-,q14,q15,q16,-,-⟩:=y9
  obtain ⟨gp16x8,r16⟩:=(show ∃ g,p9 16=(zO g) from q16)
  obtain ⟨S9,r14,hS9⟩:=(show ∃ S_,p9 14=.agg #[zI (entP (q+1) ((V.c (q+1)).s):Int),zI (entT ((V.c (q+1)).s)),S_]∧IsB w (entS ((V.c (q+1)).s)) S_∧∀ g,bfp S_ g→bfp (s (q+1)) g from q14)
  have r15:p9 15=.bool b2:=q15
  replace M9:Mx _ _ w9 [(0,blkO g 80 (vltA V s n)),(1,blkR g2 tw3 (#[zI (q:Int),.func (.func tw2) #[] #[]])),(2,blkR g3 128 (#[zI 0,zI 0,zN])),(3,blkR gp14x5 128 (#[zI (entP q ((V.c q).s):Int),zI (entT ((V.c q).s)),S6])),(4,zha true (ptrR 128 (aggC (p9 14)) (p9 16)) (z5a true (ptrR 128 (#[zI 0,zI 0,zN]) (p9 16))))]:=M9
  simp only [List.take,layV,Nat.zero_add,Nat.reduceAdd,r14,r15,r16] at G9
  rw [r16,r14] at M9
  have M9_4:=M9.ptr (k:=4) (g:=gp16x8) rfl
  replace M9_4:=M9_4.toB (k:=4) (c2:=#[zI (entP (q+1) ((V.c (q+1)).s):Int),zI (entT ((V.c (q+1)).s)),S9]) rfl rfl
  refine rm rfl G9 fun _ F10=>hK8 _ _ (zSk fun _ hK11=>zT fun _ hK12=>rm rfl F10 fun _ F13=>rm rfl F13 fun _ F14=>?_)
  cases b2
  ·refine zB 10 [(4,(zO g3)),(5,.bool false),(6,(zO gp14x5)),(7,.bool b1),(8,(zO gp16x8)),(51,.bool false)] [] dnil [] F14 fun _ F15=>?_
   refine hK12 _ _ (wp_cond_false (F15 51 rfl) (wp_skip (hK11 _ _ (zT fun _ hK16=>zc (w':=w9) rfl rfl F15 rfl _ (zjb _ _ rfl (F15 6 rfl) (M9_4.blk (k:=3) rfl) (#[zI (entP q ((V.c q).s):Int),zI (entT ((V.c q).s)),S6]) (znb rfl) Tryz.underlying128 rfl (by kernel_rfl)) fun _ F17=>?_))))
   refine rm rfl F17 fun _ F18=>zt rfl rfl F18 M9_4 (k:=2) rfl _ _ _ rfl (F18 4 rfl) (F18 53 rfl) (#[zI (entP q ((V.c q).s):Int),zI (entT ((V.c q).s)),S6]) _ rfl (zL rfl) (zyc (hS6.1.step M9_4.below)) (zca rfl) (by kernel_rfl) ?_
   intro w19 M19
   clear M9_4
   refine rm rfl F18 fun _ F20=>hK16 _ _ (wp_ret ?_)
   try simp only [Exit.then,Exit.inBlock,Exit.jump]
   have hsec:secB zr V q=false:=by rw [sec_eq hb1 hb2];simp
   exact bodyPost_ret (resCT rfl (F20.get rfl) (M19.blk (k:=2) rfl) (F20.get rfl) Tryz.underlying128 rfl (by kernel_rfl)) F20.defers ⟨S6,(by rw [show cntP V q=_ from if_neg (by rw [hsec];exact Bool.false_ne_true),show cntT V q=_ from if_neg (by rw [hsec];exact Bool.false_ne_true),show anyB zr V q=b1 by rw [anyB,hsec,hb1];rfl]),(by rw [show cntS V q=_ from if_neg (by rw [hsec];exact Bool.false_ne_true)];exact hS6.1),(fun g hg=>.inl (hS6.2 g hg)),M19.below⟩
  ·refine rm rfl F14 fun _ F21=>?_
   cases b1
   ·refine zB 9 [(4,(zO g3)),(5,.bool false),(6,(zO gp14x5)),(7,.bool false),(8,(zO gp16x8)),(51,.bool true)] [] dnil [] F21 fun _ F22=>?_
    refine hK12 _ _ (wp_cond_true (F22 51 rfl) (zT fun _ hK23=>zc (w':=w9) rfl rfl F22 rfl _ (zjb _ _ rfl (F22 8 rfl) (M9_4.blk (k:=4) rfl) (#[zI (entP (q+1) ((V.c (q+1)).s):Int),zI (entT ((V.c (q+1)).s)),S9]) (znb rfl) Tryz.underlying128 rfl (by kernel_rfl)) fun _ F24=>?_))
    refine zt rfl rfl F24 M9_4 (k:=2) rfl _ _ _ rfl (F24 4 rfl) (F24 52 rfl) (#[zI (entP (q+1) ((V.c (q+1)).s):Int),zI (entT ((V.c (q+1)).s)),S9]) _ rfl (zL rfl) (zyc (hS9.1.step M9_4.below)) (zca rfl) (by kernel_rfl) ?_
    intro w25 M25
    clear M9_4
    refine rm rfl F24 fun _ F26=>hK23 _ _ (wp_ret ?_)
    try simp only [Exit.then,Exit.inBlock,Exit.jump]
    have hsec:secB zr V q=true:=by rw [sec_eq hb1 hb2];simp
    exact bodyPost_ret (resCT rfl (F26.get rfl) (M25.blk (k:=2) rfl) (F26.get rfl) Tryz.underlying128 rfl (by kernel_rfl)) F26.defers ⟨S9,(by rw [show cntP V q=_ from if_pos hsec,show cntT V q=_ from if_pos hsec,show anyB zr V q=true by rw [anyB,hsec,hb1];rfl]),(by rw [show cntS V q=_ from if_pos hsec];exact hS9.1),(fun g hg=>.inr (hS9.2 g hg)),M25.below⟩
   ·refine zAx 6 [(43,.bool false),(44,.bool false),(45,(zP gp16x8 1)),(46,zI (entT ((V.c (q+1)).s))),(47,(zP gp14x5 1)),(48,zI (entT ((V.c q).s)))] [0,1] (zu (M9_4.blk (k:=4) rfl) (zu (M9_4.blk (k:=3) rfl) dnil)) [gp16x8,gp14x5] F21 fun _ F27=>?_
    by_cases h28:(entT ((V.c q).s))<(entT ((V.c (q+1)).s))
    ·refine zc (w':=w9) (zd rfl rfl rfl (F27 44 rfl)) rfl F27 rfl (.bool true) (zbc _ _ _ _ rfl (F27 46 rfl) (F27 48 rfl) (decide_eq_true h28)) fun _ F29=>?_
     refine zAx 2 [(50,.bool true),(51,.bool true)] [] dnil [] F29 fun _ F30=>?_
     refine hK12 _ _ (wp_cond_true (F30 51 rfl) (zT fun _ hK31=>zc (w':=w9) rfl rfl F30 rfl _ (zjb _ _ rfl (F30 8 rfl) (M9_4.blk (k:=4) rfl) (#[zI (entP (q+1) ((V.c (q+1)).s):Int),zI (entT ((V.c (q+1)).s)),S9]) (znb rfl) Tryz.underlying128 rfl (by kernel_rfl)) fun _ F32=>?_))
     refine zt rfl rfl F32 M9_4 (k:=2) rfl _ _ _ rfl (F32 4 rfl) (F32 52 rfl) (#[zI (entP (q+1) ((V.c (q+1)).s):Int),zI (entT ((V.c (q+1)).s)),S9]) _ rfl (zL rfl) (zyc (hS9.1.step M9_4.below)) (zca rfl) (by kernel_rfl) ?_
     intro w33 M33
     clear M9_4
     refine rm rfl F32 fun _ F34=>hK31 _ _ (wp_ret ?_)
     try simp only [Exit.then,Exit.inBlock,Exit.jump]
     have hsec:secB zr V q=true:=by rw [sec_eq hb1 hb2];simp [h28]
     exact bodyPost_ret (resCT rfl (F34.get rfl) (M33.blk (k:=2) rfl) (F34.get rfl) Tryz.underlying128 rfl (by kernel_rfl)) F34.defers ⟨S9,(by rw [show cntP V q=_ from if_pos hsec,show cntT V q=_ from if_pos hsec,show anyB zr V q=true by rw [anyB,hsec,hb1];rfl]),(by rw [show cntS V q=_ from if_pos hsec];exact hS9.1),(fun g hg=>.inr (hS9.2 g hg)),M33.below⟩
    ·refine zc (w':=w9) (zd rfl rfl rfl (F27 44 rfl)) rfl F27 rfl (.bool false) (zbc _ _ _ _ rfl (F27 46 rfl) (F27 48 rfl) (decide_eq_false h28)) fun _ F35=>?_
     refine zAx 2 [(50,.bool false),(51,.bool false)] [] dnil [] F35 fun _ F36=>?_
     refine hK12 _ _ (wp_cond_false (F36 51 rfl) (wp_skip (hK11 _ _ (zT fun _ hK37=>zc (w':=w9) rfl rfl F36 rfl _ (zjb _ _ rfl (F36 6 rfl) (M9_4.blk (k:=3) rfl) (#[zI (entP q ((V.c q).s):Int),zI (entT ((V.c q).s)),S6]) (znb rfl) Tryz.underlying128 rfl (by kernel_rfl)) fun _ F38=>?_))))
     refine rm rfl F38 fun _ F39=>zt rfl rfl F39 M9_4 (k:=2) rfl _ _ _ rfl (F39 4 rfl) (F39 53 rfl) (#[zI (entP q ((V.c q).s):Int),zI (entT ((V.c q).s)),S6]) _ rfl (zL rfl) (zyc (hS6.1.step M9_4.below)) (zca rfl) (by kernel_rfl) ?_
     intro w40 M40
     clear M9_4
     refine rm rfl F39 fun _ F41=>hK37 _ _ (wp_ret ?_)
     try simp only [Exit.then,Exit.inBlock,Exit.jump]
     have hsec:secB zr V q=false:=by rw [sec_eq hb1 hb2];simp [h28]
     exact bodyPost_ret (resCT rfl (F41.get rfl) (M40.blk (k:=2) rfl) (F41.get rfl) Tryz.underlying128 rfl (by kernel_rfl)) F41.defers ⟨S6,(by rw [show cntP V q=_ from if_neg (by rw [hsec];exact Bool.false_ne_true),show cntT V q=_ from if_neg (by rw [hsec];exact Bool.false_ne_true),show anyB zr V q=true by rw [anyB,hsec,hb1];rfl]),(by rw [show cntS V q=_ from if_neg (by rw [hsec];exact Bool.false_ne_true)];exact hS6.1),(fun g hg=>.inl (hS6.2 g hg)),M40.below⟩
theorem countsR (q:Nat) (hq:q+1<18) (g:Nat) (V:VltN) (s n:Nat→Value) (hv:z1a V) (w:World) (h:HasV w g V s n):Calls Tryz.prog 106 #[.agg #[zI (q:Int),.func (.func 105) #[] #[]],(zO g)] w fun e w'=>∃ S,e=.returned (.tuple #[.agg #[zI (cntP V q:Int),zI (cntT V q),S],.bool (anyB zr V q)])∧IsB w (cntS V q) S∧(∀ b,bfp S b→bfp (s q) b∨bfp (s (q+1)) b)∧Below w.heap.size w w':=counts_tw true q hq g V s n hv w h
theorem countsI (q:Nat) (hq:q+1<18) (g:Nat) (V:VltN) (s n:Nat→Value) (hv:z1a V) (w:World) (h:HasV w g V s n):Calls Tryz.prog 89 #[.agg #[zI (q:Int),.func (.func 88) #[] #[]],(zO g)] w fun e w'=>∃ S,e=.returned (.tuple #[.agg #[zI (cntP V q:Int),zI (cntT V q),S],.bool (anyB zr V q)])∧IsB w (cntS V q) S∧(∀ b,bfp S b→bfp (s q) b∨bfp (s (q+1)) b)∧Below w.heap.size w w':=counts_tw false q hq g V s n hv w h
section
open Go.Shelf
theorem setCell_heap {w:World} {g o:Nat} {v:Value} {c:Array Value} {t:TypeId} {fr:Nat×Nat} (h:w.heap[g]? = some (.cells c t fr)):(w.setCell ⟨g,o,none⟩ v).heap[g]? = some (.cells (c.setIfInBounds o v) t fr):=by
 obtain ⟨hlt,e⟩:=Array.getElem?_eq_some_iff.1 h
 unfold World.setCell
 simp [hlt]
 rw [Array.getElem_modify_self,e]
theorem grown_setCells (g:Nat):∀ (vs:List Value) (o:Nat) (w:World),w.grownBy (w.setCells g o vs) (some g)
 | [],_,w=>World.grownBy.refl _ _
 | v::r,o,w=>by
  have h:=grown_setCells g r (o+1) (w.setCell ⟨g,o,none⟩ v)
  refine World.grownBy.trans ?_ h
  exact ⟨rfl,rfl,rfl,by simp [World.setCell],fun k hk hn=>Below.heap_setCell w ⟨g,o,none⟩ v k (fun e=>hn (by rw [e]))⟩
theorem heap_setCells (g:Nat):∀ (vs:List Value) (o:Nat) (w:World) (c:Array Value) (t:TypeId) (fr:Nat×Nat),w.heap[g]? = some (.cells c t fr)→∃ c',(w.setCells g o vs).heap[g]? = some (.cells c' t fr)∧c'.size=c.size ∧
  (∀ j,j<vs.length→o+j<c.size→c'[o+j]? = vs[j]?)∧∀ k,(k<o∨o+vs.length≤k)→c'[k]? = c[k]?
 | [],o,w,c,t,fr,h=>⟨c,h,rfl,fun j hj=>absurd hj (Nat.not_lt_zero _),fun _ _=>rfl⟩
 | v::r,o,w,c,t,fr,h=>by
  obtain ⟨c',h1,h2,h3,h4⟩:=heap_setCells g r (o+1) (w.setCell ⟨g,o,none⟩ v) _ t fr (setCell_heap h)
  refine ⟨c',h1,by rw [h2];simp,fun j hj hlt=>?_,fun k hk=>?_⟩
  ·cases j with
   | zero=>
    rw [Nat.add_zero,h4 o (.inl (by omega)),Array.getElem?_setIfInBounds_self]
    simp at hlt
    simp [hlt]
   | succ j=>
    have:=h3 j (by simpa using hj) (by simp;omega)
    rw [show o+(j+1)=o+1+j by omega,this]
    simp
  ·rw [h4 k (by simp at hk;omega),Array.getElem?_setIfInBounds_ne (by simp at hk;omega)]
def Tl (w:World) (v:Value) (l:List UInt8):Prop:=(v=zN∧l=[]) ∨
 ∃ g o c cur,v=.slice (some ⟨g,o,none⟩) l.length c∧w.heap[g]? = some (.cells cur 5 (0,0))∧l.length≤c∧c≤maxLen∧o+c≤cur.size∧∀ j b,l[j]? = some b→cur[o+j]? = some (bv b)
theorem Tl.same {l:List UInt8} {v:Value} {u u':World} (hs:Same (ofp v) u u') (h:Tl u v l):Tl u' v l:=by
 rcases h with h | ⟨g,o,c,cur,e,h1,h2⟩
 ·exact .inl h
 ·exact .inr ⟨g,o,c,cur,e,hs g _ (by rw [ofp,e];rfl) h1,h2⟩
theorem Tl.isb {w:World} {v:Value} {l:List UInt8} (h:Tl w v l):IsB w l v:=by
 rcases h with ⟨rfl,rfl⟩ | ⟨g,o,c,cur,rfl,h1,h2,h3,h4,h5⟩
 ·exact zia w
 ·refine ⟨_,_,rfl,h2,h3,fun e=>(by cases e),fun _=>⟨_,rfl,(Array.getElem?_eq_some_iff.1 h1).1,fun j b hb=>?_⟩⟩
  rw [zna]
  exact y_cell h1 (h5 j b hb)
theorem Tl.lt {w:World} {v:Value} {l:List UInt8} (h:Tl w v l):∀ g,ofp v g→g<w.heap.size:=fun g hg=>by
 rcases h with ⟨rfl,_⟩ | ⟨g',o,c,cur,rfl,h1,_⟩
 ·cases hg
 ·cases hg;exact (Array.getElem?_eq_some_iff.1 h1).1
section
variable {G:Option Nat} {w0 w:World} {R:List (Nat×Res)} {a:Act} {o:Oper}
end
end
section
open Go.Shelf
section
variable {G:Option Nat} {w0 w:World} {R R':List (Nat×Res)}
theorem Mx.ren (M:Mx G w0 w R) (f:Nat→Nat) (h:∀ i r,look R' i=some r→look R (f i)=some r) (inj:∀ i j r s,look R' i=some r→look R' j=some s→i≠j→f i≠f j):Mx G w0 w R':=
 ⟨M.grown,fun i r e=>M.at_ _ r (h i r e),fun i r e=>M.dep _ r (h i r e),fun i r e=>M.lt _ r (h i r e),fun i r e=>M.own _ r (h i r e),fun i j r s e1 e2 hij hw=>M.dis _ _ r s (h i r e1) (h j s e2) (inj i j r s e1 e2 hij) hw⟩
end
end
def wrLt (R:List (Nat×Res)) (N:Nat):Prop:=∀ k s,look R k=some s→s.wr=true→∀ g,s.fp g→g<N
theorem Mx.roB2 {G:Option Nat} {w0 w:World} {R:List (Nat×Res)} {N:Nat} (M:Mx G w0 w R) (hN:wrLt R N) (i:Nat) {l:List UInt8} {v:Value} (hv:IsB w l v) (hlo:∀ g,bfp v g→N≤g):Mx G w0 w ((i,bytR l v)::R)∧wrLt ((i,bytR l v)::R) N:=
 ⟨M.cons i _ hv z2b (fun g hg=>hv.lt hg) (fun e=>by cases e) fun k s e _ hh g hg hs=>by
  rcases hh with hh | hh
  ·cases hh
  ·have h1:=hN k s e hh g hs
   have h2:=hlo g hg
   omega,fun k s e hw g hg=>by
  rw [zx] at e;split at e
  ·cases e;cases hw
  ·exact hN k s e hw g hg⟩
theorem eightI_next (n:Int) {j:Nat} (h:j<8):(zy n).take j++[zj (n / 2^(8*(7-j)))]=(zy n).take (j+1):=by
 rw [List.take_add_one]
 congr 1
 simp [zy,List.getElem?_range h]
theorem reight_any (n:Int) (w:World):
  Calls Tryz.prog 81 #[zI n] w fun e w'=>∃ v,e=.returned v∧Byt w' w.heap.size v (zy n)∧Below w.heap.size w w':=by
 refine zk (args:=[zI n]) 20 Tryz.func81 rfl rfl rfl ?_
 intro fa F
 have M:=Mx.start w
 refine zT fun _ hK1=>rm rfl F fun _ F2=>hK1 _ _ (zSk fun _ hK3=>?_)
 refine zR (rm rfl F2 fun _ F4=>hK3 _ _ (zSk fun _ hK5=>?_))
 refine zT fun _ hK6=>rm rfl F4 fun _ F7=>hK6 _ _ (wp_block ?_)
 have M8:=M.nilO 0
 refine zeb (α:=Nat×Value) (n:=20) (G:=none) (w0:=w) (fun x=>[(0,zI n),(2,zN),(4,zI (x.1:Int)),(3,x.2)]) (fun x=>[(0,ownR ((zy n).take x.1) x.2)]) (fun k x=>k=(8-x.1)∧(x.1≤8)) _ ⟨0,(zN)⟩ ⟨rfl,(by omega)⟩ (F7.sb) (M8.sb) ?_
 rintro k9 ⟨jn,ev⟩ a9 w9 K9 ⟨ek9,I9⟩ F9 M9 hK9
 replace F9:Fx 20 a9 [(0,zI n),(2,zN),(4,zI (jn:Int)),(3,ev)]:=F9
 replace M9:Mx _ _ w9 [(0,ownR ((zy n).take jn) ev)]:=M9
 replace I9:jn≤8:=I9
 replace ek9:k9=(8-jn):=ek9
 by_cases hlt:jn<8
 rotate_left
 ·obtain rfl:jn=8:=by omega
  refine zSk fun _ hK29=>zSk fun _ hK30=>zR (rm rfl F9 fun _ F31=>rn rfl rfl F31 rfl (.bool false) (zka _ _ _ _ rfl (F31.get rfl) rfl (decide_eq_false (by decide))) fun _ F32=>?_)
  refine hK30 _ _ (wp_cond_false (F32.get rfl) ?_)
  refine wp_exit ?_
  simp only [Exit.then,Exit.inBlock,↓reduceIte,Nat.reduceEqDiff]
  refine hK5 _ _ (zSk fun _ hK33=>?_)
  refine zR (rm rfl F32 fun _ F34=>rm rfl F34 fun _ F35=>hK33 _ _ (wp_ret ?_))
  exact bodyPost_ret (res1 rfl (F35.get rfl)) F35.defers ⟨_,rfl,(by have h:=M9.byt (k:=0) rfl;rwa [List.take_of_length_le (by rw [zja];exact Nat.le_refl _)] at h),M9.below⟩
 refine zSk fun _ hK10=>zSk fun _ hK11=>zR (rm rfl F9 fun _ F12=>rn rfl rfl F12 rfl (.bool true) (zka _ _ _ _ rfl (F12.get rfl) rfl (decide_eq_true (show (jn:Int)<8 by omega))) fun _ F13=>?_)
 refine hK11 _ _ (wp_cond_true (F13.get rfl) ?_)
 refine wp_skip (hK10 _ _ (zSk fun _ hK14=>?_))
 refine wp_block (zR (rm rfl F13 fun _ F15=>rm rfl F15 fun _ F16=>rm rfl F16 fun _ F17=>rn rfl rfl F17 rfl (zI (8*(jn:Int))) (y_mulI _ _ _ _ rfl rfl (F17.get rfl) rfl (by omega)) fun _ F18=>?_))
 refine rn rfl rfl F18 rfl (zI (56-8*(jn:Int))) (z3c _ _ _ _ rfl rfl (F18.get rfl) rfl (by omega)) fun _ F19=>?_
 refine rn rfl rfl F19 rfl (.int .u64 (56-8*(jn:Int))) (y_cvI _ _ _ rfl (F19.get rfl) Tryz.underlying3 Tryz.underlying108 (by rw [IntKind.wrap_u64];omega)) fun _ F20=>?_
 refine rn rfl rfl F20 rfl (zI (n / 2^(8*(7-jn)))) (y_shrI _ _ _ _ rfl (F20.get rfl) (F20.get rfl) (by show (0:Int)≤56-8*(jn:Int)∧56-8*(jn:Int)≤64;omega) (by rw [show (56-8*(jn:Int)).toNat=8*(7-jn) by omega])) fun _ F21=>?_
 refine rn rfl rfl F21 rfl (zY (((zj (n / 2^(8*(7-jn)))).toNat:Nat):Int)) (y_cvI _ _ _ rfl (F21.get rfl) Tryz.underlying3 Tryz.underlying5 (ztb _)) fun _ F22=>?_
 refine zwa rfl rfl F22 rfl (zdd M9 1 [(zj (n / 2^(8*(7-jn))))] 1 rfl (by decide) (by decide) rfl (by simp only [List.map_toArray,List.map_cons,List.map_nil,(F22 16 rfl)];kernel_rfl)) ?_
 intro v23 a23 w23 F23 M23
 obtain ⟨A23,c23,rfl⟩:=(M23.isO (k:=1) rfl).shape
 refine zwa rfl rfl F23 rfl (zfb M23 (k:=0) rfl _ _ rfl (F23.get rfl) (F23.get rfl) (M23.isO (k:=1) rfl) (by simp only [List.length_take,List.length_cons,List.length_nil];omega)) ?_
 intro v24 a24 w24 F24 M24
 obtain ⟨A24,c24,rfl⟩:=(M24.isO (k:=0) rfl).shape
 refine rm rfl F24 fun _ F25=>hK14 _ _ (zR ?_)
 refine rm rfl F25 fun _ F26=>rn rfl rfl F26 rfl (zI ((jn+1:Nat):Int)) (zoa _ _ _ _ rfl (F26.get rfl) rfl (by omega) (by omega)) fun _ F27=>?_
 refine rm rfl F27 fun _ F28=>?_
 subst ek9
 exact hK9 _ ⟨(jn+1),(.slice A24 ((((zy n).take jn)++[(zj (n / 2^(8*(7-jn))))])).length c24)⟩ _ _ (by omega) ⟨rfl,(by omega)⟩ (F28.sb) (M24.sub ⟨(by rw [←eightI_next n hlt];rfl),trivial⟩)
theorem take4 (a:Nat) {k:Nat} (hk:k<8):(zhb a).take (32-4*k)=(zhb a).take (28-4*k)++[zqb a (28-4*k),zqb a (29-4*k),zqb a (30-4*k),zqb a (31-4*k)]:=by
 have h:k=0∨k=1∨k=2∨k=3∨k=4∨k=5∨k=6∨k=7:=by omega
 rcases h with rfl | rfl | rfl | rfl | rfl | rfl | rfl | rfl <;> rfl
theorem four_bytes (a:Nat) {k:Nat} (hk:k<8):#[Value.int .u8 (IntKind.u8.wrap (digI a k / 16777216)),.int .u8 (IntKind.u8.wrap (digI a k / 65536)),.int .u8 (IntKind.u8.wrap (digI a k / 256)),.int .u8 (IntKind.u8.wrap (digI a k))]=bvs [zqb a (28-4*k),zqb a (29-4*k),zqb a (30-4*k),zqb a (31-4*k)]:=by
 have h0:=dig_byte a k 0 (by omega)
 have h1:=dig_byte a k 1 (by omega)
 have h2:=dig_byte a k 2 (by omega)
 have h3:=dig_byte a k 3 (by omega)
 have hl:=dig_lt a k
 simp only [bvs,List.map_cons,List.map_nil,bv,byteN_toNat,digI,IntKind.wrap_u8]
 rw [show 31-(28-4*k)=4*k+3 by omega,show 31-(29-4*k)=4*k+2 by omega,show 31-(30-4*k)=4*k+1 by omega,show 31-(31-4*k)=4*k+0 by omega,←h0,←h1,←h2,←h3]
 generalize dig a k=d at *
 simp
/-! Read. -/
theorem dig_place {R k b:Nat} (hR:256^(k+1) ∣ R) (hb:b<256):(∀ j,j≠k / 4→dig (R+b*256^k) j=dig R j)∧dig (R+b*256^k) (k / 4)=dig R (k / 4)+b*256^(k%4)∧dig R (k / 4)%256^(k%4+1)=0:=by
 obtain ⟨Q,rfl⟩:=hR
 have e:∀ j,(4294967296:Nat)^j=256^(4*j):=fun j=>by rw [Nat.pow_mul]
 have hp:∀ j,(0:Nat)<256^j:=fun j=>Nat.pow_pos (by decide)
 refine ⟨fun j hj=>?_,?_⟩
 ·unfold dig
  rw [e]
  rcases Nat.lt_or_gt_of_ne hj with h | h
  ·obtain ⟨x,rfl⟩:∃ x,k=4*j+4+x:=⟨k-(4*j+4),by omega⟩
   have e1:b*256^(4*j+4+x)=256^(4*j)*(4294967296*(b*256^x)):=by
    rw [Nat.pow_add,Nat.pow_add,show (4294967296:Nat)=256^4 from rfl];simp only [Nat.mul_assoc,Nat.mul_comm,Nat.mul_left_comm]
   rw [e1,Nat.add_mul_div_left _ _ (hp _),Nat.add_mul_mod_self_left]
  ·obtain ⟨x,hx⟩:∃ x,4*j=k+1+x:=⟨4*j-(k+1),by omega⟩
   have e3:(256:Nat)^(k+1+x)=256^k*(256*256^x):=by rw [Nat.pow_add,Nat.pow_succ,Nat.mul_assoc]
   have e4:256^(k+1)*Q=256^k*(256*Q):=by rw [Nat.pow_succ,Nat.mul_assoc]
   rw [hx,e3,e4,Nat.mul_comm b,←Nat.mul_add,Nat.mul_div_mul_left _ _ (hp k),Nat.mul_div_mul_left _ _ (hp k),←Nat.div_div_eq_div_mul,←Nat.div_div_eq_div_mul]
   congr 2
   omega
 ·unfold dig
  rw [e]
  obtain ⟨d,r,hk,hr⟩:∃ d r,k=4*d+r∧r<4:=⟨k / 4,k%4,by omega,by omega⟩
  have h1:k / 4=d:=by omega
  have h2:k%4=r:=by omega
  rw [h1,h2,hk]
  have e1:256^(4*d+r+1)*Q=256^(4*d)*(256^(r+1)*Q):=by
   rw [Nat.add_assoc,Nat.pow_add,Nat.mul_assoc]
  have e2:b*256^(4*d+r)=256^(4*d)*(b*256^r):=by
   rw [Nat.pow_add];simp only [Nat.mul_assoc,Nat.mul_comm,Nat.mul_left_comm]
  rw [e1,e2,←Nat.mul_add,Nat.mul_div_cancel_left _ (hp _),Nat.mul_div_cancel_left _ (hp _)]
  have:r=0∨r=1∨r=2∨r=3:=by omega
  rcases this with rfl | rfl | rfl | rfl <;> simp <;> omega
theorem or_place {x b r:Nat} (hx:x<4294967296) (hm:x%256^(r+1)=0) (hb:b<256) (hr:r<4):bits .or .u32 (x:Int) ((b*256^r:Nat):Int)=((x+b*256^r:Nat):Int):=by
 have h:b*256^r<256^(r+1):=by rw [Nat.pow_succ,Nat.mul_comm];exact Nat.mul_lt_mul_of_pos_left hb (Nat.pow_pos (by decide))
 have h2:(256:Nat)^(r+1)≤256^4:=Nat.pow_le_pow_right (by decide) (by omega)
 rw [u32_or_nat _ _ hx (by omega),nat_join (8*(r+1)) x _ (by rw [Nat.pow_mul];exact hm) (by rw [Nat.pow_mul];exact h)]
theorem Num.setDig {w:World} {b R R' d:Nat} {t:TypeId} (h:Num w b t R) (hd:d<8) (hj:∀ j,j≠d→dig R' j=dig R j):Num (w.setCell ⟨b,d,none⟩ (.int .u32 (digI R' d))) b t R':=by
 refine num_of_row (h.row.set d _) fun j hj8=>?_
 by_cases e:j=d
 ·rw [if_pos e,e];rfl
 ·rw [if_neg e];unfold numF digI;rw [hj j e]
def sofar (l:List UInt8) (n i:Nat):Nat:=zp (l.take i)*256^(n-i)
theorem sofar_next {l:List UInt8} {n i:Nat} (hl:l.length=n) (hi:i<n):∃ b:UInt8,l[i]? = some b∧sofar l n (i+1)=sofar l n i+b.toNat*256^(n-1-i)∧256^(n-1-i+1) ∣ sofar l n i:=by
 have h:i<l.length:=by omega
 refine ⟨l[i],List.getElem?_eq_getElem h,?_,?_⟩
 ·unfold sofar
  rw [List.take_succ_eq_append_getElem h,readN_snoc,show n-i=n-1-i+1 by omega,show n-(i+1)=n-1-i by omega,Nat.pow_succ]
  grind
 ·unfold sofar
  rw [show n-1-i+1=n-i by omega]
  exact Nat.dvd_mul_left _ _
theorem sofar_zero (l:List UInt8) (n:Nat):sofar l n 0=0:=by unfold sofar;simp [zp]
theorem sofar_all {l:List UInt8} {n:Nat} (hl:l.length=n):sofar l n n=zp l:=by unfold sofar;rw [List.take_of_length_le (by omega)];simp
attribute [irreducible] sofar
theorem place_step {l:List UInt8} {n i:Nat} (hl:l.length=n) (hn:n≤32) (hi:i<n):∃ (b:UInt8) (d r:Nat),l[i]? = some b∧n-1-i=4*d+r∧d<8∧r<4 ∧
  (∀ j,j≠d→dig (sofar l n (i+1)) j=dig (sofar l n i) j)∧bits .or .u32 (digI (sofar l n i) d) ((b.toNat*256^r:Nat):Int)=digI (sofar l n (i+1)) d:=by
 obtain ⟨b,h1,h2,h3⟩:=sofar_next hl hi
 obtain ⟨q1,q2,q3⟩:=dig_place h3 b.toNat_lt
 refine ⟨b,(n-1-i) / 4,(n-1-i)%4,h1,by omega,by omega,by omega,fun j hj=>by rw [h2];exact q1 j hj,?_⟩
 unfold digI
 rw [or_place (dig_lt _ _) q3 b.toNat_lt (by omega),h2,q2]
theorem rread_any (A:Option Addr) (l:List UInt8) (n cap:Nat) (hl:l.length=n) (hn:n≤32) (w:World) (hR:Rd w A l):
  Calls Tryz.prog 95 #[.slice A n cap] w fun e w'=>e=.returned (.tuple #[numV (zp l),.bool true])∧Below w.heap.size w w':=by
 have PS:=hid (fun i hi=>@place_step l n i hl hn hi)
 have SA:=hid (sofar_all hl)
 have g0:=(Num.new w 35 0).alloc (.cells (numA 0) 35)
 have g1:=Num.new (w.alloc (.cells (numA 0) 35)) 35 0
 rw [World.size_alloc,←sofar_zero l n] at g1
 have gb:Below w.heap.size w ((w.alloc (.cells (numA 0) 35)).alloc (.cells (numA 0) 35)):=((Below.refl _ _).alloc (Nat.le_refl _) _).alloc (by simp) _
 have hs:((w.alloc (.cells (numA 0) 35)).alloc (.cells (numA 0) 35)).heap.size=w.heap.size+2:=by simp
 rw [sofar_zero] at g1
 rw [←zeroA] at g0 g1 gb hs
 have SZ:=hid (sofar_zero l n)
 have HL:=hid hl
 clear hl
 go_enter Tryz.func95,Tryz.ntmps95
 go_wp2
 generalize World.alloc (World.alloc _ _) _=W at *
 go_loopw [5] (fun i wr=>∃ k:Nat,k≤n∧i=.int .i64 k∧Num wr (w.heap.size+1) 35 (sofar l n k)∧W.grownBy wr (some (w.heap.size+1))) (fun i _=>n-(intOf i).toNat)
 case atStart=>exact ⟨0,by omega,rfl,by rw [SZ.out];exact g1,World.grownBy.refl _ _⟩
 case round=>
  obtain ⟨i,hi,rfl,hnm,hg⟩:=hrel
  clear g1
  by_cases hlt:i<n
  ·obtain ⟨b,d,r,hb,hk,hd,hr,hj,hor⟩:=PS.out i hlt
   have hbb:=b.toNat_lt
   have hcd:=hnm.cell hd
   have hfd:=hnm.frozen d
   have hB:=zw gb hg (by omega) (by omega)
   obtain ⟨bb,oo,rfl,hbb2,hcl⟩:=(hR.below hB (Nat.le_refl _)).at (by have:=HL.out;omega)
   have hcb:=hcl i b hb
   clear hcl
   have HK:=hid hk
   have HN:=hid (hnm.setDig hd hj)
   clear hk hj hb
   obtain ⟨c,hc⟩:∃ c:Int,c=(b.toNat:Int):=⟨_,rfl⟩
   rw [←hc] at hcb
   have hr3:r=0∨r=1∨r=2∨r=3:=by omega
   have hoR:=digI_ge (sofar l n i) d
   have hoS:=digI_lt (sofar l n i) d
   rcases hr3 with rfl | rfl | rfl | rfl
   ·have hd8:(d:Int)<8:=by omega
    have hd0:(0:Int)≤(d:Int):=by omega
    have hor':bits BinOp.or IntKind.u32 (digI (sofar l n i) d) (c%4294967296)=digI (sofar l n (i+1)) d:=by rw [←hor,hc,Int.emod_eq_of_lt (by omega) (by omega)];simp
    have hkI:(n:Int)-1-(i:Int)=4*(d:Int):=by have:=HK.out;omega
    have hdd:IntKind.i64.wrap (d:Int)=(d:Int):=Go.IntWalk.i64_in _ (by omega)
    have hk4:IntKind.i64.wrap ((4*(d:Int)).tdiv 4)=(d:Int):=by rw [Int.tdiv_eq_ediv_of_nonneg (by omega),show (4*(d:Int)) / 4=(d:Int) by omega];exact Go.IntWalk.i64_in _ (by omega)
    have hr4:IntKind.i64.wrap ((4*(d:Int)).tmod 4)=0:=by rw [Int.tmod_eq_emod_of_nonneg (by omega),show (4*(d:Int))%4=0 by omega];rfl
    clear hor
    have hc0:0≤c:=by omega
    have hc1:c<256:=by omega
    clear hc
    go_wp2_with fail
    go_still_tail 18,(by kernel_rfl)
    change wpList _ _ _ _ _ (World.drew _)
    go_wp2
    go_roundw
    case rel=>exact ⟨i+1,by omega,by go_num,HN.out,only_drewN (zfd hg rfl _) 1⟩
    case measure=>simp [intOf] <;> omega
   ·have hd8:(d:Int)<8:=by omega
    have hd0:(0:Int)≤(d:Int):=by omega
    have hor':bits BinOp.or IntKind.u32 (digI (sofar l n i) d) (c*256%4294967296)=digI (sofar l n (i+1)) d:=by rw [←hor,hc,Int.emod_eq_of_lt (by omega) (by omega)];simp
    have hkI:(n:Int)-1-(i:Int)=4*(d:Int)+1:=by have:=HK.out;omega
    have hk4:IntKind.i64.wrap ((4*(d:Int)+1).tdiv 4)=(d:Int):=by rw [Int.tdiv_eq_ediv_of_nonneg (by omega),show (4*(d:Int)+1) / 4=(d:Int) by omega];exact Go.IntWalk.i64_in _ (by omega)
    have hr4:IntKind.i64.wrap ((4*(d:Int)+1).tmod 4)=1:=by rw [Int.tmod_eq_emod_of_nonneg (by omega),show (4*(d:Int)+1)%4=1 by omega];rfl
    clear hor
    have hc0:0≤c:=by omega
    have hc1:c<256:=by omega
    clear hc
    go_wp2_with fail
    go_still_tail 18,(by kernel_rfl)
    change wpList _ _ _ _ _ (World.drew _)
    go_wp2
    go_roundw
    case rel=>exact ⟨i+1,by omega,by go_num,HN.out,only_drewN (zfd hg rfl _) 1⟩
    case measure=>simp [intOf] <;> omega
   ·have hd8:(d:Int)<8:=by omega
    have hd0:(0:Int)≤(d:Int):=by omega
    have hor':bits BinOp.or IntKind.u32 (digI (sofar l n i) d) (c*65536%4294967296)=digI (sofar l n (i+1)) d:=by rw [←hor,hc,Int.emod_eq_of_lt (by omega) (by omega)];simp
    have hkI:(n:Int)-1-(i:Int)=4*(d:Int)+2:=by have:=HK.out;omega
    have hk4:IntKind.i64.wrap ((4*(d:Int)+2).tdiv 4)=(d:Int):=by rw [Int.tdiv_eq_ediv_of_nonneg (by omega),show (4*(d:Int)+2) / 4=(d:Int) by omega];exact Go.IntWalk.i64_in _ (by omega)
    have hr4:IntKind.i64.wrap ((4*(d:Int)+2).tmod 4)=2:=by rw [Int.tmod_eq_emod_of_nonneg (by omega),show (4*(d:Int)+2)%4=2 by omega];rfl
    clear hor
    have hc0:0≤c:=by omega
    have hc1:c<256:=by omega
    clear hc
    go_wp2_with fail
    go_still_tail 18,(by kernel_rfl)
    change wpList _ _ _ _ _ (World.drew _)
    go_wp2
    go_roundw
    case rel=>exact ⟨i+1,by omega,by go_num,HN.out,only_drewN (zfd hg rfl _) 1⟩
    case measure=>simp [intOf] <;> omega
   ·have hd8:(d:Int)<8:=by omega
    have hd0:(0:Int)≤(d:Int):=by omega
    have hor':bits BinOp.or IntKind.u32 (digI (sofar l n i) d) (c*16777216%4294967296)=digI (sofar l n (i+1)) d:=by rw [←hor,hc,Int.emod_eq_of_lt (by omega) (by omega)];simp
    have hkI:(n:Int)-1-(i:Int)=4*(d:Int)+3:=by have:=HK.out;omega
    have hk4:IntKind.i64.wrap ((4*(d:Int)+3).tdiv 4)=(d:Int):=by rw [Int.tdiv_eq_ediv_of_nonneg (by omega),show (4*(d:Int)+3) / 4=(d:Int) by omega];exact Go.IntWalk.i64_in _ (by omega)
    have hr4:IntKind.i64.wrap ((4*(d:Int)+3).tmod 4)=3:=by rw [Int.tmod_eq_emod_of_nonneg (by omega),show (4*(d:Int)+3)%4=3 by omega];rfl
    clear hor
    have hc0:0≤c:=by omega
    have hc1:c<256:=by omega
    clear hc
    go_wp2_with fail
    go_still_tail 18,(by kernel_rfl)
    change wpList _ _ _ _ _ (World.drew _)
    go_wp2
    go_roundw
    case rel=>exact ⟨i+1,by omega,by go_num,HN.out,only_drewN (zfd hg rfl _) 1⟩
    case measure=>simp [intOf] <;> omega
  ·obtain rfl:i=n:=by omega
   have hB:=zw gb hg (by omega) (by omega)
   have m0:Num wr w.heap.size 35 0:=g0.grown hg (by simp)
   rw [SA.out] at hnm
   go_wp2_with (first | (refine znc rfl _ _ rfl _ rfl _ _ _ hnm Tryz.underlying35 rfl z5b ?_) | (refine wpList_store_num rfl _ _ _ rfl _ rfl _ rfl _ rfl m0 z5b ?_;intro w5 hg5 m5))
   exact bodyPost_ret (zgd rfl rfl m5 Tryz.underlying35 rfl z5b) rfl ⟨rfl,zw hB hg5 hB.size (by omega)⟩
theorem rbytes_own (a:Nat) (w:World):
  Calls Tryz.prog 108 #[numV a] w fun e w'=>∃ v,e=.returned v∧Byt w' w.heap.size v (zhb a)∧Below w.heap.size w w':=by
 have g0:=Num.new w 35 a
 have gb:=zqa w (.cells (numA a) 35)
 have T4:=hid (fun k hk=>@take4 a k hk)
 have F4:=hid (fun k hk=>@four_bytes a k hk)
 have TF:=hid (List.take_of_length_le (Nat.le_of_eq (zrb a)))
 have LN:=hid (zrb a)
 go_enter Tryz.func108,Tryz.ntmps108
 go_wp2
 have hW1:(w.alloc (.cells (numA a) 35)).heap.size=w.heap.size+1:=by simp
 generalize World.alloc _ _=W at *
 have HW:=hid hW1
 clear hW1
 go_loopw [3,4] (fun v i wr=>∃ q:Int,-1≤q∧q≤7∧i=zI q∧Byt wr (w.heap.size+1) v ((zhb a).take (28-4*q).toNat)∧Below (w.heap.size+1) W wr) (fun _ i _=>(intOf i+1).toNat)
 case atStart=>exact ⟨7,by omega,by omega,rfl,Byt.nil _ _,Below.refl _ _⟩
 case round=>
  obtain ⟨q,hq1,hq2,rfl,hv,hB⟩:=hrel
  have n0:=g0.below hB (by omega)
  have hsz:w.heap.size+1≤wr.heap.size:=by have:=hB.size;have:=HW.out;omega
  by_cases hq:0≤q
  ·obtain ⟨k,rfl⟩:=Int.eq_ofNat_of_zero_le hq
   have hc:=n0.cell (k:=k) (by omega)
   have hk:k<8:=by omega
   have t4:=T4.out k hk
   have hd0:=digI_ge a k
   have hd1:=digI_lt a k
   have e1:(28-4*(k:Int)).toNat=28-4*k:=by omega
   have hv':Byt wr (w.heap.size+1) u3 ((zhb a).take (28-4*k)):=by rw [←e1];exact hv
   have H4:=hid t4
   clear hv e1 t4
   have hrd:Rd (wr.alloc (.cells #[zY (IntKind.u8.wrap (digI a k / 16777216)),zY (IntKind.u8.wrap (digI a k / 65536)),zY (IntKind.u8.wrap (digI a k / 256)),zY (IntKind.u8.wrap (digI a k))] 5)).drew (some ⟨wr.heap.size,0,none⟩) [zqb a (28-4*k),zqb a (29-4*k),zqb a (30-4*k),zqb a (31-4*k)]:=by
    rw [F4.out k hk]
    exact Bts.rd (t:=5) (heap_alloc_new wr _)
   have hle:((zhb a).take (28-4*k)).length≤32:=by rw [List.length_take,LN.out];omega
   have hk8:(k:Int)<8:=by omega
   obtain ⟨L,hL⟩:∃ L,L=(zhb a).take (28-4*k):=⟨_,rfl⟩
   rw [←hL] at hv' hle
   have HL:=hid hL
   clear hL
   clear LN hq1 hq2 hq F4
   go_wp2_with fail
   go_region_held3 (fun w'=>w'.cell? ⟨w.heap.size,k,none⟩=some (zU (digI a k))) (first | go_keep | (go_split_ands;rw [h2.cell (p:=⟨w.heap.size,k,none⟩) (by show w.heap.size<w.heap.size+1;omega)];assumption))
    ((refine step_append_bytes (by rfl) _ _ (by rfl) (w.heap.size+1) u3 L [zqb a (28-4*k),zqb a (29-4*k),zqb a (30-4*k),zqb a (31-4*k)] (by rfl) (show Byt _ _ _ _ from Byt.alloc hv' _) _ 4 4 (by rfl) (by rfl) (by omega) hrd (by simp <;> omega) (by simp <;> omega) ?_;intro g cap w' h1 h2 h3 h4 h5))
   have eL:L++[zqb a (28-4*k),zqb a (29-4*k),zqb a (30-4*k),zqb a (31-4*k)]=(zhb a).take (32-4*k):=by rw [HL.out,←H4.out]
   rw [eL] at h1
   have hB2:Below (w.heap.size+1) wr w':=((zqa wr _).mono (by omega)).trans (show Below _ (wr.alloc _) w' from ⟨h2.os,h2.tape,h2.output,h2.size,h2.block⟩)
   clear eL h2
   have H1:=hid h1
   clear h1
   go_wp2
   go_roundw
   case rel=>exact ⟨(k:Int)-1,by omega,by omega,by go_num,by rw [show (28-4*((k:Int)-1)).toNat=32-4*k by omega];exact H1.out,hB.trans hB2⟩
   case measure=>simp [intOf] <;> omega
  ·have hq':q = -1:=by omega
   subst hq'
   have hv':Byt wr (w.heap.size+1) u3 (zhb a):=by have:=hv;rw [show (28-4*(-1:Int)).toNat=32 from rfl,TF.out] at this;exact this
   clear hv
   have H1:=hid hv'
   clear hv'
   go_wp2
   go_ret
   exact ⟨_,rfl,H1.out.rebase fun k hk=>(by have:=(H1.out.lt k hk).1;omega),gb.trans (hB.mono (by omega))⟩
theorem rfourN_any (a:Nat) (w:World):
  Calls Tryz.prog 80 #[numV a] w fun e w'=>∃ v,e=.returned v∧IsB w' (zbb a) v∧(∀ g,bfp v g→w.heap.size≤g)∧Below w.heap.size w w':=by
 refine zk (args:=[numV a]) 6 Tryz.func80 rfl rfl rfl ?_
 intro fa F
 have M:=Mx.start w
 refine zT fun _ hK1=>zq rfl rfl F rfl M 0 (t:=35) (c:=numA a) (by unfold execOp;simp only [(F 0 rfl)];kernel_rfl) ?_
 intro g2 a2 w2 F2 M2
 refine rm rfl F2 fun _ F3=>hK1 _ _ (zSk fun _ hK4=>?_)
 refine zR (rn rfl rfl F3 rfl (numV a) (zjb _ _ rfl (F3.get rfl) (M2.blk (k:=0) rfl) (numA a) (znb rfl) Tryz.underlying35 rfl z5b) fun _ F5=>?_)
 refine zh rfl rfl F5 rfl rfl (zE Tryz.func108 rfl) #[numV a] (zaa (F5.get rfl)) (rbytes_own a w2) ?_
 rintro v6 w6 a6 h6 F6
 have M6:=M2.newO h6.2 1 h6.1
 clear M2 h6
 obtain ⟨A6,c6,rfl⟩:=(M6.isO (k:=1) rfl).shape
 refine zrc rfl rfl F6 rfl (y_slFrom _ _ rfl (F6.get rfl) (M6.isO (k:=1) rfl) rfl (i:=28) rfl (by simp [zhb])) ?_
 intro v7 a7 h7 F7
 have og8:=M6.owns (k:=1) rfl
 have M8:=M6.tame (k:=1) rfl
 have M7:=M8.partB 2 (k:=1) rfl h7.1 h7.2
 obtain ⟨A7,c7,rfl⟩:=(M7.isb (k:=2) rfl).shape
 refine rm rfl F7 fun _ F9=>hK4 _ _ (wp_ret ?_)
 exact bodyPost_ret (res1 rfl (F9.get rfl)) F9.defers ⟨_,rfl,M7.isb (k:=2) rfl,(fun g hg=>(fun g hg=>og8 g (zta hg)) g (h7.2 g hg)),M7.below⟩
theorem rsmallB_any (a:Nat) (ha:a<4294967296^8) (w:World):
  Calls Tryz.prog 79 #[numV a] w fun e w'=>e=.returned (.bool (decide (topI a 8≤32)))∧Below w.heap.size w w':=by
 refine zk (args:=[numV a]) 6 Tryz.func79 rfl rfl rfl ?_
 intro fa F
 have M:=Mx.start w
 refine zT fun _ hK1=>zq rfl rfl F rfl M 0 (t:=35) (c:=numA a) (by unfold execOp;simp only [(F 0 rfl)];kernel_rfl) ?_
 intro g2 a2 w2 F2 M2
 refine rm rfl F2 fun _ F3=>hK1 _ _ (zSk fun _ hK4=>?_)
 refine zR (rn rfl rfl F3 rfl (numV a) (zjb _ _ rfl (F3.get rfl) (M2.blk (k:=0) rfl) (numA a) (znb rfl) Tryz.underlying35 rfl z5b) fun _ F5=>?_)
 refine zh rfl rfl F5 rfl rfl (zE Tryz.func107 rfl) #[numV a] (zaa (F5.get rfl)) (zba (rbits_any a ha w2)) ?_
 rintro _ w6 a6 ⟨rfl,b6⟩ F6
 have M6:=M2.step b6
 by_cases h7:(topI a 8)≤32
 ·refine rn rfl rfl F6 rfl (.bool true) (y_leq _ _ _ _ rfl (F6.get rfl) rfl (decide_eq_true h7)) fun _ F8=>?_
  refine rm rfl F8 fun _ F9=>hK4 _ _ (wp_ret ?_)
  exact bodyPost_ret (res1 rfl (F9.get rfl)) F9.defers ⟨by rw [show decide (topI a 8≤32)=true from decide_eq_true h7],M6.below⟩
 refine rn rfl rfl F6 rfl (.bool false) (y_leq _ _ _ _ rfl (F6.get rfl) rfl (decide_eq_false h7)) fun _ F10=>?_
 refine rm rfl F10 fun _ F11=>hK4 _ _ (wp_ret ?_)
 exact bodyPost_ret (res1 rfl (F11.get rfl)) F11.defers ⟨by rw [show decide (topI a 8≤32)=false from decide_eq_false h7],M6.below⟩
theorem rnameB_any (s:ByteArray) (hs:s.size≤1000) (w:World):Calls Tryz.prog 78 #[.string s] w fun e w'=>e=.returned (.bool (nameB s))∧Below w.heap.size w w':=by
 unfold nameB
 by_cases h:NameOk s
 ·rw [@decide_eq_true _ (Classical.propDecidable _) h];exact rname_ok s h w
 ·rw [@decide_eq_false _ (Classical.propDecidable _) h];exact rname_no s hs h w
def numP (l:List UInt8) (j:Nat):Int:=(l.take j).foldl (fun n x=>bits .or .i64 (IntKind.i64.wrap (n*2^(8:Int).toNat)) ((x.toNat:Nat):Int)) 0
theorem numP_next {l:List UInt8} {j:Nat} {x:UInt8} (h:l[j]? = some x):bits .or .i64 (IntKind.i64.wrap (numP l j*2^(8:Int).toNat)) ((x.toNat:Nat):Int)=numP l (j+1):=by
 unfold numP
 rw [List.take_add_one,h,Option.toList_some,List.foldl_append]
 rfl
theorem rlread_is (l:List UInt8) (v:Value) (N:Nat) (hl:l.length≤32) (hN:zp l=N) (w:World) (h:IsB w l v):Calls Tryz.prog 95 #[v] w fun e w'=>e=.returned (.tuple #[numV N,.bool true])∧Below w.heap.size w w':=by
 subst hN
 obtain ⟨A,c,rfl,h1,h2,h3,h4⟩:=h
 exact rread_any A l _ c rfl hl w h4
theorem rnumR_any (l:List UInt8) (v:Value) (hl:l.length≤100000) (w:World) (hv:IsB w l v):
  Calls Tryz.prog 93 #[v] w fun e w'=>e=.returned (zI (numR l))∧Below w.heap.size w w':=by
 refine zk (args:=[v]) 24 Tryz.func93 rfl rfl rfl ?_
 intro fa F
 have M:=Mx.start w
 replace M:=M.argB 0 hv (fun g e=>by cases e)
 refine zT fun _ hK1=>rm rfl F fun _ F2=>hK1 _ _ (zSk fun _ hK3=>?_)
 refine zR (rm rfl F2 fun _ F4=>hK3 _ _ (zSk fun _ hK5=>?_))
 refine zT fun _ hK6=>rm rfl F4 fun _ F7=>hK6 _ _ (wp_block ?_)
 refine zeb (α:=Nat) (n:=24) (G:=none) (w0:=w) (fun x=>[(0,v),(2,zI 0),(4,zI (x:Int)),(3,zI (numP l x))]) (fun x=>[(0,bytR l v)]) (fun k x=>k=8-x∧(x≤l.length∧x≤8)) _ 0 ⟨rfl,⟨Nat.zero_le _,Nat.zero_le _⟩⟩ (F7.sb) (M.sb) ?_
 rintro k8 jn a8 w8 K8 ⟨ek8,I8⟩ F8 M8 hK8
 replace F8:Fx 24 a8 [(0,v),(2,zI 0),(4,zI (jn:Int)),(3,zI (numP l jn))]:=F8
 replace M8:Mx _ _ w8 [(0,bytR l v)]:=M8
 replace I8:jn≤l.length∧jn≤8:=I8
 replace ek8:k8=8-jn:=ek8
 by_cases hlt:jn<l.length
 rotate_left
 ·refine zSk fun _ hK45=>zT fun _ hK46=>rm rfl F8 fun _ F47=>rm rfl F47 fun _ F48=>rn rfl rfl F48 rfl (zI (l.length:Int)) (z8a _ rfl (F48.get rfl) (M8.isb (k:=0) rfl) rfl) fun _ F49=>?_
  refine rn rfl rfl F49 rfl (.bool false) (zka _ _ _ _ rfl (F49.get rfl) (F49.get rfl) (decide_eq_false (show ¬(jn:Int)<(l.length:Int) by omega))) fun _ F50=>?_
  refine zB 4 [(0,v),(2,zI 0),(4,zI (jn:Int)),(3,zI (numP l jn)),(12,.bool false)] [] dnil [] F50 fun _ F51=>?_
  refine hK46 _ _ (wp_cond_false (F51.get rfl) ?_)
  refine wp_exit ?_
  simp only [Exit.then,Exit.inBlock,↓reduceIte,Nat.reduceEqDiff]
  refine hK5 _ _ (zSk fun _ hK52=>?_)
  refine zR (rm rfl F51 fun _ F53=>rm rfl F53 fun _ F54=>hK52 _ _ (wp_ret ?_))
  exact bodyPost_ret (res1 rfl (F54.get rfl)) F54.defers ⟨by rw [show numR l=numP l jn from by unfold numR numP;rw [List.take_of_length_le (by omega),List.take_of_length_le (by omega)]],M8.below⟩
 by_cases h8:jn<8
 rotate_left
 ·refine zSk fun _ hK32=>zT fun _ hK33=>rm rfl F8 fun _ F34=>rm rfl F34 fun _ F35=>rn rfl rfl F35 rfl (zI (l.length:Int)) (z8a _ rfl (F35.get rfl) (M8.isb (k:=0) rfl) rfl) fun _ F36=>?_
  refine rn rfl rfl F36 rfl (.bool true) (zka _ _ _ _ rfl (F36.get rfl) (F36.get rfl) (decide_eq_true (show (jn:Int)<(l.length:Int) by omega))) fun _ F37=>?_
  refine rm rfl F37 fun _ F38=>rm rfl F38 fun _ F39=>zc (w':=w8) (zd rfl rfl rfl (F39.get rfl)) rfl F39 rfl (.bool false) (zka _ _ _ _ rfl (F39.get rfl) rfl (decide_eq_false (show ¬(jn:Int)<8 by omega))) fun _ F40=>?_
  refine rn rfl rfl F40 rfl (.bool false) (zpb rfl (F40.get rfl) (F40.get rfl)) fun _ F41=>?_
  refine hK33 _ _ (wp_cond_false (F41.get rfl) ?_)
  refine wp_exit ?_
  simp only [Exit.then,Exit.inBlock,↓reduceIte,Nat.reduceEqDiff]
  refine hK5 _ _ (zSk fun _ hK42=>?_)
  refine zR (rm rfl F41 fun _ F43=>rm rfl F43 fun _ F44=>hK42 _ _ (wp_ret ?_))
  exact bodyPost_ret (res1 rfl (F44.get rfl)) F44.defers ⟨by rw [show numR l=numP l jn from by rw [show jn=8 by omega];rfl],M8.below⟩
 obtain ⟨x,hx⟩:∃ x,l[jn]? = some x:=⟨_,List.getElem?_eq_getElem hlt⟩
 have hnx:=numP_next hx
 refine zSk fun _ hK9=>zSk fun _ hK10=>zR (rm rfl F8 fun _ F11=>rm rfl F11 fun _ F12=>rn rfl rfl F12 rfl (zI (l.length:Int)) (z8a _ rfl (F12.get rfl) (M8.isb (k:=0) rfl) rfl) fun _ F13=>?_)
 refine rn rfl rfl F13 rfl (.bool true) (zka _ _ _ _ rfl (F13.get rfl) (F13.get rfl) (decide_eq_true (show (jn:Int)<(l.length:Int) by omega))) fun _ F14=>?_
 refine rm rfl F14 fun _ F15=>rm rfl F15 fun _ F16=>zc (w':=w8) (zd rfl rfl rfl (F16.get rfl)) rfl F16 rfl (.bool true) (zka _ _ _ _ rfl (F16.get rfl) rfl (decide_eq_true (show (jn:Int)<8 by omega))) fun _ F17=>?_
 refine rn rfl rfl F17 rfl (.bool true) (zpb rfl (F17.get rfl) (F17.get rfl)) fun _ F18=>?_
 refine hK10 _ _ (wp_cond_true (F18.get rfl) ?_)
 refine wp_skip (hK9 _ _ (zSk fun _ hK19=>?_))
 refine wp_block (zR (rm rfl F18 fun _ F20=>rn rfl rfl F20 rfl (zI (IntKind.i64.wrap (numP l jn*2^(8:Int).toNat))) (y_shlI _ _ _ _ rfl (F20.get rfl) rfl (by decide) rfl) fun _ F21=>?_))
 refine rm rfl F21 fun _ F22=>rm rfl F22 fun _ F23=>rn rfl rfl F23 rfl ((ixV (v) jn)) (y_ixB _ _ rfl (F23.get rfl) (M8.isb (k:=0) rfl) (F23.get rfl) rfl hlt) fun _ F24=>?_
 refine rn rfl rfl F24 rfl (zY ((x.toNat:Nat):Int)) (y_ldB _ rfl (F24.get rfl) (M8.isb (k:=0) rfl) hx rfl) fun _ F25=>?_
 refine rn rfl rfl F25 rfl (zI ((x.toNat:Nat):Int)) (y_cvI _ _ _ rfl (F25.get rfl) Tryz.underlying5 Tryz.underlying3 (byte_i64 _)) fun _ F26=>?_
 refine rn rfl rfl F26 rfl (zI (numP l (jn+1))) (y_orU _ _ _ _ rfl (F26.get rfl) (F26.get rfl) hnx) fun _ F27=>?_
 refine rm rfl F27 fun _ F28=>hK19 _ _ (zR ?_)
 refine rm rfl F28 fun _ F29=>rn rfl rfl F29 rfl (zI ((jn+1:Nat):Int)) (zoa _ _ _ _ rfl (F29.get rfl) rfl (by omega) (by omega)) fun _ F30=>?_
 refine rm rfl F30 fun _ F31=>?_
 subst ek8
 exact hK8 _ (jn+1) _ _ (by omega) ⟨rfl,(by omega)⟩ (F31.sb) (M8.sb)
theorem zqc (a n:Int) (hn:0<n) (hn':n<9223372036854775808) (ha:-9223372036854775808≤a) (ha':a<9223372036854775808) (w:World):
  Calls Tryz.prog 69 #[.int .i64 a,.int .i64 n] w fun e w'=>e=.returned (.int .i64 (a%n))∧w=w':=by
 obtain ⟨h1,h2,h3,h4⟩:=tmod_case a n hn
 have hz:(n==0)=false:=by simp;omega
 by_cases h:a.tmod n<0
 ·have H:=hid (h2 h)
  clear h1 h2
  go_enter Tryz.func69,Tryz.ntmps69
  go_wp2
  go_ret
  exact ⟨congrArg (fun x=>Ending.returned (.int .i64 x)) H.out,rfl⟩
 ·have H:=hid (h1 (by omega))
  clear h1 h2
  go_enter Tryz.func69,Tryz.ntmps69
  go_wp2
  go_ret
  exact ⟨congrArg (fun x=>Ending.returned (.int .i64 x)) H.out,rfl⟩
end Go.Proofs.YtmjbnmbobocpdaaGreat
