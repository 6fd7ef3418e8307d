/- What VaultOwn stands on, part 6. -/
import Derived.Laws.StructEq
import Derived.Great.BuildSlice
import Derived.Lib.SmallJoins
import Derived.Deep.RegionHeld3
import Derived.Deep.Upon
import Derived.Lib.AppendZerosOnto
import Derived.Test.YtmjbnmbobocpdaaGreatVaultOwnP1
import Derived.Test.YtmjbnmbobocpdaaGreatVaultOwnP2
import Derived.Test.YtmjbnmbobocpdaaGreatVaultOwnP3
import Derived.Test.YtmjbnmbobocpdaaGreatVaultOwnP4
import Derived.Test.YtmjbnmbobocpdaaGreatVaultOwnP5
set_option maxRecDepth 100000
set_option maxHeartbeats 8000000
set_option linter.unusedVariables false
set_option linter.unusedSimpArgs false
/- sentinelref3: Eight, padded, Parts, Bytes: contracts. -/
namespace Go.Proofs.YtmjbnmbobocpdaaGreat
open Go.ChangeShapes Go.WideShapes Go.ChangeAt Go.RowKit Go.Shelf
theorem eightL_take {n k:Nat} (hk:k<8):(zkb n).take (k+1)=(zkb n).take k++[UInt8.ofNat (byt (n:Int) k).toNat]:=by
 have h:k<(zkb n).length:=by rw [zgc];exact hk
 rw [List.take_succ_eq_append_getElem h]
 congr 2
 simp [zkb]
theorem byt_val (n:Int) (k:Nat):(((UInt8.ofNat (byt n k).toNat).toNat:Nat):Int)=byt n k:=by
 have:=byt_bd n k
 have e:(UInt8.ofNat (byt n k).toNat).toNat=(byt n k).toNat:=by simp;omega
 rw [e,Int.toNat_of_nonneg this.1]
theorem zmc {B:Nat} {w w':World} {o:Obj} (h:Below B (w.alloc o) w') (hB:B≤w.heap.size):Below B w w':=((Below.refl B w).alloc hB o).trans h
theorem sreight_any (n:Nat) (hn:(n:Int)<9223372036854775808) (w:World):
  Calls Tryz.prog 36 #[zI (n:Int)] w fun e w'=>∃ v,e=.returned v∧Byt w' w.heap.size v (zkb n)∧Below w.heap.size w w':=by
 have ET:=hid (fun k hk=>@eightL_take n k hk)
 have BV:=hid (fun k=>byt_val (n:Int) k)
 have EL:=hid (zgc n)
 have hn0:(0:Int)≤(n:Int):=Int.natCast_nonneg _
 obtain ⟨I,hI⟩:∃ I:Int,I=(n:Int):=⟨_,rfl⟩
 rw [←hI] at hn hn0 BV ⊢
 go_enter Tryz.func36,Tryz.ntmps36
 go_wp2
 have HI:=hid hI
 clear hI
 go_loopw [3,4] (fun v i wr=>∃ k:Nat,k≤8∧i=zI k∧Byt wr w.heap.size v ((zkb n).take k)∧Below w.heap.size w wr) (fun _ i _=>8-(intOf i).toNat)
 case atStart=>exact ⟨0,by omega,rfl,Byt.nil _ _,Below.refl _ _⟩
 case round=>
  obtain ⟨k,hk,rfl,hv,hB⟩:=hrel
  by_cases hlt:k<8
  ·have et:=ET.out k hlt
   have bvk:=BV.out k
   have hle:((zkb n).take k).length≤8:=by rw [List.length_take,EL.out];omega
   have hkk:k=0∨k=1∨k=2∨k=3∨k=4∨k=5∨k=6∨k=7:=by omega
   obtain ⟨x,hx⟩:∃ x,x=UInt8.ofNat (byt I k).toNat:=⟨_,rfl⟩
   rw [←HI.out,←hx] at et
   rw [←hx] at bvk
   clear hx hlt hk ET
   rcases hkk with rfl | rfl | rfl | rfl | rfl | rfl | rfl | rfl
   ·have hV:byt I 0=I / 72057594037927936:=by unfold byt;simp;omega
    rw [hV] at bvk
    have hrd:Rd (wr.alloc (.cells #[zY (I / 72057594037927936)] 5)) (some ⟨wr.heap.size,0,none⟩) [x]:=by
     have:=rd_one x wr
     rw [bvk] at this
     exact this
    have hz:=hB.size
    clear hV bvk BV
    go_wp2_with (refine zma rfl (.tmp 9) (.tmp 17) rfl w.heap.size _ _ [x] rfl (hv.alloc _) _ 1 1 rfl rfl (fun h=>by cases h) hrd (by simp <;> omega) (by simp;omega) ?_;intro v' w' h1 h2 h3)
    go_roundw
    case rel=>exact ⟨1,by omega,by go_num,by rw [et];exact h1,hB.trans (zmc h2 hz)⟩
    case measure=>simp [intOf]
   ·have hV:byt I 1=I / 281474976710656%256:=by unfold byt;simp
    rw [hV] at bvk
    have hrd:Rd (wr.alloc (.cells #[zY (I / 281474976710656%256)] 5)) (some ⟨wr.heap.size,0,none⟩) [x]:=by
     have:=rd_one x wr
     rw [bvk] at this
     exact this
    have hz:=hB.size
    clear hV bvk BV
    go_wp2_with (refine zma rfl (.tmp 9) (.tmp 17) rfl w.heap.size _ _ [x] rfl (hv.alloc _) _ 1 1 rfl rfl (fun h=>by cases h) hrd (by simp <;> omega) (by simp;omega) ?_;intro v' w' h1 h2 h3)
    go_roundw
    case rel=>exact ⟨2,by omega,by go_num,by rw [et];exact h1,hB.trans (zmc h2 hz)⟩
    case measure=>simp [intOf]
   ·have hV:byt I 2=I / 1099511627776%256:=by unfold byt;simp
    rw [hV] at bvk
    have hrd:Rd (wr.alloc (.cells #[zY (I / 1099511627776%256)] 5)) (some ⟨wr.heap.size,0,none⟩) [x]:=by
     have:=rd_one x wr
     rw [bvk] at this
     exact this
    have hz:=hB.size
    clear hV bvk BV
    go_wp2_with (refine zma rfl (.tmp 9) (.tmp 17) rfl w.heap.size _ _ [x] rfl (hv.alloc _) _ 1 1 rfl rfl (fun h=>by cases h) hrd (by simp <;> omega) (by simp;omega) ?_;intro v' w' h1 h2 h3)
    go_roundw
    case rel=>exact ⟨3,by omega,by go_num,by rw [et];exact h1,hB.trans (zmc h2 hz)⟩
    case measure=>simp [intOf]
   ·have hV:byt I 3=I / 4294967296%256:=by unfold byt;simp
    rw [hV] at bvk
    have hrd:Rd (wr.alloc (.cells #[zY (I / 4294967296%256)] 5)) (some ⟨wr.heap.size,0,none⟩) [x]:=by
     have:=rd_one x wr
     rw [bvk] at this
     exact this
    have hz:=hB.size
    clear hV bvk BV
    go_wp2_with (refine zma rfl (.tmp 9) (.tmp 17) rfl w.heap.size _ _ [x] rfl (hv.alloc _) _ 1 1 rfl rfl (fun h=>by cases h) hrd (by simp <;> omega) (by simp;omega) ?_;intro v' w' h1 h2 h3)
    go_roundw
    case rel=>exact ⟨4,by omega,by go_num,by rw [et];exact h1,hB.trans (zmc h2 hz)⟩
    case measure=>simp [intOf]
   ·have hV:byt I 4=I / 16777216%256:=by unfold byt;simp
    rw [hV] at bvk
    have hrd:Rd (wr.alloc (.cells #[zY (I / 16777216%256)] 5)) (some ⟨wr.heap.size,0,none⟩) [x]:=by
     have:=rd_one x wr
     rw [bvk] at this
     exact this
    have hz:=hB.size
    clear hV bvk BV
    go_wp2_with (refine zma rfl (.tmp 9) (.tmp 17) rfl w.heap.size _ _ [x] rfl (hv.alloc _) _ 1 1 rfl rfl (fun h=>by cases h) hrd (by simp <;> omega) (by simp;omega) ?_;intro v' w' h1 h2 h3)
    go_roundw
    case rel=>exact ⟨5,by omega,by go_num,by rw [et];exact h1,hB.trans (zmc h2 hz)⟩
    case measure=>simp [intOf]
   ·have hV:byt I 5=I / 65536%256:=by unfold byt;simp
    rw [hV] at bvk
    have hrd:Rd (wr.alloc (.cells #[zY (I / 65536%256)] 5)) (some ⟨wr.heap.size,0,none⟩) [x]:=by
     have:=rd_one x wr
     rw [bvk] at this
     exact this
    have hz:=hB.size
    clear hV bvk BV
    go_wp2_with (refine zma rfl (.tmp 9) (.tmp 17) rfl w.heap.size _ _ [x] rfl (hv.alloc _) _ 1 1 rfl rfl (fun h=>by cases h) hrd (by simp <;> omega) (by simp;omega) ?_;intro v' w' h1 h2 h3)
    go_roundw
    case rel=>exact ⟨6,by omega,by go_num,by rw [et];exact h1,hB.trans (zmc h2 hz)⟩
    case measure=>simp [intOf]
   ·have hV:byt I 6=I / 256%256:=by unfold byt;simp
    rw [hV] at bvk
    have hrd:Rd (wr.alloc (.cells #[zY (I / 256%256)] 5)) (some ⟨wr.heap.size,0,none⟩) [x]:=by
     have:=rd_one x wr
     rw [bvk] at this
     exact this
    have hz:=hB.size
    clear hV bvk BV
    go_wp2_with (refine zma rfl (.tmp 9) (.tmp 17) rfl w.heap.size _ _ [x] rfl (hv.alloc _) _ 1 1 rfl rfl (fun h=>by cases h) hrd (by simp <;> omega) (by simp;omega) ?_;intro v' w' h1 h2 h3)
    go_roundw
    case rel=>exact ⟨7,by omega,by go_num,by rw [et];exact h1,hB.trans (zmc h2 hz)⟩
    case measure=>simp [intOf]
   ·have hV:byt I 7=I%256:=by unfold byt;simp
    rw [hV] at bvk
    have hrd:Rd (wr.alloc (.cells #[zY (I%256)] 5)) (some ⟨wr.heap.size,0,none⟩) [x]:=by
     have:=rd_one x wr
     rw [bvk] at this
     exact this
    have hz:=hB.size
    clear hV bvk BV
    go_wp2_with (refine zma rfl (.tmp 9) (.tmp 17) rfl w.heap.size _ _ [x] rfl (hv.alloc _) _ 1 1 rfl rfl (fun h=>by cases h) hrd (by simp <;> omega) (by simp;omega) ?_;intro v' w' h1 h2 h3)
    go_roundw
    case rel=>exact ⟨8,by omega,by go_num,by rw [et];exact h1,hB.trans (zmc h2 hz)⟩
    case measure=>simp [intOf]
  ·obtain rfl:k=8:=by omega
   have hv':Byt wr w.heap.size u3 (zkb n):=by rw [List.take_of_length_le (Nat.le_of_eq EL.out)] at hv;exact hv
   go_wp2
   go_ret
   exact ⟨_,rfl,hv',hB⟩
theorem byt_empty (w:World):Byt (w.alloc (.cells #[] 5)) w.heap.size (.slice (some ⟨w.heap.size,0,none⟩) 0 0) []:=
 ⟨rfl,.inr ⟨w.heap.size,0,#[],rfl,Nat.le_refl _,heap_alloc_new w _,Nat.le_refl _,by unfold maxLen;omega,rfl,rfl⟩⟩
theorem padded_any (A:Option Addr) (l:List UInt8) (n c:Nat) (hn:l.length=n) (hA:A=none→c=0) (hle:n≤100000) (w:World) (hR:Rd w A l):
  Calls Tryz.prog 96 #[.slice A n c] w fun e w'=>∃ v,e=.returned v∧Byt w' w.heap.size v (pad16 l)∧Below w.heap.size w w':=by
 have he:=byt_empty w
 have hr:=hR.step (zqa w (.cells #[] 5))
 have HN:=hid hn
 go_enter Tryz.func96,Tryz.ntmps96
 go_wp2_with (refine zma rfl (.tmp 4) (.tmp 5) rfl w.heap.size _ _ l rfl he A n c rfl hn hA hr (by rw [hn];simp;omega) (by simp) ?_;intro v1 w1 h1 h2 h3)
 have B1:Below w.heap.size w w1:=zmc h2 (Nat.le_refl _)
 rw [List.nil_append] at h1
 clear he hr hn h2 h3
 obtain ⟨m,hm⟩:∃ m,m=(16-l.length%16)%16:=⟨_,rfl⟩
 have HM:=hid hm
 clear hm
 go_loopw [3] (fun v wr=>∃ k:Nat,k≤m∧Byt wr w.heap.size v (l++List.replicate k 0)∧Below w.heap.size w wr) (fun v _=>100016+100-(match v with | .slice _ n _=>n | _=>0))
 case atStart=>exact ⟨0,by omega,by simpa using h1,B1⟩
 case round=>
  obtain ⟨k,hk,hv,hB⟩:=hrel
  clear h1 B1
  obtain ⟨A',c',rfl,hc1,hc2,hR',hl'⟩:=hv.slice
  have hlen:(l++List.replicate k (0:UInt8)).length=n+k:=by rw [List.length_append,List.length_replicate,HN.out]
  rw [hlen] at hc1 hv
  rw [hlen]
  have hz:=hB.size
  have hm2:(n+m)%16=0∧m<16:=by have:=HM.out;have:=HN.out;omega
  unfold maxLen at hc2
  have hcn:c'≤9223372036854775807:=by omega
  by_cases hlt:k<m
  ·have hmod:decide ((0:Int)<((n:Int)+(k:Int))%16)=true:=by rw [decide_eq_true_iff];omega
   have hrd:=rd_one 0 wr
   go_wp2_with (refine zma rfl (.tmp 11) (.tmp 12) rfl w.heap.size _ _ [0] rfl (hv.alloc _) _ 1 1 rfl rfl (fun h=>by cases h) hrd (by rw [hlen];simp;omega) (by simp;omega) ?_;intro v' w' h1 h2 h3)
   have e1:l++List.replicate k (0:UInt8)++[0]=l++List.replicate (k+1) 0:=by rw [List.append_assoc,List.replicate_succ']
   have hlen2:(l++List.replicate (k+1) (0:UInt8)).length=n+k+1:=by rw [List.length_append,List.length_replicate,HN.out];omega
   rw [e1] at h1
   obtain ⟨A2,c2,rfl,hc3,hc4,R2,hl2⟩:=h1.slice
   rw [hlen2] at h1
   rw [hlen2]
   have hB2:=hB.trans (zmc h2 hz)
   clear hc3 hc4 R2 hl2 h2 h3 hmod hlen hlen2 e1
   go_roundw
   case rel=>exact ⟨k+1,by omega,h1,hB2⟩
   case measure=>simp;omega
  ·obtain rfl:k=m:=by omega
   have hmod:decide ((0:Int)<((n:Int)+(k:Int))%16)=false:=by rw [decide_eq_false_iff_not];omega
   go_wp2
   go_ret
   refine ⟨_,rfl,?_,hB⟩
   have e:pad16 l=l++List.replicate k 0:=by unfold pad16;rw [←HM.out]
   rw [e];exact hv
end Go.Proofs.YtmjbnmbobocpdaaGreat
namespace Go.Proofs.YtmjbnmbobocpdaaGreat
open Go.ChangeShapes Go.WideShapes Go.ChangeAt Go.RowKit Go.Shelf
theorem or4 (a b0 b1 b2 b3:Nat) (h0:b0<256) (h1:b1<256) (h2:b2<256) (h3:b3<256):
  a ^^^ (((b0 ||| b1*256) ||| b2*65536) ||| b3*16777216)=(((a ^^^ b0) ^^^ b1*256) ^^^ b2*65536) ^^^ b3*16777216:=by
 apply Nat.eq_of_testBit_eq
 intro i
 have e1:b1*256=b1 <<< 8:=by rw [Nat.shiftLeft_eq]
 have e2:b2*65536=b2 <<< 16:=by rw [Nat.shiftLeft_eq]
 have e3:b3*16777216=b3 <<< 24:=by rw [Nat.shiftLeft_eq]
 rw [e1,e2,e3]
 simp only [Nat.testBit_xor,Nat.testBit_or,Nat.testBit_shiftLeft]
 have t0:8≤i→b0.testBit i=false:=fun h=>Nat.testBit_lt_two_pow (Nat.lt_of_lt_of_le h0 (Nat.pow_le_pow_right (n:=2) (by decide) h))
 have t1:16≤i→b1.testBit (i-8)=false:=fun h=>Nat.testBit_lt_two_pow (Nat.lt_of_lt_of_le h1 (Nat.pow_le_pow_right (n:=2) (by decide) (by omega:8≤i-8)))
 have t2:24≤i→b2.testBit (i-16)=false:=fun h=>Nat.testBit_lt_two_pow (Nat.lt_of_lt_of_le h2 (Nat.pow_le_pow_right (n:=2) (by decide) (by omega:8≤i-16)))
 by_cases c1:8≤i
 ·rw [t0 c1]
  by_cases c2:16≤i
  ·rw [t1 c2]
   by_cases c3:24≤i
   ·rw [t2 c3];simp [c1,c2,c3]
   ·simp [c1,c2,c3]
  ·have c3:¬24≤i:=by omega
   simp [c1,c2,c3]
 ·have c2:¬16≤i:=by omega
  have c3:¬24≤i:=by omega
  simp [c1,c2,c3]
theorem xor4 {a b0 b1 b2 b3:Int} (ha:0≤a∧a<4294967296) (h0:0≤b0∧b0<256) (h1:0≤b1∧b1<256) (h2:0≤b2∧b2<256) (h3:0≤b3∧b3<256):
  bits .xor .u32 a (bits .or .u32 (bits .or .u32 (bits .or .u32 b0 (b1*256)) (b2*65536)) (b3*16777216))=xorW (xorW (xorW (xorW a b0) (b1*256)) (b2*65536)) (b3*16777216):=by
 obtain ⟨a,rfl⟩:=Int.eq_ofNat_of_zero_le ha.1
 obtain ⟨b0,rfl⟩:=Int.eq_ofNat_of_zero_le h0.1
 obtain ⟨b1,rfl⟩:=Int.eq_ofNat_of_zero_le h1.1
 obtain ⟨b2,rfl⟩:=Int.eq_ofNat_of_zero_le h2.1
 obtain ⟨b3,rfl⟩:=Int.eq_ofNat_of_zero_le h3.1
 have m1:(b1:Int)*256=((b1*256:Nat):Int):=by rw [Int.natCast_mul];rfl
 have m2:(b2:Int)*65536=((b2*65536:Nat):Int):=by rw [Int.natCast_mul];rfl
 have m3:(b3:Int)*16777216=((b3*16777216:Nat):Int):=by rw [Int.natCast_mul];rfl
 have L:∀ x y:Nat,x<4294967296→y<4294967296→x ^^^ y<4294967296:=fun x y hx hy=>Nat.xor_lt_two_pow (n:=32) hx hy
 have O:∀ x y:Nat,x<4294967296→y<4294967296→x ||| y<4294967296:=fun x y hx hy=>Nat.or_lt_two_pow (n:=32) hx hy
 have p0:b0<4294967296:=by omega
 have p1:b1*256<4294967296:=Nat.lt_of_le_of_lt (Nat.mul_le_mul_right 256 (show b1≤255 by omega)) (by decide)
 have p2:b2*65536<4294967296:=Nat.lt_of_le_of_lt (Nat.mul_le_mul_right 65536 (show b2≤255 by omega)) (by decide)
 have p3:b3*16777216<4294967296:=Nat.lt_of_le_of_lt (Nat.mul_le_mul_right 16777216 (show b3≤255 by omega)) (by decide)
 have pa:a<4294967296:=by omega
 rw [m1,m2,m3,←xor_fold,←xor_fold,←xor_fold,←xor_fold,u32_or_nat _ _ p0 p1,u32_or_nat _ _ (O _ _ p0 p1) p2,u32_or_nat _ _ (O _ _ (O _ _ p0 p1) p2) p3,u32_xor_nat _ _ pa (O _ _ (O _ _ (O _ _ p0 p1) p2) p3),
  u32_xor_nat _ _ pa p0,u32_xor_nat _ _ (L _ _ pa p0) p1,u32_xor_nat _ _ (L _ _ (L _ _ pa p0) p1) p2,u32_xor_nat _ _ (L _ _ (L _ _ (L _ _ pa p0) p1) p2) p3,or4 a b0 b1 b2 b3 (by omega) (by omega) (by omega) (by omega)]
def W8.wset (s:W8) (q:Nat) (v:Int):W8:=match q with
 | 0=>{ s with x0:=v }
 | 1=>{ s with x1:=v }
 | 2=>{ s with x2:=v }
 | _=>{ s with x3:=v }
theorem absN_four (z:Nat→Int) (s:W8) (n:Nat):absN z s (n+4)=((((absN z s n).xat (n / 4) (mulF (n%4) (z n))).xat ((n+1) / 4) (mulF ((n+1)%4) (z (n+1)))).xat ((n+2) / 4) (mulF ((n+2)%4) (z (n+2)))).xat ((n+3) / 4) (mulF ((n+3)%4) (z (n+3))):=rfl
theorem absN_word (z:Nat→Int) (s:W8) {q:Nat} (hq:q<4):absN z s (4*q+4)=(absN z s (4*q)).wset q (xorW (xorW (xorW (xorW (wrd (absN z s (4*q)) q) (z (4*q))) (z (4*q+1)*256)) (z (4*q+2)*65536)) (z (4*q+3)*16777216)):=by
 rw [absN_four]
 generalize absN z s (4*q)=A
 have h:q=0∨q=1∨q=2∨q=3:=by omega
 rcases h with rfl | rfl | rfl | rfl <;> rfl
theorem sumW_feed (S:W8) (b:List UInt8):sumW (feed S b).1 (feed S b).2=sumW S b:=by
 unfold sumW pad16
 have hm:=feed_mod S b
 have e:((feed S b).2++[128]).length%16=(b++[128]).length%16:=by rw [List.length_append,List.length_append,hm];simp
 rw [e,List.append_assoc,←zbd,←List.append_assoc]
theorem pad16_append {P X:List UInt8} (h:P.length%16=0):pad16 (P++X)=P++pad16 X:=by
 unfold pad16
 have:(P++X).length%16=X.length%16:=by rw [List.length_append];omega
 rw [this,List.append_assoc]
theorem raw_feed (key b:List UInt8):mixW (feed zeroW (pad16 (pad16 (zkb key.length++key)++b++[128]))).1.one7=sumW (initW key) b:=by
 unfold sumW
 rw [List.append_assoc,pad16_append (pad16_mod _),zbd,feed_full (pad16_mod _),List.nil_append]
 rfl
end Go.Proofs.YtmjbnmbobocpdaaGreat
namespace Go.Proofs.YtmjbnmbobocpdaaGreat
open Go.ChangeShapes Go.WideShapes Go.ChangeAt Go.RowKit Go.Shelf
theorem byI_drop (L:List UInt8) (k j:Nat):byI (L.drop k) j=byI L (k+j):=by
 unfold byI;simp only [List.getD_eq_getElem?_getD,List.getElem?_drop]
theorem Byt.none0 {w:World} {base:Nat} {A:Option Addr} {n c:Nat} {l:List UInt8} (h:Byt w base (.slice A n c) l):A=none→c=0:=by
 rintro rfl
 rcases h.2 with ⟨e,_⟩ | ⟨g,cap,cur,e,_⟩
 ·injection e with e1 e2 e3
 ·injection e with e1 e2 e3;cases e1
theorem Byt.base {w:World} {b b':Nat} {v:Value} {l:List UInt8} (h:Byt w b v l) (hb:b'≤b):Byt w b' v l:=by
 refine ⟨h.1,?_⟩
 rcases h.2 with hn | ⟨g,c,cur,e,hg,rest⟩
 ·exact .inl hn
 ·exact .inr ⟨g,c,cur,e,by omega,rest⟩
theorem blk_setW {w:World} {g q:Nat} {t:TypeId} {A:W8} {V V':Int} (hb:Blk w g t (arrW A)) (hq:q<4) (hv:V=V'):Blk (w.setCell ⟨g,q,none⟩ (zU V)) g t (arrW (A.wset q V')):=by
 subst hv
 have h:q=0∨q=1∨q=2∨q=3:=by omega
 rcases h with rfl | rfl | rfl | rfl <;> exact hb.set _ _ rfl
theorem rraw_any (A:Option Addr) (key:List UInt8) (n c:Nat) (hn:key.length=n) (hA:A=none→c=0) (hnl:n≤2000) (Bp:Option Addr) (b:List UInt8) (m d:Nat) (hm:b.length=m) (hBp:Bp=none→d=0) (hml:m≤5000) (w:World) (hR:Rd w A key) (hS:Rd w Bp b):
  Calls Tryz.prog 64 #[.slice A n c,.slice Bp m d] w fun e w'=>e=.returned (.agg (z3a (outF (sumW (initW key) b))))∧Below w.heap.size w w':=by
 have b0:=zqa w (.cells #[zY 0,zY 0,zY 0,zY 0,zY 0,zY 0,zY 0,zY 0,zY 0,zY 0,zY 0,zY 0,zY 0,zY 0,zY 0,zY 0] 65)
 have z0:=Blk.new w 65 #[zY 0,zY 0,zY 0,zY 0,zY 0,zY 0,zY 0,zY 0,zY 0,zY 0,zY 0,zY 0,zY 0,zY 0,zY 0,zY 0]
 have R0:=hR.step b0
 have S0:=hS.step b0
 have HN:=hid hn
 have HMm:=hid hm
 have RF:=hid (raw_feed key b)
 go_enter Tryz.func64,Tryz.ntmps64
 go_wp2_with fail
 obtain ⟨W,hW⟩:∃ W,W=w.alloc (.cells #[zY 0,zY 0,zY 0,zY 0,zY 0,zY 0,zY 0,zY 0,zY 0,zY 0,zY 0,zY 0,zY 0,zY 0,zY 0,zY 0] 65):=⟨_,rfl⟩
 have hWs:W.heap.size=w.heap.size+1:=by rw [hW];simp
 rw [←hW] at b0 z0 R0 S0 ⊢
 clear hW hR hS
 refine (sreight_any n (by omega) _).mono ?_
 rintro e w1 ⟨v1,rfl,h1,b1⟩
 have z1:=z0.step b1
 have R1:=R0.step b1
 have C1:Below W.heap.size W w1:=b1
 go_wp2_with (refine zma rfl (.tmp 14) (.tmp 15) rfl W.heap.size _ _ key rfl h1 A n c rfl hn hA R1 (by rw [zgc,hn];omega) b1.size ?_;intro v2 w2 h2 k2 g2)
 have C2:Below W.heap.size W w2:=C1.trans k2
 obtain ⟨A2,c2,rfl,hc2,hm2,R2,_⟩:=h2.slice
 have hl2:(zkb n++key).length=8+n:=by rw [List.length_append,zgc,hn]
 have nn2:=h2.none0
 rw [hl2]
 refine (padded_any A2 (zkb n++key) (8+n) c2 hl2 nn2 (by omega) _ R2).mono ?_
 rintro e w3 ⟨v3,rfl,h3,b3⟩
 have C3:Below W.heap.size W w3:=C2.trans (b3.mono C2.size)
 have h3':=h3.base C2.size
 have S3:=S0.below C3 (Nat.le_refl _)
 have hp3:(pad16 (zkb n++key)).length≤2100:=by unfold pad16;rw [List.length_append,hl2,List.length_replicate];omega
 have hm3:=pad16_mod (zkb n++key)
 obtain ⟨P,hP⟩:∃ P,P=pad16 (zkb n++key):=⟨_,rfl⟩
 rw [←hP] at h3' hp3 hm3
 have HP:=hid hP
 have w3s:=C3.size
 clear h1 h2 h3 k2 g2 R1 R2 b1 b3 z1 hc2 hm2 hl2 nn2 hP C1 C2
 go_wp2_with (first | (refine zma rfl (.tmp 18) (.tmp 19) rfl W.heap.size _ _ b rfl h3' Bp m d rfl hm hBp S3 (by rw [hm];omega) w3s ?_;intro v4 w4 h4 k4 g4;have r128:=rd_one 128 w4;have h4':=h4.alloc (.cells #[zY 128] 5);have w4s:=Nat.le_trans w3s k4.size) | (refine zma rfl (.tmp 20) (.tmp 21) rfl W.heap.size _ _ [128] rfl h4' _ 1 1 rfl rfl (fun h=>by cases h) r128 (by rw [List.length_append,hm];simp;omega) (by simp;omega) ?_;intro v5 w5 h5 k5 g5))
 have C5:Below W.heap.size W w5:=(C3.trans k4).trans (zmc k5 w4s)
 obtain ⟨A5,c5,rfl,hc5,hm5,R5,_⟩:=h5.slice
 have hl5:(P++b++[(128:UInt8)]).length≤7101:=by rw [List.length_append,List.length_append,hm];simp;omega
 have nn5:=h5.none0
 obtain ⟨L5,hL5⟩:∃ L5,(P++b++[(128:UInt8)]).length=L5:=⟨_,rfl⟩
 rw [hL5] at hl5 ⊢
 refine (padded_any A5 _ L5 c5 hL5 nn5 (by omega) _ R5).mono ?_
 rintro e w6 ⟨v6,rfl,h6,b6⟩
 have C6:Below W.heap.size W w6:=C5.trans (b6.mono C5.size)
 have z6:=z0.below C6 z0.lt
 have hN16:=pad16_mod (P++b++[128])
 have hNl:(pad16 (P++b++[128])).length≤7200:=by unfold pad16;rw [List.length_append,hL5,List.length_replicate];omega
 have RF2:Hid (mixW (feed zeroW (pad16 (P++b++[128]))).1.one7=sumW (initW key) b):=hid (by rw [HP.out,←HN.out];exact RF.out)
 obtain ⟨all,hall⟩:∃ all,all=pad16 (P++b++[128]):=⟨_,rfl⟩
 rw [←hall] at h6 hN16 hNl RF2
 obtain ⟨A6,c6,rfl,hc6,hm6,R6,hlt6⟩:=h6.slice
 obtain ⟨N,hN⟩:∃ N,all.length=N:=⟨_,rfl⟩
 have HNN:=hid hN
 rw [hN] at hN16 hNl hc6 ⊢
 have b0s:=b0.size
 have B6:Below w.heap.size w w6:=b0.trans (C6.mono b0s)
 have h6lt:∀ k,Value.ownBlock (.slice A6 N c6)=some k→w.heap.size<k:=fun k e=>by
  have:=(hlt6 k (by rw [hN];exact e)).1
  have:=C5.size;omega
 clear h3' h4 h4' h5 h6 k4 k5 g4 g5 r128 R5 C3 C5 b6 S3 S0 R0 hall nn5 hc5 hm5 hL5 hl5 HP RF hlt6 hN hp3 hm3 hm hn
 go_wp2_with fail
 obtain ⟨T,hT⟩:∃ T,T=feed zeroW all:=⟨_,rfl⟩
 have HT0:Hid (T=feed zeroW (all.drop 0)):=hid (by rw [hT,List.drop_zero])
 rw [←hT] at RF2
 obtain ⟨g6,hg6⟩:∃ g6,g6=w6.heap.size:=⟨_,rfl⟩
 have hg6w:w.heap.size<g6:=by rw [hg6];have:=C6.size;omega
 have q0:Blk (w6.alloc (.cells #[zU 0,zU 0,zU 0,zU 0,zU 0,zU 0,zU 0,zU 0] 34)) g6 34 (arrW zeroW):=by rw [hg6];exact Blk.new w6 _ _
 have z7:=z6.alloc (.cells #[zU 0,zU 0,zU 0,zU 0,zU 0,zU 0,zU 0,zU 0] 34)
 have B7:Below w.heap.size w (w6.alloc (.cells #[zU 0,zU 0,zU 0,zU 0,zU 0,zU 0,zU 0,zU 0] 34)):=B6.alloc B6.size _
 have D7:Below g6 w6 (w6.alloc (.cells #[zU 0,zU 0,zU 0,zU 0,zU 0,zU 0,zU 0,zU 0] 34)):=by rw [hg6];exact zqa _ _
 rw [←hg6]
 have HG6:=hid hg6
 clear hg6
 clear hT z6 B6
 generalize World.alloc _ _=W7 at *
 go_loopw [7] (fun i wr=>∃ (k:Nat) (s:W8),k≤N∧k%16=0∧i=zI k∧s.ok∧Blk wr g6 34 (arrW s)∧Blk wr w.heap.size 65 #[zY 0,zY 0,zY 0,zY 0,zY 0,zY 0,zY 0,zY 0,zY 0,zY 0,zY 0,zY 0,zY 0,zY 0,zY 0,zY 0]∧Below w.heap.size w wr∧Below g6 w6 wr∧Hid (T=feed s (all.drop k))) (fun i _=>N-(intOf i).toNat)
 case atStart=>exact ⟨0,zeroW,by omega,rfl,rfl,zeroW_ok,q0,z7,B7,D7,HT0⟩
 case round=>
  obtain ⟨k,s,hk,hk16,rfl,hok,hq,hz,hB,hD,hT⟩:=hrel
  clear q0 z7 B7 D7 HT0
  by_cases hlt:k<N
  ·obtain ⟨bA,oA,rfl,hbA,hcl⟩:=R6.at (by rw [HNN.out];omega)
   have CL:Hid (∀ K,K<N→w6.cell? ⟨bA,oA+K,none⟩=some (zY (byI all K))):=hid (fun K hK=>by
    have hx:=List.getElem?_eq_getElem (l:=all) (i:=K) (by rw [HNN.out];exact hK)
    rw [hcl K _ hx,byI_get hx])
   have OKS:=hid hok
   have HQ16:=hid hk16
   clear hcl hok hk16
   go_wp2_with fail
   go_loopw [8,9] (fun i _u wr=>∃ q:Nat,q≤4∧i=zI q∧Blk wr g6 34 (arrW (absN (byI (all.drop k)) s (4*q)))∧Blk wr w.heap.size 65 #[zY 0,zY 0,zY 0,zY 0,zY 0,zY 0,zY 0,zY 0,zY 0,zY 0,zY 0,zY 0,zY 0,zY 0,zY 0,zY 0]∧Below w.heap.size w wr∧Below g6 w6 wr) (fun i _ _=>4-(intOf i).toNat)
   case atStart=>exact ⟨0,by omega,rfl,hq,hz,hB,hD⟩
   case round=>
    obtain ⟨q,hq4,rfl,hq2,hz2,hB2,hD2⟩:=hrel
    clear hq hz hB hD
    by_cases hlt4:q<4
    ·have CL2:∀ K,K<N→wr.cell? ⟨bA,oA+K,none⟩=some (zY (byI all K)):=fun K hK=>(hD2.cell (p:=⟨bA,oA+K,none⟩) (by simp only;rw [HG6.out];exact hbA)).trans (CL.out K hK)
     obtain ⟨A,hA'⟩:∃ A,A=absN (byI (all.drop k)) s (4*q):=⟨_,rfl⟩
     have hAok:A.ok:=by rw [hA'];exact ok_absN OKS.out _
     rw [←hA'] at hq2
     have hk16:=HQ16.out
     have aok:∀ j,0≤wrd A j∧wrd A j<4294967296:=fun j=>by
      obtain ⟨a0,a1,a2,a3,-⟩:=hAok
      unfold wrd;split
      ·exact a0
      ·exact a1
      ·exact a2
      ·exact a3
     have hN7:N≤7200:=hNl
     have hqq:q=0∨q=1∨q=2∨q=3:=by omega
     have hA:=hA'
     clear hA' hlt4 hq4 hAok
     have hNk:k+16≤N:=by omega
     rcases hqq with rfl | rfl | rfl | rfl
     ·have k1:wr.cell? ⟨g6,0,none⟩=some (zU A.x0):=hq2.cell (k:=0) rfl
      have f1:=hq2.frozen 0
      have hK3:k+3<N:=by omega
      have y0:=CL2 k (by omega)
      have y1:=CL2 (k+1) (by omega)
      have y2:=CL2 (k+2) (by omega)
      have y3:=CL2 (k+3) (by omega)
      have d0:=byI_bd all k
      have d1:=byI_bd all (k+1)
      have d2:=byI_bd all (k+2)
      have d3:=byI_bd all (k+3)
      have ez:∀ j,byI (all.drop k) (0+j)=byI all (k+j):=fun j=>by rw [byI_drop];congr 1;omega
      have EZ:Hid (byI (all.drop k) 0=byI all k∧byI (all.drop k) (0+1)=byI all (k+1)∧byI (all.drop k) (0+2)=byI all (k+2)∧byI (all.drop k) (0+3)=byI all (k+3)):=hid ⟨ez 0,ez 1,ez 2,ez 3⟩
      have NW:=hid (absN_word (byI (all.drop k)) s (q:=0) (by omega))
      have HA2:=hid hA
      clear ez hA
      generalize byI all k=B0 at *
      generalize byI all (k+1)=B1 at *
      generalize byI all (k+2)=B2 at *
      generalize byI all (k+3)=B3 at *
      have hd:=xor4 (aok 0) d0 d1 d2 d3
      obtain ⟨d00,d01⟩:=d0
      obtain ⟨d10,d11⟩:=d1
      obtain ⟨d20,d21⟩:=d2
      obtain ⟨d30,d31⟩:=d3
      have HD:=hid hd
      have K0:(0:Int)≤(k:Int):=Int.natCast_nonneg _
      have KN:(k:Int)<(N:Int):=by omega
      have w1:=Go.IntWalk.i64_in ((k:Int)+1) (by omega)
      have w2:=Go.IntWalk.i64_in ((k:Int)+2) (by omega)
      have w3:=Go.IntWalk.i64_in ((k:Int)+3) (by omega)
      have t1:((k:Int)+1).toNat=k+1:=by omega
      have t2:((k:Int)+2).toNat=k+2:=by omega
      have t3:((k:Int)+3).toNat=k+3:=by omega
      have p1:(0:Int)≤(k:Int)+1:=by omega
      have p2:(0:Int)≤(k:Int)+2:=by omega
      have p3:(0:Int)≤(k:Int)+3:=by omega
      have l1:(k:Int)+1<(N:Int):=by omega
      have l2:(k:Int)+2<(N:Int):=by omega
      have l3:(k:Int)+3<(N:Int):=by omega
      have c0:=Go.IntWalk.u32_in B0 (by omega)
      have c1:=Go.IntWalk.u32_in B1 (by omega)
      have c2:=Go.IntWalk.u32_in B2 (by omega)
      have c3:=Go.IntWalk.u32_in B3 (by omega)
      clear hd aok CL2
      go_wp2_with fail
      go_still_tail 34,(by kernel_rfl)
      change wpList _ _ _ _ _ (World.drew _)
      go_wp2
      go_roundw
      case rel=>
       refine ⟨1,by omega,by go_num,?_,hz2.far _ (by simp;omega),(hB2.setCell (p:=⟨g6,0,none⟩) (by simp only;omega) _).drew,(hD2.setCell (p:=⟨g6,0,none⟩) (by simp only;omega) _).drew⟩
       have e1:absN (byI (all.drop k)) s (4*1)=A.wset 0 (xorW (xorW (xorW (xorW (wrd A 0) B0) (B1*256)) (B2*65536)) (B3*16777216)):=by
        have:=NW.out
        rw [←HA2.out] at this
        rw [show 4*1=4*0+4 from rfl,this]
        obtain ⟨e0,e1,e2,e3⟩:=EZ.out
        rw [show 4*0=0 from rfl,e0,e1,e2,e3]
       rw [e1]
       refine (blk_setW hq2 (by omega) ?_).drew
       rw [←HD.out]
       first | rfl | (rw [Int.emod_eq_of_lt (by omega) (by omega),Int.emod_eq_of_lt (by omega) (by omega),Int.emod_eq_of_lt (by omega) (by omega)];rfl)
      case measure=>simp [intOf]
     ·have k1:wr.cell? ⟨g6,1,none⟩=some (zU A.x1):=hq2.cell (k:=1) rfl
      have f1:=hq2.frozen 1
      obtain ⟨K,hK⟩:∃ K,K=k+4:=⟨_,rfl⟩
      have hKK:(k:Int)+4=(K:Int):=by omega
      have hK3:K+3<N:=by omega
      have y0:=CL2 K (by omega)
      have y1:=CL2 (K+1) (by omega)
      have y2:=CL2 (K+2) (by omega)
      have y3:=CL2 (K+3) (by omega)
      have d0:=byI_bd all K
      have d1:=byI_bd all (K+1)
      have d2:=byI_bd all (K+2)
      have d3:=byI_bd all (K+3)
      have ez:∀ j,byI (all.drop k) (4+j)=byI all (K+j):=fun j=>by rw [byI_drop,hK];congr 1;omega
      have EZ:Hid (byI (all.drop k) 4=byI all K∧byI (all.drop k) (4+1)=byI all (K+1)∧byI (all.drop k) (4+2)=byI all (K+2)∧byI (all.drop k) (4+3)=byI all (K+3)):=hid ⟨ez 0,ez 1,ez 2,ez 3⟩
      have NW:=hid (absN_word (byI (all.drop k)) s (q:=1) (by omega))
      have HA2:=hid hA
      clear ez hK hA
      generalize byI all K=B0 at *
      generalize byI all (K+1)=B1 at *
      generalize byI all (K+2)=B2 at *
      generalize byI all (K+3)=B3 at *
      have hd:=xor4 (aok 1) d0 d1 d2 d3
      obtain ⟨d00,d01⟩:=d0
      obtain ⟨d10,d11⟩:=d1
      obtain ⟨d20,d21⟩:=d2
      obtain ⟨d30,d31⟩:=d3
      have HD:=hid hd
      have K0:(0:Int)≤(K:Int):=Int.natCast_nonneg _
      have KN:(K:Int)<(N:Int):=by omega
      have w1:=Go.IntWalk.i64_in ((K:Int)+1) (by omega)
      have w2:=Go.IntWalk.i64_in ((K:Int)+2) (by omega)
      have w3:=Go.IntWalk.i64_in ((K:Int)+3) (by omega)
      have t1:((K:Int)+1).toNat=K+1:=by omega
      have t2:((K:Int)+2).toNat=K+2:=by omega
      have t3:((K:Int)+3).toNat=K+3:=by omega
      have p1:(0:Int)≤(K:Int)+1:=by omega
      have p2:(0:Int)≤(K:Int)+2:=by omega
      have p3:(0:Int)≤(K:Int)+3:=by omega
      have l1:(K:Int)+1<(N:Int):=by omega
      have l2:(K:Int)+2<(N:Int):=by omega
      have l3:(K:Int)+3<(N:Int):=by omega
      have c0:=Go.IntWalk.u32_in B0 (by omega)
      have c1:=Go.IntWalk.u32_in B1 (by omega)
      have c2:=Go.IntWalk.u32_in B2 (by omega)
      have c3:=Go.IntWalk.u32_in B3 (by omega)
      clear hd aok CL2
      go_wp2_with fail
      go_still_tail 34,(by kernel_rfl)
      change wpList _ _ _ _ _ (World.drew _)
      go_wp2
      go_roundw
      case rel=>
       refine ⟨2,by omega,by go_num,?_,hz2.far _ (by simp;omega),(hB2.setCell (p:=⟨g6,1,none⟩) (by simp only;omega) _).drew,(hD2.setCell (p:=⟨g6,1,none⟩) (by simp only;omega) _).drew⟩
       have e1:absN (byI (all.drop k)) s (4*2)=A.wset 1 (xorW (xorW (xorW (xorW (wrd A 1) B0) (B1*256)) (B2*65536)) (B3*16777216)):=by
        have:=NW.out
        rw [←HA2.out] at this
        rw [show 4*2=4*1+4 from rfl,this]
        obtain ⟨e0,e1,e2,e3⟩:=EZ.out
        rw [show 4*1=4 from rfl,e0,e1,e2,e3]
       rw [e1]
       refine (blk_setW hq2 (by omega) ?_).drew
       rw [←HD.out]
       first | rfl | (rw [Int.emod_eq_of_lt (by omega) (by omega),Int.emod_eq_of_lt (by omega) (by omega),Int.emod_eq_of_lt (by omega) (by omega)];rfl)
      case measure=>simp [intOf]
     ·have k1:wr.cell? ⟨g6,2,none⟩=some (zU A.x2):=hq2.cell (k:=2) rfl
      have f1:=hq2.frozen 2
      obtain ⟨K,hK⟩:∃ K,K=k+8:=⟨_,rfl⟩
      have hKK:(k:Int)+8=(K:Int):=by omega
      have hK3:K+3<N:=by omega
      have y0:=CL2 K (by omega)
      have y1:=CL2 (K+1) (by omega)
      have y2:=CL2 (K+2) (by omega)
      have y3:=CL2 (K+3) (by omega)
      have d0:=byI_bd all K
      have d1:=byI_bd all (K+1)
      have d2:=byI_bd all (K+2)
      have d3:=byI_bd all (K+3)
      have ez:∀ j,byI (all.drop k) (8+j)=byI all (K+j):=fun j=>by rw [byI_drop,hK];congr 1;omega
      have EZ:Hid (byI (all.drop k) 8=byI all K∧byI (all.drop k) (8+1)=byI all (K+1)∧byI (all.drop k) (8+2)=byI all (K+2)∧byI (all.drop k) (8+3)=byI all (K+3)):=hid ⟨ez 0,ez 1,ez 2,ez 3⟩
      have NW:=hid (absN_word (byI (all.drop k)) s (q:=2) (by omega))
      have HA2:=hid hA
      clear ez hK hA
      generalize byI all K=B0 at *
      generalize byI all (K+1)=B1 at *
      generalize byI all (K+2)=B2 at *
      generalize byI all (K+3)=B3 at *
      have hd:=xor4 (aok 2) d0 d1 d2 d3
      obtain ⟨d00,d01⟩:=d0
      obtain ⟨d10,d11⟩:=d1
      obtain ⟨d20,d21⟩:=d2
      obtain ⟨d30,d31⟩:=d3
      have HD:=hid hd
      have K0:(0:Int)≤(K:Int):=Int.natCast_nonneg _
      have KN:(K:Int)<(N:Int):=by omega
      have w1:=Go.IntWalk.i64_in ((K:Int)+1) (by omega)
      have w2:=Go.IntWalk.i64_in ((K:Int)+2) (by omega)
      have w3:=Go.IntWalk.i64_in ((K:Int)+3) (by omega)
      have t1:((K:Int)+1).toNat=K+1:=by omega
      have t2:((K:Int)+2).toNat=K+2:=by omega
      have t3:((K:Int)+3).toNat=K+3:=by omega
      have p1:(0:Int)≤(K:Int)+1:=by omega
      have p2:(0:Int)≤(K:Int)+2:=by omega
      have p3:(0:Int)≤(K:Int)+3:=by omega
      have l1:(K:Int)+1<(N:Int):=by omega
      have l2:(K:Int)+2<(N:Int):=by omega
      have l3:(K:Int)+3<(N:Int):=by omega
      have c0:=Go.IntWalk.u32_in B0 (by omega)
      have c1:=Go.IntWalk.u32_in B1 (by omega)
      have c2:=Go.IntWalk.u32_in B2 (by omega)
      have c3:=Go.IntWalk.u32_in B3 (by omega)
      clear hd aok CL2
      go_wp2_with fail
      go_still_tail 34,(by kernel_rfl)
      change wpList _ _ _ _ _ (World.drew _)
      go_wp2
      go_roundw
      case rel=>
       refine ⟨3,by omega,by go_num,?_,hz2.far _ (by simp;omega),(hB2.setCell (p:=⟨g6,2,none⟩) (by simp only;omega) _).drew,(hD2.setCell (p:=⟨g6,2,none⟩) (by simp only;omega) _).drew⟩
       have e1:absN (byI (all.drop k)) s (4*3)=A.wset 2 (xorW (xorW (xorW (xorW (wrd A 2) B0) (B1*256)) (B2*65536)) (B3*16777216)):=by
        have:=NW.out
        rw [←HA2.out] at this
        rw [show 4*3=4*2+4 from rfl,this]
        obtain ⟨e0,e1,e2,e3⟩:=EZ.out
        rw [show 4*2=8 from rfl,e0,e1,e2,e3]
       rw [e1]
       refine (blk_setW hq2 (by omega) ?_).drew
       rw [←HD.out]
       first | rfl | (rw [Int.emod_eq_of_lt (by omega) (by omega),Int.emod_eq_of_lt (by omega) (by omega),Int.emod_eq_of_lt (by omega) (by omega)];rfl)
      case measure=>simp [intOf]
     ·have k1:wr.cell? ⟨g6,3,none⟩=some (zU A.x3):=hq2.cell (k:=3) rfl
      have f1:=hq2.frozen 3
      obtain ⟨K,hK⟩:∃ K,K=k+12:=⟨_,rfl⟩
      have hKK:(k:Int)+12=(K:Int):=by omega
      have hK3:K+3<N:=by omega
      have y0:=CL2 K (by omega)
      have y1:=CL2 (K+1) (by omega)
      have y2:=CL2 (K+2) (by omega)
      have y3:=CL2 (K+3) (by omega)
      have d0:=byI_bd all K
      have d1:=byI_bd all (K+1)
      have d2:=byI_bd all (K+2)
      have d3:=byI_bd all (K+3)
      have ez:∀ j,byI (all.drop k) (12+j)=byI all (K+j):=fun j=>by rw [byI_drop,hK];congr 1;omega
      have EZ:Hid (byI (all.drop k) 12=byI all K∧byI (all.drop k) (12+1)=byI all (K+1)∧byI (all.drop k) (12+2)=byI all (K+2)∧byI (all.drop k) (12+3)=byI all (K+3)):=hid ⟨ez 0,ez 1,ez 2,ez 3⟩
      have NW:=hid (absN_word (byI (all.drop k)) s (q:=3) (by omega))
      have HA2:=hid hA
      clear ez hK hA
      generalize byI all K=B0 at *
      generalize byI all (K+1)=B1 at *
      generalize byI all (K+2)=B2 at *
      generalize byI all (K+3)=B3 at *
      have hd:=xor4 (aok 3) d0 d1 d2 d3
      obtain ⟨d00,d01⟩:=d0
      obtain ⟨d10,d11⟩:=d1
      obtain ⟨d20,d21⟩:=d2
      obtain ⟨d30,d31⟩:=d3
      have HD:=hid hd
      have K0:(0:Int)≤(K:Int):=Int.natCast_nonneg _
      have KN:(K:Int)<(N:Int):=by omega
      have w1:=Go.IntWalk.i64_in ((K:Int)+1) (by omega)
      have w2:=Go.IntWalk.i64_in ((K:Int)+2) (by omega)
      have w3:=Go.IntWalk.i64_in ((K:Int)+3) (by omega)
      have t1:((K:Int)+1).toNat=K+1:=by omega
      have t2:((K:Int)+2).toNat=K+2:=by omega
      have t3:((K:Int)+3).toNat=K+3:=by omega
      have p1:(0:Int)≤(K:Int)+1:=by omega
      have p2:(0:Int)≤(K:Int)+2:=by omega
      have p3:(0:Int)≤(K:Int)+3:=by omega
      have l1:(K:Int)+1<(N:Int):=by omega
      have l2:(K:Int)+2<(N:Int):=by omega
      have l3:(K:Int)+3<(N:Int):=by omega
      have c0:=Go.IntWalk.u32_in B0 (by omega)
      have c1:=Go.IntWalk.u32_in B1 (by omega)
      have c2:=Go.IntWalk.u32_in B2 (by omega)
      have c3:=Go.IntWalk.u32_in B3 (by omega)
      clear hd aok CL2
      go_wp2_with fail
      go_still_tail 34,(by kernel_rfl)
      change wpList _ _ _ _ _ (World.drew _)
      go_wp2
      go_roundw
      case rel=>
       refine ⟨4,by omega,by go_num,?_,hz2.far _ (by simp;omega),(hB2.setCell (p:=⟨g6,3,none⟩) (by simp only;omega) _).drew,(hD2.setCell (p:=⟨g6,3,none⟩) (by simp only;omega) _).drew⟩
       have e1:absN (byI (all.drop k)) s (4*4)=A.wset 3 (xorW (xorW (xorW (xorW (wrd A 3) B0) (B1*256)) (B2*65536)) (B3*16777216)):=by
        have:=NW.out
        rw [←HA2.out] at this
        rw [show 4*4=4*3+4 from rfl,this]
        obtain ⟨e0,e1,e2,e3⟩:=EZ.out
        rw [show 4*3=12 from rfl,e0,e1,e2,e3]
       rw [e1]
       refine (blk_setW hq2 (by omega) ?_).drew
       rw [←HD.out]
       first | rfl | (rw [Int.emod_eq_of_lt (by omega) (by omega),Int.emod_eq_of_lt (by omega) (by omega),Int.emod_eq_of_lt (by omega) (by omega)];rfl)
      case measure=>simp [intOf]
    ·obtain rfl:q=4:=by omega
     have ok16:=hid (ok_absN (z:=byI (all.drop k)) OKS.out 16)
     go_wp2_with (refine zwb rfl _ (.tmp 6) rfl _ rfl _ _ _ hq2 Tryz.underlying34 rfl (sizeW _) ?_)
     refine (rmix_any _ ok16.out _).mono ?_
     rintro e wm ⟨rfl,bm⟩
     have qm:=hq2.step bm
     have zm:=hz2.step bm
     have Bm:=hB2.trans (bm.mono hB2.size)
     have Dm:=hD2.trans (bm.mono (by have:=hq2.lt;omega))
     clear hq2 hz2 hB2 hD2 bm
     go_wp2_with (refine zab rfl _ (.tmp 6) _ rfl _ rfl _ rfl (arrW_one _) _ qm rfl (sizeW _) ?_;intro wn gn qn)
     have zn:=zm.grown gn (fun e=>by cases e;omega)
     have Bn:=zw Bm gn Bm.size (by omega)
     have Dn:=zw Dm gn (by have:=qm.lt;omega) (Nat.le_refl _)
     have HNk:Hid (k+16≤N∧(k+16)%16=0):=hid (by have:=HQ16.out;omega)
     clear qm zm Bm Dm gn
     go_roundw
     case rel=>
      refine ⟨k+16,takeW (byI (all.drop k)) s,HNk.out.1,HNk.out.2,by go_num,ok_takeW OKS.out,qn,zn,Bn,Dn,hid ?_⟩
      rw [hT.out,feed_ge (by rw [List.length_drop,HNN.out];have:=HNk.out.1;omega),List.drop_drop]
     case measure=>simp [intOf];omega
  ·obtain rfl:k=N:=by omega
   have hTs:T=(s,[]):=by rw [hT.out,List.drop_of_length_le (by rw [HNN.out];exact Nat.le_refl _),feed_lt (by simp)]
   have HS:Hid (mixW s.one7=sumW (initW key) b):=hid (by have:=RF2.out;rw [hTs] at this;exact this)
   have ok7:=hid (ok_one7 hok)
   have c7:wr.cell? ⟨g6,7,none⟩=some (zU s.x7):=hq.cell (k:=7) rfl
   have f7:=hq.frozen 7
   have q8:=hq.set 7 (zU (bits .xor .u32 s.x7 1)) (c':=arrW s.one7) (by rw [xor_fold];rfl)
   have z8:=hz.far (a:=⟨g6,7,none⟩) (zU (bits .xor .u32 s.x7 1)) (by simp only;omega)
   have B8:=hB.setCell (p:=⟨g6,7,none⟩) (by simp only;omega) (zU (bits .xor .u32 s.x7 1))
   clear hTs hT RF2 hok hq hz hB hD hk16 R6 hlt
   go_wp2_with (refine zwb rfl _ (.tmp 6) rfl _ rfl _ _ _ q8 Tryz.underlying34 rfl (sizeW _) ?_)
   generalize World.setCell _ _ _=w8 at *
   refine (rmix_any _ ok7.out _).mono ?_
   rintro e w9 ⟨rfl,bM⟩
   rw [HS.out]
   obtain ⟨F,hF⟩:∃ F,F=sumW (initW key) b:=⟨_,rfl⟩
   have okS:=hid (ok_sumW (initW_ok key) b)
   rw [←hF] at okS ⊢
   have HF:=hid hF
   have q9:=q8.step bM
   have z9:=z8.step bM
   have B9:=B8.trans (bM.mono B8.size)
   clear hF q8 z8 B8 bM c7 f7
   go_wp2_with (refine zab rfl _ (.tmp 6) _ rfl _ rfl _ rfl (arrW_one _) _ q9 rfl (sizeW _) ?_;intro wa ga qa)
   have za:=z9.grown ga (fun e=>by cases e;omega)
   have Ba:=zw B9 ga B9.size (by omega)
   have qb:=qa.alloc (.cells #[zY 0,zY 0,zY 0,zY 0,zY 0,zY 0,zY 0,zY 0,zY 0,zY 0,zY 0,zY 0,zY 0,zY 0,zY 0,zY 0] 65)
   have zb:=za.alloc (.cells #[zY 0,zY 0,zY 0,zY 0,zY 0,zY 0,zY 0,zY 0,zY 0,zY 0,zY 0,zY 0,zY 0,zY 0,zY 0,zY 0] 65)
   have n8:=Blk.new wa 65 #[zY 0,zY 0,zY 0,zY 0,zY 0,zY 0,zY 0,zY 0,zY 0,zY 0,zY 0,zY 0,zY 0,zY 0,zY 0,zY 0]
   have Bb:=Ba.alloc Ba.size (.cells #[zY 0,zY 0,zY 0,zY 0,zY 0,zY 0,zY 0,zY 0,zY 0,zY 0,zY 0,zY 0,zY 0,zY 0,zY 0,zY 0] 65)
   replace n8:Blk (wa.alloc (.cells #[zY 0,zY 0,zY 0,zY 0,zY 0,zY 0,zY 0,zY 0,zY 0,zY 0,zY 0,zY 0,zY 0,zY 0,zY 0,zY 0] 65)) wa.heap.size 65 (z3a (partF F 0)):=by rw [←arr16_zero F];exact n8
   obtain ⟨g,hg0⟩:∃ g,g=wa.heap.size:=⟨_,rfl⟩
   have hgl:g6<g:=by rw [hg0];exact qa.lt
   rw [←hg0] at n8
   rw [←hg0]
   clear q9 z9 B9 ga qa za Ba hg0
   have OUT:Hid (∀ k,k<16→outF F k=wrd F (k / 4) / ((256^(k%4):Nat):Int)%256):=hid (fun k _=>by unfold outF;rfl)
   obtain ⟨⟨x00,x01⟩,⟨x10,x11⟩,⟨x20,x21⟩,⟨x30,x31⟩,-⟩:=okS.out
   generalize World.alloc _ _=Wb at *
   go_loopw [11] (fun i wr=>∃ k:Nat,k≤16∧i=zI k∧Blk wr g6 34 (arrW F)∧Blk wr w.heap.size 65 #[zY 0,zY 0,zY 0,zY 0,zY 0,zY 0,zY 0,zY 0,zY 0,zY 0,zY 0,zY 0,zY 0,zY 0,zY 0,zY 0]∧Blk wr g 65 (z3a (partF F k))∧Below w.heap.size w wr) (fun i _=>16-(intOf i).toNat)
   case atStart=>exact ⟨0,by omega,rfl,qb,zb,n8,Bb⟩
   case round=>
    obtain ⟨k,hk,rfl,hq,hz,hg,hB⟩:=hrel
    clear qb zb n8 Bb
    by_cases hlt:k<16
    ·have hkk:k=0∨k=1∨k=2∨k=3∨k=4∨k=5∨k=6∨k=7∨k=8∨k=9∨k=10∨k=11∨k=12∨k=13∨k=14∨k=15:=by omega
     clear hlt hk
     rcases hkk with rfl | rfl | rfl | rfl | rfl | rfl | rfl | rfl | rfl | rfl | rfl | rfl | rfl | rfl | rfl | rfl
     ·have k1:wr.cell? ⟨g6,0,none⟩=some (zU F.x0):=hq.cell (k:=0) rfl
      have k2:wr.cell? ⟨g,0,none⟩=some (zY 0):=hg.cell (k:=0) rfl
      have f1:=hg.frozen 0
      go_wp2
      go_roundw
      case rel=>exact ⟨1,by omega,by go_num,hq.far _ (by simp;omega),hz.far _ (by simp;omega),zra hg (by omega) (by rw [OUT.out 0 (by omega)];simp [wrd] <;> omega),hB.setCell (by simp;omega) _⟩
      case measure=>simp [intOf]
     ·have k1:wr.cell? ⟨g6,0,none⟩=some (zU F.x0):=hq.cell (k:=0) rfl
      have k2:wr.cell? ⟨g,1,none⟩=some (zY 0):=hg.cell (k:=1) rfl
      have f1:=hg.frozen 1
      go_wp2
      go_roundw
      case rel=>exact ⟨2,by omega,by go_num,hq.far _ (by simp;omega),hz.far _ (by simp;omega),zra hg (by omega) (by rw [OUT.out 1 (by omega)];simp [wrd] <;> omega),hB.setCell (by simp;omega) _⟩
      case measure=>simp [intOf]
     ·have k1:wr.cell? ⟨g6,0,none⟩=some (zU F.x0):=hq.cell (k:=0) rfl
      have k2:wr.cell? ⟨g,2,none⟩=some (zY 0):=hg.cell (k:=2) rfl
      have f1:=hg.frozen 2
      go_wp2
      go_roundw
      case rel=>exact ⟨3,by omega,by go_num,hq.far _ (by simp;omega),hz.far _ (by simp;omega),zra hg (by omega) (by rw [OUT.out 2 (by omega)];simp [wrd] <;> omega),hB.setCell (by simp;omega) _⟩
      case measure=>simp [intOf]
     ·have k1:wr.cell? ⟨g6,0,none⟩=some (zU F.x0):=hq.cell (k:=0) rfl
      have k2:wr.cell? ⟨g,3,none⟩=some (zY 0):=hg.cell (k:=3) rfl
      have f1:=hg.frozen 3
      go_wp2
      go_roundw
      case rel=>exact ⟨4,by omega,by go_num,hq.far _ (by simp;omega),hz.far _ (by simp;omega),zra hg (by omega) (by rw [OUT.out 3 (by omega)];simp [wrd] <;> omega),hB.setCell (by simp;omega) _⟩
      case measure=>simp [intOf]
     ·have k1:wr.cell? ⟨g6,1,none⟩=some (zU F.x1):=hq.cell (k:=1) rfl
      have k2:wr.cell? ⟨g,4,none⟩=some (zY 0):=hg.cell (k:=4) rfl
      have f1:=hg.frozen 4
      go_wp2
      go_roundw
      case rel=>exact ⟨5,by omega,by go_num,hq.far _ (by simp;omega),hz.far _ (by simp;omega),zra hg (by omega) (by rw [OUT.out 4 (by omega)];simp [wrd] <;> omega),hB.setCell (by simp;omega) _⟩
      case measure=>simp [intOf]
     ·have k1:wr.cell? ⟨g6,1,none⟩=some (zU F.x1):=hq.cell (k:=1) rfl
      have k2:wr.cell? ⟨g,5,none⟩=some (zY 0):=hg.cell (k:=5) rfl
      have f1:=hg.frozen 5
      go_wp2
      go_roundw
      case rel=>exact ⟨6,by omega,by go_num,hq.far _ (by simp;omega),hz.far _ (by simp;omega),zra hg (by omega) (by rw [OUT.out 5 (by omega)];simp [wrd] <;> omega),hB.setCell (by simp;omega) _⟩
      case measure=>simp [intOf]
     ·have k1:wr.cell? ⟨g6,1,none⟩=some (zU F.x1):=hq.cell (k:=1) rfl
      have k2:wr.cell? ⟨g,6,none⟩=some (zY 0):=hg.cell (k:=6) rfl
      have f1:=hg.frozen 6
      go_wp2
      go_roundw
      case rel=>exact ⟨7,by omega,by go_num,hq.far _ (by simp;omega),hz.far _ (by simp;omega),zra hg (by omega) (by rw [OUT.out 6 (by omega)];simp [wrd] <;> omega),hB.setCell (by simp;omega) _⟩
      case measure=>simp [intOf]
     ·have k1:wr.cell? ⟨g6,1,none⟩=some (zU F.x1):=hq.cell (k:=1) rfl
      have k2:wr.cell? ⟨g,7,none⟩=some (zY 0):=hg.cell (k:=7) rfl
      have f1:=hg.frozen 7
      go_wp2
      go_roundw
      case rel=>exact ⟨8,by omega,by go_num,hq.far _ (by simp;omega),hz.far _ (by simp;omega),zra hg (by omega) (by rw [OUT.out 7 (by omega)];simp [wrd] <;> omega),hB.setCell (by simp;omega) _⟩
      case measure=>simp [intOf]
     ·have k1:wr.cell? ⟨g6,2,none⟩=some (zU F.x2):=hq.cell (k:=2) rfl
      have k2:wr.cell? ⟨g,8,none⟩=some (zY 0):=hg.cell (k:=8) rfl
      have f1:=hg.frozen 8
      go_wp2
      go_roundw
      case rel=>exact ⟨9,by omega,by go_num,hq.far _ (by simp;omega),hz.far _ (by simp;omega),zra hg (by omega) (by rw [OUT.out 8 (by omega)];simp [wrd] <;> omega),hB.setCell (by simp;omega) _⟩
      case measure=>simp [intOf]
     ·have k1:wr.cell? ⟨g6,2,none⟩=some (zU F.x2):=hq.cell (k:=2) rfl
      have k2:wr.cell? ⟨g,9,none⟩=some (zY 0):=hg.cell (k:=9) rfl
      have f1:=hg.frozen 9
      go_wp2
      go_roundw
      case rel=>exact ⟨10,by omega,by go_num,hq.far _ (by simp;omega),hz.far _ (by simp;omega),zra hg (by omega) (by rw [OUT.out 9 (by omega)];simp [wrd] <;> omega),hB.setCell (by simp;omega) _⟩
      case measure=>simp [intOf]
     ·have k1:wr.cell? ⟨g6,2,none⟩=some (zU F.x2):=hq.cell (k:=2) rfl
      have k2:wr.cell? ⟨g,10,none⟩=some (zY 0):=hg.cell (k:=10) rfl
      have f1:=hg.frozen 10
      go_wp2
      go_roundw
      case rel=>exact ⟨11,by omega,by go_num,hq.far _ (by simp;omega),hz.far _ (by simp;omega),zra hg (by omega) (by rw [OUT.out 10 (by omega)];simp [wrd] <;> omega),hB.setCell (by simp;omega) _⟩
      case measure=>simp [intOf]
     ·have k1:wr.cell? ⟨g6,2,none⟩=some (zU F.x2):=hq.cell (k:=2) rfl
      have k2:wr.cell? ⟨g,11,none⟩=some (zY 0):=hg.cell (k:=11) rfl
      have f1:=hg.frozen 11
      go_wp2
      go_roundw
      case rel=>exact ⟨12,by omega,by go_num,hq.far _ (by simp;omega),hz.far _ (by simp;omega),zra hg (by omega) (by rw [OUT.out 11 (by omega)];simp [wrd] <;> omega),hB.setCell (by simp;omega) _⟩
      case measure=>simp [intOf]
     ·have k1:wr.cell? ⟨g6,3,none⟩=some (zU F.x3):=hq.cell (k:=3) rfl
      have k2:wr.cell? ⟨g,12,none⟩=some (zY 0):=hg.cell (k:=12) rfl
      have f1:=hg.frozen 12
      go_wp2
      go_roundw
      case rel=>exact ⟨13,by omega,by go_num,hq.far _ (by simp;omega),hz.far _ (by simp;omega),zra hg (by omega) (by rw [OUT.out 12 (by omega)];simp [wrd] <;> omega),hB.setCell (by simp;omega) _⟩
      case measure=>simp [intOf]
     ·have k1:wr.cell? ⟨g6,3,none⟩=some (zU F.x3):=hq.cell (k:=3) rfl
      have k2:wr.cell? ⟨g,13,none⟩=some (zY 0):=hg.cell (k:=13) rfl
      have f1:=hg.frozen 13
      go_wp2
      go_roundw
      case rel=>exact ⟨14,by omega,by go_num,hq.far _ (by simp;omega),hz.far _ (by simp;omega),zra hg (by omega) (by rw [OUT.out 13 (by omega)];simp [wrd] <;> omega),hB.setCell (by simp;omega) _⟩
      case measure=>simp [intOf]
     ·have k1:wr.cell? ⟨g6,3,none⟩=some (zU F.x3):=hq.cell (k:=3) rfl
      have k2:wr.cell? ⟨g,14,none⟩=some (zY 0):=hg.cell (k:=14) rfl
      have f1:=hg.frozen 14
      go_wp2
      go_roundw
      case rel=>exact ⟨15,by omega,by go_num,hq.far _ (by simp;omega),hz.far _ (by simp;omega),zra hg (by omega) (by rw [OUT.out 14 (by omega)];simp [wrd] <;> omega),hB.setCell (by simp;omega) _⟩
      case measure=>simp [intOf]
     ·have k1:wr.cell? ⟨g6,3,none⟩=some (zU F.x3):=hq.cell (k:=3) rfl
      have k2:wr.cell? ⟨g,15,none⟩=some (zY 0):=hg.cell (k:=15) rfl
      have f1:=hg.frozen 15
      go_wp2
      go_roundw
      case rel=>exact ⟨16,by omega,by go_num,hq.far _ (by simp;omega),hz.far _ (by simp;omega),zra hg (by omega) (by rw [OUT.out 15 (by omega)];simp [wrd] <;> omega),hB.setCell (by simp;omega) _⟩
      case measure=>simp [intOf]
    ·obtain rfl:k=16:=by omega
     rw [arr16_full] at hg
     go_wp2_with (first | (refine zwb rfl _ (.tmp 10) rfl _ rfl _ _ _ hg Tryz.underlying65 rfl size35 ?_) | (refine zab rfl _ (.tmp 4) _ rfl _ rfl _ rfl (arr16_one _) _ hz rfl size35 ?_;intro v gv mv))
     exact bodyPost_ret (zcd rfl rfl mv Tryz.underlying65 rfl size35) rfl ⟨by rw [HF.out],zw hB gv hB.size (by omega)⟩
end Go.Proofs.YtmjbnmbobocpdaaGreat
/- sponge.Stream, slices.Clip. -/
namespace Go.Proofs.YtmjbnmbobocpdaaGreat
open Go.ChangeShapes Go.WideShapes Go.ChangeAt Go.RowKit Go.Shelf
theorem add_zero' (a:Addr):a.add 0=a:=by obtain ⟨b,o,s⟩:=a;simp [Addr.add]
theorem map_add_zero (A:Option Addr) (k:Nat):A.map (·.add (0*k))=A:=by cases A <;> simp [add_zero']
theorem slice_h (w:World) (A:Option Addr) (n c k:Nat) (hk:k≤c):(Instr.sliceAt 23 (.slice A n c) none (some (zI (k:Int))) none).run Tryz.prog w=.ok (.slice A k c) w:=by
 have hu:Tryz.prog.underlying 23=some (.slice (Tryz.prog.elem 23)):=by rw [elem_u8s];exact Tryz.underlying23
 rw [run_sliceAt_slice _ _ _ _ _ _ hu,run_slice_h _ _ _ _ _ hu .i64 k (by omega) (by omega),elem_u8s,sizeOf_u8]
 simp only [Result.andThen_ok,sliced,Int.toNat_natCast,map_add_zero,ite_self,Nat.sub_zero]
theorem slice_sum (w:World) (g:Nat):(Instr.sliceAt 65 (zO g) none none none).run Tryz.prog w=.ok (.slice (some ⟨g,0,none⟩) 16 16) w:=by
 have hl:Tryz.prog.arrayLen 65=16:=by kernel_rfl
 have he:Tryz.prog.elem 65=5:=by kernel_rfl
 have hu:Tryz.prog.underlying 65=some (.array (Tryz.prog.arrayLen 65) (Tryz.prog.elem 65)):=by rw [hl,he];exact Tryz.underlying65
 rw [run_sliceAt_array_all w 65 ⟨g,0,none⟩ hu,he,sizeOf_u8]
 simp only [Result.andThen_ok,slicedAt,hl]
 simp [add_zero']
theorem Rd.take {w:World} {A:Option Addr} {l:List UInt8} (h:Rd w A l) (k:Nat):Rd w A (l.take k):=fun hp=>by
 have hp':0<l.length:=by rw [List.length_take] at hp;omega
 obtain ⟨ad,e,hb,hc⟩:=h hp'
 refine ⟨ad,e,hb,fun j b hj=>hc j b ?_⟩
 rw [List.getElem?_take] at hj
 split at hj
 ·exact hj
 ·cases hj
end Go.Proofs.YtmjbnmbobocpdaaGreat
namespace Go.Proofs.YtmjbnmbobocpdaaGreat
open Go.ChangeShapes Go.WideShapes Go.ChangeAt Go.RowKit Go.Shelf
section
variable {a:Act} {w:World} {o:Oper}
theorem run_lit (zs:List UInt8) (hz:0<zs.length) (hs:zs.length≤1000) (parts:Array (Nat×Operand)) (ho:o.op=.buildSlice 23 zs.length parts)
  (hf:Instr.fill (fun i=>some (i*1,1)) ((Array.range (zs.length*1)).map ((zY 0).cells[· % (zY 0).cells.size]!)) (parts.map fun (i,x)=>(i,a.eval x)).toList=some (bvs zs)):
  (execOp a.eval o).run Tryz.prog w=.ok (.value (.slice (some ⟨w.heap.size,0,none⟩) zs.length zs.length)) (w.alloc (.cells (bvs zs) 5)):=by
 obtain ⟨i,h1,h2,h3,_⟩:=info_u8
 unfold execOp
 simp only [ho,Sem.run_bind,run_buildSlice w 23 5 zs.length _ (bvs zs) i (zY 0) Tryz.underlying23 h1 h2 (by rw [h3];omega) (by rw [h3];omega) (by rw [h3];exact hf),Result.andThen_ok,Sem.run_pure]
end
end Go.Proofs.YtmjbnmbobocpdaaGreat
namespace Go.Proofs.YtmjbnmbobocpdaaGreat
open Go.ChangeShapes Go.WideShapes Go.ChangeAt Go.RowKit Go.Shelf
theorem hop_lit {ops:Array Oper} {Q:Exit→Act→World→Prop} {a:Act} {w:World} {o:Oper} {B:Nat} (hw:Region.wanted o (yielded ops a.tmps)=true) (hB:B≤w.heap.size) (zs:List UInt8) (hz:0<zs.length) (hs:zs.length≤1000) (parts:Array (Nat×Operand)) (ho:o.op=.buildSlice 23 zs.length parts)
  (hf:Instr.fill (fun i=>some (i*1,1)) ((Array.range (zs.length*1)).map ((zY 0).cells[· % (zY 0).cells.size]!)) (parts.map fun (i,x)=>(i,a.eval x)).toList=some (bvs zs)):
  if Region.wanted o (yielded ops a.tmps)=true then o.wp Tryz.prog a w (fun a' w'=>∃ v,a'=a.put o.dst v∧Kc B w w'∧(StK.lit B zs).F w' v) Q else (StK.lit B zs).F w undef:=
 hop_growK (F:=(StK.lit B zs).F) hw _ (run_lit zs hz hs parts ho hf) (Kc.of_below hB (zqa w _)) ⟨w.heap.size,(0,0),rfl,hB,hs,heap_alloc_new w _⟩
theorem LitB.isB {B:Nat} {w:World} {l:List UInt8} {v:Value} (h:LitB B w l v):IsB w l v:=by
 obtain ⟨g,fr,h1,h2,h4,h3⟩:=h
 refine ⟨_,_,h1,Nat.le_refl _,by unfold maxLen;omega,(fun h=>by cases h),fun hp=>⟨_,rfl,z2a h3,fun j b hj=>?_⟩⟩
 rw [zna,Nat.zero_add]
 simp only [World.cell?,h3]
 simp [bvs,hj]
theorem run_convB {B:Nat} {a:Act} {w:World} {o:Oper} (x:Operand) (ho:o.op=.convert 23 23 x) {l:List UInt8} (hx:LitB B w l (a.eval x)):∃ w',(execOp a.eval o).run Tryz.prog w=.ok (.value (a.eval x)) w'∧Kc B w w'∧LitB B w' l (a.eval x):=by
 obtain ⟨g,fr,h1,h2,h4,h3⟩:=hx
 have hsh:w.shape? g=some (5,(bvs l).size):=by unfold World.shape?;rw [h3]
 have hk:Kc B w (w.freeze ⟨g,(bvs l).size,none⟩ 1):=by
  refine ⟨⟨rfl,rfl,rfl,by simp [World.freeze],fun k hk=>?_⟩,fun g' cs t fr' hg=>?_⟩
  ·simp only [World.freeze,if_neg (by decide:¬(1=0)),Array.getElem?_modify]
   rw [if_neg (show ¬g=k by omega)]
  ·simp only [World.freeze,if_neg (by decide:¬(1=0)),Array.getElem?_modify]
   by_cases e:g=g'
   ·subst e
    rw [if_pos rfl,hg]
    rw [h3] at hg
    injection hg with hg
    injection hg with _ ht _
    exact ⟨_,rfl,fun hn=>absurd ht.symm hn⟩
   ·rw [if_neg e,hg]
    exact ⟨_,rfl,fun _=>rfl⟩
 refine ⟨w.freeze ⟨g,(bvs l).size,none⟩ 1,?_,hk,?_⟩
 ·rw [h1]
  refine run_cv' _ _ x ho h1 ?_
  simp [convert,run_underlying Tryz.underlying23,run_underlying Tryz.underlying5,markStringish,hsh]
 ·obtain ⟨fr',h3',_⟩:=hk.kept g _ _ _ h3
  exact ⟨g,fr',h1,h2,h4,h3'⟩
theorem hop_convK {ops:Array Oper} {Q:Exit→Act→World→Prop} {a:Act} {w:World} {o:Oper} {B:Nat} (hw:Region.wanted o (yielded ops a.tmps)=true) (x:Operand) (ho:o.op=.convert 23 23 x) {l:List UInt8} (hx:LitB B w l (a.eval x)):
  if Region.wanted o (yielded ops a.tmps)=true then o.wp Tryz.prog a w (fun a' w'=>∃ v,a'=a.put o.dst v∧Kc B w w'∧(StK.lit B l).F w' v) Q else (StK.lit B l).F w undef:=by
 obtain ⟨wc,h1,h2,h3⟩:=run_convB x ho hx
 exact hop_growK (F:=(StK.lit B l).F) hw _ h1 h2 h3
end Go.Proofs.YtmjbnmbobocpdaaGreat
namespace Go.Proofs.YtmjbnmbobocpdaaGreat
open Go.ChangeShapes Go.WideShapes Go.ChangeAt Go.RowKit Go.Shelf
end Go.Proofs.YtmjbnmbobocpdaaGreat
namespace Go.Proofs.YtmjbnmbobocpdaaGreat
open Go.ChangeShapes Go.WideShapes Go.ChangeAt Go.RowKit Go.Shelf
theorem u8_wf {a:Int} (h:(Lit.int .u8 a).wf=true):0≤a∧a<256:=by
 have:=bounds_u8 h
 omega
theorem Byt.own {w:World} {base:Nat} {v:Value} {l:List UInt8} (h:Byt w base v l) (hl:0<l.length):
  ∃ g c,v=.slice (some ⟨g,0,none⟩) l.length c∧base≤g∧g<w.heap.size∧l.length≤c∧c≤maxLen∧(∀ k,w.frozen? ⟨g,k,none⟩=false)∧(∀ j x,l[j]? = some x→w.cell? ⟨g,j,none⟩=some (bv x)):=by
 have hlt:=h.lt
 rcases h.2 with ⟨_,h0⟩ | ⟨g,c,cur,e,hb,hg,hn,hc,hs,ht⟩
 ·omega
 ·refine ⟨g,c,e,hb,z2a hg,hn,hc,fun k=>by simp [World.frozen?,hg],fun j x hj=>by have:=h.cells (g:=g) (by rw [e];rfl) j (bv x) (by rw [List.getElem?_map,hj];rfl);rwa [zna,Nat.zero_add] at this⟩
theorem Rd.isB {w:World} {A:Option Addr} {l:List UInt8} {n c:Nat} (h:Rd w A l) (hn:l.length=n) (hc:n≤c) (hm:c≤maxLen) (hA:A=none→c=0):IsB w l (.slice A n c):=
 ⟨A,c,by rw [hn],by rw [hn];exact hc,hm,hA,h⟩
end Go.Proofs.YtmjbnmbobocpdaaGreat
namespace Go.Proofs.YtmjbnmbobocpdaaGreat
open Go.ChangeShapes Go.WideShapes Go.ChangeAt Go.RowKit Go.Shelf
theorem step_append_byt {ops:Array Oper} {o:Oper} {a:Act} {w:World} {K:Act→World→Prop} {Q:Exit→Act→World→Prop} {E:Prop} (hgd:o.guard=none) (s x:Operand)
  (ho:o.op=.call { callee:=.builtin .append,args:=#[s,x],argTypes:=#[23,23] })
  (base:Nat) (v:Value) (l r:List UInt8) (hs:a.eval s=v) (hown:Byt w base v l) (A:Option Addr) (m c:Nat) (hx:a.eval x=.slice A m c) (hr:r.length=m) (hA:A=none→c=0) (hR:Rd w A r)
  (hle:l.length+r.length≤1000000) (hbase:base≤w.heap.size)
  (h:∀ A2 c2 w',Byt w' base (.slice A2 (l.length+m) c2) (l++r)→Below base w w'→K (a.put o.dst (.slice A2 (l.length+m) c2)) w'):
  if Region.wanted o (yielded ops a.tmps)=true then Oper.wp Tryz.prog o a w K Q else E:=by
 by_cases hm:0<m
 ·cases A with
  | none=>obtain ⟨ad,e,_⟩:=hR (by omega);cases e
  | some ad=>exact step_append_bytes hgd s x ho base v l r hs hown ad m c hx hr hm hR hle hbase fun g cap w' h1 h2 _ _ _=>h _ _ w' h1 h2
 ·obtain rfl:m=0:=by omega
  obtain rfl:r=[]:=List.eq_nil_of_length_eq_zero hr
  obtain ⟨i,hi1,hi2,hi3,hi4⟩:=info_u8
  obtain ⟨A2,c2,e2,h1,h2,_⟩:=id hown.slice
  subst e2
  have hw:Region.wanted o (yielded ops a.tmps)=true:=by simp [Region.wanted,hgd]
  rw [if_pos hw]
  have hsrc:Go.Src Tryz.prog i.size 23 (.slice A 0 c) 0 [] w:=by
   cases A with
   | none=>exact Go.Src.ofNil w Tryz.underlying23 c
   | some ad=>exact Go.Src.ofSlice w Tryz.underlying23 ad 0 c [] (by simp) (fun j u hu=>by simp at hu) (fun u hu=>by cases hu)
  have hrun:=run_append_nothing (P:=Tryz.prog) w 23 23 o.type 5 i Tryz.underlying23 hi1 A2 l.length c2 h1 (.slice A 0 c) hsrc
  unfold Oper.wp execOp
  simp only [ho,resolve,invoke,builtin,Sem.run_bind,Sem.run_pure,Result.andThen_ok,List.map_toArray,List.map_cons,List.map_nil,hs,hx,hrun]
  exact h A2 c2 w (by rw [List.append_nil];exact hown) (Below.refl _ _)
theorem rparts_any (B:Option Addr) (L:List (List UInt8)) (n d:Nat) (hn:L.length=n) (hd:n≤d) (hnl:n≤10) (hl:∀ l∈L,l.length≤2000) (w:World) (hP:PRd w B L):
  Calls Tryz.prog 65 #[.slice B n d] w fun e w'=>∃ v,e=.returned v∧Byt w' w.heap.size v (cat L)∧(cat L).length≤2008*n∧Below w.heap.size w w':=by
 have HN:=hid hn
 have HL:=hid hl
 have CL:Hid (∀ k,(cat (L.take k)).length≤2008*k):=hid (fun k=>by
  induction k with
  | zero=>simp [cat]
  | succ k ih=>
   by_cases hk:k<L.length
   ·rw [List.take_succ_eq_append_getElem hk,cat_snoc,List.length_append,List.length_append,zgc]
    have:=hl L[k] (List.getElem_mem hk)
    omega
   ·rw [List.take_of_length_le (by omega)]
    rw [List.take_of_length_le (by omega)] at ih
    omega)
 clear hn hl
 go_enter Tryz.func65,Tryz.ntmps65
 go_wp2
 go_loopw [3,4] (fun v i wr=>∃ k:Nat,k≤n∧i=zI (k:Int)∧Byt wr w.heap.size v (cat (L.take k))∧Below w.heap.size w wr) (fun _ i _=>20-(intOf i).toNat)
 case atStart=>exact ⟨0,by omega,rfl,Byt.nil _ _,Below.refl _ _⟩
 case round=>
  obtain ⟨k,hk,rfl,hv,hB⟩:=hrel
  by_cases hlt:k<n
  ·obtain ⟨b,o,rfl,hb,hj⟩:=hP (by rw [HN.out];omega)
   have hkL:k<L.length:=by rw [HN.out];exact hlt
   obtain ⟨A',c',hc,q1,q2,q3,q4⟩:=hj k L[k] (List.getElem?_eq_getElem hkL)
   have hsnoc:Hid (cat (L.take k)++zkb L[k].length++L[k]=cat (L.take (k+1))):=hid (by rw [List.take_succ_eq_append_getElem hkL,cat_snoc])
   have hm:=HL.out L[k] (List.getElem_mem hkL)
   have hcl:=CL.out k
   obtain ⟨l,hl⟩:∃ l,l=L[k]:=⟨_,rfl⟩
   rw [←hl] at hc q1 q4 hsnoc hm
   obtain ⟨m,hml⟩:∃ m,l.length=m:=⟨_,rfl⟩
   rw [hml] at hc q1 hsnoc hm
   obtain ⟨C,hC⟩:∃ C,C=cat (L.take k):=⟨_,rfl⟩
   rw [←hC] at hv hsnoc hcl
   have hz:=hB.size
   have hcr:=hB.cell (p:=⟨b,o+k,none⟩) hb
   rw [hc] at hcr
   have hml':=hid hml
   have hkn:(k:Int)<(n:Int):=by omega
   have hk0:(0:Int)≤(k:Int):=Int.natCast_nonneg _
   obtain ⟨A1,c1,rfl,p1,p2,p3,p4⟩:=hv.slice
   have hvn:=hv
   obtain ⟨y,hy⟩:∃ y,C.length=y:=⟨_,rfl⟩
   rw [hy] at hv hcl p1 ⊢
   have hy':=hid hy
   clear hl hj hC hml hy hP hc p3 p4 hvn
   go_wp2_with fail
   go_region_held3 (fun w'=>w'.cell? ⟨b,o+k,none⟩=some (.slice A' m c')) (first | exact hcr | (rw [hb3.cell (p:=⟨b,o+k,none⟩) (by simp;omega)];assumption) | (rw [hb2.cell (p:=⟨b,o+k,none⟩) (by simp;omega)];assumption) | (rw [b1.cell (p:=⟨b,o+k,none⟩) (by simp;omega)];assumption))
    (first
     | (refine (sreight_any m (by omega) _).mono ?_;rintro e w1 ⟨v1,rfl,h1,b1⟩;obtain ⟨A3,c3,rfl,s1,s2,s3,s4⟩:=h1.slice;have nn3:=h1.none0;have hv1:=(show Byt wr.drew _ _ _ from hv).step b1;have B1q:Below w.heap.size w w1:=hB.trans (((zsa wr).mono hz).trans (b1.mono hz));have z1:=B1q.size)
     | (refine step_append_byt (by rfl) (.tmp 11) (.tmp 17) (by rfl) w.heap.size _ C (zkb m) (by rfl) hv1 A3 _ c3 (by rfl) (by rfl) nn3 s3 (by rw [zgc,hy'.out];omega) z1 ?_;intro A4 c4 w2 h2 hb2;have B2q:=B1q.trans hb2;have z2:=B2q.size)
     | (refine step_append_byt (by rfl) (.tmp 18) (.tmp 22) (by rfl) w.heap.size _ (C++zkb m) l (by rfl) h2 A' m c' (by rfl) hml'.out q3 (q4.below B2q (Nat.le_refl _)) (by rw [List.length_append,zgc,hy'.out,hml'.out];omega) z2 ?_;intro A5 c5 w3 h3 hb3;have B3q:=B2q.trans hb3))
   rw [hsnoc.out,List.length_append] at h3
   clear hsnoc
   go_wp2
   go_roundw
   case rel=>exact ⟨k+1,by omega,by go_num,h3,B3q⟩
   case measure=>simp [intOf];omega
  ·obtain rfl:k=n:=by omega
   have hcl:=CL.out k
   rw [List.take_of_length_le (by rw [HN.out];omega)] at hv hcl
   go_wp2
   go_ret
   exact ⟨_,rfl,hv,hcl,hB⟩
theorem rof_any (B:Option Addr) (L:List (List UInt8)) (k d:Nat) (hk:L.length=k) (hd:k≤d) (hkl:k≤10) (hl:∀ l∈L,l.length≤2000) (hcl:(cat L).length≤5000) (w:World) (hP:PRd w B L):
  Calls Tryz.prog 35 #[.slice B k d] w fun e w'=>e=.returned (.agg (z3a (outF (macW [] L))))∧Below w.heap.size w w':=by
 have b0:=zqa w (.cells #[zY 0,zY 0,zY 0,zY 0,zY 0,zY 0,zY 0,zY 0,zY 0,zY 0,zY 0,zY 0,zY 0,zY 0,zY 0,zY 0] 65)
 have z0:=Blk.new w 65 #[zY 0,zY 0,zY 0,zY 0,zY 0,zY 0,zY 0,zY 0,zY 0,zY 0,zY 0,zY 0,zY 0,zY 0,zY 0,zY 0]
 have P0:=hP.step b0
 go_enter Tryz.func35,Tryz.ntmps35
 go_wp2_with fail
 refine (rparts_any B L k d hk hd hkl hl _ P0).mono ?_
 rintro e w1 ⟨v1,rfl,h1,_,b1⟩
 obtain ⟨A1,c1,rfl,q1,q2,q3,q4⟩:=h1.slice
 have nn1:=h1.none0
 have z1:=z0.step b1
 have B1:=z1c b0 b1
 clear h1 b1 z0 P0 b0 hP
 go_wp2_with fail
 refine (rraw_any none [] 0 0 rfl (fun _=>rfl) (by omega) A1 (cat L) _ c1 rfl nn1 hcl w1 (fun h=>absurd h (by simp)) q3).mono ?_
 rintro e w2 ⟨rfl,b2⟩
 have z2:=z1.step b2
 have B2:=z1c B1 b2
 obtain ⟨F,hF⟩:∃ F,F=sumW (initW []) (cat L):=⟨_,rfl⟩
 have HF:Hid (macW [] L=F):=hid (by unfold macW;rw [sumW_feed,hF])
 rw [←hF]
 clear hF z1 b2 B1 q3
 go_wp2_with (refine zab rfl _ (.tmp 2) _ rfl _ rfl _ rfl (arr16_one _) _ z2 rfl size35 ?_;intro w5 g5 c5)
 exact bodyPost_ret (zcd rfl rfl c5 Tryz.underlying65 rfl size35) rfl ⟨by rw [HF.out],zw B2 g5 B2.size (Nat.le_refl _)⟩
end Go.Proofs.YtmjbnmbobocpdaaGreat
/- Slices of bytes, rows of them, Sums: the operations of a drawn region; contracts said by what they hold. -/
namespace Go.Proofs.YtmjbnmbobocpdaaGreat
open Go.ChangeShapes Go.WideShapes Go.ChangeAt Go.RowKit Go.Shelf
theorem infoSl:∃ i,Tryz.prog.info? 23=some i∧i.zero=some (zN)∧i.size=1:=by
 have h0:(Tryz.prog.info? 23).isSome=true:=by kernel_rfl
 have h1:(Tryz.prog.info? 23).map (·.size)=some 1:=by kernel_rfl
 have h2:(Tryz.prog.info? 23).bind (·.zero)=some (zN):=by kernel_rfl
 cases h:Tryz.prog.info? 23 with
 | none=>rw [h] at h0;cases h0
 | some i=>
  rw [h] at h1 h2
  exact ⟨i,rfl,h2,Option.some.inj h1⟩
def IsP (w:World) (L:List (List UInt8)) (v:Value):Prop:=∃ A c,v=.slice A L.length c∧L.length≤c∧c≤maxLen∧PRd w A L
theorem IsP.step {w w':World} {L:List (List UInt8)} {v:Value} (h:IsP w L v) (hb:Below w.heap.size w w'):IsP w' L v:=by
 obtain ⟨A,c,h1,h2,h3,h4⟩:=h
 exact ⟨A,c,h1,h2,h3,h4.step hb⟩
theorem Kc.prd' {B:Nat} {w w':World} {A:Option Addr} {L:List (List UInt8)} (k:Kc B w w') (h:PRd w A L):PRd w' A L:=fun hl=>by
 obtain ⟨b,o,e,h1,h3⟩:=h hl
 refine ⟨b,o,e,Nat.lt_of_lt_of_le h1 k.below.size,fun j l hj=>?_⟩
 obtain ⟨A',c',q1,q2,q3,q4,q5⟩:=h3 j l hj
 exact ⟨A',c',k.isCells q1,q2,q3,q4,k.rd q5⟩
def StK.parts (L:List (List UInt8)):StK:=⟨fun w v=>IsP w L v,fun _ _ _ _ hb h=>by
 obtain ⟨A,c,h1,h2,h3,h4⟩:=h
 exact ⟨A,c,h1,h2,h3,hb.prd' h4⟩⟩
theorem IsP.below {w w':World} {L:List (List UInt8)} {v:Value} {N:Nat} (h:IsP w L v) (hb:Below N w w') (hN:w.heap.size≤N):IsP w' L v:=h.step (hb.mono hN)
theorem IsB.below {w w':World} {l:List UInt8} {v:Value} {N:Nat} (h:IsB w l v) (hb:Below N w w') (hN:w.heap.size≤N):IsB w' l v:=h.step (hb.mono hN)
theorem Rd.isB' {w:World} {A:Option Addr} {l:List UInt8} {n c:Nat} (h:Rd w A l) (hn:l.length=n) (hc:n≤c) (hm:c≤maxLen) (hz:A=none→c=0):IsB w l (.slice A n c):=by
 subst hn
 exact ⟨A,c,rfl,hc,hm,hz,h⟩
theorem Byt.isB {w:World} {b:Nat} {v:Value} {l:List UInt8} (h:Byt w b v l):IsB w l v:=by
 obtain ⟨A,c,e,h1,h2,h3,_⟩:=id h.slice
 subst e
 exact ⟨A,c,rfl,h1,h2,h.none0,h3⟩
theorem IsB.nil (w:World):IsB w [] (zN):=⟨none,0,rfl,Nat.le_refl _,by unfold maxLen;omega,fun _=>rfl,fun h=>absurd h (by simp)⟩
theorem part_rd {w:World} {g:Nat} {c:Array Value} (hB:Blk w g 23 c) {L:List (List UInt8)} (hL:∀ (j:Nat) (l:List UInt8),L[j]? = some l→∃ v,c[j]? = some v∧IsB w l v):PRd w (some ⟨g,0,none⟩) L:=fun _=>
 ⟨g,0,rfl,hB.lt,fun j l hj=>by
  obtain ⟨v,hv,A,c',e,h1,h2,h3,h4⟩:=hL j l hj
  exact ⟨A,c',by rw [Nat.zero_add,←e];exact hB.cell hv,h1,h2,h3,h4⟩⟩
theorem isb3 {w:World} {l1 l2 l3:List UInt8} {v1 v2 v3:Value} (h1:IsB w l1 v1) (h2:IsB w l2 v2) (h3:IsB w l3 v3):∀ (j:Nat) (l:List UInt8) (v:Value),[l1,l2,l3][j]? = some l→[v1,v2,v3][j]? = some v→IsB w l v
 | 0,l,v,hl,hv=>by cases hl;cases hv;exact h1
 | 1,l,v,hl,hv=>by cases hl;cases hv;exact h2
 | 2,l,v,hl,hv=>by cases hl;cases hv;exact h3
 | j+3,l,v,hl,hv=>by cases hl
theorem new_parts {w:World} {vs:List Value} {L:List (List UInt8)} (hn:vs.length=L.length) (hm:L.length≤1000) (h:∀ (j:Nat) (l:List UInt8) (v:Value),L[j]? = some l→vs[j]? = some v→IsB w l v):IsP (w.alloc (.cells vs.toArray 23)) L (.slice (some ⟨w.heap.size,0,none⟩) L.length L.length):=by
 refine ⟨_,_,rfl,Nat.le_refl _,by unfold maxLen;omega,part_rd (Blk.new w 23 vs.toArray) fun j l hj=>?_⟩
 have hjl:=(List.getElem?_eq_some_iff.1 hj).1
 have hv:vs[j]? = some (vs[j]'(by omega)):=List.getElem?_eq_getElem (by omega)
 exact ⟨vs[j]'(by omega),by rw [List.getElem?_toArray];exact hv,(h j l _ hj hv).step (zqa w _)⟩
section
variable {Q:Exit→Act→World→Prop} {a:Act} {w:World} {o:Oper} {B:Nat} {ops:Array Oper}
theorem hop_parts (hw:Region.wanted o (yielded ops a.tmps)=true) (hB:B≤w.heap.size) {n:Nat} {ps:Array (Nat×Operand)} (ho:o.op=.buildSlice 68 n ps) {vs:List Value} {L:List (List UInt8)} (hn:vs.length=n) (hL:L.length=n) (hm:n≤1000) (hn0:0<n)
  (hf:Instr.fill (fun i=>some (i*1,1)) ((Array.range (n*1)).map ((zN).cells[· % (zN).cells.size]!)) (ps.map fun (i,x)=>(i,a.eval x)).toList=some vs.toArray)
  (h:∀ (j:Nat) (l:List UInt8) (v:Value),L[j]? = some l→vs[j]? = some v→IsB w l v):
  if Region.wanted o (yielded ops a.tmps)=true then o.wp Tryz.prog a w (fun a' w'=>∃ v,a'=a.put o.dst v∧Kc B w w'∧(StK.parts L).F w' v) Q else (StK.parts L).F w undef:=by
 obtain ⟨i,i1,i2,i3⟩:=infoSl
 refine hop_growK (F:=(StK.parts L).F) hw (.slice (some ⟨w.heap.size,0,none⟩) L.length L.length) (w1:=w.alloc (.cells vs.toArray 23)) ?_ (Kc.of_below hB (zqa w _)) (new_parts (by rw [hn,hL]) (by omega) h)
 unfold execOp
 simp only [ho,Sem.run_bind,run_buildSlice w 68 23 n _ vs.toArray i (zN) Tryz.underlying68 i1 i2 (by rw [i3];omega) (by rw [i3];omega) (by rw [i3];exact hf),Result.andThen_ok,Sem.run_pure,hL]
theorem hop_parts3 (hw:Region.wanted o (yielded ops a.tmps)=true) (hB:B≤w.heap.size) (x1 x2 x3:Operand) (ho:o.op=.buildSlice 68 3 #[(0,x1),(1,x2),(2,x3)]) {l1 l2 l3:List UInt8} (h1:IsB w l1 (a.eval x1)) (h2:IsB w l2 (a.eval x2)) (h3:IsB w l3 (a.eval x3)):
  if Region.wanted o (yielded ops a.tmps)=true then o.wp Tryz.prog a w (fun a' w'=>∃ v,a'=a.put o.dst v∧Kc B w w'∧(StK.parts [l1,l2,l3]).F w' v) Q else (StK.parts [l1,l2,l3]).F w undef:=by
 obtain ⟨A1,c1,e1,_⟩:=id h1
 obtain ⟨A2,c2,e2,_⟩:=id h2
 obtain ⟨A3,c3,e3,_⟩:=id h3
 refine hop_parts (n:=3) hw hB ho (vs:=[a.eval x1,a.eval x2,a.eval x3]) (L:=[l1,l2,l3]) rfl rfl (by decide) (by decide) ?_ (isb3 h1 h2 h3)
 simp only [List.map_toArray,List.map_cons,List.map_nil,e1,e2,e3]
 kernel_rfl
end
theorem of_b {w:World} {u:Value} {L:List (List UInt8)} (hu:IsP w L u):
  Calls Tryz.prog 126 #[u] w fun e w'=>e=.returned (.agg (z3a (outF (macW [] L))))∧Below w.heap.size w w':=by
 obtain ⟨B,d,rfl,k1,k2,k3⟩:=hu
 exact of_any B L _ d rfl k1 k2 w k3
end Go.Proofs.YtmjbnmbobocpdaaGreat
namespace Go.Proofs.YtmjbnmbobocpdaaGreat
open Go.ChangeShapes Go.WideShapes Go.ChangeAt Go.RowKit
section
open Go.Shelf
theorem zeros_cells (k:Nat):(Builtin.zeroCells (zY 0).cells k)=((List.replicate k (0:UInt8)).map bv).toArray:=by
 unfold Builtin.zeroCells
 apply Array.ext'
 have e:(zY 0).cells=#[zY 0]:=rfl
 simp [e,bv]
 refine List.ext_getElem (by simp) (fun i h1 h2=>?_)
 simp [Nat.mod_one]
theorem run_append_zeros (w:World) (base:Nat) (v:Value) (l:List UInt8) (hown:Byt w base v l) (ty:TypeId) (k:Nat) (hle:l.length+k≤1000000) (hbase:base≤w.heap.size):
  ∃ v' w',(Builtin.append_ #[23,3] ty #[v,zI (k:Int)]).run Tryz.prog w=.ok v' w'∧Byt w' base v' (l++List.replicate k 0)∧Below base w w':=by
 obtain ⟨i,hi1,hi2,hi3,hi4⟩:=info_u8
 have hlen:((l++List.replicate k (0:UInt8)).map bv).length=(l++List.replicate k (0:UInt8)).length*1:=by simp
 have hw:IntKind.i64.wrap (k:Int)=k:=by rw [IntKind.wrap_i64];omega
 have hw0:IntKind.i64.wrap 0=0:=by rw [IntKind.wrap_i64];rfl
 have hneg:¬((k:Int)<0):=by omega
 have h48i:¬(281474976710656<(k:Int)*(i.bytes:Int)):=by rw [hi4];omega
 by_cases hk:k=0
 ·subst hk
  rcases hown.2 with ⟨rfl,h0⟩ | ⟨g,c,cur,rfl,hb,hg,hn,hc,hs,ht⟩
  ·have:l=[]:=List.eq_nil_of_length_eq_zero (by simpa using h0)
   subst this
   refine ⟨zN,w,?_,by simpa using Byt.nil w base,Below.refl _ _⟩
   simp [Builtin.append_,run_underlying Tryz.underlying23,run_underlying Tryz.underlying3,sizeOf,typeInfo,hi1,asInt,asIntOf,hw0]
  ·refine ⟨.slice (some ⟨g,0,none⟩) l.length c,w,?_,by rw [List.replicate_zero,List.append_nil];exact hown,Below.refl _ _⟩
   simp [Builtin.append_,run_underlying Tryz.underlying23,run_underlying Tryz.underlying3,sizeOf,typeInfo,hi1,asInt,asIntOf,hw0,hn,storeCells]
 have hkp:0<k:=by omega
 have grownB:∀ (old:Nat),old<l.length+k→Byt (w.drew.alloc (.cells ((l.map bv).toArray++Builtin.zeroCells (zY 0).cells k++Builtin.zeroCells (zY 0).cells (grownCap w (l.length+k) old 5-(l.length+k))) 5)) base (.slice (some ⟨w.heap.size,0,none⟩) (l.length+k) (grownCap w (l.length+k) old 5)) (l++List.replicate k 0):=fun old ho=>by
  have hge:=grownCap_ge w (l.length+k) old 5
  have hcm:grownCap w (l.length+k) old 5≤maxLen:=grownCap_le_maxLen w (l.length+k) old _ (by unfold maxLen;omega)
  have e1:(l++List.replicate k (0:UInt8)).length=l.length+k:=by simp
  refine ⟨hlen,.inr ⟨w.heap.size,_,_,by rw [e1],hbase,heap_alloc_new w.drew _,by rw [e1];exact hge,hcm,?_,?_⟩⟩
  ·rw [zeros_cells,zeros_cells]
   simp only [Array.size_append,List.size_toArray,List.length_map,List.length_replicate,Nat.mul_one]
   omega
  ·rw [zeros_cells,zeros_cells]
   simp only [Array.toList_append,List.append_assoc,e1,Nat.mul_one,List.map_append]
   rw [←List.append_assoc]
   exact List.take_left' (by simp)
 rcases hown.2 with ⟨rfl,h0⟩ | ⟨g,c,cur,rfl,hb,hg,hn,hc,hs,ht⟩
 ·have:l=[]:=List.eq_nil_of_length_eq_zero (by simpa using h0)
  subst this
  have hr:=Lib.run_append_nil_zeros (P:=Tryz.prog) w 23 3 ty 5 i (zY 0) .i64 .i64 Tryz.underlying23 Tryz.underlying3 hi1 hi2 k hkp (by rw [hi3];omega) (by omega) (by rw [hi4];omega)
  have hg:=grownB 0 (by simp;omega)
  simp only [List.map_nil,List.length_nil,Nat.zero_add,Array.empty_append] at hg
  refine ⟨_,_,hr,hg,((Below.refl base w).drew).alloc (by simpa using hbase) _⟩
 ·by_cases hroom:l.length+k≤c
  ·have hst:=run_storeCells_at Tryz.prog g (l.length*1) 5 ((List.replicate k (0:UInt8)).map bv) 0 cur w hg (by simp;omega) (fun u hu=>by obtain ⟨b,-,rfl⟩:=List.mem_map.1 hu;rfl)
   simp only [Nat.add_zero,Nat.mul_one] at hst
   have hz:Builtin.zeroCells (zY 0).cells k=((List.replicate k (0:UInt8)).map bv).toArray:=zeros_cells k
   have e1:(l++List.replicate k (0:UInt8)).length=l.length+k:=by simp
   have hgr:w.grownBy (w.setRow g (cur.toList.take l.length++(List.replicate k (0:UInt8)).map bv++cur.toList.drop (l.length+((List.replicate k (0:UInt8)).map bv).length)).toArray) (some g):=⟨rfl,rfl,rfl,by simp,fun q _ hq=>setRow_other w g q _ (fun e=>hq (by rw [e]))⟩
   refine ⟨.slice (some ⟨g,0,none⟩) (l.length+k) c,_,?_,⟨hlen,.inr ⟨g,c,_,by rw [e1],hb,setRow_heap w g cur _ 5 _ hg,by rw [e1];exact hroom,hc,?_,?_⟩⟩,(Below.refl base w).grown hgr hbase (fun q e=>by cases e;exact hb)⟩
   ·have h48:¬(281474976710656<(k:Int)):=by omega
    simp [Builtin.append_,run_underlying Tryz.underlying23,run_underlying Tryz.underlying3,sizeOf,typeInfo,zeroValue,hi1,hi2,hi3,asInt,asIntOf,hw,hneg,hi4,hroom,hk,h48,Addr.add_lit,hz]
    simp only [List.map_replicate] at hst ⊢
    simp [hst]
   ·simp only [List.size_toArray,List.length_append,List.length_take,List.length_drop,Array.length_toList,List.length_map,List.length_replicate]
    omega
   ·rw [Nat.mul_one] at ht ⊢
    rw [ht,e1,List.map_append]
    exact List.take_left' (by simp)
  ·have hold:(Builtin.firstCells i.size l.length (.slice (some ⟨g,0,none⟩) l.length c)).run Tryz.prog w.drew=.ok (l.map bv).toArray w.drew:=by
    refine run_firstCells_some (P:=Tryz.prog) w.drew i.size l.length ⟨g,0,none⟩ l.length c (l.map bv) (by rw [hi3];simp) (fun j u hj=>?_)
    have:=hown.cells (g:=g) rfl j u hj
    exact this
   have hr:=Lib.run_append_grow_zeros (P:=Tryz.prog) w 23 3 ty 5 i (zY 0) .i64 .i64 Tryz.underlying23 Tryz.underlying3 hi1 hi2 (some ⟨g,0,none⟩) l.length c (l.map bv) hold k hkp (by rw [hi3];omega) (by omega) (by omega) (by rw [hi4];omega) (growslice_fits (by omega) (by rw [hi4];omega))
   exact ⟨_,_,hr,grownB c (by omega),((Below.refl base w).drew).alloc (by simpa using hbase) _⟩
end
theorem run_appZ {G:Option Nat} {w0 w:World} {R:List (Nat×Res)} {a:Act} {o:Oper} (M:Mx G w0 w R) (i:Nat) (s x:Operand) (ho:o.op=.call { callee:=.builtin .append,args:=#[s,x],argTypes:=#[23,3] })
  (hs:a.eval s=zN) {z:Int} (hx:a.eval x=zI z) (n:Nat) (hz:z=(n:Int)) (hn:n≤1000000):
  ∃ v w',(execOp a.eval o).run Tryz.prog w=.ok (.value v) w'∧Mx G w0 w' ((i,ownR (List.replicate n (0:UInt8)) v)::R):=by
 subst hz
 obtain ⟨v',w',hrun,hb,hB⟩:=run_append_zeros w w.heap.size (zN) [] (Byt.nil w _) o.type n (by simpa using hn) (Nat.le_refl _)
 refine ⟨v',w',?_,M.newO hB i (by simpa using hb)⟩
 unfold execOp
 simp only [ho,resolve,invoke,builtin,Sem.run_bind,Sem.run_pure,Result.andThen_ok,List.map_toArray,List.map_cons,List.map_nil,hs,hx,hrun]
theorem run_slK {a:Act} {w:World} {o:Oper} (x h:Operand) (ho:o.op=.slice 23 x none (some h) none) {A:Option Addr} {n c K:Nat} {z:Int} (hx:a.eval x=.slice A n c) (hh:a.eval h=zI z) (hz:z=(K:Int)) (hK:K≤c):(execOp a.eval o).run Tryz.prog w=.ok (.value (.slice A K c)) w:=by
 subst hz
 unfold execOp
 simp only [ho,hx,hh]
 simp [slice_h w A n c K hK,hh]
theorem run_cap {a:Act} {w:World} {o:Oper} (x:Operand) (ho:o.op=.call { callee:=.builtin .cap,args:=#[x],argTypes:=#[23] }) {A:Option Addr} {n c:Nat} (hx:a.eval x=.slice A n c):(execOp a.eval o).run Tryz.prog w=.ok (.value (zI (c:Int))) w:=by
 simp only [execOp,ho,resolve,Sem.run_bind,Sem.run_pure,Result.andThen_ok,invoke,List.map_toArray,List.map_cons,List.map_nil,hx]
 simp [builtin,go_sem,run_cap_slice w 23 o.type A n c Tryz.underlying23,Result.andThen,goInt]
theorem run_capN {a:Act} {w:World} {o:Oper} (x:Operand) (ho:o.op=.call { callee:=.builtin .cap,args:=#[x],argTypes:=#[23] }) (hx:a.eval x=zN):(execOp a.eval o).run Tryz.prog w=.ok (.value (zI 0)) w:=run_cap x ho hx
theorem byt_zero {w:World} {b:Nat} {A:Option Addr} {n c:Nat} {l:List UInt8} (h:Byt w b (.slice A n c) l):Byt w b (.slice A 0 c) []:=by
 refine ⟨by simp,?_⟩
 rcases h.2 with ⟨e,h0⟩ | ⟨g,c',cur,e,hb,hg,hn,hc,hs,ht⟩
 ·cases e;exact .inl ⟨rfl,rfl⟩
 ·cases e;exact .inr ⟨g,_,cur,rfl,hb,hg,Nat.zero_le _,hc,hs,by simp⟩
theorem grow_nil (N:Nat) (hN:N≤1000000) (w:World):
  Calls Tryz.prog 121 #[zN,zI (N:Int)] w fun e w'=>∃ v,e=.returned v∧Byt w' w.heap.size v []∧Below w.heap.size w w':=by
 refine zk (args:=[zN,zI (N:Int)]) 27 Tryz.func121 rfl rfl rfl ?_
 intro fa F
 have M:=Mx.start w
 refine zT fun _ hK1=>rm rfl F fun _ F2=>hK1 _ _ (zSk fun _ hK3=>zT fun _ hK4=>rm rfl F2 fun _ F5=>zc (w':=w) rfl rfl F5 rfl (.bool false) (zka _ _ _ _ rfl (F5 5 rfl) rfl (decide_eq_false (show ¬((N:Int)<0) by omega))) fun _ F6=>?_)
 refine hK4 _ _ (wp_cond_false (F6 6 rfl) (wp_skip (hK3 _ _ (zSk fun _ hK7=>zT fun _ hK8=>rm rfl F6 fun _ F9=>rm rfl F9 fun _ F10=>zc (w':=w) rfl rfl F10 rfl (zI 0) (run_capN _ rfl (F10 9 rfl)) fun _ F11=>?_))))
 refine rm rfl F11 fun _ F12=>zc (w':=w) rfl rfl F12 rfl (zI 0) (z8a _ rfl (F12 11 rfl) (zia _) rfl) fun _ F13=>?_
 refine zc (w':=w) rfl rfl F13 rfl (zI 0) (z3c _ _ _ _ rfl (F13 10 rfl) (F13 12 rfl) rfl (by omega)) fun _ F14=>?_
 refine zc (w':=w) rfl rfl F14 rfl (zI ((N:Int)-0)) (z3c _ _ _ _ rfl (F14 8 rfl) (F14 13 rfl) rfl (by omega)) fun _ F15=>?_
 refine rm rfl F15 fun _ F16=>hK8 _ _ (zT fun _ hK17=>rm rfl F16 fun _ F18=>?_)
 by_cases h19:0<((N:Int)-0)
 ·refine zc (w':=w) rfl rfl F18 rfl (.bool true) (zbc _ _ _ _ rfl (F18 15 rfl) rfl (decide_eq_true h19)) fun _ F20=>?_
  refine hK17 _ _ (wp_cond_true (F20 16 rfl) (zR (rm rfl F20 fun _ F21=>rm rfl F21 fun _ F22=>zc (w':=w) rfl rfl F22 rfl (zI 0) (run_capN _ rfl (F22 18 rfl)) fun _ F23=>?_)))
  refine zc (w':=w) rfl rfl F23 rfl (zN) (run_slK _ _ rfl (F23 17 rfl) (F23 19 rfl) (K:=0) rfl (Nat.le_refl _)) fun _ F24=>?_
  refine rm rfl F24 fun _ F25=>zwa rfl rfl F25 rfl (run_appZ M 0 _ _ rfl (F25 20 rfl) (F25 21 rfl) N (by omega) (by omega)) ?_
  intro v26 a26 w26 F26 M26
  obtain ⟨A26,c26,rfl⟩:=(M26.isO (k:=0) rfl).shape
  refine rm rfl F26 fun _ F27=>zc (w':=w26) rfl rfl F27 rfl (zI 0) (z8a _ rfl (F27 23 rfl) (zia _) rfl) fun _ F28=>?_
  refine zc (w':=w26) rfl rfl F28 rfl (.slice A26 0 c26) (run_slK _ _ rfl (F28 22 rfl) (F28 24 rfl) (K:=0) rfl (Nat.zero_le _)) fun _ F29=>?_
  refine rm rfl F29 fun _ F30=>hK7 _ _ (zT fun _ hK31=>rm rfl F30 fun _ F32=>?_)
  exact rm rfl F32 fun _ F33=>hK31 _ _ (wp_ret (bodyPost_ret (res1 rfl (F33.get rfl)) F33.defers ⟨_,rfl,byt_zero (M26.byt (k:=0) rfl),M26.below⟩))
 ·refine zc (w':=w) rfl rfl F18 rfl (.bool false) (zbc _ _ _ _ rfl (F18 15 rfl) rfl (decide_eq_false h19)) fun _ F34=>?_
  refine hK17 _ _ (wp_cond_false (F34 16 rfl) (wp_skip (hK7 _ _ (zT fun _ hK35=>rm rfl F34 fun _ F36=>?_))))
  exact rm rfl F36 fun _ F37=>hK35 _ _ (wp_ret (bodyPost_ret (res1 rfl (F37.get rfl)) F37.defers ⟨_,rfl,Byt.nil _ _,M.below⟩))
section
open Go.Shelf
section
variable {a:Act} {w:World} {o:Oper}
theorem size_of_info {T:TypeId} {s:Nat} (h:(Tryz.prog.info? T).map (·.size)=some s) (w:World):(sizeOf T).run Tryz.prog w=.ok s w:=by
 cases hq:Tryz.prog.info? T with
 | none=>simp [hq] at h
 | some i=>simp [sizeOf,typeInfo,hq];simpa [hq] using h
theorem zcc (T:TypeId) {s:Nat} (hu:Tryz.prog.underlying T=some (.slice (Tryz.prog.elem T))) (hs:(Tryz.prog.info? (Tryz.prog.elem T)).map (·.size)=some s) (x k:Operand) (ho:o.op=.indexAddr T x k) {b q n c i:Nat} {z:Int} (hx:a.eval x=.slice (some ⟨b,q,none⟩) n c) (hk:a.eval k=zI z) (hz:z=(i:Int)) (hi:i<n) {j:Nat} (hj:q+i*s=j):(execOp a.eval o).run Tryz.prog w=.ok (.value (zP b j)) w:=by
 subst hz hj
 have hrun:(Instr.indexAt T (.slice (some ⟨b,q,none⟩) n c) (zI (i:Int))).run Tryz.prog w=.ok (zP b (q+i*s)) w:=by
  rw [run_indexAt_slice (h:=hu),if_pos ⟨by omega,by omega⟩,size_of_info hs]
  simp only [Result.andThen_ok,Int.toNat_natCast,zna]
 unfold execOp
 simp only [ho,hx,hk,Sem.run_bind,hrun,Result.andThen_ok,Sem.run_pure]
theorem y_lnG (T:TypeId) (hu:Tryz.prog.underlying T=some (.slice (Tryz.prog.elem T))) (x:Operand) (ho:o.op=.call { callee:=.builtin .len,args:=#[x],argTypes:=#[T] }) {A:Option Addr} {n c:Nat} (hx:a.eval x=.slice A n c) {z:Int} (hz:(n:Int)=z):(execOp a.eval o).run Tryz.prog w=.ok (.value (zI z)) w:=by
 subst hz
 exact run_ln x _ ho hx hu
theorem y_litG (T E:TypeId) {s:Nat} {zv:Value} (hu:Tryz.prog.underlying T=some (.slice E)) (hs:(Tryz.prog.info? E).map (·.size)=some s) (hz:(Tryz.prog.info? E).bind (·.zero)=some zv) {n:Nat} {ps:Array (Nat×Operand)} (ho:o.op=.buildSlice T n ps) (vs:Array Value) (h0:0<n*s) (hm:n*s≤1000000)
  (hf:Instr.fill (fun i=>some (i*s,s)) ((Array.range (n*s)).map (zv.cells[· % zv.cells.size]!)) (ps.map fun (i,x)=>(i,a.eval x)).toList=some vs):
  (execOp a.eval o).run Tryz.prog w=.ok (.value (.slice (some ⟨w.heap.size,0,none⟩) n n)) (w.alloc (.cells vs E)):=by
 obtain ⟨i,hi⟩:∃ i,Tryz.prog.info? E=some i:=by
  cases hq:Tryz.prog.info? E with
  | none=>rw [hq] at hs;cases hs
  | some i=>exact ⟨i,rfl⟩
 rw [hi] at hs hz
 have e:i.size=s:=Option.some.inj hs
 subst e
 unfold execOp
 simp only [ho,Sem.run_bind,run_buildSlice w T E n _ vs i zv hu hi hz (by omega) (by omega) hf,Result.andThen_ok,Sem.run_pure]
end
theorem Mx.slcB {G:Option Nat} {w0 w:World} {R:List (Nat×Res)} (M:Mx G w0 w R) {k g n:Nat} {t:TypeId} {c:Array Value} {v:Value} (hk:look R k=some (slcR t n c v)) (hv:v=.slice (some ⟨g,0,none⟩) n n):Mx G w0 w ((k,blkR g t c)::R):=by
 subst hv
 obtain ⟨g',e,hc⟩:=M.at_ k _ hk
 have eg:g=g':=by cases e;rfl
 subst eg
 have M2:Mx G w0 w R:=M
 refine ⟨M.grown,fun i r e=>?_,fun i r e=>?_,fun i r e=>?_,fun i r e=>?_,fun i j r s e1 e2 hij hw=>?_⟩
 ·rw [zx] at e;split at e
  ·cases e;exact hc
  ·exact M.at_ i r e
 ·rw [zx] at e;split at e
  ·cases e;exact z9c
  ·exact M.dep i r e
 ·rw [zx] at e;split at e
  ·cases e;exact fun b hb=>M.lt k _ hk b ⟨n,n,by cases hb;rfl⟩
  ·exact M.lt i r e
 ·rw [zx] at e;split at e
  ·cases e;exact fun hw b hb=>M.own k _ hk hw b ⟨n,n,by cases hb;rfl⟩
  ·exact M.own i r e
 ·rw [zx] at e1 e2
  by_cases h1:k=i
  ·rw [if_pos h1] at e1;cases e1
   subst h1
   rw [if_neg hij] at e2
   exact fun b hb=>M.dis k j _ s hk e2 hij hw b ⟨n,n,by cases hb;rfl⟩
  ·rw [if_neg h1] at e1
   by_cases h2:k=j
   ·rw [if_pos h2] at e2;cases e2
    subst h2
    exact fun b hb hb2=>M.dis i k r _ e1 hk hij hw b hb ⟨n,n,by cases hb2;rfl⟩
   ·rw [if_neg h2] at e2
    exact M.dis i j r s e1 e2 hij hw
end
theorem eitherR_off {R:List (Nat×Res)} {i:Nat} {c:Bool} {r r2 s:Res} (hc:c=false) (h:look R i=some (zha c r s)):look R i=some (zha c r2 s):=by subst hc;exact h
theorem IsB.slc {w:World} {l:List UInt8} {v:Value} (h:IsB w l v):∃ A n c,v=.slice A n c:=by
 obtain ⟨A,c,rfl⟩:=h.shape
 exact ⟨_,_,_,rfl⟩
theorem fill_s3 {v0 v1 v2:Value} (h0:∃ A n c,v0=.slice A n c) (h1:∃ A n c,v1=.slice A n c) (h2:∃ A n c,v2=.slice A n c):Instr.fill (fun i=>some (i*1,1)) ((Array.range (3*1)).map ((zN).cells[· % (zN).cells.size]!)) [(0,v0),(1,v1),(2,v2)]=some #[v0,v1,v2]:=by
 obtain ⟨_,_,_,rfl⟩:=h0
 obtain ⟨_,_,_,rfl⟩:=h1
 obtain ⟨_,_,_,rfl⟩:=h2
 kernel_rfl
theorem condR_off {R:List (Nat×Res)} {i:Nat} {b:Bool} {r r2:Res} (hb:b=false) (h:look R i=some (z5a b r)):look R i=some (z5a b r2):=by subst hb;exact h
theorem run_lenT {a:Act} {w:World} {o:Oper} (T:TypeId) (hu:Tryz.prog.underlying T=some (.slice (Tryz.prog.elem T))) (x:Operand) (ho:o.op=.call { callee:=.builtin .len,args:=#[x],argTypes:=#[T] }) {A:Option Addr} {n c:Nat} (hx:a.eval x=.slice A n c):(execOp a.eval o).run Tryz.prog w=.ok (.value (zI (n:Int))) w:=y_lnG T hu x ho hx rfl
theorem y_ixP {a:Act} {w:World} {o:Oper} {A:Option Addr} {c:Nat} {L:List (List UInt8)} (y k:Operand) (ho:o.op=.indexAddr 68 y k) (hx:a.eval y=.slice A L.length c) (hB:IsP w L (.slice A L.length c)) {z:Int} {i:Nat} (hk:a.eval k=zI z) (hz:z=(i:Int)) (hi:i<L.length):(execOp a.eval o).run Tryz.prog w=.ok (.value (ixV (.slice A L.length c) i)) w:=by
 subst hz
 obtain ⟨A',c',e,h1,h2,h3⟩:=hB
 injection e with e1 e2 e3
 subst e1 e3
 obtain ⟨b,q,rfl,hb,hc⟩:=h3 (by omega)
 unfold execOp
 simp only [ho,hx,hk]
 have h0:¬((i:Int)<0):=by omega
 have h5:(i:Int)<(L.length:Int):=by omega
 simp [go_sem,h0,h5,hi,ixV,zna]
theorem part_ld {w:World} {A:Option Addr} {c:Nat} {L:List (List UInt8)} {l:List UInt8} (hB:IsP w L (.slice A L.length c)) {i:Nat} (hl:L[i]? = some l):
  ∃ B d,IsB w l (.slice B l.length d)∧∀ (a:Act) (o:Oper) (y:Operand),o.op=.load 23 y→a.eval y=ixV (.slice A L.length c) i→(execOp a.eval o).run Tryz.prog w=.ok (.value (.slice B l.length d)) w:=by
 obtain ⟨A',c',e,h1,h2,h3⟩:=hB
 injection e with e1 e2 e3
 subst e1 e3
 have hi:i<L.length:=(List.getElem?_eq_some_iff.1 hl).1
 obtain ⟨b,q,rfl,hb,hc⟩:=h3 (by omega)
 obtain ⟨B,d,hcell,q2,q3,q4,q5⟩:=hc i l hl
 refine ⟨B,d,⟨B,d,rfl,q2,q3,q4,q5⟩,fun a o y ho hx=>?_⟩
 have hx':a.eval y=(zP b (q+i)):=by rw [hx];simp [ixV,zna]
 have h6:(isAgg 23).run Tryz.prog w=.ok false w:=by
  unfold isAgg
  simp only [Sem.run_bind,run_underlying Tryz.underlying23,Result.andThen_ok]
  rfl
 unfold execOp
 simp only [ho,hx',Instr.loadAt,Instr.sureAddr,loadVar,Sem.run_bind,Sem.run_pure,Result.andThen_ok,h6,Bool.false_eq_true,if_false]
 simp [hcell,Result.andThen]
theorem flat_take {L:List (List UInt8)} {j:Nat} {l:List UInt8} (h:L[j]? = some l):(L.take (j+1)).flatten=(L.take j).flatten++l:=by
 obtain ⟨h1,h2⟩:=List.getElem?_eq_some_iff.1 h
 rw [List.take_succ_eq_append_getElem h1,h2];simp
theorem flat_le (L:List (List UInt8)) (j:Nat):(L.take j).flatten.length≤L.flatten.length:=by
 have h:L.flatten=(L.take j).flatten++(L.drop j).flatten:=by rw [←List.flatten_append,List.take_append_drop]
 rw [h,List.length_append];omega
theorem part_le {L:List (List UInt8)} {j:Nat} {l:List UInt8} (h:L[j]? = some l):(L.take j).flatten.length+l.length≤L.flatten.length:=by
 have:=flat_le L (j+1)
 rw [flat_take h,List.length_append] at this
 exact this
theorem vconcat_any (L:List (List UInt8)) (u:Value) (hl:L.flatten.length≤1000000) (w:World) (hu:IsP w L u):
  Calls Tryz.prog 91 #[u] w fun e w'=>∃ v,e=.returned v∧Byt w' w.heap.size v L.flatten∧Below w.heap.size w w':=by
 obtain ⟨A0,c0,rfl,hc1,hc2,hP⟩:=id hu
 have hcat:(L.take L.length).flatten=L.flatten:=by rw [List.take_length]
 have hLm:L.length≤9223372036854775807:=by
  have:=hc2
  unfold maxLen at this
  omega
 refine zk (args:=[.slice A0 L.length c0]) 36 Tryz.func91 rfl rfl rfl ?_
 intro fa F
 have M:=Mx.start w
 refine zT fun _ hK1=>rm rfl F fun _ F2=>hK1 _ _ (zT fun _ hK3=>rm rfl F2 fun _ F4=>hK3 _ _ (zSk fun _ hK5=>zT fun _ hK6=>rm rfl F4 fun _ F7=>zc (w':=w) rfl rfl F7 rfl (zI (L.length:Int)) (run_lenT 68 Tryz.underlying68 _ rfl (F7 9 rfl)) fun _ F8=>?_))
 refine rm rfl F8 fun _ F9=>hK6 _ _ (wp_block (zeb (α:=Nat×Nat) (n:=36) (G:=none) (w0:=w) (fun x=>[(0,.slice A0 L.length c0),(2,zN),(9,.slice A0 L.length c0),(10,zI (L.length:Int)),(11,zI (x.1:Int)),(3,zI (x.2:Int))]) (fun x=>[]) (fun k x=>k=(L.length-x.1)∧(x.1≤L.length∧x.2=(L.take x.1).flatten.length)) _ ⟨0,0⟩ ⟨rfl,⟨Nat.zero_le _,by simp⟩⟩ (F9.sb) (M.sub trivial) ?_))
 rintro k10 ⟨jn,nt⟩ a10 w10 K10 ⟨ek10,I10⟩ F10 M10 hK10
 replace F10:Fx 36 a10 [(0,.slice A0 L.length c0),(2,zN),(9,.slice A0 L.length c0),(10,zI (L.length:Int)),(11,zI (jn:Int)),(3,zI (nt:Int))]:=F10
 replace M10:Mx _ _ w10 []:=M10
 replace I10:jn≤L.length∧nt=(L.take jn).flatten.length:=I10
 replace ek10:k10=(L.length-jn):=ek10
 obtain ⟨hj,hnt⟩:=I10
 by_cases hlt:jn<L.length
 ·obtain ⟨l1,hl1⟩:∃ l,L[jn]? = some l:=⟨_,List.getElem?_eq_getElem hlt⟩
  have hle1:=part_le hl1
  obtain ⟨B1,d1,hB1,hld⟩:=part_ld (hu.step M10.below) hl1
  refine zT fun _ hK11=>zc (w':=w10) rfl rfl F10 rfl (.bool true) (zka _ _ _ _ rfl (F10 11 rfl) (F10 10 rfl) (decide_eq_true (show (jn:Int)<(L.length:Int) by omega))) fun _ F12=>?_
  refine hK11 _ _ (zSk fun _ hK13=>wp_cond_true (F12 12 rfl) (wp_skip (hK13 _ _ (zSk fun _ hK14=>wp_block (zT fun _ hK15=>zc (w':=w10) rfl rfl F12 rfl (ixV (.slice A0 L.length c0) jn) (y_ixP _ _ rfl (F12 9 rfl) (hu.step M10.below) (F12 11 rfl) rfl hlt) fun _ F16=>?_)))))
  refine zc (w':=w10) rfl rfl F16 rfl (.slice B1 l1.length d1) (hld _ _ _ rfl (F16 13 rfl)) fun _ F17=>?_
  refine rm rfl F17 fun _ F18=>hK15 _ _ (zT fun _ hK19=>rm rfl F18 fun _ F20=>rm rfl F20 fun _ F21=>zc (w':=w10) rfl rfl F21 rfl (zI (l1.length:Int)) (z8a _ rfl (F21 16 rfl) hB1 rfl) fun _ F22=>?_)
  refine zc (w':=w10) rfl rfl F22 rfl (zI ((nt+l1.length:Nat):Int)) (zoa _ _ _ _ rfl (F22 15 rfl) (F22 17 rfl) (by omega) (by omega)) fun _ F23=>?_
  refine rm rfl F23 fun _ F24=>hK19 _ _ (zT fun _ hK25=>rm rfl F24 fun _ F26=>zc (w':=w10) rfl rfl F26 rfl (.bool false) (zka _ _ _ _ rfl (F26 19 rfl) rfl (decide_eq_false (show ¬((nt+l1.length:Nat):Int)<0 by omega))) fun _ F27=>?_)
  refine hK25 _ _ (wp_cond_false (F27 20 rfl) (wp_skip (hK14 _ _ (zR (zc (w':=w10) rfl rfl F27 rfl (zI ((jn+1:Nat):Int)) (zoa _ _ _ _ rfl (F27 11 rfl) rfl (by omega) (by omega)) fun _ F28=>?_)))))
  refine rm rfl F28 fun _ F29=>?_
  subst ek10
  exact hK10 _ ⟨(jn+1),(nt+l1.length)⟩ _ _ (by omega) ⟨rfl,⟨by omega,by rw [flat_take hl1,List.length_append,hnt]⟩⟩ (F29.sb) (M10.sub trivial)
 ·have hjL:jn=L.length:=by omega
  refine zT fun _ hK30=>zc (w':=w10) rfl rfl F10 rfl (.bool false) (zka _ _ _ _ rfl (F10 11 rfl) (F10 10 rfl) (decide_eq_false (show ¬(jn:Int)<(L.length:Int) by omega))) fun _ F31=>?_
  refine hK30 _ _ (zSk fun _ hK32=>wp_cond_false (F31 12 rfl) (wp_exit ?_))
  simp only [Exit.then,Exit.inBlock,↓reduceIte,Nat.reduceEqDiff]
  refine hK5 _ _ (zT fun _ hK33=>rm rfl F31 fun _ F34=>zh rfl rfl F34 rfl rfl (zE Tryz.func121 rfl) #[zN,zI (nt:Int)] (zfa rfl (F34 23 rfl)) ((grow_nil nt (by rw [hnt];exact Nat.le_trans (flat_le _ _) hl) w10)) ?_)
  rintro v35 w35 a35 h35 F35
  have M35:=M10.newO h35.2 0 h35.1
  clear M10 h35
  obtain ⟨A35,c35,rfl⟩:=(M35.isO (k:=0) rfl).shape
  refine rm rfl F35 fun _ F36=>hK33 _ _ (zSk fun _ hK37=>zT fun _ hK38=>rm rfl F36 fun _ F39=>zc (w':=w35) rfl rfl F39 rfl (zI (L.length:Int)) (run_lenT 68 Tryz.underlying68 _ rfl (F39 25 rfl)) fun _ F40=>?_)
  refine rm rfl F40 fun _ F41=>hK38 _ _ (wp_block (zeb (α:=Nat×Value) (n:=36) (G:=none) (w0:=w) (fun x=>[(25,.slice A0 L.length c0),(26,zI (L.length:Int)),(27,zI (x.1:Int)),(6,x.2)]) (fun x=>[(0,ownR ((L.take x.1).flatten) x.2)]) (fun k x=>k=(L.length-x.1)∧(x.1≤L.length)) _ ⟨0,(.slice A35 (([]:List UInt8)).length c35)⟩ ⟨rfl,(Nat.zero_le _)⟩ (F41.sb) (M35.sb) ?_))
  rintro k42 ⟨jn,ev⟩ a42 w42 K42 ⟨ek42,I42⟩ F42 M42 hK42
  replace F42:Fx 36 a42 [(25,.slice A0 L.length c0),(26,zI (L.length:Int)),(27,zI (jn:Int)),(6,ev)]:=F42
  replace M42:Mx _ _ w42 [(0,ownR ((L.take jn).flatten) ev)]:=M42
  replace I42:jn≤L.length:=I42
  replace ek42:k42=(L.length-jn):=ek42
  have hj:=I42
  by_cases hlt:jn<L.length
  ·obtain ⟨l1,hl1⟩:∃ l,L[jn]? = some l:=⟨_,List.getElem?_eq_getElem hlt⟩
   have hle1:=part_le hl1
   obtain ⟨B1,d1,hB1,hld⟩:=part_ld (hu.step M42.below) hl1
   refine zT fun _ hK43=>zc (w':=w42) rfl rfl F42 rfl (.bool true) (zka _ _ _ _ rfl (F42 27 rfl) (F42 26 rfl) (decide_eq_true (show (jn:Int)<(L.length:Int) by omega))) fun _ F44=>?_
   refine hK43 _ _ (zSk fun _ hK45=>wp_cond_true (F44 28 rfl) (wp_skip (hK45 _ _ (zSk fun _ hK46=>wp_block (zT fun _ hK47=>zc (w':=w42) rfl rfl F44 rfl (ixV (.slice A0 L.length c0) jn) (y_ixP _ _ rfl (F44 25 rfl) (hu.step M42.below) (F44 27 rfl) rfl hlt) fun _ F48=>?_)))))
   refine zc (w':=w42) rfl rfl F48 rfl (.slice B1 l1.length d1) (hld _ _ _ rfl (F48 29 rfl)) fun _ F49=>?_
   refine rm rfl F49 fun _ F50=>hK47 _ _ (zR (rm rfl F50 fun _ F51=>rm rfl F51 fun _ F52=>zwa rfl rfl F52 rfl (zfb M42 (k:=0) rfl _ _ rfl (F52 31 rfl) (F52 32 rfl) hB1 (by omega)) ?_))
   intro v53 a53 w53 F53 M53
   obtain ⟨A53,c53,rfl⟩:=(M53.isO (k:=0) rfl).shape
   refine rm rfl F53 fun _ F54=>hK46 _ _ (zR (zc (w':=w53) rfl rfl F54 rfl (zI ((jn+1:Nat):Int)) (zoa _ _ _ _ rfl (F54 27 rfl) rfl (by omega) (by omega)) fun _ F55=>?_))
   refine rm rfl F55 fun _ F56=>?_
   subst ek42
   exact hK42 _ ⟨(jn+1),(.slice A53 ((((L.take jn).flatten)++l1)).length c53)⟩ _ _ (by omega) ⟨rfl,(by omega)⟩ (F56.sb) (M53.sub ⟨(by rw [flat_take hl1];rfl),trivial⟩)
  ·have hjL:jn=L.length:=by omega
   refine zT fun _ hK57=>zc (w':=w42) rfl rfl F42 rfl (.bool false) (zka _ _ _ _ rfl (F42 27 rfl) (F42 26 rfl) (decide_eq_false (show ¬(jn:Int)<(L.length:Int) by omega))) fun _ F58=>?_
   refine hK57 _ _ (zSk fun _ hK59=>wp_cond_false (F58 28 rfl) (wp_exit ?_))
   simp only [Exit.then,Exit.inBlock,↓reduceIte,Nat.reduceEqDiff]
   refine hK37 _ _ (zT fun _ hK60=>rm rfl F58 fun _ F61=>?_)
   exact rm rfl F61 fun _ F62=>hK60 _ _ (wp_ret (bodyPost_ret (res1 rfl (F62.get rfl)) F62.defers ⟨_,rfl,(by have h:=M42.byt (k:=0) rfl;rw [hjL,hcat] at h;exact h),M42.below⟩))
section
structure CelN where
 s:List UInt8
 n:List UInt8
 f:Bool
structure VltN where
 c:Nat→CelN
 fl:Bool
 lf:Int
 dd:Bool
def nilC:CelN:=⟨[],[],false⟩
def putC (c:Nat→CelN) (p:Nat) (x:CelN):Nat→CelN:=fun i=>if i=p then x else c i
theorem zec (c:Nat→CelN) (p:Nat) (x:CelN):putC c p x p=x:=if_pos rfl
theorem ztc (c:Nat→CelN) {p i:Nat} (x:CelN) (h:i≠p):putC c p x i=c i:=if_neg h
def bodyL (t:Int) (s:List UInt8):List UInt8:=zy t++[zj (s.length:Int)]++s
theorem bodyL_len (t:Int) (s:List UInt8):(bodyL t s).length=9+s.length:=by
 unfold bodyL;rw [List.length_append,List.length_append,zja];rfl
def saysL (b:List UInt8):List UInt8:=(b.take (b.length-16)).drop 9
theorem saysL_len (b:List UInt8):(saysL b).length=b.length-25:=by
 unfold saysL;rw [List.length_drop,List.length_take];omega
def turnL (b:List UInt8):Int:=numI (b.take 8)
variable (H:Nat→List UInt8→List UInt8)
def z7a (p:Nat) (t:Int) (s:List UInt8):List UInt8:=bodyL t s++H p (bodyL t s)
def zob (p:Nat) (b:List UInt8):Bool:=decide (25≤b.length)&&decide (z7a H p (turnL b) (saysL b)=b)
def goodR (p:Nat) (b:List UInt8):Bool:=decide (25≤b.length)&&decide (((b.getD 8 0).toNat:Int)+25=(b.length:Int))&&decide (z7a H p (numR (b.take 8)) (saysL b)=b)
theorem saidL_len (hH:∀ p b,(H p b).length=16) (p:Nat) (t:Int) (s:List UInt8):(z7a H p t s).length=25+s.length:=by
 unfold z7a;rw [List.length_append,bodyL_len,hH];omega
theorem saidL_at8 (p:Nat) (t:Int) (s:List UInt8):(z7a H p t s)[8]? = some (zj (s.length:Int)):=by
 unfold z7a bodyL
 rw [List.append_assoc,List.append_assoc,List.getElem?_append_right (by rw [zja];omega),zja];rfl
theorem saidL_take8 (p:Nat) (t:Int) (s:List UInt8):(z7a H p t s).take 8=zy t:=by
 unfold z7a bodyL
 rw [List.append_assoc,List.append_assoc,List.take_left' (zja t)]
theorem saidL_says (hH:∀ p b,(H p b).length=16) (p:Nat) (t:Int) (s:List UInt8):saysL (z7a H p t s)=s:=by
 unfold saysL
 rw [saidL_len H hH]
 unfold z7a
 rw [List.take_left' (by rw [bodyL_len];omega)]
 unfold bodyL
 rw [List.drop_left' (by rw [List.length_append,zja];rfl)]
theorem saidL_turn (p:Nat) {t:Int} (h0:0≤t) (h1:t<9223372036854775808) (s:List UInt8):turnL (z7a H p t s)=t:=by
 unfold turnL;rw [saidL_take8,zzc h0 h1]
theorem good_said (hH:∀ p b,(H p b).length=16) (p:Nat) {t:Int} (h0:0≤t) (h1:t<9223372036854775808) (s:List UInt8):zob H p (z7a H p t s)=true:=by
 unfold zob
 rw [saidL_turn H p h0 h1,saidL_says H hH]
 simp [saidL_len H hH]
theorem good_eq {p:Nat} {b:List UInt8} (hl:b.length<281) (hn:numOk (b.take 8)=true):goodR H p b=zob H p b:=by
 have e:numR (b.take 8)=turnL b:=numR_I hn
 unfold goodR zob
 rw [e]
 by_cases h25:25≤b.length
 ·by_cases hs:z7a H p (turnL b) (saysL b)=b
  ·have h8:=saidL_at8 H p (turnL b) (saysL b)
   rw [hs,saysL_len] at h8
   have h9:(b.getD 8 0).toNat=b.length-25:=by
    rw [List.getD_eq_getElem?_getD,h8]
    have:=zvc ((b.length-25:Nat):Int)
    simp only [Option.getD_some]
    omega
   rw [decide_eq_true (show ((b.getD 8 0).toNat:Int)+25=(b.length:Int) by rw [h9];omega),Bool.and_true]
  ·simp [hs]
 ·simp [h25]
def secB (V:VltN) (q:Nat):Bool:=zob H (q+1) (V.c (q+1)).s&&(!zob H q (V.c q).s||decide (turnL (V.c q).s<turnL (V.c (q+1)).s))
def anyB (V:VltN) (q:Nat):Bool:=secB H V q||zob H q (V.c q).s
def zpc (V:VltN):Bool:=V.fl&&decide (V.lf=0)
def zkc (V:VltN) (p:Nat) (b:List UInt8):VltN:={ V with lf:=IntKind.i64.wrap (V.lf-1),c:=putC V.c p ⟨(V.c p).s,b,true⟩ }
def keepV (V:VltN) (p:Nat):VltN:={ V with lf:=IntKind.i64.wrap (V.lf-1),c:=putC V.c p ⟨(V.c p).n,[],false⟩ }
def deadV (V:VltN):VltN:={ V with dd:=true }
def wrtV (V:VltN) (p:Nat) (b:List UInt8):VltN×Bool:=
 if zpc V=true then (deadV V,false) else if zpc (zkc V p b)=true then (deadV (zkc V p b),false) else (keepV (zkc V p b) p,true)
def tornN (k:Int) (n:Nat):Nat:=(min (max k 0) (n:Int)).toNat
def tornC (c:CelN) (n:Nat):CelN:=⟨c.n.take n++c.s.drop n,[],false⟩
end
end Go.Proofs.YtmjbnmbobocpdaaGreat
/- sentinelref3: Bytes, Stretch, Stream; sponge.Stretch. -/
namespace Go.Proofs.YtmjbnmbobocpdaaGreat
open Go.ChangeShapes Go.WideShapes Go.ChangeAt Go.RowKit Go.Shelf
theorem Byt.mono {w:World} {b b':Nat} {v:Value} {l:List UInt8} (h:Byt w b v l) (hb:b'≤b):Byt w b' v l:=by
 refine ⟨h.1,?_⟩
 rcases h.2 with hn | ⟨g,c,cur,e,hbg,rest⟩
 ·exact .inl hn
 ·exact .inr ⟨g,c,cur,e,Nat.le_trans hb hbg,rest⟩
def sumY (y:Nat→Int):List UInt8:=(List.range 16).map fun j=>UInt8.ofNat (y j).toNat
theorem sumY_len (y:Nat→Int):(sumY y).length=16:=by simp [sumY]
theorem sumY_val {z:Int} (h:0≤z∧z<256):(((UInt8.ofNat z.toNat).toNat:Nat):Int)=z:=by
 have e:(UInt8.ofNat z.toNat).toNat=z.toNat:=by simp;omega
 rw [e,Int.toNat_of_nonneg h.1]
theorem sumY_take (y:Nat→Int) {k:Nat} (hk:k<16):(sumY y).take (k+1)=(sumY y).take k++[UInt8.ofNat (y k).toNat]:=by
 have h:k<(sumY y).length:=by rw [sumY_len];exact hk
 rw [List.take_succ_eq_append_getElem h]
 congr 2
 simp [sumY]
theorem arr16_at' (y:Nat→Int) {j:Nat} (hj:j<16):(z3a y)[j]? = some (zY (y j)):=by
 have:j=0∨j=1∨j=2∨j=3∨j=4∨j=5∨j=6∨j=7∨j=8∨j=9∨j=10∨j=11∨j=12∨j=13∨j=14∨j=15:=by omega
 rcases this with rfl | rfl | rfl | rfl | rfl | rfl | rfl | rfl | rfl | rfl | rfl | rfl | rfl | rfl | rfl | rfl <;> rfl
theorem srbytes_any (y:Nat→Int) (hy:∀ k,0≤y k∧y k<256) (w:World):
  Calls Tryz.prog 37 #[.agg (z3a y)] w fun e w'=>∃ v,e=.returned v∧Byt w' w.heap.size v (sumY y)∧Below w.heap.size w w':=by
 have HT:=hid (fun k (hk:k<16)=>sumY_take y hk)
 have HV:=hid (fun k=>sumY_val (hy k))
 have HL:=hid (sumY_len y)
 have z0:=Blk.new w 65 (z3a y)
 have b0:=zqa w (.cells (z3a y) 65)
 have s0:(w.alloc (.cells (z3a y) 65)).heap.size=w.heap.size+1:=by simp
 go_enter Tryz.func37,Tryz.ntmps37
 go_wp2
 generalize World.alloc _ _=W at *
 go_loopw [3,4] (fun v i wr=>∃ k:Nat,k≤16∧i=zI k∧Byt wr (w.heap.size+1) v ((sumY y).take k)∧Below (w.heap.size+1) W wr) (fun _ i _=>16-(intOf i).toNat)
 case atStart=>exact ⟨0,by omega,rfl,Byt.nil _ _,Below.refl _ _⟩
 case round=>
  obtain ⟨k,hk,rfl,hv,hB⟩:=hrel
  by_cases hlt:k<16
  ·have et:=HT.out k hlt
   have hvk:=HV.out k
   have hle:((sumY y).take k).length≤16:=by rw [List.length_take,HL.out];omega
   obtain ⟨x,hx⟩:∃ x,x=UInt8.ofNat (y k).toNat:=⟨_,rfl⟩
   rw [←hx] at et hvk
   have hrd:Rd (wr.alloc (.cells #[zY (y k)] 5)) (some ⟨wr.heap.size,0,none⟩) [x]:=by
    have:=rd_one x wr
    rw [hvk] at this
    exact this
   have hz:=hB.size
   have hck:wr.cell? ⟨w.heap.size,k,none⟩=some (zY (y k)):=(Blk.cell (z0.below hB (by omega)) (arr16_at' y hlt))
   generalize y k=Y at *
   clear hx hvk HT HV z0
   go_wp2_with (refine zma rfl (.tmp 9) (.tmp 13) rfl (w.heap.size+1) _ _ [x] rfl (hv.alloc _) _ 1 1 rfl rfl (fun h=>by cases h) hrd (by simp <;> omega) (by simp;omega) ?_;intro v' w' h1 h2 h3)
   go_roundw
   case rel=>exact ⟨k+1,by omega,by go_num,by rw [et];exact h1,hB.trans (zmc h2 (by omega))⟩
   case measure=>simp [intOf];omega
  ·obtain rfl:k=16:=by omega
   rw [List.take_of_length_le (by rw [HL.out];omega)] at hv
   go_wp2
   go_ret
   exact ⟨_,rfl,hv.mono (by omega),b0.trans (hB.mono (by omega))⟩
end Go.Proofs.YtmjbnmbobocpdaaGreat
namespace Go.Proofs.YtmjbnmbobocpdaaGreat
open Go.ChangeShapes Go.WideShapes Go.ChangeAt Go.RowKit
section
open Go.Shelf
def JQ {α:Type} (G:Option Nat) (w0:World) (PRE:(Nat→Bool)→Prop) (RL:α→(Nat→Bool)→(Nat→Value)→List (Nat×Res)) (S:Nat→Bool) (p:Nat→Value) (w:World):Prop:=PRE S∧∃ x,Mx G w0 w (RL x S p)
theorem JQ.mk {α:Type} {G:Option Nat} {w0:World} {PRE:(Nat→Bool)→Prop} {RL:α→(Nat→Bool)→(Nat→Value)→List (Nat×Res)} {S:Nat→Bool} {p:Nat→Value} {w:World} (h:PRE S) (x:α) (M:Mx G w0 w (RL x S p)):JQ G w0 PRE RL S p w:=⟨h,x,M⟩
def ifp (A:Option Addr) (n:Nat) (g:Nat):Prop:=0<n∧∃ o,A=some ⟨g,o,none⟩
def intR (A:Option Addr) (n:Nat) (x:Nat→Int):Res:=⟨false,ifp A n,fun w=>RdI w A n x⟩
theorem RdI.same {u u':World} {A:Option Addr} {n:Nat} {x:Nat→Int} (hs:Same (ifp A n) u u') (h:RdI u A n x):RdI u' A n x:=
 ⟨h.1,h.2.1,fun hn=>by
  obtain ⟨b,o,e,h1,h2⟩:=h.2.2 hn
  refine ⟨b,o,e,Nat.lt_of_lt_of_le h1 hs.size,fun k hk=>?_⟩
  have hb:=hs.at_ b _ ⟨hn,o,e⟩ (Array.getElem?_eq_getElem h1)
  rw [←h2 k hk]
  simp only [World.cell?,hb,Array.getElem?_eq_getElem h1]⟩
section
variable {G:Option Nat} {w0 w:World} {R:List (Nat×Res)}
theorem Mx.argI (M:Mx G w0 w R) (i:Nat) {A:Option Addr} {n:Nat} {x:Nat→Int} (h:RdI w0 A n x) (hG:∀ g,G=some g→¬ifp A n g):Mx G w0 w ((i,intR A n x)::R):=
 M.arg i _ (RdI.same (u:=w0) ⟨fun g o hg ho=>(M.grown.block g (Array.getElem?_eq_some_iff.1 ho).1 (fun e=>hG g e.symm hg)).trans ho,M.grown.size⟩ h) (fun _ _ hs h=>RdI.same hs h) rfl fun g hg=>by
  refine ⟨?_,fun e=>hG g e hg⟩
  obtain ⟨hn,o,e⟩:=hg
  obtain ⟨b,q,e2,h1,-⟩:=h.2.2 hn
  rw [e] at e2
  cases e2
  exact h1
theorem Mx.rdI (M:Mx G w0 w R) {k:Nat} {A:Option Addr} {n:Nat} {x:Nat→Int} (h:look R k=some (intR A n x)):RdI w A n x:=M.at_ k _ h
end
section
variable {a:Act} {w:World} {o:Oper} {A:Option Addr} {n c:Nat} {x:Nat→Int}
theorem y_ixJ (y k:Operand) (ho:o.op=.indexAddr 22 y k) (hx:a.eval y=.slice A n c) (hB:RdI w A n x) {z:Int} {i:Nat} (hk:a.eval k=zI z) (hz:z=(i:Int)) (hi:i<n):(execOp a.eval o).run Tryz.prog w=.ok (.value (ixV (.slice A n c) i)) w:=by
 subst hz
 obtain ⟨b,q,rfl,hb,hc⟩:=hB.2.2 (by omega)
 unfold execOp
 simp only [ho,hx,hk]
 have h0:¬((i:Int)<0):=by omega
 have h5:(i:Int)<(n:Int):=by omega
 simp [go_sem,h0,h5,hi,ixV,zna]
theorem y_ldJ (y:Operand) (ho:o.op=.load 3 y) {i:Nat} (hx:a.eval y=ixV (.slice A n c) i) (hB:RdI w A n x) (hi:i<n):(execOp a.eval o).run Tryz.prog w=.ok (.value (zI (x i))) w:=by
 obtain ⟨g,q,rfl,hb,hc⟩:=hB.2.2 (by omega)
 have hcell:=hc i hi
 have hx':a.eval y=(zP g (q+i)):=by rw [hx];simp [ixV,zna]
 have h6:(isAgg 3).run Tryz.prog w=.ok false w:=by
  unfold isAgg
  simp only [Sem.run_bind,run_underlying Tryz.underlying3,Result.andThen_ok]
  rfl
 unfold execOp
 simp only [ho,hx',Instr.loadAt,Instr.sureAddr,loadVar,Sem.run_bind,Sem.run_pure,Result.andThen_ok,h6,Bool.false_eq_true,if_false]
 simp [hcell,Result.andThen]
end
end
section
open Go.Shelf
variable {ds:List Deferred}
section
variable {P:Program}
theorem relOkU_dst {L:List Oper} {m n:Nat} (hok:relOkU L m n=true):∀ (i:Nat) (o:Oper) (d:Nat),(L.take m)[i]? = some o→o.dst=some d→d<n:=by
 unfold relOkU at hok
 simp only [Bool.and_eq_true,List.all_eq_true] at hok
 intro i o d ho hd
 have hi:i<m:=by
  rw [List.getElem?_take] at ho
  split at ho
  ·assumption
  ·cases ho
 have hall:=hok.2
 have h1:=hall i (List.mem_range.2 hi)
 simp only [ho,hd,Bool.and_eq_true,decide_eq_true_eq] at h1
 exact h1.1.1
theorem region_fxU {id:Nat} {Q:Exit→Act→World→Prop} {a0:Act} {W:World} {L:List Oper} {n:Nat} {V:List (Nat×Value)} (F:Fx n a0 V ds) (S:List StK) (m:Nat) (hok:relOkU L m n=true) (hml:(decide (m≤L.length))=true)
  (hop:HopAllT P L m Q (stYK S) a0 W (L.take m) 0)
  (hend:∀ (p:Nat→Value) (a:Act) (w:World),Kc W.heap.size W w→Fx n a (layV p (L.take m) 0 V) ds→YAll (stYK S) p w (L.take m) 0→wpList P L.toArray Q (L.drop m) a w):(Code.region id L.toArray false).wp P Q a0 W:=
 wp_region_stU S m n F.size hok hml hop fun p w hb hY=>hend p _ w (Kc.of_below (Nat.le_refl _) hb) (F.lay p (L.take m) 0 a0 V (relOkU_dst hok)) hY
end
end
end Go.Proofs.YtmjbnmbobocpdaaGreat
