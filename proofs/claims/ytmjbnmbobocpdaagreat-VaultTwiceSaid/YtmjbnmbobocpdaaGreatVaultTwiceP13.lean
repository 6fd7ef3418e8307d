/- What VaultTwice stands on, part 13. -/
import Derived.Test.YtmjbnmbobocpdaaGreatVaultTwiceP1
import Derived.Test.YtmjbnmbobocpdaaGreatVaultTwiceP2
import Derived.Test.YtmjbnmbobocpdaaGreatVaultTwiceP3
import Derived.Test.YtmjbnmbobocpdaaGreatVaultTwiceP4
import Derived.Test.YtmjbnmbobocpdaaGreatVaultTwiceP5
import Derived.Test.YtmjbnmbobocpdaaGreatVaultTwiceP6
import Derived.Test.YtmjbnmbobocpdaaGreatVaultTwiceP7
import Derived.Test.YtmjbnmbobocpdaaGreatVaultTwiceP8
import Derived.Test.YtmjbnmbobocpdaaGreatVaultTwiceP9
import Derived.Test.YtmjbnmbobocpdaaGreatVaultTwiceP10
import Derived.Test.YtmjbnmbobocpdaaGreatVaultTwiceP11
import Derived.Test.YtmjbnmbobocpdaaGreatVaultTwiceP12
set_option maxRecDepth 100000
set_option maxHeartbeats 8000000
set_option linter.unusedVariables false
set_option linter.unusedSimpArgs false
namespace Go.Proofs.YtmjbnmbobocpdaaGreat
open Go.ChangeShapes Go.WideShapes Go.ChangeAt Go.RowKit
section
open Go.Shelf
section
variable {G:Option Nat} {w0 w w':World} {R:List (Nat×Res)} {kg kr g:Nat} {t:TypeId} {a a':Array Value} {c c':Nat→CelN} {s n s' n':Nat→Value}
theorem Mx.vault (M:Mx G w0 w R) (hk:look R kg=some (blkR g t a)) (hrr:look R kr=some (zua 0 18 c s n)) (hb:w.grownBy w' (some g)) (hblk:w'.heap[g]? = some (.cells a' t (0,0))) (hrow:RowsV w' g c' s' n') (hto:∀ b,zq 18 s' n' b→zq 18 s n b∨w.heap.size≤b):Mx G w0 w' ((kr,zua 0 18 c' s' n')::(kg,blkR g t a')::R):=
 (M.put hk hb hblk).cons kr _ (fun j hj=>⟨(hrow j hj).1.1,(hrow j hj).2.1,fun _ _=>Nat.zero_le _⟩) rows_dep (fun b ⟨j,hj,h⟩=>by
  rcases h with h | h
  ·exact (hrow j hj).1.1.lt h
  ·exact (hrow j hj).2.1.lt h) (fun e=>by cases e) fun k r e hkk hw b h h2=>by
  rcases hw with hw | hw
  ·cases hw
  rw [zx] at e
  split at e
  ·cases e
   obtain rfl:b=g:=h2
   obtain ⟨j,hj,h⟩:=h
   rcases h with h | h
   ·exact (hrow j hj).1.2 h
   ·exact (hrow j hj).2.2 h
  ·rcases hto b h with h | h
   ·exact M.dis k kr r _ e hrr (fun e2=>hkk e2.symm) hw b h2 h
   ·have:=M.lt k r e b h2
    omega
theorem Mx.newVault (M:Mx G w0 w R) (hb:Below w.heap.size w w') (kg kr:Nat) (hg:w.heap.size≤g) (hblk:w'.heap[g]? = some (.cells a' t (0,0))) (hrow:RowsV w' g c' s' n') (hto:∀ b,zq 18 s' n' b→w.heap.size≤b):Mx G w0 w' ((kr,zua 0 18 c' s' n')::(kg,blkR g t a')::R):=
 (M.newb hb kg hg hblk).cons kr _ (fun j hj=>⟨(hrow j hj).1.1,(hrow j hj).2.1,fun _ _=>Nat.zero_le _⟩) rows_dep (fun b ⟨j,hj,h⟩=>by
  rcases h with h | h
  ·exact (hrow j hj).1.1.lt h
  ·exact (hrow j hj).2.1.lt h) (fun e=>by cases e) fun k r e hkk hw b h h2=>by
  rcases hw with hw | hw
  ·cases hw
  rw [zx] at e
  split at e
  ·cases e
   obtain rfl:b=g:=h2
   obtain ⟨j,hj,h⟩:=h
   rcases h with h | h
   ·exact (hrow j hj).1.2 h
   ·exact (hrow j hj).2.2 h
  ·have:=M.lt k r e b h2
   have:=hto b h
   omega
theorem Mx.hasV (M:Mx G w0 w R) {V:VltN} (hk:look R kg=some (blkR g 80 (vltA V s n))) (hrr:look R kr=some (zua 0 18 V.c s n)) (hne:kr≠kg):HasV w g V s n:=HasV.of (M.blk hk) (M.rowsV hrr hk hne)
theorem Mx.freeze (M:Mx G w0 w R) {k g:Nat} {t:TypeId} {a:Array Value} (hk:look R k=some (blkR g t a)):Mx G w0 w ((k,blkO g t a)::R):=
 M.cons k _ (M.blk hk) blkO_dep (fun b hb=>by cases hb;exact z4a (M.blk hk)) (fun e=>by cases e) fun j r e hj hw b hb=>M.dis k j _ r hk e hj rfl b hb
end
section
variable (g:Nat) (V:VltN) (s n:Nat→Value) (w:World)
theorem vnew_is (V':VltN) (h:ageW zeroV=V') (w:World):Calls Tryz.prog 14 #[] w fun e w'=>∃ t,e=.returned t∧∃ g,t=(zO g)∧w.heap.size≤g∧∃ s' n',RowsV w' g V'.c s' n'∧(∀ b,zq 18 s' n' b→w.heap.size≤b)∧w'.heap[g]? = some (.cells (vltA V' s' n') 80 (0,0))∧Below w.heap.size w w':=by
 subst h
 exact (vnew_any w).mono fun e w' ⟨g,h1,h2,s',n',h3,h4,h5,h6⟩=>⟨_,h1,g,rfl,h2,s',n',h3,h4,h5,h6⟩
theorem put_is {K:Nat} (r:RecN) (Vr:RecV) (ho:RecOk r) (hi:InvV K V) (hK:K<256) (V':VltN) (z:Int) (h1:(putV V r).1=V') (h2:(putV V r).2=z) (w:World) (hR:RecIs w r Vr) (hRg:¬bfp Vr.v2 g∧¬bfp Vr.v5 g) (hr:RowsV w g V.c s n) (hg:w.heap[g]? = some (.cells (vltA V s n) 80 (0,0))):
  Calls Tryz.prog 22 #[(zO g),.agg (recA r Vr)] w fun e w'=>∃ t,e=.returned t∧t=zI z∧∃ s' n',RowsV w' g V'.c s' n'∧(∀ b,zq 18 s' n' b→zq 18 s n b∨w.heap.size≤b)∧w'.heap[g]? = some (.cells (vltA V' s' n') 80 (0,0))∧w.grownBy w' (some g):=by
 subst h1 h2
 exact put_any g V s n r Vr ho hi hK w hR hRg hr hg
theorem gone_is {K:Nat} (nm:ByteArray) (hi:InvV K V) (hK:K<256) (V':VltN) (z:Int) (h1:(goneV V nm).1=V') (h2:(goneV V nm).2=z) (w:World) (hr:RowsV w g V.c s n) (hg:w.heap[g]? = some (.cells (vltA V s n) 80 (0,0))):
  Calls Tryz.prog 27 #[(zO g),.string nm] w fun e w'=>∃ t,e=.returned t∧t=zI z∧∃ s' n',RowsV w' g V'.c s' n'∧(∀ b,zq 18 s' n' b→zq 18 s n b∨w.heap.size≤b)∧w'.heap[g]? = some (.cells (vltA V' s' n') 80 (0,0))∧w.grownBy w' (some g):=by
 subst h1 h2
 exact gone_any g V s n nm hi hK w hr hg
def zac (V:VltN) (z:Int):VltN:=⟨V.c,decide (0≤z),z,V.dd⟩
theorem fail_is (z:Int) (V':VltN) (h:zac V z=V') (w:World) (hr:RowsV w g V.c s n) (hg:w.heap[g]? = some (.cells (vltA V s n) 80 (0,0))):
  Calls Tryz.prog 19 #[(zO g),zI z] w fun e w'=>∃ t,e=.returned t∧∃ s' n',RowsV w' g V'.c s' n'∧(∀ b,zq 18 s' n' b→zq 18 s n b∨w.heap.size≤b)∧w'.heap[g]? = some (.cells (vltA V' s' n') 80 (0,0))∧w.grownBy w' (some g):=by
 subst h
 obtain ⟨c,fl,lf,dd⟩:=V
 exact (vfail_any g c fl lf dd s n z w hg).mono fun e w' ⟨t,h1,h2,h3⟩=>⟨t,h1,s,n,hr.grow h3,fun b hb=>.inl hb,h2,h3⟩
theorem again_isV {K:Nat} {e0:Int} (A0:Option Addr) (m c0:Nat) (tx:Nat→Int) (hmc:m≤c0) (hi:InvV K V) (hK:K<256) (he:EraV V e0) (h0:0≤e0) (h1:e0<1000) (V':VltN) (h:ageW (zxb V tx m)=V') (w:World) (hT:RdI w A0 m tx) (hTg:¬ifp A0 m g) (hr:RowsV w g V.c s n) (hg:w.heap[g]? = some (.cells (vltA V s n) 80 (0,0))):
  Calls Tryz.prog 30 #[(zO g),.slice A0 m c0] w fun e w'=>∃ t,e=.returned t∧∃ s' n',RowsV w' g V'.c s' n'∧(∀ b,zq 18 s' n' b→zq 18 s n b∨w.heap.size≤b)∧w'.heap[g]? = some (.cells (vltA V' s' n') 80 (0,0))∧w.grownBy w' (some g):=by
 subst h
 exact vagain_any g V s n (zsc hi) A0 m c0 tx hmc (era_bd (era_setl he tx m) h0 h1) (inv_turn (setl_inv hi tx m) hK 16) w hT hTg hr hg
theorem boot_is {K:Nat} {e0:Int} (hi:InvV K V) (he:EraV V e0) (w:World) (h:HasV w g V s n):Calls Tryz.prog 26 #[(zO g)] w fun e w'=>e=.returned (zI e0)∧Below w.heap.size w w':=by
 have:=boot_any g V s n (zsc hi) w h
 rwa [he.2.2.2] at this
theorem dead_is (b:Bool) (hb:V.dd=b) (w:World) (h:HasV w g V s n):Calls Tryz.prog 32 #[(zO g)] w fun e w'=>e=.returned (.bool b)∧Below w.heap.size w w':=by
 subst hb;exact vdead_any g V s n w h
theorem get_yes {K:Nat} (hi:InvV K V) (nm:ByteArray) (k:Nat) (h8:k<8) (hk:fst8 (zaa V nm)=k) (r:RecN) (hr:z2a V (2*k)=r) (w:World) (h:HasV w g V s n):Calls Tryz.prog 24 #[(zO g),.string nm] w fun e w'=>∃ t,e=.returned t∧∃ V',t=.tuple #[.agg (recA r V'),.bool true]∧RecIs w' r V'∧(∀ b,bfp V'.v2 b∨bfp V'.v5 b→w.heap.size≤b)∧Below w.heap.size w w':=by
 subst hr hk
 exact (get_any g V s n (zsc hi) nm w h).mono fun e w' ⟨t,h1,h2,h3⟩=>⟨t,h1,by
  rcases h2 with ⟨k,V',q1,q2,q3,q4,q5⟩ | ⟨q1,q2⟩
  ·subst q2;exact ⟨V',q3,q4,q5,h3⟩
  ·omega⟩
theorem get_not {K:Nat} (hi:InvV K V) (nm:ByteArray) (hk:fst8 (zaa V nm)=8) (w:World) (h:HasV w g V s n):Calls Tryz.prog 24 #[(zO g),.string nm] w fun e w'=>e=.returned (.tuple #[.agg (recA zeroRec ⟨zN,zN⟩),.bool false])∧Below w.heap.size w w':=
 (get_any g V s n (zsc hi) nm w h).mono fun e w' ⟨t,h1,h2,h3⟩=>⟨by
  rcases h2 with ⟨k,V',q1,q2,q3,q4,q5⟩ | ⟨q1,q2⟩
  ·omega
  ·rw [h1,q2],h3⟩
theorem names_is {K:Nat} (hi:InvV K V) (L:List ByteArray) (hL:srtL (namL V 8)=L) (w:World) (h:HasV w g V s n):Calls Tryz.prog 25 #[(zO g)] w fun e w'=>∃ v,e=.returned v∧TxtAt w' w.heap.size L v∧Below w.heap.size w w':=by
 subst hL;exact names_any g V s n (zsc hi) w h
theorem cells_is {K:Nat} (hi:InvV K V) (w:World) (h:HasV w g V s n):Calls Tryz.prog 28 #[(zO g)] w fun e w'=>∃ t,e=.returned t∧∃ gq s' n',t=.slice (some ⟨gq,0,none⟩) 18 18∧CelsAt w' w.heap.size gq V.c s' n'∧Below w.heap.size w w':=
 (cells_any g V s n (zsc hi) w h).mono fun e w' ⟨gq,s',n',h1,h2,h3⟩=>⟨_,h1,gq,s',n',rfl,h2,h3⟩
theorem rec6_is (m:Int) (b:List UInt8) (bv:Value) (hn:-9223372036854775808≤m∧m<9223372036854775808) (hb:b.length≤1000) (r:RecN) (hr:recK m b ((m.tdiv 23)%10).toNat=r) (w:World) (hB:IsB w b bv):Calls Tryz.prog 21 #[zI m,bv] w fun e w'=>∃ t,e=.returned t∧∃ V,t=.agg (recA r V)∧RecIs w' r V∧(∀ q,bfp V.v2 q∨bfp V.v5 q→w.heap.size≤q)∧Below w.heap.size w w':=by
 subst hr;exact rec6_any m b bv hn hb w hB
end
theorem rec6_ok (m:Int) (b:List UInt8) {r:RecN} (hr:recK m b ((m.tdiv 23)%10).toNat=r):RecOk r∧zca r=true:=by
 have hk:((m.tdiv 23)%10).toNat<10:=by omega
 subst hr
 exact ⟨recK_ok m b hk,recK_keep m b hk⟩
end
section
open Go.Shelf
theorem recE_pos {r:RecN} (h:zca r=true):recE r≠[]:=by
 rw [show recE r=recL r from if_pos h,recL_is]
 exact fun e=>by cases e
theorem rdOk_nil:rdOk []=false:=by
 cases h:rdOk [] with
 | false=>rfl
 | true=>
  unfold rdOk zkb at h
  simp only [Bool.and_eq_true,decide_eq_true_eq] at h
  exact absurd h.2 (recE_pos h.1)
def accP (V:VltN) (k:Nat):Option RecN→Prop
 | none=>zic V (2*k)=false∧zma V (2*k)=true
 | some r=>zic V (2*k)=true∧z2a V (2*k)=r∧zma V (2*k)=false
def AccV (V:VltN) (m:Nat→Option RecN):Prop:=∀ k,k<8→accP V k (m k)
def updO (m:Nat→Option RecN) (k:Nat) (r:Option RecN):Nat→Option RecN:=fun i=>if i=k then r else m i
theorem acc_of {V V':VltN} {k:Nat} (h:zic V' (2*k)=zic V (2*k)∧z2a V' (2*k)=z2a V (2*k)∧zma V' (2*k)=zma V (2*k)∧numB V' (2*k)=numB V (2*k)∧zec V' (2*k)=zec V (2*k)) {o:Option RecN} (ha:accP V k o):accP V' k o:=by
 obtain ⟨h1,h2,h3,-⟩:=h
 cases o with
 | none=>exact ⟨h1.trans ha.1,h3.trans ha.2⟩
 | some r=>exact ⟨h1.trans ha.1,h2.trans ha.2.1,h3.trans ha.2.2⟩
theorem acc_cells {V V':VltN} {m:Nat→Option RecN} (h:∀ i,i<16→(V'.c i).s=(V.c i).s) (ha:AccV V m):AccV V' m:=fun k hk=>acc_of (said_eq (pair_eq (h _ (by omega)) (h _ (by omega)))) (ha k hk)
theorem acc_nil {V:VltN} (h:∀ i,i<16→(V.c i).s=[]):AccV V fun _=>none:=fun k hk=>by
 have hg:∀ i,i<16→zbb zo i (V.c i).s=false:=fun i hi=>by rw [h i hi];exact good0 i
 have ha:anyB zo V (2*k)=false:=by
  unfold anyB secB
  rw [hg _ (by omega),hg _ (by omega)];rfl
 exact ⟨by unfold zic;rw [ha];rfl,by unfold zma;rw [ha];rfl⟩
theorem acc_new:AccV (ageW zeroV) fun _=>none:=acc_nil fun i hi=>by
 have hp:=nxtP_in zeroV 16
 unfold ageW
 rw [(sayW_c zeroV 16 _).1 i (by omega)];rfl
theorem acc_fail {V:VltN} {m:Nat→Option RecN} (z:Int) (ha:AccV V m):AccV (zac V z) m:=acc_cells (fun _ _=>rfl) ha
theorem setC_s0 (c:Nat→CelN) (x:Nat→Int):∀ j i,(setC c x 0 j i).s=(c i).s
 | 0,_=>rfl
 | j+1,i=>by
  unfold setC
  split
  ·by_cases e:i=j
   ·subst e
    rw [zhb,if_neg (by omega)]
    show ((c i).n.take 0++(c i).s.drop 0)=_
    rw [List.take_zero,List.drop_zero,List.nil_append]
   ·rw [zlb _ _ e];exact setC_s0 c x j i
  ·exact setC_s0 c x j i
theorem sayW_ok {V:VltN} {q:Nat} {l:List UInt8} (h:(sayW V q l).2=true):(sayW V q l).1.c (nxtP V q)=⟨zza zo (nxtP V q) (nxtT V q) l,[],false⟩∧(sayW V q l).1.dd=V.dd∧(sayW V q l).1.fl=V.fl∧(sayW V q l).1.lf=IntKind.i64.wrap (IntKind.i64.wrap (V.lf-1)-1):=by
 unfold sayW wrtV at h ⊢
 by_cases h1:zbc V=true
 ·rw [if_pos h1] at h;cases h
 ·rw [if_neg h1] at h ⊢
  by_cases h2:zbc (z4b V (nxtP V q) (zza zo (nxtP V q) (nxtT V q) l))=true
  ·rw [if_pos h2] at h;cases h
  ·rw [if_neg h2]
   refine ⟨?_,rfl,rfl,rfl⟩
   show putC (putC V.c _ _) _ ⟨(putC V.c _ _ _).n,[],false⟩ _=_
   rw [zhb,zhb]
theorem say_said' {K:Nat} {V:VltN} (hi:InvV K V) (hK:K<255) {q:Nat} {l:List UInt8} (h:(sayW V q l).2=true):anyB zo (sayW V q l).1 q=true∧cntS (sayW V q l).1 q=l:=
 wrote hi hK (by rw [(sayW_ok h).1]) (fun i hne=>by rw [(sayW_c V q l).1 i hne])
theorem acc_say {K:Nat} {V:VltN} {m:Nat→Option RecN} (hi:InvV K V) (hK:K<255) (ha:AccV V m) {k:Nat} {r:RecN} (ho:RecOk r) (hk:zca r=true) (h:(sayW V (2*k) (recE r)).2=true):AccV (sayW V (2*k) (recE r)).1 (updO m k (some r)):=fun j hj=>by
 unfold updO
 by_cases e:j=k
 ·subst e
  rw [if_pos rfl]
  obtain ⟨h1,h2⟩:=say_said' hi hK h
  obtain ⟨y1,y2⟩:=rd_rec ho hk
  refine ⟨by unfold zic;rw [h1,h2,y1];rfl,by unfold z2a;rw [if_pos h1,h2,y2],?_⟩
  unfold zma
  rw [h1,h2]
  have:=List.length_pos_iff.2 (recE_pos hk)
  rw [decide_eq_false (show ¬(((recE r).length:Int)=0) by omega)];rfl
 ·rw [if_neg e]
  exact acc_of (said_eq (sayW_pair V _ (by omega))) (ha j hj)
theorem acc_gone {K:Nat} {V:VltN} {m:Nat→Option RecN} (hi:InvV K V) (hK:K<255) (ha:AccV V m) {k:Nat} (h:(sayW V (2*k) []).2=true):AccV (sayW V (2*k) []).1 (updO m k none):=fun j hj=>by
 unfold updO
 by_cases e:j=k
 ·subst e
  rw [if_pos rfl]
  obtain ⟨h1,h2⟩:=say_said' hi hK h
  refine ⟨by unfold zic;rw [h1,h2,rdOk_nil];rfl,?_⟩
  unfold zma
  rw [h1,h2];rfl
 ·rw [if_neg e]
  exact acc_of (said_eq (sayW_pair V _ (by omega))) (ha j hj)
def isN (nm:ByteArray):Option RecN→Bool
 | none=>false
 | some r=>decide (r.s.toList=nm.toList)
theorem named_acc {V:VltN} {m:Nat→Option RecN} (ha:AccV V m) (nm:ByteArray) {k:Nat} (hk:k<8):zaa V nm k=isN nm (m k):=by
 have h:=ha k hk
 cases hm:m k with
 | none=>rw [hm] at h;exact namedB_no h.1
 | some r=>rw [hm] at h;exact namedB_is h.1 (by rw [h.2.1];rfl)
theorem empty_acc {V:VltN} {m:Nat→Option RecN} (ha:AccV V m) {k:Nat} (hk:k<8):zma V (2*k)=(m k).isNone:=by
 have h:=ha k hk
 cases hm:m k with
 | none=>rw [hm] at h;exact h.2
 | some r=>rw [hm] at h;exact h.2.2
theorem fst8_congr {p q:Nat→Bool} (h:∀ k,k<8→p k=q k):fst8 p=fst8 q:=by
 have:∀ n k,k+n≤8→fstN p n k=fstN q n k:=fun n=>by
  induction n with
  | zero=>intro k _;rfl
  | succ n ih=>intro k hk;unfold fstN;rw [h k (by omega),ih (k+1) (by omega)]
 exact this 8 0 (by omega)
theorem named8 {V:VltN} {m:Nat→Option RecN} (ha:AccV V m) (nm:ByteArray):fst8 (zaa V nm)=fst8 fun k=>isN nm (m k):=fst8_congr fun k hk=>named_acc ha nm hk
theorem empty8 {V:VltN} {m:Nat→Option RecN} (ha:AccV V m):fst8 (fun i=>zma V (2*i))=fst8 fun k=>(m k).isNone:=fst8_congr fun k hk=>empty_acc ha hk
theorem fst8_at {p:Nat→Bool} {k:Nat} (hk:k<8) (h:p k=true) (hl:∀ i,i<k→p i=false):fst8 p=k:=by
 rcases fst8_spec p with ⟨h1,h2,h3⟩ | ⟨h1,h2⟩
 ·rcases Nat.lt_trichotomy (fst8 p) k with h4 | h4 | h4
  ·rw [hl _ h4] at h2;cases h2
  ·exact h4
  ·rw [h3 k h4] at h;cases h
 ·rw [h2 k hk] at h;cases h
theorem fst8_none {p:Nat→Bool} (h:∀ i,i<8→p i=false):fst8 p=8:=by
 rcases fst8_spec p with ⟨h1,h2,h3⟩ | ⟨h1,h2⟩
 ·rw [h _ h1] at h2;cases h2
 ·exact h1
def plcM (m:Nat→Option RecN) (nm:ByteArray):Nat:=if fst8 (fun k=>isN nm (m k))<8 then fst8 (fun k=>isN nm (m k)) else fst8 fun k=>(m k).isNone
theorem put_acc {V:VltN} {m:Nat→Option RecN} (ha:AccV V m) {r:RecN} (hd:V.dd=false) (hk:zca r=true) (hp:plcM m r.s<8):putV V r=((sayW V (2*plcM m r.s) (recE r)).1,if (sayW V (2*plcM m r.s) (recE r)).2=true then 0 else 10):=by
 unfold putV
 rw [if_neg (by rw [hd];exact Bool.false_ne_true),if_neg (by rw [hk];exact fun h=>by cases h),named8 ha,empty8 ha]
 unfold plcM at hp ⊢
 split
 ·rfl
 ·rename_i h
  rw [if_neg h] at hp
  rw [if_pos hp]
theorem put_full {V:VltN} {m:Nat→Option RecN} (ha:AccV V m) {r:RecN} (hd:V.dd=false) (hk:zca r=true) (hp:plcM m r.s=8):putV V r=(V,7):=by
 unfold putV
 rw [if_neg (by rw [hd];exact Bool.false_ne_true),if_neg (by rw [hk];exact fun h=>by cases h),named8 ha,empty8 ha]
 unfold plcM at hp
 split at hp
 ·omega
 ·rename_i h
  rw [if_neg h,if_neg (by omega)]
theorem put_done {K:Nat} {V:VltN} {m:Nat→Option RecN} (hi:InvV K V) (hK:K<255) (ha:AccV V m) {r:RecN} (ho:RecOk r) (hk:zca r=true) (hd:V.dd=false) (hf:V.fl=false) (hp:plcM m r.s<8):(putV V r).2=0∧AccV (putV V r).1 (updO m (plcM m r.s) (some r))∧(putV V r).1.dd=false∧(putV V r).1.fl=false:=by
 rw [put_acc ha hd hk hp]
 obtain ⟨h1,h2,h3,h4⟩:=zcd (2*plcM m r.s) (recE r) hf
 exact ⟨by dsimp only;rw [if_pos h1],acc_say hi hK ha ho hk h1,h3.trans hd,h2⟩
theorem gone_acc {V:VltN} {m:Nat→Option RecN} (ha:AccV V m) (nm:ByteArray) (hd:V.dd=false):goneV V nm=if fst8 (fun k=>isN nm (m k))<8 then ((sayW V (2*fst8 fun k=>isN nm (m k)) []).1,if (sayW V (2*fst8 fun k=>isN nm (m k)) []).2=true then 0 else 10) else (V,3):=by
 unfold goneV
 rw [if_neg (by rw [hd];exact Bool.false_ne_true),named8 ha]
theorem gone_done {K:Nat} {V:VltN} {m:Nat→Option RecN} (hi:InvV K V) (hK:K<255) (ha:AccV V m) {nm:ByteArray} (hd:V.dd=false) (hf:V.fl=false) {k:Nat} (hp:fst8 (fun k=>isN nm (m k))=k) (h8:k<8):(goneV V nm).2=0∧AccV (goneV V nm).1 (updO m k none)∧(goneV V nm).1.dd=false∧(goneV V nm).1.fl=false:=by
 rw [gone_acc ha nm hd,hp,if_pos h8]
 obtain ⟨h1,h2,h3,h4⟩:=zcd (2*k) [] hf
 exact ⟨by dsimp only;rw [if_pos h1],acc_gone hi hK ha h1,h3.trans hd,h2⟩
def nmsM (m:Nat→Option RecN):Nat→List ByteArray
 | 0=>[]
 | k+1=>match m k with
  | none=>nmsM m k
  | some r=>nmsM m k++[r.s]
theorem namL_acc {V:VltN} {m:Nat→Option RecN} (ha:AccV V m):∀ k,k≤8→namL V k=nmsM m k
 | 0,_=>rfl
 | k+1,hk=>by
  have h:=ha k (by omega)
  have ih:=namL_acc ha k (by omega)
  unfold nmsM
  cases hm:m k with
  | none=>rw [hm] at h;rw [namL_no h.1];exact ih
  | some r=>rw [hm] at h;rw [namL_yes h.1 h.2.1,ih]
end
def rA:RecN:=⟨1,⟨#[97]⟩,[],0,0,[],0,0,0⟩
theorem rA_ok:RecOk rA:=⟨by decide,by decide,by decide,by decide,by decide,by decide,by decide⟩
theorem rA_name:NameOk rA.s:=by
 refine ⟨by decide,by decide,fun i h=>?_⟩
 have:i=0:=by have h1:rA.s.size=1:=rfl;omega
 subst this
 exact (show (33:Int)≤((97:UInt8).toNat:Int)∧((97:UInt8).toNat:Int)≤126 by decide)
theorem rA_keep:zca rA=true:=by
 unfold zca
 rw [show nameB rA.s=true from @decide_eq_true _ (Classical.propDecidable _) rA_name,show topI rA.a 8=0 from topI_none 8,show topI rA.b 8=0 from topI_none 8]
 decide
theorem y_eqPN {a:Act} {w:World} {o:Oper} (ty tz:TypeId) (hu:Tryz.prog.underlying ty=some (.pointer (Tryz.prog.pointee ty))) (hgt:Tryz.prog.eqGuardType Tryz.prog.depth ty=false) (x:Operand) {p:Addr} (ho:o.op=.binOp .eql ty x (.const (.pointer none)) tz) (hx:a.eval x=.pointer (some p)):(execOp a.eval o).run Tryz.prog w=.ok (.value (.bool false)) w:=
 y_eqV ty tz x _ ho hx (v:=.pointer none) rfl (by simp [eqGuard,go_sem,hgt]) (by rw [run_eql_pointer_nil (h:=hu)];rfl)
theorem plcA:plcM (fun _=>none) rA.s=0:=by
 have e:(fst8 fun k=>isN rA.s ((fun _=>none) k))=8:=fst8_none fun _ _=>rfl
 unfold plcM
 rw [if_neg (by omega)]
 exact fst8_at (by decide) rfl fun i h=>absurd h (Nat.not_lt_zero i)
theorem rdI_none (w:World) {x:Nat→Int} (hx:∀ k,-9223372036854775808≤x k∧x k<9223372036854775808:=by intro k;decide):RdI w none 0 x:=⟨by unfold maxLen;decide,hx,fun h=>absurd h (Nat.lt_irrefl 0)⟩
theorem known6_any  (w:World):
  Calls Tryz.prog 13 #[] w fun e w'=>e=.returned (.bool true)∧Below w.heap.size w w':=by
 obtain ⟨hE1,hI1,hf1,hd1⟩:=new_is
 have hA1:=acc_new
 obtain ⟨V1,hV1⟩:∃ x,ageW zeroV=x:=⟨_,rfl⟩
 rw [hV1] at hE1 hI1 hf1 hd1 hA1
 obtain ⟨hz2,hA2,hd2,hf2⟩:=put_done hI1 (by decide) hA1 rA_ok rA_keep hd1 hf1 (by rw [plcA];decide)
 rw [plcA] at hA2
 obtain ⟨hI2,hE2⟩:=put_keep hI1 (by decide) hE1 rA
 obtain ⟨V2,hV2⟩:∃ x,(putV V1 rA).1=x:=⟨_,rfl⟩
 rw [hV2] at hA2 hd2 hf2 hI2 hE2
 have h20:accP V2 0 (some rA):=hA2 0 (by decide)
 have hn2:fst8 (zaa V2 rA.s)=0:=by
  rw [named8 hA2]
  exact fst8_at (by decide) (show isN rA.s (some rA)=true from decide_eq_true rfl) fun i h=>absurd h (Nat.not_lt_zero i)
 have hL2:srtL (namL V2 8)=[rA.s]:=by rw [namL_acc hA2 8 (Nat.le_refl _)];rfl
 obtain ⟨hE3,hI3,-,hd3⟩:=again_is hI2 (by decide) hE2 (by decide) (by decide) (fun _=>0) 0
 obtain ⟨V3,hV3⟩:∃ x,ageW (zxb V2 (fun _=>0) 0)=x:=⟨_,rfl⟩
 rw [hV3] at hE3 hI3 hd3
 refine zj (args:=[]) 57 Tryz.func13 rfl rfl rfl ?_
 intro fa F
 have M:=Mx.start w
 refine zT fun _ hK21=>rm rfl F fun _ F22=>hK21 _ _ (zT fun _ hK23=>zf rfl rfl F22 rfl rfl (zE Tryz.func14 rfl) #[] (args0) (vnew_is V1 hV1 w) ?_)
 rintro _ w24 a24 ⟨g24,rfl,hg24,s24,n24,hr24,ht24,hc24,b24⟩ F24
 have M24:=M.newVault b24 0 1 hg24 hc24 hr24 ht24
 clear M b24 hg24 hc24 hr24 ht24
 refine rm rfl F24 fun _ F25=>hK23 _ _ (zSk fun _ hK26=>zT fun _ hK27=>rm rfl F25 fun _ F28=>zc (w':=w24) rfl rfl F28 rfl (.bool false) (y_eqPN 25 _ Tryz.underlying25 (by kernel_rfl) _ rfl (F28 7 rfl)) fun _ F29=>?_)
 refine rm rfl F29 fun _ F30=>rm rfl F30 fun _ F31=>zf (zd rfl rfl rfl (F31 9 rfl)) rfl F31 rfl rfl (zE Tryz.func26 rfl) #[(zO g24)] (zy (F31 10 rfl)) (zz ((boot_is g24 V1 s24 n24 hI1 hE1 w24 (M24.hasV (kg:=0) (kr:=1) rfl rfl (by decide))))) ?_
 rintro _ w32 a32 ⟨rfl,b32⟩ F32
 have M32:=M24.step b32
 refine zB 2 [(0,.bool false),(1,(zO g24)),(13,.bool false)] [] dnil [] F32 fun _ F33=>?_
 refine hK27 _ _ (wp_cond_false (F33 13 rfl) (wp_skip (hK26 _ _ (zT fun _ hK34=>rm rfl F33 fun _ F35=>zc (w':=w32) rfl rfl F35 rfl (.agg (recA ⟨1,({ data:=#[97] }),[],0,0,[],0,0,0⟩ ⟨zN,zN⟩)) (by unfold execOp;simp only [List.map_toArray,List.map_cons,List.map_nil,];kernel_rfl) fun _ F36=>?_))))
 refine zf rfl rfl F36 rfl rfl (zE Tryz.func22 rfl) #[(zO g24),.agg (recA ⟨1,({ data:=#[97] }),[],0,0,[],0,0,0⟩ ⟨zN,zN⟩)] (zea (F36 14 rfl) (F36 15 rfl)) (put_is g24 V1 s24 n24 rA rvZero rA_ok hI1 (by decide) V2 0 hV2 hz2 w32 ⟨(zka _),(zka _)⟩ ⟨(zsa _),(zsa _)⟩ (M32.rowsV (i:=1) (k:=0) rfl rfl (by decide)) (M32.blk (k:=0) rfl)) ?_
 rintro _ w37 a37 ⟨rfl,s37,n37,hr37,ht37,hc37,hg37⟩ F37
 have M37:=M32.vault (kg:=0) (kr:=1) rfl rfl hg37 hc37 hr37 ht37
 clear M32 hg37 hc37 hr37 ht37
 refine rm rfl F37 fun _ F38=>hK34 _ _ (zT fun _ hK39=>rm rfl F38 fun _ F40=>zf rfl rfl F40 rfl rfl (zE Tryz.func24 rfl) #[(zO g24),.string ({ data:=#[97] })] (zea (F40 18 rfl) rfl) (get_yes g24 V2 s37 n37 hI2 ({ data:=#[97] }) 0 (by decide) hn2 rA h20.2.1 w37 (M37.hasV (kg:=0) (kr:=1) rfl rfl (by decide))) ?_)
 rintro _ w41 a41 ⟨U41,rfl,is41,lo41,b41⟩ F41
 have M41:=M37.newRec b41 is41 lo41 2 3
 clear M37 b41 lo41
 refine zB 3 [(0,.bool false),(1,(zO g24)),(2,zI 0),(20,.agg (recA rA U41)),(21,.bool true)] [] dnil [] F41 fun _ F42=>?_
 refine zp rfl rfl F42 rfl M41 4 (t:=37) (c:=recA ⟨0, "".toUTF8,[],0,0,[],0,0,0⟩ ⟨zN,zN⟩) (by unfold execOp;kernel_rfl) ?_
 intro g43 a43 w43 F43 M43
 refine zu rfl rfl F43 M43 (k:=4) rfl _ _ _ rfl (F43 3 rfl) (F43 20 rfl) (recA rA U41) _ rfl (zL rfl) (z7a (w:=w43) ⟨(M43.isb (k:=2) rfl),(M43.isb (k:=3) rfl)⟩) (zba rfl) (by kernel_rfl) ?_
 intro w44 M44
 refine rm rfl F43 fun _ F45=>hK39 _ _ (zT fun _ hK46=>rm rfl F45 fun _ F47=>zf rfl rfl F47 rfl rfl (zE Tryz.func25 rfl) #[(zO g24)] (zy (F47 22 rfl)) (names_is g24 V2 s37 n37 hI2 ([rA.s]) hL2 w44 (M44.hasV (kg:=0) (kr:=1) rfl rfl (by decide))) ?_)
 rintro _ w48 a48 ⟨⟨A48,c48,rfl,tx48⟩,b48⟩ F48
 have M48:=M44.step b48
 clear M44 tx48
 refine rm rfl F48 fun _ F49=>hK46 _ _ (zT fun _ hK50=>rm rfl F49 fun _ F51=>zf rfl rfl F51 rfl rfl (zE Tryz.func30 rfl) #[(zO g24),zN] (zea (F51 24 rfl) rfl) (again_isV g24 V2 s37 n37 none 0 0 (fun _=>0) (Nat.le_refl _) hI2 (by decide) hE2 (by decide) (by decide) V3 hV3 w48 (rdI_none _) (fun h=>absurd h.1 (Nat.not_lt_zero _)) (M48.rowsV (i:=1) (k:=0) rfl rfl (by decide)) (M48.blk (k:=0) rfl)) ?_)
 rintro _ w52 a52 ⟨s52,n52,hr52,ht52,hc52,hg52⟩ F52
 have M52:=M48.vault (kg:=0) (kr:=1) rfl rfl hg52 hc52 hr52 ht52
 clear M48 hg52 hc52 hr52 ht52
 refine hK50 _ _ (zT fun _ hK53=>zB 8 [(0,.bool false),(1,(zO g24)),(5,.slice A48 ([rA.s]).length c48),(31,.bool true),(33,.string rA.s)] [0] (zw (M52.blk (k:=4) rfl) dnil) [g43] F52 fun _ F54=>?_)
 refine zc (w':=w52) (zd rfl rfl rfl (F54 31 rfl)) rfl F54 rfl (.bool true) (y_eqS _ _ _ rfl (F54 33 rfl) rfl (decide_eq_true rfl)) fun _ F55=>?_
 refine zc (w':=w52) rfl rfl F55 rfl (.bool true) (zpb rfl (F55 31 rfl) (F55 34 rfl)) fun _ F56=>?_
 refine rm rfl F56 fun _ F57=>rm rfl F57 fun _ F58=>zc (w':=w52) (zd rfl rfl rfl (F58 36 rfl)) rfl F58 rfl (zI 1) (y_lnG 45 Tryz.underlying45 _ rfl (F58 37 rfl) rfl) fun _ F59=>?_
 refine zB 4 [(0,.bool false),(1,(zO g24)),(41,.bool true),(42,(zO g24))] [] dnil [] F59 fun _ F60=>?_
 refine zf (zd rfl rfl rfl (F60 41 rfl)) rfl F60 rfl rfl (zE Tryz.func26 rfl) #[(zO g24)] (zy (F60 42 rfl)) (zz ((boot_is g24 V3 s52 n52 hI3 hE3 w52 (M52.hasV (kg:=0) (kr:=1) rfl rfl (by decide))))) ?_
 rintro _ w61 a61 ⟨rfl,b61⟩ F61
 have M61:=M52.step b61
 refine zc (w':=w61) (zd rfl rfl rfl (F61 41 rfl)) rfl F61 rfl (.bool true) (zcb _ _ _ _ rfl (F61 43 rfl) rfl Tryz.underlying3 (zvb (by decide))) fun _ F62=>?_
 refine zc (w':=w61) rfl rfl F62 rfl (.bool true) (zpb rfl (F62 41 rfl) (F62 44 rfl)) fun _ F63=>?_
 refine rm rfl F63 fun _ F64=>rm rfl F64 fun _ F65=>zf (zd rfl rfl rfl (F65 46 rfl)) rfl F65 rfl rfl (zE Tryz.func32 rfl) #[(zO g24)] (zy (F65 47 rfl)) (zz ((dead_is g24 V3 s52 n52 false hd3 w61 (M61.hasV (kg:=0) (kr:=1) rfl rfl (by decide))))) ?_
 rintro _ w66 a66 ⟨rfl,b66⟩ F66
 have M66:=M61.step b66
 refine zB 4 [(0,.bool false),(51,.bool true),(52,(zO g24))] [] dnil [] F66 fun _ F67=>?_
 refine zf (zd rfl rfl rfl (F67 51 rfl)) rfl F67 rfl rfl (zE Tryz.func28 rfl) #[(zO g24)] (zy (F67 52 rfl)) (cells_is g24 V3 s52 n52 hI3 w66 (M66.hasV (kg:=0) (kr:=1) rfl rfl (by decide))) ?_
 rintro _ w68 a68 ⟨gq68,s68,n68,rfl,ce68,b68⟩ F68
 have M68:=M66.step b68
 clear M66 ce68
 refine zc (w':=w68) (zd rfl rfl rfl (F68 51 rfl)) rfl F68 rfl (zI 18) (y_lnG 49 Tryz.underlying49 _ rfl (F68 53 rfl) rfl) fun _ F69=>?_
 refine zB 3 [(0,.bool true)] [] dnil [] F69 fun _ F70=>?_
 exact hK53 _ _ (wp_ret (bodyPost_ret (res1 rfl (F70.get rfl)) F70.defers ⟨rfl,M68.below⟩))
section
open Go.Shelf
theorem in6 (a:Int) {n:Nat} (h:0<n):∃ k:Nat,a%(n:Int)=(k:Int)∧k<n:=by
 have h1:=Int.emod_nonneg a (show (n:Int)≠0 by omega)
 have h2:=Int.emod_lt_of_pos a (show (0:Int)<n by omega)
 exact ⟨(a%(n:Int)).toNat,by omega,by omega⟩
theorem rdI_one {w:World} {g:Nat} {t:TypeId} {v:Int} (h:w.heap[g]? = some (.cells #[zI v] t (0,0))) (hv:-9223372036854775808≤v∧v<9223372036854775808):RdI w (some ⟨g,0,none⟩) 1 (fun _=>v):=
 ⟨by unfold maxLen;omega,fun _=>hv,fun _=>⟨g,0,rfl,(Array.getElem?_eq_some_iff.1 h).1,fun k hk=>by
  rw [Nat.zero_add]
  exact y_cell h (by
   obtain rfl:k=0:=by omega
   rfl)⟩⟩
theorem ifp_lit {g g2 n:Nat} (h:ifp (some ⟨g2,0,none⟩) n g):g=g2:=by
 obtain ⟨_,o,e⟩:=h
 cases e;rfl
theorem fail_keep {K:Nat} {V:VltN} {e:Int} (z:Int) (hi:InvV K V) (he:EraV V e):InvV K (zac V z)∧EraV (zac V z) e:=⟨hi,he⟩
theorem isN_eq (nm:ByteArray) {r:RecN} (h:r.s=nm):isN nm (some r)=true:=decide_eq_true (by rw [h])
end
section
open Go.Shelf
section
variable {G:Option Nat} {w0 w w':World} {R:List (Nat×Res)} {gq:Nat} {c:Nat→CelN} {s n:Nat→Value}
theorem Mx.newCells (M:Mx G w0 w R) (hb:Below w.heap.size w w') (kg kr:Nat) (hq:CelsAt w' w.heap.size gq c s n):Mx G w0 w' ((kr,zua 0 18 c s n)::(kg,blkO gq 63 (celA c s n))::R):=by
 have M1:Mx G w0 w' ((kg,blkO gq 63 (celA c s n))::R):=(M.step hb).cons kg _ hq.1 blkO_dep (fun b hb=>by cases hb;exact z4a hq.1) (fun e=>by cases e) fun k r e hkk hw b h h2=>by
  rcases hw with hw | hw
  ·cases hw
  have h3:=M.lt k r e b h2
  have h4:b=gq:=h
  have:=hq.2.1
  omega
 refine M1.cons kr _ (fun j hj=>⟨(hq.2.2.1 j hj).1,(hq.2.2.1 j hj).2.1,fun _ _=>Nat.zero_le _⟩) rows_dep (fun b ⟨j,hj,h⟩=>?_) (fun e=>by cases e) fun k r e hkk hw b h h2=>?_
 ·rcases h with h | h
  ·exact (hq.2.2.1 j hj).1.lt h
  ·exact (hq.2.2.1 j hj).2.1.lt h
 ·rcases hw with hw | hw
  ·cases hw
  rw [zx] at e
  split at e
  ·cases e;cases hw
  ·obtain ⟨j,hj,hh⟩:=h
   have h3:=M.lt k r e b h2
   have:=(hq.2.2.1 j hj).2.2 b hh
   omega
variable {N i j:Nat} {B:Nat} {l:List UInt8} {v:Value}
end
/-! One cell is fresh. -/
theorem setCK_one {c:Nat→CelN} {p:Nat} (hf:(c p).f=true) (ho:∀ i,i≠p→(c i).f=false) (x:Nat→Int) {m:Nat} (hm:0<m):∀ j,setK c m j=(if p<j then 1 else 0)∧setC c x m j=if p<j then putC c p (tornC (c p) (tornN (x 0) (c p).n.length)) else c
 | 0=>⟨rfl,rfl⟩
 | j+1=>by
  obtain ⟨h1,h2⟩:=setCK_one hf ho x hm j
  by_cases e:j=p
  ·subst e
   rw [if_neg (Nat.lt_irrefl _)] at h1 h2
   rw [if_pos (Nat.lt_succ_self _),if_pos (Nat.lt_succ_self _),setK_in hf (by omega),setC_in hf (by omega),h1,h2]
   exact ⟨rfl,rfl⟩
  ·rw [setK_no (ho j e),setC_no (ho j e),h1,h2]
   by_cases h:p<j
   ·rw [if_pos h,if_pos h,if_pos (by omega),if_pos (by omega)];exact ⟨rfl,rfl⟩
   ·rw [if_neg h,if_neg h,if_neg (by omega),if_neg (by omega)];exact ⟨rfl,rfl⟩
theorem age_low {V:VltN} {i:Nat} (hi:i<16):(ageW V).c i=V.c i:=by
 have hp:=nxtP_in V 16
 unfold ageW
 exact (sayW_c V 16 _).1 i (by omega)
theorem sayW_unf {V:VltN} {q:Nat} {l:List UInt8} (hf:V.fl=false) (h:∀ i,(V.c i).f=false):∀ i,((sayW V q l).1.c i).f=false:=fun i=>by
 by_cases e:i=nxtP V q
 ·subst e;rw [(zcd q l hf).2.2.2]
 ·rw [(sayW_c V q l).1 i e];exact h i
def m1 (r:RecN):Nat→Option RecN:=updO (fun _=>none) 0 (some r)
end
structure HasX (w:World) (gx gc:Nat) (V:VltN) (L:Int) (s n:Nat→Value):Prop where
 hx:w.heap[gx]? = some (.cells #[.slice (some ⟨gc,0,none⟩) 18 18,zI L,.bool V.dd] 72 (0,0))
 hc:w.heap[gc]? = some (.cells (celA V.c s n) 63 (0,0))
 hs:∀ i,i<18→IsB w (V.c i).s (s i)
 hn:∀ i,i<18→IsB w (V.c i).n (n i)
theorem HasX.step {w w':World} {gx gc:Nat} {V:VltN} {L:Int} {s n:Nat→Value} (h:HasX w gx gc V L s n) (hb:Below w.heap.size w w'):HasX w' gx gc V L s n:=
 ⟨(hb.block gx (z4a h.hx)).trans h.hx,(hb.block gc (z4a h.hc)).trans h.hc,fun i hi=>(h.hs i hi).step hb,fun i hi=>(h.hn i hi).step hb⟩
def cntR (V:VltN) (q:Nat):Nat→Int×Int×List UInt8
 | 0=>(-1,0,[])
 | k+1=>if (zbb zo (q+k) (V.c (q+k)).s&&(decide ((cntR V q k).1<0)||decide ((cntR V q k).2.1<entT (V.c (q+k)).s)))=true then (((q+k:Nat):Int),entT (V.c (q+k)).s,entS (V.c (q+k)).s) else cntR V q k
theorem cntR_no {V:VltN} {q k:Nat} (h:zbb zo (q+k) (V.c (q+k)).s=false):cntR V q (k+1)=cntR V q k:=by
 unfold cntR;rw [h,Bool.false_and,if_neg (by decide)];cases k <;> rfl
theorem cntR_in {V:VltN} {q k:Nat} {a t:Int} {l:List UInt8} (e:cntR V q k=(a,t,l)) (h:zbb zo (q+k) (V.c (q+k)).s=true) (h2:a<0∨t<entT (V.c (q+k)).s):cntR V q (k+1)=(((q+k:Nat):Int),entT (V.c (q+k)).s,entS (V.c (q+k)).s):=by
 show (if _ then _ else _)=_
 rw [e,h,if_pos (by rcases h2 with h2 | h2 <;> simp [h2])]
theorem cntR_out {V:VltN} {q k:Nat} {a t:Int} {l:List UInt8} (e:cntR V q k=(a,t,l)) (h1:¬a<0) (h2:¬t<entT (V.c (q+k)).s):cntR V q (k+1)=(a,t,l):=by
 show (if _ then _ else cntR V q k)=_
 rw [e,if_neg (by simp [h1,h2])]
theorem cntR_2 (V:VltN) (q:Nat):cntR V q 2=if anyB zo V q=true then ((cntP V q:Int),cntT V q,cntS V q) else (-1,0,[]):=by
 obtain ⟨b1,h1⟩:∃ x,zbb zo q (V.c q).s=x:=⟨_,rfl⟩
 obtain ⟨b2,h2⟩:∃ x,zbb zo (q+1) (V.c (q+1)).s=x:=⟨_,rfl⟩
 have hs:=sec_eq h1 h2
 unfold anyB cntP cntT cntS
 rw [hs,h1]
 cases b1 with
 | false=>
  have e1:cntR V q 1=(-1,0,[]):=cntR_no (k:=0) h1
  cases b2 with
  | false=>rw [cntR_no (k:=1) h2,e1];rfl
  | true=>rw [cntR_in (k:=1) e1 h2 (.inl (by decide))];simp [entP,zvc h2]
 | true=>
  have e1:cntR V q 1=((q:Int),entT (V.c q).s,entS (V.c q).s):=cntR_in (k:=0) rfl h1 (.inl (by decide))
  cases b2 with
  | false=>rw [cntR_no (k:=1) h2,e1];simp [entP,zvc h1]
  | true=>
   by_cases hl:entT (V.c q).s<entT (V.c (q+1)).s
   ·rw [cntR_in (k:=1) e1 h2 (.inr hl)];simp [entP,zvc h2,hl]
   ·rw [cntR_out (k:=1) e1 (by omega) hl];simp [entP,zvc h1,hl]
theorem rgood_is {K:Nat} (p:Nat) (hp:p<18) (b:List UInt8) (bv:Value) (hK:CellOk K b) (x:Bool) (hx:zbb zo p b=x) (w:World) (hB:IsB w b bv):Calls Tryz.prog 92 #[zI (p:Int),bv] w fun e w'=>∃ t,e=.returned t∧∃ n S L,t=.tuple #[zI n,S,.bool x]∧IsB w L S∧(∀ g,bfp S g→bfp bv g)∧(x=true→n=entT b∧L=entS b)∧Below w.heap.size w w':=by
 subst hx;exact (rgood_any p hp b bv hK w hB).mono fun e w' ⟨n,S,L,h1,h2⟩=>⟨_,h1,n,S,L,rfl,h2⟩
theorem rcountsR_any {K:Nat} (gx gc:Nat) (V:VltN) (L:Int) (s n:Nat→Value) (hi:InvV K V) (p:Nat) (hp:p<9) (w:World) (h:HasX w gx gc V L s n):
  Calls Tryz.prog 62 #[(zO gx),zI (p:Int)] w fun e w'=>∃ S,e=.returned (.tuple #[zI (cntR V (2*p) 2).1,zI (cntR V (2*p) 2).2.1,S])∧IsB w (cntR V (2*p) 2).2.2 S∧Below w.heap.size w w':=by
 refine zj (args:=[(zO gx),zI (p:Int)]) 53 Tryz.func62 rfl rfl rfl ?_
 intro fa F
 have M:=Mx.start w
 replace M:=M.argO 0 h.hx (fun b e=>by cases e)
 replace M:=M.argO 1 h.hc (fun b e=>by cases e)
 refine zT fun _ hK1=>rm rfl F fun _ F2=>rm rfl F2 fun _ F3=>rm rfl F3 fun _ F4=>hK1 _ _ (zT fun _ hK5=>rm rfl F4 fun _ F6=>rm rfl F6 fun _ F7=>hK5 _ _ (zT fun _ hK8=>rm rfl F7 fun _ F9=>hK8 _ _ (zSk fun _ hK10=>zT fun _ hK11=>rm rfl F9 fun _ F12=>zc (w':=w) rfl rfl F12 rfl (zI ((2*p+0:Nat):Int)) (y_mulI _ _ _ _ rfl rfl (F12 14 rfl) (by omega) (by omega)) fun _ F13=>?_)))
 refine rm rfl F13 fun _ F14=>hK11 _ _ (wp_block ?_)
 refine znb (α:=Nat×Int×Int×List UInt8×Value) (n:=53) (G:=none) (w0:=w) (fun x=>[(0,(zO gx)),(1,zI (p:Int)),(4,zI 0),(5,zI 0),(6,zN),(14,zI (p:Int)),(15,zI ((2*p+0:Nat):Int)),(10,zI ((2*p+x.1:Nat):Int)),(7,zI x.2.1),(8,zI x.2.2.1),(9,x.2.2.2.2)]) (fun x=>[(0,blkO gx 72 (#[.slice (some ⟨gc,0,none⟩) 18 18,zI L,.bool V.dd])),(1,blkO gc 63 (celA V.c s n))]) (fun k x=>k=(2-x.1)∧(x.1≤2∧cntR V (2*p) x.1=(x.2.1,x.2.2.1,x.2.2.2.1)∧IsB w x.2.2.2.1 x.2.2.2.2)) _ ⟨0,(-1),0,[],(zN)⟩ ⟨rfl,⟨Nat.zero_le _,rfl,zka _⟩⟩ (F14.sb) (M.sb) ?_
 rintro k15 ⟨jn,av,tv,lv,sv⟩ a15 w15 K15 ⟨ek15,I15⟩ F15 M15 hK15
 replace F15:Fx 53 a15 [(0,(zO gx)),(1,zI (p:Int)),(4,zI 0),(5,zI 0),(6,zN),(14,zI (p:Int)),(15,zI ((2*p+0:Nat):Int)),(10,zI ((2*p+jn:Nat):Int)),(7,zI av),(8,zI tv),(9,sv)]:=F15
 replace M15:Mx _ _ w15 [(0,blkO gx 72 (#[.slice (some ⟨gc,0,none⟩) 18 18,zI L,.bool V.dd])),(1,blkO gc 63 (celA V.c s n))]:=M15
 replace I15:jn≤2∧cntR V (2*p) jn=(av,tv,lv)∧IsB w lv sv:=I15
 replace ek15:k15=(2-jn):=ek15
 obtain ⟨hj,hcR,hsv⟩:=I15
 by_cases h2:jn<2
 ·have hlt:2*p+jn<18:=by omega
  obtain ⟨bg,hbg⟩:∃ x,zbb zo (2*p+jn) (V.c (2*p+jn)).s=x:=⟨_,rfl⟩
  refine zSk fun _ hK16=>zT fun _ hK17=>rm rfl F15 fun _ F18=>rm rfl F18 fun _ F19=>zc (w':=w15) rfl rfl F19 rfl (zI ((2*p+0:Nat):Int)) (y_mulI _ _ _ _ rfl rfl (F19 17 rfl) (by omega) (by omega)) fun _ F20=>?_
  refine zc (w':=w15) rfl rfl F20 rfl (zI ((2*p+2:Nat):Int)) (zja _ _ _ _ rfl (F20 18 rfl) rfl (by omega) (by omega)) fun _ F21=>?_
  refine zc (w':=w15) rfl rfl F21 rfl (.bool true) (zha _ _ _ _ rfl (F21 16 rfl) (F21 19 rfl) (decide_eq_true (show ((2*p+jn:Nat):Int)<((2*p+2:Nat):Int) by omega))) fun _ F22=>?_
  refine hK17 _ _ (wp_cond_true (F22 20 rfl) (wp_skip (hK16 _ _ (zSk fun _ hK23=>wp_block (zT fun _ hK24=>zAx 6 [(24,zI ((2*p+jn:Nat):Int)),(25,(zO gx)),(26,(zO gx)),(27,(zO gx)),(28,.slice (some ⟨gc,0,none⟩) 18 18),(29,zI ((2*p+jn:Nat):Int))] [0] (zw (M15.roB (k:=0) rfl) dnil) [gx] F22 fun _ F25=>?_)))))
  refine zc (w':=w15) rfl rfl F25 rfl (zP gc (3*(2*p+jn))) (zjc 49 (s:=3) Tryz.underlying49 (by kernel_rfl) _ _ rfl (F25 28 rfl) (F25 29 rfl) rfl hlt (by omega)) fun _ F26=>?_
  refine zc (w':=w15) rfl rfl F26 rfl (zP gc (3*(2*p+jn)+0)) (y_fa (off:=0) rfl (F26 30 rfl) (by kernel_rfl) rfl) fun _ F27=>?_
  refine zc (w':=w15) rfl rfl F27 rfl ((s (2*p+jn))) (zda _ _ rfl (F27 31 rfl) (M15.roB (k:=1) rfl) (cel_s V.c s n hlt) Tryz.underlying23 rfl) fun _ F28=>?_
  refine zf rfl rfl F28 rfl rfl (zE Tryz.func92 rfl) #[zI ((2*p+jn:Nat):Int),(s (2*p+jn))] (zea (F28 24 rfl) (F28 32 rfl)) (rgood_is (2*p+jn) hlt (V.c (2*p+jn)).s ((s (2*p+jn))) (hi _).1 bg hbg w15 ((h.hs (2*p+jn) hlt).step M15.below)) ?_
  rintro _ w29 a29 ⟨n29,S29,L29,rfl,hS29,hf29,hg29,b29⟩ F29
  have hS29:=hS29.back M15.below (fun g hg=>(h.hs _ hlt).lt (hf29 g hg))
  have M29:=M15.step b29
  refine zAx 7 [(23,.tuple #[zI n29,S29,.bool bg]),(34,zI n29),(35,S29),(36,.bool bg),(11,zI n29),(12,S29),(13,.bool bg)] [] dnil [] F29 fun _ F30=>?_
  refine hK24 _ _ (zT fun _ hK31=>rm rfl F30 fun _ F32=>rm rfl F32 fun _ F33=>?_)
  cases bg
  ·refine zAx 8 [(39,undef),(40,undef),(41,undef),(42,undef),(43,undef),(44,undef),(45,undef),(46,.bool false)] [] dnil [] F33 fun _ F34=>?_
   refine hK31 _ _ (wp_cond_false (F34 46 rfl) (wp_skip (hK23 _ _ (zR (rm rfl F34 fun _ F35=>zc (w':=w29) rfl rfl F35 rfl (zI ((2*p+(jn+1):Nat):Int)) (zja _ _ _ _ rfl (F35 21 rfl) rfl (by omega) (by omega)) fun _ F36=>?_)))))
   refine rm rfl F36 fun _ F37=>?_
   subst ek15
   exact hK15 _ ⟨(jn+1),av,tv,lv,sv⟩ _ _ (by omega) ⟨rfl,⟨by omega,(by rw [cntR_no hbg];exact hcR),hsv⟩⟩ (F37.sb) (M29.sb)
  ·refine rm rfl F33 fun _ F38=>?_
   by_cases h39:av<0
   ·refine zc (w':=w29) (zd rfl rfl rfl (F38 38 rfl)) rfl F38 rfl (.bool true) (zha _ _ _ _ rfl (F38 39 rfl) rfl (decide_eq_true h39)) fun _ F40=>?_
    refine zAx 6 [(41,.bool true),(42,undef),(43,undef),(44,undef),(45,.bool true),(46,.bool true)] [] dnil [] F40 fun _ F41=>?_
    refine hK31 _ _ (wp_cond_true (F41 46 rfl) (zR (zAx 6 [(7,zI ((2*p+jn:Nat):Int)),(8,zI n29),(9,S29),(47,zI ((2*p+jn:Nat):Int)),(48,zI n29),(49,S29)] [] dnil [] F41 fun _ F42=>?_)))
    refine hK23 _ _ (zR (rm rfl F42 fun _ F43=>zc (w':=w29) rfl rfl F43 rfl (zI ((2*p+(jn+1):Nat):Int)) (zja _ _ _ _ rfl (F43 21 rfl) rfl (by omega) (by omega)) fun _ F44=>?_))
    refine rm rfl F44 fun _ F45=>?_
    subst ek15
    exact hK15 _ ⟨(jn+1),((2*p+jn:Nat):Int),n29,L29,S29⟩ _ _ (by omega) ⟨rfl,⟨by omega,(by rw [cntR_in hcR hbg (.inl h39),←(hg29 rfl).1,←(hg29 rfl).2]),hS29⟩⟩ (F45.sb) (M29.sb)
   ·refine zc (w':=w29) (zd rfl rfl rfl (F38 38 rfl)) rfl F38 rfl (.bool false) (zha _ _ _ _ rfl (F38 39 rfl) rfl (decide_eq_false h39)) fun _ F46=>?_
    refine rm rfl F46 fun _ F47=>rm rfl F47 fun _ F48=>rm rfl F48 fun _ F49=>?_
    by_cases h50:tv<n29
    ·refine zc (w':=w29) (zd rfl rfl rfl (F49 41 rfl)) rfl F49 rfl (.bool true) (zzb _ _ _ _ rfl (F49 42 rfl) (F49 43 rfl) (decide_eq_true h50)) fun _ F51=>?_
     refine zAx 2 [(45,.bool true),(46,.bool true)] [] dnil [] F51 fun _ F52=>?_
     refine hK31 _ _ (wp_cond_true (F52 46 rfl) (zR (zAx 6 [(7,zI ((2*p+jn:Nat):Int)),(8,zI n29),(9,S29),(47,zI ((2*p+jn:Nat):Int)),(48,zI n29),(49,S29)] [] dnil [] F52 fun _ F53=>?_)))
     refine hK23 _ _ (zR (rm rfl F53 fun _ F54=>zc (w':=w29) rfl rfl F54 rfl (zI ((2*p+(jn+1):Nat):Int)) (zja _ _ _ _ rfl (F54 21 rfl) rfl (by omega) (by omega)) fun _ F55=>?_))
     refine rm rfl F55 fun _ F56=>?_
     subst ek15
     exact hK15 _ ⟨(jn+1),((2*p+jn:Nat):Int),n29,L29,S29⟩ _ _ (by omega) ⟨rfl,⟨by omega,(by rw [cntR_in hcR hbg (.inr (by rw [←(hg29 rfl).1];exact h50)),←(hg29 rfl).1,←(hg29 rfl).2]),hS29⟩⟩ (F56.sb) (M29.sb)
    ·refine zc (w':=w29) (zd rfl rfl rfl (F49 41 rfl)) rfl F49 rfl (.bool false) (zzb _ _ _ _ rfl (F49 42 rfl) (F49 43 rfl) (decide_eq_false h50)) fun _ F57=>?_
     refine zAx 2 [(45,.bool false),(46,.bool false)] [] dnil [] F57 fun _ F58=>?_
     refine hK31 _ _ (wp_cond_false (F58 46 rfl) (wp_skip (hK23 _ _ (zR (rm rfl F58 fun _ F59=>zc (w':=w29) rfl rfl F59 rfl (zI ((2*p+(jn+1):Nat):Int)) (zja _ _ _ _ rfl (F59 21 rfl) rfl (by omega) (by omega)) fun _ F60=>?_)))))
     refine rm rfl F60 fun _ F61=>?_
     subst ek15
     exact hK15 _ ⟨(jn+1),av,tv,lv,sv⟩ _ _ (by omega) ⟨rfl,⟨by omega,(cntR_out hcR h39 (by rw [←(hg29 rfl).1];exact h50)),hsv⟩⟩ (F61.sb) (M29.sb)
 ·have hj2:jn=2:=by omega
  have hc2:cntR V (2*p) 2=(av,tv,lv):=by rw [hj2] at hcR;exact hcR
  refine zSk fun _ hK62=>zT fun _ hK63=>rm rfl F15 fun _ F64=>rm rfl F64 fun _ F65=>zc (w':=w15) rfl rfl F65 rfl (zI ((2*p+0:Nat):Int)) (y_mulI _ _ _ _ rfl rfl (F65 17 rfl) (by omega) (by omega)) fun _ F66=>?_
  refine zc (w':=w15) rfl rfl F66 rfl (zI ((2*p+2:Nat):Int)) (zja _ _ _ _ rfl (F66 18 rfl) rfl (by omega) (by omega)) fun _ F67=>?_
  refine zc (w':=w15) rfl rfl F67 rfl (.bool false) (zha _ _ _ _ rfl (F67 16 rfl) (F67 19 rfl) (decide_eq_false (show ¬((2*p+jn:Nat):Int)<((2*p+2:Nat):Int) by omega))) fun _ F68=>?_
  refine hK63 _ _ (wp_cond_false (F68 20 rfl) (wp_exit ?_))
  simp only [Exit.then,Exit.inBlock,↓reduceIte,Nat.reduceEqDiff]
  refine hK10 _ _ (zT fun _ hK69=>zAx 6 [(4,zI av),(5,zI tv),(6,sv),(50,zI av),(51,zI tv),(52,sv)] [] dnil [] F68 fun _ F70=>?_)
  exact hK69 _ _ (wp_ret (bodyPost_ret (res3 rfl (F70.get rfl) (F70.get rfl) (F70.get rfl)) F70.defers ⟨sv,(by rw [hc2]),(by rw [hc2];exact hsv),M15.below⟩))
structure CelsM (w:World) (g:Nat) (c:Nat→CelN) (s n:Nat→Value):Prop where
 blk:w.heap[g]? = some (.cells (celA c s n) 63 (0,0))
 hs:∀ i,i<18→IsB w (c i).s (s i)
 hn:∀ i,i<18→IsB w (c i).n (n i)
def GoodT (i:Nat) (b:List UInt8):Prop:=∃ x8:UInt8,b[8]? = some x8∧b.length=25+x8.toNat∧sumY (outF (macW [] [cellB,zr (i:Int),b.take (b.length-16)]))=b.drop (b.length-16)
def cutN (tx:Nat→Int) (m n:Nat):Nat:=if 0<m then tornN (tx 0) n else 0
def OkT (p:Nat) (c:CelN) (tx:Nat→Int) (m:Nat):Prop:=c.n.take (cutN tx m c.n.length)++c.s.drop (cutN tx m c.n.length)=c.n∨c.n.take (cutN tx m c.n.length)++c.s.drop (cutN tx m c.n.length)=c.s∨¬GoodT p (c.n.take (cutN tx m c.n.length)++c.s.drop (cutN tx m c.n.length))
theorem okT_of {p:Nat} {c:CelN} {tx:Nat→Int} {m kc:Nat} {nl sl bl:List UInt8} (h1:c.n=nl) (h2:c.s=sl) (hk:kc=cutN tx m nl.length) (hb:bl=nl.take kc++sl.drop kc) (h:bl=nl∨bl=sl∨¬GoodT p bl):OkT p c tx m:=by
 subst h1 h2 hk hb;exact h
theorem clash_any (ga p:Nat) (hp:p<18) (c:Nat→CelN) (sq nq:Nat→Value) (hone:∀ i,i≠p→(c i).f=false) (hlen:∀ i,i<18→(c i).s.length≤1000∧(c i).n.length≤1000) (A0:Option Addr) (m c0:Nat) (tx:Nat→Int) (hmb:m≤1000) (w:World) (h1:CelsM w ga c sq nq) (hT:RdI w A0 m tx):
  Calls Tryz.prog 29 #[.slice (some ⟨ga,0,none⟩) 18 18,.slice A0 m c0] w fun e w'=>∃ t,e=.returned t∧∃ q,t=.bool q∧(q=false→(c p).f=true→OkT p (c p) tx m)∧Below w.heap.size w w':=by
 refine zj (args:=[.slice (some ⟨ga,0,none⟩) 18 18,.slice A0 m c0]) 122 Tryz.func29 rfl rfl rfl ?_
 intro fa F
 have M:=Mx.start w
 replace M:=M.argO 0 h1.blk (fun b e=>by cases e)
 refine zT fun _ hK1=>?_
 refine rm rfl F fun _ F2=>hK1 _ _ (zT fun _ hK3=>rm rfl F2 fun _ F4=>hK3 _ _ (zSk fun _ hK5=>zT fun _ hK6=>rm rfl F4 fun _ F7=>hK6 _ _ (wp_block (znb (α:=Nat×Int) (n:=122) (G:=none) (w0:=w) (fun x=>[(0,.slice (some ⟨ga,0,none⟩) 18 18),(1,.slice A0 m c0),(6,zI (x.1:Int)),(5,zI x.2)]) (fun x=>[(0,blkO ga 63 (celA c sq nq))]) (fun k x=>k=(18-x.1)∧(x.1≤18∧(x.1≤p→x.2=0)∧(p<x.1→(c p).f=true→OkT p (c p) tx m))) _ ⟨0,0⟩ ⟨rfl,⟨Nat.zero_le _,fun _=>rfl,fun h=>absurd h (Nat.not_lt_zero p)⟩⟩ (F7.sb) (M.sb) ?_))))
 rintro k8 ⟨jn,kn⟩ a8 w8 K8 ⟨ek8,I8⟩ F8 M8 hK8
 replace F8:Fx 122 a8 [(0,.slice (some ⟨ga,0,none⟩) 18 18),(1,.slice A0 m c0),(6,zI (jn:Int)),(5,zI kn)]:=F8
 replace M8:Mx _ _ w8 [(0,blkO ga 63 (celA c sq nq))]:=M8
 replace I8:jn≤18∧(jn≤p→kn=0)∧(p<jn→(c p).f=true→OkT p (c p) tx m):=I8
 replace ek8:k8=(18-jn):=ek8
 obtain ⟨hj,hk0,hok⟩:=I8
 by_cases hlt:jn<18
 ·obtain ⟨fj,hfj⟩:∃ b,(c jn).f=b:=⟨_,rfl⟩
  refine zSk fun _ hK9=>zT fun _ hK10=>rm rfl F8 fun _ F11=>rm rfl F11 fun _ F12=>zc (w':=w8) rfl rfl F12 rfl (zI 18) (y_lnG 49 Tryz.underlying49 _ rfl (F12 11 rfl) rfl) fun _ F13=>?_
  refine zc (w':=w8) rfl rfl F13 rfl (.bool true) (zha _ _ _ _ rfl (F13 10 rfl) (F13 12 rfl) (decide_eq_true (show (jn:Int)<18 by omega))) fun _ F14=>?_
  refine hK10 _ _ (wp_cond_true (F14 13 rfl) (wp_skip (hK9 _ _ (zSk fun _ hK15=>wp_block (zSk fun _ hK16=>zT fun _ hK17=>rm rfl F14 fun _ F18=>rm rfl F18 fun _ F19=>zc (w':=w8) rfl rfl F19 rfl (zP ga (3*jn)) (zjc 49 (s:=3) Tryz.underlying49 (by kernel_rfl) _ _ rfl (F19 16 rfl) (F19 17 rfl) rfl hlt ((Nat.zero_add _).trans (Nat.mul_comm jn 3))) fun _ F20=>?_)))))
  refine zc (w':=w8) rfl rfl F20 rfl (zP ga (3*jn+2)) (y_fa (off:=2) rfl (F20 18 rfl) (by kernel_rfl) rfl) fun _ F21=>?_
  refine zc (w':=w8) rfl rfl F21 rfl (.bool fj) (zda _ _ rfl (F21 19 rfl) (M8.roB (k:=0) rfl) (hfj▸cel_f c sq nq hlt) Tryz.underlying4 rfl) fun _ F22=>?_
  cases fj
  ·refine zc (w':=w8) rfl rfl F22 rfl (.bool true) (zib _ _ rfl (F22 20 rfl)) fun _ F23=>?_
   refine hK17 _ _ (wp_cond_true (F23 21 rfl) (wp_exit ?_))
   simp only [Exit.then,Exit.inBlock,↓reduceIte,Nat.reduceEqDiff]
   refine hK15 _ _ (zR (rm rfl F23 fun _ F24=>zc (w':=w8) rfl rfl F24 rfl (zI ((jn+1:Nat):Int)) (zja _ _ _ _ rfl (F24 14 rfl) rfl (by omega) (by omega)) fun _ F25=>?_))
   refine rm rfl F25 fun _ F26=>?_
   subst ek8
   exact hK8 _ ⟨(jn+1),kn⟩ _ _ (by omega) ⟨rfl,⟨by omega,fun h=>hk0 (by omega),fun h hf=>by
    by_cases e:p=jn
    ·subst e;exact absurd (hfj.symm.trans hf) Bool.false_ne_true
    ·exact hok (by omega) hf⟩⟩ (F26.sb) (M8.sb)
  ·have hjp:jn=p:=by
    by_cases e:jn=p
    ·exact e
    ·exact absurd ((hone jn e).symm.trans hfj) Bool.false_ne_true
   obtain rfl:kn=0:=hk0 (by omega)
   obtain ⟨nl,hnl⟩:∃ l,(c jn).n=l:=⟨_,rfl⟩
   obtain ⟨sl,hsl⟩:∃ l,(c jn).s=l:=⟨_,rfl⟩
   have hln:=hlen jn hlt
   rw [hnl,hsl] at hln
   have M27:=(M8.argB 50 (hnl▸h1.hn jn hlt) (fun g e=>by cases e)).argB 51 (hsl▸h1.hs jn hlt) (fun g e=>by cases e)
   refine zc (w':=w8) rfl rfl F22 rfl (.bool false) (zib _ _ rfl (F22 20 rfl)) fun _ F28=>?_
   refine hK17 _ _ (wp_cond_false (F28 21 rfl) (wp_skip (hK16 _ _ (zT fun _ hK29=>rm rfl F28 fun _ F30=>hK29 _ _ (zSk fun K31 hK31=>?_)))))
   have J31:∀ (kc:Nat) (aJ:Act) (wJ:World),(kc=cutN tx m nl.length∧kc≤nl.length)→Fx 122 aJ [(0,.slice (some ⟨ga,0,none⟩) 18 18),(1,.slice A0 m c0),(5,zI 0),(6,zI (jn:Int)),(7,zI (kc:Int))]→Mx none w wJ [(51,bytR sl (sq jn)),(50,bytR nl (nq jn)),(0,blkO ga 63 (celA c sq nq))]→K31 aJ wJ:=by
    intro kc a31 w31 I31 F31 M31
    refine hK31 _ _ ?_
    obtain ⟨hkc,hkl⟩:=I31
    refine zT fun _ hK32=>rm rfl F31 fun _ F33=>zc (w':=w31) rfl rfl F33 rfl (zI 1) (zja _ _ _ _ rfl (F33 38 rfl) rfl rfl (by omega)) fun _ F34=>?_
    refine rm rfl F34 fun _ F35=>hK32 _ _ (zT fun _ hK36=>zqa rfl rfl F35 rfl (run_lit0 M31 60 rfl) ?_)
    intro v37 a37 w37 F37 M37
    obtain ⟨A37,c37,rfl⟩:=(M37.isO (k:=60) rfl).shape
    refine rm rfl F37 fun _ F38=>rm rfl F38 fun _ F39=>zc (w':=w37) rfl rfl F39 rfl (zP ga (3*jn)) (zjc 49 (s:=3) Tryz.underlying49 (by kernel_rfl) _ _ rfl (F39 41 rfl) (F39 42 rfl) rfl hlt ((Nat.zero_add _).trans (Nat.mul_comm jn 3))) fun _ F40=>?_
    refine zc (w':=w37) rfl rfl F40 rfl (zP ga (3*jn+1)) (y_fa (off:=1) rfl (F40 43 rfl) (by kernel_rfl) rfl) fun _ F41=>?_
    refine zc (w':=w37) rfl rfl F41 rfl ((nq jn)) (zda _ _ rfl (F41 44 rfl) (M37.roB (k:=0) rfl) (cel_n c sq nq hlt) Tryz.underlying23 rfl) fun _ F42=>?_
    refine rm rfl F42 fun _ F43=>zhc rfl rfl F43 rfl (y_slTo _ _ rfl (F43 45 rfl) (M37.isb (k:=50) rfl) (F43 46 rfl) (j:=kc) rfl (by omega)) ?_
    intro v44 a44 h44 F44
    have M44:=M37.partB 61 (k:=50) rfl h44.1 h44.2
    obtain ⟨A44,c44,rfl⟩:=(M44.isb (k:=61) rfl).shape
    refine zqa rfl rfl F44 rfl (zeb M44 (k:=60) rfl _ _ rfl (F44 40 rfl) (F44 47 rfl) (M44.isb (k:=61) rfl) (by simp only [List.length_append,List.length_nil,List.length_take,List.length_drop];omega)) ?_
    intro v45 a45 w45 F45 M45
    obtain ⟨A45,c45,rfl⟩:=(M45.isO (k:=60) rfl).shape
    refine rm rfl F45 fun _ F46=>hK36 _ _ (zSk fun K47 hK47=>?_)
    have J47:∀ (bl:(List UInt8)) (bv:Value) (aJ:Act) (wJ:World),(bl=nl.take kc++sl.drop kc)→Fx 122 aJ [(0,.slice (some ⟨ga,0,none⟩) 18 18),(1,.slice A0 m c0),(5,zI 1),(6,zI (jn:Int)),(7,zI (kc:Int)),(8,bv)]→Mx none w wJ [(51,bytR sl (sq jn)),(50,bytR nl (nq jn)),(0,blkO ga 63 (celA c sq nq)),(60,ownR bl bv),(61,bytR (nl.take kc) (.slice A44 ((nl.take kc)).length c44))]→K47 aJ wJ:=by
     intro bl bv a47 w47 I47 F47 M47
     refine hK47 _ _ ?_
     have hbl:=I47
     have hbll:bl.length≤2000:=by rw [hbl,List.length_append,List.length_take,List.length_drop];omega
     obtain ⟨q1_,hq1_⟩:∃ q,decide (bl=nl)=q:=⟨_,rfl⟩
     obtain ⟨q2_,hq2_⟩:∃ q,decide (bl=sl)=q:=⟨_,rfl⟩
     refine zSk fun _ hK48=>zSk fun _ hK49=>?_
     cases q1_
     ·cases q2_
      ·by_cases h50:(bl.length:Int)<25
       ·refine zva F47 (SK [.inl (bv),.inl (.string (⟨(bl).toArray⟩)),.inl (.slice (some ⟨ga,0,none⟩) 18 18),.inl (zI (jn:Int)),.inl (zP ga (3*jn)),.inl (zP ga (3*jn+1)),.inl ((nq jn)),.inl (.string (⟨(nl).toArray⟩)),.inl (.bool false),.inl (.bool false),.inl (bv),.inl (.string (⟨(bl).toArray⟩)),.inl (.slice (some ⟨ga,0,none⟩) 18 18),.inl (zI (jn:Int)),.inl (zP ga (3*jn)),.inl (zP ga (3*jn+0)),.inl ((sq jn)),.inl (.string (⟨(sl).toArray⟩)),.inl (.bool false),.inl (.bool false),.inl (.bool false),.inl (bv),.inl (zI (bl.length:Int)),.inl (.bool true),.inl (.bool true),.inl (.bool true),.inl (undef),.inl (undef),.inl (undef),.inl (undef),.inl (undef),.inl (undef),.inl (undef),.inl (undef),.inl (.bool true)]) 35 rfl (by kernel_rfl) ⟨hop0 F47,hopR F47 [(66,bv)] (v:=.string (⟨(bl).toArray⟩)) fun ua uw hb ⟨e66,_⟩=>(z8b _ rfl e66 ((M47.step hb).isO (k:=60) rfl)),hop0 F47,hop0 F47,hopR F47 [(68,.slice (some ⟨ga,0,none⟩) 18 18),(69,zI (jn:Int))] fun ua uw hb ⟨e68,e69,_⟩=>(zjc 49 (s:=3) Tryz.underlying49 (by kernel_rfl) _ _ rfl e68 e69 rfl hlt ((Nat.zero_add _).trans (Nat.mul_comm jn 3))),hopR F47 [(70,(zP ga (3*jn)))] fun ua uw hb ⟨e70,_⟩=>(y_fa (off:=1) rfl e70 (by kernel_rfl) rfl),hopR F47 [(71,(zP ga (3*jn+1)))] fun ua uw hb ⟨e71,_⟩=>(zda _ _ rfl e71 ((M47.step hb).roB (k:=0) rfl) (cel_n c sq nq hlt) Tryz.underlying23 rfl),hopR F47 [(72,(nq jn))] (v:=.string (⟨(nl).toArray⟩)) fun ua uw hb ⟨e72,_⟩=>(z8b _ rfl e72 ((M47.step hb).isb (k:=50) rfl)),hopR F47 [(67,.string (⟨(bl).toArray⟩)),(73,.string (⟨(nl).toArray⟩))] (v:=.bool false) fun ua uw hb ⟨e67,e73,_⟩=>(y_eqS _ _ _ rfl e67 e73 (str_q hq1_)),hop0 F47,hop0 F47,hopR F47 [(76,bv)] (v:=.string (⟨(bl).toArray⟩)) fun ua uw hb ⟨e76,_⟩=>(z8b _ rfl e76 ((M47.step hb).isO (k:=60) rfl)),hop0 F47,hop0 F47,hopR F47 [(78,.slice (some ⟨ga,0,none⟩) 18 18),(79,zI (jn:Int))] fun ua uw hb ⟨e78,e79,_⟩=>(zjc 49 (s:=3) Tryz.underlying49 (by kernel_rfl) _ _ rfl e78 e79 rfl hlt ((Nat.zero_add _).trans (Nat.mul_comm jn 3))),hopR F47 [(80,(zP ga (3*jn)))] fun ua uw hb ⟨e80,_⟩=>(y_fa (off:=0) rfl e80 (by kernel_rfl) rfl),hopR F47 [(81,(zP ga (3*jn+0)))] fun ua uw hb ⟨e81,_⟩=>(zda _ _ rfl e81 ((M47.step hb).roB (k:=0) rfl) (cel_s c sq nq hlt) Tryz.underlying23 rfl),hopR F47 [(82,(sq jn))] (v:=.string (⟨(sl).toArray⟩)) fun ua uw hb ⟨e82,_⟩=>(z8b _ rfl e82 ((M47.step hb).isb (k:=51) rfl)),hopR F47 [(77,.string (⟨(bl).toArray⟩)),(83,.string (⟨(sl).toArray⟩))] (v:=.bool false) fun ua uw hb ⟨e77,e83,_⟩=>(y_eqS _ _ _ rfl e77 e83 (str_q hq2_)),hop0 F47,hop0 F47,hop0 F47,hopR F47 [(87,bv)] fun ua uw hb ⟨e87,_⟩=>(z1a _ rfl e87 ((M47.step hb).isO (k:=60) rfl) rfl),hopR F47 [(88,zI (bl.length:Int))] (v:=.bool true) fun ua uw hb ⟨e88,_⟩=>(zha _ _ _ _ rfl e88 rfl (decide_eq_true h50)),hop0 F47,hop0 F47,hop0 F47,hop0 F47,hop0 F47,hop0 F47,hop0 F47,hop0 F47,hop0 F47,hop0 F47,hop0 F47,trivial⟩ ?_
        intro p52 a52 w52 b52 G52 y52
        obtain ⟨-,-,-,-,-,-,-,-,-,-,-,-,-,-,-,-,-,-,-,-,-,-,-,-,-,-,-,-,-,-,-,-,-,-,q34,-⟩:=y52
        have r34:p52 34=.bool true:=q34 (by decide)
        simp only [List.take,layV,Nat.zero_add,Nat.reduceAdd,r34] at G52
        have M52:=M47.kc b52
        clear F47 M47 r34 q34
        refine hK49 _ _ (wp_cond_true (G52 100 rfl) (wp_exit ?_))
        simp only [Exit.then,Exit.inBlock,↓reduceIte,Nat.reduceEqDiff]
        refine hK15 _ _ (zR (rm rfl G52 fun _ F53=>zc (w':=w52) rfl rfl F53 rfl (zI ((jn+1:Nat):Int)) (zja _ _ _ _ rfl (F53 14 rfl) rfl (by omega) (by omega)) fun _ F54=>?_))
        refine rm rfl F54 fun _ F55=>?_
        subst ek8
        exact hK8 _ ⟨(jn+1),1⟩ _ _ (by omega) ⟨rfl,⟨by omega,fun h=>absurd h (by omega),fun _ _=>hjp▸okT_of hnl hsl hkc hbl (.inr (.inr fun ⟨y8,_,h,_⟩=>by omega))⟩⟩ (F55.sb) (M52.sb)
       ·have hl8:8<bl.length:=by omega
        obtain ⟨x8,hx8⟩:∃ x,bl[8]? = some x:=⟨_,List.getElem?_eq_getElem hl8⟩
        have hx255:=x8.toNat_lt
        by_cases h56:(bl.length:Int)=((25+x8.toNat:Nat):Int)
        ·obtain ⟨e16,he16⟩:∃ e,bl.length-16=e:=⟨_,rfl⟩
         obtain ⟨Y,hY⟩:∃ Y,outF (macW [] [cellB,zr (jn:Int),bl.take e16])=Y:=⟨_,rfl⟩
         obtain ⟨q3_,hq3_⟩:∃ q,decide (sumY Y=bl.drop e16)=q:=⟨_,rfl⟩
         refine zva F47 (SK [.inl (bv),.inl (.string (⟨(bl).toArray⟩)),.inl (.slice (some ⟨ga,0,none⟩) 18 18),.inl (zI (jn:Int)),.inl (zP ga (3*jn)),.inl (zP ga (3*jn+1)),.inl ((nq jn)),.inl (.string (⟨(nl).toArray⟩)),.inl (.bool false),.inl (.bool false),.inl (bv),.inl (.string (⟨(bl).toArray⟩)),.inl (.slice (some ⟨ga,0,none⟩) 18 18),.inl (zI (jn:Int)),.inl (zP ga (3*jn)),.inl (zP ga (3*jn+0)),.inl ((sq jn)),.inl (.string (⟨(sl).toArray⟩)),.inl (.bool false),.inl (.bool false),.inl (.bool false),.inl (bv),.inl (zI (bl.length:Int)),.inl (.bool false),.inl (.bool false),.inl (.bool false),.inl (bv),.inl (zI (bl.length:Int)),.inl (bv),.inl ((ixV (bv) 8)),.inl (zY ((x8.toNat:Nat):Int)),.inl (zI ((x8.toNat:Nat):Int)),.inl (zI ((25+x8.toNat:Nat):Int)),.inl (.bool false),.inl (.bool false)]) 35 rfl (by kernel_rfl) ⟨hop0 F47,hopR F47 [(66,bv)] (v:=.string (⟨(bl).toArray⟩)) fun ua uw hb ⟨e66,_⟩=>(z8b _ rfl e66 ((M47.step hb).isO (k:=60) rfl)),hop0 F47,hop0 F47,hopR F47 [(68,.slice (some ⟨ga,0,none⟩) 18 18),(69,zI (jn:Int))] fun ua uw hb ⟨e68,e69,_⟩=>(zjc 49 (s:=3) Tryz.underlying49 (by kernel_rfl) _ _ rfl e68 e69 rfl hlt ((Nat.zero_add _).trans (Nat.mul_comm jn 3))),hopR F47 [(70,(zP ga (3*jn)))] fun ua uw hb ⟨e70,_⟩=>(y_fa (off:=1) rfl e70 (by kernel_rfl) rfl),hopR F47 [(71,(zP ga (3*jn+1)))] fun ua uw hb ⟨e71,_⟩=>(zda _ _ rfl e71 ((M47.step hb).roB (k:=0) rfl) (cel_n c sq nq hlt) Tryz.underlying23 rfl),hopR F47 [(72,(nq jn))] (v:=.string (⟨(nl).toArray⟩)) fun ua uw hb ⟨e72,_⟩=>(z8b _ rfl e72 ((M47.step hb).isb (k:=50) rfl)),hopR F47 [(67,.string (⟨(bl).toArray⟩)),(73,.string (⟨(nl).toArray⟩))] (v:=.bool false) fun ua uw hb ⟨e67,e73,_⟩=>(y_eqS _ _ _ rfl e67 e73 (str_q hq1_)),hop0 F47,hop0 F47,hopR F47 [(76,bv)] (v:=.string (⟨(bl).toArray⟩)) fun ua uw hb ⟨e76,_⟩=>(z8b _ rfl e76 ((M47.step hb).isO (k:=60) rfl)),hop0 F47,hop0 F47,hopR F47 [(78,.slice (some ⟨ga,0,none⟩) 18 18),(79,zI (jn:Int))] fun ua uw hb ⟨e78,e79,_⟩=>(zjc 49 (s:=3) Tryz.underlying49 (by kernel_rfl) _ _ rfl e78 e79 rfl hlt ((Nat.zero_add _).trans (Nat.mul_comm jn 3))),hopR F47 [(80,(zP ga (3*jn)))] fun ua uw hb ⟨e80,_⟩=>(y_fa (off:=0) rfl e80 (by kernel_rfl) rfl),hopR F47 [(81,(zP ga (3*jn+0)))] fun ua uw hb ⟨e81,_⟩=>(zda _ _ rfl e81 ((M47.step hb).roB (k:=0) rfl) (cel_s c sq nq hlt) Tryz.underlying23 rfl),hopR F47 [(82,(sq jn))] (v:=.string (⟨(sl).toArray⟩)) fun ua uw hb ⟨e82,_⟩=>(z8b _ rfl e82 ((M47.step hb).isb (k:=51) rfl)),hopR F47 [(77,.string (⟨(bl).toArray⟩)),(83,.string (⟨(sl).toArray⟩))] (v:=.bool false) fun ua uw hb ⟨e77,e83,_⟩=>(y_eqS _ _ _ rfl e77 e83 (str_q hq2_)),hop0 F47,hop0 F47,hop0 F47,hopR F47 [(87,bv)] fun ua uw hb ⟨e87,_⟩=>(z1a _ rfl e87 ((M47.step hb).isO (k:=60) rfl) rfl),hopR F47 [(88,zI (bl.length:Int))] (v:=.bool false) fun ua uw hb ⟨e88,_⟩=>(zha _ _ _ _ rfl e88 rfl (decide_eq_false h50)),hop0 F47,hop0 F47,hop0 F47,hopR F47 [(92,bv)] fun ua uw hb ⟨e92,_⟩=>(z1a _ rfl e92 ((M47.step hb).isO (k:=60) rfl) rfl),hop0 F47,hopR F47 [(94,bv)] fun ua uw hb ⟨e94,_⟩=>(y_ixB _ _ rfl e94 ((M47.step hb).isO (k:=60) rfl) rfl rfl (by omega)),hopR F47 [(95,(ixV (bv) 8))] fun ua uw hb ⟨e95,_⟩=>(y_ldB _ rfl e95 ((M47.step hb).isO (k:=60) rfl) hx8 rfl),hopR F47 [(96,zY ((x8.toNat:Nat):Int))] (v:=zI ((x8.toNat:Nat):Int)) fun ua uw hb ⟨e96,_⟩=>(y_cvI _ _ _ rfl e96 Tryz.underlying5 Tryz.underlying3 (byte_i64 _)),hopR F47 [(97,zI ((x8.toNat:Nat):Int))] (v:=zI ((25+x8.toNat:Nat):Int)) fun ua uw hb ⟨e97,_⟩=>(zja _ _ _ _ rfl rfl e97 (by omega) (by omega)),hopR F47 [(93,zI (bl.length:Int)),(98,zI ((25+x8.toNat:Nat):Int))] (v:=.bool false) fun ua uw hb ⟨e93,e98,_⟩=>(y_neI _ _ _ _ rfl e93 e98 Tryz.underlying3 (y_bneF h56)),hop0 F47,trivial⟩ ?_
         intro p58 a58 w58 b58 G58 y58
         obtain ⟨-,-,-,-,-,-,-,-,-,-,-,-,-,-,-,-,-,-,-,-,-,-,-,-,-,-,-,-,-,-,-,-,-,-,q34,-⟩:=y58
         have r34:p58 34=.bool false:=q34 (by decide)
         simp only [List.take,layV,Nat.zero_add,Nat.reduceAdd,r34] at G58
         have M58:=M47.kc b58
         clear F47 M47 r34 q34
         refine hK49 _ _ (wp_cond_false (G58 100 rfl) (wp_skip (hK48 _ _ (zT fun _ hK59=>rm rfl G58 fun _ F60=>rm rfl F60 fun _ F61=>zc (w':=w58) rfl rfl F61 rfl (zI (bl.length:Int)) (z1a _ rfl (F61 102 rfl) (M58.isO (k:=60) rfl) rfl) fun _ F62=>?_))))
         refine zc (w':=w58) rfl rfl F62 rfl (zI (e16:Int)) (y_subI _ _ _ _ rfl (F62 103 rfl) rfl (by omega) (by omega)) fun _ F63=>?_
         refine zhc rfl rfl F63 rfl (y_slTo _ _ rfl (F63 101 rfl) (M58.isO (k:=60) rfl) (F63 104 rfl) (j:=e16) rfl (by omega)) ?_
         intro v64 a64 h64 F64
         have og65:=M58.owns (k:=60) rfl
         have M65:=M58.tame (k:=60) rfl
         have M64:=M65.partB 62 (k:=60) rfl h64.1 h64.2
         obtain ⟨A64,c64,rfl⟩:=(M64.isb (k:=62) rfl).shape
         refine rm rfl F64 fun _ F66=>hK59 _ _ (zSk fun _ hK67=>?_)
         refine zva F66 (SK [.inr (StK.lit w58.heap.size [99,101,108,108]),.inr (StK.lit w58.heap.size [99,101,108,108]),.inl (zI (jn:Int)),.inr (StK.bytes (zr (jn:Int))),.inl (.slice A64 ((bl.take e16)).length c64),.inr (StK.parts [[99,101,108,108],(zr (jn:Int)),(bl.take e16)]),.inl (.agg (zta Y)),.inr (StK.bytes (sumY Y)),.inl (.string (⟨((sumY Y)).toArray⟩)),.inl (bv),.inl (bv),.inl (zI (bl.length:Int)),.inl (zI (e16:Int)),.inr (StK.bytes (bl.drop e16)),.inl (.string (⟨((bl.drop e16)).toArray⟩)),.inl (.bool q3_)]) 16 rfl (by kernel_rfl) ⟨?_,?_,hop0 F66,?_,hop0 F66,?_,?_,?_,?_,hop0 F66,hop0 F66,hopR F66 [(116,bv)] fun ua uw hb ⟨e116,_⟩=>(z1a _ rfl e116 ((M64.step hb).isb (k:=60) rfl) rfl),hopR F66 [(117,zI (bl.length:Int))] (v:=zI (e16:Int)) fun ua uw hb ⟨e117,_⟩=>(y_subI _ _ _ _ rfl e117 rfl (by omega) (by omega)),?_,?_,hopR F66 [(114,.string (⟨((sumY Y)).toArray⟩)),(120,.string (⟨((bl.drop e16)).toArray⟩))] (v:=.bool q3_) fun ua uw hb ⟨e114,e120,_⟩=>(y_eqS _ _ _ rfl e114 e120 (str_q hq3_)),trivial⟩ ?_
         ·intro ua uw hb hd
          exact hop_lit rfl hb.size [99,101,108,108] (by decide) (by decide) _ rfl (by simp only [List.map_toArray,List.map_cons,List.map_nil];kernel_rfl)
         ·intro ua uw hb hd
          have l106:LitB w58.heap.size uw [99,101,108,108] (ua.eval (.tmp 106)):=hd 106 (by decide)
          have e106:=l106.isB
          exact hop_convK rfl _ rfl l106
         ·intro ua uw hb hd
          have e108:ua.eval (.tmp 108)=zI (jn:Int):=hd 108 (by decide)
          exact z3b (F:=(StK.bytes (zr (jn:Int))).F) rfl hb.size rfl #[zI (jn:Int)] (zy e108) (zE Tryz.func36 rfl) ((rei_r jn (by omega) uw))
         ·intro ua uw hb hd
          have l107:LitB w58.heap.size uw [99,101,108,108] (ua.eval (.tmp 107)):=hd 107 (by decide)
          have e107:=l107.isB
          have e109:IsB uw (zr (jn:Int)) (ua.eval (.tmp 109)):=hd 109 (by decide)
          have e110:ua.eval (.tmp 110)=.slice A64 ((bl.take e16)).length c64:=hd 110 (by decide)
          exact hop_parts3 rfl hb.size (.tmp 107) (.tmp 109) (.tmp 110) rfl e107 e109 (by rw [e110];exact ((M64.step hb).isb (k:=62) rfl))
         ·intro ua uw hb hd
          have e111:IsP uw [[99,101,108,108],(zr (jn:Int)),(bl.take e16)] (ua.eval (.tmp 111)):=hd 111 (by decide)
          exact z3b (F:=(StK.eq (.agg (zta Y))).F) rfl hb.size rfl #[(ua.eval (.tmp 111))] (zy rfl) (zE Tryz.func35 rfl) (z5c ((rof3_is hY e111 (by rw [List.length_take];omega))))
         ·intro ua uw hb hd
          have e112:ua.eval (.tmp 112)=.agg (zta Y):=hd 112 (by decide)
          exact z3b (F:=(StK.bytes (sumY Y)).F) rfl hb.size rfl #[.agg (zta Y)] (zy e112) (zE Tryz.func37 rfl) ((rsb_r Y (hY▸outF_bd _) uw))
         ·intro ua uw hb hd
          have e113:IsB uw (sumY Y) (ua.eval (.tmp 113)):=hd 113 (by decide)
          exact zub (F:=(StK.eq (.string (⟨((sumY Y)).toArray⟩))).F) rfl (.string (⟨((sumY Y)).toArray⟩)) (z8b _ rfl rfl e113) rfl
         ·intro ua uw hb hd
          have e115:ua.eval (.tmp 115)=bv:=hd 115 (by decide)
          have e118:ua.eval (.tmp 118)=zI (e16:Int):=hd 118 (by decide)
          exact hop_slFrom rfl (.tmp 115) (.tmp 118) rfl (by rw [e115];exact ((M64.step hb).isb (k:=60) rfl)) e118 rfl (by omega)
         ·intro ua uw hb hd
          have e119:IsB uw (bl.drop e16) (ua.eval (.tmp 119)):=hd 119 (by decide)
          exact zub (F:=(StK.eq (.string (⟨((bl.drop e16)).toArray⟩))).F) rfl (.string (⟨((bl.drop e16)).toArray⟩)) (z8b _ rfl rfl e119) rfl
         intro p69 a69 w69 b69 G69 y69
         obtain ⟨-,-,-,-,-,-,-,-,-,-,-,-,-,-,-,q15,-⟩:=y69
         have r15:p69 15=.bool q3_:=q15 (by decide)
         simp only [List.take,layV,Nat.zero_add,Nat.reduceAdd,r15] at G69
         have M69:=M64.kc b69
         clear F66 M64 r15 q15
         refine hK67 _ _ ?_
         cases q3_
         ·refine wp_cond_false (G69 121 rfl) (wp_skip (hK15 _ _ (zR (rm rfl G69 fun _ F70=>zc (w':=w69) rfl rfl F70 rfl (zI ((jn+1:Nat):Int)) (zja _ _ _ _ rfl (F70 14 rfl) rfl (by omega) (by omega)) fun _ F71=>?_))))
          refine rm rfl F71 fun _ F72=>?_
          subst ek8
          exact hK8 _ ⟨(jn+1),1⟩ _ _ (by omega) ⟨rfl,⟨by omega,fun h=>absurd h (by omega),fun _ _=>hjp▸okT_of hnl hsl hkc hbl (.inr (.inr fun ⟨y8,_,_,h⟩=>by
           rw [he16,hY] at h
           exact of_decide_eq_false hq3_ h))⟩⟩ (F72.sb) (M69.sb)
         ·refine wp_cond_true (G69 121 rfl) (zT fun _ hK73=>rm rfl G69 fun _ F74=>hK73 _ _ (wp_ret ?_))
          try simp only [Exit.then,Exit.inBlock,Exit.jump]
          exact bodyPost_ret (res1 rfl (F74.get rfl)) F74.defers ⟨_,rfl,true,rfl,(fun h=>by cases h),M69.below⟩
        ·refine zva F47 (SK [.inl (bv),.inl (.string (⟨(bl).toArray⟩)),.inl (.slice (some ⟨ga,0,none⟩) 18 18),.inl (zI (jn:Int)),.inl (zP ga (3*jn)),.inl (zP ga (3*jn+1)),.inl ((nq jn)),.inl (.string (⟨(nl).toArray⟩)),.inl (.bool false),.inl (.bool false),.inl (bv),.inl (.string (⟨(bl).toArray⟩)),.inl (.slice (some ⟨ga,0,none⟩) 18 18),.inl (zI (jn:Int)),.inl (zP ga (3*jn)),.inl (zP ga (3*jn+0)),.inl ((sq jn)),.inl (.string (⟨(sl).toArray⟩)),.inl (.bool false),.inl (.bool false),.inl (.bool false),.inl (bv),.inl (zI (bl.length:Int)),.inl (.bool false),.inl (.bool false),.inl (.bool false),.inl (bv),.inl (zI (bl.length:Int)),.inl (bv),.inl ((ixV (bv) 8)),.inl (zY ((x8.toNat:Nat):Int)),.inl (zI ((x8.toNat:Nat):Int)),.inl (zI ((25+x8.toNat:Nat):Int)),.inl (.bool true),.inl (.bool true)]) 35 rfl (by kernel_rfl) ⟨hop0 F47,hopR F47 [(66,bv)] (v:=.string (⟨(bl).toArray⟩)) fun ua uw hb ⟨e66,_⟩=>(z8b _ rfl e66 ((M47.step hb).isO (k:=60) rfl)),hop0 F47,hop0 F47,hopR F47 [(68,.slice (some ⟨ga,0,none⟩) 18 18),(69,zI (jn:Int))] fun ua uw hb ⟨e68,e69,_⟩=>(zjc 49 (s:=3) Tryz.underlying49 (by kernel_rfl) _ _ rfl e68 e69 rfl hlt ((Nat.zero_add _).trans (Nat.mul_comm jn 3))),hopR F47 [(70,(zP ga (3*jn)))] fun ua uw hb ⟨e70,_⟩=>(y_fa (off:=1) rfl e70 (by kernel_rfl) rfl),hopR F47 [(71,(zP ga (3*jn+1)))] fun ua uw hb ⟨e71,_⟩=>(zda _ _ rfl e71 ((M47.step hb).roB (k:=0) rfl) (cel_n c sq nq hlt) Tryz.underlying23 rfl),hopR F47 [(72,(nq jn))] (v:=.string (⟨(nl).toArray⟩)) fun ua uw hb ⟨e72,_⟩=>(z8b _ rfl e72 ((M47.step hb).isb (k:=50) rfl)),hopR F47 [(67,.string (⟨(bl).toArray⟩)),(73,.string (⟨(nl).toArray⟩))] (v:=.bool false) fun ua uw hb ⟨e67,e73,_⟩=>(y_eqS _ _ _ rfl e67 e73 (str_q hq1_)),hop0 F47,hop0 F47,hopR F47 [(76,bv)] (v:=.string (⟨(bl).toArray⟩)) fun ua uw hb ⟨e76,_⟩=>(z8b _ rfl e76 ((M47.step hb).isO (k:=60) rfl)),hop0 F47,hop0 F47,hopR F47 [(78,.slice (some ⟨ga,0,none⟩) 18 18),(79,zI (jn:Int))] fun ua uw hb ⟨e78,e79,_⟩=>(zjc 49 (s:=3) Tryz.underlying49 (by kernel_rfl) _ _ rfl e78 e79 rfl hlt ((Nat.zero_add _).trans (Nat.mul_comm jn 3))),hopR F47 [(80,(zP ga (3*jn)))] fun ua uw hb ⟨e80,_⟩=>(y_fa (off:=0) rfl e80 (by kernel_rfl) rfl),hopR F47 [(81,(zP ga (3*jn+0)))] fun ua uw hb ⟨e81,_⟩=>(zda _ _ rfl e81 ((M47.step hb).roB (k:=0) rfl) (cel_s c sq nq hlt) Tryz.underlying23 rfl),hopR F47 [(82,(sq jn))] (v:=.string (⟨(sl).toArray⟩)) fun ua uw hb ⟨e82,_⟩=>(z8b _ rfl e82 ((M47.step hb).isb (k:=51) rfl)),hopR F47 [(77,.string (⟨(bl).toArray⟩)),(83,.string (⟨(sl).toArray⟩))] (v:=.bool false) fun ua uw hb ⟨e77,e83,_⟩=>(y_eqS _ _ _ rfl e77 e83 (str_q hq2_)),hop0 F47,hop0 F47,hop0 F47,hopR F47 [(87,bv)] fun ua uw hb ⟨e87,_⟩=>(z1a _ rfl e87 ((M47.step hb).isO (k:=60) rfl) rfl),hopR F47 [(88,zI (bl.length:Int))] (v:=.bool false) fun ua uw hb ⟨e88,_⟩=>(zha _ _ _ _ rfl e88 rfl (decide_eq_false h50)),hop0 F47,hop0 F47,hop0 F47,hopR F47 [(92,bv)] fun ua uw hb ⟨e92,_⟩=>(z1a _ rfl e92 ((M47.step hb).isO (k:=60) rfl) rfl),hop0 F47,hopR F47 [(94,bv)] fun ua uw hb ⟨e94,_⟩=>(y_ixB _ _ rfl e94 ((M47.step hb).isO (k:=60) rfl) rfl rfl (by omega)),hopR F47 [(95,(ixV (bv) 8))] fun ua uw hb ⟨e95,_⟩=>(y_ldB _ rfl e95 ((M47.step hb).isO (k:=60) rfl) hx8 rfl),hopR F47 [(96,zY ((x8.toNat:Nat):Int))] (v:=zI ((x8.toNat:Nat):Int)) fun ua uw hb ⟨e96,_⟩=>(y_cvI _ _ _ rfl e96 Tryz.underlying5 Tryz.underlying3 (byte_i64 _)),hopR F47 [(97,zI ((x8.toNat:Nat):Int))] (v:=zI ((25+x8.toNat:Nat):Int)) fun ua uw hb ⟨e97,_⟩=>(zja _ _ _ _ rfl rfl e97 (by omega) (by omega)),hopR F47 [(93,zI (bl.length:Int)),(98,zI ((25+x8.toNat:Nat):Int))] (v:=.bool true) fun ua uw hb ⟨e93,e98,_⟩=>(y_neI _ _ _ _ rfl e93 e98 Tryz.underlying3 (y_bneT h56)),hop0 F47,trivial⟩ ?_
         intro p76 a76 w76 b76 G76 y76
         obtain ⟨-,-,-,-,-,-,-,-,-,-,-,-,-,-,-,-,-,-,-,-,-,-,-,-,-,-,-,-,-,-,-,-,-,-,q34,-⟩:=y76
         have r34:p76 34=.bool true:=q34 (by decide)
         simp only [List.take,layV,Nat.zero_add,Nat.reduceAdd,r34] at G76
         have M76:=M47.kc b76
         clear F47 M47 r34 q34
         refine hK49 _ _ (wp_cond_true (G76 100 rfl) (wp_exit ?_))
         simp only [Exit.then,Exit.inBlock,↓reduceIte,Nat.reduceEqDiff]
         refine hK15 _ _ (zR (rm rfl G76 fun _ F77=>zc (w':=w76) rfl rfl F77 rfl (zI ((jn+1:Nat):Int)) (zja _ _ _ _ rfl (F77 14 rfl) rfl (by omega) (by omega)) fun _ F78=>?_))
         refine rm rfl F78 fun _ F79=>?_
         subst ek8
         exact hK8 _ ⟨(jn+1),1⟩ _ _ (by omega) ⟨rfl,⟨by omega,fun h=>absurd h (by omega),fun _ _=>hjp▸okT_of hnl hsl hkc hbl (.inr (.inr fun ⟨y8,h0,h,_⟩=>by
          rw [hx8] at h0
          cases h0
          omega))⟩⟩ (F79.sb) (M76.sb)
      ·refine zva F47 (SK [.inl (bv),.inl (.string (⟨(bl).toArray⟩)),.inl (.slice (some ⟨ga,0,none⟩) 18 18),.inl (zI (jn:Int)),.inl (zP ga (3*jn)),.inl (zP ga (3*jn+1)),.inl ((nq jn)),.inl (.string (⟨(nl).toArray⟩)),.inl (.bool false),.inl (.bool false),.inl (bv),.inl (.string (⟨(bl).toArray⟩)),.inl (.slice (some ⟨ga,0,none⟩) 18 18),.inl (zI (jn:Int)),.inl (zP ga (3*jn)),.inl (zP ga (3*jn+0)),.inl ((sq jn)),.inl (.string (⟨(sl).toArray⟩)),.inl (.bool true),.inl (.bool true),.inl (.bool true),.inl (undef),.inl (undef),.inl (undef),.inl (.bool true),.inl (.bool true),.inl (undef),.inl (undef),.inl (undef),.inl (undef),.inl (undef),.inl (undef),.inl (undef),.inl (undef),.inl (.bool true)]) 35 rfl (by kernel_rfl) ⟨hop0 F47,hopR F47 [(66,bv)] (v:=.string (⟨(bl).toArray⟩)) fun ua uw hb ⟨e66,_⟩=>(z8b _ rfl e66 ((M47.step hb).isO (k:=60) rfl)),hop0 F47,hop0 F47,hopR F47 [(68,.slice (some ⟨ga,0,none⟩) 18 18),(69,zI (jn:Int))] fun ua uw hb ⟨e68,e69,_⟩=>(zjc 49 (s:=3) Tryz.underlying49 (by kernel_rfl) _ _ rfl e68 e69 rfl hlt ((Nat.zero_add _).trans (Nat.mul_comm jn 3))),hopR F47 [(70,(zP ga (3*jn)))] fun ua uw hb ⟨e70,_⟩=>(y_fa (off:=1) rfl e70 (by kernel_rfl) rfl),hopR F47 [(71,(zP ga (3*jn+1)))] fun ua uw hb ⟨e71,_⟩=>(zda _ _ rfl e71 ((M47.step hb).roB (k:=0) rfl) (cel_n c sq nq hlt) Tryz.underlying23 rfl),hopR F47 [(72,(nq jn))] (v:=.string (⟨(nl).toArray⟩)) fun ua uw hb ⟨e72,_⟩=>(z8b _ rfl e72 ((M47.step hb).isb (k:=50) rfl)),hopR F47 [(67,.string (⟨(bl).toArray⟩)),(73,.string (⟨(nl).toArray⟩))] (v:=.bool false) fun ua uw hb ⟨e67,e73,_⟩=>(y_eqS _ _ _ rfl e67 e73 (str_q hq1_)),hop0 F47,hop0 F47,hopR F47 [(76,bv)] (v:=.string (⟨(bl).toArray⟩)) fun ua uw hb ⟨e76,_⟩=>(z8b _ rfl e76 ((M47.step hb).isO (k:=60) rfl)),hop0 F47,hop0 F47,hopR F47 [(78,.slice (some ⟨ga,0,none⟩) 18 18),(79,zI (jn:Int))] fun ua uw hb ⟨e78,e79,_⟩=>(zjc 49 (s:=3) Tryz.underlying49 (by kernel_rfl) _ _ rfl e78 e79 rfl hlt ((Nat.zero_add _).trans (Nat.mul_comm jn 3))),hopR F47 [(80,(zP ga (3*jn)))] fun ua uw hb ⟨e80,_⟩=>(y_fa (off:=0) rfl e80 (by kernel_rfl) rfl),hopR F47 [(81,(zP ga (3*jn+0)))] fun ua uw hb ⟨e81,_⟩=>(zda _ _ rfl e81 ((M47.step hb).roB (k:=0) rfl) (cel_s c sq nq hlt) Tryz.underlying23 rfl),hopR F47 [(82,(sq jn))] (v:=.string (⟨(sl).toArray⟩)) fun ua uw hb ⟨e82,_⟩=>(z8b _ rfl e82 ((M47.step hb).isb (k:=51) rfl)),hopR F47 [(77,.string (⟨(bl).toArray⟩)),(83,.string (⟨(sl).toArray⟩))] (v:=.bool true) fun ua uw hb ⟨e77,e83,_⟩=>(y_eqS _ _ _ rfl e77 e83 (str_q hq2_)),hop0 F47,hop0 F47,hop0 F47,hop0 F47,hop0 F47,hop0 F47,hop0 F47,hop0 F47,hop0 F47,hop0 F47,hop0 F47,hop0 F47,hop0 F47,hop0 F47,hop0 F47,hop0 F47,trivial⟩ ?_
       intro p81 a81 w81 b81 G81 y81
       obtain ⟨-,-,-,-,-,-,-,-,-,-,-,-,-,-,-,-,-,-,-,-,-,-,-,-,-,-,-,-,-,-,-,-,-,-,q34,-⟩:=y81
       have r34:p81 34=.bool true:=q34 (by decide)
       simp only [List.take,layV,Nat.zero_add,Nat.reduceAdd,r34] at G81
       have M81:=M47.kc b81
       clear F47 M47 r34 q34
       refine hK49 _ _ (wp_cond_true (G81 100 rfl) (wp_exit ?_))
       simp only [Exit.then,Exit.inBlock,↓reduceIte,Nat.reduceEqDiff]
       refine hK15 _ _ (zR (rm rfl G81 fun _ F82=>zc (w':=w81) rfl rfl F82 rfl (zI ((jn+1:Nat):Int)) (zja _ _ _ _ rfl (F82 14 rfl) rfl (by omega) (by omega)) fun _ F83=>?_))
       refine rm rfl F83 fun _ F84=>?_
       subst ek8
       exact hK8 _ ⟨(jn+1),1⟩ _ _ (by omega) ⟨rfl,⟨by omega,fun h=>absurd h (by omega),fun _ _=>hjp▸okT_of hnl hsl hkc hbl (.inr (.inl (of_decide_eq_true hq2_)))⟩⟩ (F84.sb) (M81.sb)
     ·refine zva F47 (SK [.inl (bv),.inl (.string (⟨(bl).toArray⟩)),.inl (.slice (some ⟨ga,0,none⟩) 18 18),.inl (zI (jn:Int)),.inl (zP ga (3*jn)),.inl (zP ga (3*jn+1)),.inl ((nq jn)),.inl (.string (⟨(nl).toArray⟩)),.inl (.bool true),.inl (.bool true),.inl (undef),.inl (undef),.inl (undef),.inl (undef),.inl (undef),.inl (undef),.inl (undef),.inl (undef),.inl (undef),.inl (.bool true),.inl (.bool true),.inl (undef),.inl (undef),.inl (undef),.inl (.bool true),.inl (.bool true),.inl (undef),.inl (undef),.inl (undef),.inl (undef),.inl (undef),.inl (undef),.inl (undef),.inl (undef),.inl (.bool true)]) 35 rfl (by kernel_rfl) ⟨hop0 F47,hopR F47 [(66,bv)] (v:=.string (⟨(bl).toArray⟩)) fun ua uw hb ⟨e66,_⟩=>(z8b _ rfl e66 ((M47.step hb).isO (k:=60) rfl)),hop0 F47,hop0 F47,hopR F47 [(68,.slice (some ⟨ga,0,none⟩) 18 18),(69,zI (jn:Int))] fun ua uw hb ⟨e68,e69,_⟩=>(zjc 49 (s:=3) Tryz.underlying49 (by kernel_rfl) _ _ rfl e68 e69 rfl hlt ((Nat.zero_add _).trans (Nat.mul_comm jn 3))),hopR F47 [(70,(zP ga (3*jn)))] fun ua uw hb ⟨e70,_⟩=>(y_fa (off:=1) rfl e70 (by kernel_rfl) rfl),hopR F47 [(71,(zP ga (3*jn+1)))] fun ua uw hb ⟨e71,_⟩=>(zda _ _ rfl e71 ((M47.step hb).roB (k:=0) rfl) (cel_n c sq nq hlt) Tryz.underlying23 rfl),hopR F47 [(72,(nq jn))] (v:=.string (⟨(nl).toArray⟩)) fun ua uw hb ⟨e72,_⟩=>(z8b _ rfl e72 ((M47.step hb).isb (k:=50) rfl)),hopR F47 [(67,.string (⟨(bl).toArray⟩)),(73,.string (⟨(nl).toArray⟩))] (v:=.bool true) fun ua uw hb ⟨e67,e73,_⟩=>(y_eqS _ _ _ rfl e67 e73 (str_q hq1_)),hop0 F47,hop0 F47,hop0 F47,hop0 F47,hop0 F47,hop0 F47,hop0 F47,hop0 F47,hop0 F47,hop0 F47,hop0 F47,hop0 F47,hop0 F47,hop0 F47,hop0 F47,hop0 F47,hop0 F47,hop0 F47,hop0 F47,hop0 F47,hop0 F47,hop0 F47,hop0 F47,hop0 F47,hop0 F47,hop0 F47,trivial⟩ ?_
      intro p86 a86 w86 b86 G86 y86
      obtain ⟨-,-,-,-,-,-,-,-,-,-,-,-,-,-,-,-,-,-,-,-,-,-,-,-,-,-,-,-,-,-,-,-,-,-,q34,-⟩:=y86
      have r34:p86 34=.bool true:=q34 (by decide)
      simp only [List.take,layV,Nat.zero_add,Nat.reduceAdd,r34] at G86
      have M86:=M47.kc b86
      clear F47 M47 r34 q34
      refine hK49 _ _ (wp_cond_true (G86 100 rfl) (wp_exit ?_))
      simp only [Exit.then,Exit.inBlock,↓reduceIte,Nat.reduceEqDiff]
      refine hK15 _ _ (zR (rm rfl G86 fun _ F87=>zc (w':=w86) rfl rfl F87 rfl (zI ((jn+1:Nat):Int)) (zja _ _ _ _ rfl (F87 14 rfl) rfl (by omega) (by omega)) fun _ F88=>?_))
      refine rm rfl F88 fun _ F89=>?_
      subst ek8
      exact hK8 _ ⟨(jn+1),1⟩ _ _ (by omega) ⟨rfl,⟨by omega,fun h=>absurd h (by omega),fun _ _=>hjp▸okT_of hnl hsl hkc hbl (.inl (of_decide_eq_true hq1_))⟩⟩ (F89.sb) (M86.sb)
    refine zT fun _ hK90=>rm rfl F46 fun _ F91=>rm rfl F91 fun _ F92=>rm rfl F92 fun _ F93=>zc (w':=w45) rfl rfl F93 rfl (zP ga (3*jn)) (zjc 49 (s:=3) Tryz.underlying49 (by kernel_rfl) _ _ rfl (F93 50 rfl) (F93 51 rfl) rfl hlt ((Nat.zero_add _).trans (Nat.mul_comm jn 3))) fun _ F94=>?_
    refine zc (w':=w45) rfl rfl F94 rfl (zP ga (3*jn+0)) (y_fa (off:=0) rfl (F94 52 rfl) (by kernel_rfl) rfl) fun _ F95=>?_
    refine zc (w':=w45) rfl rfl F95 rfl ((sq jn)) (zda _ _ rfl (F95 53 rfl) (M45.roB (k:=0) rfl) (cel_s c sq nq hlt) Tryz.underlying23 rfl) fun _ F96=>?_
    refine zc (w':=w45) rfl rfl F96 rfl (zI (sl.length:Int)) (z1a _ rfl (F96 54 rfl) (M45.isb (k:=51) rfl) rfl) fun _ F97=>?_
    by_cases h98:(kc:Int)<(sl.length:Int)
    ·refine zc (w':=w45) rfl rfl F97 rfl (.bool true) (zha _ _ _ _ rfl (F97 49 rfl) (F97 55 rfl) (decide_eq_true h98)) fun _ F99=>?_
     refine hK90 _ _ (wp_cond_true (F99 56 rfl) (zR (rm rfl F99 fun _ F100=>rm rfl F100 fun _ F101=>rm rfl F101 fun _ F102=>zc (w':=w45) rfl rfl F102 rfl (zP ga (3*jn)) (zjc 49 (s:=3) Tryz.underlying49 (by kernel_rfl) _ _ rfl (F102 58 rfl) (F102 59 rfl) rfl hlt ((Nat.zero_add _).trans (Nat.mul_comm jn 3))) fun _ F103=>?_)))
     refine zc (w':=w45) rfl rfl F103 rfl (zP ga (3*jn+0)) (y_fa (off:=0) rfl (F103 60 rfl) (by kernel_rfl) rfl) fun _ F104=>?_
     refine zc (w':=w45) rfl rfl F104 rfl ((sq jn)) (zda _ _ rfl (F104 61 rfl) (M45.roB (k:=0) rfl) (cel_s c sq nq hlt) Tryz.underlying23 rfl) fun _ F105=>?_
     refine rm rfl F105 fun _ F106=>zhc rfl rfl F106 rfl (y_slFrom _ _ rfl (F106 62 rfl) (M45.isb (k:=51) rfl) (F106 63 rfl) (i:=kc) rfl (by omega)) ?_
     intro v107 a107 h107 F107
     have M107:=M45.partB 62 (k:=51) rfl h107.1 h107.2
     obtain ⟨A107,c107,rfl⟩:=(M107.isb (k:=62) rfl).shape
     refine zqa rfl rfl F107 rfl (zeb M107 (k:=60) rfl _ _ rfl (F107 57 rfl) (F107 64 rfl) (M107.isb (k:=62) rfl) (by simp only [List.length_append,List.length_nil,List.length_take,List.length_drop];omega)) ?_
     intro v108 a108 w108 F108 M108
     obtain ⟨A108,c108,rfl⟩:=(M108.isO (k:=60) rfl).shape
     refine rm rfl F108 fun _ F109=>?_
     exact J47 (([]++(nl.take kc))++(sl.drop kc)) (.slice A108 ((([]++(nl.take kc))++(sl.drop kc))).length c108) _ _ (by rw [List.nil_append]) (F109.sb) (M108.sb)
    ·refine zc (w':=w45) rfl rfl F97 rfl (.bool false) (zha _ _ _ _ rfl (F97 49 rfl) (F97 55 rfl) (decide_eq_false h98)) fun _ F110=>?_
     refine hK90 _ _ (wp_cond_false (F110 56 rfl) (wp_skip ?_))
     exact J47 ([]++(nl.take kc)) (.slice A45 (([]++(nl.take kc))).length c45) _ _ (by rw [List.nil_append,List.drop_eq_nil_of_le (show sl.length≤kc by omega),List.append_nil]) (F110.sb) (M45.sb)
   refine zT fun _ hK111=>rm rfl F30 fun _ F112=>rm rfl F112 fun _ F113=>zc (w':=w8) rfl rfl F113 rfl (zI (m:Int)) (y_lnG 22 Tryz.underlying22 _ rfl (F113 23 rfl) rfl) fun _ F114=>?_
   by_cases h115:0<(m:Int)
   ·have hm0:0<m:=by omega
    obtain ⟨tn,htn⟩:∃ t,tornN (tx 0) nl.length=t:=⟨_,rfl⟩
    have htl:tn≤nl.length:=by rw [←htn];exact tornN_le _ _
    refine zc (w':=w8) rfl rfl F114 rfl (.bool true) (zha _ _ _ _ rfl (F114 22 rfl) (F114 24 rfl) (decide_eq_true h115)) fun _ F116=>?_
    refine hK111 _ _ (wp_cond_true (F116 25 rfl) ?_)
    refine zva F116 (SK [.inl (.slice A0 m c0),.inl (zI 0),.inl ((ixV (.slice A0 m c0) 0)),.inl (zI (tx 0)),.inl (zI (max (tx 0) 0)),.inl (.slice (some ⟨ga,0,none⟩) 18 18),.inl (zI (jn:Int)),.inl (zP ga (3*jn)),.inl (zP ga (3*jn+1)),.inl ((nq jn)),.inl (zI (nl.length:Int)),.inl (zI (tn:Int)),.inl (zI (tn:Int))]) 13 rfl (by kernel_rfl) ⟨hop0 F116,hop0 F116,hopR F116 [(26,.slice A0 m c0),(27,zI 0)] fun ua uw hb ⟨e26,e27,_⟩=>(y_ixJ _ _ rfl e26 (hT.step (M27.step hb).below) e27 rfl hm0),hopR F116 [(28,(ixV (.slice A0 m c0) 0))] fun ua uw hb ⟨e28,_⟩=>(y_ldJ _ rfl e28 (hT.step (M27.step hb).below) hm0),hopR F116 [(29,zI (tx 0))] fun ua uw hb ⟨e29,_⟩=>(y_maxI _ _ rfl e29 rfl rfl),hop0 F116,hop0 F116,hopR F116 [(31,.slice (some ⟨ga,0,none⟩) 18 18),(32,zI (jn:Int))] fun ua uw hb ⟨e31,e32,_⟩=>(zjc 49 (s:=3) Tryz.underlying49 (by kernel_rfl) _ _ rfl e31 e32 rfl hlt ((Nat.zero_add _).trans (Nat.mul_comm jn 3))),hopR F116 [(33,(zP ga (3*jn)))] fun ua uw hb ⟨e33,_⟩=>(y_fa (off:=1) rfl e33 (by kernel_rfl) rfl),hopR F116 [(34,(zP ga (3*jn+1)))] fun ua uw hb ⟨e34,_⟩=>(zda _ _ rfl e34 ((M27.step hb).roB (k:=0) rfl) (cel_n c sq nq hlt) Tryz.underlying23 rfl),hopR F116 [(35,(nq jn))] fun ua uw hb ⟨e35,_⟩=>(z1a _ rfl e35 ((M27.step hb).isb (k:=50) rfl) rfl),hopR F116 [(30,zI (max (tx 0) 0)),(36,zI (nl.length:Int))] fun ua uw hb ⟨e30,e36,_⟩=>(y_min _ _ rfl e30 e36 (show (if (nl.length:Int)<max (tx 0) 0 then (nl.length:Int) else max (tx 0) 0)=(tn:Int) from by rw [←htn,tornN_int];split <;> omega)),hop0 F116,trivial⟩ ?_
    intro p118 a118 w118 b118 G118 y118
    obtain ⟨-,-,-,-,-,-,-,-,-,-,-,-,q12,-⟩:=y118
    have r12:p118 12=zI (tn:Int):=q12 (by decide)
    simp only [List.take,layV,Nat.zero_add,Nat.reduceAdd,r12] at G118
    have M118:=M27.kc b118
    clear F116 M27 r12 q12
    exact J31 tn _ _ (by unfold cutN;rw [if_pos hm0,htn];exact ⟨rfl,htl⟩) (G118.sb) (M118.sb)
   ·refine zc (w':=w8) rfl rfl F114 rfl (.bool false) (zha _ _ _ _ rfl (F114 22 rfl) (F114 24 rfl) (decide_eq_false h115)) fun _ F119=>?_
    refine hK111 _ _ (wp_cond_false (F119 25 rfl) (wp_skip ?_))
    exact J31 0 _ _ (by unfold cutN;rw [if_neg (by omega)];exact ⟨rfl,Nat.zero_le _⟩) (F119.sb) (M27.sb)
 ·refine zSk fun _ hK120=>zT fun _ hK121=>rm rfl F8 fun _ F122=>rm rfl F122 fun _ F123=>zc (w':=w8) rfl rfl F123 rfl (zI 18) (y_lnG 49 Tryz.underlying49 _ rfl (F123 11 rfl) rfl) fun _ F124=>?_
  refine zc (w':=w8) rfl rfl F124 rfl (.bool false) (zha _ _ _ _ rfl (F124 10 rfl) (F124 12 rfl) (decide_eq_false (show ¬(jn:Int)<18 by omega))) fun _ F125=>?_
  refine hK121 _ _ (wp_cond_false (F125 13 rfl) (wp_exit ?_))
  simp only [Exit.then,Exit.inBlock,↓reduceIte,Nat.reduceEqDiff]
  refine hK5 _ _ (zT fun _ hK126=>rm rfl F125 fun _ F127=>hK126 _ _ (wp_ret ?_))
  try simp only [Exit.then,Exit.inBlock,Exit.jump]
  exact bodyPost_ret (res1 rfl (F127.get rfl)) F127.defers ⟨_,rfl,false,rfl,(fun _ hf=>hok (by omega) hf),M8.below⟩
def stpL (L:Int):Int:=if 0<L then L-1 else L
theorem rstep_any (gx gc:Nat) (L:Int) (hL3:L<9223372036854775808) (w:World) (hx:w.heap[gx]? = some (.cells (#[.slice (some ⟨gc,0,none⟩) 18 18,zI L,.bool false]) 72 (0,0))):
  Calls Tryz.prog 82 #[(zO gx)] w fun e w'=>∃ t,e=.returned t∧t=.bool (!decide (L=0))∧w'.heap[gx]? = some (.cells (#[.slice (some ⟨gc,0,none⟩) 18 18,zI (stpL L),.bool (decide (L=0))]) 72 (0,0))∧w.grownBy w' (some gx):=by
 refine zj (args:=[(zO gx)]) 29 Tryz.func82 rfl rfl rfl ?_
 intro fa F
 have M:=Mx.theG hx 0
 refine zT fun _ hK1=>rm rfl F fun _ F2=>hK1 _ _ (zSk fun _ hK3=>zT fun _ hK4=>zB 9 [(0,(zO gx)),(2,.bool false),(7,.bool false),(11,zI L)] [0,0] (zw (M.blk (k:=0) rfl) dnil) [gx,gx] F2 fun _ F5=>?_)
 by_cases h6:L=0
 ·refine zc (w':=w) (zd rfl rfl rfl (F5 7 rfl)) rfl F5 rfl (.bool true) (zcb _ _ _ _ rfl (F5 11 rfl) rfl Tryz.underlying3 (zvb h6)) fun _ F7=>?_
  refine zc (w':=w) rfl rfl F7 rfl (.bool true) (zob rfl (F7 7 rfl) (F7 12 rfl)) fun _ F8=>?_
  refine hK4 _ _ (wp_cond_true (F8 13 rfl) (zT fun _ hK9=>zB 3 [(0,(zO gx)),(2,.bool false),(16,(zP gx 2))] [] dnil [] F8 fun _ F10=>?_))
  refine zu rfl rfl F10 M (k:=0) rfl _ _ _ rfl (F10 16 rfl) rfl (#[.bool true]) (#[.slice (some ⟨gc,0,none⟩) 18 18,zI L,.bool true]) rfl (zL rfl) (by simp [Value.oneCell']) (by kernel_rfl) (by kernel_rfl) ?_
  intro w11 M11
  refine hK9 _ _ (zT fun _ hK12=>rm rfl F10 fun _ F13=>hK12 _ _ (wp_ret ?_))
  try simp only [Exit.then,Exit.inBlock,Exit.jump]
  exact bodyPost_ret (res1 rfl (F13.get rfl)) F13.defers ⟨_,rfl,(by rw [decide_eq_true h6];rfl),(by rw [decide_eq_true h6,show stpL L=L from if_neg (by omega)];exact M11.blk (k:=0) rfl),M11.grown⟩
 ·refine zc (w':=w) (zd rfl rfl rfl (F5 7 rfl)) rfl F5 rfl (.bool false) (zcb _ _ _ _ rfl (F5 11 rfl) rfl Tryz.underlying3 (zdc h6)) fun _ F14=>?_
  refine zc (w':=w) rfl rfl F14 rfl (.bool false) (zob rfl (F14 7 rfl) (F14 12 rfl)) fun _ F15=>?_
  refine hK4 _ _ (wp_cond_false (F15 13 rfl) (wp_skip (hK3 _ _ (zSk fun _ hK16=>zT fun _ hK17=>zB 4 [(0,(zO gx)),(2,.bool false),(20,zI L)] [0] (zw (M.blk (k:=0) rfl) dnil) [gx] F15 fun _ F18=>?_))))
  by_cases h19:0<L
  ·refine zc (w':=w) rfl rfl F18 rfl (.bool true) (zzb _ _ _ _ rfl (F18 20 rfl) rfl (decide_eq_true h19)) fun _ F20=>?_
   refine hK17 _ _ (wp_cond_true (F20 21 rfl) (zR (zB 4 [(2,.bool false),(22,(zO gx)),(25,zI L)] [0] (zw (M.blk (k:=0) rfl) dnil) [gx] F20 fun _ F21=>?_)))
   refine zc (w':=w) rfl rfl F21 rfl (zI (L-1)) (y_subI _ _ _ _ rfl (F21 25 rfl) rfl (by omega) (by omega)) fun _ F22=>?_
   refine zB 2 [(2,.bool false),(26,zI (L-1)),(28,(zP gx 1))] [] dnil [] F22 fun _ F23=>?_
   refine zu rfl rfl F23 M (k:=0) rfl _ _ _ rfl (F23 28 rfl) (F23 26 rfl) (#[zI (L-1)]) (#[.slice (some ⟨gc,0,none⟩) 18 18,zI (L-1),.bool false]) rfl (zL rfl) (zoc _ _) (by kernel_rfl) (by kernel_rfl) ?_
   intro w24 M24
   refine hK16 _ _ (zT fun _ hK25=>rm rfl F23 fun _ F26=>hK25 _ _ (wp_ret ?_))
   try simp only [Exit.then,Exit.inBlock,Exit.jump]
   exact bodyPost_ret (res1 rfl (F26.get rfl)) F26.defers ⟨_,rfl,(by rw [decide_eq_false h6];rfl),(by rw [decide_eq_false h6,show stpL L=_ from if_pos h19];exact M24.blk (k:=0) rfl),M24.grown⟩
  ·refine zc (w':=w) rfl rfl F18 rfl (.bool false) (zzb _ _ _ _ rfl (F18 20 rfl) rfl (decide_eq_false h19)) fun _ F27=>?_
   refine hK17 _ _ (wp_cond_false (F27 21 rfl) (wp_skip (hK16 _ _ (zT fun _ hK28=>rm rfl F27 fun _ F29=>hK28 _ _ (wp_ret ?_)))))
   try simp only [Exit.then,Exit.inBlock,Exit.jump]
   exact bodyPost_ret (res1 rfl (F29.get rfl)) F29.defers ⟨_,rfl,(by rw [decide_eq_false h6];rfl),(by rw [decide_eq_false h6,show stpL L=_ from if_neg h19];exact M.blk (k:=0) rfl),M.grown⟩
theorem rcounts_is {K:Nat} (gx gc:Nat) (V:VltN) (L:Int) (s n:Nat→Value) (hi:InvV K V) (p:Nat) (hp:p<9) {ca ct:Int} {cl:List UInt8} (hC:cntR V (2*p) 2=(ca,ct,cl)) (w:World) (h:HasX w gx gc V L s n):
  Calls Tryz.prog 62 #[(zO gx),zI (p:Int)] w fun e w'=>∃ t,e=.returned t∧∃ S,t=.tuple #[zI ca,zI ct,S]∧IsB w cl S∧Below w.heap.size w w':=
 (rcountsR_any gx gc V L s n hi p hp w h).mono fun e w' ⟨S,h1,h2,h3⟩=>by
  rw [hC] at h1 h2
  exact ⟨_,h1,S,rfl,h2,h3⟩
theorem cnt_any {V:VltN} {q:Nat} {ca ct:Int} {cl:List UInt8} (hC:cntR V q 2=(ca,ct,cl)):(anyB zo V q=true∧ca=(cntP V q:Int)∧ct=cntT V q∧cl=cntS V q)∨(anyB zo V q=false∧ca = -1∧ct=0∧cl=[]):=by
 rw [cntR_2] at hC
 by_cases h:anyB zo V q=true
 ·rw [if_pos h] at hC
  cases hC
  exact .inl ⟨h,rfl,rfl,rfl⟩
 ·rw [if_neg h] at hC
  cases hC
  exact .inr ⟨Bool.eq_false_iff.2 h,rfl,rfl,rfl⟩
theorem empty_cnt {V:VltN} {q:Nat} {ca ct:Int} {cl:List UInt8} (hC:cntR V q 2=(ca,ct,cl)):zma V q=decide ((cl.length:Int)=0):=by
 unfold zma
 rcases cnt_any hC with ⟨h,_,_,rfl⟩ | ⟨h,_,_,rfl⟩ <;> rw [h] <;> simp
def idx8 (p:Nat→Bool):Int:=if fst8 p<8 then (fst8 p:Int) else -1
theorem idx8_at {p:Nat→Bool} {k:Nat} (hk:k<8) (h:fst8 p=k):idx8 p=(k:Int):=by unfold idx8;rw [h,if_pos hk]
theorem idx8_no {p:Nat→Bool} (h:fst8 p=fstN p 0 8):idx8 p = -1:=by unfold idx8;rw [h];rfl
theorem rfree_any {K:Nat} (gx gc:Nat) (V:VltN) (L:Int) (s n:Nat→Value) (hi:InvV K V) (w:World) (h:HasX w gx gc V L s n):
  Calls Tryz.prog 54 #[(zO gx)] w fun e w'=>e=.returned (zI (idx8 (fun i=>zma V (2*i))))∧Below w.heap.size w w':=by
 refine zj (args:=[(zO gx)]) 22 Tryz.func54 rfl rfl rfl ?_
 intro fa F
 have M:=Mx.start w
 replace M:=M.argO 0 h.hx (fun b e=>by cases e)
 replace M:=M.argO 1 h.hc (fun b e=>by cases e)
 refine zT fun _ hK1=>rm rfl F fun _ F2=>hK1 _ _ (zSk fun _ hK3=>zT fun _ hK4=>rm rfl F2 fun _ F5=>hK4 _ _ (wp_block (znb (α:=Nat) (n:=22) (G:=none) (w0:=w) (fun x=>[(0,(zO gx)),(3,zI (x:Int))]) (fun x=>[(0,blkO gx 72 (#[.slice (some ⟨gc,0,none⟩) 18 18,zI L,.bool V.dd])),(1,blkO gc 63 (celA V.c s n))]) (fun k x=>k=(8-x)∧(x≤8∧fst8 (fun i=>zma V (2*i))=fstN (fun i=>zma V (2*i)) (8-x) x)) _ 0 ⟨rfl,⟨Nat.zero_le _,rfl⟩⟩ (F5.sb) (M.sb) ?_)))
 rintro k6 jn a6 w6 K6 ⟨ek6,I6⟩ F6 M6 hK6
 replace F6:Fx 22 a6 [(0,(zO gx)),(3,zI (jn:Int))]:=F6
 replace M6:Mx _ _ w6 [(0,blkO gx 72 (#[.slice (some ⟨gc,0,none⟩) 18 18,zI L,.bool V.dd])),(1,blkO gc 63 (celA V.c s n))]:=M6
 replace I6:jn≤8∧fst8 (fun i=>zma V (2*i))=fstN (fun i=>zma V (2*i)) (8-jn) jn:=I6
 replace ek6:k6=(8-jn):=ek6
 obtain ⟨hj,hf⟩:=I6
 by_cases h8:jn<8
 ·obtain ⟨ca,ct,cl,hC⟩:∃ a t l,cntR V (2*jn) 2=(a,t,l):=⟨_,_,_,rfl⟩
  refine zSk fun _ hK7=>zT fun _ hK8=>rm rfl F6 fun _ F9=>zc (w':=w6) rfl rfl F9 rfl (.bool true) (zha _ _ _ _ rfl (F9 7 rfl) rfl (decide_eq_true (show (jn:Int)<8 by omega))) fun _ F10=>?_
  refine hK8 _ _ (wp_cond_true (F10 8 rfl) (wp_skip (hK7 _ _ (zSk fun _ hK11=>wp_block (zT fun _ hK12=>rm rfl F10 fun _ F13=>rm rfl F13 fun _ F14=>zf rfl rfl F14 rfl rfl (zE Tryz.func62 rfl) #[(zO gx),zI (jn:Int)] (zea (F14 12 rfl) (F14 13 rfl)) (rcounts_is gx gc V L s n hi jn (by omega) hC w6 (h.step M6.below)) ?_)))))
  rintro _ w15 a15 ⟨S15,rfl,hS15,b15⟩ F15
  have M15:=M6.step b15
  have lS15:=hS15.step b15
  refine zB 7 [(0,(zO gx)),(3,zI (jn:Int)),(6,S15)] [] dnil [] F15 fun _ F16=>?_
  refine hK12 _ _ (zT fun _ hK17=>rm rfl F16 fun _ F18=>zc (w':=w15) rfl rfl F18 rfl (zI (cl.length:Int)) (z1a _ rfl (F18 18 rfl) lS15 rfl) fun _ F19=>?_)
  by_cases h20:(cl.length:Int)=0
  ·refine zc (w':=w15) rfl rfl F19 rfl (.bool true) (zcb _ _ _ _ rfl (F19 19 rfl) rfl Tryz.underlying3 (zvb h20)) fun _ F21=>?_
   refine hK17 _ _ (wp_cond_true (F21 20 rfl) (zT fun _ hK22=>rm rfl F21 fun _ F23=>rm rfl F23 fun _ F24=>hK22 _ _ (wp_ret ?_)))
   try simp only [Exit.then,Exit.inBlock,Exit.jump]
   exact bodyPost_ret (res1 rfl (F24.get rfl)) F24.defers ⟨(by rw [idx8_at h8 (fst_here h8 (show zma V (2*jn)=true by rw [empty_cnt hC];exact decide_eq_true h20) hf)]),M15.below⟩
  ·refine zc (w':=w15) rfl rfl F19 rfl (.bool false) (zcb _ _ _ _ rfl (F19 19 rfl) rfl Tryz.underlying3 (zdc h20)) fun _ F25=>?_
   refine hK17 _ _ (wp_cond_false (F25 20 rfl) (wp_skip (hK11 _ _ (zR (rm rfl F25 fun _ F26=>zc (w':=w15) rfl rfl F26 rfl (zI ((jn+1:Nat):Int)) (zja _ _ _ _ rfl (F26 9 rfl) rfl (by omega) (by omega)) fun _ F27=>?_)))))
   refine rm rfl F27 fun _ F28=>?_
   subst ek6
   exact hK6 _ (jn+1) _ _ (by omega) ⟨rfl,⟨by omega,fst_next h8 (show zma V (2*jn)=false by rw [empty_cnt hC];exact decide_eq_false h20) hf⟩⟩ (F28.sb) (M15.sb)
 ·have hj8:jn=8:=by omega
  refine zSk fun _ hK29=>zT fun _ hK30=>rm rfl F6 fun _ F31=>zc (w':=w6) rfl rfl F31 rfl (.bool false) (zha _ _ _ _ rfl (F31 7 rfl) rfl (decide_eq_false (show ¬(jn:Int)<8 by omega))) fun _ F32=>?_
  refine hK30 _ _ (wp_cond_false (F32 8 rfl) (wp_exit ?_))
  simp only [Exit.then,Exit.inBlock,↓reduceIte,Nat.reduceEqDiff]
  refine hK3 _ _ (zT fun _ hK33=>rm rfl F32 fun _ F34=>hK33 _ _ (wp_ret ?_))
  try simp only [Exit.then,Exit.inBlock,Exit.jump]
  exact bodyPost_ret (res1 rfl (F34.get rfl)) F34.defers ⟨(by rw [idx8_no (by rw [hf,hj8])]),M6.below⟩
section
open Go.Shelf
def leftR (V:VltN):Int:=if V.fl=true then V.lf else -1
def LeftOk (V:VltN):Prop:=V.fl=true→0≤V.lf∧V.lf<9223372036854775808
theorem left_lt {V:VltN} (h:LeftOk V):leftR V<9223372036854775808:=by
 unfold leftR
 split
 ·exact (h (by assumption)).2
 ·decide
theorem left_fall (V:VltN):zbc V=decide (leftR V=0):=by
 unfold zbc leftR
 cases V.fl with
 | true=>rfl
 | false=>rfl
theorem left_down {V W:VltN} (h:LeftOk V) (hf:zbc V=false) (h1:W.fl=V.fl) (h2:W.lf=IntKind.i64.wrap (V.lf-1)):leftR W=stpL (leftR V)∧LeftOk W:=by
 unfold LeftOk leftR stpL
 rw [h1,h2]
 cases hfl:V.fl with
 | false=>exact ⟨rfl,fun e=>by cases e⟩
 | true=>
  obtain ⟨h3,h4⟩:=h hfl
  have h0:¬V.lf=0:=fun e=>by unfold zbc at hf;rw [hfl,e] at hf;cases hf
  have w1:IntKind.i64.wrap (V.lf-1)=V.lf-1:=by rw [IntKind.wrap_i64];omega
  simp only [if_true]
  rw [w1,if_pos (by omega)]
  exact ⟨rfl,fun _=>by omega⟩
theorem left_lay {V:VltN} (h:LeftOk V) (hf:zbc V=false) (p:Nat) (b:List UInt8):leftR (z4b V p b)=stpL (leftR V)∧LeftOk (z4b V p b):=left_down h hf rfl rfl
theorem left_keep {V:VltN} (h:LeftOk V) (hf:zbc V=false) (p:Nat):leftR (keepV V p)=stpL (leftR V)∧LeftOk (keepV V p):=left_down h hf rfl rfl
theorem say_1 {V:VltN} {q:Nat} {l:List UInt8} (h:zbc V=true):sayW V q l=(deadV V,false):=by unfold sayW wrtV;rw [if_pos h]
theorem say_2 {V:VltN} {q N:Nat} {l b:List UInt8} (hN:nxtP V q=N) (hb:zza zo N (nxtT V q) l=b) (h:zbc V=false) (h2:zbc (z4b V N b)=true):sayW V q l=(deadV (z4b V N b),false):=by
 unfold sayW wrtV;rw [hN,hb,if_neg (by rw [h];decide),if_pos h2]
theorem say_3 {V:VltN} {q N:Nat} {l b:List UInt8} (hN:nxtP V q=N) (hb:zza zo N (nxtT V q) l=b) (h:zbc V=false) (h2:zbc (z4b V N b)=false):sayW V q l=(keepV (z4b V N b) N,true):=by
 unfold sayW wrtV;rw [hN,hb,if_neg (by rw [h];decide),if_neg (by rw [h2];decide)]
theorem nxt_cnt {V:VltN} {q:Nat} {ca ct:Int} {cl:List UInt8} (hC:cntR V q 2=(ca,ct,cl)):((nxtP V q:Nat):Int)=(if ca=(q:Int) then (q:Int)+1 else (q:Int))∧nxtT V q=ct+1:=by
 unfold nxtP nxtT
 rcases cnt_any hC with ⟨h,rfl,rfl,_⟩ | ⟨h,rfl,rfl,_⟩
 ·rw [if_pos h,if_pos h]
  rcases cntP_in h with e | e
  ·rw [e,if_pos rfl];exact ⟨by omega,rfl⟩
  ·rw [e,if_neg (by omega)];exact ⟨by omega,rfl⟩
 ·rw [h,if_neg Bool.false_ne_true,if_neg Bool.false_ne_true,if_neg (by omega)];exact ⟨rfl,rfl⟩
end
end Go.Proofs.YtmjbnmbobocpdaaGreat
