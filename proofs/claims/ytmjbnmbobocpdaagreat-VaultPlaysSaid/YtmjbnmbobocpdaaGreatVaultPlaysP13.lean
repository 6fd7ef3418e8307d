/- What VaultPlays stands on, part 13. -/
import Derived.Test.YtmjbnmbobocpdaaGreatVaultPlaysP1
import Derived.Test.YtmjbnmbobocpdaaGreatVaultPlaysP2
import Derived.Test.YtmjbnmbobocpdaaGreatVaultPlaysP3
import Derived.Test.YtmjbnmbobocpdaaGreatVaultPlaysP4
import Derived.Test.YtmjbnmbobocpdaaGreatVaultPlaysP5
import Derived.Test.YtmjbnmbobocpdaaGreatVaultPlaysP6
import Derived.Test.YtmjbnmbobocpdaaGreatVaultPlaysP7
import Derived.Test.YtmjbnmbobocpdaaGreatVaultPlaysP8
import Derived.Test.YtmjbnmbobocpdaaGreatVaultPlaysP9
import Derived.Test.YtmjbnmbobocpdaaGreatVaultPlaysP10
import Derived.Test.YtmjbnmbobocpdaaGreatVaultPlaysP11
import Derived.Test.YtmjbnmbobocpdaaGreatVaultPlaysP12
set_option maxRecDepth 100000
set_option maxHeartbeats 8000000
set_option linter.unusedVariables false
set_option linter.unusedSimpArgs false
namespace Go.Proofs.YtmjbnmbobocpdaaGreat
open Go.ChangeShapes Go.WideShapes Go.ChangeAt Go.RowKit
section
open Go.Shelf
theorem recE_pos {r:RecN} (h:zia r=true):recE r≠[]:=by
 rw [show recE r=recL r from if_pos h,recL_is]
 exact fun e=>by cases e
theorem rdOk_nil:rdOk []=false:=by
 cases h:rdOk [] with
 | false=>rfl
 | true=>
  unfold rdOk znb at h
  simp only [Bool.and_eq_true,decide_eq_true_eq] at h
  exact absurd h.2 (recE_pos h.1)
def accP (V:VltN) (k:Nat):Option RecN→Prop
 | none=>zec V (2*k)=false∧zwa V (2*k)=true
 | some r=>zec V (2*k)=true∧z0a V (2*k)=r∧zwa V (2*k)=false
def AccV (V:VltN) (m:Nat→Option RecN):Prop:=∀ k,k<8→accP V k (m k)
def updO (m:Nat→Option RecN) (k:Nat) (r:Option RecN):Nat→Option RecN:=fun i=>if i=k then r else m i
theorem acc_of {V V':VltN} {k:Nat} (h:zec V' (2*k)=zec V (2*k)∧z0a V' (2*k)=z0a V (2*k)∧zwa V' (2*k)=zwa V (2*k)∧numB V' (2*k)=numB V (2*k)∧zhc V' (2*k)=zhc V (2*k)) {o:Option RecN} (ha:accP V k o):accP V' k o:=by
 obtain ⟨h1,h2,h3,-⟩:=h
 cases o with
 | none=>exact ⟨h1.trans ha.1,h3.trans ha.2⟩
 | some r=>exact ⟨h1.trans ha.1,h2.trans ha.2.1,h3.trans ha.2.2⟩
theorem acc_nil {V:VltN} (h:∀ i,i<16→(V.c i).s=[]):AccV V fun _=>none:=fun k hk=>by
 have hg:∀ i,i<16→zpb zr i (V.c i).s=false:=fun i hi=>by rw [h i hi];exact good0 i
 have ha:anyB zr V (2*k)=false:=by
  unfold anyB secB
  rw [hg _ (by omega),hg _ (by omega)];rfl
 exact ⟨by unfold zec;rw [ha];rfl,by unfold zwa;rw [ha];rfl⟩
theorem acc_new:AccV (ageW zeroV) fun _=>none:=acc_nil fun i hi=>by
 have hp:=nxtP_in zeroV 16
 unfold ageW
 rw [(sayW_c zeroV 16 _).1 i (by omega)];rfl
theorem sayW_ok {V:VltN} {q:Nat} {l:List UInt8} (h:(sayW V q l).2=true):(sayW V q l).1.c (nxtP V q)=⟨z7a zr (nxtP V q) (nxtT V q) l,[],false⟩∧(sayW V q l).1.dd=V.dd∧(sayW V q l).1.fl=V.fl∧(sayW V q l).1.lf=IntKind.i64.wrap (IntKind.i64.wrap (V.lf-1)-1):=by
 unfold sayW wrtV at h ⊢
 by_cases h1:zpc V=true
 ·rw [if_pos h1] at h;cases h
 ·rw [if_neg h1] at h ⊢
  by_cases h2:zpc (zjc V (nxtP V q) (z7a zr (nxtP V q) (nxtT V q) l))=true
  ·rw [if_pos h2] at h;cases h
  ·rw [if_neg h2]
   refine ⟨?_,rfl,rfl,rfl⟩
   show putC (putC V.c _ _) _ ⟨(putC V.c _ _ _).n,[],false⟩ _=_
   rw [zdc,zdc]
theorem say_said' {K:Nat} {V:VltN} (hi:InvV K V) (hK:K<255) {q:Nat} {l:List UInt8} (h:(sayW V q l).2=true):anyB zr (sayW V q l).1 q=true∧cntS (sayW V q l).1 q=l:=
 wrote hi hK (by rw [(sayW_ok h).1]) (fun i hne=>by rw [(sayW_c V q l).1 i hne])
theorem acc_say {K:Nat} {V:VltN} {m:Nat→Option RecN} (hi:InvV K V) (hK:K<255) (ha:AccV V m) {k:Nat} {r:RecN} (ho:RecOk r) (hk:zia r=true) (h:(sayW V (2*k) (recE r)).2=true):AccV (sayW V (2*k) (recE r)).1 (updO m k (some r)):=fun j hj=>by
 unfold updO
 by_cases e:j=k
 ·subst e
  rw [if_pos rfl]
  obtain ⟨h1,h2⟩:=say_said' hi hK h
  obtain ⟨y1,y2⟩:=rd_rec ho hk
  refine ⟨by unfold zec;rw [h1,h2,y1];rfl,by unfold z0a;rw [if_pos h1,h2,y2],?_⟩
  unfold zwa
  rw [h1,h2]
  have:=List.length_pos_iff.2 (recE_pos hk)
  rw [decide_eq_false (show ¬(((recE r).length:Int)=0) by omega)];rfl
 ·rw [if_neg e]
  exact acc_of (said_eq (sayW_pair V _ (by omega))) (ha j hj)
def isN (nm:ByteArray):Option RecN→Bool
 | none=>false
 | some r=>decide (r.s.toList=nm.toList)
theorem named_acc {V:VltN} {m:Nat→Option RecN} (ha:AccV V m) (nm:ByteArray) {k:Nat} (hk:k<8):zba V nm k=isN nm (m k):=by
 have h:=ha k hk
 cases hm:m k with
 | none=>rw [hm] at h;exact namedB_no h.1
 | some r=>rw [hm] at h;exact namedB_is h.1 (by rw [h.2.1];rfl)
theorem empty_acc {V:VltN} {m:Nat→Option RecN} (ha:AccV V m) {k:Nat} (hk:k<8):zwa V (2*k)=(m k).isNone:=by
 have h:=ha k hk
 cases hm:m k with
 | none=>rw [hm] at h;exact h.2
 | some r=>rw [hm] at h;exact h.2.2
theorem fst8_congr {p q:Nat→Bool} (h:∀ k,k<8→p k=q k):fst8 p=fst8 q:=by
 have:∀ n k,k+n≤8→fstN p n k=fstN q n k:=fun n=>by
  induction n with
  | zero=>intro k _;rfl
  | succ n ih=>intro k hk;unfold fstN;rw [h k (by omega),ih (k+1) (by omega)]
 exact this 8 0 (by omega)
theorem named8 {V:VltN} {m:Nat→Option RecN} (ha:AccV V m) (nm:ByteArray):fst8 (zba V nm)=fst8 fun k=>isN nm (m k):=fst8_congr fun k hk=>named_acc ha nm hk
theorem empty8 {V:VltN} {m:Nat→Option RecN} (ha:AccV V m):fst8 (fun i=>zwa V (2*i))=fst8 fun k=>(m k).isNone:=fst8_congr fun k hk=>empty_acc ha hk
theorem fst8_at {p:Nat→Bool} {k:Nat} (hk:k<8) (h:p k=true) (hl:∀ i,i<k→p i=false):fst8 p=k:=by
 rcases fst8_spec p with ⟨h1,h2,h3⟩ | ⟨h1,h2⟩
 ·rcases Nat.lt_trichotomy (fst8 p) k with h4 | h4 | h4
  ·rw [hl _ h4] at h2;cases h2
  ·exact h4
  ·rw [h3 k h4] at h;cases h
 ·rw [h2 k hk] at h;cases h
theorem fst8_none {p:Nat→Bool} (h:∀ i,i<8→p i=false):fst8 p=8:=by
 rcases fst8_spec p with ⟨h1,h2,h3⟩ | ⟨h1,h2⟩
 ·rw [h _ h1] at h2;cases h2
 ·exact h1
def plcM (m:Nat→Option RecN) (nm:ByteArray):Nat:=if fst8 (fun k=>isN nm (m k))<8 then fst8 (fun k=>isN nm (m k)) else fst8 fun k=>(m k).isNone
theorem put_acc {V:VltN} {m:Nat→Option RecN} (ha:AccV V m) {r:RecN} (hd:V.dd=false) (hk:zia r=true) (hp:plcM m r.s<8):putV V r=((sayW V (2*plcM m r.s) (recE r)).1,if (sayW V (2*plcM m r.s) (recE r)).2=true then 0 else 10):=by
 unfold putV
 rw [if_neg (by rw [hd];exact Bool.false_ne_true),if_neg (by rw [hk];exact fun h=>by cases h),named8 ha,empty8 ha]
 unfold plcM at hp ⊢
 split
 ·rfl
 ·rename_i h
  rw [if_neg h] at hp
  rw [if_pos hp]
theorem put_done {K:Nat} {V:VltN} {m:Nat→Option RecN} (hi:InvV K V) (hK:K<255) (ha:AccV V m) {r:RecN} (ho:RecOk r) (hk:zia r=true) (hd:V.dd=false) (hf:V.fl=false) (hp:plcM m r.s<8):(putV V r).2=0∧AccV (putV V r).1 (updO m (plcM m r.s) (some r))∧(putV V r).1.dd=false∧(putV V r).1.fl=false:=by
 rw [put_acc ha hd hk hp]
 obtain ⟨h1,h2,h3,h4⟩:=sayW_live (2*plcM m r.s) (recE r) hf
 exact ⟨by dsimp only;rw [if_pos h1],acc_say hi hK ha ho hk h1,h3.trans hd,h2⟩
def nmsM (m:Nat→Option RecN):Nat→List ByteArray
 | 0=>[]
 | k+1=>match m k with
  | none=>nmsM m k
  | some r=>nmsM m k++[r.s]
theorem namL_acc {V:VltN} {m:Nat→Option RecN} (ha:AccV V m):∀ k,k≤8→namL V k=nmsM m k
 | 0,_=>rfl
 | k+1,hk=>by
  have h:=ha k (by omega)
  have ih:=namL_acc ha k (by omega)
  unfold nmsM
  cases hm:m k with
  | none=>rw [hm] at h;rw [namL_no h.1];exact ih
  | some r=>rw [hm] at h;rw [namL_yes h.1 h.2.1,ih]
end
def rA:RecN:=⟨1,⟨#[97]⟩,[],0,0,[],0,0,0⟩
theorem rA_ok:RecOk rA:=⟨by decide,by decide,by decide,by decide,by decide,by decide,by decide⟩
theorem rA_name:NameOk rA.s:=by
 refine ⟨by decide,by decide,fun i h=>?_⟩
 have:i=0:=by have h1:rA.s.size=1:=rfl;omega
 subst this
 exact (show (33:Int)≤((97:UInt8).toNat:Int)∧((97:UInt8).toNat:Int)≤126 by decide)
theorem rA_keep:zia rA=true:=by
 unfold zia
 rw [show nameB rA.s=true from @decide_eq_true _ (Classical.propDecidable _) rA_name,show topI rA.a 8=0 from topI_none 8,show topI rA.b 8=0 from topI_none 8]
 decide
theorem y_eqPN {a:Act} {w:World} {o:Oper} (ty tz:TypeId) (hu:Tryz.prog.underlying ty=some (.pointer (Tryz.prog.pointee ty))) (hgt:Tryz.prog.eqGuardType Tryz.prog.depth ty=false) (x:Operand) {p:Addr} (ho:o.op=.binOp .eql ty x (.const (.pointer none)) tz) (hx:a.eval x=.pointer (some p)):(execOp a.eval o).run Tryz.prog w=.ok (.value (.bool false)) w:=
 y_eqV ty tz x _ ho hx (v:=.pointer none) rfl (by simp [eqGuard,go_sem,hgt]) (by rw [run_eql_pointer_nil (h:=hu)];rfl)
theorem plcA:plcM (fun _=>none) rA.s=0:=by
 have e:(fst8 fun k=>isN rA.s ((fun _=>none) k))=8:=fst8_none fun _ _=>rfl
 unfold plcM
 rw [if_neg (by omega)]
 exact fst8_at (by decide) rfl fun i h=>absurd h (Nat.not_lt_zero i)
theorem rdI_none (w:World) {x:Nat→Int} (hx:∀ k,-9223372036854775808≤x k∧x k<9223372036854775808:=by intro k;decide):RdI w none 0 x:=⟨by unfold maxLen;decide,hx,fun h=>absurd h (Nat.lt_irrefl 0)⟩
theorem known6_any  (w:World):
  Calls Tryz.prog 13 #[] w fun e w'=>e=.returned (.bool true)∧Below w.heap.size w w':=by
 obtain ⟨hE1,hI1,hf1,hd1⟩:=new_is
 have hA1:=acc_new
 obtain ⟨V1,hV1⟩:∃ x,ageW zeroV=x:=⟨_,rfl⟩
 rw [hV1] at hE1 hI1 hf1 hd1 hA1
 obtain ⟨hz2,hA2,hd2,hf2⟩:=put_done hI1 (by decide) hA1 rA_ok rA_keep hd1 hf1 (by rw [plcA];decide)
 rw [plcA] at hA2
 obtain ⟨hI2,hE2⟩:=put_keep hI1 (by decide) hE1 rA
 obtain ⟨V2,hV2⟩:∃ x,(putV V1 rA).1=x:=⟨_,rfl⟩
 rw [hV2] at hA2 hd2 hf2 hI2 hE2
 have h20:accP V2 0 (some rA):=hA2 0 (by decide)
 have hn2:fst8 (zba V2 rA.s)=0:=by
  rw [named8 hA2]
  exact fst8_at (by decide) (show isN rA.s (some rA)=true from decide_eq_true rfl) fun i h=>absurd h (Nat.not_lt_zero i)
 have hL2:srtL (namL V2 8)=[rA.s]:=by rw [namL_acc hA2 8 (Nat.le_refl _)];rfl
 obtain ⟨hE3,hI3,-,hd3⟩:=again_is hI2 (by decide) hE2 (by decide) (by decide) (fun _=>0) 0
 obtain ⟨V3,hV3⟩:∃ x,ageW (zac V2 (fun _=>0) 0)=x:=⟨_,rfl⟩
 rw [hV3] at hE3 hI3 hd3
 refine zk (args:=[]) 57 Tryz.func13 rfl rfl rfl ?_
 intro fa F
 have M:=Mx.start w
 refine zT fun _ hK21=>rm rfl F fun _ F22=>hK21 _ _ (zT fun _ hK23=>zh rfl rfl F22 rfl rfl (zE Tryz.func14 rfl) #[] (args0) (vnew_is V1 hV1 w) ?_)
 rintro _ w24 a24 ⟨g24,rfl,hg24,s24,n24,hr24,ht24,hc24,b24⟩ F24
 have M24:=M.newVault b24 0 1 hg24 hc24 hr24 ht24
 clear M b24 hg24 hc24 hr24 ht24
 refine rm rfl F24 fun _ F25=>hK23 _ _ (zSk fun _ hK26=>zT fun _ hK27=>rm rfl F25 fun _ F28=>zc (w':=w24) rfl rfl F28 rfl (.bool false) (y_eqPN 25 _ Tryz.underlying25 (by kernel_rfl) _ rfl (F28 7 rfl)) fun _ F29=>?_)
 refine rm rfl F29 fun _ F30=>rm rfl F30 fun _ F31=>zh (zd rfl rfl rfl (F31 9 rfl)) rfl F31 rfl rfl (zE Tryz.func26 rfl) #[(zO g24)] (zca (F31 10 rfl)) (zda ((boot_is g24 V1 s24 n24 hI1 hE1 w24 (M24.hasV (kg:=0) (kr:=1) rfl rfl (by decide))))) ?_
 rintro _ w32 a32 ⟨rfl,b32⟩ F32
 have M32:=M24.step b32
 refine zB 2 [(0,.bool false),(1,(zO g24)),(13,.bool false)] [] dnil [] F32 fun _ F33=>?_
 refine hK27 _ _ (wp_cond_false (F33 13 rfl) (wp_skip (hK26 _ _ (zT fun _ hK34=>rm rfl F33 fun _ F35=>zc (w':=w32) rfl rfl F35 rfl (.agg (recA ⟨1,({ data:=#[97] }),[],0,0,[],0,0,0⟩ ⟨zN,zN⟩)) (by unfold execOp;simp only [List.map_toArray,List.map_cons,List.map_nil,];kernel_rfl) fun _ F36=>?_))))
 refine zh rfl rfl F36 rfl rfl (zE Tryz.func22 rfl) #[(zO g24),.agg (recA ⟨1,({ data:=#[97] }),[],0,0,[],0,0,0⟩ ⟨zN,zN⟩)] (zea (F36 14 rfl) (F36 15 rfl)) (put_is g24 V1 s24 n24 rA rvZero rA_ok hI1 (by decide) V2 0 hV2 hz2 w32 ⟨(zka _),(zka _)⟩ ⟨(zta _),(zta _)⟩ (M32.rowsV (i:=1) (k:=0) rfl rfl (by decide)) (M32.blk (k:=0) rfl)) ?_
 rintro _ w37 a37 ⟨rfl,s37,n37,hr37,ht37,hc37,hg37⟩ F37
 have M37:=M32.vault (kg:=0) (kr:=1) rfl rfl hg37 hc37 hr37 ht37
 clear M32 hg37 hc37 hr37 ht37
 refine rm rfl F37 fun _ F38=>hK34 _ _ (zT fun _ hK39=>rm rfl F38 fun _ F40=>zh rfl rfl F40 rfl rfl (zE Tryz.func24 rfl) #[(zO g24),.string ({ data:=#[97] })] (zea (F40 18 rfl) rfl) (get_yes g24 V2 s37 n37 hI2 ({ data:=#[97] }) 0 (by decide) hn2 rA h20.2.1 w37 (M37.hasV (kg:=0) (kr:=1) rfl rfl (by decide))) ?_)
 rintro _ w41 a41 ⟨U41,rfl,is41,lo41,b41⟩ F41
 have M41:=M37.newRec b41 is41 lo41 2 3
 clear M37 b41 lo41
 refine zB 3 [(0,.bool false),(1,(zO g24)),(2,zI 0),(20,.agg (recA rA U41)),(21,.bool true)] [] dnil [] F41 fun _ F42=>?_
 refine zq rfl rfl F42 rfl M41 4 (t:=37) (c:=recA ⟨0, "".toUTF8,[],0,0,[],0,0,0⟩ ⟨zN,zN⟩) (by unfold execOp;kernel_rfl) ?_
 intro g43 a43 w43 F43 M43
 refine zt rfl rfl F43 M43 (k:=4) rfl _ _ _ rfl (F43 3 rfl) (F43 20 rfl) (recA rA U41) _ rfl (zL rfl) (z3a (w:=w43) ⟨(M43.isb (k:=2) rfl),(M43.isb (k:=3) rfl)⟩) (zfa rfl) (by kernel_rfl) ?_
 intro w44 M44
 refine rm rfl F43 fun _ F45=>hK39 _ _ (zT fun _ hK46=>rm rfl F45 fun _ F47=>zh rfl rfl F47 rfl rfl (zE Tryz.func25 rfl) #[(zO g24)] (zca (F47 22 rfl)) (names_is g24 V2 s37 n37 hI2 ([rA.s]) hL2 w44 (M44.hasV (kg:=0) (kr:=1) rfl rfl (by decide))) ?_)
 rintro _ w48 a48 ⟨⟨A48,c48,rfl,tx48⟩,b48⟩ F48
 have M48:=M44.step b48
 clear M44 tx48
 refine rm rfl F48 fun _ F49=>hK46 _ _ (zT fun _ hK50=>rm rfl F49 fun _ F51=>zh rfl rfl F51 rfl rfl (zE Tryz.func30 rfl) #[(zO g24),zN] (zea (F51 24 rfl) rfl) (again_isV g24 V2 s37 n37 none 0 0 (fun _=>0) (Nat.le_refl _) hI2 (by decide) hE2 (by decide) (by decide) V3 hV3 w48 (rdI_none _) (fun h=>absurd h.1 (Nat.not_lt_zero _)) (M48.rowsV (i:=1) (k:=0) rfl rfl (by decide)) (M48.blk (k:=0) rfl)) ?_)
 rintro _ w52 a52 ⟨s52,n52,hr52,ht52,hc52,hg52⟩ F52
 have M52:=M48.vault (kg:=0) (kr:=1) rfl rfl hg52 hc52 hr52 ht52
 clear M48 hg52 hc52 hr52 ht52
 refine hK50 _ _ (zT fun _ hK53=>zB 8 [(0,.bool false),(1,(zO g24)),(5,.slice A48 ([rA.s]).length c48),(31,.bool true),(33,.string rA.s)] [0] (zx (M52.blk (k:=4) rfl) dnil) [g43] F52 fun _ F54=>?_)
 refine zc (w':=w52) (zd rfl rfl rfl (F54 31 rfl)) rfl F54 rfl (.bool true) (y_eqS _ _ _ rfl (F54 33 rfl) rfl (decide_eq_true rfl)) fun _ F55=>?_
 refine zc (w':=w52) rfl rfl F55 rfl (.bool true) (zkb rfl (F55 31 rfl) (F55 34 rfl)) fun _ F56=>?_
 refine rm rfl F56 fun _ F57=>rm rfl F57 fun _ F58=>zc (w':=w52) (zd rfl rfl rfl (F58 36 rfl)) rfl F58 rfl (zI 1) (y_lnG 45 Tryz.underlying45 _ rfl (F58 37 rfl) rfl) fun _ F59=>?_
 refine zB 4 [(0,.bool false),(1,(zO g24)),(41,.bool true),(42,(zO g24))] [] dnil [] F59 fun _ F60=>?_
 refine zh (zd rfl rfl rfl (F60 41 rfl)) rfl F60 rfl rfl (zE Tryz.func26 rfl) #[(zO g24)] (zca (F60 42 rfl)) (zda ((boot_is g24 V3 s52 n52 hI3 hE3 w52 (M52.hasV (kg:=0) (kr:=1) rfl rfl (by decide))))) ?_
 rintro _ w61 a61 ⟨rfl,b61⟩ F61
 have M61:=M52.step b61
 refine zc (w':=w61) (zd rfl rfl rfl (F61 41 rfl)) rfl F61 rfl (.bool true) (zva _ _ _ _ rfl (F61 43 rfl) rfl Tryz.underlying3 (zlb (by decide))) fun _ F62=>?_
 refine zc (w':=w61) rfl rfl F62 rfl (.bool true) (zkb rfl (F62 41 rfl) (F62 44 rfl)) fun _ F63=>?_
 refine rm rfl F63 fun _ F64=>rm rfl F64 fun _ F65=>zh (zd rfl rfl rfl (F65 46 rfl)) rfl F65 rfl rfl (zE Tryz.func32 rfl) #[(zO g24)] (zca (F65 47 rfl)) (zda ((dead_is g24 V3 s52 n52 false hd3 w61 (M61.hasV (kg:=0) (kr:=1) rfl rfl (by decide))))) ?_
 rintro _ w66 a66 ⟨rfl,b66⟩ F66
 have M66:=M61.step b66
 refine zB 4 [(0,.bool false),(51,.bool true),(52,(zO g24))] [] dnil [] F66 fun _ F67=>?_
 refine zh (zd rfl rfl rfl (F67 51 rfl)) rfl F67 rfl rfl (zE Tryz.func28 rfl) #[(zO g24)] (zca (F67 52 rfl)) (cells_is g24 V3 s52 n52 hI3 w66 (M66.hasV (kg:=0) (kr:=1) rfl rfl (by decide))) ?_
 rintro _ w68 a68 ⟨gq68,s68,n68,rfl,ce68,b68⟩ F68
 have M68:=M66.step b68
 clear M66 ce68
 refine zc (w':=w68) (zd rfl rfl rfl (F68 51 rfl)) rfl F68 rfl (zI 18) (y_lnG 49 Tryz.underlying49 _ rfl (F68 53 rfl) rfl) fun _ F69=>?_
 refine zB 3 [(0,.bool true)] [] dnil [] F69 fun _ F70=>?_
 exact hK53 _ _ (wp_ret (bodyPost_ret (res1 rfl (F70.get rfl)) F70.defers ⟨rfl,M68.below⟩))
section
open Go.Shelf
theorem in6 (a:Int) {n:Nat} (h:0<n):∃ k:Nat,a%(n:Int)=(k:Int)∧k<n:=by
 have h1:=Int.emod_nonneg a (show (n:Int)≠0 by omega)
 have h2:=Int.emod_lt_of_pos a (show (0:Int)<n by omega)
 exact ⟨(a%(n:Int)).toNat,by omega,by omega⟩
end
section
open Go.Shelf
section
variable {G:Option Nat} {w0 w w':World} {R:List (Nat×Res)} {gq:Nat} {c:Nat→CelN} {s n:Nat→Value}
variable {N i j:Nat} {B:Nat} {l:List UInt8} {v:Value}
end
/-! One cell is fresh. -/
def m1 (r:RecN):Nat→Option RecN:=updO (fun _=>none) 0 (some r)
end
structure HasX (w:World) (gx gc:Nat) (V:VltN) (L:Int) (s n:Nat→Value):Prop where
 hx:w.heap[gx]? = some (.cells #[.slice (some ⟨gc,0,none⟩) 18 18,zI L,.bool V.dd] 72 (0,0))
 hc:w.heap[gc]? = some (.cells (celA V.c s n) 63 (0,0))
 hs:∀ i,i<18→IsB w (V.c i).s (s i)
 hn:∀ i,i<18→IsB w (V.c i).n (n i)
theorem HasX.step {w w':World} {gx gc:Nat} {V:VltN} {L:Int} {s n:Nat→Value} (h:HasX w gx gc V L s n) (hb:Below w.heap.size w w'):HasX w' gx gc V L s n:=
 ⟨(hb.block gx (z8a h.hx)).trans h.hx,(hb.block gc (z8a h.hc)).trans h.hc,fun i hi=>(h.hs i hi).step hb,fun i hi=>(h.hn i hi).step hb⟩
def cntR (V:VltN) (q:Nat):Nat→Int×Int×List UInt8
 | 0=>(-1,0,[])
 | k+1=>if (zpb zr (q+k) (V.c (q+k)).s&&(decide ((cntR V q k).1<0)||decide ((cntR V q k).2.1<entT (V.c (q+k)).s)))=true then (((q+k:Nat):Int),entT (V.c (q+k)).s,entS (V.c (q+k)).s) else cntR V q k
theorem cntR_no {V:VltN} {q k:Nat} (h:zpb zr (q+k) (V.c (q+k)).s=false):cntR V q (k+1)=cntR V q k:=by
 unfold cntR;rw [h,Bool.false_and,if_neg (by decide)];cases k <;> rfl
theorem cntR_in {V:VltN} {q k:Nat} {a t:Int} {l:List UInt8} (e:cntR V q k=(a,t,l)) (h:zpb zr (q+k) (V.c (q+k)).s=true) (h2:a<0∨t<entT (V.c (q+k)).s):cntR V q (k+1)=(((q+k:Nat):Int),entT (V.c (q+k)).s,entS (V.c (q+k)).s):=by
 show (if _ then _ else _)=_
 rw [e,h,if_pos (by rcases h2 with h2 | h2 <;> simp [h2])]
theorem cntR_out {V:VltN} {q k:Nat} {a t:Int} {l:List UInt8} (e:cntR V q k=(a,t,l)) (h1:¬a<0) (h2:¬t<entT (V.c (q+k)).s):cntR V q (k+1)=(a,t,l):=by
 show (if _ then _ else cntR V q k)=_
 rw [e,if_neg (by simp [h1,h2])]
theorem cntR_2 (V:VltN) (q:Nat):cntR V q 2=if anyB zr V q=true then ((cntP V q:Int),cntT V q,cntS V q) else (-1,0,[]):=by
 obtain ⟨b1,h1⟩:∃ x,zpb zr q (V.c q).s=x:=⟨_,rfl⟩
 obtain ⟨b2,h2⟩:∃ x,zpb zr (q+1) (V.c (q+1)).s=x:=⟨_,rfl⟩
 have hs:=sec_eq h1 h2
 unfold anyB cntP cntT cntS
 rw [hs,h1]
 cases b1 with
 | false=>
  have e1:cntR V q 1=(-1,0,[]):=cntR_no (k:=0) h1
  cases b2 with
  | false=>rw [cntR_no (k:=1) h2,e1];rfl
  | true=>rw [cntR_in (k:=1) e1 h2 (.inl (by decide))];simp [entP,good_ge h2]
 | true=>
  have e1:cntR V q 1=((q:Int),entT (V.c q).s,entS (V.c q).s):=cntR_in (k:=0) rfl h1 (.inl (by decide))
  cases b2 with
  | false=>rw [cntR_no (k:=1) h2,e1];simp [entP,good_ge h1]
  | true=>
   by_cases hl:entT (V.c q).s<entT (V.c (q+1)).s
   ·rw [cntR_in (k:=1) e1 h2 (.inr hl)];simp [entP,good_ge h2,hl]
   ·rw [cntR_out (k:=1) e1 (by omega) hl];simp [entP,good_ge h1,hl]
theorem rgood_is {K:Nat} (p:Nat) (hp:p<18) (b:List UInt8) (bv:Value) (hK:CellOk K b) (x:Bool) (hx:zpb zr p b=x) (w:World) (hB:IsB w b bv):Calls Tryz.prog 92 #[zI (p:Int),bv] w fun e w'=>∃ t,e=.returned t∧∃ n S L,t=.tuple #[zI n,S,.bool x]∧IsB w L S∧(∀ g,bfp S g→bfp bv g)∧(x=true→n=entT b∧L=entS b)∧Below w.heap.size w w':=by
 subst hx;exact (rgood_any p hp b bv hK w hB).mono fun e w' ⟨n,S,L,h1,h2⟩=>⟨_,h1,n,S,L,rfl,h2⟩
theorem rcountsR_any {K:Nat} (gx gc:Nat) (V:VltN) (L:Int) (s n:Nat→Value) (hi:InvV K V) (p:Nat) (hp:p<9) (w:World) (h:HasX w gx gc V L s n):
  Calls Tryz.prog 62 #[(zO gx),zI (p:Int)] w fun e w'=>∃ S,e=.returned (.tuple #[zI (cntR V (2*p) 2).1,zI (cntR V (2*p) 2).2.1,S])∧IsB w (cntR V (2*p) 2).2.2 S∧Below w.heap.size w w':=by
 refine zk (args:=[(zO gx),zI (p:Int)]) 53 Tryz.func62 rfl rfl rfl ?_
 intro fa F
 have M:=Mx.start w
 replace M:=M.argO 0 h.hx (fun b e=>by cases e)
 replace M:=M.argO 1 h.hc (fun b e=>by cases e)
 refine zT fun _ hK1=>rm rfl F fun _ F2=>rm rfl F2 fun _ F3=>rm rfl F3 fun _ F4=>hK1 _ _ (zT fun _ hK5=>rm rfl F4 fun _ F6=>rm rfl F6 fun _ F7=>hK5 _ _ (zT fun _ hK8=>rm rfl F7 fun _ F9=>hK8 _ _ (zSk fun _ hK10=>zT fun _ hK11=>rm rfl F9 fun _ F12=>zc (w':=w) rfl rfl F12 rfl (zI ((2*p+0:Nat):Int)) (y_mulI _ _ _ _ rfl rfl (F12 14 rfl) (by omega) (by omega)) fun _ F13=>?_)))
 refine rm rfl F13 fun _ F14=>hK11 _ _ (wp_block ?_)
 refine zob (α:=Nat×Int×Int×List UInt8×Value) (n:=53) (G:=none) (w0:=w) (fun x=>[(0,(zO gx)),(1,zI (p:Int)),(4,zI 0),(5,zI 0),(6,zN),(14,zI (p:Int)),(15,zI ((2*p+0:Nat):Int)),(10,zI ((2*p+x.1:Nat):Int)),(7,zI x.2.1),(8,zI x.2.2.1),(9,x.2.2.2.2)]) (fun x=>[(0,blkO gx 72 (#[.slice (some ⟨gc,0,none⟩) 18 18,zI L,.bool V.dd])),(1,blkO gc 63 (celA V.c s n))]) (fun k x=>k=(2-x.1)∧(x.1≤2∧cntR V (2*p) x.1=(x.2.1,x.2.2.1,x.2.2.2.1)∧IsB w x.2.2.2.1 x.2.2.2.2)) _ ⟨0,(-1),0,[],(zN)⟩ ⟨rfl,⟨Nat.zero_le _,rfl,zka _⟩⟩ (F14.sb) (M.sb) ?_
 rintro k15 ⟨jn,av,tv,lv,sv⟩ a15 w15 K15 ⟨ek15,I15⟩ F15 M15 hK15
 replace F15:Fx 53 a15 [(0,(zO gx)),(1,zI (p:Int)),(4,zI 0),(5,zI 0),(6,zN),(14,zI (p:Int)),(15,zI ((2*p+0:Nat):Int)),(10,zI ((2*p+jn:Nat):Int)),(7,zI av),(8,zI tv),(9,sv)]:=F15
 replace M15:Mx _ _ w15 [(0,blkO gx 72 (#[.slice (some ⟨gc,0,none⟩) 18 18,zI L,.bool V.dd])),(1,blkO gc 63 (celA V.c s n))]:=M15
 replace I15:jn≤2∧cntR V (2*p) jn=(av,tv,lv)∧IsB w lv sv:=I15
 replace ek15:k15=(2-jn):=ek15
 obtain ⟨hj,hcR,hsv⟩:=I15
 by_cases h2:jn<2
 ·have hlt:2*p+jn<18:=by omega
  obtain ⟨bg,hbg⟩:∃ x,zpb zr (2*p+jn) (V.c (2*p+jn)).s=x:=⟨_,rfl⟩
  refine zSk fun _ hK16=>zT fun _ hK17=>rm rfl F15 fun _ F18=>rm rfl F18 fun _ F19=>zc (w':=w15) rfl rfl F19 rfl (zI ((2*p+0:Nat):Int)) (y_mulI _ _ _ _ rfl rfl (F19 17 rfl) (by omega) (by omega)) fun _ F20=>?_
  refine zc (w':=w15) rfl rfl F20 rfl (zI ((2*p+2:Nat):Int)) (zsa _ _ _ _ rfl (F20 18 rfl) rfl (by omega) (by omega)) fun _ F21=>?_
  refine zc (w':=w15) rfl rfl F21 rfl (.bool true) (zna _ _ _ _ rfl (F21 16 rfl) (F21 19 rfl) (decide_eq_true (show ((2*p+jn:Nat):Int)<((2*p+2:Nat):Int) by omega))) fun _ F22=>?_
  refine hK17 _ _ (wp_cond_true (F22 20 rfl) (wp_skip (hK16 _ _ (zSk fun _ hK23=>wp_block (zT fun _ hK24=>zAx 6 [(24,zI ((2*p+jn:Nat):Int)),(25,(zO gx)),(26,(zO gx)),(27,(zO gx)),(28,.slice (some ⟨gc,0,none⟩) 18 18),(29,zI ((2*p+jn:Nat):Int))] [0] (zx (M15.roB (k:=0) rfl) dnil) [gx] F22 fun _ F25=>?_)))))
  refine zc (w':=w15) rfl rfl F25 rfl (zP gc (3*(2*p+jn))) (zkc 49 (s:=3) Tryz.underlying49 (by kernel_rfl) _ _ rfl (F25 28 rfl) (F25 29 rfl) rfl hlt (by omega)) fun _ F26=>?_
  refine zc (w':=w15) rfl rfl F26 rfl (zP gc (3*(2*p+jn)+0)) (y_fa (off:=0) rfl (F26 30 rfl) (by kernel_rfl) rfl) fun _ F27=>?_
  refine zc (w':=w15) rfl rfl F27 rfl ((s (2*p+jn))) (zha _ _ rfl (F27 31 rfl) (M15.roB (k:=1) rfl) (cel_s V.c s n hlt) Tryz.underlying23 rfl) fun _ F28=>?_
  refine zh rfl rfl F28 rfl rfl (zE Tryz.func92 rfl) #[zI ((2*p+jn:Nat):Int),(s (2*p+jn))] (zea (F28 24 rfl) (F28 32 rfl)) (rgood_is (2*p+jn) hlt (V.c (2*p+jn)).s ((s (2*p+jn))) (hi _).1 bg hbg w15 ((h.hs (2*p+jn) hlt).step M15.below)) ?_
  rintro _ w29 a29 ⟨n29,S29,L29,rfl,hS29,hf29,hg29,b29⟩ F29
  have hS29:=hS29.back M15.below (fun g hg=>(h.hs _ hlt).lt (hf29 g hg))
  have M29:=M15.step b29
  refine zAx 7 [(23,.tuple #[zI n29,S29,.bool bg]),(34,zI n29),(35,S29),(36,.bool bg),(11,zI n29),(12,S29),(13,.bool bg)] [] dnil [] F29 fun _ F30=>?_
  refine hK24 _ _ (zT fun _ hK31=>rm rfl F30 fun _ F32=>rm rfl F32 fun _ F33=>?_)
  cases bg
  ·refine zAx 8 [(39,undef),(40,undef),(41,undef),(42,undef),(43,undef),(44,undef),(45,undef),(46,.bool false)] [] dnil [] F33 fun _ F34=>?_
   refine hK31 _ _ (wp_cond_false (F34 46 rfl) (wp_skip (hK23 _ _ (zR (rm rfl F34 fun _ F35=>zc (w':=w29) rfl rfl F35 rfl (zI ((2*p+(jn+1):Nat):Int)) (zsa _ _ _ _ rfl (F35 21 rfl) rfl (by omega) (by omega)) fun _ F36=>?_)))))
   refine rm rfl F36 fun _ F37=>?_
   subst ek15
   exact hK15 _ ⟨(jn+1),av,tv,lv,sv⟩ _ _ (by omega) ⟨rfl,⟨by omega,(by rw [cntR_no hbg];exact hcR),hsv⟩⟩ (F37.sb) (M29.sb)
  ·refine rm rfl F33 fun _ F38=>?_
   by_cases h39:av<0
   ·refine zc (w':=w29) (zd rfl rfl rfl (F38 38 rfl)) rfl F38 rfl (.bool true) (zna _ _ _ _ rfl (F38 39 rfl) rfl (decide_eq_true h39)) fun _ F40=>?_
    refine zAx 6 [(41,.bool true),(42,undef),(43,undef),(44,undef),(45,.bool true),(46,.bool true)] [] dnil [] F40 fun _ F41=>?_
    refine hK31 _ _ (wp_cond_true (F41 46 rfl) (zR (zAx 6 [(7,zI ((2*p+jn:Nat):Int)),(8,zI n29),(9,S29),(47,zI ((2*p+jn:Nat):Int)),(48,zI n29),(49,S29)] [] dnil [] F41 fun _ F42=>?_)))
    refine hK23 _ _ (zR (rm rfl F42 fun _ F43=>zc (w':=w29) rfl rfl F43 rfl (zI ((2*p+(jn+1):Nat):Int)) (zsa _ _ _ _ rfl (F43 21 rfl) rfl (by omega) (by omega)) fun _ F44=>?_))
    refine rm rfl F44 fun _ F45=>?_
    subst ek15
    exact hK15 _ ⟨(jn+1),((2*p+jn:Nat):Int),n29,L29,S29⟩ _ _ (by omega) ⟨rfl,⟨by omega,(by rw [cntR_in hcR hbg (.inl h39),←(hg29 rfl).1,←(hg29 rfl).2]),hS29⟩⟩ (F45.sb) (M29.sb)
   ·refine zc (w':=w29) (zd rfl rfl rfl (F38 38 rfl)) rfl F38 rfl (.bool false) (zna _ _ _ _ rfl (F38 39 rfl) rfl (decide_eq_false h39)) fun _ F46=>?_
    refine rm rfl F46 fun _ F47=>rm rfl F47 fun _ F48=>rm rfl F48 fun _ F49=>?_
    by_cases h50:tv<n29
    ·refine zc (w':=w29) (zd rfl rfl rfl (F49 41 rfl)) rfl F49 rfl (.bool true) (z2b _ _ _ _ rfl (F49 42 rfl) (F49 43 rfl) (decide_eq_true h50)) fun _ F51=>?_
     refine zAx 2 [(45,.bool true),(46,.bool true)] [] dnil [] F51 fun _ F52=>?_
     refine hK31 _ _ (wp_cond_true (F52 46 rfl) (zR (zAx 6 [(7,zI ((2*p+jn:Nat):Int)),(8,zI n29),(9,S29),(47,zI ((2*p+jn:Nat):Int)),(48,zI n29),(49,S29)] [] dnil [] F52 fun _ F53=>?_)))
     refine hK23 _ _ (zR (rm rfl F53 fun _ F54=>zc (w':=w29) rfl rfl F54 rfl (zI ((2*p+(jn+1):Nat):Int)) (zsa _ _ _ _ rfl (F54 21 rfl) rfl (by omega) (by omega)) fun _ F55=>?_))
     refine rm rfl F55 fun _ F56=>?_
     subst ek15
     exact hK15 _ ⟨(jn+1),((2*p+jn:Nat):Int),n29,L29,S29⟩ _ _ (by omega) ⟨rfl,⟨by omega,(by rw [cntR_in hcR hbg (.inr (by rw [←(hg29 rfl).1];exact h50)),←(hg29 rfl).1,←(hg29 rfl).2]),hS29⟩⟩ (F56.sb) (M29.sb)
    ·refine zc (w':=w29) (zd rfl rfl rfl (F49 41 rfl)) rfl F49 rfl (.bool false) (z2b _ _ _ _ rfl (F49 42 rfl) (F49 43 rfl) (decide_eq_false h50)) fun _ F57=>?_
     refine zAx 2 [(45,.bool false),(46,.bool false)] [] dnil [] F57 fun _ F58=>?_
     refine hK31 _ _ (wp_cond_false (F58 46 rfl) (wp_skip (hK23 _ _ (zR (rm rfl F58 fun _ F59=>zc (w':=w29) rfl rfl F59 rfl (zI ((2*p+(jn+1):Nat):Int)) (zsa _ _ _ _ rfl (F59 21 rfl) rfl (by omega) (by omega)) fun _ F60=>?_)))))
     refine rm rfl F60 fun _ F61=>?_
     subst ek15
     exact hK15 _ ⟨(jn+1),av,tv,lv,sv⟩ _ _ (by omega) ⟨rfl,⟨by omega,(cntR_out hcR h39 (by rw [←(hg29 rfl).1];exact h50)),hsv⟩⟩ (F61.sb) (M29.sb)
 ·have hj2:jn=2:=by omega
  have hc2:cntR V (2*p) 2=(av,tv,lv):=by rw [hj2] at hcR;exact hcR
  refine zSk fun _ hK62=>zT fun _ hK63=>rm rfl F15 fun _ F64=>rm rfl F64 fun _ F65=>zc (w':=w15) rfl rfl F65 rfl (zI ((2*p+0:Nat):Int)) (y_mulI _ _ _ _ rfl rfl (F65 17 rfl) (by omega) (by omega)) fun _ F66=>?_
  refine zc (w':=w15) rfl rfl F66 rfl (zI ((2*p+2:Nat):Int)) (zsa _ _ _ _ rfl (F66 18 rfl) rfl (by omega) (by omega)) fun _ F67=>?_
  refine zc (w':=w15) rfl rfl F67 rfl (.bool false) (zna _ _ _ _ rfl (F67 16 rfl) (F67 19 rfl) (decide_eq_false (show ¬((2*p+jn:Nat):Int)<((2*p+2:Nat):Int) by omega))) fun _ F68=>?_
  refine hK63 _ _ (wp_cond_false (F68 20 rfl) (wp_exit ?_))
  simp only [Exit.then,Exit.inBlock,↓reduceIte,Nat.reduceEqDiff]
  refine hK10 _ _ (zT fun _ hK69=>zAx 6 [(4,zI av),(5,zI tv),(6,sv),(50,zI av),(51,zI tv),(52,sv)] [] dnil [] F68 fun _ F70=>?_)
  exact hK69 _ _ (wp_ret (bodyPost_ret (res3 rfl (F70.get rfl) (F70.get rfl) (F70.get rfl)) F70.defers ⟨sv,(by rw [hc2]),(by rw [hc2];exact hsv),M15.below⟩))
def stpL (L:Int):Int:=if 0<L then L-1 else L
theorem rstep_any (gx gc:Nat) (L:Int) (hL3:L<9223372036854775808) (w:World) (hx:w.heap[gx]? = some (.cells (#[.slice (some ⟨gc,0,none⟩) 18 18,zI L,.bool false]) 72 (0,0))):
  Calls Tryz.prog 82 #[(zO gx)] w fun e w'=>∃ t,e=.returned t∧t=.bool (!decide (L=0))∧w'.heap[gx]? = some (.cells (#[.slice (some ⟨gc,0,none⟩) 18 18,zI (stpL L),.bool (decide (L=0))]) 72 (0,0))∧w.grownBy w' (some gx):=by
 refine zk (args:=[(zO gx)]) 29 Tryz.func82 rfl rfl rfl ?_
 intro fa F
 have M:=Mx.theG hx 0
 refine zT fun _ hK1=>rm rfl F fun _ F2=>hK1 _ _ (zSk fun _ hK3=>zT fun _ hK4=>zB 9 [(0,(zO gx)),(2,.bool false),(7,.bool false),(11,zI L)] [0,0] (zx (M.blk (k:=0) rfl) dnil) [gx,gx] F2 fun _ F5=>?_)
 by_cases h6:L=0
 ·refine zc (w':=w) (zd rfl rfl rfl (F5 7 rfl)) rfl F5 rfl (.bool true) (zva _ _ _ _ rfl (F5 11 rfl) rfl Tryz.underlying3 (zlb h6)) fun _ F7=>?_
  refine zc (w':=w) rfl rfl F7 rfl (.bool true) (zub rfl (F7 7 rfl) (F7 12 rfl)) fun _ F8=>?_
  refine hK4 _ _ (wp_cond_true (F8 13 rfl) (zT fun _ hK9=>zB 3 [(0,(zO gx)),(2,.bool false),(16,(zP gx 2))] [] dnil [] F8 fun _ F10=>?_))
  refine zt rfl rfl F10 M (k:=0) rfl _ _ _ rfl (F10 16 rfl) rfl (#[.bool true]) (#[.slice (some ⟨gc,0,none⟩) 18 18,zI L,.bool true]) rfl (zL rfl) (by simp [Value.oneCell']) (by kernel_rfl) (by kernel_rfl) ?_
  intro w11 M11
  refine hK9 _ _ (zT fun _ hK12=>rm rfl F10 fun _ F13=>hK12 _ _ (wp_ret ?_))
  try simp only [Exit.then,Exit.inBlock,Exit.jump]
  exact bodyPost_ret (res1 rfl (F13.get rfl)) F13.defers ⟨_,rfl,(by rw [decide_eq_true h6];rfl),(by rw [decide_eq_true h6,show stpL L=L from if_neg (by omega)];exact M11.blk (k:=0) rfl),M11.grown⟩
 ·refine zc (w':=w) (zd rfl rfl rfl (F5 7 rfl)) rfl F5 rfl (.bool false) (zva _ _ _ _ rfl (F5 11 rfl) rfl Tryz.underlying3 (zhb h6)) fun _ F14=>?_
  refine zc (w':=w) rfl rfl F14 rfl (.bool false) (zub rfl (F14 7 rfl) (F14 12 rfl)) fun _ F15=>?_
  refine hK4 _ _ (wp_cond_false (F15 13 rfl) (wp_skip (hK3 _ _ (zSk fun _ hK16=>zT fun _ hK17=>zB 4 [(0,(zO gx)),(2,.bool false),(20,zI L)] [0] (zx (M.blk (k:=0) rfl) dnil) [gx] F15 fun _ F18=>?_))))
  by_cases h19:0<L
  ·refine zc (w':=w) rfl rfl F18 rfl (.bool true) (z2b _ _ _ _ rfl (F18 20 rfl) rfl (decide_eq_true h19)) fun _ F20=>?_
   refine hK17 _ _ (wp_cond_true (F20 21 rfl) (zR (zB 4 [(2,.bool false),(22,(zO gx)),(25,zI L)] [0] (zx (M.blk (k:=0) rfl) dnil) [gx] F20 fun _ F21=>?_)))
   refine zc (w':=w) rfl rfl F21 rfl (zI (L-1)) (z3c _ _ _ _ rfl (F21 25 rfl) rfl (by omega) (by omega)) fun _ F22=>?_
   refine zB 2 [(2,.bool false),(26,zI (L-1)),(28,(zP gx 1))] [] dnil [] F22 fun _ F23=>?_
   refine zt rfl rfl F23 M (k:=0) rfl _ _ _ rfl (F23 28 rfl) (F23 26 rfl) (#[zI (L-1)]) (#[.slice (some ⟨gc,0,none⟩) 18 18,zI (L-1),.bool false]) rfl (zL rfl) (zcc _ _) (by kernel_rfl) (by kernel_rfl) ?_
   intro w24 M24
   refine hK16 _ _ (zT fun _ hK25=>rm rfl F23 fun _ F26=>hK25 _ _ (wp_ret ?_))
   try simp only [Exit.then,Exit.inBlock,Exit.jump]
   exact bodyPost_ret (res1 rfl (F26.get rfl)) F26.defers ⟨_,rfl,(by rw [decide_eq_false h6];rfl),(by rw [decide_eq_false h6,show stpL L=_ from if_pos h19];exact M24.blk (k:=0) rfl),M24.grown⟩
  ·refine zc (w':=w) rfl rfl F18 rfl (.bool false) (z2b _ _ _ _ rfl (F18 20 rfl) rfl (decide_eq_false h19)) fun _ F27=>?_
   refine hK17 _ _ (wp_cond_false (F27 21 rfl) (wp_skip (hK16 _ _ (zT fun _ hK28=>rm rfl F27 fun _ F29=>hK28 _ _ (wp_ret ?_)))))
   try simp only [Exit.then,Exit.inBlock,Exit.jump]
   exact bodyPost_ret (res1 rfl (F29.get rfl)) F29.defers ⟨_,rfl,(by rw [decide_eq_false h6];rfl),(by rw [decide_eq_false h6,show stpL L=_ from if_neg h19];exact M.blk (k:=0) rfl),M.grown⟩
theorem rcounts_is {K:Nat} (gx gc:Nat) (V:VltN) (L:Int) (s n:Nat→Value) (hi:InvV K V) (p:Nat) (hp:p<9) {ca ct:Int} {cl:List UInt8} (hC:cntR V (2*p) 2=(ca,ct,cl)) (w:World) (h:HasX w gx gc V L s n):
  Calls Tryz.prog 62 #[(zO gx),zI (p:Int)] w fun e w'=>∃ t,e=.returned t∧∃ S,t=.tuple #[zI ca,zI ct,S]∧IsB w cl S∧Below w.heap.size w w':=
 (rcountsR_any gx gc V L s n hi p hp w h).mono fun e w' ⟨S,h1,h2,h3⟩=>by
  rw [hC] at h1 h2
  exact ⟨_,h1,S,rfl,h2,h3⟩
theorem cnt_any {V:VltN} {q:Nat} {ca ct:Int} {cl:List UInt8} (hC:cntR V q 2=(ca,ct,cl)):(anyB zr V q=true∧ca=(cntP V q:Int)∧ct=cntT V q∧cl=cntS V q)∨(anyB zr V q=false∧ca = -1∧ct=0∧cl=[]):=by
 rw [cntR_2] at hC
 by_cases h:anyB zr V q=true
 ·rw [if_pos h] at hC
  cases hC
  exact .inl ⟨h,rfl,rfl,rfl⟩
 ·rw [if_neg h] at hC
  cases hC
  exact .inr ⟨Bool.eq_false_iff.2 h,rfl,rfl,rfl⟩
theorem empty_cnt {V:VltN} {q:Nat} {ca ct:Int} {cl:List UInt8} (hC:cntR V q 2=(ca,ct,cl)):zwa V q=decide ((cl.length:Int)=0):=by
 unfold zwa
 rcases cnt_any hC with ⟨h,_,_,rfl⟩ | ⟨h,_,_,rfl⟩ <;> rw [h] <;> simp
def idx8 (p:Nat→Bool):Int:=if fst8 p<8 then (fst8 p:Int) else -1
theorem idx8_at {p:Nat→Bool} {k:Nat} (hk:k<8) (h:fst8 p=k):idx8 p=(k:Int):=by unfold idx8;rw [h,if_pos hk]
theorem idx8_no {p:Nat→Bool} (h:fst8 p=fstN p 0 8):idx8 p = -1:=by unfold idx8;rw [h];rfl
theorem rfree_any {K:Nat} (gx gc:Nat) (V:VltN) (L:Int) (s n:Nat→Value) (hi:InvV K V) (w:World) (h:HasX w gx gc V L s n):
  Calls Tryz.prog 54 #[(zO gx)] w fun e w'=>e=.returned (zI (idx8 (fun i=>zwa V (2*i))))∧Below w.heap.size w w':=by
 refine zk (args:=[(zO gx)]) 22 Tryz.func54 rfl rfl rfl ?_
 intro fa F
 have M:=Mx.start w
 replace M:=M.argO 0 h.hx (fun b e=>by cases e)
 replace M:=M.argO 1 h.hc (fun b e=>by cases e)
 refine zT fun _ hK1=>rm rfl F fun _ F2=>hK1 _ _ (zSk fun _ hK3=>zT fun _ hK4=>rm rfl F2 fun _ F5=>hK4 _ _ (wp_block (zob (α:=Nat) (n:=22) (G:=none) (w0:=w) (fun x=>[(0,(zO gx)),(3,zI (x:Int))]) (fun x=>[(0,blkO gx 72 (#[.slice (some ⟨gc,0,none⟩) 18 18,zI L,.bool V.dd])),(1,blkO gc 63 (celA V.c s n))]) (fun k x=>k=(8-x)∧(x≤8∧fst8 (fun i=>zwa V (2*i))=fstN (fun i=>zwa V (2*i)) (8-x) x)) _ 0 ⟨rfl,⟨Nat.zero_le _,rfl⟩⟩ (F5.sb) (M.sb) ?_)))
 rintro k6 jn a6 w6 K6 ⟨ek6,I6⟩ F6 M6 hK6
 replace F6:Fx 22 a6 [(0,(zO gx)),(3,zI (jn:Int))]:=F6
 replace M6:Mx _ _ w6 [(0,blkO gx 72 (#[.slice (some ⟨gc,0,none⟩) 18 18,zI L,.bool V.dd])),(1,blkO gc 63 (celA V.c s n))]:=M6
 replace I6:jn≤8∧fst8 (fun i=>zwa V (2*i))=fstN (fun i=>zwa V (2*i)) (8-jn) jn:=I6
 replace ek6:k6=(8-jn):=ek6
 obtain ⟨hj,hf⟩:=I6
 by_cases h8:jn<8
 ·obtain ⟨ca,ct,cl,hC⟩:∃ a t l,cntR V (2*jn) 2=(a,t,l):=⟨_,_,_,rfl⟩
  refine zSk fun _ hK7=>zT fun _ hK8=>rm rfl F6 fun _ F9=>zc (w':=w6) rfl rfl F9 rfl (.bool true) (zna _ _ _ _ rfl (F9 7 rfl) rfl (decide_eq_true (show (jn:Int)<8 by omega))) fun _ F10=>?_
  refine hK8 _ _ (wp_cond_true (F10 8 rfl) (wp_skip (hK7 _ _ (zSk fun _ hK11=>wp_block (zT fun _ hK12=>rm rfl F10 fun _ F13=>rm rfl F13 fun _ F14=>zh rfl rfl F14 rfl rfl (zE Tryz.func62 rfl) #[(zO gx),zI (jn:Int)] (zea (F14 12 rfl) (F14 13 rfl)) (rcounts_is gx gc V L s n hi jn (by omega) hC w6 (h.step M6.below)) ?_)))))
  rintro _ w15 a15 ⟨S15,rfl,hS15,b15⟩ F15
  have M15:=M6.step b15
  have lS15:=hS15.step b15
  refine zB 7 [(0,(zO gx)),(3,zI (jn:Int)),(6,S15)] [] dnil [] F15 fun _ F16=>?_
  refine hK12 _ _ (zT fun _ hK17=>rm rfl F16 fun _ F18=>zc (w':=w15) rfl rfl F18 rfl (zI (cl.length:Int)) (zcb _ rfl (F18 18 rfl) lS15 rfl) fun _ F19=>?_)
  by_cases h20:(cl.length:Int)=0
  ·refine zc (w':=w15) rfl rfl F19 rfl (.bool true) (zva _ _ _ _ rfl (F19 19 rfl) rfl Tryz.underlying3 (zlb h20)) fun _ F21=>?_
   refine hK17 _ _ (wp_cond_true (F21 20 rfl) (zT fun _ hK22=>rm rfl F21 fun _ F23=>rm rfl F23 fun _ F24=>hK22 _ _ (wp_ret ?_)))
   try simp only [Exit.then,Exit.inBlock,Exit.jump]
   exact bodyPost_ret (res1 rfl (F24.get rfl)) F24.defers ⟨(by rw [idx8_at h8 (fst_here h8 (show zwa V (2*jn)=true by rw [empty_cnt hC];exact decide_eq_true h20) hf)]),M15.below⟩
  ·refine zc (w':=w15) rfl rfl F19 rfl (.bool false) (zva _ _ _ _ rfl (F19 19 rfl) rfl Tryz.underlying3 (zhb h20)) fun _ F25=>?_
   refine hK17 _ _ (wp_cond_false (F25 20 rfl) (wp_skip (hK11 _ _ (zR (rm rfl F25 fun _ F26=>zc (w':=w15) rfl rfl F26 rfl (zI ((jn+1:Nat):Int)) (zsa _ _ _ _ rfl (F26 9 rfl) rfl (by omega) (by omega)) fun _ F27=>?_)))))
   refine rm rfl F27 fun _ F28=>?_
   subst ek6
   exact hK6 _ (jn+1) _ _ (by omega) ⟨rfl,⟨by omega,fst_next h8 (show zwa V (2*jn)=false by rw [empty_cnt hC];exact decide_eq_false h20) hf⟩⟩ (F28.sb) (M15.sb)
 ·have hj8:jn=8:=by omega
  refine zSk fun _ hK29=>zT fun _ hK30=>rm rfl F6 fun _ F31=>zc (w':=w6) rfl rfl F31 rfl (.bool false) (zna _ _ _ _ rfl (F31 7 rfl) rfl (decide_eq_false (show ¬(jn:Int)<8 by omega))) fun _ F32=>?_
  refine hK30 _ _ (wp_cond_false (F32 8 rfl) (wp_exit ?_))
  simp only [Exit.then,Exit.inBlock,↓reduceIte,Nat.reduceEqDiff]
  refine hK3 _ _ (zT fun _ hK33=>rm rfl F32 fun _ F34=>hK33 _ _ (wp_ret ?_))
  try simp only [Exit.then,Exit.inBlock,Exit.jump]
  exact bodyPost_ret (res1 rfl (F34.get rfl)) F34.defers ⟨(by rw [idx8_no (by rw [hf,hj8])]),M6.below⟩
section
open Go.Shelf
def zgc (V:VltN):Int:=if V.fl=true then V.lf else -1
def LeftOk (V:VltN):Prop:=V.fl=true→0≤V.lf∧V.lf<9223372036854775808
theorem left_lt {V:VltN} (h:LeftOk V):zgc V<9223372036854775808:=by
 unfold zgc
 split
 ·exact (h (by assumption)).2
 ·decide
theorem left_fall (V:VltN):zpc V=decide (zgc V=0):=by
 unfold zpc zgc
 cases V.fl with
 | true=>rfl
 | false=>rfl
theorem left_down {V W:VltN} (h:LeftOk V) (hf:zpc V=false) (h1:W.fl=V.fl) (h2:W.lf=IntKind.i64.wrap (V.lf-1)):zgc W=stpL (zgc V)∧LeftOk W:=by
 unfold LeftOk zgc stpL
 rw [h1,h2]
 cases hfl:V.fl with
 | false=>exact ⟨rfl,fun e=>by cases e⟩
 | true=>
  obtain ⟨h3,h4⟩:=h hfl
  have h0:¬V.lf=0:=fun e=>by unfold zpc at hf;rw [hfl,e] at hf;cases hf
  have w1:IntKind.i64.wrap (V.lf-1)=V.lf-1:=by rw [IntKind.wrap_i64];omega
  simp only [if_true]
  rw [w1,if_pos (by omega)]
  exact ⟨rfl,fun _=>by omega⟩
theorem left_lay {V:VltN} (h:LeftOk V) (hf:zpc V=false) (p:Nat) (b:List UInt8):zgc (zjc V p b)=stpL (zgc V)∧LeftOk (zjc V p b):=left_down h hf rfl rfl
theorem left_keep {V:VltN} (h:LeftOk V) (hf:zpc V=false) (p:Nat):zgc (keepV V p)=stpL (zgc V)∧LeftOk (keepV V p):=left_down h hf rfl rfl
theorem say_1 {V:VltN} {q:Nat} {l:List UInt8} (h:zpc V=true):sayW V q l=(deadV V,false):=by unfold sayW wrtV;rw [if_pos h]
theorem say_2 {V:VltN} {q N:Nat} {l b:List UInt8} (hN:nxtP V q=N) (hb:z7a zr N (nxtT V q) l=b) (h:zpc V=false) (h2:zpc (zjc V N b)=true):sayW V q l=(deadV (zjc V N b),false):=by
 unfold sayW wrtV;rw [hN,hb,if_neg (by rw [h];decide),if_pos h2]
theorem say_3 {V:VltN} {q N:Nat} {l b:List UInt8} (hN:nxtP V q=N) (hb:z7a zr N (nxtT V q) l=b) (h:zpc V=false) (h2:zpc (zjc V N b)=false):sayW V q l=(keepV (zjc V N b) N,true):=by
 unfold sayW wrtV;rw [hN,hb,if_neg (by rw [h];decide),if_neg (by rw [h2];decide)]
theorem left_say {V:VltN} (h:LeftOk V) (q:Nat) (l:List UInt8):LeftOk (sayW V q l).1:=by
 obtain ⟨b1,h1⟩:∃ x,zpc V=x:=⟨_,rfl⟩
 cases b1 with
 | true=>rw [say_1 h1];exact h
 | false=>
  have h3:=left_lay h h1 (nxtP V q) (z7a zr (nxtP V q) (nxtT V q) l)
  obtain ⟨b2,h2⟩:∃ x,zpc (zjc V (nxtP V q) (z7a zr (nxtP V q) (nxtT V q) l))=x:=⟨_,rfl⟩
  cases b2 with
  | true=>rw [say_2 rfl rfl h1 h2];exact h3.2
  | false=>rw [say_3 rfl rfl h1 h2];exact (left_keep h3.2 h2 _).2
theorem nxt_cnt {V:VltN} {q:Nat} {ca ct:Int} {cl:List UInt8} (hC:cntR V q 2=(ca,ct,cl)):((nxtP V q:Nat):Int)=(if ca=(q:Int) then (q:Int)+1 else (q:Int))∧nxtT V q=ct+1:=by
 unfold nxtP nxtT
 rcases cnt_any hC with ⟨h,rfl,rfl,_⟩ | ⟨h,rfl,rfl,_⟩
 ·rw [if_pos h,if_pos h]
  rcases cntP_in h with e | e
  ·rw [e,if_pos rfl];exact ⟨by omega,rfl⟩
  ·rw [e,if_neg (by omega)];exact ⟨by omega,rfl⟩
 ·rw [h,if_neg Bool.false_ne_true,if_neg Bool.false_ne_true,if_neg (by omega)];exact ⟨rfl,rfl⟩
end
section
open Go.Shelf
section
theorem cel_putN (c:Nat→CelN) (s n:Nat→Value) (u:Value):∀ {p:Nat},p<18→((celA c s n).toList.take (3*p+1)++(#[u]:Array Value).toList++(celA c s n).toList.drop (3*p+1+(#[u]:Array Value).size)).toArray=celA c s (putN n p u)
 | p,h=>by
  match p,h with
  | 0,_ | 1,_ | 2,_ | 3,_ | 4,_ | 5,_ | 6,_ | 7,_ | 8,_ | 9,_ | 10,_ | 11,_ | 12,_ | 13,_ | 14,_ | 15,_ | 16,_ | 17,_=>show _=_;kernel_rfl
  | k+18,h=>exact absurd h (by omega)
theorem cel_putF (c:Nat→CelN) (s n:Nat→Value) (x y:List UInt8) (b:Bool):∀ {p:Nat},p<18→((celA c s n).toList.take (3*p+2)++(#[.bool b]:Array Value).toList++(celA c s n).toList.drop (3*p+2+(#[.bool b]:Array Value).size)).toArray=celA (putC c p ⟨x,y,b⟩) s n
 | p,h=>by
  match p,h with
  | 0,_ | 1,_ | 2,_ | 3,_ | 4,_ | 5,_ | 6,_ | 7,_ | 8,_ | 9,_ | 10,_ | 11,_ | 12,_ | 13,_ | 14,_ | 15,_ | 16,_ | 17,_=>show _=_;kernel_rfl
  | k+18,h=>exact absurd h (by omega)
end
section
variable {G:Option Nat} {w0 w:World} {R:List (Nat×Res)} {B N i k:Nat} {c c':Nat→CelN} {s n s' n':Nat→Value}
theorem Mx.rowsTo (M:Mx G w0 w R) (h:look R i=some (zza B N c s n)) {l:List UInt8} {u:Value} (hu:look R k=some (ownR l u)) (hB:∀ b,bfp u b→B≤b)
  (hs:∀ j,j<N→((c' j).s=(c j).s∧s' j=s j)∨((c' j).s=l∧s' j=u)∨((c' j).s=[]∧s' j=zN)) (hn:∀ j,j<N→((c' j).n=(c j).n∧n' j=n j)∨((c' j).n=l∧n' j=u)∨((c' j).n=[]∧n' j=zN)):
  Mx G w0 w ((i,zza B N c' s' n')::(k,bytR l u)::R):=by
 have hik:¬k=i:=fun e=>by subst e;rw [h] at hu;cases hu
 have M2:=M.tame hu
 have hsub:∀ b,zo N s' n' b→zo N s n b∨bfp u b:=fun b ⟨j,hj,hb⟩=>by
  rcases hb with hb | hb
  ·rcases hs j hj with ⟨_,e⟩ | ⟨_,e⟩ | ⟨_,e⟩ <;> rw [e] at hb
   ·exact .inl ⟨j,hj,.inl hb⟩
   ·exact .inr hb
   ·exact absurd hb (zta b)
  ·rcases hn j hj with ⟨_,e⟩ | ⟨_,e⟩ | ⟨_,e⟩ <;> rw [e] at hb
   ·exact .inl ⟨j,hj,.inr hb⟩
   ·exact .inr hb
   ·exact absurd hb (zta b)
 refine M2.cons i _ (fun j hj=>⟨?_,?_,fun b hb=>?_⟩) rows_dep (fun b hb=>?_) (fun e=>by cases e) fun q t e hq hw b hb hb2=>?_
 ·rcases hs j hj with ⟨e1,e2⟩ | ⟨e1,e2⟩ | ⟨e1,e2⟩ <;> rw [e1,e2]
  ·exact (M.rowsAt h j hj).1
  ·exact M.isO hu
  ·exact zka _
 ·rcases hn j hj with ⟨e1,e2⟩ | ⟨e1,e2⟩ | ⟨e1,e2⟩ <;> rw [e1,e2]
  ·exact (M.rowsAt h j hj).2.1
  ·exact M.isO hu
  ·exact zka _
 ·rcases hb with hb | hb
  ·rcases hs j hj with ⟨_,e⟩ | ⟨_,e⟩ | ⟨_,e⟩ <;> rw [e] at hb
   ·exact (M.rowsAt h j hj).2.2 b (.inl hb)
   ·exact hB b hb
   ·exact absurd hb (zta b)
  ·rcases hn j hj with ⟨_,e⟩ | ⟨_,e⟩ | ⟨_,e⟩ <;> rw [e] at hb
   ·exact (M.rowsAt h j hj).2.2 b (.inr hb)
   ·exact hB b hb
   ·exact absurd hb (zta b)
 ·rcases hsub b hb with hb | hb
  ·exact M.lt i _ h b hb
  ·exact (M.isO hu).lt hb
 ·rcases hw with hw | hw
  ·cases hw
  rw [zz] at e
  split at e
  ·cases e;cases hw
  ·rename_i hkq
   rcases hsub b hb with hb | hb
   ·exact M.dis q i t _ e h (fun e2=>hq e2.symm) hw b hb2 hb
   ·exact M.dis q k t _ e hu (fun e2=>hkq e2.symm) hw b hb2 (z1a hb)
def staysR (w:World) (gx gc:Nat):Res:=⟨false,fun g=>(g≠gx∧g≠gc)∧g<w.heap.size,fun u=>w.heap.size≤u.heap.size∧∀ g,g≠gx→g≠gc→g<w.heap.size→u.heap[g]? = w.heap[g]?⟩
theorem staysR_dep {gx gc:Nat}:∀ u u',Same (staysR w gx gc).fp u u'→(staysR w gx gc).F u→(staysR w gx gc).F u':=fun u u' hs h=>⟨Nat.le_trans h.1 hs.size,fun g h1 h2 h3=>by
 have e:=h.2 g h1 h2 h3
 rw [←e]
 have e2:w.heap[g]? = some w.heap[g]:=Array.getElem?_eq_getElem h3
 rw [e2] at e
 rw [e]
 exact hs.at_ g _ ⟨⟨h1,h2⟩,h3⟩ e⟩
theorem Mx.two {gx gc:Nat} {tx tc:TypeId} {a b:Array Value} (hx:w.heap[gx]? = some (.cells a tx (0,0))) (hc:w.heap[gc]? = some (.cells b tc (0,0))) (hne:gx≠gc) (hr:∀ i,i<18→(IsB w (c i).s (s i)∧¬bfp (s i) gx∧¬bfp (s i) gc)∧(IsB w (c i).n (n i)∧¬bfp (n i) gx∧¬bfp (n i) gc)):
  Mx none { w with heap:=#[] } w [(0,blkR gx tx a),(1,blkR gc tc b),(2,zza 0 18 c s n),(5,staysR w gx gc)]:=by
 have M0:Mx none { w with heap:=#[] } w []:=⟨⟨rfl,rfl,rfl,Nat.zero_le _,fun k hk _=>absurd hk (Nat.not_lt_zero k)⟩,fun _ _ h=>(by cases h),fun _ _ h=>(by cases h),fun _ _ h=>(by cases h),fun _ _ h=>(by cases h),fun _ _ _ _ h=>(by cases h)⟩
 have M1:=M0.cons 5 (staysR w gx gc) ⟨Nat.le_refl _,fun _ _ _ _=>rfl⟩ staysR_dep (fun g hg=>hg.2) (fun e=>by cases e) fun k t e=>by cases e
 have M2:=M1.cons 2 (zza 0 18 c s n) (fun i hi=>⟨(hr i hi).1.1,(hr i hi).2.1,fun _ _=>Nat.zero_le _⟩) rows_dep (fun g ⟨j,hj,hg⟩=>hg.elim (fun h=>(hr j hj).1.1.lt h) (fun h=>(hr j hj).2.1.lt h)) (fun e=>by cases e) fun k t e hk hw=>by
  rw [zz] at e
  split at e
  ·cases e;rcases hw with hw | hw <;> cases hw
  ·cases e
 have M3:=M2.cons 1 (blkR gc tc b) hc z9c (fun g hg=>by cases hg;exact z8a hc) (fun _ _ _=>.inl (Nat.zero_le _)) fun k t e hk hw g hg h2=>by
  cases hg
  rw [zz] at e
  split at e
  ·cases e
   obtain ⟨j,hj,h⟩:=h2
   rcases h with h | h
   ·exact (hr j hj).1.2.2 h
   ·exact (hr j hj).2.2.2 h
  ·rw [zz] at e
   split at e
   ·cases e;exact h2.1.2 rfl
   ·cases e
 exact M3.cons 0 (blkR gx tx a) hx z9c (fun g hg=>by cases hg;exact z8a hx) (fun _ _ _=>.inl (Nat.zero_le _)) fun k t e hk hw g hg h2=>by
  cases hg
  rw [zz] at e
  split at e
  ·cases e;exact hne h2
  ·rw [zz] at e
   split at e
   ·cases e
    obtain ⟨j,hj,h⟩:=h2
    rcases h with h | h
    ·exact (hr j hj).1.2.1 h
    ·exact (hr j hj).2.2.1 h
   ·rw [zz] at e
    split at e
    ·cases e;exact h2.1.1 rfl
    ·cases e
theorem Mx.hasX (M:Mx G w0 w R) {gx gc kx kc kr:Nat} {V:VltN} {L:Int} (hx:look R kx=some (blkR gx 72 #[.slice (some ⟨gc,0,none⟩) 18 18,zI L,.bool V.dd])) (hc:look R kc=some (blkR gc 63 (celA V.c s n))) (hr:look R kr=some (zza 0 18 V.c s n)):HasX w gx gc V L s n:=
 ⟨M.blk hx,M.blk hc,fun i hi=>M.rowsS hr hi,fun i hi=>M.rowsN hr hi⟩
structure XOk (w:World) (gx gc:Nat) (V:VltN) (s n:Nat→Value):Prop where
 has:HasX w gx gc V (zgc V) s n
 ne:gx≠gc
 far:∀ i,i<18→(¬bfp (s i) gx∧¬bfp (n i) gx)∧¬bfp (s i) gc∧¬bfp (n i) gc
structure XTo (w w':World) (gx gc:Nat) (fp:Nat→Prop) (V':VltN):Prop where
 ok:∃ s' n',XOk w' gx gc V' s' n'∧∀ b,zo 18 s' n' b→fp b∨w.heap.size≤b
 size:w.heap.size≤w'.heap.size
 stay:∀ g,g≠gx→g≠gc→g<w.heap.size→w'.heap[g]? = w.heap[g]?
 os:w'.os=w.os
 tape:w'.tape=w.tape
 out:w'.output=w.output
theorem XTo.before {w w1 w':World} {gx gc:Nat} {fp:Nat→Prop} {V':VltN} (hb:Below w.heap.size w w1) (h:XTo w1 w' gx gc fp V'):XTo w w' gx gc fp V':=
 ⟨h.ok.elim fun s' h=>h.elim fun n' h=>⟨s',n',h.1,fun b hb'=>(h.2 b hb').imp id (Nat.le_trans hb.size)⟩,Nat.le_trans hb.size h.size,fun g h1 h2 h3=>(h.stay g h1 h2 (Nat.lt_of_lt_of_le h3 hb.size)).trans (hb.block g h3),h.os.trans hb.os,h.tape.trans hb.tape,h.out.trans hb.output⟩
theorem XOk.to {w w':World} {gx gc:Nat} {V:VltN} {s n:Nat→Value} (h:XOk w gx gc V s n) (hb:Below w.heap.size w w'):XTo w w' gx gc (zo 18 s n) V:=
 ⟨⟨s,n,⟨h.has.step hb,h.ne,h.far⟩,fun b hb=>.inl hb⟩,hb.size,fun g _ _ h3=>hb.block g h3,hb.os,hb.tape,hb.output⟩
theorem XOk.step {w w':World} {gx gc:Nat} {V:VltN} {s n:Nat→Value} (h:XOk w gx gc V s n) (hb:Below w.heap.size w w'):XOk w' gx gc V s n:=⟨h.has.step hb,h.ne,h.far⟩
theorem XOk.two {gx gc:Nat} {V:VltN} (h:XOk w gx gc V s n):Mx none { w with heap:=#[] } w [(0,blkR gx 72 #[.slice (some ⟨gc,0,none⟩) 18 18,zI (zgc V),.bool V.dd]),(1,blkR gc 63 (celA V.c s n)),(2,zza 0 18 V.c s n),(5,staysR w gx gc)]:=
 Mx.two h.has.hx h.has.hc h.ne fun i hi=>⟨⟨h.has.hs i hi,(h.far i hi).1.1,(h.far i hi).2.1⟩,h.has.hn i hi,(h.far i hi).1.2,(h.far i hi).2.2⟩
theorem Mx.newU {v:World} (M:Mx G w0 w R) {l:List UInt8} {u:Value} {gx gc:Nat} {tx tc:TypeId} {a b:Array Value} (hu:look R k=some (ownR l u)) (h0:look R 0=some (blkR gx tx a)) (h1:look R 1=some (blkR gc tc b)) (h5:look R 5=some (staysR v gx gc)) (hk:¬k=0∧¬k=1∧¬k=5):∀ q,bfp u q→v.heap.size≤q:=fun q hq=>by
 have e0:q≠gx:=fun e=>M.dis k 0 _ _ hu h0 hk.1 rfl q (z1a hq) e
 have e1:q≠gc:=fun e=>M.dis k 1 _ _ hu h1 hk.2.1 rfl q (z1a hq) e
 exact Nat.le_of_not_lt fun e=>M.dis k 5 _ _ hu h5 hk.2.2 rfl q (z1a hq) ⟨⟨e0,e1⟩,e⟩
theorem Mx.xto {v:World} (M:Mx none { v with heap:=#[] } w R) {gx gc:Nat} {V':VltN} {L:Int} {dd:Bool} {fp:Nat→Prop} (hne:gx≠gc) (h0:look R 0=some (blkR gx 72 #[.slice (some ⟨gc,0,none⟩) 18 18,zI L,.bool dd])) (h1:look R 1=some (blkR gc 63 (celA V'.c s n))) (h2:look R 2=some (zza 0 18 V'.c s n)) (h5:look R 5=some (staysR v gx gc)) (hL:L=zgc V') (hd:dd=V'.dd) (hto:∀ b,zo 18 s n b→fp b∨v.heap.size≤b):XTo v w gx gc fp V':=by
 subst hL hd
 have far:∀ {k g:Nat} {t:TypeId} {a:Array Value},look R k=some (blkR g t a)→k≠2→∀ i,i<18→¬bfp (s i) g∧¬bfp (n i) g:=fun hk hn i hi=>⟨fun e=>M.dis _ 2 _ _ hk h2 hn rfl _ rfl ⟨i,hi,.inl e⟩,fun e=>M.dis _ 2 _ _ hk h2 hn rfl _ rfl ⟨i,hi,.inr e⟩⟩
 have S:=M.at_ 5 _ h5
 exact ⟨⟨s,n,⟨M.hasX h0 h1 h2,hne,fun i hi=>⟨far h0 (by decide) i hi,far h1 (by decide) i hi⟩⟩,hto⟩,S.1,S.2,M.grown.os,M.grown.tape,M.grown.output⟩
def xR (gx gc:Nat) (V:VltN) (s n:Nat→Value):Res:=⟨true,fun b=>b=gx∨b=gc∨zo 18 s n b,fun w=>XOk w gx gc V s n⟩
theorem xR_dep {gx gc:Nat} {V:VltN}:∀ u u',Same (xR gx gc V s n).fp u u'→(xR gx gc V s n).F u→(xR gx gc V s n).F u':=fun u u' hs h=>
 ⟨⟨hs.at_ _ _ (.inl rfl) h.has.hx,hs.at_ _ _ (.inr (.inl rfl)) h.has.hc,fun i hi=>(h.has.hs i hi).same ⟨fun g o hg ho=>hs.at_ g o (.inr (.inr ⟨i,hi,.inl hg⟩)) ho,hs.size⟩,fun i hi=>(h.has.hn i hi).same ⟨fun g o hg ho=>hs.at_ g o (.inr (.inr ⟨i,hi,.inr hg⟩)) ho,hs.size⟩⟩,h.ne,h.far⟩
theorem XOk.lt {gx gc:Nat} {V:VltN} (h:XOk w gx gc V s n):∀ b,(xR gx gc V s n).fp b→b<w.heap.size:=fun b hb=>by
 rcases hb with rfl | rfl | ⟨i,hi,hb | hb⟩
 ·exact z8a h.has.hx
 ·exact z8a h.has.hc
 ·exact (h.has.hs i hi).lt hb
 ·exact (h.has.hn i hi).lt hb
theorem Mx.xOk (M:Mx G w0 w R) {gx gc:Nat} {V:VltN} (h:look R k=some (xR gx gc V s n)):XOk w gx gc V s n:=M.at_ k _ h
theorem Mx.xput (M:Mx G w0 w R) {gx gc:Nat} {V V':VltN} {w':World} (hk:look R k=some (xR gx gc V s n)) (h:XTo w w' gx gc (zo 18 s n) V'):∃ s' n',Mx G w0 w' ((k,xR gx gc V' s' n')::R):=by
 obtain ⟨s',n',ho,hf⟩:=h.ok
 have far:∀ g,g<w.heap.size→¬(xR gx gc V s n).fp g→w'.heap[g]? = w.heap[g]?:=fun g hg hn=>h.stay g (fun e=>hn (.inl e)) (fun e=>hn (.inr (.inl e))) hg
 have hto:∀ b,(xR gx gc V' s' n').fp b→(xR gx gc V s n).fp b∨w.heap.size≤b:=fun b hb=>by
  rcases hb with e | e | e
  ·exact .inl (.inl e)
  ·exact .inl (.inr (.inl e))
  ·exact (hf b e).imp (fun e=>.inr (.inr e)) id
 have keep:∀ j t,look R j=some t→k≠j→Same t.fp w w':=fun j t e hkj=>⟨fun g o hg ho=>(far g ((Array.getElem?_eq_some_iff.1 ho).1) fun e2=>M.dis k j _ t hk e hkj rfl g e2 hg).trans ho,h.size⟩
 refine ⟨s',n',⟨h.os.trans M.grown.os,h.tape.trans M.grown.tape,h.out.trans M.grown.output,Nat.le_trans M.grown.size h.size,fun q hq hn=>(far q (Nat.lt_of_lt_of_le hq M.le) fun e=>?_).trans (M.grown.block q hq hn)⟩,fun j t e=>?_,fun j t e=>?_,fun j t e=>?_,fun j t e ht g hg=>?_,fun j q t u e1 e2 hjq ht g hg hg2=>?_⟩
 ·rcases M.own k _ hk rfl q e with h | h
  ·omega
  ·exact hn h.symm
 ·rw [zz] at e;split at e
  ·cases e;exact ho
  ·rename_i hne;exact M.dep j t e w w' (keep j t e hne) (M.at_ j t e)
 ·rw [zz] at e;split at e
  ·cases e;exact xR_dep
  ·exact M.dep j t e
 ·rw [zz] at e;split at e
  ·cases e;exact ho.lt
  ·exact fun g hg=>Nat.lt_of_lt_of_le (M.lt j t e g hg) h.size
 ·rw [zz] at e;split at e
  ·cases e
   rcases hto g hg with h | h
   ·exact M.own k _ hk rfl g h
   ·exact .inl (Nat.le_trans M.le h)
  ·exact M.own j t e ht g hg
 ·rw [zz] at e1 e2
  by_cases h1:k=j
  ·rw [if_pos h1] at e1;cases e1
   rw [if_neg (fun e=>hjq (h1.symm.trans e))] at e2
   rcases hto g hg with h | h
   ·exact M.dis k q _ u hk e2 (fun e=>hjq (h1.symm.trans e)) rfl g h hg2
   ·have:=M.lt q u e2 g hg2;omega
  ·rw [if_neg h1] at e1
   by_cases h2:k=q
   ·rw [if_pos h2] at e2;cases e2
    rcases hto g hg2 with h | h
    ·exact M.dis k j _ t hk e1 h1 rfl g h hg
    ·have:=M.lt j t e1 g hg;omega
   ·rw [if_neg h2] at e2
    exact M.dis j q t u e1 e2 hjq ht g hg hg2
theorem Mx.xnew (M:Mx G w0 w R) {gx gc:Nat} {V:VltN} {w':World} (k:Nat) (hb:Below w.heap.size w w') (h:XOk w' gx gc V s n) (hx:w.heap.size≤gx) (hc:w.heap.size≤gc) (hr:∀ b,zo 18 s n b→w.heap.size≤b):Mx G w0 w' ((k,xR gx gc V s n)::R):=
 M.fresh hb k _ h xR_dep fun b hb=>⟨hb.elim (fun e=>e▸hx) fun e=>e.elim (fun e=>e▸hc) (hr b),h.lt b hb⟩
end
end
theorem lay_rs (V:VltN) (N:Nat) (sb:List UInt8) (u:Value) (s:Nat→Value):∀ j,j<18→(((zjc V N sb).c j).s=(V.c j).s∧s j=s j)∨(((zjc V N sb).c j).s=sb∧s j=u)∨(((zjc V N sb).c j).s=[]∧s j=zN):=fun j _=>by
 rw [show (zjc V N sb).c=putC V.c N ⟨(V.c N).s,sb,true⟩ from rfl]
 by_cases e:j=N
 ·subst e;exact .inl ⟨by rw [zdc],rfl⟩
 ·exact .inl ⟨by rw [ztc _ _ e],rfl⟩
theorem lay_rn (V:VltN) (N:Nat) (sb:List UInt8) (u:Value) (n:Nat→Value):∀ j,j<18→(((zjc V N sb).c j).n=(V.c j).n∧putN n N u j=n j)∨(((zjc V N sb).c j).n=sb∧putN n N u j=u)∨(((zjc V N sb).c j).n=[]∧putN n N u j=zN):=fun j _=>by
 rw [show (zjc V N sb).c=putC V.c N ⟨(V.c N).s,sb,true⟩ from rfl]
 by_cases e:j=N
 ·subst e;exact .inr (.inl ⟨by rw [zdc],putN_at ..⟩)
 ·exact .inl ⟨by rw [ztc _ _ e],if_neg e⟩
theorem keep_c (V:VltN) (N:Nat) (sb:List UInt8):(keepV (zjc V N sb) N).c=putC (putC V.c N ⟨(V.c N).s,sb,true⟩) N ⟨sb,[],false⟩:=by
 unfold keepV zjc
 dsimp only
 rw [zdc]
theorem keep_rs (V:VltN) (N:Nat) (sb:List UInt8) (u:Value) (s:Nat→Value):∀ j,j<18→((putC (putC V.c N ⟨(V.c N).s,sb,true⟩) N ⟨sb,[],false⟩ j).s=(V.c j).s∧putN s N u j=s j)∨((putC (putC V.c N ⟨(V.c N).s,sb,true⟩) N ⟨sb,[],false⟩ j).s=sb∧putN s N u j=u)∨((putC (putC V.c N ⟨(V.c N).s,sb,true⟩) N ⟨sb,[],false⟩ j).s=[]∧putN s N u j=zN):=fun j _=>by
 by_cases e:j=N
 ·subst e;exact .inr (.inl ⟨by rw [zdc],putN_at ..⟩)
 ·exact .inl ⟨by rw [ztc _ _ e,ztc _ _ e],if_neg e⟩
theorem keep_rn (V:VltN) (N:Nat) (sb:List UInt8) (u:Value) (n:Nat→Value):∀ j,j<18→((putC (putC V.c N ⟨(V.c N).s,sb,true⟩) N ⟨sb,[],false⟩ j).n=(V.c j).n∧putN (putN n N u) N (zN) j=n j)∨((putC (putC V.c N ⟨(V.c N).s,sb,true⟩) N ⟨sb,[],false⟩ j).n=sb∧putN (putN n N u) N (zN) j=u)∨((putC (putC V.c N ⟨(V.c N).s,sb,true⟩) N ⟨sb,[],false⟩ j).n=[]∧putN (putN n N u) N (zN) j=zN):=fun j _=>by
 by_cases e:j=N
 ·subst e;exact .inr (.inr ⟨by rw [zdc],putN_at ..⟩)
 ·exact .inl ⟨by rw [ztc _ _ e,ztc _ _ e],(if_neg e).trans (if_neg e)⟩
theorem cel_off {R:List (Nat×Res)} {i g:Nat} {T:TypeId} {b:Bool} {x x2 y:Array Value} (hb:b=false) (h:look R i=some (blkR g T (cond b x y))):look R i=some (blkR g T (cond b x2 y)):=by subst hb;exact h
theorem rstep_is (gx gc:Nat) (L:Int) (dd:Bool) (hd:dd=false) (b:Bool) (hb:(!decide (L=0))=b) (hL3:L<9223372036854775808) (w:World) (hx:w.heap[gx]? = some (.cells (#[.slice (some ⟨gc,0,none⟩) 18 18,zI L,.bool dd]) 72 (0,0))):
  Calls Tryz.prog 82 #[(zO gx)] w fun e w'=>∃ t,e=.returned t∧t=.bool b∧w'.heap[gx]? = some (.cells (#[.slice (some ⟨gc,0,none⟩) 18 18,zI (stpL L),.bool (!b)]) 72 (0,0))∧w.grownBy w' (some gx):=by
 subst hd hb
 rw [Bool.not_not]
 exact rstep_any gx gc L hL3 w hx
theorem put_fp {v:World} {s n s' n':Nat→Value} {u:Value} (hu:∀ q,bfp u q→v.heap.size≤q) {N:Nat} (hs:s'=s∨s'=putN s N u) (hn:n'=putN (putN n N u) N (zN)∨n'=putN n N u):∀ b,zo 18 s' n' b→zo 18 s n b∨v.heap.size≤b:=fun b ⟨i,hi,hb⟩=>by
 have e:∀ {f:Nat→Value} {x:Value},bfp (putN f N x i) b→bfp x b∨bfp (f i) b:=fun {f x} h=>by
  unfold putN at h
  split at h
  ·exact .inl h
  ·exact .inr h
 rcases hb with hb | hb
 ·rcases hs with rfl | rfl
  ·exact .inl ⟨i,hi,.inl hb⟩
  ·exact (e hb).elim (fun h=>.inr (hu b h)) fun h=>.inl ⟨i,hi,.inl h⟩
 ·rcases hn with rfl | rfl
  ·exact (e hb).elim (fun h=>absurd h (zta b)) fun h=>(e h).elim (fun h=>.inr (hu b h)) fun h=>.inl ⟨i,hi,.inr h⟩
  ·exact (e hb).elim (fun h=>.inr (hu b h)) fun h=>.inl ⟨i,hi,.inr h⟩
theorem xwrite_any (gx gc:Nat) {K:Nat} (V:VltN) (s n:Nat→Value) (hi:InvV K V) (hK:K<255) (hL:LeftOk V) (hdd:V.dd=false) (p:Nat) (hp:p<9) (l:List UInt8) (lv:Value) (hl:l.length≤1000) (w:World) (h:XOk w gx gc V s n) (hB:IsB w l lv) (hlv:∀ b,bfp lv b→b≠gx∧b≠gc):
  Calls Tryz.prog 55 #[(zO gx),zI (p:Int),lv] w fun e w'=>∃ t,e=.returned t∧t=zI (if (sayW V (2*p) l).2=true then 0 else 10)∧XTo w w' gx gc (zo 18 s n) (sayW V (2*p) l).1:=by
 have hi:=hi
 obtain ⟨L,hLv⟩:∃ x,zgc V=x:=⟨_,rfl⟩
 have hL3:L<9223372036854775808:=hLv▸left_lt hL
 obtain ⟨ca,ct,cl,hC⟩:∃ a t l,cntR V (2*p) 2=(a,t,l):=⟨_,_,_,rfl⟩
 have hnx:=nxt_cnt hC
 have hnb:=nxtT_bd hi (2*p)
 have hnp:=nxtP_in V (2*p)
 obtain ⟨T,hT⟩:∃ T:Nat,ct+1=(T:Int):=⟨(ct+1).toNat,by omega⟩
 obtain ⟨b1,hb1⟩:∃ x,(!decide (L=0))=x:=⟨_,rfl⟩
 have hS3:stpL L<9223372036854775808:=by unfold stpL;split <;> omega
 obtain ⟨b2,hb2⟩:∃ x,(!decide (stpL L=0))=x:=⟨_,rfl⟩
 refine zk (args:=[(zO gx),zI (p:Int),lv]) 65 Tryz.func55 rfl rfl rfl ?_
 intro fa F
 have M:=(h.two.part 3 (bytR l lv) hB z3b rfl (k:=5) rfl rfl (fun b hb=>⟨hlv b hb,hB.lt hb⟩))
 rw [hLv,hdd] at M
 refine zT fun _ hK1=>rm rfl F fun _ F2=>hK1 _ _ (zT fun _ hK3=>rm rfl F2 fun _ F4=>rm rfl F4 fun _ F5=>zh rfl rfl F5 rfl rfl (zE Tryz.func62 rfl) #[(zO gx),zI (p:Int)] (zea (F5 12 rfl) (F5 13 rfl)) (rcounts_is gx gc V L s n hi p hp hC w (M.hasX (kx:=0) (kc:=1) (kr:=2) (by rw [hdd];rfl) rfl rfl)) ?_)
 rintro _ w6 a6 ⟨S6,rfl,hS6,b6⟩ F6
 have M6:=M.step b6
 refine zB 7 [(0,(zO gx)),(1,zI (p:Int)),(2,lv),(6,zI 0),(7,zI ca),(8,zI ct)] [] dnil [] F6 fun _ F7=>?_
 refine hK3 _ _ (zT fun _ hK8=>rm rfl F7 fun _ F9=>zc (w':=w6) rfl rfl F9 rfl (zI ((2*p:Nat):Int)) (y_mulI _ _ _ _ rfl rfl (F9 18 rfl) (by omega) (by omega)) fun _ F10=>?_)
 refine rm rfl F10 fun _ F11=>hK8 _ _ (zSk fun K12 hK12=>?_)
 have J12:∀ (N:Nat) (aJ:Act) (wJ:World),(nxtP V (2*p)=N)→Fx 65 aJ [(0,(zO gx)),(1,zI (p:Int)),(2,lv),(8,zI ct),(10,zI (N:Int))]→Mx none ({ w with heap:=#[] }:World) wJ [(0,blkR gx 72 (#[.slice (some ⟨gc,0,none⟩) 18 18,zI L,.bool false])),(1,blkR gc 63 (celA V.c s n)),(2,zza 0 18 V.c s n),(3,bytR l lv),(5,staysR w gx gc)]→K12 aJ wJ:=by
  intro N a12 w12 I12 F12 M12
  refine hK12 _ _ ?_
  have hN:=I12
  have hN18:N<18:=by omega
  obtain ⟨sb,hsb⟩:∃ x,z7a zr N (T:Int) l=x:=⟨_,rfl⟩
  have hsv:z7a zr N (nxtT V (2*p)) l=sb:=by rw [hnx.2,hT];exact hsb
  refine zSk fun _ hK13=>zT fun _ hK14=>rm rfl F12 fun _ F15=>zh rfl rfl F15 rfl rfl (zE Tryz.func82 rfl) #[(zO gx)] (zca (F15 25 rfl)) (rstep_is gx gc L false rfl b1 hb1 hL3 w12 (M12.blk (k:=0) rfl)) ?_
  rintro _ w16 a16 ⟨rfl,hc16,hg16⟩ F16
  have M16:=M12.put (k:=0) rfl hg16 hc16
  clear M12 hg16 hc16
  cases b1
  ·refine zc (w':=w16) rfl rfl F16 rfl (.bool true) (zjb _ _ rfl (F16 26 rfl)) fun _ F17=>?_
   refine hK14 _ _ (wp_cond_true (F17 27 rfl) (zT fun _ hK18=>rm rfl F17 fun _ F19=>hK18 _ _ (wp_ret ?_)))
   try simp only [Exit.then,Exit.inBlock,Exit.jump]
   exact bodyPost_ret (res1 rfl (F19.get rfl)) F19.defers ⟨_,rfl,(by
    have hL0:L=0:=by simpa using hb1
    have hf1:zpc V=true:=by rw [left_fall,hLv,hL0];rfl
    rw [say_1 hf1]
    exact ⟨rfl,M16.xto h.ne rfl rfl rfl rfl (by rw [show zgc (deadV V)=zgc V from rfl,hLv,hL0];rfl) rfl fun b hb=>.inl hb⟩)⟩
  ·refine zc (w':=w16) rfl rfl F16 rfl (.bool false) (zjb _ _ rfl (F16 26 rfl)) fun _ F20=>?_
   refine hK14 _ _ (wp_cond_false (F20 27 rfl) (wp_skip (hK13 _ _ (zSk fun _ hK21=>?_))))
   refine zpa F20 [fun vE=>vE=(zO gx),fun vE=>vE=(zO gx),fun vE=>vE=(zO gx),fun vE=>vE=.slice (some ⟨gc,0,none⟩) 18 18,fun vE=>vE=zI (N:Int),fun vE=>vE=(zO gx),fun vE=>vE=(zO gx),fun vE=>vE=(zO gx),fun vE=>vE=.slice (some ⟨gc,0,none⟩) 18 18,fun vE=>vE=zI (N:Int),fun vE=>vE=zI (N:Int),fun vE=>vE=zI ct,fun vE=>vE=zI (T:Int),fun vE=>vE=lv,fun _=>True,fun vE=>vE=(zP gc (3*N)),fun vE=>vE=(zP gc (3*N+1)),fun vE=>vE=undef] (JM none ({ w with heap:=#[] }:World) fun SV pV=>[(0,blkR gx 72 (#[.slice (some ⟨gc,0,none⟩) 18 18,zI (stpL L),.bool false])),(1,blkR gc 63 (cond (SV 17) ((celA V.c s (putN n N ((pV 14))))) (celA V.c s n))),(2,zza 0 18 V.c s n),(3,bytR l lv),(5,staysR w gx gc),(6,z6a (SV 14) (ownR sb (pV 14)))]) 18 rfl (by kernel_rfl) rfl ⟨trivial,trivial,trivial,trivial,trivial,trivial,trivial,trivial,trivial,trivial,trivial,trivial,trivial,trivial,trivial,trivial,trivial,fun _=>Iff.rfl,trivial⟩ (fun p=>((M16.step (zma _)).triv 6).sub ⟨rfl,rfl,rfl,rfl,rfl,rfl,trivial⟩) ⟨?_,?_,?_,?_,?_,?_,?_,?_,?_,?_,?_,?_,?_,?_,?_,?_,?_,?_,trivial⟩ ?_
   ·intro ua uw SV pV M0 hk hn hd
    have M:Mx none ({ w with heap:=#[] }:World) uw _:=M0
    have e0:ua.eval (.tmp 0)=(zO gx):=(show ua.eval (.tmp 0)=_ from hd 0 (by decide)).trans (F20 0 rfl)
    exact ze rfl (zO gx) (zga _ (.inl rfl) e0) rfl (M.sb)
   ·intro ua uw SV pV M0 hk hn hd
    have M:Mx none ({ w with heap:=#[] }:World) uw _:=M0
    have e28:ua.eval (.tmp 28)=(zO gx):=zQ1 (hd 28 (by decide))
    exact ze rfl (zO gx) (by unfold execOp;simp only [e28];kernel_rfl) rfl (M.sb)
   ·intro ua uw SV pV M0 hk hn hd
    have M:Mx none ({ w with heap:=#[] }:World) uw _:=M0
    have e29:ua.eval (.tmp 29)=(zO gx):=zQ1 (hd 29 (by decide))
    exact ze rfl (zO gx) (y_fa (off:=0) rfl e29 (by kernel_rfl) rfl) rfl (M.sb)
   ·intro ua uw SV pV M0 hk hn hd
    have M:Mx none ({ w with heap:=#[] }:World) uw _:=M0
    have e30:ua.eval (.tmp 30)=(zO gx):=zQ1 (hd 30 (by decide))
    exact ze rfl (.slice (some ⟨gc,0,none⟩) 18 18) (zha _ _ rfl e30 (M.blk (k:=0) rfl) rfl Tryz.underlying49 rfl) rfl (M.sb)
   ·intro ua uw SV pV M0 hk hn hd
    have M:Mx none ({ w with heap:=#[] }:World) uw _:=M0
    have e10:ua.eval (.tmp 10)=zI (N:Int):=(show ua.eval (.tmp 10)=_ from hd 10 (by decide)).trans (F20 10 rfl)
    exact ze rfl (zI (N:Int)) (zga _ (.inl rfl) e10) rfl (M.sb)
   ·intro ua uw SV pV M0 hk hn hd
    have M:Mx none ({ w with heap:=#[] }:World) uw _:=M0
    have e0:ua.eval (.tmp 0)=(zO gx):=(show ua.eval (.tmp 0)=_ from hd 0 (by decide)).trans (F20 0 rfl)
    exact ze rfl (zO gx) (zga _ (.inl rfl) e0) rfl (M.sb)
   ·intro ua uw SV pV M0 hk hn hd
    have M:Mx none ({ w with heap:=#[] }:World) uw _:=M0
    have e33:ua.eval (.tmp 33)=(zO gx):=zQ1 (hd 33 (by decide))
    exact ze rfl (zO gx) (by unfold execOp;simp only [e33];kernel_rfl) rfl (M.sb)
   ·intro ua uw SV pV M0 hk hn hd
    have M:Mx none ({ w with heap:=#[] }:World) uw _:=M0
    have e34:ua.eval (.tmp 34)=(zO gx):=zQ1 (hd 34 (by decide))
    exact ze rfl (zO gx) (y_fa (off:=0) rfl e34 (by kernel_rfl) rfl) rfl (M.sb)
   ·intro ua uw SV pV M0 hk hn hd
    have M:Mx none ({ w with heap:=#[] }:World) uw _:=M0
    have e35:ua.eval (.tmp 35)=(zO gx):=zQ1 (hd 35 (by decide))
    exact ze rfl (.slice (some ⟨gc,0,none⟩) 18 18) (zha _ _ rfl e35 (M.blk (k:=0) rfl) rfl Tryz.underlying49 rfl) rfl (M.sb)
   ·intro ua uw SV pV M0 hk hn hd
    have M:Mx none ({ w with heap:=#[] }:World) uw _:=M0
    have e10:ua.eval (.tmp 10)=zI (N:Int):=(show ua.eval (.tmp 10)=_ from hd 10 (by decide)).trans (F20 10 rfl)
    exact ze rfl (zI (N:Int)) (zga _ (.inl rfl) e10) rfl (M.sb)
   ·intro ua uw SV pV M0 hk hn hd
    have M:Mx none ({ w with heap:=#[] }:World) uw _:=M0
    have e10:ua.eval (.tmp 10)=zI (N:Int):=(show ua.eval (.tmp 10)=_ from hd 10 (by decide)).trans (F20 10 rfl)
    exact ze rfl (zI (N:Int)) (zga _ (.inl rfl) e10) rfl (M.sb)
   ·intro ua uw SV pV M0 hk hn hd
    have M:Mx none ({ w with heap:=#[] }:World) uw _:=M0
    have e8:ua.eval (.tmp 8)=zI ct:=(show ua.eval (.tmp 8)=_ from hd 8 (by decide)).trans (F20 8 rfl)
    exact ze rfl (zI ct) (zga _ (.inl rfl) e8) rfl (M.sb)
   ·intro ua uw SV pV M0 hk hn hd
    have M:Mx none ({ w with heap:=#[] }:World) uw _:=M0
    have e39:ua.eval (.tmp 39)=zI ct:=zQ1 (hd 39 (by decide))
    exact ze rfl (zI (T:Int)) (zsa _ _ _ _ rfl e39 rfl (by omega) (by omega)) rfl (M.sb)
   ·intro ua uw SV pV M0 hk hn hd
    have M:Mx none ({ w with heap:=#[] }:World) uw _:=M0
    have e2:ua.eval (.tmp 2)=lv:=(show ua.eval (.tmp 2)=_ from hd 2 (by decide)).trans (F20 2 rfl)
    exact ze rfl (lv) (zga _ (.inl rfl) e2) rfl (M.sb)
   ·intro ua uw SV pV M0 hk hn hd
    have M:Mx none ({ w with heap:=#[] }:World) uw _:=M0
    have e38:ua.eval (.tmp 38)=zI (N:Int):=zQ1 (hd 38 (by decide))
    have e40:ua.eval (.tmp 40)=zI (T:Int):=zQ1 (hd 40 (by decide))
    have e41:ua.eval (.tmp 41)=lv:=zQ1 (hd 41 (by decide))
    exact zxa rfl rfl #[zI (N:Int),zI (T:Int),lv] (args3 e38 e40 e41) (zE Tryz.func83 rfl) (((hsb▸rsaid_any N T hN18 (by omega) l lv hl uw (M.isb (k:=3) rfl))).mono fun e w2 h=>(by obtain ⟨u,h1,h2,h3⟩:=h;exact ⟨u,h1,trivial,(M.newO h3 6 h2).sub ⟨rfl,(cel_off (hn 17 (by kernel_rfl)) rfl),rfl,rfl,rfl,rfl,trivial⟩⟩))
   ·intro ua uw SV pV M0 hk hn hd
    have M:Mx none ({ w with heap:=#[] }:World) uw _:=M0
    have e31:ua.eval (.tmp 31)=.slice (some ⟨gc,0,none⟩) 18 18:=zQ1 (hd 31 (by decide))
    have e32:ua.eval (.tmp 32)=zI (N:Int):=zQ1 (hd 32 (by decide))
    exact ze rfl (zP gc (3*N)) (zkc 49 (s:=3) Tryz.underlying49 (by kernel_rfl) _ _ rfl e31 e32 rfl hN18 (by omega)) rfl (M.sb)
   ·intro ua uw SV pV M0 hk hn hd
    have M:Mx none ({ w with heap:=#[] }:World) uw _:=M0
    have e43:ua.eval (.tmp 43)=(zP gc (3*N)):=zQ1 (hd 43 (by decide))
    exact ze rfl (zP gc (3*N+1)) (y_fa (off:=1) rfl e43 (by kernel_rfl) rfl) rfl (M.sb)
   ·intro ua uw SV pV M0 hk hn hd
    have M:Mx none ({ w with heap:=#[] }:World) uw _:=M0
    have e44:ua.eval (.tmp 44)=(zP gc (3*N+1)):=zQ1 (hd 44 (by decide))
    obtain ⟨s14,f42,q42⟩:=(show SV 14=true∧ua.eval (.tmp 42)=pV 14∧stE _ 14 (pV 14) from hd 42 (by decide))
    have e42:ua.eval (.tmp 42)=(pV 14):=f42
    exact hopM_doM rfl rfl (run_st M (k:=1) rfl _ _ _ rfl e44 e42 (#[(pV 14)]) ((celA V.c s (putN n N ((pV 14))))) (cells_slcB (M.isO (k:=6) (zya s14 rfl))) (by rw [hk];show 3*N+1+1≤54;omega) (one_slcB (M.isO (k:=6) (zya s14 rfl))) (by rw [hk];exact (cel_putN V.c s n ((pV 14)) hN18)) (by kernel_rfl)) (fun w2 h2=>h2.sub ⟨rfl,rfl,rfl,rfl,rfl,rfl,trivial⟩) rfl
   intro p22 a22 w22 M22 G22 y22
   obtain ⟨-,-,-,-,-,-,-,-,q8,q9,-,-,-,-,-,-,-,-,-⟩:=y22
   have r8:p22 8=.slice (some ⟨gc,0,none⟩) 18 18:=q8
   have r9:p22 9=zI (N:Int):=q9
   replace M22:Mx _ _ w22 [(0,blkR gx 72 (#[.slice (some ⟨gc,0,none⟩) 18 18,zI (stpL L),.bool false])),(1,blkR gc 63 (celA V.c s (putN n N ((p22 14))))),(2,zza 0 18 V.c s n),(3,bytR l lv),(5,staysR w gx gc),(6,z6a true (ownR sb (p22 14)))]:=M22
   simp only [List.take,layV,Nat.zero_add,Nat.reduceAdd,r8,r9] at G22
   refine zc (w':=w22) rfl rfl G22 rfl (zP gc (3*N)) (zkc 49 (s:=3) Tryz.underlying49 (by kernel_rfl) _ _ rfl (G22 36 rfl) (G22 37 rfl) rfl hN18 (by omega)) fun _ F23=>?_
   clear G22
   refine zc (w':=w22) rfl rfl F23 rfl (zP gc (3*N+2)) (y_fa (off:=2) rfl (F23 45 rfl) (by kernel_rfl) rfl) fun _ F24=>?_
   refine zt rfl rfl F24 M22 (k:=1) rfl _ _ _ rfl (F24 46 rfl) rfl (#[.bool true]) ((celA (putC V.c N ⟨(V.c N).s,sb,true⟩) s (putN n N ((p22 14))))) rfl (show 3*N+2+1≤54 by omega) (by simp [Value.oneCell']) (cel_putF V.c s (putN n N ((p22 14))) (V.c N).s sb true hN18) (by kernel_rfl) ?_
   intro w25 M25
   refine hK21 _ _ (zSk fun _ hK26=>zT fun _ hK27=>rm rfl F24 fun _ F28=>zh rfl rfl F28 rfl rfl (zE Tryz.func82 rfl) #[(zO gx)] (zca (F28 47 rfl)) (rstep_is gx gc (stpL L) false rfl b2 hb2 hS3 w25 (M25.blk (k:=0) rfl)) ?_)
   rintro _ w29 a29 ⟨rfl,hc29,hg29⟩ F29
   have M29:=M25.put (k:=0) rfl hg29 hc29
   clear M25 hg29 hc29
   cases b2
   ·refine zc (w':=w29) rfl rfl F29 rfl (.bool true) (zjb _ _ rfl (F29 48 rfl)) fun _ F30=>?_
    refine hK27 _ _ (wp_cond_true (F30 49 rfl) (zT fun _ hK31=>rm rfl F30 fun _ F32=>hK31 _ _ (wp_ret ?_)))
    try simp only [Exit.then,Exit.inBlock,Exit.jump]
    exact bodyPost_ret (res1 rfl (F32.get rfl)) F32.defers ⟨_,rfl,(by
     have hf1:zpc V=false:=by rw [left_fall,hLv];simpa using hb1
     have hl1:=left_lay hL hf1 N sb
     rw [hLv] at hl1
     have hS0:stpL L=0:=by simpa using hb2
     have hf2:zpc (zjc V N sb)=true:=by rw [left_fall,hl1.1,hS0];rfl
     rw [say_2 hN hsv hf1 hf2]
     have hu:=M29.newU (k:=6) rfl rfl rfl rfl (by decide)
     exact ⟨rfl,(M29.rowsTo (i:=2) (k:=6) (c':=(zjc V N sb).c) rfl rfl (fun _ _=>Nat.zero_le _) (lay_rs V N sb _ s) (lay_rn V N sb _ n)).xto h.ne rfl rfl rfl rfl (by rw [show zgc (deadV (zjc V N sb))=zgc (zjc V N sb) from rfl,hl1.1,hS0];rfl) rfl (put_fp hu (.inl rfl) (.inr rfl))⟩)⟩
   ·refine zc (w':=w29) rfl rfl F29 rfl (.bool false) (zjb _ _ rfl (F29 48 rfl)) fun _ F33=>?_
    refine hK27 _ _ (wp_cond_false (F33 49 rfl) (wp_skip (hK26 _ _ (zSk fun _ hK34=>?_))))
    obtain ⟨Aw,cw,hw⟩:=(M29.isO (k:=6) rfl).shape
    rw [hw] at M29
    try rw [hw] at F33
    refine zpa F33 [fun vE=>vE=(zO gx),fun vE=>vE=(zO gx),fun vE=>vE=(zO gx),fun vE=>vE=.slice (some ⟨gc,0,none⟩) 18 18,fun vE=>vE=zI (N:Int),fun vE=>vE=(zO gx),fun vE=>vE=(zO gx),fun vE=>vE=(zO gx),fun vE=>vE=.slice (some ⟨gc,0,none⟩) 18 18,fun vE=>vE=zI (N:Int),fun vE=>vE=(zP gc (3*N)),fun vE=>vE=(zP gc (3*N+1)),fun vE=>vE=.slice Aw sb.length cw,fun vE=>vE=.agg (#[.slice Aw sb.length cw,zN,.bool false]),fun vE=>vE=(zP gc (3*N))] (JM none ({ w with heap:=#[] }:World) fun SV pV=>[(0,blkR gx 72 (#[.slice (some ⟨gc,0,none⟩) 18 18,zI (stpL (stpL L)),.bool false])),(1,blkR gc 63 (celA (putC V.c N ⟨(V.c N).s,sb,true⟩) s (putN n N (.slice Aw sb.length cw)))),(2,zza 0 18 V.c s n),(3,bytR l lv),(5,staysR w gx gc),(6,ownR sb (.slice Aw sb.length cw))]) 15 rfl (by kernel_rfl) rfl ⟨trivial,trivial,trivial,trivial,trivial,trivial,trivial,trivial,trivial,trivial,trivial,trivial,trivial,trivial,trivial,trivial⟩ (fun p=>(M29.step (zma _)).sub ⟨rfl,rfl,rfl,rfl,rfl,rfl,trivial⟩) ⟨?_,?_,?_,?_,?_,?_,?_,?_,?_,?_,?_,?_,?_,?_,?_,trivial⟩ ?_
    ·intro ua uw SV pV M0 hk hn hd
     have M:Mx none ({ w with heap:=#[] }:World) uw _:=M0
     have e0:ua.eval (.tmp 0)=(zO gx):=(show ua.eval (.tmp 0)=_ from hd 0 (by decide)).trans (F33 0 rfl)
     exact ze rfl (zO gx) (zga _ (.inl rfl) e0) rfl (M.sb)
    ·intro ua uw SV pV M0 hk hn hd
     have M:Mx none ({ w with heap:=#[] }:World) uw _:=M0
     have e50:ua.eval (.tmp 50)=(zO gx):=zQ1 (hd 50 (by decide))
     exact ze rfl (zO gx) (by unfold execOp;simp only [e50];kernel_rfl) rfl (M.sb)
    ·intro ua uw SV pV M0 hk hn hd
     have M:Mx none ({ w with heap:=#[] }:World) uw _:=M0
     have e51:ua.eval (.tmp 51)=(zO gx):=zQ1 (hd 51 (by decide))
     exact ze rfl (zO gx) (y_fa (off:=0) rfl e51 (by kernel_rfl) rfl) rfl (M.sb)
    ·intro ua uw SV pV M0 hk hn hd
     have M:Mx none ({ w with heap:=#[] }:World) uw _:=M0
     have e52:ua.eval (.tmp 52)=(zO gx):=zQ1 (hd 52 (by decide))
     exact ze rfl (.slice (some ⟨gc,0,none⟩) 18 18) (zha _ _ rfl e52 (M.blk (k:=0) rfl) rfl Tryz.underlying49 rfl) rfl (M.sb)
    ·intro ua uw SV pV M0 hk hn hd
     have M:Mx none ({ w with heap:=#[] }:World) uw _:=M0
     have e10:ua.eval (.tmp 10)=zI (N:Int):=(show ua.eval (.tmp 10)=_ from hd 10 (by decide)).trans (F33 10 rfl)
     exact ze rfl (zI (N:Int)) (zga _ (.inl rfl) e10) rfl (M.sb)
    ·intro ua uw SV pV M0 hk hn hd
     have M:Mx none ({ w with heap:=#[] }:World) uw _:=M0
     have e0:ua.eval (.tmp 0)=(zO gx):=(show ua.eval (.tmp 0)=_ from hd 0 (by decide)).trans (F33 0 rfl)
     exact ze rfl (zO gx) (zga _ (.inl rfl) e0) rfl (M.sb)
    ·intro ua uw SV pV M0 hk hn hd
     have M:Mx none ({ w with heap:=#[] }:World) uw _:=M0
     have e55:ua.eval (.tmp 55)=(zO gx):=zQ1 (hd 55 (by decide))
     exact ze rfl (zO gx) (by unfold execOp;simp only [e55];kernel_rfl) rfl (M.sb)
    ·intro ua uw SV pV M0 hk hn hd
     have M:Mx none ({ w with heap:=#[] }:World) uw _:=M0
     have e56:ua.eval (.tmp 56)=(zO gx):=zQ1 (hd 56 (by decide))
     exact ze rfl (zO gx) (y_fa (off:=0) rfl e56 (by kernel_rfl) rfl) rfl (M.sb)
    ·intro ua uw SV pV M0 hk hn hd
     have M:Mx none ({ w with heap:=#[] }:World) uw _:=M0
     have e57:ua.eval (.tmp 57)=(zO gx):=zQ1 (hd 57 (by decide))
     exact ze rfl (.slice (some ⟨gc,0,none⟩) 18 18) (zha _ _ rfl e57 (M.blk (k:=0) rfl) rfl Tryz.underlying49 rfl) rfl (M.sb)
    ·intro ua uw SV pV M0 hk hn hd
     have M:Mx none ({ w with heap:=#[] }:World) uw _:=M0
     have e10:ua.eval (.tmp 10)=zI (N:Int):=(show ua.eval (.tmp 10)=_ from hd 10 (by decide)).trans (F33 10 rfl)
     exact ze rfl (zI (N:Int)) (zga _ (.inl rfl) e10) rfl (M.sb)
    ·intro ua uw SV pV M0 hk hn hd
     have M:Mx none ({ w with heap:=#[] }:World) uw _:=M0
     have e58:ua.eval (.tmp 58)=.slice (some ⟨gc,0,none⟩) 18 18:=zQ1 (hd 58 (by decide))
     have e59:ua.eval (.tmp 59)=zI (N:Int):=zQ1 (hd 59 (by decide))
     exact ze rfl (zP gc (3*N)) (zkc 49 (s:=3) Tryz.underlying49 (by kernel_rfl) _ _ rfl e58 e59 rfl hN18 (by omega)) rfl (M.sb)
    ·intro ua uw SV pV M0 hk hn hd
     have M:Mx none ({ w with heap:=#[] }:World) uw _:=M0
     have e60:ua.eval (.tmp 60)=(zP gc (3*N)):=zQ1 (hd 60 (by decide))
     exact ze rfl (zP gc (3*N+1)) (y_fa (off:=1) rfl e60 (by kernel_rfl) rfl) rfl (M.sb)
    ·intro ua uw SV pV M0 hk hn hd
     have M:Mx none ({ w with heap:=#[] }:World) uw _:=M0
     have e61:ua.eval (.tmp 61)=(zP gc (3*N+1)):=zQ1 (hd 61 (by decide))
     exact ze rfl (.slice Aw sb.length cw) (zha _ _ rfl e61 (M.blk (k:=1) rfl) ((cel_n _ s (putN n N (.slice Aw sb.length cw)) hN18).trans (congrArg some (putN_at n N _))) Tryz.underlying23 rfl) rfl (M.sb)
    ·intro ua uw SV pV M0 hk hn hd
     have M:Mx none ({ w with heap:=#[] }:World) uw _:=M0
     have e62:ua.eval (.tmp 62)=.slice Aw sb.length cw:=zQ1 (hd 62 (by decide))
     exact ze rfl (.agg (#[.slice Aw sb.length cw,zN,.bool false])) (by unfold execOp;simp only [List.map_toArray,List.map_cons,List.map_nil,e62];kernel_rfl) rfl (M.sb)
    ·intro ua uw SV pV M0 hk hn hd
     have M:Mx none ({ w with heap:=#[] }:World) uw _:=M0
     have e53:ua.eval (.tmp 53)=.slice (some ⟨gc,0,none⟩) 18 18:=zQ1 (hd 53 (by decide))
     have e54:ua.eval (.tmp 54)=zI (N:Int):=zQ1 (hd 54 (by decide))
     exact ze rfl (zP gc (3*N)) (zkc 49 (s:=3) Tryz.underlying49 (by kernel_rfl) _ _ rfl e53 e54 rfl hN18 (by omega)) rfl (M.sb)
    intro p35 a35 w35 M35 G35 y35
    obtain ⟨-,-,-,-,-,-,-,-,-,-,-,-,-,q13,q14,-⟩:=y35
    have r13:p35 13=.agg (#[.slice Aw sb.length cw,zN,.bool false]):=q13
    have r14:p35 14=(zP gc (3*N)):=q14
    replace M35:Mx _ _ w35 [(0,blkR gx 72 (#[.slice (some ⟨gc,0,none⟩) 18 18,zI (stpL (stpL L)),.bool false])),(1,blkR gc 63 (celA (putC V.c N ⟨(V.c N).s,sb,true⟩) s (putN n N (.slice Aw sb.length cw)))),(2,zza 0 18 V.c s n),(3,bytR l lv),(5,staysR w gx gc),(6,ownR sb (.slice Aw sb.length cw))]:=M35
    simp only [List.take,layV,Nat.zero_add,Nat.reduceAdd,r13,r14] at G35
    refine zt rfl rfl G35 M35 (k:=1) rfl _ _ _ rfl (G35 64 rfl) (G35 63 rfl) (#[.slice Aw sb.length cw,zN,.bool false]) ((celA (putC (putC V.c N ⟨(V.c N).s,sb,true⟩) N ⟨sb,[],false⟩) (putN s N (.slice Aw sb.length cw)) (putN (putN n N (.slice Aw sb.length cw)) N (zN)))) rfl (show 3*N+3≤54 by omega) (by simp [Value.oneCell']) (cel_put (putC V.c N ⟨(V.c N).s,sb,true⟩) s (putN n N (.slice Aw sb.length cw)) (.slice Aw sb.length cw) (zN) sb [] false hN18) (by kernel_rfl) ?_
    intro w36 M36
    refine hK34 _ _ (zT fun _ hK37=>rm rfl G35 fun _ F38=>hK37 _ _ (wp_ret ?_))
    try simp only [Exit.then,Exit.inBlock,Exit.jump]
    exact bodyPost_ret (res1 rfl (F38.get rfl)) F38.defers ⟨_,rfl,(by
     have hf1:zpc V=false:=by rw [left_fall,hLv];simpa using hb1
     have hl1:=left_lay hL hf1 N sb
     rw [hLv] at hl1
     have hf2:zpc (zjc V N sb)=false:=by rw [left_fall,hl1.1];simpa using hb2
     have hl2:=left_keep hl1.2 hf2 N
     rw [hl1.1] at hl2
     rw [say_3 hN hsv hf1 hf2]
     have hu:=M36.newU (k:=6) rfl rfl rfl rfl (by decide)
     have M2:=M36.rowsTo (i:=2) (k:=6) (c':=putC (putC V.c N ⟨(V.c N).s,sb,true⟩) N ⟨sb,[],false⟩) rfl rfl (fun _ _=>Nat.zero_le _) (keep_rs V N sb _ s) (keep_rn V N sb _ n)
     rw [←keep_c] at M2
     exact ⟨rfl,M2.xto h.ne rfl rfl rfl rfl hl2.1.symm hdd.symm (put_fp hu (.inr rfl) (.inl rfl))⟩)⟩
 refine zT fun _ hK39=>rm rfl F11 fun _ F40=>rm rfl F40 fun _ F41=>?_
 by_cases h42:ca=((2*p:Nat):Int)
 ·refine zc (w':=w6) rfl rfl F41 rfl (.bool true) (zva _ _ _ _ rfl (F41 20 rfl) (F41 21 rfl) Tryz.underlying3 (zlb h42)) fun _ F43=>?_
  refine hK39 _ _ (wp_cond_true (F43 22 rfl) (zR (rm rfl F43 fun _ F44=>zc (w':=w6) rfl rfl F44 rfl (zI ((2*p+1:Nat):Int)) (zsa _ _ _ _ rfl (F44 23 rfl) rfl (by omega) (by omega)) fun _ F45=>?_)))
  refine rm rfl F45 fun _ F46=>?_
  exact J12 (2*p+1) _ _ (by have h9:=hnx.1;rw [if_pos h42] at h9;omega) (F46.sb) (M6.sb)
 ·refine zc (w':=w6) rfl rfl F41 rfl (.bool false) (zva _ _ _ _ rfl (F41 20 rfl) (F41 21 rfl) Tryz.underlying3 (zhb h42)) fun _ F47=>?_
  refine hK39 _ _ (wp_cond_false (F47 22 rfl) (wp_skip ?_))
  exact J12 (2*p) _ _ (by have h9:=hnx.1;rw [if_neg h42] at h9;omega) (F47.sb) (M6.sb)
theorem cnt_short {K:Nat} {V:VltN} (hi:InvV K V) {q:Nat} (hq:q+1<18) {ca ct:Int} {cl:List UInt8} (hC:cntR V q 2=(ca,ct,cl)):cl.length≤1000:=by
 rcases cnt_any hC with ⟨_,_,_,rfl⟩ | ⟨_,_,_,rfl⟩
 ·exact cnt_len V q (zvc hi q (by omega)).1 (zvc hi (q+1) hq).1
 ·exact Nat.zero_le _
theorem rrd6_is (b:List UInt8) (bv:Value) (hl:b.length≤1000) (ok:Bool) (r:RecN) (h1:rdOk b=ok) (h2:rdR b=r) (w:World) (hb:IsB w b bv):Calls Tryz.prog 63 #[bv] w fun e w'=>∃ t,e=.returned t∧∃ V,t=.tuple #[.agg (recA r V),.bool ok]∧RecIs w' r V∧(∀ q,bfp V.v2 q∨bfp V.v5 q→w.heap.size≤q)∧Below w.heap.size w w':=by
 subst h1 h2;exact (rreadrec_any b bv (by omega) w hb).mono fun e w' ⟨V,k1,k2,k3,k4⟩=>⟨_,k1,V,rfl,k2,k3,k4⟩
theorem named_cnt {V:VltN} {nm:ByteArray} {k:Nat} {ca ct:Int} {cl:List UInt8} {r:RecN} {qR qN:Bool} (hC:cntR V (2*k) 2=(ca,ct,cl)) (hR:rdOk cl=qR) (hr:rdR cl=r) (hN:decide (r.s.toList=nm.toList)=qN):zba V nm k=(qR&&qN):=by
 unfold zba zec z0a
 rcases cnt_any hC with ⟨h,_,_,rfl⟩ | ⟨h,_,_,rfl⟩
 ·rw [h,if_pos rfl,hR,hr,hN];rfl
 ·rw [h,Bool.false_and,Bool.false_and,←hR,rdOk_nil,Bool.false_and]
theorem rfind_any {K:Nat} (gx gc:Nat) (V:VltN) (L:Int) (s n:Nat→Value) (hi:InvV K V) (nm:ByteArray) (w:World) (h:HasX w gx gc V L s n):
  Calls Tryz.prog 53 #[(zO gx),.string nm] w fun e w'=>e=.returned (zI (idx8 (zba V nm)))∧Below w.heap.size w w':=by
 refine zk (args:=[(zO gx),.string nm]) 35 Tryz.func53 rfl rfl rfl ?_
 intro fa F
 have M:=Mx.start w
 replace M:=M.argO 0 h.hx (fun b e=>by cases e)
 replace M:=M.argO 1 h.hc (fun b e=>by cases e)
 refine zT fun _ hK1=>rm rfl F fun _ F2=>hK1 _ _ (zSk fun _ hK3=>zT fun _ hK4=>rm rfl F2 fun _ F5=>hK4 _ _ (wp_block (zob (α:=Nat) (n:=35) (G:=none) (w0:=w) (fun x=>[(0,(zO gx)),(1,.string nm),(5,zI (x:Int))]) (fun x=>[(0,blkO gx 72 (#[.slice (some ⟨gc,0,none⟩) 18 18,zI L,.bool V.dd])),(1,blkO gc 63 (celA V.c s n))]) (fun k x=>k=(8-x)∧(x≤8∧fst8 (zba V nm)=fstN (zba V nm) (8-x) x)) _ 0 ⟨rfl,⟨Nat.zero_le _,rfl⟩⟩ (F5.sb) (M.sb) ?_)))
 rintro k6 jn a6 w6 K6 ⟨ek6,I6⟩ F6 M6 hK6
 replace F6:Fx 35 a6 [(0,(zO gx)),(1,.string nm),(5,zI (jn:Int))]:=F6
 replace M6:Mx _ _ w6 [(0,blkO gx 72 (#[.slice (some ⟨gc,0,none⟩) 18 18,zI L,.bool V.dd])),(1,blkO gc 63 (celA V.c s n))]:=M6
 replace I6:jn≤8∧fst8 (zba V nm)=fstN (zba V nm) (8-jn) jn:=I6
 replace ek6:k6=(8-jn):=ek6
 obtain ⟨hj,hf⟩:=I6
 by_cases h8:jn<8
 ·obtain ⟨ca,ct,cl,hC⟩:∃ a t l,cntR V (2*jn) 2=(a,t,l):=⟨_,_,_,rfl⟩
  have hcl:=cnt_short hi (by omega) hC
  obtain ⟨qR,hR⟩:∃ x,rdOk cl=x:=⟨_,rfl⟩
  obtain ⟨rr,hrr⟩:∃ x,rdR cl=x:=⟨_,rfl⟩
  obtain ⟨qN,hN⟩:∃ x,decide (rr.s.toList=nm.toList)=x:=⟨_,rfl⟩
  have hnc:=named_cnt hC hR hrr hN
  refine zSk fun _ hK7=>zT fun _ hK8=>rm rfl F6 fun _ F9=>zc (w':=w6) rfl rfl F9 rfl (.bool true) (zna _ _ _ _ rfl (F9 11 rfl) rfl (decide_eq_true (show (jn:Int)<8 by omega))) fun _ F10=>?_
  refine hK8 _ _ (wp_cond_true (F10 12 rfl) (wp_skip (hK7 _ _ (zSk fun _ hK11=>wp_block (zT fun _ hK12=>rm rfl F10 fun _ F13=>rm rfl F13 fun _ F14=>zh rfl rfl F14 rfl rfl (zE Tryz.func62 rfl) #[(zO gx),zI (jn:Int)] (zea (F14 16 rfl) (F14 17 rfl)) (rcounts_is gx gc V L s n hi jn (by omega) hC w6 (h.step M6.below)) ?_)))))
  rintro _ w15 a15 ⟨S15,rfl,hS15,b15⟩ F15
  have M15:=M6.step b15
  have lS15:=hS15.step b15
  refine zB 7 [(0,(zO gx)),(1,.string nm),(5,zI (jn:Int)),(8,S15)] [] dnil [] F15 fun _ F16=>?_
  refine hK12 _ _ (zT fun _ hK17=>rm rfl F16 fun _ F18=>zh rfl rfl F18 rfl rfl (zE Tryz.func63 rfl) #[S15] (zca (F18 23 rfl)) (rrd6_is cl (S15) hcl qR rr hR hrr w15 lS15) ?_)
  rintro _ w19 a19 ⟨V19,rfl,is19,lo19,b19⟩ F19
  have M19:=M15.newRec b19 is19 lo19 2 3
  clear M15 b19 lo19
  refine zB 3 [(0,(zO gx)),(1,.string nm),(5,zI (jn:Int)),(25,.agg (recA rr V19)),(26,.bool qR)] [] dnil [] F19 fun _ F20=>?_
  refine zq rfl rfl F20 rfl M19 4 (t:=37) (c:=recA ⟨0, "".toUTF8,[],0,0,[],0,0,0⟩ ⟨zN,zN⟩) (by unfold execOp;kernel_rfl) ?_
  intro g21 a21 w21 F21 M21
  refine zt rfl rfl F21 M21 (k:=4) rfl _ _ _ rfl (F21 9 rfl) (F21 25 rfl) (recA rr V19) _ rfl (zL rfl) (z3a (w:=w21) ⟨(M21.isb (k:=2) rfl),(M21.isb (k:=3) rfl)⟩) (zfa rfl) (by kernel_rfl) ?_
  intro w22 M22
  refine rm rfl F21 fun _ F23=>hK17 _ _ (zT fun _ hK24=>rm rfl F23 fun _ F25=>rm rfl F25 fun _ F26=>?_)
  cases qR
  ·refine zB 5 [(0,(zO gx)),(1,.string nm),(5,zI (jn:Int)),(33,.bool false)] [] dnil [] F26 fun _ F27=>?_
   refine hK24 _ _ (wp_cond_false (F27 33 rfl) (wp_skip (hK11 _ _ (zR (rm rfl F27 fun _ F28=>zc (w':=w22) rfl rfl F28 rfl (zI ((jn+1:Nat):Int)) (zsa _ _ _ _ rfl (F28 13 rfl) rfl (by omega) (by omega)) fun _ F29=>?_)))))
   refine rm rfl F29 fun _ F30=>?_
   subst ek6
   exact hK6 _ (jn+1) _ _ (by omega) ⟨rfl,⟨by omega,fst_next h8 hnc hf⟩⟩ (F30.sb) (M22.sb)
  ·refine zAx 3 [(29,(zP g21 1)),(30,.string rr.s),(31,.string nm)] [0] (zx (M22.blk (k:=4) rfl) dnil) [g21] F26 fun _ F31=>?_
   refine zc (w':=w22) (zd rfl rfl rfl (F31 28 rfl)) rfl F31 rfl (.bool qN) (y_eqS _ _ _ rfl (F31 30 rfl) (F31 31 rfl) hN) fun _ F32=>?_
   refine zc (w':=w22) rfl rfl F32 rfl (.bool qN) (zkb rfl (F32 28 rfl) (F32 32 rfl)) fun _ F33=>?_
   refine hK24 _ _ ?_
   cases qN
   ·refine wp_cond_false (F33 33 rfl) (wp_skip (hK11 _ _ (zR (rm rfl F33 fun _ F34=>zc (w':=w22) rfl rfl F34 rfl (zI ((jn+1:Nat):Int)) (zsa _ _ _ _ rfl (F34 13 rfl) rfl (by omega) (by omega)) fun _ F35=>?_))))
    refine rm rfl F35 fun _ F36=>?_
    subst ek6
    exact hK6 _ (jn+1) _ _ (by omega) ⟨rfl,⟨by omega,fst_next h8 hnc hf⟩⟩ (F36.sb) (M22.sb)
   ·refine wp_cond_true (F33 33 rfl) (zT fun _ hK37=>rm rfl F33 fun _ F38=>rm rfl F38 fun _ F39=>hK37 _ _ (wp_ret ?_))
    try simp only [Exit.then,Exit.inBlock,Exit.jump]
    exact bodyPost_ret (res1 rfl (F39.get rfl)) F39.defers ⟨(by rw [idx8_at h8 (fst_here h8 hnc hf)]),M22.below⟩
 ·have hj8:jn=8:=by omega
  refine zSk fun _ hK40=>zT fun _ hK41=>rm rfl F6 fun _ F42=>zc (w':=w6) rfl rfl F42 rfl (.bool false) (zna _ _ _ _ rfl (F42 11 rfl) rfl (decide_eq_false (show ¬(jn:Int)<8 by omega))) fun _ F43=>?_
  refine hK41 _ _ (wp_cond_false (F43 12 rfl) (wp_exit ?_))
  simp only [Exit.then,Exit.inBlock,↓reduceIte,Nat.reduceEqDiff]
  refine hK3 _ _ (zT fun _ hK44=>rm rfl F43 fun _ F45=>hK44 _ _ (wp_ret ?_))
  try simp only [Exit.then,Exit.inBlock,Exit.jump]
  exact bodyPost_ret (res1 rfl (F45.get rfl)) F45.defers ⟨(by rw [idx8_no (by rw [hf,hj8])]),M6.below⟩
def bootR (V:VltN):Int:=if (cntR V 16 2).1<0∨¬((cntR V 16 2).2.2.length:Int)=8 then 0 else numR (cntR V 16 2).2.2
theorem bootR_no {V:VltN} {ca ct:Int} {cl:List UInt8} (hC:cntR V 16 2=(ca,ct,cl)) (h:ca<0∨¬(cl.length:Int)=8):bootR V=0:=by unfold bootR;rw [hC];exact if_pos h
theorem bootR_is {V:VltN} {ca ct:Int} {cl:List UInt8} (hC:cntR V 16 2=(ca,ct,cl)) (h1:¬ca<0) (h2:(cl.length:Int)=8):bootR V=numR cl:=by unfold bootR;rw [hC];exact if_neg (fun h=>h.elim h1 (fun h=>h h2))
theorem bootR_zero {V:VltN} (h:anyB zr V 16=false):bootR V=0:=by
 have hC:=cntR_2 V 16
 rw [h,if_neg Bool.false_ne_true] at hC
 exact bootR_no hC (.inl (by decide))
theorem bootR_era {V:VltN} {e:Int} (hA:anyB zr V 16=true) (hS:cntS V 16=zy e) (h0:0≤e) (h1:e<1000):bootR V=e:=by
 have hC:=cntR_2 V 16
 rw [hA,if_pos rfl,hS] at hC
 rw [bootR_is hC (by omega) (by rw [zja];rfl),numR_I (numOk_eight h0 (by omega)),zzc h0 (by omega)]
theorem rboot_any {K:Nat} (gx gc:Nat) (V:VltN) (L:Int) (s n:Nat→Value) (hi:InvV K V) (w:World) (h:HasX w gx gc V L s n):
  Calls Tryz.prog 44 #[(zO gx)] w fun e w'=>e=.returned (zI (bootR V))∧Below w.heap.size w w':=by
 refine zk (args:=[(zO gx)]) 21 Tryz.func44 rfl rfl rfl ?_
 intro fa F
 have M:=Mx.start w
 replace M:=M.argO 0 h.hx (fun b e=>by cases e)
 replace M:=M.argO 1 h.hc (fun b e=>by cases e)
 obtain ⟨ca,ct,cl,hC⟩:∃ a t l,cntR V 16 2=(a,t,l):=⟨_,_,_,rfl⟩
 refine zT fun _ hK1=>rm rfl F fun _ F2=>hK1 _ _ (zT fun _ hK3=>rm rfl F2 fun _ F4=>zh rfl rfl F4 rfl rfl (zE Tryz.func62 rfl) #[(zO gx),zI 8] (zea (F4 7 rfl) rfl) (rcounts_is gx gc V L s n hi 8 (by omega) hC w (h.step M.below)) ?_)
 rintro _ w5 a5 ⟨S5,rfl,hS5,b5⟩ F5
 have M5:=M.step b5
 have lS5:=hS5.step b5
 refine zB 7 [(2,zI 0),(3,zI ca),(5,S5)] [] dnil [] F5 fun _ F6=>?_
 refine hK3 _ _ (zSk fun _ hK7=>zT fun _ hK8=>rm rfl F6 fun _ F9=>?_)
 by_cases h10:ca<0
 ·refine zc (w':=w5) rfl rfl F9 rfl (.bool true) (zna _ _ _ _ rfl (F9 12 rfl) rfl (decide_eq_true h10)) fun _ F11=>?_
  refine zB 5 [(2,zI 0),(5,S5),(18,.bool true)] [] dnil [] F11 fun _ F12=>?_
  refine hK8 _ _ (wp_cond_true (F12 18 rfl) (zT fun _ hK13=>rm rfl F12 fun _ F14=>hK13 _ _ (wp_ret ?_)))
  try simp only [Exit.then,Exit.inBlock,Exit.jump]
  exact bodyPost_ret (res1 rfl (F14.get rfl)) F14.defers ⟨(by rw [bootR_no hC (.inl h10)]),M5.below⟩
 ·refine zc (w':=w5) rfl rfl F9 rfl (.bool false) (zna _ _ _ _ rfl (F9 12 rfl) rfl (decide_eq_false h10)) fun _ F15=>?_
  refine rm rfl F15 fun _ F16=>rm rfl F16 fun _ F17=>zc (w':=w5) (zd rfl rfl rfl (F17 14 rfl)) rfl F17 rfl (zI (cl.length:Int)) (zcb _ rfl (F17 15 rfl) lS5 rfl) fun _ F18=>?_
  by_cases h19:(cl.length:Int)=8
  ·refine zc (w':=w5) (zd rfl rfl rfl (F18 14 rfl)) rfl F18 rfl (.bool false) (y_neI _ _ _ _ rfl (F18 16 rfl) rfl Tryz.underlying3 (y_bneF h19)) fun _ F20=>?_
   refine zc (w':=w5) rfl rfl F20 rfl (.bool false) (zub rfl (F20 14 rfl) (F20 17 rfl)) fun _ F21=>?_
   refine hK8 _ _ (wp_cond_false (F21 18 rfl) (wp_skip (hK7 _ _ (zT fun _ hK22=>rm rfl F21 fun _ F23=>zh rfl rfl F23 rfl rfl (zE Tryz.func68 rfl) #[S5] (zca (F23 19 rfl)) (zda ((rnum6_any cl (S5) (by omega) w5 lS5))) ?_))))
   rintro _ w24 a24 ⟨rfl,b24⟩ F24
   have M24:=M5.step b24
   refine rm rfl F24 fun _ F25=>hK22 _ _ (wp_ret ?_)
   try simp only [Exit.then,Exit.inBlock,Exit.jump]
   exact bodyPost_ret (res1 rfl (F25.get rfl)) F25.defers ⟨(by rw [bootR_is hC h10 h19]),M24.below⟩
  ·refine zc (w':=w5) (zd rfl rfl rfl (F18 14 rfl)) rfl F18 rfl (.bool true) (y_neI _ _ _ _ rfl (F18 16 rfl) rfl Tryz.underlying3 (y_bneT h19)) fun _ F26=>?_
   refine zc (w':=w5) rfl rfl F26 rfl (.bool true) (zub rfl (F26 14 rfl) (F26 17 rfl)) fun _ F27=>?_
   refine hK8 _ _ (wp_cond_true (F27 18 rfl) (zT fun _ hK28=>rm rfl F27 fun _ F29=>hK28 _ _ (wp_ret ?_)))
   try simp only [Exit.then,Exit.inBlock,Exit.jump]
   exact bodyPost_ret (res1 rfl (F29.get rfl)) F29.defers ⟨(by rw [bootR_no hC (.inr h19)]),M5.below⟩
theorem rdead_any {K:Nat} (gx gc:Nat) (V:VltN) (L:Int) (s n:Nat→Value) (hi:InvV K V) (w:World) (h:HasX w gx gc V L s n):
  Calls Tryz.prog 45 #[(zO gx)] w fun e w'=>e=.returned (.bool V.dd)∧Below w.heap.size w w':=by
 refine zk (args:=[(zO gx)]) 7 Tryz.func45 rfl rfl rfl ?_
 intro fa F
 have M:=Mx.start w
 replace M:=M.argO 0 h.hx (fun b e=>by cases e)
 replace M:=M.argO 1 h.hc (fun b e=>by cases e)
 refine zT fun _ hK1=>rm rfl F fun _ F2=>hK1 _ _ (zT fun _ hK3=>zB 5 [(2,.bool V.dd)] [0] (zx (M.roB (k:=0) rfl) dnil) [gx] F2 fun _ F4=>?_)
 exact hK3 _ _ (wp_ret (bodyPost_ret (res1 rfl (F4.get rfl)) F4.defers ⟨rfl,M.below⟩))
theorem xera_any (gx gc:Nat) {K:Nat} (V:VltN) (s n:Nat→Value) (hi:InvV K V) (hK:K<255) (hL:LeftOk V) (hdd:V.dd=false) (E:Nat) (hE:E<1000) (hb:bootR V=(E:Int)) {V2:VltN} (hn:(sayW V 16 (zy ((E+1:Nat):Int))).1=V2) (w:World) (ho:XOk w gx gc V s n):
  Calls Tryz.prog 40 #[(zO gx)] w fun e w'=>∃ t,e=.returned t∧XTo w w' gx gc (zo 18 s n) V2:=by
 have h:=ho.has
 obtain ⟨L,hLv⟩:∃ x,zgc V=x:=⟨_,rfl⟩
 rw [hLv] at h
 obtain ⟨dd,hd⟩:∃ x,V.dd=x:=⟨_,rfl⟩
 have hx0:=h.hx
 rw [hd] at hx0
 rw [hdd] at hd
 subst hd
 have hd:=hdd
 have hE8:=zja ((E+1:Nat):Int)
 refine zk (args:=[(zO gx)]) 8 Tryz.func40 rfl rfl rfl ?_
 intro fa F
 have M:=Mx.start w
 replace M:=M.argO 0 hx0 (fun b e=>by cases e)
 replace M:=M.argO 1 h.hc (fun b e=>by cases e)
 refine zR (rm rfl F fun _ F1=>rm rfl F1 fun _ F2=>zh rfl rfl F2 rfl rfl (zE Tryz.func44 rfl) #[(zO gx)] (zca (F2 3 rfl)) (zda ((hb▸rboot_any gx gc V L s n hi w (h.step M.below)))) ?_)
 rintro _ w3 a3 ⟨rfl,b3⟩ F3
 have M3:=M.step b3
 refine zc (w':=w3) rfl rfl F3 rfl (zI ((E+1:Nat):Int)) (zsa _ _ _ _ rfl (F3 4 rfl) rfl (by omega) (by omega)) fun _ F4=>?_
 refine zh rfl rfl F4 rfl rfl (zE Tryz.func36 rfl) #[zI ((E+1:Nat):Int)] (zca (F4 5 rfl)) ((reight6 (E+1) (by omega) w3)) ?_
 rintro v5 w5 a5 h5 F5
 have M5:=M3.newO h5.2 2 h5.1
 clear M3 h5
 obtain ⟨A5,c5,rfl⟩:=(M5.isO (k:=2) rfl).shape
 refine zh rfl rfl F5 rfl rfl (zE Tryz.func55 rfl) #[(zO gx),zI 8,.slice A5 ((zy ((E+1:Nat):Int))).length c5] (args3 (F5 2 rfl) rfl (F5 6 rfl)) (xwrite_any gx gc V s n hi hK hL hd 8 (by decide) (zy ((E+1:Nat):Int)) (.slice A5 ((zy ((E+1:Nat):Int))).length c5) (by omega) w5 (ho.step M5.below) (M5.isO (k:=2) rfl) (fun b hb=>⟨fun e=>M5.dis 2 0 _ _ rfl rfl (by decide) rfl b (z1a hb) e,fun e=>M5.dis 2 1 _ _ rfl rfl (by decide) rfl b (z1a hb) e⟩)) ?_
 rintro _ w6 a6 ⟨rfl,hw6⟩ F6
 exact bodyPost_end (res0 rfl) F6.defers ⟨_,rfl,hn▸XTo.before M5.below hw6⟩
section
open Go.Shelf
def EraS (V:VltN) (E:Nat):Prop:=EraV V (E:Int)∧cntS V 16=zy (E:Int)
theorem eras_setl {V:VltN} {E:Nat} (h:EraS V E) (x:Nat→Int) (m:Nat):EraS (zac V x m) E:=by
 have h1:(zac V x m).c 16=V.c 16:=setC_unf h.1.1 18
 have h2:(zac V x m).c 17=V.c 17:=setC_unf h.1.2.1 18
 exact ⟨era_setl h.1 x m,(pair_eq (V:=V) (V':=zac V x m) (q:=16) (by rw [h1]) (by rw [h2])).2.1.trans h.2⟩
theorem eras_age {K:Nat} {V:VltN} {E:Nat} (hi:InvV K V) (hK:K<255) (hE:E<999) (h:EraS V E) (hf:V.fl=false):EraS (ageW V) (E+1):=by
 have h1:=era_num hi hK h.1.2.2.2 (by omega) (by omega) hf h.1.1 h.1.2.1
 have h2:=(say_says hi hK 16 (zy (zhc V 16+1)) hf).2
 rw [show (E:Int)+1=((E+1:Nat):Int) by omega] at h1
 rw [h.1.2.2.2,show (E:Int)+1=((E+1:Nat):Int) by omega] at h2
 exact ⟨h1,by unfold ageW;rw [h.1.2.2.2,show (E:Int)+1=((E+1:Nat):Int) by omega];exact h2⟩
theorem eras_say {V:VltN} {E:Nat} (h:EraS V E) {q:Nat} (hq:q+1<16) (l:List UInt8):EraS (sayW V q l).1 E:=⟨era_say h.1 hq l,(sayW_pair V (q':=16) l (.inr hq)).2.1.trans h.2⟩
theorem eras_boot {V:VltN} {E:Nat} (h:EraS V E) (hE:E<1000):bootR V=(E:Int):=bootR_era h.1.2.2.1 h.2 (by omega) (by omega)
theorem setC_go {c:Nat→CelN} {tx:Nat→Int} {m j k tn:Nat} {nl sl X:List UInt8} (hf:(c j).f=true) (hk:min k m=setK c m j) (hn:(c j).n=nl) (hs:(c j).s=sl) (ht:tn=if k<m then tornN (tx k) nl.length else 0) (hX:X=nl.take tn++sl.drop tn):setC c tx m (j+1)=putC (setC c tx m j) j ⟨X,[],false⟩∧min (k+1) m=setK c m (j+1):=by
 subst hn hs ht hX
 by_cases hq:k<m
 ·have e:setK c m j=k:=by omega
  rw [setC_in hf (by omega),setK_in hf (by omega),e,if_pos hq]
  exact ⟨rfl,by omega⟩
 ·rw [setC_out hf (by omega),setK_out (by omega),if_neg hq]
  exact ⟨rfl,by omega⟩
section
variable {w w1 w':World} {R:List (Nat×Res)} {s n:Nat→Value}
theorem Mx.xok {v:World} (M:Mx none { v with heap:=#[] } w R) {gx gc:Nat} {V':VltN} {L:Int} {dd:Bool} (hne:gx≠gc) (h0:look R 0=some (blkR gx 72 #[.slice (some ⟨gc,0,none⟩) 18 18,zI L,.bool dd])) (h1:look R 1=some (blkR gc 63 (celA V'.c s n))) (h2:look R 2=some (zza 0 18 V'.c s n)) (hL:L=zgc V') (hd:dd=V'.dd):XOk w gx gc V' s n:=by
 subst hL hd
 have far:∀ {k g:Nat} {t:TypeId} {a:Array Value},look R k=some (blkR g t a)→k≠2→∀ i,i<18→¬bfp (s i) g∧¬bfp (n i) g:=fun hk hn i hi=>⟨fun e=>M.dis _ 2 _ _ hk h2 hn rfl _ rfl ⟨i,hi,.inl e⟩,fun e=>M.dis _ 2 _ _ hk h2 hn rfl _ rfl ⟨i,hi,.inr e⟩⟩
 exact ⟨M.hasX h0 h1 h2,hne,fun i hi=>⟨far h0 (by decide) i hi,far h1 (by decide) i hi⟩⟩
theorem XTo.after {v:World} {gx gc:Nat} {fp fp1:Nat→Prop} {V1 V2:VltN} (hto:∀ b,fp1 b→fp b∨v.heap.size≤b) (hs:XTo v w gx gc fp V1) (h:XTo w w' gx gc fp1 V2):XTo v w' gx gc fp V2:=
 ⟨h.ok.elim fun s' h'=>h'.elim fun n' h'=>⟨s',n',h'.1,fun b hb=>(h'.2 b hb).elim (hto b) (fun e=>.inr (Nat.le_trans hs.size e))⟩,Nat.le_trans hs.size h.size,fun g h1 h2 h3=>(h.stay g h1 h2 (Nat.lt_of_lt_of_le h3 hs.size)).trans (hs.stay g h1 h2 h3),h.os.trans hs.os,h.tape.trans hs.tape,h.out.trans hs.out⟩
theorem rdI_lt {A:Option Addr} {m:Nat} {x:Nat→Int} (h:RdI w A m x):∀ b,ifp A m b→b<w.heap.size:=fun g ⟨hn,o,e⟩=>by
 obtain ⟨b,q,e2,h1,-⟩:=h.2.2 hn
 rw [e] at e2
 cases e2
 exact h1
end
end
end Go.Proofs.YtmjbnmbobocpdaaGreat
