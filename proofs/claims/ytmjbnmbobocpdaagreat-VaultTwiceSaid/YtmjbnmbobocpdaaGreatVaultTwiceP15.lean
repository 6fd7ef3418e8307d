/- What VaultTwice stands on, part 15. -/
import Derived.Test.YtmjbnmbobocpdaaGreatVaultTwiceP1
import Derived.Test.YtmjbnmbobocpdaaGreatVaultTwiceP2
import Derived.Test.YtmjbnmbobocpdaaGreatVaultTwiceP3
import Derived.Test.YtmjbnmbobocpdaaGreatVaultTwiceP4
import Derived.Test.YtmjbnmbobocpdaaGreatVaultTwiceP5
import Derived.Test.YtmjbnmbobocpdaaGreatVaultTwiceP6
import Derived.Test.YtmjbnmbobocpdaaGreatVaultTwiceP7
import Derived.Test.YtmjbnmbobocpdaaGreatVaultTwiceP8
import Derived.Test.YtmjbnmbobocpdaaGreatVaultTwiceP9
import Derived.Test.YtmjbnmbobocpdaaGreatVaultTwiceP10
import Derived.Test.YtmjbnmbobocpdaaGreatVaultTwiceP11
import Derived.Test.YtmjbnmbobocpdaaGreatVaultTwiceP12
import Derived.Test.YtmjbnmbobocpdaaGreatVaultTwiceP13
import Derived.Test.YtmjbnmbobocpdaaGreatVaultTwiceP14
set_option maxRecDepth 100000
set_option maxHeartbeats 8000000
set_option linter.unusedVariables false
set_option linter.unusedSimpArgs false
namespace Go.Proofs.YtmjbnmbobocpdaaGreat
open Go.ChangeShapes Go.WideShapes Go.ChangeAt Go.RowKit
section
open Go.Shelf
theorem good_T {K i:Nat} {b:List UInt8} (hb:CellOk K b) (h:zbb zo i b=true):GoodT i b:=by
 have h25:=zvc h
 rw [good_long h25] at h
 have hs:=of_decide_eq_true h
 have hl:(saysL b).length≤255:=by rw [saysL_len];have:=hb.1;omega
 obtain ⟨-,-,h1⟩:=clean_said i (turnL b) hl
 dsimp only at h1
 rw [hs] at h1
 rcases h1 with h1 | ⟨x8,h1,h2,h3⟩
 ·rw [h1] at h25;exact absurd h25 (by decide)
 ·exact ⟨x8,h1,h2,h3.symm⟩
theorem said_eq2 {V V':VltN} {q:Nat} (h:anyB zo V' q=anyB zo V q) (h2:anyB zo V q=true→cntS V' q=cntS V q):zic V' q=zic V q∧z2a V' q=z2a V q∧zma V' q=zma V q∧numB V' q=numB V q∧zec V' q=zec V q:=by
 unfold zic z2a zma numB zec
 rw [h]
 cases ha:anyB zo V q with
 | true=>rw [h2 ha];exact ⟨rfl,rfl,rfl,rfl,rfl⟩
 | false=>exact ⟨rfl,rfl,rfl,rfl,rfl⟩
theorem pair_bad {V V':VltN} {q N:Nat} (hN:nxtP V q=N) (h:∀ i,i≠N→(V'.c i).s=(V.c i).s) (hb:zbb zo N (V'.c N).s=false):anyB zo V' q=anyB zo V q∧(anyB zo V q=true→cntS V' q=cntS V q):=by
 obtain ⟨g0,e0⟩:∃ x,zbb zo q (V.c q).s=x:=⟨_,rfl⟩
 obtain ⟨g1,e1⟩:∃ x,zbb zo (q+1) (V.c (q+1)).s=x:=⟨_,rfl⟩
 cases ha:anyB zo V q with
 | false=>
  have hq:N=q:=by rw [←hN];exact if_neg (by rw [ha];exact Bool.false_ne_true)
  subst hq
  have h1:=h (N+1) (by omega)
  unfold anyB secB at ha ⊢
  rw [e0,e1] at ha
  rw [h1,hb,e1]
  cases g0 <;> cases g1 <;> simp at ha ⊢
 | true=>
  have hn:N=2*q+1-cntP V q:=by rw [←hN];exact if_pos ha
  cases hs:secB zo V q with
  | true=>
   have hg:zbb zo (q+1) (V.c (q+1)).s=true:=by unfold secB at hs;simp only [Bool.and_eq_true] at hs;exact hs.1
   have hc:cntP V q=q+1:=by unfold cntP;rw [if_pos hs];exact if_pos (zvc hg)
   have hq:N=q:=by omega
   subst hq
   have h1:=h (N+1) (by omega)
   have hs':secB zo V' N=true:=by unfold secB;rw [h1,hg,hb];rfl
   exact ⟨by unfold anyB;rw [hs'];rfl,fun _=>by unfold cntS;rw [if_pos hs',if_pos hs,h1]⟩
  | false=>
   have hg:zbb zo q (V.c q).s=true:=by unfold anyB at ha;rw [hs] at ha;exact ha
   have hc:cntP V q=q:=by unfold cntP;rw [if_neg (by rw [hs];exact Bool.false_ne_true)];exact if_pos (zvc hg)
   have hq:N=q+1:=by omega
   subst hq
   have h1:=h q (by omega)
   have hs':secB zo V' q=false:=by unfold secB;rw [hb];rfl
   exact ⟨by unfold anyB;rw [hs',h1,hg];rfl,fun _=>by unfold cntS;rw [if_neg (by rw [hs'];exact Bool.false_ne_true),if_neg (by rw [hs];exact Bool.false_ne_true),h1]⟩
theorem setC_unf6 {c:Nat→CelN} (h:∀ i,(c i).f=false) (x:Nat→Int) (m:Nat):∀ j,setC c x m j=c
 | 0=>rfl
 | j+1=>(setC_no (h j)).trans (setC_unf6 h x m j)
theorem setC_one {c:Nat→CelN} {p:Nat} (hp:p<18) (hf:(c p).f=true) (ho:∀ i,i≠p→(c i).f=false) (x:Nat→Int) (m:Nat):∀ i,(setC c x m 18 i).s=if i=p then (c p).n.take (cutN x m (c p).n.length)++(c p).s.drop (cutN x m (c p).n.length) else (c i).s:=fun i=>by
 by_cases hm:0<m
 ·rw [(setCK_one hf ho x hm 18).2,if_pos hp]
  unfold cutN
  rw [if_pos hm]
  by_cases e:i=p
  ·subst e;rw [zhb,if_pos rfl];rfl
  ·rw [zlb _ _ e,if_neg e]
 ·obtain rfl:m=0:=by omega
  rw [setC_s0 c x 18 i]
  unfold cutN
  rw [if_neg hm,List.take_zero,List.drop_zero,List.nil_append]
  by_cases e:i=p
  ·subst e;rw [if_pos rfl]
  ·rw [if_neg e]
theorem torn_say {K:Nat} {V:VltN} {m m':Nat→Option RecN} (hS:StOk K V) (hK:K<255) (ha:AccV V m) {p:Nat} (hp:p<8) {l:List UInt8} (hl:l.length≤255) (ha':AccV (sayW V (2*p) l).1 m') (z:Int) {W:VltN} {b:Bool} (hW:(sayW (zac V z) (2*p) l).1=W) (hb:(sayW (zac V z) (2*p) l).2=b):
  ∃ N,N<18∧(∀ i,i≠N→(W.c i).f=false)∧∀ (tx:Nat→Int) (mm:Nat),((W.c N).f=true→OkT N (W.c N) tx mm)→(b=true→AccV (ageW (zxb W tx mm)) m')∧(b=false→AccV (ageW (zxb W tx mm)) m∨AccV (ageW (zxb W tx mm)) m'):=by
 have hnp:=nxtP_in V (2*p)
 have hnb:=nxtT_bd hS.inv (2*p)
 obtain ⟨N,hN⟩:∃ x,nxtP V (2*p)=x:=⟨_,rfl⟩
 obtain ⟨sb,hsb⟩:∃ x,zza zo N (nxtT V (2*p)) l=x:=⟨_,rfl⟩
 have hNf:nxtP (zac V z) (2*p)=N:=hN
 have hTf:zza zo N (nxtT (zac V z) (2*p)) l=sb:=hsb
 have hunf:∀ i,(V.c i).f=false:=fun i=>(hS.cl i).1
 -- whole
 have hF:=zcd (2*p) l hS.fl
 have hwh:∀ i,((sayW V (2*p) l).1.c i).s=if i=N then sb else (V.c i).s:=fun i=>by
  by_cases e:i=N
  ·subst e;rw [if_pos rfl,←hN,hF.2.2.2,←hsb,hN]
  ·rw [if_neg e,(sayW_c V (2*p) l).1 i (by rw [hN];exact e)]
 have lo:∀ (U:VltN) (tx:Nat→Int) (mm i:Nat),i<16→((ageW (zxb U tx mm)).c i).s=(setC U.c tx mm 18 i).s:=fun U tx mm i hi=>by rw [age_low hi];rfl
 refine ⟨N,by omega,?_,?_⟩
 ·intro i hi
  rw [←hW]
  obtain ⟨h1,-⟩:=sayW_c (zac V z) (2*p) l
  rw [h1 i (by rw [hNf];exact hi)]
  exact hunf i
 ·intro tx mm hT
  by_cases h1:zbc (zac V z)=true
  ·rw [say_1 h1] at hW hb
   subst hW hb
   refine ⟨(fun h=>by cases h),fun _=>.inl (acc_cells (fun i hi=>?_) ha)⟩
   rw [lo _ _ _ i hi]
   show (setC V.c tx mm 18 i).s=_
   rw [setC_unf6 hunf]
  ·have h1:=Bool.eq_false_iff.2 h1
   by_cases h2:zbc (z4b (zac V z) N sb)=true
   ·rw [say_2 hNf hTf h1 h2] at hW hb
    subst hW hb
    have hc:(deadV (z4b (zac V z) N sb)).c=putC V.c N ⟨(V.c N).s,sb,true⟩:=rfl
    rw [hc,zhb] at hT
    replace hT:=hT rfl
    have ho:∀ i,i≠N→((putC V.c N ⟨(V.c N).s,sb,true⟩) i).f=false:=fun i hi=>by rw [zlb _ _ hi];exact hunf i
    have hone:=setC_one (c:=putC V.c N ⟨(V.c N).s,sb,true⟩) (p:=N) (by omega) (by rw [zhb]) ho tx mm
    rw [zhb] at hone
    obtain ⟨B,hB⟩:∃ x,sb.take (cutN tx mm sb.length)++(V.c N).s.drop (cutN tx mm sb.length)=x:=⟨_,rfl⟩
    have hcut:cutN tx mm sb.length≤sb.length:=by
     unfold cutN
     split
     ·exact tornN_le _ _
     ·exact Nat.zero_le _
    unfold OkT at hT
    dsimp only at hT hone
    rw [hB] at hT hone
    have hl5:∀ i,i<16→((ageW (zxb (deadV (z4b (zac V z) N sb)) tx mm)).c i).s=if i=N then B else (V.c i).s:=fun i hi=>by
     rw [lo _ _ _ i hi,hc,hone i]
     by_cases e:i=N
     ·rw [if_pos e,if_pos e]
     ·rw [if_neg e,if_neg e,zlb _ _ e]
    refine ⟨(fun h=>by cases h),fun _=>?_⟩
    rcases hT with hT | hT | hT
    ·exact .inr (acc_cells (fun i hi=>by rw [hl5 i hi,hwh i,hT]) ha')
    ·refine .inl (acc_cells (fun i hi=>?_) ha)
     rw [hl5 i hi,hT]
     by_cases e:i=N
     ·subst e;rw [if_pos rfl]
     ·rw [if_neg e]
    ·refine .inl fun k hk=>?_
     by_cases e:k=p
     ·subst e
      have hsok:CellOk (K+1) sb:=by rw [←hsb];exact said_ok (by omega) (by omega) (by omega) hl
      have hBok:CellOk (K+1) B:=by rw [←hB];exact CellOk.torn hcut hsok ((hS.inv N).1.mono (by omega))
      have hbad:zbb zo N B=false:=by
       cases hg:zbb zo N B with
       | false=>rfl
       | true=>exact absurd (good_T hBok hg) hT
      obtain ⟨j1,j2⟩:=pair_bad (V':={ V with c:=fun i=>⟨if i=N then B else (V.c i).s,[],false⟩ }) hN (fun i hi=>if_neg hi) (by show zbb zo N (if N=N then B else _)=false;rw [if_pos rfl];exact hbad)
      have key:=said_eq2 j1 j2
      refine acc_of ?_ (ha k hk)
      have he:=said_eq (V':=ageW (zxb (deadV (z4b (zac V z) N sb)) tx mm)) (V:={ V with c:=fun i=>⟨if i=N then B else (V.c i).s,[],false⟩ }) (q:=2*k) (pair_eq (hl5 _ (by omega)) (hl5 _ (by omega)))
      exact ⟨he.1.trans key.1,he.2.1.trans key.2.1,he.2.2.1.trans key.2.2.1,he.2.2.2.1.trans key.2.2.2.1,he.2.2.2.2.trans key.2.2.2.2⟩
     ·refine acc_of (said_eq (pair_eq ?_ ?_)) (ha k hk)
      ·rw [hl5 _ (by omega),if_neg (by omega)]
      ·rw [hl5 _ (by omega),if_neg (by omega)]
   ·have h2:=Bool.eq_false_iff.2 h2
    rw [say_3 hNf hTf h1 h2] at hW hb
    subst hW hb
    refine ⟨fun _=>acc_cells (fun i hi=>?_) ha',(fun h=>by cases h)⟩
    have hu:∀ i,((keepV (z4b (zac V z) N sb) N).c i).f=false:=fun i=>by
     rw [keep_c]
     by_cases e:i=N
     ·subst e;rw [zhb]
     ·rw [zlb _ _ e,zlb _ _ e];exact hunf i
    rw [lo _ _ _ i hi,setC_unf6 hu,hwh i,keep_c]
    by_cases e:i=N
    ·subst e;rw [zhb,if_pos rfl]
    ·rw [zlb _ _ e,zlb _ _ e,if_neg e];rfl
end
section
open Go.Shelf
structure DisM (m:Nat→Option RecN):Prop where
 ok:∀ i r,i<8→m i=some r→RecOk r
 one:∀ i j r s,i<8→j<8→m i=some r→m j=some s→r.s.toList=s.s.toList→i=j
theorem isN_yes {nm:ByteArray} {o:Option RecN} (h:isN nm o=true):∃ r,o=some r∧r.s.toList=nm.toList:=by
 cases o with
 | none=>cases h
 | some r=>exact ⟨r,rfl,of_decide_eq_true h⟩
def Tgt (m:Nat→Option RecN) (r:RecN) (gn:Bool) (m5:Nat→Option RecN):Prop:=∃ p,p<8∧(∀ i,i<8→i≠p→isN r.s (m i)=false)∧(gn=false→m5=updO m p (some r)∧(m p=none∨isN r.s (m p)=true))∧(gn=true→m5=updO m p none∧isN r.s (m p)=true)
theorem others {m:Nat→Option RecN} (hd:DisM m) {nm:ByteArray} {p:Nat} (hp:p<8) (h:isN nm (m p)=true):∀ i,i<8→i≠p→isN nm (m i)=false:=fun i hi hne=>by
 cases hi':isN nm (m i) with
 | false=>rfl
 | true=>
  obtain ⟨r,e1,e2⟩:=isN_yes h
  obtain ⟨s,e3,e4⟩:=isN_yes hi'
  exact absurd (hd.one i p s r hi hp e3 e1 (e4.trans e2.symm)) hne
theorem plc_8 {m:Nat→Option RecN} {nm:ByteArray} (h:¬plcM m nm<8):plcM m nm=8:=by
 have h1:=fst8_le (fun k=>isN nm (m k))
 have h2:=fst8_le (fun k=>(m k).isNone)
 unfold plcM at h ⊢
 split <;> split at h <;> omega
theorem tgt_put {m:Nat→Option RecN} {r:RecN} (hd:DisM m) (h8:plcM m r.s<8):Tgt m r false (updO m (plcM m r.s) (some r)):=by
 obtain ⟨p,hp⟩:∃ x,plcM m r.s=x:=⟨_,rfl⟩
 rw [hp] at h8 ⊢
 unfold plcM at hp
 rcases fst8_spec (fun k=>isN r.s (m k)) with ⟨q1,q2,q3⟩ | ⟨q1,q2⟩
 ·rw [if_pos q1] at hp
  rw [hp] at q1 q2
  exact ⟨p,h8,others hd h8 q2,fun _=>⟨rfl,.inr q2⟩,fun h=>by cases h⟩
 ·rw [if_neg (by omega)] at hp
  rcases fst8_spec (fun k=>(m k).isNone) with ⟨s1,s2,s3⟩ | ⟨s1,s2⟩
  ·rw [hp] at s2
   refine ⟨p,h8,fun i hi _=>q2 i hi,fun _=>⟨rfl,.inl ?_⟩,fun h=>by cases h⟩
   cases hm:m p with
   | none=>rfl
   | some x=>rw [hm] at s2;cases s2
  ·omega
theorem whole_mut {K:Nat} {V:VltN} {m:Nat→Option RecN} (hS:StOk K V) (hK:K<254) (ha:AccV V m) (hd:DisM m) {r:RecN} (ho:RecOk r) (hk:zca r=true) (gn:Bool) (z:Int):
  ∃ V4 e N,(gn=false→(putV (zac V z) r).1=V4∧(putV (zac V z) r).2=e)∧(gn=true→(goneV (zac V z) r.s).1=V4∧(goneV (zac V z) r.s).2=e)∧N<18∧(∀ i,i≠N→(V4.c i).f=false)∧InvV (K+1) V4∧EraV V4 1 ∧
   ∀ (tx:Nat→Int) (mm:Nat),((V4.c N).f=true→OkT N (V4.c N) tx mm)→∃ m5,AccV (ageW (zxb V4 tx mm)) m5∧((m5=m∧e≠0)∨(Tgt m r gn m5∧(e=0∨e=10))):=by
 have haf:AccV (zac V z) m:=acc_fail z ha
 have hif:InvV K (zac V z):=fun i=>hS.inv i
 have hef:EraV (zac V z) 1:=hS.era
 have hdf:(zac V z).dd=false:=hS.dd
 have none_:∀ e:Int,e≠0→∀ (tx:Nat→Int) (mm:Nat),∃ m5,AccV (ageW (zxb (zac V z) tx mm)) m5∧((m5=m∧e≠0)∨(Tgt m r gn m5∧(e=0∨e=10))):=fun e he tx mm=>by
  refine ⟨m,acc_cells (fun i hi=>?_) ha,.inl ⟨rfl,he⟩⟩
  rw [age_low hi]
  show (setC V.c tx mm 18 i).s=_
  rw [setC_unf6 (fun i=>(hS.cl i).1)]
 have say:∀ p,p<8→∀ l:List UInt8,l.length≤255→∀ m',AccV (sayW V (2*p) l).1 m'→Tgt m r gn m'→∃ N,N<18∧(∀ i,i≠N→((sayW (zac V z) (2*p) l).1.c i).f=false)∧∀ (tx:Nat→Int) (mm:Nat),(((sayW (zac V z) (2*p) l).1.c N).f=true→OkT N ((sayW (zac V z) (2*p) l).1.c N) tx mm)→∃ m5,AccV (ageW (zxb (sayW (zac V z) (2*p) l).1 tx mm)) m5∧((m5=m∧(if (sayW (zac V z) (2*p) l).2=true then (0:Int) else 10)≠0)∨(Tgt m r gn m5∧((if (sayW (zac V z) (2*p) l).2=true then (0:Int) else 10)=0∨(if (sayW (zac V z) (2*p) l).2=true then (0:Int) else 10)=10))):=fun p hp l hl m' ha' ht=>by
  obtain ⟨N,h1,h2,h3⟩:=torn_say hS (by omega) ha hp hl ha' z rfl rfl
  refine ⟨N,h1,h2,fun tx mm hT=>?_⟩
  obtain ⟨h4,h5⟩:=h3 tx mm hT
  cases hb:(sayW (zac V z) (2*p) l).2 with
  | true=>exact ⟨m',h4 hb,.inr ⟨ht,.inl (if_pos rfl)⟩⟩
  | false=>
   rcases h5 hb with h | h
   ·exact ⟨m,h,.inl ⟨rfl,by decide⟩⟩
   ·exact ⟨m',h,.inr ⟨ht,.inr (if_neg Bool.false_ne_true)⟩⟩
 cases gn with
 | false=>
  have hp:=plcM m r.s
  by_cases h8:plcM m r.s<8
  ·obtain ⟨p,hp⟩:∃ x,plcM m r.s=x:=⟨_,rfl⟩
   have hput:=put_acc haf hdf hk h8
   have hnp:putV V r=_:=put_acc ha hS.dd hk h8
   rw [hp] at hput hnp h8
   have hlv:=zcd (2*p) (recE r) hS.fl
   have ha':=acc_say hS.inv (by omega) ha (k:=p) ho hk hlv.1
   have ht:Tgt m r false (updO m p (some r)):=by
    have:=tgt_put (r:=r) hd (by rw [hp];exact h8)
    rwa [hp] at this
   obtain ⟨N,h1,h2,h3⟩:=say p h8 (recE r) (Nat.le_trans (recE_bd r) (by decide)) _ ha' ht
   refine ⟨_,_,N,fun _=>⟨rfl,rfl⟩,fun h=>(by cases h),h1,?_,(put_keep hif (by omega) hef r).1,(put_keep hif (by omega) hef r).2,?_⟩
   ·rw [hput];exact h2
   ·rw [hput];exact h3
  ·have h8:plcM m r.s=8:=plc_8 h8
   have hput:=put_full haf hdf hk h8
   refine ⟨_,_,0,fun _=>⟨rfl,rfl⟩,fun h=>(by cases h),by decide,?_,(put_keep hif (by omega) hef r).1,(put_keep hif (by omega) hef r).2,?_⟩
   ·rw [hput];exact fun i _=>(hS.cl i).1
   ·rw [hput];exact fun tx mm _=>none_ (7:Int) (by decide:(7:Int)≠0) tx mm
 | true=>
  have hg:=gone_acc haf r.s hdf
  obtain ⟨p,hp⟩:∃ x,(fst8 fun k=>isN r.s (m k))=x:=⟨_,rfl⟩
  rw [hp] at hg
  by_cases h8:p<8
  ·rw [if_pos h8] at hg
   have hlv:=zcd (2*p) [] hS.fl
   have ha':=acc_gone hS.inv (by omega) ha (k:=p) hlv.1
   have q2:isN r.s (m p)=true:=by
    rcases fst8_spec (fun k=>isN r.s (m k)) with ⟨q1,q2,q3⟩ | ⟨q1,q2⟩
    ·rw [hp] at q2;exact q2
    ·omega
   have ht:Tgt m r true (updO m p none):=⟨p,h8,others hd h8 q2,fun h=>(by cases h),fun _=>⟨rfl,q2⟩⟩
   obtain ⟨N,h1,h2,h3⟩:=say p h8 [] (Nat.zero_le _) _ ha' ht
   refine ⟨_,_,N,fun h=>(by cases h),fun _=>⟨rfl,rfl⟩,h1,?_,(gone_keep hif (by omega) hef r.s).1,(gone_keep hif (by omega) hef r.s).2,?_⟩
   ·rw [hg];exact h2
   ·rw [hg];exact h3
  ·rw [if_neg h8] at hg
   refine ⟨_,_,0,fun h=>(by cases h),fun _=>⟨rfl,rfl⟩,by decide,?_,(gone_keep hif (by omega) hef r.s).1,(gone_keep hif (by omega) hef r.s).2,?_⟩
   ·rw [hg];exact fun i _=>(hS.cl i).1
   ·rw [hg];exact fun tx mm _=>none_ (3:Int) (by decide:(3:Int)≠0) tx mm
noncomputable def recG (V:VltN) (nm:ByteArray):RecN:=if fst8 (zaa V nm)<8 then z2a V (2*fst8 (zaa V nm)) else zeroRec
theorem zero_ok:RecOk zeroRec:=⟨by decide,by decide,by decide,by decide,by decide,by decide,by decide⟩
theorem recG_m {V:VltN} {m:Nat→Option RecN} (ha:AccV V m) (nm:ByteArray):(fst8 (zaa V nm)=fst8 fun k=>isN nm (m k))∧((fst8 fun k=>isN nm (m k))<8→∃ r,m (fst8 fun k=>isN nm (m k))=some r∧r.s.toList=nm.toList∧recG V nm=r)∧(¬(fst8 fun k=>isN nm (m k))<8→recG V nm=zeroRec):=by
 have h:=named8 ha nm
 refine ⟨h,fun h8=>?_,fun h8=>if_neg (by rw [h];exact h8)⟩
 rcases fst8_spec (fun k=>isN nm (m k)) with ⟨q1,q2,q3⟩ | ⟨q1,q2⟩
 ·obtain ⟨r,e1,e2⟩:=isN_yes q2
  refine ⟨r,e1,e2,?_⟩
  have:=ha _ q1
  rw [e1] at this
  unfold recG
  rw [h,if_pos h8]
  exact this.2.1
 ·omega
theorem recG_ok {V:VltN} {m:Nat→Option RecN} (ha:AccV V m) (hd:∀ i r,i<8→m i=some r→RecOk r) (nm:ByteArray):RecOk (recG V nm):=by
 obtain ⟨h1,h2,h3⟩:=recG_m ha nm
 by_cases h8:(fst8 fun k=>isN nm (m k))<8
 ·obtain ⟨r,e1,-,e2⟩:=h2 h8
  rw [e2];exact hd _ r h8 e1
 ·rw [h3 h8];exact zero_ok
end
section
open Go.Shelf
def txtR (L:List ByteArray) (v:Value):Res:=⟨false,fun b=>0<L.length∧v.ownBlock=some b,fun w=>TxtAt w 0 L v⟩
theorem txt_dep {L:List ByteArray} {v:Value}:∀ u u',Same (txtR L v).fp u u'→(txtR L v).F u→(txtR L v).F u':=fun u u' hs ⟨A,c,e,h⟩=>⟨A,c,e,fun h0=>by
 obtain ⟨gr,E,e1,h1,h2⟩:=h h0
 exact ⟨gr,E,e1,h1,hs gr _ ⟨h0,by rw [e,e1];rfl⟩ h2⟩⟩
section
variable {G:Option Nat} {w0 w w':World} {R:List (Nat×Res)}
theorem Mx.newTxt (M:Mx G w0 w R) (hb:Below w.heap.size w w') (k:Nat) {L:List ByteArray} {v:Value} (h:TxtAt w' w.heap.size L v):Mx G w0 w' ((k,txtR L v)::R):=by
 obtain ⟨A,c,e,hA⟩:=h
 have hfp:∀ b,(txtR L v).fp b→w.heap.size≤b∧b<w'.heap.size:=fun b ⟨h0,h1⟩=>by
  obtain ⟨gr,E,e1,h2,h3⟩:=hA h0
  rw [e,e1] at h1
  have h1:gr=b:=Option.some.inj h1
  subst h1
  exact ⟨h2,z4a h3⟩
 exact (M.step hb).cons k _ ⟨A,c,e,fun h0=>by obtain ⟨gr,E,e1,h2,h3⟩:=hA h0;exact ⟨gr,E,e1,Nat.zero_le _,h3⟩⟩ txt_dep (fun b hb2=>(hfp b hb2).2) (fun e=>by cases e) fun q r er hkk hw b hb1 h2=>by
  rcases hw with hw | hw
  ·cases hw
  have h3:=M.lt q r er b h2
  have:=(hfp b hb1).1
  omega
variable {a:Act} {o:Oper} {A:Option Addr} {c:Nat} {L:List ByteArray}
theorem y_ixTx (x k:Operand) (ho:o.op=.indexAddr 45 x k) (hx:a.eval x=.slice A L.length c) (hT:(txtR L (.slice A L.length c)).F w) {z:Int} {i:Nat} (hk:a.eval k=zI z) (hz:z=(i:Int)) (hi:i<L.length):(execOp a.eval o).run Tryz.prog w=.ok (.value (ixV (.slice A L.length c) i)) w:=by
 subst hz
 obtain ⟨A',c',e,h⟩:=hT
 obtain ⟨gr,E,e1,-,hg⟩:=h (by omega)
 injection e with q1 q2 q3
 subst q1 q3 e1
 have h5:(i:Int)<(L.length:Int):=by omega
 rw [zjc 45 (s:=1) Tryz.underlying45 (by kernel_rfl) _ _ ho hx hk rfl hi (j:=i) (by omega)]
 simp [ixV,zoa]
theorem y_ldTx (y:Operand) (ho:o.op=.load 9 y) {i:Nat} (hy:a.eval y=ixV (.slice A L.length c) i) (hT:(txtR L (.slice A L.length c)).F w) {s:ByteArray} (hl:L[i]? = some s):(execOp a.eval o).run Tryz.prog w=.ok (.value (.string s)) w:=by
 have hi:=(List.getElem?_eq_some_iff.1 hl).1
 obtain ⟨A',c',e,h⟩:=hT
 obtain ⟨gr,E,e1,-,hg⟩:=h (by omega)
 injection e with q1 q2 q3
 subst q1 q3 e1
 exact zda _ _ ho (hy.trans (by simp [ixV,zoa])) hg (rowA_at hl) Tryz.underlying9 rfl
end
theorem get_is {K:Nat} (g:Nat) (V:VltN) (s n:Nat→Value) (hi:InvV K V) (nm:ByteArray) (b:Bool) (r:RecN) (hb:decide (fst8 (zaa V nm)<8)=b) (hr:recG V nm=r) (w:World) (h:HasV w g V s n):Calls Tryz.prog 24 #[(zO g),.string nm] w fun e w'=>∃ t,e=.returned t∧∃ V',t=.tuple #[.agg (recA r V'),.bool b]∧RecIs w' r V'∧(∀ q,bfp V'.v2 q∨bfp V'.v5 q→w.heap.size≤q)∧Below w.heap.size w w':=by
 subst hb hr
 by_cases h8:fst8 (zaa V nm)<8
 ·rw [decide_eq_true h8]
  exact get_yes g V s n hi nm _ h8 rfl _ (if_pos h8).symm w h
 ·rw [decide_eq_false h8]
  refine (get_not g V s n hi nm (by have:=fst8_le (zaa V nm);omega) w h).mono fun e w' ⟨h1,h2⟩=>⟨_,h1,⟨zN,zN⟩,by rw [show recG V nm=zeroRec from if_neg h8],?_,fun q hq=>(by rcases hq with hq | hq <;> exact absurd hq (zsa q)),h2⟩
  rw [show recG V nm=zeroRec from if_neg h8]
  exact ⟨zka _,zka _⟩
theorem rdI_cap {w:World} {a:Option Addr} {len cap:Nat} {zs:List Int} (h:(a=none∧len=0∧cap=0∧zs=[]) ∨
  ∃ x,a=some x∧len≤cap∧cap≤maxLen∧zs.length=cap∧(∀ i,i<zs.length→w.cell? (x.add i)=some (zI (zs.getD i 0)))∧∀ n∈zs,(Lit.int .i64 n).wf=true):len≤cap:=by
 rcases h with ⟨_,h1,h2,_⟩ | ⟨x,_,h,_⟩
 ·omega
 ·exact h
theorem dis0:DisM fun _=>none:=⟨fun _ _ _ h=>(by cases h),fun _ _ _ _ _ _ h=>(by cases h)⟩
theorem dis_tgt {m m5:Nat→Option RecN} {r:RecN} {gn:Bool} (hd:DisM m) (ho:RecOk r) (h:Tgt m r gn m5):DisM m5:=by
 obtain ⟨p,hp,hoth,hpu,hgo⟩:=h
 have no:∀ i s,i<8→i≠p→m i=some s→s.s.toList≠r.s.toList:=fun i s hi hne hs e=>by
  have:=hoth i hi hne
  rw [hs] at this
  exact of_decide_eq_false this e
 cases gn with
 | false=>
  obtain ⟨rfl,-⟩:=hpu rfl
  refine ⟨fun i s hi hs=>?_,fun i j s t hi hj h1 h2 e=>?_⟩
  ·unfold updO at hs
   split at hs
   ·cases hs;exact ho
   ·exact hd.ok i s hi hs
  ·unfold updO at h1 h2
   split at h1 <;> split at h2
   ·omega
   ·rename_i a b;cases h1;exact absurd e.symm (no j t hj b h2)
   ·rename_i a b;cases h2;exact absurd e (no i s hi a h1)
   ·exact hd.one i j s t hi hj h1 h2 e
 | true=>
  obtain ⟨rfl,-⟩:=hgo rfl
  refine ⟨fun i s hi hs=>?_,fun i j s t hi hj h1 h2 e=>?_⟩
  ·unfold updO at hs
   split at hs
   ·cases hs
   ·exact hd.ok i s hi hs
  ·unfold updO at h1 h2
   split at h1 <;> split at h2
   ·cases h1
   ·cases h1
   ·cases h2
   ·exact hd.one i j s t hi hj h1 h2 e
theorem acc_step {K:Nat} {V V':VltN} {m:Nat→Option RecN} (hS:StOk K V) (hK:K<254) (hs:StepV V V') (ha:AccV V m) (hd:DisM m):∃ m',AccV V' m'∧DisM m':=by
 rcases hs with ⟨r,ho,rfl⟩ | ⟨nm,rfl⟩
 ·by_cases hk:zca r=true
  ·by_cases h8:plcM m r.s<8
   ·obtain ⟨-,h1,-⟩:=put_done hS.inv (by omega) ha ho hk hS.dd hS.fl h8
    exact ⟨_,h1,dis_tgt hd ho (tgt_put hd h8)⟩
   ·have h8:plcM m r.s=8:=plc_8 h8
    rw [put_full ha hS.dd hk h8]
    exact ⟨m,ha,hd⟩
  ·refine ⟨m,?_,hd⟩
   unfold putV
   rw [if_neg (by rw [hS.dd];exact Bool.false_ne_true),if_pos (Bool.eq_false_iff.2 hk)]
   exact ha
 ·by_cases h8:(fst8 fun k=>isN nm (m k))<8
  ·obtain ⟨-,h1,-⟩:=gone_done hS.inv (by omega) ha hS.dd hS.fl rfl h8
   refine ⟨_,h1,⟨fun i s hi hs=>?_,fun i j s t hi hj h1 h2 e=>?_⟩⟩
   ·unfold updO at hs
    split at hs
    ·cases hs
    ·exact hd.ok i s hi hs
   ·unfold updO at h1 h2
    split at h1 <;> split at h2
    ·cases h1
    ·cases h1
    ·cases h2
    ·exact hd.one i j s t hi hj h1 h2 e
  ·refine ⟨m,?_,hd⟩
   rw [gone_acc ha nm hS.dd,if_neg h8]
   exact ha
theorem nms_le (m:Nat→Option RecN):∀ k,(nmsM m k).length≤k
 | 0=>Nat.le_refl _
 | k+1=>by
  have ih:=nms_le m k
  unfold nmsM
  cases m k <;> simp only [List.length_append,List.length_cons,List.length_nil] <;> omega
theorem mem_insV {x y:ByteArray}:∀ {L:List ByteArray},y∈insV x L→y=x∨y∈L
 | [],h=>.inl (List.mem_singleton.1 h)
 | z::L,h=>by
  unfold insV at h
  split at h
  ·rcases List.mem_cons.1 h with h | h
   ·exact .inr (List.mem_cons.2 (.inl h))
   ·exact (mem_insV h).imp id fun h=>List.mem_cons_of_mem _ h
  ·exact (List.mem_cons.1 h).imp id id
theorem mem_srtL {y:ByteArray} {L:List ByteArray} (h:y∈srtL L):y∈L:=by
 have key:∀ (M acc:List ByteArray),y∈M.foldl insR acc→y∈acc∨y∈M:=fun M=>by
  induction M with
  | nil=>exact fun _ h=>.inl h
  | cons x M ih=>
   intro acc h
   rcases ih _ h with h | h
   ·unfold insR at h
    rcases mem_insV (List.mem_reverse.1 h) with h | h
    ·exact .inr (h▸List.mem_cons_self)
    ·exact .inl (List.mem_reverse.1 h)
   ·exact .inr (List.mem_cons_of_mem _ h)
 exact (key L [] h).resolve_left (fun h=>by cases h)
theorem mem_nms {m:Nat→Option RecN} {nm:ByteArray}:∀ {k:Nat},nm∈nmsM m k→∃ i s,i<k∧m i=some s∧s.s=nm
 | 0,h=>by cases h
 | k+1,h=>by
  unfold nmsM at h
  cases hm:m k with
  | none=>
   rw [hm] at h
   obtain ⟨i,s,h1,h2⟩:=mem_nms h
   exact ⟨i,s,by omega,h2⟩
  | some r=>
   rw [hm] at h
   rcases List.mem_append.1 h with h | h
   ·obtain ⟨i,s,h1,h2⟩:=mem_nms h
    exact ⟨i,s,by omega,h2⟩
   ·exact ⟨k,r,by omega,hm,(List.mem_singleton.1 h).symm⟩
theorem names_in {V:VltN} {m:Nat→Option RecN} (ha:AccV V m) {L:List ByteArray} (hL:srtL (namL V 8)=L) {i:Nat} {nm:ByteArray} (h:L[i]? = some nm):fst8 (zaa V nm)<8:=by
 subst hL
 have h1:=mem_srtL (List.mem_of_getElem? h)
 rw [namL_acc ha 8 (Nat.le_refl _)] at h1
 obtain ⟨j,s,h2,h3,h4⟩:=mem_nms h1
 rw [named8 ha]
 rcases fst8_spec (fun k=>isN nm (m k)) with ⟨q1,_⟩ | ⟨_,q2⟩
 ·exact q1
 ·have:=q2 j h2
  rw [h3,isN_eq nm h4] at this
  cases this
end
section
open Go.Shelf
def cellsQ (L:List (RecN×RecV)):List Value:=L.flatMap fun p=>(recA p.1 p.2).toList
theorem recA_size (r:RecN) (V:RecV):(recA r V).size=23:=rfl
theorem cellsQ_app (L:List (RecN×RecV)) (r:RecN) (V:RecV):cellsQ (L++[(r,V)])=cellsQ L++(recA r V).toList:=by simp [cellsQ]
theorem cellsQ_at:∀ (L:List (RecN×RecV)) (j:Nat) (p:RecN×RecV),L[j]? = some p→∀ (i:Nat) (u:Value),(recA p.1 p.2)[i]? = some u→(cellsQ L)[j*23+i]? = some u
 | [],j,p,h,i,u,hu=>by cases h
 | q::L,0,p,h,i,u,hu=>by
  have e:q=p:=by simpa using h
  subst e
  have hi:=(Array.getElem?_eq_some_iff.1 hu).1
  rw [recA_size] at hi
  show ((recA q.1 q.2).toList++cellsQ L)[0*23+i]? = some u
  rw [List.getElem?_append_left (by rw [Array.length_toList,recA_size];omega),Nat.zero_mul,Nat.zero_add,Array.getElem?_toList]
  exact hu
 | q::L,j+1,p,h,i,u,hu=>by
  show ((recA q.1 q.2).toList++cellsQ L)[(j+1)*23+i]? = some u
  rw [List.getElem?_append_right (by rw [Array.length_toList,recA_size];omega),Array.length_toList,recA_size,show (j+1)*23+i-23=j*23+i by omega]
  exact cellsQ_at L j p (by simpa using h) i u hu
def qfp (L:List (RecN×RecV)) (g:Nat):Prop:=∃ p,p∈L∧(bfp p.2.v2 g∨bfp p.2.v5 g)
def recsQ (L:List (RecN×RecV)):Res:=⟨false,qfp L,fun w=>∀ p,p∈L→RecIs w p.1 p.2⟩
theorem recsQ_dep {L:List (RecN×RecV)}:∀ u u',Same (recsQ L).fp u u'→(recsQ L).F u→(recsQ L).F u':=fun u u' hs h p hp=>by
 have k:=h p hp
 have s:∀ {q:Value},(∀ g,bfp q g→bfp p.2.v2 g∨bfp p.2.v5 g)→Same (bfp q) u u':=fun hq=>⟨fun g o hg ho=>hs.at_ g o ⟨p,hp,hq g hg⟩ ho,hs.size⟩
 exact ⟨k.h2.same (s fun g h=>.inl h),k.h5.same (s fun g h=>.inr h)⟩
section
variable {G:Option Nat} {w0 w:World} {R:List (Nat×Res)}
theorem Mx.nilQ (M:Mx G w0 w R) (i:Nat):Mx G w0 w ((i,recsQ [])::R):=
 M.cons i _ (fun p hp=>by cases hp) recsQ_dep (fun g ⟨p,hp,_⟩=>by cases hp) (fun e=>by cases e) fun _ _ _ _ _ g ⟨p,hp,_⟩=>by cases hp
theorem Mx.addQ (M:Mx G w0 w R) {i k2 k5:Nat} {L:List (RecN×RecV)} {r:RecN} {V:RecV} (h:look R i=some (recsQ L)) (h2:look R k2=some (bytR r.l2 V.v2)) (h5:look R k5=some (bytR r.l5 V.v5)):
  Mx G w0 w ((i,recsQ (L++[(r,V)]))::R):=by
 have hm:∀ p,p∈L++[(r,V)]→p∈L∨p=(r,V):=fun p hp=>by simpa using hp
 have hold:∀ p,p∈L→RecIs w p.1 p.2:=M.at_ i _ h
 refine M.cons i _ (fun p hp=>?_) recsQ_dep (fun g hg=>?_) (fun e=>by cases e) fun k s e hik hw g hg hg2=>?_
 ·rcases hm p hp with hp | rfl
  ·exact hold p hp
  ·exact ⟨M.at_ k2 _ h2,M.at_ k5 _ h5⟩
 ·obtain ⟨p,hp,hg⟩:=hg
  rcases hm p hp with hp | rfl
  ·exact M.lt i _ h g ⟨p,hp,hg⟩
  ·rcases hg with hg | hg
   ·exact M.lt k2 _ h2 g hg
   ·exact M.lt k5 _ h5 g hg
 ·rcases hw with hw | hw
  ·cases hw
  obtain ⟨p,hp,hg⟩:=hg
  have one:∀ (j:Nat) (q:Res),look R j=some q→q.wr=false→q.fp g→False:=fun j q hj hr hgr=>by
   refine M.dis k j s q e hj (fun e2=>?_) hw g hg2 hgr
   subst e2
   rw [e] at hj;cases hj;rw [hr] at hw;cases hw
  rcases hm p hp with hp | rfl
  ·exact one i _ h rfl ⟨p,hp,hg⟩
  ·rcases hg with hg | hg
   ·exact one k2 _ h2 rfl hg
   ·exact one k5 _ h5 rfl hg
theorem Mx.atQ (M:Mx G w0 w R) {i:Nat} {L:List (RecN×RecV)} {p:RecN×RecV} (h:look R i=some (recsQ L)) (hp:p∈L) (k2 k5:Nat) (hi:¬i=k2):
  Mx G w0 w ((k5,bytR p.1.l5 p.2.v5)::(k2,bytR p.1.l2 p.2.v2)::R):=by
 have k:=(show ∀ p,p∈L→RecIs w p.1 p.2 from M.at_ i _ h) p hp
 have M2:=M.part k2 (bytR p.1.l2 p.2.v2) k.h2 z5b rfl h rfl fun g hg=>⟨p,hp,.inl hg⟩
 exact M2.part k5 (bytR p.1.l5 p.2.v5) k.h5 z5b rfl (k:=i) (show look ((k2,bytR p.1.l2 p.2.v2)::R) i=some (recsQ L) by rw [zx,if_neg (fun e=>hi e.symm)];exact h) rfl fun g hg=>⟨p,hp,.inr hg⟩
end
theorem info_rec:(Tryz.prog.info? 37).map (fun i=>(i.size,i.bytes,i.zero.map (·.cells.size)))=some (23,160,some 23):=by kernel_rfl
theorem setC_f (c:Nat→CelN) (x:Nat→Int) (m:Nat):∀ j i,(i<j→(setC c x m j i).f=false)∧(j≤i→setC c x m j i=c i)
 | 0,i=>⟨fun h=>absurd h (Nat.not_lt_zero _),fun _=>rfl⟩
 | j+1,i=>by
  obtain ⟨h1,h2⟩:=setC_f c x m j i
  unfold setC
  split
  ·by_cases e:i=j
   ·subst e
    rw [zhb]
    exact ⟨fun _=>by split <;> rfl,fun h=>absurd h (by omega)⟩
   ·rw [zlb _ _ e]
    exact ⟨fun h=>h1 (by omega),fun h=>h2 (by omega)⟩
  ·rename_i hf
   refine ⟨fun h=>?_,fun h=>h2 (by omega)⟩
   by_cases e:i=j
   ·subst e;rw [h2 (Nat.le_refl _)];exact Bool.eq_false_iff.2 hf
   ·exact h1 (by omega)
structure TwOk (K:Nat) (e:Int) (V:VltN) (m:Nat→Option RecN):Prop where
 inv:InvV K V
 era:EraV V e
 unf:∀ i,(V.c i).f=false
 acc:AccV V m
theorem tw_unf {V:VltN} (x:Nat→Int) (m:Nat) (h:∀ i,(setC V.c x m 18 i).f=false):∀ i,((ageW (zxb V x m)).c i).f=false:=by
 unfold ageW
 exact sayW_unf rfl h
theorem tw_first {K:Nat} {V:VltN} {m:Nat→Option RecN} {e:Int} (hi:InvV K V) (hK:K<255) (he:EraV V e) (h0:0≤e) (h1:e<1000) {N:Nat} (hN:N<18) (hone:∀ i,i≠N→(V.c i).f=false) (x:Nat→Int) (n:Nat) (ha:AccV (ageW (zxb V x n)) m):TwOk (K+1) (e+1) (ageW (zxb V x n)) m:=by
 obtain ⟨a1,a2,-,-⟩:=again_is hi hK he h0 h1 x n
 refine ⟨a2,a1,tw_unf x n fun i=>?_,ha⟩
 by_cases h:i<18
 ·exact (setC_f V.c x n 18 i).1 h
 ·rw [(setC_f V.c x n 18 i).2 (by omega)];exact hone i (by omega)
theorem tw_next {K:Nat} {V:VltN} {m:Nat→Option RecN} {e:Int} (h:TwOk K e V m) (hK:K<255) (h0:0≤e) (h1:e<1000) (x:Nat→Int) (n:Nat):TwOk (K+1) (e+1) (ageW (zxb V x n)) m∧(ageW (zxb V x n)).dd=false:=by
 obtain ⟨a1,a2,-,a4⟩:=again_is h.inv hK h.era h0 h1 x n
 have hc:=setC_unf6 h.unf x n 18
 refine ⟨⟨a2,a1,tw_unf x n fun i=>by rw [hc];exact h.unf i,acc_cells (fun i hi=>?_) h.acc⟩,a4⟩
 rw [age_low hi]
 show (setC V.c x n 18 i).s=_
 rw [hc]
theorem rec_two {V V':VltN} {m:Nat→Option RecN} (h:AccV V m) (h':AccV V' m) (nm:ByteArray):fst8 (zaa V' nm)=fst8 (zaa V nm)∧recG V' nm=recG V nm:=by
 obtain ⟨a1,a2,a3⟩:=recG_m h nm
 obtain ⟨c1,c2,c3⟩:=recG_m h' nm
 refine ⟨by rw [a1,c1],?_⟩
 by_cases h8:(fst8 fun k=>isN nm (m k))<8
 ·obtain ⟨s,e1,-,e3⟩:=a2 h8
  obtain ⟨s5,e4,-,e6⟩:=c2 h8
  rw [e1] at e4;cases e4
  rw [e3,e6]
 ·rw [a3 h8,c3 h8]
theorem nms_two {V V':VltN} {m:Nat→Option RecN} (h:AccV V m) (h':AccV V' m):(srtL (namL V' 8)).length=(srtL (namL V 8)).length:=by
 rw [srtL_len,srtL_len,namL_acc h 8 (Nat.le_refl _),namL_acc h' 8 (Nat.le_refl _)]
theorem q_step {L:List ByteArray} {V:VltN} {Q:List (RecN×RecV)} {k:Nat} {nm:ByteArray} {rv:RecN} {U:RecV} (hl:Q.length=k) (hQ:∀ j nm,j<k→L[j]? = some nm→∃ U,Q[j]? = some (recG V nm,U)) (hnm:L[k]? = some nm) (hrv:recG V nm=rv):∀ j nm,j<k+1→L[j]? = some nm→∃ U',(Q++[(rv,U)])[j]? = some (recG V nm,U'):=fun j nm2 hj h2=>by
 by_cases e:j<k
 ·obtain ⟨U2,h3⟩:=hQ j nm2 e h2
  exact ⟨U2,by rw [List.getElem?_append_left (by omega)];exact h3⟩
 ·obtain rfl:j=k:=by omega
  rw [hnm] at h2
  cases h2
  exact ⟨U,by rw [List.getElem?_append_right (by omega),hl,Nat.sub_self,hrv];rfl⟩
end
theorem VaultTwice_walk (A0:Option Addr) (n0 cap0:Nat) (x0:Nat→Int)
  (A1:Option Addr) (n1 cap1:Nat) (l1:List UInt8) (hn1:l1.length=n1) (hc1:n1≤cap1) (hm1:cap1≤maxLen) (hz1:A1=none→cap1=0)
  (a2:Int) (hk2:-9223372036854775808≤a2) (hl2:a2<9223372036854775808)
  (a3:Int) (hk3:-9223372036854775808≤a3) (hl3:a3<9223372036854775808)
  (A4:Option Addr) (n4 cap4:Nat) (x4:Nat→Int) (hc4:n4≤cap4)
  (A5:Option Addr) (n5 cap5:Nat) (x5:Nat→Int) (w:World) (hr0:RdI w A0 n0 x0) (hr1:Rd w A1 l1) (hr4:RdI w A4 n4 x4) (hr5:RdI w A5 n5 x5):
  Calls Tryz.prog 5 #[.slice A0 n0 cap0,.slice A1 n1 cap1,zI a2,zI a3,.slice A4 n4 cap4,.slice A5 n5 cap5] w fun e w'=>e=.returned (.bool true)∧Below w.heap.size w w':=by
 have ib1:IsB w l1 (.slice A1 n1 cap1):=hr1.isB' hn1 hc1 hm1 hz1
 by_cases b0:60<l1.length
 ·refine zj (args:=[.slice A0 n0 cap0,.slice A1 n1 cap1,zI a2,zI a3,.slice A4 n4 cap4,.slice A5 n5 cap5]) 168 Tryz.func5 rfl rfl rfl ?_
  intro fa F
  have M:=Mx.start w
  replace M:=M.argB 0 ib1 (fun g e=>by cases e)
  replace M:=M.argI 1 hr0 (fun g e=>by cases e)
  replace M:=M.argI 2 hr4 (fun g e=>by cases e)
  replace M:=M.argI 3 hr5 (fun g e=>by cases e)
  refine zT fun _ hK21=>rm rfl F fun _ F22=>hK21 _ _ (zSk fun _ hK23=>zT fun _ hK24=>zf rfl rfl F22 rfl rfl (zE Tryz.func13 rfl) #[] (args0) (zz (known6_any w)) ?_)
  rintro _ w25 a25 ⟨rfl,b25⟩ F25
  have M25:=M.step b25
  refine zc (w':=w25) rfl rfl F25 rfl (.bool false) (zib _ _ rfl (F25 27 rfl)) fun _ F26=>?_
  refine hK24 _ _ (wp_cond_false (F26 28 rfl) (wp_skip (hK23 _ _ (zSk fun _ hK27=>zT fun _ hK28=>rm rfl F26 fun _ F29=>zc (w':=w25) rfl rfl F29 rfl (zI (l1.length:Int)) (z1a _ rfl (F29 29 rfl) (M25.isb (k:=0) rfl) rfl) fun _ F30=>?_))))
  refine zc (w':=w25) rfl rfl F30 rfl (.bool true) (zzb _ _ _ _ rfl (F30 30 rfl) rfl (decide_eq_true (show (60:Int)<(l1.length:Int) by omega))) fun _ F31=>?_
  refine zB 10 [(0,.slice A0 n0 cap0),(1,.slice A1 n1 cap1),(2,zI a2),(3,zI a3),(4,.slice A4 n4 cap4),(5,.slice A5 n5 cap5),(12,.bool false),(41,.bool true)] [] dnil [] F31 fun _ F32=>?_
  refine hK28 _ _ (wp_cond_true (F32 41 rfl) (zT fun _ hK33=>rm rfl F32 fun _ F34=>hK33 _ _ (wp_ret ?_)))
  try simp only [Exit.then,Exit.inBlock,Exit.jump]
  exact bodyPost_ret (res1 rfl (F34.get rfl)) F34.defers ⟨rfl,M25.below⟩
 ·by_cases b1:10<n4
  ·refine zj (args:=[.slice A0 n0 cap0,.slice A1 n1 cap1,zI a2,zI a3,.slice A4 n4 cap4,.slice A5 n5 cap5]) 168 Tryz.func5 rfl rfl rfl ?_
   intro fa F
   have M:=Mx.start w
   replace M:=M.argB 0 ib1 (fun g e=>by cases e)
   replace M:=M.argI 1 hr0 (fun g e=>by cases e)
   replace M:=M.argI 2 hr4 (fun g e=>by cases e)
   replace M:=M.argI 3 hr5 (fun g e=>by cases e)
   refine zT fun _ hK21=>rm rfl F fun _ F22=>hK21 _ _ (zSk fun _ hK23=>zT fun _ hK24=>zf rfl rfl F22 rfl rfl (zE Tryz.func13 rfl) #[] (args0) (zz (known6_any w)) ?_)
   rintro _ w25 a25 ⟨rfl,b25⟩ F25
   have M25:=M.step b25
   refine zc (w':=w25) rfl rfl F25 rfl (.bool false) (zib _ _ rfl (F25 27 rfl)) fun _ F26=>?_
   refine hK24 _ _ (wp_cond_false (F26 28 rfl) (wp_skip (hK23 _ _ (zSk fun _ hK27=>zT fun _ hK28=>rm rfl F26 fun _ F29=>zc (w':=w25) rfl rfl F29 rfl (zI (l1.length:Int)) (z1a _ rfl (F29 29 rfl) (M25.isb (k:=0) rfl) rfl) fun _ F30=>?_))))
   refine zc (w':=w25) rfl rfl F30 rfl (.bool false) (zzb _ _ _ _ rfl (F30 30 rfl) rfl (decide_eq_false (show ¬(60:Int)<(l1.length:Int) by omega))) fun _ F31=>?_
   refine rm rfl F31 fun _ F32=>rm rfl F32 fun _ F33=>zc (w':=w25) (zd rfl rfl rfl (F33 32 rfl)) rfl F33 rfl (zI (n4:Int)) (y_lnG 22 Tryz.underlying22 _ rfl (F33 33 rfl) rfl) fun _ F34=>?_
   refine zc (w':=w25) (zd rfl rfl rfl (F34 32 rfl)) rfl F34 rfl (.bool true) (zzb _ _ _ _ rfl (F34 34 rfl) rfl (decide_eq_true (show (10:Int)<(n4:Int) by omega))) fun _ F35=>?_
   refine zAx 6 [(36,.bool true),(37,.bool true),(38,undef),(39,undef),(40,undef),(41,.bool true)] [] dnil [] F35 fun _ F36=>?_
   refine hK28 _ _ (wp_cond_true (F36 41 rfl) (zT fun _ hK37=>rm rfl F36 fun _ F38=>hK37 _ _ (wp_ret ?_)))
   try simp only [Exit.then,Exit.inBlock,Exit.jump]
   exact bodyPost_ret (res1 rfl (F38.get rfl)) F38.defers ⟨rfl,M25.below⟩
  ·by_cases b2:5<n5
   ·refine zj (args:=[.slice A0 n0 cap0,.slice A1 n1 cap1,zI a2,zI a3,.slice A4 n4 cap4,.slice A5 n5 cap5]) 168 Tryz.func5 rfl rfl rfl ?_
    intro fa F
    have M:=Mx.start w
    replace M:=M.argB 0 ib1 (fun g e=>by cases e)
    replace M:=M.argI 1 hr0 (fun g e=>by cases e)
    replace M:=M.argI 2 hr4 (fun g e=>by cases e)
    replace M:=M.argI 3 hr5 (fun g e=>by cases e)
    refine zT fun _ hK21=>rm rfl F fun _ F22=>hK21 _ _ (zSk fun _ hK23=>zT fun _ hK24=>zf rfl rfl F22 rfl rfl (zE Tryz.func13 rfl) #[] (args0) (zz (known6_any w)) ?_)
    rintro _ w25 a25 ⟨rfl,b25⟩ F25
    have M25:=M.step b25
    refine zc (w':=w25) rfl rfl F25 rfl (.bool false) (zib _ _ rfl (F25 27 rfl)) fun _ F26=>?_
    refine hK24 _ _ (wp_cond_false (F26 28 rfl) (wp_skip (hK23 _ _ (zSk fun _ hK27=>zT fun _ hK28=>rm rfl F26 fun _ F29=>zc (w':=w25) rfl rfl F29 rfl (zI (l1.length:Int)) (z1a _ rfl (F29 29 rfl) (M25.isb (k:=0) rfl) rfl) fun _ F30=>?_))))
    refine zc (w':=w25) rfl rfl F30 rfl (.bool false) (zzb _ _ _ _ rfl (F30 30 rfl) rfl (decide_eq_false (show ¬(60:Int)<(l1.length:Int) by omega))) fun _ F31=>?_
    refine rm rfl F31 fun _ F32=>rm rfl F32 fun _ F33=>zc (w':=w25) (zd rfl rfl rfl (F33 32 rfl)) rfl F33 rfl (zI (n4:Int)) (y_lnG 22 Tryz.underlying22 _ rfl (F33 33 rfl) rfl) fun _ F34=>?_
    refine zc (w':=w25) (zd rfl rfl rfl (F34 32 rfl)) rfl F34 rfl (.bool false) (zzb _ _ _ _ rfl (F34 34 rfl) rfl (decide_eq_false (show ¬(10:Int)<(n4:Int) by omega))) fun _ F35=>?_
    refine zAx 3 [(36,.bool false),(37,.bool false),(38,.slice A5 n5 cap5)] [] dnil [] F35 fun _ F36=>?_
    refine zc (w':=w25) (zd rfl rfl rfl (F36 37 rfl)) rfl F36 rfl (zI (n5:Int)) (y_lnG 22 Tryz.underlying22 _ rfl (F36 38 rfl) rfl) fun _ F37=>?_
    refine zc (w':=w25) (zd rfl rfl rfl (F37 37 rfl)) rfl F37 rfl (.bool true) (zzb _ _ _ _ rfl (F37 39 rfl) rfl (decide_eq_true (show (5:Int)<(n5:Int) by omega))) fun _ F38=>?_
    refine zc (w':=w25) rfl rfl F38 rfl (.bool true) (zob rfl (F38 37 rfl) (F38 40 rfl)) fun _ F39=>?_
    refine hK28 _ _ (wp_cond_true (F39 41 rfl) (zT fun _ hK40=>rm rfl F39 fun a41 F41=>hK40 _ _ (wp_ret ?_)))
    try simp only [Exit.then,Exit.inBlock,Exit.jump]
    exact bodyPost_ret (res1 rfl (F41.get rfl)) F41.defers ⟨rfl,M25.below⟩
   ·obtain ⟨hE1,hI1,hf1,hd1⟩:=new_is
    have hA1:=acc_new
    obtain ⟨V1,hV1⟩:∃ x,ageW zeroV=x:=⟨_,rfl⟩
    rw [hV1] at hE1 hI1 hf1 hd1 hA1
    obtain ⟨nr,hnr,hnrl⟩:∃ k:Nat,a2%1073741824=(k:Int)∧k<1073741824:=in6 _ (by decide)
    obtain ⟨kf,hkf,hkfl⟩:∃ k:Nat,a3%3=(k:Int)∧k<3:=in6 _ (by decide)
    obtain ⟨r,hr⟩:∃ r,recK (nr:Int) l1 (((nr:Int).tdiv 23)%10).toNat=r:=⟨_,rfl⟩
    obtain ⟨ro,rp⟩:=rec6_ok _ _ hr
    have hS1:=st_new
    rw [hV1] at hS1
    refine zj (args:=[.slice A0 n0 cap0,.slice A1 n1 cap1,zI a2,zI a3,.slice A4 n4 cap4,.slice A5 n5 cap5]) 168 Tryz.func5 rfl rfl rfl ?_
    intro fa F
    have M:=Mx.start w
    replace M:=M.argB 0 ib1 (fun g e=>by cases e)
    replace M:=M.argI 1 hr0 (fun g e=>by cases e)
    replace M:=M.argI 2 hr4 (fun g e=>by cases e)
    replace M:=M.argI 3 hr5 (fun g e=>by cases e)
    refine zT fun _ hK21=>rm rfl F fun _ F22=>hK21 _ _ (zSk fun _ hK23=>zT fun _ hK24=>zf rfl rfl F22 rfl rfl (zE Tryz.func13 rfl) #[] (args0) (zz (known6_any w)) ?_)
    rintro _ w25 a25 ⟨rfl,b25⟩ F25
    have M25:=M.step b25
    refine zc (w':=w25) rfl rfl F25 rfl (.bool false) (zib _ _ rfl (F25 27 rfl)) fun _ F26=>?_
    refine hK24 _ _ (wp_cond_false (F26 28 rfl) (wp_skip (hK23 _ _ (zSk fun _ hK27=>zT fun _ hK28=>rm rfl F26 fun _ F29=>zc (w':=w25) rfl rfl F29 rfl (zI (l1.length:Int)) (z1a _ rfl (F29 29 rfl) (M25.isb (k:=0) rfl) rfl) fun _ F30=>?_))))
    refine zc (w':=w25) rfl rfl F30 rfl (.bool false) (zzb _ _ _ _ rfl (F30 30 rfl) rfl (decide_eq_false (show ¬(60:Int)<(l1.length:Int) by omega))) fun _ F31=>?_
    refine rm rfl F31 fun _ F32=>rm rfl F32 fun _ F33=>zc (w':=w25) (zd rfl rfl rfl (F33 32 rfl)) rfl F33 rfl (zI (n4:Int)) (y_lnG 22 Tryz.underlying22 _ rfl (F33 33 rfl) rfl) fun _ F34=>?_
    refine zc (w':=w25) (zd rfl rfl rfl (F34 32 rfl)) rfl F34 rfl (.bool false) (zzb _ _ _ _ rfl (F34 34 rfl) rfl (decide_eq_false (show ¬(10:Int)<(n4:Int) by omega))) fun _ F35=>?_
    refine zAx 3 [(36,.bool false),(37,.bool false),(38,.slice A5 n5 cap5)] [] dnil [] F35 fun _ F36=>?_
    refine zc (w':=w25) (zd rfl rfl rfl (F36 37 rfl)) rfl F36 rfl (zI (n5:Int)) (y_lnG 22 Tryz.underlying22 _ rfl (F36 38 rfl) rfl) fun _ F37=>?_
    refine zc (w':=w25) (zd rfl rfl rfl (F37 37 rfl)) rfl F37 rfl (.bool false) (zzb _ _ _ _ rfl (F37 39 rfl) rfl (decide_eq_false (show ¬(5:Int)<(n5:Int) by omega))) fun _ F38=>?_
    refine zc (w':=w25) rfl rfl F38 rfl (.bool false) (zob rfl (F38 37 rfl) (F38 40 rfl)) fun _ F39=>?_
    refine hK28 _ _ (wp_cond_false (F39 41 rfl) (wp_skip (hK27 _ _ (zT fun _ hK40=>zf rfl rfl F39 rfl rfl (zE Tryz.func14 rfl) #[] (args0) (vnew_is V1 hV1 w25) ?_))))
    rintro _ w41 a41 ⟨g41,rfl,hg41,s41,n41,hr41,ht41,hc41,b41⟩ F41
    have M41:=M25.newVault b41 4 5 hg41 hc41 hr41 ht41
    clear M25 b41 hg41 hc41 hr41 ht41
    refine zf rfl rfl F41 rfl rfl (zE Tryz.func15 rfl) #[] (args0) (xnew_is V1 hV1 w41) ?_
    rintro _ w42 a42 ⟨gx42,gc42,s42,n42,rfl,xo42,lx42,lc42,lr42,b42⟩ F42
    have M42:=M41.xnew 6 b42 xo42 lx42 lc42 lr42
    clear M41 b42 xo42 lx42 lc42 lr42
    refine rm rfl F42 fun _ F43=>rm rfl F43 fun _ F44=>hK40 _ _ (zSk fun _ hK45=>zT fun _ hK46=>rm rfl F44 fun _ F47=>zc (w':=w42) rfl rfl F47 rfl (.bool false) (y_eqPN 25 _ Tryz.underlying25 (by kernel_rfl) _ rfl (F47 44 rfl)) fun _ F48=>?_)
    refine hK46 _ _ (wp_cond_false (F48 45 rfl) (wp_skip (hK45 _ _ (zSk fun K49 hK49=>?_))))
    have J49:∀ (Vv:VltN) (sv:(Nat→Value)) (nv:(Nat→Value)) (sx:(Nat→Value)) (nx:(Nat→Value)) (mv:(Nat→Option RecN)) (aJ:Act) (wJ:World),(StOk 31 Vv∧(AccV Vv mv∧DisM mv))→Fx 168 aJ [(0,.slice A0 n0 cap0),(1,.slice A1 n1 cap1),(2,zI a2),(3,zI a3),(4,.slice A4 n4 cap4),(5,.slice A5 n5 cap5),(13,(zO g41)),(14,(zO gx42))]→Mx none w wJ [(0,bytR l1 (.slice A1 n1 cap1)),(1,intR A0 n0 x0),(2,intR A4 n4 x4),(3,intR A5 n5 x5),(4,blkR g41 80 (vltA Vv sv nv)),(5,zua 0 18 Vv.c sv nv),(6,xR gx42 gc42 Vv sx nx)]→K49 aJ wJ:=by
     intro Vv sv nv sx nx mv a49 w49 I49 F49 M49
     refine hK49 _ _ ?_
     obtain ⟨hS,hX⟩:=I49
     obtain ⟨V4,e4,N,hput,hgon,hN18,hone,hI4,hE4,hend⟩:=whole_mut hS (by decide) hX.1 hX.2 ro rp false (kf:Int)
     obtain ⟨Vf,hVf⟩:∃ x,zac Vv (kf:Int)=x:=⟨_,rfl⟩
     obtain ⟨hIf,hEf⟩:=fail_keep (kf:Int) hS.inv hS.era
     rw [hVf] at hput hgon hIf hEf
     refine zT fun _ hK50=>rm rfl F49 fun _ F51=>rm rfl F51 fun _ F52=>zf rfl rfl F52 rfl rfl (zE Tryz.func17 rfl) #[zI a3,zI 3] (zea (F52 75 rfl) rfl) (zz ((hkf▸within6_any a3 3 (by decide) (by decide) hk3 hl3 w49))) ?_
     rintro _ w53 a53 ⟨rfl,rfl⟩ F53
     refine zf rfl rfl F53 rfl rfl (zE Tryz.func19 rfl) #[(zO g41),zI (kf:Int)] (zea (F53 74 rfl) (F53 76 rfl)) (fail_is g41 Vv sv nv (kf:Int) Vf hVf w49  (M49.rowsV (i:=5) (k:=4) rfl rfl (by decide)) (M49.blk (k:=4) rfl)) ?_
     rintro _ w54 a54 ⟨s54,n54,hr54,ht54,hc54,hg54⟩ F54
     have M54:=M49.vault (kg:=4) (kr:=5) rfl rfl hg54 hc54 hr54 ht54
     clear M49 hg54 hc54 hr54 ht54
     refine hK50 _ _ (zT fun _ hK55=>rm rfl F54 fun _ F56=>rm rfl F56 fun _ F57=>zf rfl rfl F57 rfl rfl (zE Tryz.func17 rfl) #[zI a2,zI 1073741824] (zea (F57 79 rfl) rfl) (zz ((hnr▸within6_any a2 1073741824 (by decide) (by decide) hk2 hl2 w54))) ?_)
     rintro _ w58 a58 ⟨rfl,rfl⟩ F58
     refine rm rfl F58 fun _ F59=>zf rfl rfl F59 rfl rfl (zE Tryz.func21 rfl) #[zI (nr:Int),.slice A1 n1 cap1] (zea (F59 80 rfl) (F59 81 rfl)) (rec6_is (nr:Int) l1 (.slice A1 n1 cap1) ⟨by omega,by omega⟩ (by omega) r hr w54 (M54.isb (k:=0) rfl)) ?_
     rintro _ w60 a60 ⟨U60,rfl,is60,lo60,b60⟩ F60
     have M60:=M54.newRec b60 is60 lo60 7 8
     clear M54 b60 lo60
     refine zf rfl rfl F60 rfl rfl (zE Tryz.func22 rfl) #[(zO g41),.agg (recA r U60)] (zea (F60 78 rfl) (F60 82 rfl)) (put_is g41 Vf s54 n54 r (⟨U60.v2,U60.v5⟩) ro hIf (by decide) V4 e4 (hput rfl).1 (hput rfl).2 w60 ⟨(M60.isb (k:=7) rfl),(M60.isb (k:=8) rfl)⟩ ⟨(fun h=>M60.dis 4 7 _ _ rfl rfl (by decide) rfl _ rfl h),(fun h=>M60.dis 4 8 _ _ rfl rfl (by decide) rfl _ rfl h)⟩ (M60.rowsV (i:=5) (k:=4) rfl rfl (by decide)) (M60.blk (k:=4) rfl)) ?_
     rintro _ w61 a61 ⟨rfl,s61,n61,hr61,ht61,hc61,hg61⟩ F61
     have M61:=M60.vault (kg:=4) (kr:=5) rfl rfl hg61 hc61 hr61 ht61
     clear M60 hg61 hc61 hr61 ht61
     refine hK55 _ _ (zSk fun _ hK62=>zT fun _ hK63=>rm rfl F61 fun _ F64=>zf rfl rfl F64 rfl rfl (zE Tryz.func28 rfl) #[(zO g41)] (zy (F64 84 rfl)) (cells_is g41 V4 s61 n61 hI4 w61 (M61.hasV (kg:=4) (kr:=5) rfl rfl (by decide))) ?_)
     rintro _ w65 a65 ⟨gq65,s65,n65,rfl,ce65,b65⟩ F65
     have M65:=M61.newCells b65 9 10 ce65
     clear M61 ce65 b65
     refine rm rfl F65 fun _ F66=>zf rfl rfl F66 rfl rfl (zE Tryz.func29 rfl) #[.slice (some ⟨gq65,0,none⟩) 18 18,.slice A4 n4 cap4] (zea (F66 85 rfl) (F66 86 rfl)) (clash_any gq65 N hN18 V4.c s65 n65 hone (zsc hI4) A4 n4 cap4 x4 (by omega) w65 ⟨M65.roB (k:=9) rfl,fun i hi=>M65.rowsS (i:=10) rfl hi,fun i hi=>M65.rowsN (i:=10) rfl hi⟩ (M65.rdI (k:=2) rfl)) ?_
     rintro _ w67 a67 ⟨qC,rfl,hq67,b67⟩ F67
     have M67:=M65.step b67
     clear M65 b67
     refine hK63 _ _ ?_
     cases qC
     ·obtain ⟨m5,hA5,hm5⟩:=hend x4 n4 (hq67 rfl)
      obtain ⟨V5,hV5⟩:∃ x,ageW (zxb V4 x4 n4)=x:=⟨_,rfl⟩
      have hd5:=(again_is hI4 (by decide) hE4 (by decide) (by decide) x4 n4).2.2.2
      have hT5:TwOk 33 2 _ m5:=tw_first hI4 (by decide) hE4 (by decide) (by decide) hN18 hone x4 n4 hA5
      rw [hV5] at hA5 hT5 hd5
      have hD5:DisM m5:=by
       rcases hm5 with ⟨e_,-⟩ | ⟨ht_,-⟩
       ·rw [e_];exact hX.2
       ·exact dis_tgt hX.2 ro ht_
      obtain ⟨L,hL⟩:∃ x,srtL (namL V5 8)=x:=⟨_,rfl⟩
      have hL8:L.length≤8:=by rw [←hL,srtL_len,namL_acc hA5 8 (Nat.le_refl _)];exact nms_le m5 8
      refine wp_cond_false (F67 87 rfl) (wp_skip (hK62 _ _ (zT fun _ hK68=>rm rfl F67 fun _ F69=>rm rfl F69 fun _ F70=>zf rfl rfl F70 rfl rfl (zE Tryz.func30 rfl) #[(zO g41),.slice A4 n4 cap4] (zea (F70 88 rfl) (F70 89 rfl)) (again_isV g41 V4 s61 n61 A4 n4 cap4 x4 hc4 hI4 (by decide) hE4 (by decide) (by decide) V5 hV5 w67 (M67.rdI (k:=2) rfl) (fun h=>M67.dis 4 2 _ _ rfl rfl (by decide) rfl _ rfl h) (M67.rowsV (i:=5) (k:=4) rfl rfl (by decide)) (M67.blk (k:=4) rfl)) ?_)))
      rintro _ w71 a71 ⟨s71,n71,hr71,ht71,hc71,hg71⟩ F71
      have M71:=M67.vault (kg:=4) (kr:=5) rfl rfl hg71 hc71 hr71 ht71
      clear M67 hg71 hc71 hr71 ht71
      refine hK68 _ _ (zT fun _ hK72=>rm rfl F71 fun _ F73=>zf rfl rfl F73 rfl rfl (zE Tryz.func26 rfl) #[(zO g41)] (zy (F73 91 rfl)) (zz ((boot_is g41 V5 s71 n71 hT5.inv hT5.era w71 (M71.hasV (kg:=4) (kr:=5) rfl rfl (by decide))))) ?_)
      rintro _ w74 a74 ⟨rfl,b74⟩ F74
      have M74:=M71.step b74
      refine rm rfl F74 fun _ F75=>hK72 _ _ (zT fun _ hK76=>rm rfl F75 fun _ F77=>zf rfl rfl F77 rfl rfl (zE Tryz.func25 rfl) #[(zO g41)] (zy (F77 93 rfl)) (names_is g41 V5 s71 n71 hT5.inv L hL w74 (M74.hasV (kg:=4) (kr:=5) rfl rfl (by decide))) ?_)
      rintro v78 w78 a78 ⟨tx78,b78⟩ F78
      have M78:=M74.newTxt b78 11 tx78
      clear M74 tx78 b78
      obtain ⟨A78,c78,e78,-⟩:=id (M78.at_ 11 _ rfl)
      subst e78
      refine rm rfl F78 fun _ F79=>hK76 _ _ (zT fun _ hK80=>rm rfl F79 fun _ F81=>hK80 _ _ (zSk fun _ hK82=>zT fun _ hK83=>rm rfl F81 fun _ F84=>hK83 _ _ (wp_block ?_)))
      have M85:=(M78.nilRow 12 37 23).nilQ 13
      refine znb (α:=Nat×List (RecN×RecV)×Value) (n:=168) (G:=none) (w0:=w) (fun x=>[(5,.slice A5 n5 cap5),(13,(zO g41)),(17,zI 2),(18,.slice A78 L.length c78),(20,zI (x.1:Int)),(19,x.2.2)]) (fun x=>[(0,bytR l1 (.slice A1 n1 cap1)),(1,intR A0 n0 x0),(2,intR A4 n4 x4),(3,intR A5 n5 x5),(4,blkR g41 80 (vltA V5 s71 n71)),(5,zua 0 18 V5.c s71 n71),(6,xR gx42 gc42 Vv sx nx),(7,bytR r.l2 U60.v2),(8,bytR r.l5 U60.v5),(9,blkO gq65 63 (celA V4.c s65 n65)),(10,zua 0 18 V4.c s65 n65),(11,txtR L (.slice A78 L.length c78)),(12,rowR 37 23 x.2.1.length (cellsQ x.2.1) x.2.2),(13,recsQ x.2.1)]) (fun k x=>k=(L.length-x.1)∧(x.1≤L.length∧x.2.1.length=x.1∧∀ j nm,j<x.1→L[j]? = some nm→∃ U,x.2.1[j]? = some (recG V5 nm,U))) _ ⟨0,[],(zN)⟩ ⟨rfl,⟨Nat.zero_le _,rfl,fun _ _ h=>absurd h (Nat.not_lt_zero _)⟩⟩ (F84.sb) (M85.sb) ?_
      rintro k86 ⟨kn,Q,v19⟩ a86 w86 K86 ⟨ek86,I86⟩ F86 M86 hK86
      replace F86:Fx 168 a86 [(5,.slice A5 n5 cap5),(13,(zO g41)),(17,zI 2),(18,.slice A78 L.length c78),(20,zI (kn:Int)),(19,v19)]:=F86
      replace M86:Mx _ _ w86 [(0,bytR l1 (.slice A1 n1 cap1)),(1,intR A0 n0 x0),(2,intR A4 n4 x4),(3,intR A5 n5 x5),(4,blkR g41 80 (vltA V5 s71 n71)),(5,zua 0 18 V5.c s71 n71),(6,xR gx42 gc42 Vv sx nx),(7,bytR r.l2 U60.v2),(8,bytR r.l5 U60.v5),(9,blkO gq65 63 (celA V4.c s65 n65)),(10,zua 0 18 V4.c s65 n65),(11,txtR L (.slice A78 L.length c78)),(12,rowR 37 23 Q.length (cellsQ Q) v19),(13,recsQ Q)]:=M86
      replace I86:kn≤L.length∧Q.length=kn∧∀ j nm,j<kn→L[j]? = some nm→∃ U,Q[j]? = some (recG V5 nm,U):=I86
      replace ek86:k86=(L.length-kn):=ek86
      obtain ⟨hj,hQl,hQ⟩:=I86
      by_cases hkl:kn<L.length
      ·obtain ⟨nm,hnm⟩:∃ x,L[kn]? = some x:=⟨_,List.getElem?_eq_getElem hkl⟩
       have hnv:=names_in hT5.acc hL hnm
       obtain ⟨rv,hrv⟩:∃ x,recG V5 nm=x:=⟨_,rfl⟩
       have hov:RecOk rv:=by rw [←hrv];exact recG_ok hA5 hD5.ok nm
       refine zSk fun _ hK87=>zT fun _ hK88=>rm rfl F86 fun _ F89=>rm rfl F89 fun _ F90=>zc (w':=w86) rfl rfl F90 rfl (zI (L.length:Int)) (y_lnG 45 Tryz.underlying45 _ rfl (F90 96 rfl) rfl) fun _ F91=>?_
       refine zc (w':=w86) rfl rfl F91 rfl (.bool true) (zha _ _ _ _ rfl (F91 95 rfl) (F91 97 rfl) (decide_eq_true (show (kn:Int)<(L.length:Int) by omega))) fun _ F92=>?_
       refine hK88 _ _ (wp_cond_true (F92 98 rfl) (wp_skip (hK87 _ _ (zSk fun _ hK93=>wp_block (zT fun _ hK94=>rm rfl F92 fun _ F95=>rm rfl F95 fun _ F96=>rm rfl F96 fun _ F97=>zc (w':=w86) rfl rfl F97 rfl ((ixV (.slice A78 L.length c78) kn)) (y_ixTx _ _ rfl (F97 103 rfl) (M86.at_ 11 _ rfl) (F97 104 rfl) rfl hkl) fun _ F98=>?_)))))
       refine zc (w':=w86) rfl rfl F98 rfl (.string nm) (y_ldTx _ rfl (F98 105 rfl) (M86.at_ 11 _ rfl) hnm) fun _ F99=>?_
       refine zf rfl rfl F99 rfl rfl (zE Tryz.func24 rfl) #[(zO g41),.string nm] (zea (F99 102 rfl) (F99 106 rfl)) (get_is g41 V5 s71 n71 hT5.inv nm true rv (decide_eq_true hnv) hrv w86 (M86.hasV (kg:=4) (kr:=5) rfl rfl (by decide))) ?_
       rintro _ w100 a100 ⟨U100,rfl,is100,lo100,b100⟩ F100
       have M100:=M86.newRec b100 is100 lo100 14 15
       clear M86 b100 lo100
       refine zAx 3 [(101,.tuple #[.agg (recA rv U100),.bool true]),(108,.agg (recA rv U100)),(109,.bool true)] [] dnil [] F100 fun _ F101=>?_
       refine zp rfl rfl F101 rfl M100 16 (t:=37) (c:=recA ⟨0, "".toUTF8,[],0,0,[],0,0,0⟩ ⟨zN,zN⟩) (by unfold execOp;kernel_rfl) ?_
       intro g102 a102 w102 F102 M102
       refine zu rfl rfl F102 M102 (k:=16) rfl _ _ _ rfl (F102 21 rfl) (F102 108 rfl) (recA rv U100) _ rfl (zL rfl) (z7a (w:=w102) ⟨(M102.isb (k:=14) rfl),(M102.isb (k:=15) rfl)⟩) (zba rfl) (by kernel_rfl) ?_
       intro w103 M103
       refine rm rfl F102 fun _ F104=>hK94 _ _ (zR (rm rfl F104 fun _ F105=>zc (w':=w103) rfl rfl F105 rfl _ (zfb _ _ rfl (F105 21 rfl) (M103.blk (k:=16) rfl) (recA rv U100) (zmb rfl) Tryz.underlying37 rfl (by kernel_rfl)) fun _ F106=>?_))
       refine zdd rfl rfl F106 rfl M103 17 (t:=37) (c:=recA rv U100) (k:=1) (m:=1) (y_litG 55 37 (s:=23) (zv:=.agg #[zI 0,.string "".toUTF8,zN,zU 0,zU 0,zU 0,zU 0,zU 0,zU 0,zU 0,zU 0,zU 0,zU 0,zU 0,zU 0,zU 0,zU 0,zU 0,zU 0,zN,zI 0,zI 0,zI 0]) Tryz.underlying55 (by kernel_rfl) (by kernel_rfl) rfl (recA rv U100) (by decide) (by decide) (by simp only [List.map_toArray,List.map_cons,List.map_nil,(F106 111 rfl)];kernel_rfl)) ?_
       intro g107 a107 w107 F107 M107
       refine zqa rfl rfl F107 rfl (run_appR M107 (k:=12) (kb:=17) (T:=55) rfl rfl rfl (z7a (w:=w107) ⟨(M107.isb (k:=14) rfl),(M107.isb (k:=15) rfl)⟩) (by decide) Tryz.underlying55 info_rec (by omega) (by unfold maxLen;omega) _ _ rfl (F107 110 rfl) (F107 112 rfl)) ?_
       intro v108 a108 w108 F108 M108
       have eL:(Q++[(rv,U100)]).length=Q.length+1:=by simp
       rw [←cellsQ_app,←eL] at M108
       replace M108:=M108.addQ (i:=13) (k2:=14) (k5:=15) rfl rfl rfl
       refine rm rfl F108 fun _ F109=>hK93 _ _ (zR (rm rfl F109 fun _ F110=>zc (w':=w108) rfl rfl F110 rfl (zI ((kn+1:Nat):Int)) (zja _ _ _ _ rfl (F110 99 rfl) rfl (by omega) (by omega)) fun _ F111=>?_))
       refine rm rfl F111 fun _ F112=>?_
       subst ek86
       exact hK86 _ ⟨(kn+1),(Q++[(rv,U100)]),v108⟩ _ _ (by dsimp only;omega) ⟨rfl,⟨by (dsimp only;omega),by (dsimp only;rw [eL];omega),q_step hQl hQ hnm hrv⟩⟩ (F112.sb) (M108.sb)
      ·have hkn:kn=L.length:=by omega
       rw [hkn] at hQl hQ
       refine zSk fun _ hK113=>zT fun _ hK114=>rm rfl F86 fun _ F115=>rm rfl F115 fun _ F116=>zc (w':=w86) rfl rfl F116 rfl (zI (L.length:Int)) (y_lnG 45 Tryz.underlying45 _ rfl (F116 96 rfl) rfl) fun _ F117=>?_
       refine zc (w':=w86) rfl rfl F117 rfl (.bool false) (zha _ _ _ _ rfl (F117 95 rfl) (F117 97 rfl) (decide_eq_false (show ¬(kn:Int)<(L.length:Int) by omega))) fun _ F118=>?_
       refine hK114 _ _ (wp_cond_false (F118 98 rfl) (wp_exit ?_))
       simp only [Exit.then,Exit.inBlock,↓reduceIte,Nat.reduceEqDiff]
       refine hK82 _ _ (zSk fun _ hK119=>zT fun _ hK120=>rm rfl F118 fun _ F121=>hK120 _ _ (wp_block ?_))
       refine znb (α:=Nat×VltN×(Nat→Value)×(Nat→Value)) (n:=168) (G:=none) (w0:=w) (fun x=>[(5,.slice A5 n5 cap5),(13,(zO g41)),(17,zI 2),(18,.slice A78 L.length c78),(19,v19),(23,zI (x.1:Int))]) (fun x=>[(0,bytR l1 (.slice A1 n1 cap1)),(1,intR A0 n0 x0),(2,intR A4 n4 x4),(3,intR A5 n5 x5),(4,blkR g41 80 (vltA x.2.1 x.2.2.1 x.2.2.2)),(5,zua 0 18 x.2.1.c x.2.2.1 x.2.2.2),(6,xR gx42 gc42 Vv sx nx),(7,bytR r.l2 U60.v2),(8,bytR r.l5 U60.v5),(9,blkO gq65 63 (celA V4.c s65 n65)),(10,zua 0 18 V4.c s65 n65),(11,txtR L (.slice A78 L.length c78)),(12,rowR 37 23 Q.length (cellsQ Q) v19),(13,recsQ Q)]) (fun k x=>k=(n5-x.1)∧(x.1≤n5∧TwOk (33+x.1) (2+(x.1:Int)) x.2.1 m5)) _ ⟨0,V5,s71,n71⟩ ⟨rfl,⟨Nat.zero_le _,(by simpa using hT5)⟩⟩ (F121.sb) (M86.sb) ?_
       rintro k122 ⟨jn,Vw,sw,nw⟩ a122 w122 K122 ⟨ek122,I122⟩ F122 M122 hK122
       replace F122:Fx 168 a122 [(5,.slice A5 n5 cap5),(13,(zO g41)),(17,zI 2),(18,.slice A78 L.length c78),(19,v19),(23,zI (jn:Int))]:=F122
       replace M122:Mx _ _ w122 [(0,bytR l1 (.slice A1 n1 cap1)),(1,intR A0 n0 x0),(2,intR A4 n4 x4),(3,intR A5 n5 x5),(4,blkR g41 80 (vltA Vw sw nw)),(5,zua 0 18 Vw.c sw nw),(6,xR gx42 gc42 Vv sx nx),(7,bytR r.l2 U60.v2),(8,bytR r.l5 U60.v5),(9,blkO gq65 63 (celA V4.c s65 n65)),(10,zua 0 18 V4.c s65 n65),(11,txtR L (.slice A78 L.length c78)),(12,rowR 37 23 Q.length (cellsQ Q) v19),(13,recsQ Q)]:=M122
       replace I122:jn≤n5∧TwOk (33+jn) (2+(jn:Int)) Vw m5:=I122
       replace ek122:k122=(n5-jn):=ek122
       obtain ⟨hj,hT⟩:=I122
       refine zSk fun _ hK123=>zT fun _ hK124=>rm rfl F122 fun _ F125=>rm rfl F125 fun _ F126=>zc (w':=w122) rfl rfl F126 rfl (zI (n5:Int)) (y_lnG 22 Tryz.underlying22 _ rfl (F126 115 rfl) rfl) fun _ F127=>?_
       by_cases h128:(jn:Int)<(n5:Int)
       ·have yb:=hr5.2.1 jn
        refine zc (w':=w122) rfl rfl F127 rfl (.bool true) (zha _ _ _ _ rfl (F127 114 rfl) (F127 116 rfl) (decide_eq_true h128)) fun _ F129=>?_
        refine hK124 _ _ (wp_cond_true (F129 117 rfl) (wp_skip (hK123 _ _ (zSk fun _ hK130=>wp_block (zT fun _ hK131=>rm rfl F129 fun _ F132=>rm rfl F132 fun _ F133=>rm rfl F133 fun _ F134=>zc (w':=w122) rfl rfl F134 rfl ((ixV (.slice A5 n5 cap5) jn)) (y_ixJ _ _ rfl (F134 121 rfl) (M122.rdI (k:=3) rfl) (F134 122 rfl) rfl (by omega)) fun _ F135=>?_)))))
        refine zc (w':=w122) rfl rfl F135 rfl (zI (x5 jn)) (y_ldJ _ rfl (F135 123 rfl) (M122.rdI (k:=3) rfl) (by omega)) fun _ F136=>?_
        refine zdd rfl rfl F136 rfl M122 14 (t:=3) (c:=#[zI (x5 jn)]) (k:=1) (m:=1) (y_litG 22 3 (s:=1) (zv:=zI 0) Tryz.underlying22 (by kernel_rfl) (by kernel_rfl) rfl (#[zI (x5 jn)]) (by decide) (by decide) (by simp only [List.map_toArray,List.map_cons,List.map_nil,(F136 124 rfl)];kernel_rfl)) ?_
        intro g137 a137 w137 F137 M137
        obtain ⟨V6,hV6⟩:∃ x,ageW (zxb Vw (fun _=>x5 jn) 1)=x:=⟨_,rfl⟩
        obtain ⟨hT6,hd6⟩:=tw_next hT (by omega) (by omega) (by omega) (fun _=>x5 jn) 1
        rw [hV6] at hT6 hd6
        obtain ⟨L6,hL6⟩:∃ x,srtL (namL V6 8)=x:=⟨_,rfl⟩
        have hlen:=nms_two hT5.acc hT6.acc
        rw [hL,hL6] at hlen
        have hE6:EraV V6 (3+(jn:Int)):=by have:=hT6.era;rwa [show 2+(jn:Int)+1=3+(jn:Int) by omega] at this
        refine zf rfl rfl F137 rfl rfl (zE Tryz.func30 rfl) #[(zO g41),.slice (some ⟨g137,0,none⟩) 1 1] (zea (F137 120 rfl) (F137 125 rfl)) (again_isV g41 Vw sw nw (some ⟨g137,0,none⟩) 1 1 (fun _=>x5 jn) (Nat.le_refl _) hT.inv (by omega) hT.era (by omega) (by omega) V6 hV6 w137 (rdI_one (M137.blk (k:=14) rfl) yb) (fun h=>M137.dis 4 14 _ _ rfl rfl (by decide) rfl _ rfl (ifp_lit h)) (M137.rowsV (i:=5) (k:=4) rfl rfl (by decide)) (M137.blk (k:=4) rfl)) ?_
        rintro _ w138 a138 ⟨s138,n138,hr138,ht138,hc138,hg138⟩ F138
        have M138:=M137.vault (kg:=4) (kr:=5) rfl rfl hg138 hc138 hr138 ht138
        clear M137 hg138 hc138 hr138 ht138
        refine hK131 _ _ (zSk fun _ hK139=>zT fun _ hK140=>rm rfl F138 fun _ F141=>zf rfl rfl F141 rfl rfl (zE Tryz.func26 rfl) #[(zO g41)] (zy (F141 127 rfl)) (zz ((boot_is g41 V6 s138 n138 hT6.inv hE6 w138 (M138.hasV (kg:=4) (kr:=5) rfl rfl (by decide))))) ?_)
        rintro _ w142 a142 ⟨rfl,b142⟩ F142
        have M142:=M138.step b142
        refine rm rfl F142 fun _ F143=>zc (w':=w142) rfl rfl F143 rfl (zI 3) (zja _ _ _ _ rfl (F143 129 rfl) rfl rfl (by omega)) fun _ F144=>?_
        refine rm rfl F144 fun _ F145=>zc (w':=w142) rfl rfl F145 rfl (zI (3+(jn:Int))) (zja _ _ _ _ rfl (F145 130 rfl) (F145 131 rfl) (by omega) (by omega)) fun _ F146=>?_
        refine zc (w':=w142) rfl rfl F146 rfl (.bool false) (y_neI _ _ _ _ rfl (F146 128 rfl) (F146 132 rfl) Tryz.underlying3 (y_bneF rfl)) fun _ F147=>?_
        refine rm rfl F147 fun _ F148=>rm rfl F148 fun _ F149=>zf (zd rfl rfl rfl (F149 134 rfl)) rfl F149 rfl rfl (zE Tryz.func25 rfl) #[(zO g41)] (zy (F149 135 rfl)) (names_is g41 V6 s138 n138 hT6.inv L6 hL6 w142 (M142.hasV (kg:=4) (kr:=5) rfl rfl (by decide))) ?_
        rintro v150 w150 a150 ⟨tx150,b150⟩ F150
        have M150:=M142.newTxt b150 15 tx150
        clear M142 tx150 b150
        obtain ⟨A150,c150,e150,-⟩:=id (M150.at_ 15 _ rfl)
        subst e150
        refine zc (w':=w150) (zd rfl rfl rfl (F150 134 rfl)) rfl F150 rfl (zI (L6.length:Int)) (y_lnG 45 Tryz.underlying45 _ rfl (F150 136 rfl) rfl) fun _ F151=>?_
        refine rm rfl F151 fun _ F152=>zc (w':=w150) (zd rfl rfl rfl (F152 134 rfl)) rfl F152 rfl (zI (L.length:Int)) (y_lnG 45 Tryz.underlying45 _ rfl (F152 138 rfl) rfl) fun _ F153=>?_
        refine zc (w':=w150) (zd rfl rfl rfl (F153 134 rfl)) rfl F153 rfl (.bool false) (y_neI _ _ _ _ rfl (F153 137 rfl) (F153 139 rfl) Tryz.underlying3 (y_bneF (by omega))) fun _ F154=>?_
        refine zc (w':=w150) rfl rfl F154 rfl (.bool false) (zob rfl (F154 134 rfl) (F154 140 rfl)) fun _ F155=>?_
        refine hK140 _ _ (wp_cond_false (F155 141 rfl) (wp_skip (hK139 _ _ (zT fun _ hK156=>rm rfl F155 fun _ F157=>hK156 _ _ (wp_block ?_)))))
        refine znb (α:=Nat) (n:=168) (G:=none) (w0:=w) (fun x=>[(5,.slice A5 n5 cap5),(13,(zO g41)),(17,zI 2),(18,.slice A78 L.length c78),(19,v19),(23,zI (jn:Int)),(24,zI (x:Int))]) (fun x=>[(0,bytR l1 (.slice A1 n1 cap1)),(1,intR A0 n0 x0),(2,intR A4 n4 x4),(3,intR A5 n5 x5),(4,blkR g41 80 (vltA V6 s138 n138)),(5,zua 0 18 V6.c s138 n138),(6,xR gx42 gc42 Vv sx nx),(7,bytR r.l2 U60.v2),(8,bytR r.l5 U60.v5),(9,blkO gq65 63 (celA V4.c s65 n65)),(10,zua 0 18 V4.c s65 n65),(11,txtR L (.slice A78 L.length c78)),(12,rowR 37 23 Q.length (cellsQ Q) v19),(13,recsQ Q),(14,blkR g137 3 (#[zI (x5 jn)])),(15,txtR L6 (.slice A150 L6.length c150))]) (fun k x=>k=(L.length-x)∧(x≤L.length)) _ 0 ⟨rfl,(Nat.zero_le _)⟩ (F157.sb) (M150.sb) ?_
        rintro k158 kn a158 w158 K158 ⟨ek158,I158⟩ F158 M158 hK158
        replace F158:Fx 168 a158 [(5,.slice A5 n5 cap5),(13,(zO g41)),(17,zI 2),(18,.slice A78 L.length c78),(19,v19),(23,zI (jn:Int)),(24,zI (kn:Int))]:=F158
        replace M158:Mx _ _ w158 [(0,bytR l1 (.slice A1 n1 cap1)),(1,intR A0 n0 x0),(2,intR A4 n4 x4),(3,intR A5 n5 x5),(4,blkR g41 80 (vltA V6 s138 n138)),(5,zua 0 18 V6.c s138 n138),(6,xR gx42 gc42 Vv sx nx),(7,bytR r.l2 U60.v2),(8,bytR r.l5 U60.v5),(9,blkO gq65 63 (celA V4.c s65 n65)),(10,zua 0 18 V4.c s65 n65),(11,txtR L (.slice A78 L.length c78)),(12,rowR 37 23 Q.length (cellsQ Q) v19),(13,recsQ Q),(14,blkR g137 3 (#[zI (x5 jn)])),(15,txtR L6 (.slice A150 L6.length c150))]:=M158
        replace I158:kn≤L.length:=I158
        replace ek158:k158=(L.length-kn):=ek158
        by_cases hkl:kn<L.length
        ·obtain ⟨nm,hnm⟩:∃ x,L[kn]? = some x:=⟨_,List.getElem?_eq_getElem hkl⟩
         have hnv:=names_in hT5.acc hL hnm
         obtain ⟨rv,hrv⟩:∃ x,recG V5 nm=x:=⟨_,rfl⟩
         have hov:RecOk rv:=by rw [←hrv];exact recG_ok hA5 hD5.ok nm
         have hr2:=rec_two hT5.acc hT6.acc nm
         have hn6:fst8 (zaa V6 nm)<8:=by rw [hr2.1];exact hnv
         have hr6:recG V6 nm=rv:=hr2.2.trans hrv
         obtain ⟨U,hpr⟩:=hQ kn nm hkl hnm
         rw [hrv] at hpr
         have hlq:kn<Q.length:=by omega
         have M159:=M158.atQ (i:=13) (p:=(rv,U)) rfl (List.mem_of_getElem? hpr) 16 17 (by decide)
         refine zSk fun _ hK160=>zT fun _ hK161=>rm rfl F158 fun _ F162=>rm rfl F162 fun _ F163=>zc (w':=w158) rfl rfl F163 rfl (zI (L.length:Int)) (y_lnG 45 Tryz.underlying45 _ rfl (F163 143 rfl) rfl) fun _ F164=>?_
         refine zc (w':=w158) rfl rfl F164 rfl (.bool true) (zha _ _ _ _ rfl (F164 142 rfl) (F164 144 rfl) (decide_eq_true (show (kn:Int)<(L.length:Int) by omega))) fun _ F165=>?_
         refine hK161 _ _ (wp_cond_true (F165 145 rfl) (wp_skip (hK160 _ _ (zSk fun _ hK166=>wp_block (zT fun _ hK167=>rm rfl F165 fun _ F168=>rm rfl F168 fun _ F169=>rm rfl F169 fun _ F170=>zc (w':=w158) rfl rfl F170 rfl ((ixV (.slice A78 L.length c78) kn)) (y_ixTx _ _ rfl (F170 150 rfl) (M159.at_ 11 _ rfl) (F170 151 rfl) rfl hkl) fun _ F171=>?_)))))
         refine zc (w':=w158) rfl rfl F171 rfl (.string nm) (y_ldTx _ rfl (F171 152 rfl) (M159.at_ 11 _ rfl) hnm) fun _ F172=>?_
         refine zf rfl rfl F172 rfl rfl (zE Tryz.func24 rfl) #[(zO g41),.string nm] (zea (F172 149 rfl) (F172 153 rfl)) (get_is g41 V6 s138 n138 hT6.inv nm true rv (decide_eq_true hn6) hr6 w158 (M159.hasV (kg:=4) (kr:=5) rfl rfl (by decide))) ?_
         rintro _ w173 a173 ⟨U173,rfl,is173,lo173,b173⟩ F173
         have M173:=M159.newRec b173 is173 lo173 18 19
         clear M159 b173 lo173
         refine zAx 3 [(148,.tuple #[.agg (recA rv U173),.bool true]),(155,.agg (recA rv U173)),(156,.bool true)] [] dnil [] F173 fun _ F174=>?_
         refine zp rfl rfl F174 rfl M173 20 (t:=37) (c:=recA ⟨0, "".toUTF8,[],0,0,[],0,0,0⟩ ⟨zN,zN⟩) (by unfold execOp;kernel_rfl) ?_
         intro g175 a175 w175 F175 M175
         refine zu rfl rfl F175 M175 (k:=20) rfl _ _ _ rfl (F175 25 rfl) (F175 155 rfl) (recA rv U173) _ rfl (zL rfl) (z7a (w:=w175) ⟨(M175.isb (k:=18) rfl),(M175.isb (k:=19) rfl)⟩) (zba rfl) (by kernel_rfl) ?_
         intro w176 M176
         refine rm rfl F175 fun _ F177=>hK167 _ _ (zSk fun _ hK178=>?_)
         have hD179:=(zw (M176.blk (k:=20) rfl) dnil)
         refine zva F177 (SK [.inl (.bool true),.inl (.bool false),.inl (.bool false),.inl (.agg (recA rv U173)),.inl (v19),.inl (zI (kn:Int)),.inl ((ixG v19 (kn*23))),.inl (.agg (recA rv U)),.inl (.bool true),.inl (.bool false),.inl (.bool false)]) 11 rfl (by kernel_rfl) ⟨hop0 F177,hop0 F177,hop0 F177,hopP F177 hD179 0 (some g175),hop0 F177,hop0 F177,hopR F177 [(161,v19),(162,zI (kn:Int))] fun ua uw hb ⟨e161,e162,_⟩=>(y_ixR (M176.step hb) (k:=12) rfl 55 Tryz.underlying55 (by kernel_rfl) _ _ rfl e161 e162 rfl hlq),hopR F177 [(163,(ixG v19 (kn*23)))] fun ua uw hb ⟨e163,_⟩=>(y_ldR (M176.step hb) (k:=12) rfl _ _ rfl hlq e163 (recA rv U) (cellsQ_at Q kn (rv,U) hpr) Tryz.underlying37 rfl (by kernel_rfl)),hopC F177 [(160,.agg (recA rv U173)),(164,.agg (recA rv U))] rfl (zE Tryz.func31 rfl) fun uw hb=>(recs_is rv rv ⟨U173.v2,U173.v5⟩ ⟨U.v2,U.v5⟩ hov hov true (eqR_self rv) uw ⟨((M176.step hb).isb (k:=18) rfl),((M176.step hb).isb (k:=19) rfl)⟩ ⟨((M176.step hb).isb (k:=16) rfl),((M176.step hb).isb (k:=17) rfl)⟩),hop0 F177,hop0 F177,trivial⟩ ?_
         intro p180 a180 w180 b180 G180 y180
         obtain ⟨-,-,-,-,-,-,-,-,-,-,q10,-⟩:=y180
         have r10:p180 10=.bool false:=q10 (by decide)
         simp only [List.take,layV,Nat.zero_add,Nat.reduceAdd,r10] at G180
         have M180:=M176.kc b180
         clear F177 M176 r10 q10
         refine hK178 _ _ (wp_cond_false (G180 167 rfl) (wp_skip (hK166 _ _ (zR (rm rfl G180 fun _ F181=>zc (w':=w180) rfl rfl F181 rfl (zI ((kn+1:Nat):Int)) (zja _ _ _ _ rfl (F181 146 rfl) rfl (by omega) (by omega)) fun _ F182=>?_)))))
         refine rm rfl F182 fun _ F183=>?_
         subst ek158
         exact hK158 _ (kn+1) _ _ (by omega) ⟨rfl,(by omega)⟩ (F183.sb) (M180.sb)
        ·refine zSk fun _ hK184=>zT fun _ hK185=>rm rfl F158 fun _ F186=>rm rfl F186 fun _ F187=>zc (w':=w158) rfl rfl F187 rfl (zI (L.length:Int)) (y_lnG 45 Tryz.underlying45 _ rfl (F187 143 rfl) rfl) fun _ F188=>?_
         refine zc (w':=w158) rfl rfl F188 rfl (.bool false) (zha _ _ _ _ rfl (F188 142 rfl) (F188 144 rfl) (decide_eq_false (show ¬(kn:Int)<(L.length:Int) by omega))) fun _ F189=>?_
         refine hK185 _ _ (wp_cond_false (F189 145 rfl) (wp_exit ?_))
         simp only [Exit.then,Exit.inBlock,↓reduceIte,Nat.reduceEqDiff]
         refine hK130 _ _ (zR (rm rfl F189 fun _ F190=>zc (w':=w158) rfl rfl F190 rfl (zI ((jn+1:Nat):Int)) (zja _ _ _ _ rfl (F190 118 rfl) rfl (by omega) (by omega)) fun _ F191=>?_))
         refine rm rfl F191 fun _ F192=>?_
         subst ek122
         exact hK122 _ ⟨(jn+1),V6,s138,n138⟩ _ _ (by omega) ⟨rfl,⟨by omega,by have:=hT6;rwa [show 2+(jn:Int)+1=2+((jn+1:Nat):Int) by omega] at this⟩⟩ (F192.sb) (M158.sb)
       ·refine zc (w':=w122) rfl rfl F127 rfl (.bool false) (zha _ _ _ _ rfl (F127 114 rfl) (F127 116 rfl) (decide_eq_false h128)) fun _ F193=>?_
        refine hK124 _ _ (wp_cond_false (F193 117 rfl) (wp_exit ?_))
        simp only [Exit.then,Exit.inBlock,↓reduceIte,Nat.reduceEqDiff]
        refine hK119 _ _ (zT fun _ hK194=>rm rfl F193 fun _ F195=>hK194 _ _ (wp_ret ?_))
        try simp only [Exit.then,Exit.inBlock,Exit.jump]
        exact bodyPost_ret (res1 rfl (F195.get rfl)) F195.defers ⟨rfl,M122.below⟩
     ·refine wp_cond_true (F67 87 rfl) (zT fun _ hK196=>rm rfl F67 fun _ F197=>hK196 _ _ (wp_ret ?_))
      try simp only [Exit.then,Exit.inBlock,Exit.jump]
      exact bodyPost_ret (res1 rfl (F197.get rfl)) F197.defers ⟨rfl,M67.below⟩
    refine zT fun _ hK198=>rm rfl F48 fun _ F199=>hK198 _ _ (wp_block ?_)
    refine znb (α:=Nat×VltN×(Nat→Value)×(Nat→Value)×(Nat→Value)×(Nat→Value)×(Nat→Option RecN)) (n:=168) (G:=none) (w0:=w) (fun x=>[(0,.slice A0 n0 cap0),(1,.slice A1 n1 cap1),(2,zI a2),(3,zI a3),(4,.slice A4 n4 cap4),(5,.slice A5 n5 cap5),(13,(zO g41)),(14,(zO gx42)),(15,zI (x.1:Int))]) (fun x=>[(0,bytR l1 (.slice A1 n1 cap1)),(1,intR A0 n0 x0),(2,intR A4 n4 x4),(3,intR A5 n5 x5),(4,blkR g41 80 (vltA x.2.1 x.2.2.1 x.2.2.2.1)),(5,zua 0 18 x.2.1.c x.2.2.1 x.2.2.2.1),(6,xR gx42 gc42 x.2.1 x.2.2.2.2.1 x.2.2.2.2.2.1)]) (fun k x=>k=(25-x.1)∧(x.1≤25∧StOk (x.1+1) x.2.1∧(AccV x.2.1 x.2.2.2.2.2.2∧DisM x.2.2.2.2.2.2))) _ ⟨0,V1,s41,n41,s42,n42,(fun _=>none)⟩ ⟨rfl,⟨Nat.zero_le _,hS1,hA1,dis0⟩⟩ (F199.sb) (M42.sb) ?_
    rintro k200 ⟨jn,Vv,sv,nv,sx,nx,mv⟩ a200 w200 K200 ⟨ek200,I200⟩ F200 M200 hK200
    replace F200:Fx 168 a200 [(0,.slice A0 n0 cap0),(1,.slice A1 n1 cap1),(2,zI a2),(3,zI a3),(4,.slice A4 n4 cap4),(5,.slice A5 n5 cap5),(13,(zO g41)),(14,(zO gx42)),(15,zI (jn:Int))]:=F200
    replace M200:Mx _ _ w200 [(0,bytR l1 (.slice A1 n1 cap1)),(1,intR A0 n0 x0),(2,intR A4 n4 x4),(3,intR A5 n5 x5),(4,blkR g41 80 (vltA Vv sv nv)),(5,zua 0 18 Vv.c sv nv),(6,xR gx42 gc42 Vv sx nx)]:=M200
    replace I200:jn≤25∧StOk (jn+1) Vv∧(AccV Vv mv∧DisM mv):=I200
    replace ek200:k200=(25-jn):=ek200
    obtain ⟨hj,hS,hX⟩:=I200
    refine zSk fun _ hK201=>zT fun _ hK202=>rm rfl F200 fun _ F203=>rm rfl F203 fun _ F204=>zc (w':=w200) rfl rfl F204 rfl (zI (n0:Int)) (y_lnG 22 Tryz.underlying22 _ rfl (F204 47 rfl) rfl) fun _ F205=>?_
    by_cases h206:(jn:Int)<(n0:Int)
    ·refine zc (w':=w200) rfl rfl F205 rfl (.bool true) (zha _ _ _ _ rfl (F205 46 rfl) (F205 48 rfl) (decide_eq_true h206)) fun _ F207=>?_
     refine rm rfl F207 fun _ F208=>rm rfl F208 fun _ F209=>?_
     by_cases h210:(jn:Int)<25
     ·have xb:=hr0.2.1 jn
      obtain ⟨nn,hnn,hnnl⟩:∃ k:Nat,(x0 jn)%1073741824=(k:Int)∧k<1073741824:=in6 _ (by decide)
      refine zc (w':=w200) (zd rfl rfl rfl (F209 50 rfl)) rfl F209 rfl (.bool true) (zha _ _ _ _ rfl (F209 51 rfl) rfl (decide_eq_true h210)) fun _ F211=>?_
      refine zc (w':=w200) rfl rfl F211 rfl (.bool true) (zpb rfl (F211 50 rfl) (F211 52 rfl)) fun _ F212=>?_
      refine hK202 _ _ (wp_cond_true (F212 53 rfl) (wp_skip (hK201 _ _ (zSk fun _ hK213=>wp_block (zT fun _ hK214=>rm rfl F212 fun _ F215=>rm rfl F215 fun _ F216=>zc (w':=w200) rfl rfl F216 rfl ((ixV (.slice A0 n0 cap0) jn)) (y_ixJ _ _ rfl (F216 56 rfl) (M200.rdI (k:=1) rfl) (F216 57 rfl) rfl (by omega)) fun _ F217=>?_)))))
      refine zc (w':=w200) rfl rfl F217 rfl (zI (x0 jn)) (y_ldJ _ rfl (F217 58 rfl) (M200.rdI (k:=1) rfl) (by omega)) fun _ F218=>?_
      refine zf rfl rfl F218 rfl rfl (zE Tryz.func17 rfl) #[zI (x0 jn),zI 1073741824] (zea (F218 59 rfl) rfl) (zz ((hnn▸within6_any (x0 jn) 1073741824 (by decide) (by decide) xb.1 xb.2 w200))) ?_
      rintro _ w219 a219 ⟨rfl,rfl⟩ F219
      refine rm rfl F219 fun _ F220=>hK214 _ _ (zSk fun K221 hK221=>?_)
      have J221:∀ (kz:Nat) (aJ:Act) (wJ:World),(kz<1073741824∧kz%12≤7)→Fx 168 aJ [(0,.slice A0 n0 cap0),(1,.slice A1 n1 cap1),(2,zI a2),(3,zI a3),(4,.slice A4 n4 cap4),(5,.slice A5 n5 cap5),(13,(zO g41)),(14,(zO gx42)),(15,zI (jn:Int)),(16,zI (kz:Int))]→Mx none w wJ [(0,bytR l1 (.slice A1 n1 cap1)),(1,intR A0 n0 x0),(2,intR A4 n4 x4),(3,intR A5 n5 x5),(4,blkR g41 80 (vltA Vv sv nv)),(5,zua 0 18 Vv.c sv nv),(6,xR gx42 gc42 Vv sx nx)]→K221 aJ wJ:=by
       intro kz a221 w221 I221 F221 M221
       refine hK221 _ _ ?_
       obtain ⟨hz1,hz2⟩:=I221
       refine zT fun _ hK222=>rm rfl F221 fun _ F223=>rm rfl F223 fun _ F224=>rm rfl F224 fun _ F225=>rm rfl F225 fun _ F226=>?_
       refine zf rfl rfl F226 rfl rfl (zE Tryz.func16 rfl) #[(zO g41),(zO gx42),zI (kz:Int),.slice A1 n1 cap1,zN] (args5 (F226 68 rfl) (F226 69 rfl) (F226 70 rfl) (F226 71 rfl) rfl) (lstep_any g41 gx42 gc42 Vv sv nv sx nx hS.inv (by omega) hS.left l1 (.slice A1 n1 cap1) (zN) (by omega) (kz:Int) (by omega) (by omega) w221 (M221.rowsV (i:=5) (k:=4) rfl rfl (by decide)) (M221.blk (k:=4) rfl) (M221.xOk (k:=6) rfl) (fun h=>M221.dis 4 6 _ _ rfl rfl (by decide) rfl _ rfl h) (M221.isb (k:=0) rfl) (fun h=>M221.dis 4 0 _ _ rfl rfl (by decide) rfl _ rfl h)) ?_
       rintro _ w227 a227 ⟨rfl,V227,sv227,wm227,s227,n227,vt227,xt227⟩ F227
       obtain ⟨sx227,nx227,M227⟩:=(M221.vault (kg:=4) (kr:=5) rfl rfl vt227.grown vt227.blk vt227.rows vt227.fpt).xput (k:=6) rfl xt227
       clear M221 vt227 xt227
       have st227:=st_step hS (by omega) sv227
       obtain ⟨m2_,hA2_,hD2_⟩:=acc_step hS (by omega) sv227 hX.1 hX.2
       refine zc (w':=w227) rfl rfl F227 rfl (.bool false) (zib _ _ rfl (F227 72 rfl)) fun _ F228=>?_
       refine hK222 _ _ (wp_cond_false (F228 73 rfl) (wp_skip (hK213 _ _ (zR (rm rfl F228 fun _ F229=>zc (w':=w227) rfl rfl F229 rfl (zI ((jn+1:Nat):Int)) (zja _ _ _ _ rfl (F229 54 rfl) rfl (by omega) (by omega)) fun _ F230=>?_)))))
       refine rm rfl F230 fun _ F231=>?_
       subst ek200
       exact hK200 _ ⟨(jn+1),V227,s227,n227,sx227,nx227,m2_⟩ _ _ (by omega) ⟨rfl,⟨by omega,st227,hA2_,hD2_⟩⟩ (F231.sb) (M227.sb)
      refine zT fun _ hK232=>rm rfl F220 fun _ F233=>zc (w':=w200) rfl rfl F233 rfl (zI ((nn%12:Nat):Int)) (y_remI _ _ _ _ rfl (F233 61 rfl) rfl (by omega) (by omega) (by omega)) fun _ F234=>?_
      by_cases h235:8≤((nn%12:Nat):Int)
      ·refine zc (w':=w200) rfl rfl F234 rfl (.bool true) (y_geq _ _ _ _ rfl (F234 62 rfl) rfl (decide_eq_true h235)) fun _ F236=>?_
       refine hK232 _ _ (wp_cond_true (F236 63 rfl) (zR (rm rfl F236 fun _ F237=>rm rfl F237 fun _ F238=>zc (w':=w200) rfl rfl F238 rfl (zI ((nn%12:Nat):Int)) (y_remI _ _ _ _ rfl (F238 65 rfl) rfl (by omega) (by omega) (by omega)) fun _ F239=>?_)))
       refine zc (w':=w200) rfl rfl F239 rfl (zI ((nn-nn%12:Nat):Int)) (y_subI _ _ _ _ rfl (F239 64 rfl) (F239 66 rfl) (by omega) (by omega)) fun _ F240=>?_
       refine rm rfl F240 fun _ F241=>?_
       exact J221 (nn-nn%12) _ _ (by omega) (F241.sb) (M200.sb)
      ·refine zc (w':=w200) rfl rfl F234 rfl (.bool false) (y_geq _ _ _ _ rfl (F234 62 rfl) rfl (decide_eq_false h235)) fun _ F242=>?_
       refine hK232 _ _ (wp_cond_false (F242 63 rfl) (wp_skip ?_))
       exact J221 nn _ _ (by omega) (F242.sb) (M200.sb)
     ·refine zc (w':=w200) (zd rfl rfl rfl (F209 50 rfl)) rfl F209 rfl (.bool false) (zha _ _ _ _ rfl (F209 51 rfl) rfl (decide_eq_false h210)) fun _ F243=>?_
      refine zc (w':=w200) rfl rfl F243 rfl (.bool false) (zpb rfl (F243 50 rfl) (F243 52 rfl)) fun _ F244=>?_
      refine hK202 _ _ (wp_cond_false (F244 53 rfl) (wp_exit ?_))
      simp only [Exit.then,Exit.inBlock,↓reduceIte,Nat.reduceEqDiff]
      have hS31:=hS.mono (show jn+1≤31 by omega)
      exact J49 Vv sv nv sx nx mv _ _ ⟨hS31,hX⟩ (F244.sb) (M200.sb)
    ·refine zc (w':=w200) rfl rfl F205 rfl (.bool false) (zha _ _ _ _ rfl (F205 46 rfl) (F205 48 rfl) (decide_eq_false h206)) fun _ F245=>?_
     refine zAx 4 [(50,.bool false),(51,undef),(52,undef),(53,.bool false)] [] dnil [] F245 fun _ F246=>?_
     refine hK202 _ _ (wp_cond_false (F246 53 rfl) (wp_exit ?_))
     simp only [Exit.then,Exit.inBlock,↓reduceIte,Nat.reduceEqDiff]
     have hS31:=hS.mono (show jn+1≤31 by omega)
     exact J49 Vv sv nv sx nx mv _ _ ⟨hS31,hX⟩ (F246.sb) (M200.sb)
end Go.Proofs.YtmjbnmbobocpdaaGreat
