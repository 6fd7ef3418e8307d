/- What VaultWhole stands on, part 15. -/
import Derived.Test.YtmjbnmbobocpdaaGreatVaultWholeP1
import Derived.Test.YtmjbnmbobocpdaaGreatVaultWholeP2
import Derived.Test.YtmjbnmbobocpdaaGreatVaultWholeP3
import Derived.Test.YtmjbnmbobocpdaaGreatVaultWholeP4
import Derived.Test.YtmjbnmbobocpdaaGreatVaultWholeP5
import Derived.Test.YtmjbnmbobocpdaaGreatVaultWholeP6
import Derived.Test.YtmjbnmbobocpdaaGreatVaultWholeP7
import Derived.Test.YtmjbnmbobocpdaaGreatVaultWholeP8
import Derived.Test.YtmjbnmbobocpdaaGreatVaultWholeP9
import Derived.Test.YtmjbnmbobocpdaaGreatVaultWholeP10
import Derived.Test.YtmjbnmbobocpdaaGreatVaultWholeP11
import Derived.Test.YtmjbnmbobocpdaaGreatVaultWholeP12
import Derived.Test.YtmjbnmbobocpdaaGreatVaultWholeP13
import Derived.Test.YtmjbnmbobocpdaaGreatVaultWholeP14
set_option maxRecDepth 100000
set_option maxHeartbeats 8000000
set_option linter.unusedVariables false
set_option linter.unusedSimpArgs false
namespace Go.Proofs.YtmjbnmbobocpdaaGreat
open Go.ChangeShapes Go.WideShapes Go.ChangeAt Go.RowKit
section
open Go.Shelf
def CleanC (i:Nat) (c:CelN):Prop:=c.f=false∧c.n=[]∧(c.s=[]∨∃ x8:UInt8,c.s[8]? = some x8∧c.s.length=25+x8.toNat∧c.s.drop (c.s.length-16)=sumY (outF (macW [] [cellB,zr (i:Int),c.s.take (c.s.length-16)])))
def CleanV (V:VltN):Prop:=∀ i,CleanC i (V.c i)
theorem clean_said (i:Nat) (t:Int) {l:List UInt8} (hl:l.length≤255):CleanC i ⟨z0a zp i t l,[],false⟩:=by
 refine ⟨rfl,rfl,.inr ⟨_,saidL_at8 zp i t l,?_,?_⟩⟩
 ·dsimp only
  rw [saidL_len zp sealH_len,byteI_nat (by omega)]
 ·dsimp only
  have e:(z0a zp i t l).length-16=(bodyL t l).length:=by
   unfold z0a
   rw [List.length_append,sealH_len];omega
  rw [e]
  unfold z0a
  rw [List.drop_left,List.take_left]
  rfl
theorem clean_say {V:VltN} (h:CleanV V) (hf:V.fl=false) (q:Nat) {l:List UInt8} (hl:l.length≤255):CleanV (sayW V q l).1∧(sayW V q l).1.fl=false∧(sayW V q l).1.dd=V.dd:=by
 have h1:zac V=false:=by unfold zac;rw [hf];rfl
 have h2:zac (z2b V (nxtP V q) (z0a zp (nxtP V q) (nxtT V q) l))=false:=by unfold zac;rw [show (z2b V (nxtP V q) (z0a zp (nxtP V q) (nxtT V q) l)).fl=V.fl from rfl,hf];rfl
 rw [say_3 rfl rfl h1 h2]
 refine ⟨fun i=>?_,hf,rfl⟩
 rw [keep_c]
 by_cases e:i=nxtP V q
 ·subst e;rw [zkb];exact clean_said _ _ hl
 ·rw [znb _ _ e,znb _ _ e];exact h i
theorem clean_zero:CleanV zeroV:=fun i=>⟨rfl,rfl,.inl rfl⟩
structure StOk (K:Nat) (V:VltN):Prop where
 inv:InvV K V
 era:EraV V 1
 fl:V.fl=false
 dd:V.dd=false
 cl:CleanV V
theorem StOk.left {K:Nat} {V:VltN} (h:StOk K V):LeftOk V:=fun e=>by rw [h.fl] at e;cases e
theorem StOk.mono {K K':Nat} {V:VltN} (h:StOk K V) (hK:K≤K'):StOk K' V:=⟨h.inv.mono hK,h.era,h.fl,h.dd,h.cl⟩
theorem st_new:StOk 1 (ageW zeroV):=⟨new_is.2.1,new_is.1,new_is.2.2.1,new_is.2.2.2,(clean_say clean_zero rfl 16 (by rw [zfa];omega)).1⟩
theorem st_step {K:Nat} {V V':VltN} (h:StOk K V) (hK:K<255) (hs:StepV V V'):StOk (K+1) V':=by
 obtain ⟨h1,h2⟩:=step_keep6 hs h.inv hK h.era
 have key:CleanV V'∧V'.fl=false∧V'.dd=false:=by
  have same:CleanV V∧V.fl=false∧V.dd=false:=⟨h.cl,h.fl,h.dd⟩
  have say:∀ q (l:List UInt8),l.length≤255→CleanV (sayW V q l).1∧(sayW V q l).1.fl=false∧(sayW V q l).1.dd=false:=fun q l hl=>by
   have:=clean_say h.cl h.fl q hl
   rw [h.dd] at this;exact this
  rcases hs with ⟨r,_,rfl⟩ | ⟨nm,rfl⟩
  ·unfold putV
   have hl:=recE_bd r
   split
   ·exact same
   ·split
    ·exact same
    ·split
     ·exact say _ _ (by omega)
     ·split
      ·exact say _ _ (by omega)
      ·exact same
  ·unfold goneV
   split
   ·exact same
   ·split
    ·exact say _ _ (Nat.zero_le _)
    ·exact same
 exact ⟨h1,h2,key.2.1,key.2.2,key.1⟩
theorem xnew_is (V:VltN) (h:ageW zeroV=V) (w:World):Calls Tryz.prog 15 #[] w fun e w'=>∃ t,e=.returned t∧∃ gx gc s n,t=(zO gx)∧XOk w' gx gc V s n∧w.heap.size≤gx∧w.heap.size≤gc∧(∀ b,zq 18 s n b→w.heap.size≤b)∧Below w.heap.size w w':=by
 subst h;exact xnew_any w
end
section
open Go.Shelf
theorem good_T {K i:Nat} {b:List UInt8} (hb:CellOk K b) (h:zdb zp i b=true):GoodT i b:=by
 have h25:=zvc h
 rw [good_long h25] at h
 have hs:=of_decide_eq_true h
 have hl:(saysL b).length≤255:=by rw [saysL_len];have:=hb.1;omega
 obtain ⟨-,-,h1⟩:=clean_said i (turnL b) hl
 dsimp only at h1
 rw [hs] at h1
 rcases h1 with h1 | ⟨x8,h1,h2,h3⟩
 ·rw [h1] at h25;exact absurd h25 (by decide)
 ·exact ⟨x8,h1,h2,h3.symm⟩
theorem said_eq2 {V V':VltN} {q:Nat} (h:anyB zp V' q=anyB zp V q) (h2:anyB zp V q=true→cntS V' q=cntS V q):zbc V' q=zbc V q∧zwa V' q=zwa V q∧zma V' q=zma V q∧numB V' q=numB V q∧zdc V' q=zdc V q:=by
 unfold zbc zwa zma numB zdc
 rw [h]
 cases ha:anyB zp V q with
 | true=>rw [h2 ha];exact ⟨rfl,rfl,rfl,rfl,rfl⟩
 | false=>exact ⟨rfl,rfl,rfl,rfl,rfl⟩
theorem pair_bad {V V':VltN} {q N:Nat} (hN:nxtP V q=N) (h:∀ i,i≠N→(V'.c i).s=(V.c i).s) (hb:zdb zp N (V'.c N).s=false):anyB zp V' q=anyB zp V q∧(anyB zp V q=true→cntS V' q=cntS V q):=by
 obtain ⟨g0,e0⟩:∃ x,zdb zp q (V.c q).s=x:=⟨_,rfl⟩
 obtain ⟨g1,e1⟩:∃ x,zdb zp (q+1) (V.c (q+1)).s=x:=⟨_,rfl⟩
 cases ha:anyB zp V q with
 | false=>
  have hq:N=q:=by rw [←hN];exact if_neg (by rw [ha];exact Bool.false_ne_true)
  subst hq
  have h1:=h (N+1) (by omega)
  unfold anyB secB at ha ⊢
  rw [e0,e1] at ha
  rw [h1,hb,e1]
  cases g0 <;> cases g1 <;> simp at ha ⊢
 | true=>
  have hn:N=2*q+1-cntP V q:=by rw [←hN];exact if_pos ha
  cases hs:secB zp V q with
  | true=>
   have hg:zdb zp (q+1) (V.c (q+1)).s=true:=by unfold secB at hs;simp only [Bool.and_eq_true] at hs;exact hs.1
   have hc:cntP V q=q+1:=by unfold cntP;rw [if_pos hs];exact if_pos (zvc hg)
   have hq:N=q:=by omega
   subst hq
   have h1:=h (N+1) (by omega)
   have hs':secB zp V' N=true:=by unfold secB;rw [h1,hg,hb];rfl
   exact ⟨by unfold anyB;rw [hs'];rfl,fun _=>by unfold cntS;rw [if_pos hs',if_pos hs,h1]⟩
  | false=>
   have hg:zdb zp q (V.c q).s=true:=by unfold anyB at ha;rw [hs] at ha;exact ha
   have hc:cntP V q=q:=by unfold cntP;rw [if_neg (by rw [hs];exact Bool.false_ne_true)];exact if_pos (zvc hg)
   have hq:N=q+1:=by omega
   subst hq
   have h1:=h q (by omega)
   have hs':secB zp V' q=false:=by unfold secB;rw [hb];rfl
   exact ⟨by unfold anyB;rw [hs',h1,hg];rfl,fun _=>by unfold cntS;rw [if_neg (by rw [hs'];exact Bool.false_ne_true),if_neg (by rw [hs];exact Bool.false_ne_true),h1]⟩
theorem setC_unf6 {c:Nat→CelN} (h:∀ i,(c i).f=false) (x:Nat→Int) (m:Nat):∀ j,setC c x m j=c
 | 0=>rfl
 | j+1=>(setC_no (h j)).trans (setC_unf6 h x m j)
theorem setC_one {c:Nat→CelN} {p:Nat} (hp:p<18) (hf:(c p).f=true) (ho:∀ i,i≠p→(c i).f=false) (x:Nat→Int) (m:Nat):∀ i,(setC c x m 18 i).s=if i=p then (c p).n.take (cutN x m (c p).n.length)++(c p).s.drop (cutN x m (c p).n.length) else (c i).s:=fun i=>by
 by_cases hm:0<m
 ·rw [(setCK_one hf ho x hm 18).2,if_pos hp]
  unfold cutN
  rw [if_pos hm]
  by_cases e:i=p
  ·subst e;rw [zkb,if_pos rfl];rfl
  ·rw [znb _ _ e,if_neg e]
 ·obtain rfl:m=0:=by omega
  rw [setC_s0 c x 18 i]
  unfold cutN
  rw [if_neg hm,List.take_zero,List.drop_zero,List.nil_append]
  by_cases e:i=p
  ·subst e;rw [if_pos rfl]
  ·rw [if_neg e]
theorem torn_say {K:Nat} {V:VltN} {m m':Nat→Option RecN} (hS:StOk K V) (hK:K<255) (ha:AccV V m) {p:Nat} (hp:p<8) {l:List UInt8} (hl:l.length≤255) (ha':AccV (sayW V (2*p) l).1 m') (z:Int) {W:VltN} {b:Bool} (hW:(sayW (z9b V z) (2*p) l).1=W) (hb:(sayW (z9b V z) (2*p) l).2=b):
  ∃ N,N<18∧(∀ i,i≠N→(W.c i).f=false)∧∀ (tx:Nat→Int) (mm:Nat),((W.c N).f=true→OkT N (W.c N) tx mm)→(b=true→AccV (ageW (zec W tx mm)) m')∧(b=false→AccV (ageW (zec W tx mm)) m∨AccV (ageW (zec W tx mm)) m'):=by
 have hnp:=nxtP_in V (2*p)
 have hnb:=nxtT_bd hS.inv (2*p)
 obtain ⟨N,hN⟩:∃ x,nxtP V (2*p)=x:=⟨_,rfl⟩
 obtain ⟨sb,hsb⟩:∃ x,z0a zp N (nxtT V (2*p)) l=x:=⟨_,rfl⟩
 have hNf:nxtP (z9b V z) (2*p)=N:=hN
 have hTf:z0a zp N (nxtT (z9b V z) (2*p)) l=sb:=hsb
 have hunf:∀ i,(V.c i).f=false:=fun i=>(hS.cl i).1
 -- whole
 have hF:=sayW_live (2*p) l hS.fl
 have hwh:∀ i,((sayW V (2*p) l).1.c i).s=if i=N then sb else (V.c i).s:=fun i=>by
  by_cases e:i=N
  ·subst e;rw [if_pos rfl,←hN,hF.2.2.2,←hsb,hN]
  ·rw [if_neg e,(sayW_c V (2*p) l).1 i (by rw [hN];exact e)]
 have lo:∀ (U:VltN) (tx:Nat→Int) (mm i:Nat),i<16→((ageW (zec U tx mm)).c i).s=(setC U.c tx mm 18 i).s:=fun U tx mm i hi=>by rw [age_low hi];rfl
 refine ⟨N,by omega,?_,?_⟩
 ·intro i hi
  rw [←hW]
  obtain ⟨h1,-⟩:=sayW_c (z9b V z) (2*p) l
  rw [h1 i (by rw [hNf];exact hi)]
  exact hunf i
 ·intro tx mm hT
  by_cases h1:zac (z9b V z)=true
  ·rw [say_1 h1] at hW hb
   subst hW hb
   refine ⟨(fun h=>by cases h),fun _=>.inl (acc_cells (fun i hi=>?_) ha)⟩
   rw [lo _ _ _ i hi]
   show (setC V.c tx mm 18 i).s=_
   rw [setC_unf6 hunf]
  ·have h1:=Bool.eq_false_iff.2 h1
   by_cases h2:zac (z2b (z9b V z) N sb)=true
   ·rw [say_2 hNf hTf h1 h2] at hW hb
    subst hW hb
    have hc:(deadV (z2b (z9b V z) N sb)).c=putC V.c N ⟨(V.c N).s,sb,true⟩:=rfl
    rw [hc,zkb] at hT
    replace hT:=hT rfl
    have ho:∀ i,i≠N→((putC V.c N ⟨(V.c N).s,sb,true⟩) i).f=false:=fun i hi=>by rw [znb _ _ hi];exact hunf i
    have hone:=setC_one (c:=putC V.c N ⟨(V.c N).s,sb,true⟩) (p:=N) (by omega) (by rw [zkb]) ho tx mm
    rw [zkb] at hone
    obtain ⟨B,hB⟩:∃ x,sb.take (cutN tx mm sb.length)++(V.c N).s.drop (cutN tx mm sb.length)=x:=⟨_,rfl⟩
    have hcut:cutN tx mm sb.length≤sb.length:=by
     unfold cutN
     split
     ·exact tornN_le _ _
     ·exact Nat.zero_le _
    unfold OkT at hT
    dsimp only at hT hone
    rw [hB] at hT hone
    have hl5:∀ i,i<16→((ageW (zec (deadV (z2b (z9b V z) N sb)) tx mm)).c i).s=if i=N then B else (V.c i).s:=fun i hi=>by
     rw [lo _ _ _ i hi,hc,hone i]
     by_cases e:i=N
     ·rw [if_pos e,if_pos e]
     ·rw [if_neg e,if_neg e,znb _ _ e]
    refine ⟨(fun h=>by cases h),fun _=>?_⟩
    rcases hT with hT | hT | hT
    ·exact .inr (acc_cells (fun i hi=>by rw [hl5 i hi,hwh i,hT]) ha')
    ·refine .inl (acc_cells (fun i hi=>?_) ha)
     rw [hl5 i hi,hT]
     by_cases e:i=N
     ·subst e;rw [if_pos rfl]
     ·rw [if_neg e]
    ·refine .inl fun k hk=>?_
     by_cases e:k=p
     ·subst e
      have hsok:CellOk (K+1) sb:=by rw [←hsb];exact said_ok (by omega) (by omega) (by omega) hl
      have hBok:CellOk (K+1) B:=by rw [←hB];exact CellOk.torn hcut hsok ((hS.inv N).1.mono (by omega))
      have hbad:zdb zp N B=false:=by
       cases hg:zdb zp N B with
       | false=>rfl
       | true=>exact absurd (good_T hBok hg) hT
      obtain ⟨j1,j2⟩:=pair_bad (V':={ V with c:=fun i=>⟨if i=N then B else (V.c i).s,[],false⟩ }) hN (fun i hi=>if_neg hi) (by show zdb zp N (if N=N then B else _)=false;rw [if_pos rfl];exact hbad)
      have key:=said_eq2 j1 j2
      refine acc_of ?_ (ha k hk)
      have he:=said_eq (V':=ageW (zec (deadV (z2b (z9b V z) N sb)) tx mm)) (V:={ V with c:=fun i=>⟨if i=N then B else (V.c i).s,[],false⟩ }) (q:=2*k) (pair_eq (hl5 _ (by omega)) (hl5 _ (by omega)))
      exact ⟨he.1.trans key.1,he.2.1.trans key.2.1,he.2.2.1.trans key.2.2.1,he.2.2.2.1.trans key.2.2.2.1,he.2.2.2.2.trans key.2.2.2.2⟩
     ·refine acc_of (said_eq (pair_eq ?_ ?_)) (ha k hk)
      ·rw [hl5 _ (by omega),if_neg (by omega)]
      ·rw [hl5 _ (by omega),if_neg (by omega)]
   ·have h2:=Bool.eq_false_iff.2 h2
    rw [say_3 hNf hTf h1 h2] at hW hb
    subst hW hb
    refine ⟨fun _=>acc_cells (fun i hi=>?_) ha',(fun h=>by cases h)⟩
    have hu:∀ i,((keepV (z2b (z9b V z) N sb) N).c i).f=false:=fun i=>by
     rw [keep_c]
     by_cases e:i=N
     ·subst e;rw [zkb]
     ·rw [znb _ _ e,znb _ _ e];exact hunf i
    rw [lo _ _ _ i hi,setC_unf6 hu,hwh i,keep_c]
    by_cases e:i=N
    ·subst e;rw [zkb,if_pos rfl]
    ·rw [znb _ _ e,znb _ _ e,if_neg e];rfl
end
section
open Go.Shelf
structure DisM (m:Nat→Option RecN):Prop where
 ok:∀ i r,i<8→m i=some r→RecOk r
 one:∀ i j r s,i<8→j<8→m i=some r→m j=some s→r.s.toList=s.s.toList→i=j
theorem isN_yes {nm:ByteArray} {o:Option RecN} (h:isN nm o=true):∃ r,o=some r∧r.s.toList=nm.toList:=by
 cases o with
 | none=>cases h
 | some r=>exact ⟨r,rfl,of_decide_eq_true h⟩
def Tgt (m:Nat→Option RecN) (r:RecN) (gn:Bool) (m5:Nat→Option RecN):Prop:=∃ p,p<8∧(∀ i,i<8→i≠p→isN r.s (m i)=false)∧(gn=false→m5=updO m p (some r)∧(m p=none∨isN r.s (m p)=true))∧(gn=true→m5=updO m p none∧isN r.s (m p)=true)
theorem others {m:Nat→Option RecN} (hd:DisM m) {nm:ByteArray} {p:Nat} (hp:p<8) (h:isN nm (m p)=true):∀ i,i<8→i≠p→isN nm (m i)=false:=fun i hi hne=>by
 cases hi':isN nm (m i) with
 | false=>rfl
 | true=>
  obtain ⟨r,e1,e2⟩:=isN_yes h
  obtain ⟨s,e3,e4⟩:=isN_yes hi'
  exact absurd (hd.one i p s r hi hp e3 e1 (e4.trans e2.symm)) hne
theorem plc_8 {m:Nat→Option RecN} {nm:ByteArray} (h:¬plcM m nm<8):plcM m nm=8:=by
 have h1:=fst8_le (fun k=>isN nm (m k))
 have h2:=fst8_le (fun k=>(m k).isNone)
 unfold plcM at h ⊢
 split <;> split at h <;> omega
theorem tgt_put {m:Nat→Option RecN} {r:RecN} (hd:DisM m) (h8:plcM m r.s<8):Tgt m r false (updO m (plcM m r.s) (some r)):=by
 obtain ⟨p,hp⟩:∃ x,plcM m r.s=x:=⟨_,rfl⟩
 rw [hp] at h8 ⊢
 unfold plcM at hp
 rcases fst8_spec (fun k=>isN r.s (m k)) with ⟨q1,q2,q3⟩ | ⟨q1,q2⟩
 ·rw [if_pos q1] at hp
  rw [hp] at q1 q2
  exact ⟨p,h8,others hd h8 q2,fun _=>⟨rfl,.inr q2⟩,fun h=>by cases h⟩
 ·rw [if_neg (by omega)] at hp
  rcases fst8_spec (fun k=>(m k).isNone) with ⟨s1,s2,s3⟩ | ⟨s1,s2⟩
  ·rw [hp] at s2
   refine ⟨p,h8,fun i hi _=>q2 i hi,fun _=>⟨rfl,.inl ?_⟩,fun h=>by cases h⟩
   cases hm:m p with
   | none=>rfl
   | some x=>rw [hm] at s2;cases s2
  ·omega
theorem whole_mut {K:Nat} {V:VltN} {m:Nat→Option RecN} (hS:StOk K V) (hK:K<254) (ha:AccV V m) (hd:DisM m) {r:RecN} (ho:RecOk r) (hk:zda r=true) (gn:Bool) (z:Int):
  ∃ V4 e N,(gn=false→(putV (z9b V z) r).1=V4∧(putV (z9b V z) r).2=e)∧(gn=true→(goneV (z9b V z) r.s).1=V4∧(goneV (z9b V z) r.s).2=e)∧N<18∧(∀ i,i≠N→(V4.c i).f=false)∧InvV (K+1) V4∧EraV V4 1 ∧
   ∀ (tx:Nat→Int) (mm:Nat),((V4.c N).f=true→OkT N (V4.c N) tx mm)→∃ m5,AccV (ageW (zec V4 tx mm)) m5∧((m5=m∧e≠0)∨(Tgt m r gn m5∧(e=0∨e=10))):=by
 have haf:AccV (z9b V z) m:=acc_fail z ha
 have hif:InvV K (z9b V z):=fun i=>hS.inv i
 have hef:EraV (z9b V z) 1:=hS.era
 have hdf:(z9b V z).dd=false:=hS.dd
 have none_:∀ e:Int,e≠0→∀ (tx:Nat→Int) (mm:Nat),∃ m5,AccV (ageW (zec (z9b V z) tx mm)) m5∧((m5=m∧e≠0)∨(Tgt m r gn m5∧(e=0∨e=10))):=fun e he tx mm=>by
  refine ⟨m,acc_cells (fun i hi=>?_) ha,.inl ⟨rfl,he⟩⟩
  rw [age_low hi]
  show (setC V.c tx mm 18 i).s=_
  rw [setC_unf6 (fun i=>(hS.cl i).1)]
 have say:∀ p,p<8→∀ l:List UInt8,l.length≤255→∀ m',AccV (sayW V (2*p) l).1 m'→Tgt m r gn m'→∃ N,N<18∧(∀ i,i≠N→((sayW (z9b V z) (2*p) l).1.c i).f=false)∧∀ (tx:Nat→Int) (mm:Nat),(((sayW (z9b V z) (2*p) l).1.c N).f=true→OkT N ((sayW (z9b V z) (2*p) l).1.c N) tx mm)→∃ m5,AccV (ageW (zec (sayW (z9b V z) (2*p) l).1 tx mm)) m5∧((m5=m∧(if (sayW (z9b V z) (2*p) l).2=true then (0:Int) else 10)≠0)∨(Tgt m r gn m5∧((if (sayW (z9b V z) (2*p) l).2=true then (0:Int) else 10)=0∨(if (sayW (z9b V z) (2*p) l).2=true then (0:Int) else 10)=10))):=fun p hp l hl m' ha' ht=>by
  obtain ⟨N,h1,h2,h3⟩:=torn_say hS (by omega) ha hp hl ha' z rfl rfl
  refine ⟨N,h1,h2,fun tx mm hT=>?_⟩
  obtain ⟨h4,h5⟩:=h3 tx mm hT
  cases hb:(sayW (z9b V z) (2*p) l).2 with
  | true=>exact ⟨m',h4 hb,.inr ⟨ht,.inl (if_pos rfl)⟩⟩
  | false=>
   rcases h5 hb with h | h
   ·exact ⟨m,h,.inl ⟨rfl,by decide⟩⟩
   ·exact ⟨m',h,.inr ⟨ht,.inr (if_neg Bool.false_ne_true)⟩⟩
 cases gn with
 | false=>
  have hp:=plcM m r.s
  by_cases h8:plcM m r.s<8
  ·obtain ⟨p,hp⟩:∃ x,plcM m r.s=x:=⟨_,rfl⟩
   have hput:=put_acc haf hdf hk h8
   have hnp:putV V r=_:=put_acc ha hS.dd hk h8
   rw [hp] at hput hnp h8
   have hlv:=sayW_live (2*p) (recE r) hS.fl
   have ha':=acc_say hS.inv (by omega) ha (k:=p) ho hk hlv.1
   have ht:Tgt m r false (updO m p (some r)):=by
    have:=tgt_put (r:=r) hd (by rw [hp];exact h8)
    rwa [hp] at this
   obtain ⟨N,h1,h2,h3⟩:=say p h8 (recE r) (Nat.le_trans (recE_bd r) (by decide)) _ ha' ht
   refine ⟨_,_,N,fun _=>⟨rfl,rfl⟩,fun h=>(by cases h),h1,?_,(put_keep hif (by omega) hef r).1,(put_keep hif (by omega) hef r).2,?_⟩
   ·rw [hput];exact h2
   ·rw [hput];exact h3
  ·have h8:plcM m r.s=8:=plc_8 h8
   have hput:=put_full haf hdf hk h8
   refine ⟨_,_,0,fun _=>⟨rfl,rfl⟩,fun h=>(by cases h),by decide,?_,(put_keep hif (by omega) hef r).1,(put_keep hif (by omega) hef r).2,?_⟩
   ·rw [hput];exact fun i _=>(hS.cl i).1
   ·rw [hput];exact fun tx mm _=>none_ (7:Int) (by decide:(7:Int)≠0) tx mm
 | true=>
  have hg:=gone_acc haf r.s hdf
  obtain ⟨p,hp⟩:∃ x,(fst8 fun k=>isN r.s (m k))=x:=⟨_,rfl⟩
  rw [hp] at hg
  by_cases h8:p<8
  ·rw [if_pos h8] at hg
   have hlv:=sayW_live (2*p) [] hS.fl
   have ha':=acc_gone hS.inv (by omega) ha (k:=p) hlv.1
   have q2:isN r.s (m p)=true:=by
    rcases fst8_spec (fun k=>isN r.s (m k)) with ⟨q1,q2,q3⟩ | ⟨q1,q2⟩
    ·rw [hp] at q2;exact q2
    ·omega
   have ht:Tgt m r true (updO m p none):=⟨p,h8,others hd h8 q2,fun h=>(by cases h),fun _=>⟨rfl,q2⟩⟩
   obtain ⟨N,h1,h2,h3⟩:=say p h8 [] (Nat.zero_le _) _ ha' ht
   refine ⟨_,_,N,fun h=>(by cases h),fun _=>⟨rfl,rfl⟩,h1,?_,(gone_keep hif (by omega) hef r.s).1,(gone_keep hif (by omega) hef r.s).2,?_⟩
   ·rw [hg];exact h2
   ·rw [hg];exact h3
  ·rw [if_neg h8] at hg
   refine ⟨_,_,0,fun h=>(by cases h),fun _=>⟨rfl,rfl⟩,by decide,?_,(gone_keep hif (by omega) hef r.s).1,(gone_keep hif (by omega) hef r.s).2,?_⟩
   ·rw [hg];exact fun i _=>(hS.cl i).1
   ·rw [hg];exact fun tx mm _=>none_ (3:Int) (by decide:(3:Int)≠0) tx mm
noncomputable def recG (V:VltN) (nm:ByteArray):RecN:=if fst8 (zy V nm)<8 then zwa V (2*fst8 (zy V nm)) else zeroRec
theorem zero_ok:RecOk zeroRec:=⟨by decide,by decide,by decide,by decide,by decide,by decide,by decide⟩
theorem recG_m {V:VltN} {m:Nat→Option RecN} (ha:AccV V m) (nm:ByteArray):(fst8 (zy V nm)=fst8 fun k=>isN nm (m k))∧((fst8 fun k=>isN nm (m k))<8→∃ r,m (fst8 fun k=>isN nm (m k))=some r∧r.s.toList=nm.toList∧recG V nm=r)∧(¬(fst8 fun k=>isN nm (m k))<8→recG V nm=zeroRec):=by
 have h:=named8 ha nm
 refine ⟨h,fun h8=>?_,fun h8=>if_neg (by rw [h];exact h8)⟩
 rcases fst8_spec (fun k=>isN nm (m k)) with ⟨q1,q2,q3⟩ | ⟨q1,q2⟩
 ·obtain ⟨r,e1,e2⟩:=isN_yes q2
  refine ⟨r,e1,e2,?_⟩
  have:=ha _ q1
  rw [e1] at this
  unfold recG
  rw [h,if_pos h8]
  exact this.2.1
 ·omega
theorem recG_ok {V:VltN} {m:Nat→Option RecN} (ha:AccV V m) (hd:∀ i r,i<8→m i=some r→RecOk r) (nm:ByteArray):RecOk (recG V nm):=by
 obtain ⟨h1,h2,h3⟩:=recG_m ha nm
 by_cases h8:(fst8 fun k=>isN nm (m k))<8
 ·obtain ⟨r,e1,-,e2⟩:=h2 h8
  rw [e2];exact hd _ r h8 e1
 ·rw [h3 h8];exact zero_ok
theorem isN_upd {m:Nat→Option RecN} {p:Nat} {o:Option RecN} {nm:ByteArray} {b:Bool} (h:isN nm o=b) (i:Nat):isN nm (updO m p o i)=if i=p then b else isN nm (m i):=by
 unfold updO
 split
 ·exact h
 ·rfl
theorem whole_end {V V5:VltN} {m m5:Nat→Option RecN} (ha:AccV V m) (h5:AccV V5 m5) (hd:DisM m) {r:RecN} (ho:RecOk r) (gn:Bool) {e:Int} (h:(m5=m∧e≠0)∨(Tgt m r gn m5∧(e=0∨e=10))) {bi bw bD bN:Bool} {ra rb:RecN} (hbi:decide (fst8 (zy V5 r.s)<8)=bi) (hbw:decide (fst8 (zy V r.s)<8)=bw) (hra:recG V5 r.s=ra) (hrb:recG V r.s=rb)
  (hD:((bi != gn)&&(gn||eqR ra r))=bD) (hN:((bi==bw)&&eqR ra rb)=bN):
  (bD||bN)=true∧(e=0→bD=true)∧(e≠0→e≠10→bN=true)∧RecOk ra∧RecOk rb∧(∀ nm,nm.toList≠r.s.toList→fst8 (zy V5 nm)=fst8 (zy V nm)∧recG V5 nm=recG V nm):=by
 obtain ⟨a1,a2,a3⟩:=recG_m ha r.s
 obtain ⟨c1,c2,c3⟩:=recG_m h5 r.s
 have hok5:∀ i s,i<8→m5 i=some s→RecOk s:=fun i s hi hs=>by
  rcases h with ⟨rfl,_⟩ | ⟨⟨p,hp,hoth,hpu,hgo⟩,_⟩
  ·exact hd.ok i s hi hs
  ·cases gn with
   | false=>
    rw [(hpu rfl).1] at hs
    unfold updO at hs
    split at hs
    ·cases hs;exact ho
    ·exact hd.ok i s hi hs
   | true=>
    rw [(hgo rfl).1] at hs
    unfold updO at hs
    split at hs
    ·cases hs
    ·exact hd.ok i s hi hs
 have hoa:RecOk ra:=by rw [←hra];exact recG_ok h5 hok5 r.s
 have hob:RecOk rb:=by rw [←hrb];exact recG_ok ha hd.ok r.s
 have hoth:∀ nm:ByteArray,nm.toList≠r.s.toList→fst8 (zy V5 nm)=fst8 (zy V nm)∧recG V5 nm=recG V nm:=fun nm hne=>by
  obtain ⟨b1,b2,b3⟩:=recG_m ha nm
  obtain ⟨d1,d2,d3⟩:=recG_m h5 nm
  have key:(∀ i,isN nm (m5 i)=isN nm (m i))∧∀ i,isN nm (m i)=true→m5 i=m i:=by
   rcases h with ⟨rfl,_⟩ | ⟨⟨p,hp,ho2,hpu,hgo⟩,_⟩
   ·exact ⟨fun _=>rfl,fun _ _=>rfl⟩
   ·have hmp:isN nm (m p)=false:=by
     cases hx:isN nm (m p) with
     | false=>rfl
     | true=>
      obtain ⟨s,e1,e2⟩:=isN_yes hx
      have hy:isN r.s (m p)=true∨m p=none:=by
       cases gn with
       | false=>exact (hpu rfl).2.symm
       | true=>exact .inl (hgo rfl).2
      rcases hy with hy | hy
      ·obtain ⟨s2,e3,e4⟩:=isN_yes hy
       rw [e1] at e3;cases e3
       exact absurd (e2.symm.trans e4) hne
      ·rw [e1] at hy;cases hy
    have ho5:∀ i,i≠p→m5 i=m i:=fun i hi=>by
     cases gn with
     | false=>rw [(hpu rfl).1];exact if_neg hi
     | true=>rw [(hgo rfl).1];exact if_neg hi
    refine ⟨fun i=>?_,fun i hi=>ho5 i fun e=>?_⟩
    ·by_cases hi:i=p
     ·subst hi
      rw [hmp]
      cases gn with
      | false=>rw [(hpu rfl).1,isN_upd (b:=false) (show isN nm (some r)=false from decide_eq_false fun e=>hne e.symm),if_pos rfl]
      | true=>rw [(hgo rfl).1,isN_upd (b:=false) rfl,if_pos rfl]
     ·rw [ho5 i hi]
    ·subst e;rw [hmp] at hi;cases hi
  have e0:(fst8 fun k=>isN nm (m5 k))=fst8 fun k=>isN nm (m k):=fst8_congr fun k _=>key.1 k
  refine ⟨by rw [b1,d1,e0],?_⟩
  by_cases h8:(fst8 fun k=>isN nm (m k))<8
  ·obtain ⟨s,e1,e2,e3⟩:=b2 h8
   obtain ⟨s5,e4,e5,e6⟩:=d2 (by rw [e0];exact h8)
   rw [e0,key.2 _ (by rw [e1];exact decide_eq_true e2),e1] at e4
   cases e4
   rw [e3,e6]
  ·rw [b3 h8,d3 (by rw [e0];exact h8)]
 refine ⟨?_,?_,?_,hoa,hob,hoth⟩ <;> clear hoth hok5
 all_goals
  rcases h with ⟨rfl,he⟩ | ⟨⟨p,hp,ho2,hpu,hgo⟩,he⟩
 -- as it was,or as it was to be
 case refine_1.inl=>
  have:bN=true:=by
   rw [←hN,←hbi,←hbw,←hra,←hrb,a1,c1]
   have:recG V5 r.s=recG V r.s:=by
    by_cases h8:(fst8 fun k=>isN r.s (m5 k))<8
    ·obtain ⟨s,e1,-,e3⟩:=a2 h8
     obtain ⟨s5,e4,-,e6⟩:=c2 h8
     rw [e1] at e4;cases e4
     rw [e3,e6]
    ·rw [a3 h8,c3 h8]
   rw [this,eqR_self];simp
  rw [this,Bool.or_true]
 case refine_2.inl=>exact fun h=>absurd h he
 case refine_3.inl=>
  intro _ _
  rw [←hN,←hbi,←hbw,←hra,←hrb,a1,c1]
  have:recG V5 r.s=recG V r.s:=by
   by_cases h8:(fst8 fun k=>isN r.s (m5 k))<8
   ·obtain ⟨s,e1,-,e3⟩:=a2 h8
    obtain ⟨s5,e4,-,e6⟩:=c2 h8
    rw [e1] at e4;cases e4
    rw [e3,e6]
   ·rw [a3 h8,c3 h8]
  rw [this,eqR_self];simp
 case refine_3.inr=>exact fun h1 h2=>absurd he (by omega)
 all_goals
  have:bD=true:=by
   rw [←hD,←hbi,←hra,c1]
   cases gn with
   | false=>
    obtain ⟨rfl,-⟩:=hpu rfl
    have e0:(fst8 fun k=>isN r.s (updO m p (some r) k))=p:=fst8_at hp (by rw [isN_upd (b:=true) (isN_eq r.s rfl),if_pos rfl]) fun i hi=>by
     rw [isN_upd (b:=true) (isN_eq r.s rfl),if_neg (by omega)];exact ho2 i (by omega) (by omega)
    obtain ⟨s,e1,-,e3⟩:=c2 (by rw [e0];exact hp)
    rw [e0] at e1
    rw [show updO m p (some r) p=some r from if_pos rfl] at e1
    cases e1
    rw [e0,e3,eqR_self,decide_eq_true hp];rfl
   | true=>
    obtain ⟨rfl,-⟩:=hgo rfl
    have e0:(fst8 fun k=>isN r.s (updO m p none k))=8:=fst8_none fun i hi=>by
     rw [isN_upd (b:=false) rfl]
     split
     ·rfl
     ·rename_i hne;exact ho2 i hi hne
    rw [e0];rfl
  first
   | (rw [this];rfl)
   | exact fun _=>this
end
section
open Go.Shelf
def txtR (L:List ByteArray) (v:Value):Res:=⟨false,fun b=>0<L.length∧v.ownBlock=some b,fun w=>TxtAt w 0 L v⟩
theorem txt_dep {L:List ByteArray} {v:Value}:∀ u u',Same (txtR L v).fp u u'→(txtR L v).F u→(txtR L v).F u':=fun u u' hs ⟨A,c,e,h⟩=>⟨A,c,e,fun h0=>by
 obtain ⟨gr,E,e1,h1,h2⟩:=h h0
 exact ⟨gr,E,e1,h1,hs gr _ ⟨h0,by rw [e,e1];rfl⟩ h2⟩⟩
section
variable {G:Option Nat} {w0 w w':World} {R:List (Nat×Res)}
theorem Mx.newTxt (M:Mx G w0 w R) (hb:Below w.heap.size w w') (k:Nat) {L:List ByteArray} {v:Value} (h:TxtAt w' w.heap.size L v):Mx G w0 w' ((k,txtR L v)::R):=by
 obtain ⟨A,c,e,hA⟩:=h
 have hfp:∀ b,(txtR L v).fp b→w.heap.size≤b∧b<w'.heap.size:=fun b ⟨h0,h1⟩=>by
  obtain ⟨gr,E,e1,h2,h3⟩:=hA h0
  rw [e,e1] at h1
  have h1:gr=b:=Option.some.inj h1
  subst h1
  exact ⟨h2,z5a h3⟩
 exact (M.step hb).cons k _ ⟨A,c,e,fun h0=>by obtain ⟨gr,E,e1,h2,h3⟩:=hA h0;exact ⟨gr,E,e1,Nat.zero_le _,h3⟩⟩ txt_dep (fun b hb2=>(hfp b hb2).2) (fun e=>by cases e) fun q r er hkk hw b hb1 h2=>by
  rcases hw with hw | hw
  ·cases hw
  have h3:=M.lt q r er b h2
  have:=(hfp b hb1).1
  omega
variable {a:Act} {o:Oper} {A:Option Addr} {c:Nat} {L:List ByteArray}
theorem y_ixTx (x k:Operand) (ho:o.op=.indexAddr 45 x k) (hx:a.eval x=.slice A L.length c) (hT:(txtR L (.slice A L.length c)).F w) {z:Int} {i:Nat} (hk:a.eval k=zI z) (hz:z=(i:Int)) (hi:i<L.length):(execOp a.eval o).run Tryz.prog w=.ok (.value (ixV (.slice A L.length c) i)) w:=by
 subst hz
 obtain ⟨A',c',e,h⟩:=hT
 obtain ⟨gr,E,e1,-,hg⟩:=h (by omega)
 injection e with q1 q2 q3
 subst q1 q3 e1
 have h5:(i:Int)<(L.length:Int):=by omega
 rw [zpc 45 (s:=1) Tryz.underlying45 (by kernel_rfl) _ _ ho hx hk rfl hi (j:=i) (by omega)]
 simp [ixV,zsa]
theorem y_ldTx (y:Operand) (ho:o.op=.load 9 y) {i:Nat} (hy:a.eval y=ixV (.slice A L.length c) i) (hT:(txtR L (.slice A L.length c)).F w) {s:ByteArray} (hl:L[i]? = some s):(execOp a.eval o).run Tryz.prog w=.ok (.value (.string s)) w:=by
 have hi:=(List.getElem?_eq_some_iff.1 hl).1
 obtain ⟨A',c',e,h⟩:=hT
 obtain ⟨gr,E,e1,-,hg⟩:=h (by omega)
 injection e with q1 q2 q3
 subst q1 q3 e1
 exact zea _ _ ho (hy.trans (by simp [ixV,zsa])) hg (rowA_at hl) Tryz.underlying9 rfl
end
theorem get_is {K:Nat} (g:Nat) (V:VltN) (s n:Nat→Value) (hi:InvV K V) (nm:ByteArray) (b:Bool) (r:RecN) (hb:decide (fst8 (zy V nm)<8)=b) (hr:recG V nm=r) (w:World) (h:HasV w g V s n):Calls Tryz.prog 24 #[(zO g),.string nm] w fun e w'=>∃ t,e=.returned t∧∃ V',t=.tuple #[.agg (recA r V'),.bool b]∧RecIs w' r V'∧(∀ q,bfp V'.v2 q∨bfp V'.v5 q→w.heap.size≤q)∧Below w.heap.size w w':=by
 subst hb hr
 by_cases h8:fst8 (zy V nm)<8
 ·rw [decide_eq_true h8]
  exact get_yes g V s n hi nm _ h8 rfl _ (if_pos h8).symm w h
 ·rw [decide_eq_false h8]
  refine (get_not g V s n hi nm (by have:=fst8_le (zy V nm);omega) w h).mono fun e w' ⟨h1,h2⟩=>⟨_,h1,⟨zN,zN⟩,by rw [show recG V nm=zeroRec from if_neg h8],?_,fun q hq=>(by rcases hq with hq | hq <;> exact absurd hq (zqa q)),h2⟩
  rw [show recG V nm=zeroRec from if_neg h8]
  exact ⟨zga _,zga _⟩
theorem xget_is {K:Nat} (gx gc:Nat) (V:VltN) (s n:Nat→Value) (hi:InvV K V) (nm:ByteArray) (b:Bool) (r:RecN) (hb:decide (fst8 (zy V nm)<8)=b) (hr:recG V nm=r) (w:World) (h:XOk w gx gc V s n):Calls Tryz.prog 33 #[(zO gx),.string nm] w fun e w'=>∃ t,e=.returned t∧∃ V',t=.tuple #[.agg (recA r V'),.bool b]∧RecIs w' r V'∧(∀ q,bfp V'.v2 q∨bfp V'.v5 q→w.heap.size≤q)∧Below w.heap.size w w':=by
 subst hb hr
 by_cases h8:fst8 (zy V nm)<8
 ·rw [decide_eq_true h8,show recG V nm=zwa V (2*fst8 (zy V nm)) from if_pos h8]
  exact (rget_yes gx gc V (leftR V) s n hi nm _ h8 rfl w h.has).mono fun e w' ⟨V',h1,h2⟩=>⟨_,h1,V',rfl,h2⟩
 ·rw [decide_eq_false h8,show recG V nm=zeroRec from if_neg h8]
  exact (rget_not gx gc V (leftR V) s n hi nm (by have:=fst8_le (zy V nm);omega) w h.has).mono fun e w' ⟨h1,h2⟩=>⟨_,h1,⟨zN,zN⟩,rfl,⟨zga _,zga _⟩,fun q hq=>(by rcases hq with hq | hq <;> exact absurd hq (zqa q)),h2⟩
theorem rdI_cap {w:World} {a:Option Addr} {len cap:Nat} {zs:List Int} (h:(a=none∧len=0∧cap=0∧zs=[]) ∨
  ∃ x,a=some x∧len≤cap∧cap≤maxLen∧zs.length=cap∧(∀ i,i<zs.length→w.cell? (x.add i)=some (zI (zs.getD i 0)))∧∀ n∈zs,(Lit.int .i64 n).wf=true):len≤cap:=by
 rcases h with ⟨_,h1,h2,_⟩ | ⟨x,_,h,_⟩
 ·omega
 ·exact h
theorem dis0:DisM fun _=>none:=⟨fun _ _ _ h=>(by cases h),fun _ _ _ _ _ _ h=>(by cases h)⟩
theorem dis_tgt {m m5:Nat→Option RecN} {r:RecN} {gn:Bool} (hd:DisM m) (ho:RecOk r) (h:Tgt m r gn m5):DisM m5:=by
 obtain ⟨p,hp,hoth,hpu,hgo⟩:=h
 have no:∀ i s,i<8→i≠p→m i=some s→s.s.toList≠r.s.toList:=fun i s hi hne hs e=>by
  have:=hoth i hi hne
  rw [hs] at this
  exact of_decide_eq_false this e
 cases gn with
 | false=>
  obtain ⟨rfl,-⟩:=hpu rfl
  refine ⟨fun i s hi hs=>?_,fun i j s t hi hj h1 h2 e=>?_⟩
  ·unfold updO at hs
   split at hs
   ·cases hs;exact ho
   ·exact hd.ok i s hi hs
  ·unfold updO at h1 h2
   split at h1 <;> split at h2
   ·omega
   ·rename_i a b;cases h1;exact absurd e.symm (no j t hj b h2)
   ·rename_i a b;cases h2;exact absurd e (no i s hi a h1)
   ·exact hd.one i j s t hi hj h1 h2 e
 | true=>
  obtain ⟨rfl,-⟩:=hgo rfl
  refine ⟨fun i s hi hs=>?_,fun i j s t hi hj h1 h2 e=>?_⟩
  ·unfold updO at hs
   split at hs
   ·cases hs
   ·exact hd.ok i s hi hs
  ·unfold updO at h1 h2
   split at h1 <;> split at h2
   ·cases h1
   ·cases h1
   ·cases h2
   ·exact hd.one i j s t hi hj h1 h2 e
theorem acc_step {K:Nat} {V V':VltN} {m:Nat→Option RecN} (hS:StOk K V) (hK:K<254) (hs:StepV V V') (ha:AccV V m) (hd:DisM m):∃ m',AccV V' m'∧DisM m':=by
 rcases hs with ⟨r,ho,rfl⟩ | ⟨nm,rfl⟩
 ·by_cases hk:zda r=true
  ·by_cases h8:plcM m r.s<8
   ·obtain ⟨-,h1,-⟩:=put_done hS.inv (by omega) ha ho hk hS.dd hS.fl h8
    exact ⟨_,h1,dis_tgt hd ho (tgt_put hd h8)⟩
   ·have h8:plcM m r.s=8:=plc_8 h8
    rw [put_full ha hS.dd hk h8]
    exact ⟨m,ha,hd⟩
  ·refine ⟨m,?_,hd⟩
   unfold putV
   rw [if_neg (by rw [hS.dd];exact Bool.false_ne_true),if_pos (Bool.eq_false_iff.2 hk)]
   exact ha
 ·by_cases h8:(fst8 fun k=>isN nm (m k))<8
  ·obtain ⟨-,h1,-⟩:=gone_done hS.inv (by omega) ha hS.dd hS.fl rfl h8
   refine ⟨_,h1,⟨fun i s hi hs=>?_,fun i j s t hi hj h1 h2 e=>?_⟩⟩
   ·unfold updO at hs
    split at hs
    ·cases hs
    ·exact hd.ok i s hi hs
   ·unfold updO at h1 h2
    split at h1 <;> split at h2
    ·cases h1
    ·cases h1
    ·cases h2
    ·exact hd.one i j s t hi hj h1 h2 e
  ·refine ⟨m,?_,hd⟩
   rw [gone_acc ha nm hS.dd,if_neg h8]
   exact ha
theorem nms_up6 (m:Nat→Option RecN) (p:Nat) (o:Option RecN):∀ k,(nmsM (updO m p o) k).length≤(nmsM m k).length+(if p<k then 1 else 0)
 | 0=>Nat.zero_le _
 | k+1=>by
  have ih:=nms_up6 m p o k
  unfold nmsM
  by_cases e:k=p
  ·subst e
   rw [if_neg (Nat.lt_irrefl _)] at ih
   rw [if_pos (Nat.lt_succ_self _)]
   have:updO m k o k=o:=if_pos rfl
   rw [this]
   cases o <;> cases m k <;> simp only [List.length_append,List.length_cons,List.length_nil] <;> omega
  ·have e1:updO m p o k=m k:=if_neg e
   rw [e1]
   have e2:(if p<k+1 then 1 else 0)=(if p<k then 1 else 0):=by
    by_cases h:p<k
    ·rw [if_pos h,if_pos (by omega)]
    ·rw [if_neg h,if_neg (by omega)]
   rw [e2]
   cases m k <;> simp only [List.length_append,List.length_cons,List.length_nil] <;> omega
theorem nms_le (m:Nat→Option RecN):∀ k,(nmsM m k).length≤k
 | 0=>Nat.le_refl _
 | k+1=>by
  have ih:=nms_le m k
  unfold nmsM
  cases m k <;> simp only [List.length_append,List.length_cons,List.length_nil] <;> omega
theorem nms_end {V V5:VltN} {m m5:Nat→Option RecN} {r:RecN} {gn:Bool} {e:Int} (ha:AccV V m) (h5:AccV V5 m5) (h:(m5=m∧e≠0)∨(Tgt m r gn m5∧(e=0∨e=10))):(srtL (namL V5 8)).length≤(srtL (namL V 8)).length+1:=by
 rw [srtL_len,srtL_len,namL_acc ha 8 (Nat.le_refl _),namL_acc h5 8 (Nat.le_refl _)]
 rcases h with ⟨rfl,-⟩ | ⟨⟨p,hp,-,hpu,hgo⟩,-⟩
 ·omega
 ·cases gn with
  | false=>rw [(hpu rfl).1];have:=nms_up6 m p (some r) 8;rw [if_pos hp] at this;exact this
  | true=>rw [(hgo rfl).1];have:=nms_up6 m p none 8;rw [if_pos hp] at this;exact this
theorem mem_insV {x y:ByteArray}:∀ {L:List ByteArray},y∈insV x L→y=x∨y∈L
 | [],h=>.inl (List.mem_singleton.1 h)
 | z::L,h=>by
  unfold insV at h
  split at h
  ·rcases List.mem_cons.1 h with h | h
   ·exact .inr (List.mem_cons.2 (.inl h))
   ·exact (mem_insV h).imp id fun h=>List.mem_cons_of_mem _ h
  ·exact (List.mem_cons.1 h).imp id id
theorem mem_srtL {y:ByteArray} {L:List ByteArray} (h:y∈srtL L):y∈L:=by
 have key:∀ (M acc:List ByteArray),y∈M.foldl insR acc→y∈acc∨y∈M:=fun M=>by
  induction M with
  | nil=>exact fun _ h=>.inl h
  | cons x M ih=>
   intro acc h
   rcases ih _ h with h | h
   ·unfold insR at h
    rcases mem_insV (List.mem_reverse.1 h) with h | h
    ·exact .inr (h▸List.mem_cons_self)
    ·exact .inl (List.mem_reverse.1 h)
   ·exact .inr (List.mem_cons_of_mem _ h)
 exact (key L [] h).resolve_left (fun h=>by cases h)
theorem mem_nms {m:Nat→Option RecN} {nm:ByteArray}:∀ {k:Nat},nm∈nmsM m k→∃ i s,i<k∧m i=some s∧s.s=nm
 | 0,h=>by cases h
 | k+1,h=>by
  unfold nmsM at h
  cases hm:m k with
  | none=>
   rw [hm] at h
   obtain ⟨i,s,h1,h2⟩:=mem_nms h
   exact ⟨i,s,by omega,h2⟩
  | some r=>
   rw [hm] at h
   rcases List.mem_append.1 h with h | h
   ·obtain ⟨i,s,h1,h2⟩:=mem_nms h
    exact ⟨i,s,by omega,h2⟩
   ·exact ⟨k,r,by omega,hm,(List.mem_singleton.1 h).symm⟩
theorem names_in {V:VltN} {m:Nat→Option RecN} (ha:AccV V m) {L:List ByteArray} (hL:srtL (namL V 8)=L) {i:Nat} {nm:ByteArray} (h:L[i]? = some nm):fst8 (zy V nm)<8:=by
 subst hL
 have h1:=mem_srtL (List.mem_of_getElem? h)
 rw [namL_acc ha 8 (Nat.le_refl _)] at h1
 obtain ⟨j,s,h2,h3,h4⟩:=mem_nms h1
 rw [named8 ha]
 rcases fst8_spec (fun k=>isN nm (m k)) with ⟨q1,_⟩ | ⟨_,q2⟩
 ·exact q1
 ·have:=q2 j h2
  rw [h3,isN_eq nm h4] at this
  cases this
end
theorem VaultWhole_walk (A0:Option Addr) (n0 cap0:Nat) (x0:Nat→Int)
  (A1:Option Addr) (n1 cap1:Nat) (l1:List UInt8) (hn1:l1.length=n1) (hc1:n1≤cap1) (hm1:cap1≤maxLen) (hz1:A1=none→cap1=0)
  (a2:Int) (hk2:-9223372036854775808≤a2) (hl2:a2<9223372036854775808)
  (a3:Bool)
  (a4:Int) (hk4:-9223372036854775808≤a4) (hl4:a4<9223372036854775808)
  (A5:Option Addr) (n5 cap5:Nat) (x5:Nat→Int) (hc5:n5≤cap5) (w:World) (hr0:RdI w A0 n0 x0) (hr1:Rd w A1 l1) (hr5:RdI w A5 n5 x5):
  Calls Tryz.prog 4 #[.slice A0 n0 cap0,.slice A1 n1 cap1,zI a2,.bool a3,zI a4,.slice A5 n5 cap5] w fun e w'=>e=.returned (.bool true)∧Below w.heap.size w w':=by
 have ib1:IsB w l1 (.slice A1 n1 cap1):=hr1.isB' hn1 hc1 hm1 hz1
 by_cases b0:60<l1.length
 ·refine zj (args:=[.slice A0 n0 cap0,.slice A1 n1 cap1,zI a2,.bool a3,zI a4,.slice A5 n5 cap5]) 225 Tryz.func4 rfl rfl rfl ?_
  intro fa F
  have M:=Mx.start w
  replace M:=M.argB 0 ib1 (fun g e=>by cases e)
  replace M:=M.argI 1 hr0 (fun g e=>by cases e)
  replace M:=M.argI 2 hr5 (fun g e=>by cases e)
  refine zT fun _ hK21=>rm rfl F fun _ F22=>hK21 _ _ (zSk fun _ hK23=>zT fun _ hK24=>ze rfl rfl F22 rfl rfl (zE Tryz.func13 rfl) #[] (args0) (zx (known6_any w)) ?_)
  rintro _ w25 a25 ⟨rfl,b25⟩ F25
  have M25:=M.step b25
  refine zc (w':=w25) rfl rfl F25 rfl (.bool false) (zlb _ _ rfl (F25 33 rfl)) fun _ F26=>?_
  refine hK24 _ _ (wp_cond_false (F26 34 rfl) (wp_skip (hK23 _ _ (zSk fun _ hK27=>zT fun _ hK28=>rm rfl F26 fun _ F29=>zc (w':=w25) rfl rfl F29 rfl (zI (l1.length:Int)) (z3a _ rfl (F29 35 rfl) (M25.isb (k:=0) rfl) rfl) fun _ F30=>?_))))
  refine zc (w':=w25) rfl rfl F30 rfl (.bool true) (z7b _ _ _ _ rfl (F30 36 rfl) rfl (decide_eq_true (show (60:Int)<(l1.length:Int) by omega))) fun _ F31=>?_
  refine zAx 5 [(38,.bool true),(39,undef),(40,undef),(41,undef),(42,.bool true)] [] dnil [] F31 fun _ F32=>?_
  refine hK28 _ _ (wp_cond_true (F32 42 rfl) (zT fun _ hK33=>rm rfl F32 fun _ F34=>hK33 _ _ (wp_ret ?_)))
  try simp only [Exit.then,Exit.inBlock,Exit.jump]
  exact bodyPost_ret (res1 rfl (F34.get rfl)) F34.defers ⟨rfl,M25.below⟩
 ·by_cases b1:10<n5
  ·refine zj (args:=[.slice A0 n0 cap0,.slice A1 n1 cap1,zI a2,.bool a3,zI a4,.slice A5 n5 cap5]) 225 Tryz.func4 rfl rfl rfl ?_
   intro fa F
   have M:=Mx.start w
   replace M:=M.argB 0 ib1 (fun g e=>by cases e)
   replace M:=M.argI 1 hr0 (fun g e=>by cases e)
   replace M:=M.argI 2 hr5 (fun g e=>by cases e)
   refine zT fun _ hK21=>rm rfl F fun _ F22=>hK21 _ _ (zSk fun _ hK23=>zT fun _ hK24=>ze rfl rfl F22 rfl rfl (zE Tryz.func13 rfl) #[] (args0) (zx (known6_any w)) ?_)
   rintro _ w25 a25 ⟨rfl,b25⟩ F25
   have M25:=M.step b25
   refine zc (w':=w25) rfl rfl F25 rfl (.bool false) (zlb _ _ rfl (F25 33 rfl)) fun _ F26=>?_
   refine hK24 _ _ (wp_cond_false (F26 34 rfl) (wp_skip (hK23 _ _ (zSk fun _ hK27=>zT fun _ hK28=>rm rfl F26 fun _ F29=>zc (w':=w25) rfl rfl F29 rfl (zI (l1.length:Int)) (z3a _ rfl (F29 35 rfl) (M25.isb (k:=0) rfl) rfl) fun _ F30=>?_))))
   refine zc (w':=w25) rfl rfl F30 rfl (.bool false) (z7b _ _ _ _ rfl (F30 36 rfl) rfl (decide_eq_false (show ¬(60:Int)<(l1.length:Int) by omega))) fun _ F31=>?_
   refine rm rfl F31 fun _ F32=>rm rfl F32 fun _ F33=>zc (w':=w25) (zd rfl rfl rfl (F33 38 rfl)) rfl F33 rfl (zI (n5:Int)) (y_lnG 22 Tryz.underlying22 _ rfl (F33 39 rfl) rfl) fun _ F34=>?_
   refine zc (w':=w25) (zd rfl rfl rfl (F34 38 rfl)) rfl F34 rfl (.bool true) (z7b _ _ _ _ rfl (F34 40 rfl) rfl (decide_eq_true (show (10:Int)<(n5:Int) by omega))) fun _ F35=>?_
   refine zc (w':=w25) rfl rfl F35 rfl (.bool true) (zcb rfl (F35 38 rfl) (F35 41 rfl)) fun _ F36=>?_
   refine hK28 _ _ (wp_cond_true (F36 42 rfl) (zT fun _ hK37=>rm rfl F36 fun a38 F38=>hK37 _ _ (wp_ret ?_)))
   try simp only [Exit.then,Exit.inBlock,Exit.jump]
   exact bodyPost_ret (res1 rfl (F38.get rfl)) F38.defers ⟨rfl,M25.below⟩
  ·obtain ⟨hE1,hI1,hf1,hd1⟩:=new_is
   have hA1:=acc_new
   obtain ⟨V1,hV1⟩:∃ x,ageW zeroV=x:=⟨_,rfl⟩
   rw [hV1] at hE1 hI1 hf1 hd1 hA1
   obtain ⟨nr,hnr,hnrl⟩:∃ k:Nat,a2%1073741824=(k:Int)∧k<1073741824:=in6 _ (by decide)
   obtain ⟨kf,hkf,hkfl⟩:∃ k:Nat,a4%4=(k:Int)∧k<4:=in6 _ (by decide)
   obtain ⟨r,hr⟩:∃ r,recK (nr:Int) l1 (((nr:Int).tdiv 23)%10).toNat=r:=⟨_,rfl⟩
   obtain ⟨ro,rp⟩:=rec6_ok _ _ hr
   have hS1:=st_new
   rw [hV1] at hS1
   refine zj (args:=[.slice A0 n0 cap0,.slice A1 n1 cap1,zI a2,.bool a3,zI a4,.slice A5 n5 cap5]) 225 Tryz.func4 rfl rfl rfl ?_
   intro fa F
   have M:=Mx.start w
   replace M:=M.argB 0 ib1 (fun g e=>by cases e)
   replace M:=M.argI 1 hr0 (fun g e=>by cases e)
   replace M:=M.argI 2 hr5 (fun g e=>by cases e)
   refine zT fun _ hK21=>rm rfl F fun _ F22=>hK21 _ _ (zSk fun _ hK23=>zT fun _ hK24=>ze rfl rfl F22 rfl rfl (zE Tryz.func13 rfl) #[] (args0) (zx (known6_any w)) ?_)
   rintro _ w25 a25 ⟨rfl,b25⟩ F25
   have M25:=M.step b25
   refine zc (w':=w25) rfl rfl F25 rfl (.bool false) (zlb _ _ rfl (F25 33 rfl)) fun _ F26=>?_
   refine hK24 _ _ (wp_cond_false (F26 34 rfl) (wp_skip (hK23 _ _ (zSk fun _ hK27=>zT fun _ hK28=>rm rfl F26 fun _ F29=>zc (w':=w25) rfl rfl F29 rfl (zI (l1.length:Int)) (z3a _ rfl (F29 35 rfl) (M25.isb (k:=0) rfl) rfl) fun _ F30=>?_))))
   refine zc (w':=w25) rfl rfl F30 rfl (.bool false) (z7b _ _ _ _ rfl (F30 36 rfl) rfl (decide_eq_false (show ¬(60:Int)<(l1.length:Int) by omega))) fun _ F31=>?_
   refine rm rfl F31 fun _ F32=>rm rfl F32 fun _ F33=>zc (w':=w25) (zd rfl rfl rfl (F33 38 rfl)) rfl F33 rfl (zI (n5:Int)) (y_lnG 22 Tryz.underlying22 _ rfl (F33 39 rfl) rfl) fun _ F34=>?_
   refine zc (w':=w25) (zd rfl rfl rfl (F34 38 rfl)) rfl F34 rfl (.bool false) (z7b _ _ _ _ rfl (F34 40 rfl) rfl (decide_eq_false (show ¬(10:Int)<(n5:Int) by omega))) fun _ F35=>?_
   refine zc (w':=w25) rfl rfl F35 rfl (.bool false) (zcb rfl (F35 38 rfl) (F35 41 rfl)) fun _ F36=>?_
   refine hK28 _ _ (wp_cond_false (F36 42 rfl) (wp_skip (hK27 _ _ (zT fun _ hK37=>ze rfl rfl F36 rfl rfl (zE Tryz.func14 rfl) #[] (args0) (vnew_is V1 hV1 w25) ?_))))
   rintro _ w38 a38 ⟨g38,rfl,hg38,s38,n38,hr38,ht38,hc38,b38⟩ F38
   have M38:=M25.newVault b38 3 4 hg38 hc38 hr38 ht38
   clear M25 b38 hg38 hc38 hr38 ht38
   refine ze rfl rfl F38 rfl rfl (zE Tryz.func15 rfl) #[] (args0) (xnew_is V1 hV1 w38) ?_
   rintro _ w39 a39 ⟨gx39,gc39,s39,n39,rfl,xo39,lx39,lc39,lr39,b39⟩ F39
   have M39:=M38.xnew 5 b39 xo39 lx39 lc39 lr39
   clear M38 b39 xo39 lx39 lc39 lr39
   refine rm rfl F39 fun _ F40=>rm rfl F40 fun _ F41=>hK37 _ _ (zSk fun _ hK42=>zT fun _ hK43=>rm rfl F41 fun _ F44=>zc (w':=w39) rfl rfl F44 rfl (.bool false) (y_eqPN 25 _ Tryz.underlying25 (by kernel_rfl) _ rfl (F44 45 rfl)) fun _ F45=>?_)
   refine hK43 _ _ (wp_cond_false (F45 46 rfl) (wp_skip (hK42 _ _ (zSk fun K46 hK46=>?_))))
   have J46:∀ (Vv:VltN) (sv:(Nat→Value)) (nv:(Nat→Value)) (sx:(Nat→Value)) (nx:(Nat→Value)) (mv:(Nat→Option RecN)) (aJ:Act) (wJ:World),(StOk 31 Vv∧(AccV Vv mv∧DisM mv))→Fx 225 aJ [(0,.slice A0 n0 cap0),(1,.slice A1 n1 cap1),(2,zI a2),(3,.bool a3),(4,zI a4),(5,.slice A5 n5 cap5),(13,(zO g38)),(14,(zO gx39))]→Mx none w wJ [(0,bytR l1 (.slice A1 n1 cap1)),(1,intR A0 n0 x0),(2,intR A5 n5 x5),(3,blkR g38 80 (vltA Vv sv nv)),(4,zva 0 18 Vv.c sv nv),(5,xR gx39 gc39 Vv sx nx)]→K46 aJ wJ:=by
    intro Vv sv nv sx nx mv a46 w46 I46 F46 M46
    refine hK46 _ _ ?_
    obtain ⟨hS,hX⟩:=I46
    obtain ⟨bw,hbw⟩:∃ x,decide (fst8 (zy Vv r.s)<8)=x:=⟨_,rfl⟩
    obtain ⟨rb,hrb⟩:∃ x,recG Vv r.s=x:=⟨_,rfl⟩
    obtain ⟨L,hL⟩:∃ x,srtL (namL Vv 8)=x:=⟨_,rfl⟩
    have hL8:L.length≤8:=by rw [←hL,srtL_len,namL_acc hX.1 8 (Nat.le_refl _)];exact nms_le mv 8
    obtain ⟨V4,e4,N,hput,hgon,hN18,hone,hI4,hE4,hend⟩:=whole_mut hS (by decide) hX.1 hX.2 ro rp a3 (kf:Int)
    obtain ⟨Vf,hVf⟩:∃ x,z9b Vv (kf:Int)=x:=⟨_,rfl⟩
    obtain ⟨hIf,hEf⟩:=fail_keep (kf:Int) hS.inv hS.era
    rw [hVf] at hput hgon hIf hEf
    refine zT fun _ hK47=>rm rfl F46 fun _ F48=>ze rfl rfl F48 rfl rfl (zE Tryz.func17 rfl) #[zI a2,zI 1073741824] (zca (F48 75 rfl) rfl) (zx ((hnr▸within6_any a2 1073741824 (by decide) (by decide) hk2 hl2 w46))) ?_
    rintro _ w49 a49 ⟨rfl,rfl⟩ F49
    refine rm rfl F49 fun _ F50=>ze rfl rfl F50 rfl rfl (zE Tryz.func21 rfl) #[zI (nr:Int),.slice A1 n1 cap1] (zca (F50 76 rfl) (F50 77 rfl)) (rec6_is (nr:Int) l1 (.slice A1 n1 cap1) ⟨by omega,by omega⟩ (by omega) r hr w46 (M46.isb (k:=0) rfl)) ?_
    rintro _ w51 a51 ⟨U51,rfl,is51,lo51,b51⟩ F51
    have M51:=M46.newRec b51 is51 lo51 6 7
    clear M46 b51 lo51
    refine zo rfl rfl F51 rfl M51 8 (t:=37) (c:=recA ⟨0, "".toUTF8,[],0,0,[],0,0,0⟩ ⟨zN,zN⟩) (by unfold execOp;kernel_rfl) ?_
    intro g52 a52 w52 F52 M52
    refine zu rfl rfl F52 M52 (k:=8) rfl _ _ _ rfl (F52 17 rfl) (F52 78 rfl) (recA r U51) _ rfl (zL rfl) (z2a (w:=w52) ⟨(M52.isb (k:=6) rfl),(M52.isb (k:=7) rfl)⟩) (zba rfl) (by kernel_rfl) ?_
    intro w53 M53
    refine hK47 _ _ (zT fun _ hK54=>zAx 3 [(80,(zO g38)),(81,(zP g52 1)),(82,.string r.s)] [0] (zw (M53.blk (k:=8) rfl) dnil) [g52] F52 fun _ F55=>?_)
    refine ze rfl rfl F55 rfl rfl (zE Tryz.func24 rfl) #[(zO g38),.string r.s] (zca (F55 80 rfl) (F55 82 rfl)) (get_is g38 Vv sv nv hS.inv r.s bw rb hbw hrb w53 (M53.hasV (kg:=3) (kr:=4) rfl rfl (by decide))) ?_
    rintro _ w56 a56 ⟨U56,rfl,is56,lo56,b56⟩ F56
    have M56:=M53.newRec b56 is56 lo56 9 10
    clear M53 b56 lo56
    refine zAx 3 [(79,.tuple #[.agg (recA rb U56),.bool bw]),(84,.agg (recA rb U56)),(85,.bool bw)] [] dnil [] F56 fun _ F57=>?_
    refine zo rfl rfl F57 rfl M56 11 (t:=37) (c:=recA ⟨0, "".toUTF8,[],0,0,[],0,0,0⟩ ⟨zN,zN⟩) (by unfold execOp;kernel_rfl) ?_
    intro g58 a58 w58 F58 M58
    refine zu rfl rfl F58 M58 (k:=11) rfl _ _ _ rfl (F58 18 rfl) (F58 84 rfl) (recA rb U56) _ rfl (zL rfl) (z2a (w:=w58) ⟨(M58.isb (k:=9) rfl),(M58.isb (k:=10) rfl)⟩) (zba rfl) (by kernel_rfl) ?_
    intro w59 M59
    refine rm rfl F58 fun _ F60=>hK54 _ _ (zT fun _ hK61=>rm rfl F60 fun _ F62=>ze rfl rfl F62 rfl rfl (zE Tryz.func25 rfl) #[(zO g38)] (zz (F62 86 rfl)) (names_is g38 Vv sv nv hS.inv L hL w59 (M59.hasV (kg:=3) (kr:=4) rfl rfl (by decide))) ?_)
    rintro v63 w63 a63 ⟨tx63,b63⟩ F63
    have M63:=M59.newTxt b63 12 tx63
    clear M59 tx63 b63
    obtain ⟨A63,c63,e63,-⟩:=id (M63.at_ 12 _ rfl)
    subst e63
    refine rm rfl F63 fun _ F64=>hK61 _ _ (zT fun _ hK65=>rm rfl F64 fun _ F66=>ze rfl rfl F66 rfl rfl (zE Tryz.func26 rfl) #[(zO g38)] (zz (F66 88 rfl)) (zx ((boot_is g38 Vv sv nv hS.inv hS.era w63 (M63.hasV (kg:=3) (kr:=4) rfl rfl (by decide))))) ?_)
    rintro _ w67 a67 ⟨rfl,b67⟩ F67
    have M67:=M63.step b67
    refine rm rfl F67 fun _ F68=>hK65 _ _ (zT fun _ hK69=>rm rfl F68 fun _ F70=>rm rfl F70 fun _ F71=>ze rfl rfl F71 rfl rfl (zE Tryz.func17 rfl) #[zI a4,zI 4] (zca (F71 91 rfl) rfl) (zx ((hkf▸within6_any a4 4 (by decide) (by decide) hk4 hl4 w67))) ?_)
    rintro _ w72 a72 ⟨rfl,rfl⟩ F72
    refine ze rfl rfl F72 rfl rfl (zE Tryz.func19 rfl) #[(zO g38),zI (kf:Int)] (zca (F72 90 rfl) (F72 92 rfl)) (fail_is g38 Vv sv nv (kf:Int) Vf hVf w67  (M67.rowsV (i:=4) (k:=3) rfl rfl (by decide)) (M67.blk (k:=3) rfl)) ?_
    rintro _ w73 a73 ⟨s73,n73,hr73,ht73,hc73,hg73⟩ F73
    have M73:=M67.vault (kg:=3) (kr:=4) rfl rfl hg73 hc73 hr73 ht73
    clear M67 hg73 hc73 hr73 ht73
    refine hK69 _ _ (zT fun _ hK74=>rm rfl F73 fun _ F75=>hK74 _ _ (zSk fun K76 hK76=>?_))
    have J76:∀ (s4:(Nat→Value)) (n4:(Nat→Value)) (aJ:Act) (wJ:World),(True)→Fx 225 aJ [(0,.slice A0 n0 cap0),(1,.slice A1 n1 cap1),(2,zI a2),(3,.bool a3),(4,zI a4),(5,.slice A5 n5 cap5),(13,(zO g38)),(14,(zO gx39)),(17,(zO g52)),(18,(zO g58)),(19,.bool bw),(20,.slice A63 L.length c63),(21,zI 1),(22,zI e4)]→Mx none w wJ [(0,bytR l1 (.slice A1 n1 cap1)),(1,intR A0 n0 x0),(2,intR A5 n5 x5),(3,blkR g38 80 (vltA V4 s4 n4)),(4,zva 0 18 V4.c s4 n4),(5,xR gx39 gc39 Vv sx nx),(6,bytR r.l2 U51.v2),(7,bytR r.l5 U51.v5),(8,blkR g52 37 (recA r U51)),(9,bytR rb.l2 U56.v2),(10,bytR rb.l5 U56.v5),(11,blkR g58 37 (recA rb U56)),(12,txtR L (.slice A63 L.length c63))]→K76 aJ wJ:=by
     intro s4 n4 a76 w76 I76 F76 M76
     refine hK76 _ _ (zT fun _ hK77=>rm rfl F76 fun _ F78=>ze rfl rfl F78 rfl rfl (zE Tryz.func28 rfl) #[(zO g38)] (zz (F78 102 rfl)) (cells_is g38 V4 s4 n4 hI4 w76 (M76.hasV (kg:=3) (kr:=4) rfl rfl (by decide))) ?_)
     rintro _ w79 a79 ⟨gq79,s79,n79,rfl,ce79,b79⟩ F79
     have M79:=M76.newCells b79 13 14 ce79
     clear M76 ce79 b79
     refine rm rfl F79 fun _ F80=>hK77 _ _ (zSk fun _ hK81=>zT fun _ hK82=>rm rfl F80 fun _ F83=>rm rfl F83 fun _ F84=>ze rfl rfl F84 rfl rfl (zE Tryz.func29 rfl) #[.slice (some ⟨gq79,0,none⟩) 18 18,.slice A5 n5 cap5] (zca (F84 104 rfl) (F84 105 rfl)) (clash_any gq79 N hN18 V4.c s79 n79 hone (zsc hI4) A5 n5 cap5 x5 (by omega) w79 ⟨M79.roB (k:=13) rfl,fun i hi=>M79.rowsS (i:=14) rfl hi,fun i hi=>M79.rowsN (i:=14) rfl hi⟩ (M79.rdI (k:=2) rfl)) ?_)
     rintro _ w85 a85 ⟨qC,rfl,hq85,b85⟩ F85
     have M85:=M79.step b85
     clear M79 b85
     refine hK82 _ _ ?_
     cases qC
     ·obtain ⟨m5,hA5,hm5⟩:=hend x5 n5 (hq85 rfl)
      obtain ⟨V5,hV5⟩:∃ x,ageW (zec V4 x5 n5)=x:=⟨_,rfl⟩
      obtain ⟨hE5,hI5,-,hd5⟩:=again_is hI4 (by decide) hE4 (by decide) (by decide) x5 n5
      rw [hV5] at hA5 hE5 hI5 hd5
      obtain ⟨bi,hbi⟩:∃ x,decide (fst8 (zy V5 r.s)<8)=x:=⟨_,rfl⟩
      obtain ⟨ra,hra⟩:∃ x,recG V5 r.s=x:=⟨_,rfl⟩
      obtain ⟨q1,hq1⟩:∃ x,eqR ra r=x:=⟨_,rfl⟩
      obtain ⟨q2,hq2⟩:∃ x,eqR ra rb=x:=⟨_,rfl⟩
      obtain ⟨L5,hL5⟩:∃ x,srtL (namL V5 8)=x:=⟨_,rfl⟩
      have hlen:=nms_end hX.1 hA5 hm5
      rw [hL,hL5] at hlen
      obtain ⟨bD,hD⟩:∃ x,((bi != a3)&&(a3||q1))=x:=⟨_,rfl⟩
      obtain ⟨bN,hN_⟩:∃ x,((bi==bw)&&q2)=x:=⟨_,rfl⟩
      obtain ⟨hor,hdn,hnt,hoa,hob,hoth⟩:=whole_end hX.1 hA5 hX.2 ro a3 hm5 hbi hbw hra hrb (hq1▸hD) (hq2▸hN_)
      refine wp_cond_false (F85 106 rfl) (wp_skip (hK81 _ _ (zT fun _ hK86=>rm rfl F85 fun _ F87=>rm rfl F87 fun _ F88=>ze rfl rfl F88 rfl rfl (zE Tryz.func30 rfl) #[(zO g38),.slice A5 n5 cap5] (zca (F88 107 rfl) (F88 108 rfl)) (again_isV g38 V4 s4 n4 A5 n5 cap5 x5 hc5 hI4 (by decide) hE4 (by decide) (by decide) V5 hV5 w85 (M85.rdI (k:=2) rfl) (fun h=>M85.dis 3 2 _ _ rfl rfl (by decide) rfl _ rfl h) (M85.rowsV (i:=4) (k:=3) rfl rfl (by decide)) (M85.blk (k:=3) rfl)) ?_)))
      rintro _ w89 a89 ⟨s89,n89,hr89,ht89,hc89,hg89⟩ F89
      have M89:=M85.vault (kg:=3) (kr:=4) rfl rfl hg89 hc89 hr89 ht89
      clear M85 hg89 hc89 hr89 ht89
      refine hK86 _ _ (zT fun _ hK90=>zAx 3 [(111,(zO g38)),(112,(zP g52 1)),(113,.string r.s)] [0] (zw (M89.blk (k:=8) rfl) dnil) [g52] F89 fun _ F91=>?_)
      refine ze rfl rfl F91 rfl rfl (zE Tryz.func24 rfl) #[(zO g38),.string r.s] (zca (F91 111 rfl) (F91 113 rfl)) (get_is g38 V5 s89 n89 hI5 r.s bi ra hbi hra w89 (M89.hasV (kg:=3) (kr:=4) rfl rfl (by decide))) ?_
      rintro _ w92 a92 ⟨U92,rfl,is92,lo92,b92⟩ F92
      have M92:=M89.newRec b92 is92 lo92 15 16
      clear M89 b92 lo92
      refine zAx 3 [(110,.tuple #[.agg (recA ra U92),.bool bi]),(115,.agg (recA ra U92)),(116,.bool bi)] [] dnil [] F92 fun _ F93=>?_
      refine zo rfl rfl F93 rfl M92 17 (t:=37) (c:=recA ⟨0, "".toUTF8,[],0,0,[],0,0,0⟩ ⟨zN,zN⟩) (by unfold execOp;kernel_rfl) ?_
      intro g94 a94 w94 F94 M94
      refine zu rfl rfl F94 M94 (k:=17) rfl _ _ _ rfl (F94 24 rfl) (F94 115 rfl) (recA ra U92) _ rfl (zL rfl) (z2a (w:=w94) ⟨(M94.isb (k:=15) rfl),(M94.isb (k:=16) rfl)⟩) (zba rfl) (by kernel_rfl) ?_
      intro w95 M95
      refine rm rfl F94 fun _ F96=>hK90 _ _ (zSk fun K97 hK97=>?_)
      have J97:∀ (aJ:Act) (wJ:World),Fx 225 aJ [(0,.slice A0 n0 cap0),(1,.slice A1 n1 cap1),(2,zI a2),(3,.bool a3),(4,zI a4),(5,.slice A5 n5 cap5),(13,(zO g38)),(14,(zO gx39)),(17,(zO g52)),(18,(zO g58)),(19,.bool bw),(20,.slice A63 L.length c63),(21,zI 1),(22,zI e4),(23,.slice (some ⟨gq79,0,none⟩) 18 18),(24,(zO g94)),(25,.bool bi),(26,.bool bD)]→Mx none w wJ [(0,bytR l1 (.slice A1 n1 cap1)),(1,intR A0 n0 x0),(2,intR A5 n5 x5),(3,blkR g38 80 (vltA V5 s89 n89)),(4,zva 0 18 V5.c s89 n89),(5,xR gx39 gc39 Vv sx nx),(6,bytR r.l2 U51.v2),(7,bytR r.l5 U51.v5),(8,blkR g52 37 (recA r U51)),(9,bytR rb.l2 U56.v2),(10,bytR rb.l5 U56.v5),(11,blkR g58 37 (recA rb U56)),(12,txtR L (.slice A63 L.length c63)),(13,blkO gq79 63 (celA V4.c s79 n79)),(14,zva 0 18 V4.c s79 n79),(15,bytR ra.l2 U92.v2),(16,bytR ra.l5 U92.v5),(17,blkR g94 37 (recA ra U92))]→K97 aJ wJ:=by
       intro a97 w97 F97 M97
       refine hK97 _ _ (zSk fun K98 hK98=>?_)
       have J98:∀ (aJ:Act) (wJ:World),Fx 225 aJ [(0,.slice A0 n0 cap0),(1,.slice A1 n1 cap1),(2,zI a2),(3,.bool a3),(4,zI a4),(5,.slice A5 n5 cap5),(13,(zO g38)),(14,(zO gx39)),(17,(zO g52)),(18,(zO g58)),(19,.bool bw),(20,.slice A63 L.length c63),(21,zI 1),(22,zI e4),(23,.slice (some ⟨gq79,0,none⟩) 18 18),(24,(zO g94)),(25,.bool bi),(26,.bool bD),(27,.bool bN)]→Mx none w wJ [(0,bytR l1 (.slice A1 n1 cap1)),(1,intR A0 n0 x0),(2,intR A5 n5 x5),(3,blkR g38 80 (vltA V5 s89 n89)),(4,zva 0 18 V5.c s89 n89),(5,xR gx39 gc39 Vv sx nx),(6,bytR r.l2 U51.v2),(7,bytR r.l5 U51.v5),(8,blkR g52 37 (recA r U51)),(9,bytR rb.l2 U56.v2),(10,bytR rb.l5 U56.v5),(11,blkR g58 37 (recA rb U56)),(12,txtR L (.slice A63 L.length c63)),(13,blkO gq79 63 (celA V4.c s79 n79)),(14,zva 0 18 V4.c s79 n79),(15,bytR ra.l2 U92.v2),(16,bytR ra.l5 U92.v5),(17,blkR g94 37 (recA ra U92))]→K98 aJ wJ:=by
        intro a98 w98 F98 M98
        refine hK98 _ _ (zSk fun K99 hK99=>?_)
        have J99:∀  (aJ:Act) (wJ:World),(True)→Fx 225 aJ [(13,(zO g38)),(14,(zO gx39)),(17,(zO g52)),(20,.slice A63 L.length c63)]→Mx none w wJ [(0,bytR l1 (.slice A1 n1 cap1)),(1,intR A0 n0 x0),(2,intR A5 n5 x5),(3,blkR g38 80 (vltA V5 s89 n89)),(4,zva 0 18 V5.c s89 n89),(5,xR gx39 gc39 Vv sx nx),(6,bytR r.l2 U51.v2),(7,bytR r.l5 U51.v5),(8,blkR g52 37 (recA r U51)),(9,bytR rb.l2 U56.v2),(10,bytR rb.l5 U56.v5),(11,blkR g58 37 (recA rb U56)),(12,txtR L (.slice A63 L.length c63)),(13,blkO gq79 63 (celA V4.c s79 n79)),(14,zva 0 18 V4.c s79 n79),(15,bytR ra.l2 U92.v2),(16,bytR ra.l5 U92.v5),(17,blkR g94 37 (recA ra U92))]→K99 aJ wJ:=by
         intro  a99 w99 I99 F99 M99
         refine hK99 _ _ (zSk fun _ hK100=>zT fun _ hK101=>rm rfl F99 fun _ F102=>hK101 _ _ (wp_block ?_))
         refine zvb (α:=Nat) (n:=225) (G:=none) (w0:=w) (fun x=>[(13,(zO g38)),(14,(zO gx39)),(17,(zO g52)),(20,.slice A63 L.length c63),(28,zI (x:Int))]) (fun x=>[(0,bytR l1 (.slice A1 n1 cap1)),(1,intR A0 n0 x0),(2,intR A5 n5 x5),(3,blkR g38 80 (vltA V5 s89 n89)),(4,zva 0 18 V5.c s89 n89),(5,xR gx39 gc39 Vv sx nx),(6,bytR r.l2 U51.v2),(7,bytR r.l5 U51.v5),(8,blkR g52 37 (recA r U51)),(9,bytR rb.l2 U56.v2),(10,bytR rb.l5 U56.v5),(11,blkR g58 37 (recA rb U56)),(12,txtR L (.slice A63 L.length c63)),(13,blkO gq79 63 (celA V4.c s79 n79)),(14,zva 0 18 V4.c s79 n79),(15,bytR ra.l2 U92.v2),(16,bytR ra.l5 U92.v5),(17,blkR g94 37 (recA ra U92))]) (fun k x=>k=(L.length-x)∧(x≤L.length)) _ 0 ⟨rfl,(Nat.zero_le _)⟩ (F102.sb) (M99.sb) ?_
         rintro k103 kn a103 w103 K103 ⟨ek103,I103⟩ F103 M103 hK103
         replace F103:Fx 225 a103 [(13,(zO g38)),(14,(zO gx39)),(17,(zO g52)),(20,.slice A63 L.length c63),(28,zI (kn:Int))]:=F103
         replace M103:Mx _ _ w103 [(0,bytR l1 (.slice A1 n1 cap1)),(1,intR A0 n0 x0),(2,intR A5 n5 x5),(3,blkR g38 80 (vltA V5 s89 n89)),(4,zva 0 18 V5.c s89 n89),(5,xR gx39 gc39 Vv sx nx),(6,bytR r.l2 U51.v2),(7,bytR r.l5 U51.v5),(8,blkR g52 37 (recA r U51)),(9,bytR rb.l2 U56.v2),(10,bytR rb.l5 U56.v5),(11,blkR g58 37 (recA rb U56)),(12,txtR L (.slice A63 L.length c63)),(13,blkO gq79 63 (celA V4.c s79 n79)),(14,zva 0 18 V4.c s79 n79),(15,bytR ra.l2 U92.v2),(16,bytR ra.l5 U92.v5),(17,blkR g94 37 (recA ra U92))]:=M103
         replace I103:kn≤L.length:=I103
         replace ek103:k103=(L.length-kn):=ek103
         by_cases hkl:kn<L.length
         ·obtain ⟨nm,hnm⟩:∃ x,L[kn]? = some x:=⟨_,List.getElem?_eq_getElem hkl⟩
          have hnv:=names_in hX.1 hL hnm
          obtain ⟨rv,hrv⟩:∃ x,recG Vv nm=x:=⟨_,rfl⟩
          obtain ⟨qv,hqv⟩:∃ x,decide (fst8 (zy V5 nm)<8)=x:=⟨_,rfl⟩
          obtain ⟨r5n,hr5n⟩:∃ x,recG V5 nm=x:=⟨_,rfl⟩
          obtain ⟨q3,hq3⟩:∃ x,eqR r5n rv=x:=⟨_,rfl⟩
          obtain ⟨qn,hqn⟩:∃ x,(!decide (nm.toList=r.s.toList))=x:=⟨_,rfl⟩
          have hov:RecOk rv:=by rw [←hrv];exact recG_ok hX.1 hX.2.ok nm
          have hsm:qn=true→qv=true∧r5n=rv:=fun e=>by
           obtain ⟨g1,g2⟩:=hoth nm (fun e2=>by rw [decide_eq_true e2,e] at hqn;cases hqn)
           rw [g1,decide_eq_true hnv] at hqv
           exact ⟨hqv.symm,hr5n.symm.trans (g2.trans hrv)⟩
          refine zSk fun _ hK104=>zT fun _ hK105=>rm rfl F103 fun _ F106=>rm rfl F106 fun _ F107=>zc (w':=w103) rfl rfl F107 rfl (zI (L.length:Int)) (y_lnG 45 Tryz.underlying45 _ rfl (F107 174 rfl) rfl) fun _ F108=>?_
          refine zc (w':=w103) rfl rfl F108 rfl (.bool true) (zka _ _ _ _ rfl (F108 173 rfl) (F108 175 rfl) (decide_eq_true (show (kn:Int)<(L.length:Int) by omega))) fun _ F109=>?_
          refine hK105 _ _ (wp_cond_true (F109 176 rfl) (wp_skip (hK104 _ _ (zSk fun _ hK110=>wp_block (zT fun _ hK111=>rm rfl F109 fun _ F112=>rm rfl F112 fun _ F113=>rm rfl F113 fun _ F114=>zc (w':=w103) rfl rfl F114 rfl ((ixV (.slice A63 L.length c63) kn)) (y_ixTx _ _ rfl (F114 181 rfl) (M103.at_ 12 _ rfl) (F114 182 rfl) rfl hkl) fun _ F115=>?_)))))
          refine zc (w':=w103) rfl rfl F115 rfl (.string nm) (y_ldTx _ rfl (F115 183 rfl) (M103.at_ 12 _ rfl) hnm) fun _ F116=>?_
          refine ze rfl rfl F116 rfl rfl (zE Tryz.func24 rfl) #[(zO g38),.string nm] (zca (F116 180 rfl) (F116 184 rfl)) (get_is g38 V5 s89 n89 hI5 nm qv r5n hqv hr5n w103 (M103.hasV (kg:=3) (kr:=4) rfl rfl (by decide))) ?_
          rintro _ w117 a117 ⟨U117,rfl,is117,lo117,b117⟩ F117
          have M117:=M103.newRec b117 is117 lo117 18 19
          clear M103 b117 lo117
          refine zAx 3 [(179,.tuple #[.agg (recA r5n U117),.bool qv]),(186,.agg (recA r5n U117)),(187,.bool qv)] [] dnil [] F117 fun _ F118=>?_
          refine zo rfl rfl F118 rfl M117 20 (t:=37) (c:=recA ⟨0, "".toUTF8,[],0,0,[],0,0,0⟩ ⟨zN,zN⟩) (by unfold execOp;kernel_rfl) ?_
          intro g119 a119 w119 F119 M119
          refine zu rfl rfl F119 M119 (k:=20) rfl _ _ _ rfl (F119 29 rfl) (F119 186 rfl) (recA r5n U117) _ rfl (zL rfl) (z2a (w:=w119) ⟨(M119.isb (k:=18) rfl),(M119.isb (k:=19) rfl)⟩) (zba rfl) (by kernel_rfl) ?_
          intro w120 M120
          refine rm rfl F119 fun _ F121=>hK111 _ _ (zT fun _ hK122=>rm rfl F121 fun _ F123=>rm rfl F123 fun _ F124=>rm rfl F124 fun _ F125=>zc (w':=w120) rfl rfl F125 rfl ((ixV (.slice A63 L.length c63) kn)) (y_ixTx _ _ rfl (F125 190 rfl) (M120.at_ 12 _ rfl) (F125 191 rfl) rfl hkl) fun _ F126=>?_)
          refine zc (w':=w120) rfl rfl F126 rfl (.string nm) (y_ldTx _ rfl (F126 192 rfl) (M120.at_ 12 _ rfl) hnm) fun _ F127=>?_
          refine ze rfl rfl F127 rfl rfl (zE Tryz.func33 rfl) #[(zO gx39),.string nm] (zca (F127 189 rfl) (F127 193 rfl)) (xget_is gx39 gc39 Vv sx nx hS.inv nm true rv (decide_eq_true hnv) hrv w120 (M120.xOk (k:=5) rfl)) ?_
          rintro _ w128 a128 ⟨U128,rfl,is128,lo128,b128⟩ F128
          have M128:=M120.newRec b128 is128 lo128 21 22
          clear M120 b128 lo128
          refine zAx 3 [(188,.tuple #[.agg (recA rv U128),.bool true]),(195,.agg (recA rv U128)),(196,.bool true)] [] dnil [] F128 fun _ F129=>?_
          refine zo rfl rfl F129 rfl M128 23 (t:=37) (c:=recA ⟨0, "".toUTF8,[],0,0,[],0,0,0⟩ ⟨zN,zN⟩) (by unfold execOp;kernel_rfl) ?_
          intro g130 a130 w130 F130 M130
          refine zu rfl rfl F130 M130 (k:=23) rfl _ _ _ rfl (F130 31 rfl) (F130 195 rfl) (recA rv U128) _ rfl (zL rfl) (z2a (w:=w130) ⟨(M130.isb (k:=21) rfl),(M130.isb (k:=22) rfl)⟩) (zba rfl) (by kernel_rfl) ?_
          intro w131 M131
          refine rm rfl F130 fun _ F132=>hK122 _ _ (zSk fun _ hK133=>?_)
          cases qn
          ·have hD134:=(zw (M131.blk (k:=8) rfl) dnil)
           refine zta F132 (SK [.inl (.slice A63 L.length c63),.inl (zI (kn:Int)),.inl ((ixV (.slice A63 L.length c63) kn)),.inl (.string nm),.inl (zP g52 1),.inl (.string r.s),.inl (.bool false),.inl (.bool false),.inl (undef),.inl (undef),.inl (undef),.inl (undef),.inl (undef),.inl (undef),.inl (undef),.inl (undef),.inl (undef),.inl (undef),.inl (undef),.inl (undef),.inl (.bool false)]) 21 rfl (by kernel_rfl) ⟨hop0 F132,hop0 F132,hopR F132 [(197,.slice A63 L.length c63),(198,zI (kn:Int))] fun ua uw hb ⟨e197,e198,_⟩=>(y_ixTx _ _ rfl e197 ((M131.step hb).at_ 12 _ rfl) e198 rfl hkl),hopR F132 [(199,(ixV (.slice A63 L.length c63) kn))] fun ua uw hb ⟨e199,_⟩=>(y_ldTx _ rfl e199 ((M131.step hb).at_ 12 _ rfl) hnm),hop0 F132,hopP F132 hD134 0 (some g52),hopR F132 [(200,.string nm),(202,.string r.s)] (v:=.bool false) fun ua uw hb ⟨e200,e202,_⟩=>(y_neS _ _ _ rfl e200 e202 hqn),hop0 F132,hop0 F132,hop0 F132,hop0 F132,hop0 F132,hop0 F132,hop0 F132,hop0 F132,hop0 F132,hop0 F132,hop0 F132,hop0 F132,hop0 F132,hop0 F132,trivial⟩ ?_
           intro p135 a135 w135 b135 G135 y135
           obtain ⟨-,-,-,-,-,-,-,-,-,-,-,-,-,-,-,-,-,-,-,-,q20,-⟩:=y135
           have r20:p135 20=.bool false:=q20 (by decide)
           simp only [List.take,layV,Nat.zero_add,Nat.reduceAdd,r20] at G135
           have M135:=M131.kc b135
           clear F132 M131 r20 q20
           refine hK133 _ _ (wp_cond_false (G135 217 rfl) (wp_skip (hK110 _ _ (zR (rm rfl G135 fun _ F136=>zc (w':=w135) rfl rfl F136 rfl (zI ((kn+1:Nat):Int)) (zia _ _ _ _ rfl (F136 177 rfl) rfl (by omega) (by omega)) fun _ F137=>?_)))))
           refine rm rfl F137 fun _ F138=>?_
           subst ek103
           exact hK103 _ (kn+1) _ _ (by omega) ⟨rfl,(by omega)⟩ (F138.sb) (M135.sb)
          ·cases qv
           ·exact absurd (hsm rfl).1 Bool.false_ne_true
           ·cases q3
            ·exact absurd (hq3.symm.trans (by rw [(hsm rfl).2];exact eqR_self rv)) Bool.false_ne_true
            ·have hD139:=(zw (M131.blk (k:=8) rfl) (zw (M131.blk (k:=20) rfl) (zw (M131.blk (k:=23) rfl) dnil)))
             refine zta F132 (SK [.inl (.slice A63 L.length c63),.inl (zI (kn:Int)),.inl ((ixV (.slice A63 L.length c63) kn)),.inl (.string nm),.inl (zP g52 1),.inl (.string r.s),.inl (.bool true),.inl (.bool true),.inl (.bool true),.inl (.bool false),.inl (.bool false),.inl (.bool true),.inl (.bool false),.inl (.bool false),.inl (.bool false),.inl (.agg (recA r5n U117)),.inl (.agg (recA rv U128)),.inl (.bool true),.inl (.bool false),.inl (.bool false),.inl (.bool false)]) 21 rfl (by kernel_rfl) ⟨hop0 F132,hop0 F132,hopR F132 [(197,.slice A63 L.length c63),(198,zI (kn:Int))] fun ua uw hb ⟨e197,e198,_⟩=>(y_ixTx _ _ rfl e197 ((M131.step hb).at_ 12 _ rfl) e198 rfl hkl),hopR F132 [(199,(ixV (.slice A63 L.length c63) kn))] fun ua uw hb ⟨e199,_⟩=>(y_ldTx _ rfl e199 ((M131.step hb).at_ 12 _ rfl) hnm),hop0 F132,hopP F132 hD139 0 (some g52),hopR F132 [(200,.string nm),(202,.string r.s)] (v:=.bool true) fun ua uw hb ⟨e200,e202,_⟩=>(y_neS _ _ _ rfl e200 e202 hqn),hop0 F132,hop0 F132,hop0 F132,hop0 F132,hop0 F132,hop0 F132,hop0 F132,hop0 F132,hopP F132 hD139 1 (some g119),hopP F132 hD139 2 (some g130),hopC F132 [(212,.agg (recA r5n U117)),(213,.agg (recA rv U128))] rfl (zE Tryz.func31 rfl) fun uw hb=>(recs_is r5n rv ⟨U117.v2,U117.v5⟩ ⟨U128.v2,U128.v5⟩ (by rw [(hsm rfl).2];exact hov) hov true hq3 uw ⟨((M131.step hb).isb (k:=18) rfl),((M131.step hb).isb (k:=19) rfl)⟩ ⟨((M131.step hb).isb (k:=21) rfl),((M131.step hb).isb (k:=22) rfl)⟩),hop0 F132,hop0 F132,hop0 F132,trivial⟩ ?_
             intro p140 a140 w140 b140 G140 y140
             obtain ⟨-,-,-,-,-,-,-,-,-,-,-,-,-,-,-,-,-,-,-,-,q20,-⟩:=y140
             have r20:p140 20=.bool false:=q20 (by decide)
             simp only [List.take,layV,Nat.zero_add,Nat.reduceAdd,r20] at G140
             have M140:=M131.kc b140
             clear F132 M131 r20 q20
             refine hK133 _ _ (wp_cond_false (G140 217 rfl) (wp_skip (hK110 _ _ (zR (rm rfl G140 fun _ F141=>zc (w':=w140) rfl rfl F141 rfl (zI ((kn+1:Nat):Int)) (zia _ _ _ _ rfl (F141 177 rfl) rfl (by omega) (by omega)) fun _ F142=>?_)))))
             refine rm rfl F142 fun _ F143=>?_
             subst ek103
             exact hK103 _ (kn+1) _ _ (by omega) ⟨rfl,(by omega)⟩ (F143.sb) (M140.sb)
         ·refine zSk fun _ hK144=>zT fun _ hK145=>rm rfl F103 fun _ F146=>rm rfl F146 fun _ F147=>zc (w':=w103) rfl rfl F147 rfl (zI (L.length:Int)) (y_lnG 45 Tryz.underlying45 _ rfl (F147 174 rfl) rfl) fun _ F148=>?_
          refine zc (w':=w103) rfl rfl F148 rfl (.bool false) (zka _ _ _ _ rfl (F148 173 rfl) (F148 175 rfl) (decide_eq_false (show ¬(kn:Int)<(L.length:Int) by omega))) fun _ F149=>?_
          refine hK145 _ _ (wp_cond_false (F149 176 rfl) (wp_exit ?_))
          simp only [Exit.then,Exit.inBlock,↓reduceIte,Nat.reduceEqDiff]
          refine hK100 _ _ (zT fun _ hK150=>rm rfl F149 fun _ F151=>ze rfl rfl F151 rfl rfl (zE Tryz.func25 rfl) #[(zO g38)] (zz (F151 218 rfl)) (names_is g38 V5 s89 n89 hI5 L5 hL5 w103 (M103.hasV (kg:=3) (kr:=4) rfl rfl (by decide))) ?_)
          rintro v152 w152 a152 ⟨tx152,b152⟩ F152
          have M152:=M103.newTxt b152 18 tx152
          clear M103 tx152 b152
          obtain ⟨A152,c152,e152,-⟩:=id (M152.at_ 18 _ rfl)
          subst e152
          refine zc (w':=w152) rfl rfl F152 rfl (zI (L5.length:Int)) (y_lnG 45 Tryz.underlying45 _ rfl (F152 219 rfl) rfl) fun _ F153=>?_
          refine rm rfl F153 fun _ F154=>zc (w':=w152) rfl rfl F154 rfl (zI (L.length:Int)) (y_lnG 45 Tryz.underlying45 _ rfl (F154 221 rfl) rfl) fun _ F155=>?_
          refine zc (w':=w152) rfl rfl F155 rfl (zI ((L.length+1:Nat):Int)) (zia _ _ _ _ rfl (F155 222 rfl) rfl (by omega) (by omega)) fun _ F156=>?_
          by_cases h157:(L5.length:Int)≤((L.length+1:Nat):Int)
          ·refine zc (w':=w152) rfl rfl F156 rfl (.bool true) (y_leq _ _ _ _ rfl (F156 220 rfl) (F156 223 rfl) (decide_eq_true h157)) fun _ F158=>?_
           refine rm rfl F158 fun _ F159=>hK150 _ _ (wp_ret ?_)
           try simp only [Exit.then,Exit.inBlock,Exit.jump]
           exact bodyPost_ret (res1 rfl (F159.get rfl)) F159.defers ⟨rfl,M152.below⟩
          ·omega
        refine zT fun _ hK160=>rm rfl F98 fun _ F161=>?_
        cases bD
        ·refine zAx 3 [(137,.bool true),(138,.bool true),(139,.bool bN)] [] dnil [] F161 fun _ F162=>?_
         cases bN
         ·exact absurd hor Bool.false_ne_true
         ·refine zAx 4 [(140,.bool false),(141,.bool false),(142,.bool false),(143,zI e4)] [] dnil [] F162 fun _ F163=>?_
          by_cases h164:e4=0
          ·exact absurd (hdn h164) Bool.false_ne_true
          ·refine zc (w':=w98) (zd rfl rfl rfl (F163 142 rfl)) rfl F163 rfl (.bool false) (z9a _ _ _ _ rfl (F163 143 rfl) rfl Tryz.underlying39 (z5b h164)) fun _ F165=>?_
           refine zAx 7 [(145,.bool false),(146,undef),(147,undef),(148,.bool false),(149,.bool false),(150,.bool false),(151,zI e4)] [] dnil [] F165 fun _ F166=>?_
           refine zc (w':=w98) (zd rfl rfl rfl (F166 150 rfl)) rfl F166 rfl (.bool true) (y_neI _ _ _ _ rfl (F166 151 rfl) rfl Tryz.underlying39 (y_bneT h164)) fun _ F167=>?_
           refine rm rfl F167 fun _ F168=>rm rfl F168 fun _ F169=>?_
           by_cases h170:e4=10
           ·refine zc (w':=w98) (zd rfl rfl rfl (F169 153 rfl)) rfl F169 rfl (.bool false) (y_neI _ _ _ _ rfl (F169 154 rfl) rfl Tryz.underlying39 (y_bneF h170)) fun _ F171=>?_
            refine zAx 8 [(156,.bool false),(157,.bool false),(158,undef),(159,undef),(160,.bool false),(161,.bool false),(162,.bool false),(163,(zO g38))] [] dnil [] F171 fun _ F172=>?_
            refine ze (zd rfl rfl rfl (F172 162 rfl)) rfl F172 rfl rfl (zE Tryz.func26 rfl) #[(zO g38)] (zz (F172 163 rfl)) (zx ((boot_is g38 V5 s89 n89 hI5 hE5 w98 (M98.hasV (kg:=3) (kr:=4) rfl rfl (by decide))))) ?_
            rintro _ w173 a173 ⟨rfl,b173⟩ F173
            have M173:=M98.step b173
            refine rm rfl F173 fun _ F174=>zc (w':=w173) (zd rfl rfl rfl (F174 162 rfl)) rfl F174 rfl (zI 2) (zia _ _ _ _ rfl (F174 165 rfl) rfl rfl (by omega)) fun _ F175=>?_
            refine zc (w':=w173) (zd rfl rfl rfl (F175 162 rfl)) rfl F175 rfl (.bool false) (y_neI _ _ _ _ rfl (F175 164 rfl) (F175 166 rfl) Tryz.underlying3 (y_bneF (by decide))) fun _ F176=>?_
            refine zAx 3 [(168,.bool false),(169,.bool false),(170,(zO g38))] [] dnil [] F176 fun _ F177=>?_
            refine ze (zd rfl rfl rfl (F177 169 rfl)) rfl F177 rfl rfl (zE Tryz.func32 rfl) #[(zO g38)] (zz (F177 170 rfl)) (zx ((dead_is g38 V5 s89 n89 false hd5 w173 (M173.hasV (kg:=3) (kr:=4) rfl rfl (by decide))))) ?_
            rintro _ w178 a178 ⟨rfl,b178⟩ F178
            have M178:=M173.step b178
            refine zc (w':=w178) rfl rfl F178 rfl (.bool false) (zcb rfl (F178 169 rfl) (F178 171 rfl)) fun _ F179=>?_
            refine hK160 _ _ (wp_cond_false (F179 172 rfl) (wp_skip ?_))
            exact J99  _ _ trivial (F179.sb) (M178.sb)
           ·refine zc (w':=w98) (zd rfl rfl rfl (F169 153 rfl)) rfl F169 rfl (.bool true) (y_neI _ _ _ _ rfl (F169 154 rfl) rfl Tryz.underlying39 (y_bneT h170)) fun _ F180=>?_
            refine zB 8 [(13,(zO g38)),(14,(zO gx39)),(17,(zO g52)),(20,.slice A63 L.length c63),(21,zI 1),(162,.bool false),(163,(zO g38))] [] dnil [] F180 fun _ F181=>?_
            refine ze (zd rfl rfl rfl (F181 162 rfl)) rfl F181 rfl rfl (zE Tryz.func26 rfl) #[(zO g38)] (zz (F181 163 rfl)) (zx ((boot_is g38 V5 s89 n89 hI5 hE5 w98 (M98.hasV (kg:=3) (kr:=4) rfl rfl (by decide))))) ?_
            rintro _ w182 a182 ⟨rfl,b182⟩ F182
            have M182:=M98.step b182
            refine rm rfl F182 fun _ F183=>zc (w':=w182) (zd rfl rfl rfl (F183 162 rfl)) rfl F183 rfl (zI 2) (zia _ _ _ _ rfl (F183 165 rfl) rfl rfl (by omega)) fun _ F184=>?_
            refine zc (w':=w182) (zd rfl rfl rfl (F184 162 rfl)) rfl F184 rfl (.bool false) (y_neI _ _ _ _ rfl (F184 164 rfl) (F184 166 rfl) Tryz.underlying3 (y_bneF (by decide))) fun _ F185=>?_
            refine zAx 3 [(168,.bool false),(169,.bool false),(170,(zO g38))] [] dnil [] F185 fun _ F186=>?_
            refine ze (zd rfl rfl rfl (F186 169 rfl)) rfl F186 rfl rfl (zE Tryz.func32 rfl) #[(zO g38)] (zz (F186 170 rfl)) (zx ((dead_is g38 V5 s89 n89 false hd5 w182 (M182.hasV (kg:=3) (kr:=4) rfl rfl (by decide))))) ?_
            rintro _ w187 a187 ⟨rfl,b187⟩ F187
            have M187:=M182.step b187
            refine zc (w':=w187) rfl rfl F187 rfl (.bool false) (zcb rfl (F187 169 rfl) (F187 171 rfl)) fun _ F188=>?_
            refine hK160 _ _ (wp_cond_false (F188 172 rfl) (wp_skip ?_))
            exact J99  _ _ trivial (F188.sb) (M187.sb)
        ·refine zAx 7 [(137,.bool false),(138,.bool false),(139,undef),(140,undef),(141,.bool false),(142,.bool false),(143,zI e4)] [] dnil [] F161 fun _ F189=>?_
         by_cases h190:e4=0
         ·refine zc (w':=w98) (zd rfl rfl rfl (F189 142 rfl)) rfl F189 rfl (.bool true) (z9a _ _ _ _ rfl (F189 143 rfl) rfl Tryz.underlying39 (zqb h190)) fun _ F191=>?_
          refine zAx 7 [(145,.bool true),(146,.bool true),(147,.bool false),(148,.bool false),(149,.bool false),(150,.bool false),(151,zI e4)] [] dnil [] F191 fun _ F192=>?_
          refine zc (w':=w98) (zd rfl rfl rfl (F192 150 rfl)) rfl F192 rfl (.bool false) (y_neI _ _ _ _ rfl (F192 151 rfl) rfl Tryz.underlying39 (y_bneF h190)) fun _ F193=>?_
          refine zB 11 [(13,(zO g38)),(14,(zO gx39)),(17,(zO g52)),(20,.slice A63 L.length c63),(21,zI 1),(162,.bool false),(163,(zO g38))] [] dnil [] F193 fun _ F194=>?_
          refine ze (zd rfl rfl rfl (F194 162 rfl)) rfl F194 rfl rfl (zE Tryz.func26 rfl) #[(zO g38)] (zz (F194 163 rfl)) (zx ((boot_is g38 V5 s89 n89 hI5 hE5 w98 (M98.hasV (kg:=3) (kr:=4) rfl rfl (by decide))))) ?_
          rintro _ w195 a195 ⟨rfl,b195⟩ F195
          have M195:=M98.step b195
          refine rm rfl F195 fun _ F196=>zc (w':=w195) (zd rfl rfl rfl (F196 162 rfl)) rfl F196 rfl (zI 2) (zia _ _ _ _ rfl (F196 165 rfl) rfl rfl (by omega)) fun _ F197=>?_
          refine zc (w':=w195) (zd rfl rfl rfl (F197 162 rfl)) rfl F197 rfl (.bool false) (y_neI _ _ _ _ rfl (F197 164 rfl) (F197 166 rfl) Tryz.underlying3 (y_bneF (by decide))) fun _ F198=>?_
          refine zAx 3 [(168,.bool false),(169,.bool false),(170,(zO g38))] [] dnil [] F198 fun _ F199=>?_
          refine ze (zd rfl rfl rfl (F199 169 rfl)) rfl F199 rfl rfl (zE Tryz.func32 rfl) #[(zO g38)] (zz (F199 170 rfl)) (zx ((dead_is g38 V5 s89 n89 false hd5 w195 (M195.hasV (kg:=3) (kr:=4) rfl rfl (by decide))))) ?_
          rintro _ w200 a200 ⟨rfl,b200⟩ F200
          have M200:=M195.step b200
          refine zc (w':=w200) rfl rfl F200 rfl (.bool false) (zcb rfl (F200 169 rfl) (F200 171 rfl)) fun _ F201=>?_
          refine hK160 _ _ (wp_cond_false (F201 172 rfl) (wp_skip ?_))
          exact J99  _ _ trivial (F201.sb) (M200.sb)
         ·refine zc (w':=w98) (zd rfl rfl rfl (F189 142 rfl)) rfl F189 rfl (.bool false) (z9a _ _ _ _ rfl (F189 143 rfl) rfl Tryz.underlying39 (z5b h190)) fun _ F202=>?_
          refine zAx 7 [(145,.bool false),(146,undef),(147,undef),(148,.bool false),(149,.bool false),(150,.bool false),(151,zI e4)] [] dnil [] F202 fun _ F203=>?_
          refine zc (w':=w98) (zd rfl rfl rfl (F203 150 rfl)) rfl F203 rfl (.bool true) (y_neI _ _ _ _ rfl (F203 151 rfl) rfl Tryz.underlying39 (y_bneT h190)) fun _ F204=>?_
          refine rm rfl F204 fun _ F205=>rm rfl F205 fun _ F206=>?_
          by_cases h207:e4=10
          ·refine zc (w':=w98) (zd rfl rfl rfl (F206 153 rfl)) rfl F206 rfl (.bool false) (y_neI _ _ _ _ rfl (F206 154 rfl) rfl Tryz.underlying39 (y_bneF h207)) fun _ F208=>?_
           refine zAx 8 [(156,.bool false),(157,.bool false),(158,undef),(159,undef),(160,.bool false),(161,.bool false),(162,.bool false),(163,(zO g38))] [] dnil [] F208 fun _ F209=>?_
           refine ze (zd rfl rfl rfl (F209 162 rfl)) rfl F209 rfl rfl (zE Tryz.func26 rfl) #[(zO g38)] (zz (F209 163 rfl)) (zx ((boot_is g38 V5 s89 n89 hI5 hE5 w98 (M98.hasV (kg:=3) (kr:=4) rfl rfl (by decide))))) ?_
           rintro _ w210 a210 ⟨rfl,b210⟩ F210
           have M210:=M98.step b210
           refine rm rfl F210 fun _ F211=>zc (w':=w210) (zd rfl rfl rfl (F211 162 rfl)) rfl F211 rfl (zI 2) (zia _ _ _ _ rfl (F211 165 rfl) rfl rfl (by omega)) fun _ F212=>?_
           refine zc (w':=w210) (zd rfl rfl rfl (F212 162 rfl)) rfl F212 rfl (.bool false) (y_neI _ _ _ _ rfl (F212 164 rfl) (F212 166 rfl) Tryz.underlying3 (y_bneF (by decide))) fun _ F213=>?_
           refine zAx 3 [(168,.bool false),(169,.bool false),(170,(zO g38))] [] dnil [] F213 fun _ F214=>?_
           refine ze (zd rfl rfl rfl (F214 169 rfl)) rfl F214 rfl rfl (zE Tryz.func32 rfl) #[(zO g38)] (zz (F214 170 rfl)) (zx ((dead_is g38 V5 s89 n89 false hd5 w210 (M210.hasV (kg:=3) (kr:=4) rfl rfl (by decide))))) ?_
           rintro _ w215 a215 ⟨rfl,b215⟩ F215
           have M215:=M210.step b215
           refine zc (w':=w215) rfl rfl F215 rfl (.bool false) (zcb rfl (F215 169 rfl) (F215 171 rfl)) fun _ F216=>?_
           refine hK160 _ _ (wp_cond_false (F216 172 rfl) (wp_skip ?_))
           exact J99  _ _ trivial (F216.sb) (M215.sb)
          ·refine zc (w':=w98) (zd rfl rfl rfl (F206 153 rfl)) rfl F206 rfl (.bool true) (y_neI _ _ _ _ rfl (F206 154 rfl) rfl Tryz.underlying39 (y_bneT h207)) fun _ F217=>?_
           refine zAx 3 [(156,.bool true),(157,.bool true),(158,.bool bN)] [] dnil [] F217 fun _ F218=>?_
           cases bN
           ·exact absurd (hnt h190 h207) Bool.false_ne_true
           ·refine zAx 5 [(159,.bool false),(160,.bool false),(161,.bool false),(162,.bool false),(163,(zO g38))] [] dnil [] F218 fun _ F219=>?_
            refine ze (zd rfl rfl rfl (F219 162 rfl)) rfl F219 rfl rfl (zE Tryz.func26 rfl) #[(zO g38)] (zz (F219 163 rfl)) (zx ((boot_is g38 V5 s89 n89 hI5 hE5 w98 (M98.hasV (kg:=3) (kr:=4) rfl rfl (by decide))))) ?_
            rintro _ w220 a220 ⟨rfl,b220⟩ F220
            have M220:=M98.step b220
            refine rm rfl F220 fun _ F221=>zc (w':=w220) (zd rfl rfl rfl (F221 162 rfl)) rfl F221 rfl (zI 2) (zia _ _ _ _ rfl (F221 165 rfl) rfl rfl (by omega)) fun _ F222=>?_
            refine zc (w':=w220) (zd rfl rfl rfl (F222 162 rfl)) rfl F222 rfl (.bool false) (y_neI _ _ _ _ rfl (F222 164 rfl) (F222 166 rfl) Tryz.underlying3 (y_bneF (by decide))) fun _ F223=>?_
            refine zAx 3 [(168,.bool false),(169,.bool false),(170,(zO g38))] [] dnil [] F223 fun _ F224=>?_
            refine ze (zd rfl rfl rfl (F224 169 rfl)) rfl F224 rfl rfl (zE Tryz.func32 rfl) #[(zO g38)] (zz (F224 170 rfl)) (zx ((dead_is g38 V5 s89 n89 false hd5 w220 (M220.hasV (kg:=3) (kr:=4) rfl rfl (by decide))))) ?_
            rintro _ w225 a225 ⟨rfl,b225⟩ F225
            have M225:=M220.step b225
            refine zc (w':=w225) rfl rfl F225 rfl (.bool false) (zcb rfl (F225 169 rfl) (F225 171 rfl)) fun _ F226=>?_
            refine hK160 _ _ (wp_cond_false (F226 172 rfl) (wp_skip ?_))
            exact J99  _ _ trivial (F226.sb) (M225.sb)
       refine zR (rm rfl F97 fun _ F227=>rm rfl F227 fun _ F228=>?_)
       cases bi
       ·cases bw
        ·refine zc (w':=w97) rfl rfl F228 rfl (.bool true) (y_eqB _ _ rfl (F228 128 rfl) (F228 129 rfl) rfl) fun _ F229=>?_
         refine zAx 3 [(131,.bool true),(132,.agg (recA ra U92)),(133,.agg (recA rb U56))] [0,1] (zw (M97.blk (k:=17) rfl) (zw (M97.blk (k:=11) rfl) dnil)) [g94,g58] F229 fun _ F230=>?_
         refine ze (zd rfl rfl rfl (F230 131 rfl)) rfl F230 rfl rfl (zE Tryz.func31 rfl) #[.agg (recA ra U92),.agg (recA rb U56)] (zca (F230 132 rfl) (F230 133 rfl)) (zx ((recs_is ra rb ⟨U92.v2,U92.v5⟩ ⟨U56.v2,U56.v5⟩ hoa hob q2 hq2 w97 ⟨(M97.isb (k:=15) rfl),(M97.isb (k:=16) rfl)⟩ ⟨(M97.isb (k:=9) rfl),(M97.isb (k:=10) rfl)⟩))) ?_
         rintro _ w231 a231 ⟨rfl,b231⟩ F231
         have M231:=M97.step b231
         refine zAx 2 [(135,.bool q2),(27,.bool q2)] [] dnil [] F231 fun _ F232=>?_
         obtain rfl:bN=q2:=hN_.symm.trans (by first | rfl | simp)
         exact J98 _ _ (F232.sb) (M231.sb)
        ·refine zc (w':=w97) rfl rfl F228 rfl (.bool false) (y_eqB _ _ rfl (F228 128 rfl) (F228 129 rfl) rfl) fun _ F233=>?_
         refine zAx 6 [(131,.bool false),(132,undef),(133,undef),(134,undef),(135,.bool false),(27,.bool false)] [] dnil [] F233 fun _ F234=>?_
         obtain rfl:bN=false:=hN_.symm.trans (by first | rfl | simp)
         exact J98 _ _ (F234.sb) (M97.sb)
       ·cases bw
        ·refine zc (w':=w97) rfl rfl F228 rfl (.bool false) (y_eqB _ _ rfl (F228 128 rfl) (F228 129 rfl) rfl) fun _ F235=>?_
         refine zAx 6 [(131,.bool false),(132,undef),(133,undef),(134,undef),(135,.bool false),(27,.bool false)] [] dnil [] F235 fun _ F236=>?_
         obtain rfl:bN=false:=hN_.symm.trans (by first | rfl | simp)
         exact J98 _ _ (F236.sb) (M97.sb)
        ·refine zc (w':=w97) rfl rfl F228 rfl (.bool true) (y_eqB _ _ rfl (F228 128 rfl) (F228 129 rfl) rfl) fun _ F237=>?_
         refine zAx 3 [(131,.bool true),(132,.agg (recA ra U92)),(133,.agg (recA rb U56))] [0,1] (zw (M97.blk (k:=17) rfl) (zw (M97.blk (k:=11) rfl) dnil)) [g94,g58] F237 fun _ F238=>?_
         refine ze (zd rfl rfl rfl (F238 131 rfl)) rfl F238 rfl rfl (zE Tryz.func31 rfl) #[.agg (recA ra U92),.agg (recA rb U56)] (zca (F238 132 rfl) (F238 133 rfl)) (zx ((recs_is ra rb ⟨U92.v2,U92.v5⟩ ⟨U56.v2,U56.v5⟩ hoa hob q2 hq2 w97 ⟨(M97.isb (k:=15) rfl),(M97.isb (k:=16) rfl)⟩ ⟨(M97.isb (k:=9) rfl),(M97.isb (k:=10) rfl)⟩))) ?_
         rintro _ w239 a239 ⟨rfl,b239⟩ F239
         have M239:=M97.step b239
         refine zAx 2 [(135,.bool q2),(27,.bool q2)] [] dnil [] F239 fun _ F240=>?_
         obtain rfl:bN=q2:=hN_.symm.trans (by first | rfl | simp)
         exact J98 _ _ (F240.sb) (M239.sb)
      refine zR (rm rfl F96 fun _ F241=>rm rfl F241 fun _ F242=>?_)
      cases bi
      ·cases a3
       ·refine zc (w':=w95) rfl rfl F242 rfl (.bool false) (y_neB _ _ rfl (F242 117 rfl) (F242 118 rfl) rfl) fun _ F243=>?_
        refine zAx 9 [(120,.bool false),(121,undef),(122,undef),(123,undef),(124,undef),(125,undef),(126,undef),(127,.bool false),(26,.bool false)] [] dnil [] F243 fun _ F244=>?_
        obtain rfl:bD=false:=hD.symm.trans (by first | rfl | simp)
        exact J97 _ _ (F244.sb) (M95.sb)
       ·refine zc (w':=w95) rfl rfl F242 rfl (.bool true) (y_neB _ _ rfl (F242 117 rfl) (F242 118 rfl) rfl) fun _ F245=>?_
        refine zAx 9 [(120,.bool true),(121,.bool true),(122,.bool true),(123,undef),(124,undef),(125,undef),(126,.bool true),(127,.bool true),(26,.bool true)] [] dnil [] F245 fun _ F246=>?_
        obtain rfl:bD=true:=hD.symm.trans (by first | rfl | simp)
        exact J97 _ _ (F246.sb) (M95.sb)
      ·cases a3
       ·refine zc (w':=w95) rfl rfl F242 rfl (.bool true) (y_neB _ _ rfl (F242 117 rfl) (F242 118 rfl) rfl) fun _ F247=>?_
        refine zAx 5 [(120,.bool true),(121,.bool false),(122,.bool false),(123,.agg (recA ra U92)),(124,.agg (recA r U51))] [0,1] (zw (M95.blk (k:=17) rfl) (zw (M95.blk (k:=8) rfl) dnil)) [g94,g52] F247 fun _ F248=>?_
        refine ze (zd rfl rfl rfl (F248 122 rfl)) rfl F248 rfl rfl (zE Tryz.func31 rfl) #[.agg (recA ra U92),.agg (recA r U51)] (zca (F248 123 rfl) (F248 124 rfl)) (zx ((recs_is ra r ⟨U92.v2,U92.v5⟩ ⟨U51.v2,U51.v5⟩ hoa ro q1 hq1 w95 ⟨(M95.isb (k:=15) rfl),(M95.isb (k:=16) rfl)⟩ ⟨(M95.isb (k:=6) rfl),(M95.isb (k:=7) rfl)⟩))) ?_
        rintro _ w249 a249 ⟨rfl,b249⟩ F249
        have M249:=M95.step b249
        refine zAx 3 [(126,.bool q1),(127,.bool q1),(26,.bool q1)] [] dnil [] F249 fun _ F250=>?_
        obtain rfl:bD=q1:=hD.symm.trans (by first | rfl | simp)
        exact J97 _ _ (F250.sb) (M249.sb)
       ·refine zc (w':=w95) rfl rfl F242 rfl (.bool false) (y_neB _ _ rfl (F242 117 rfl) (F242 118 rfl) rfl) fun _ F251=>?_
        refine zAx 9 [(120,.bool false),(121,undef),(122,undef),(123,undef),(124,undef),(125,undef),(126,undef),(127,.bool false),(26,.bool false)] [] dnil [] F251 fun _ F252=>?_
        obtain rfl:bD=false:=hD.symm.trans (by first | rfl | simp)
        exact J97 _ _ (F252.sb) (M95.sb)
     ·refine wp_cond_true (F85 106 rfl) (zT fun _ hK253=>rm rfl F85 fun _ F254=>hK253 _ _ (wp_ret ?_))
      try simp only [Exit.then,Exit.inBlock,Exit.jump]
      exact bodyPost_ret (res1 rfl (F254.get rfl)) F254.defers ⟨rfl,M85.below⟩
    refine zT fun _ hK255=>rm rfl F75 fun _ F256=>hK255 _ _ ?_
    cases a3
    ·refine wp_cond_false (F256 94 rfl) (zR (rm rfl F256 fun _ F257=>zc (w':=w73) rfl rfl F257 rfl _ (zhb _ _ rfl (F257 17 rfl) (M73.blk (k:=8) rfl) (recA r U51) (zmb rfl) Tryz.underlying37 rfl (by kernel_rfl)) fun _ F258=>?_))
     refine ze rfl rfl F258 rfl rfl (zE Tryz.func22 rfl) #[(zO g38),.agg (recA r U51)] (zca (F258 99 rfl) (F258 100 rfl)) (put_is g38 Vf s73 n73 r (⟨U51.v2,U51.v5⟩) ro hIf (by decide) V4 e4 (hput rfl).1 (hput rfl).2 w73 ⟨(M73.isb (k:=6) rfl),(M73.isb (k:=7) rfl)⟩ ⟨(fun h=>M73.dis 3 6 _ _ rfl rfl (by decide) rfl _ rfl h),(fun h=>M73.dis 3 7 _ _ rfl rfl (by decide) rfl _ rfl h)⟩ (M73.rowsV (i:=4) (k:=3) rfl rfl (by decide)) (M73.blk (k:=3) rfl)) ?_
     rintro _ w259 a259 ⟨rfl,s259,n259,hr259,ht259,hc259,hg259⟩ F259
     have M259:=M73.vault (kg:=3) (kr:=4) rfl rfl hg259 hc259 hr259 ht259
     clear M73 hg259 hc259 hr259 ht259
     refine rm rfl F259 fun _ F260=>?_
     exact J76 s259 n259 _ _ trivial (F260.sb) (M259.sb)
    ·refine wp_cond_true (F256 94 rfl) (zR (zAx 3 [(95,(zO g38)),(96,(zP g52 1)),(97,.string r.s)] [0] (zw (M73.blk (k:=8) rfl) dnil) [g52] F256 fun _ F261=>?_))
     refine ze rfl rfl F261 rfl rfl (zE Tryz.func27 rfl) #[(zO g38),.string r.s] (zca (F261 95 rfl) (F261 97 rfl)) (gone_is g38 Vf s73 n73 r.s hIf (by decide) V4 e4 (hgon rfl).1 (hgon rfl).2 w73  (M73.rowsV (i:=4) (k:=3) rfl rfl (by decide)) (M73.blk (k:=3) rfl)) ?_
     rintro _ w262 a262 ⟨rfl,s262,n262,hr262,ht262,hc262,hg262⟩ F262
     have M262:=M73.vault (kg:=3) (kr:=4) rfl rfl hg262 hc262 hr262 ht262
     clear M73 hg262 hc262 hr262 ht262
     refine rm rfl F262 fun _ F263=>?_
     exact J76 s262 n262 _ _ trivial (F263.sb) (M262.sb)
   refine zT fun _ hK264=>rm rfl F45 fun _ F265=>hK264 _ _ (wp_block ?_)
   refine zvb (α:=Nat×VltN×(Nat→Value)×(Nat→Value)×(Nat→Value)×(Nat→Value)×(Nat→Option RecN)) (n:=225) (G:=none) (w0:=w) (fun x=>[(0,.slice A0 n0 cap0),(1,.slice A1 n1 cap1),(2,zI a2),(3,.bool a3),(4,zI a4),(5,.slice A5 n5 cap5),(13,(zO g38)),(14,(zO gx39)),(15,zI (x.1:Int))]) (fun x=>[(0,bytR l1 (.slice A1 n1 cap1)),(1,intR A0 n0 x0),(2,intR A5 n5 x5),(3,blkR g38 80 (vltA x.2.1 x.2.2.1 x.2.2.2.1)),(4,zva 0 18 x.2.1.c x.2.2.1 x.2.2.2.1),(5,xR gx39 gc39 x.2.1 x.2.2.2.2.1 x.2.2.2.2.2.1)]) (fun k x=>k=(30-x.1)∧(x.1≤30∧StOk (x.1+1) x.2.1∧(AccV x.2.1 x.2.2.2.2.2.2∧DisM x.2.2.2.2.2.2))) _ ⟨0,V1,s38,n38,s39,n39,(fun _=>none)⟩ ⟨rfl,⟨Nat.zero_le _,hS1,hA1,dis0⟩⟩ (F265.sb) (M39.sb) ?_
   rintro k266 ⟨jn,Vv,sv,nv,sx,nx,mv⟩ a266 w266 K266 ⟨ek266,I266⟩ F266 M266 hK266
   replace F266:Fx 225 a266 [(0,.slice A0 n0 cap0),(1,.slice A1 n1 cap1),(2,zI a2),(3,.bool a3),(4,zI a4),(5,.slice A5 n5 cap5),(13,(zO g38)),(14,(zO gx39)),(15,zI (jn:Int))]:=F266
   replace M266:Mx _ _ w266 [(0,bytR l1 (.slice A1 n1 cap1)),(1,intR A0 n0 x0),(2,intR A5 n5 x5),(3,blkR g38 80 (vltA Vv sv nv)),(4,zva 0 18 Vv.c sv nv),(5,xR gx39 gc39 Vv sx nx)]:=M266
   replace I266:jn≤30∧StOk (jn+1) Vv∧(AccV Vv mv∧DisM mv):=I266
   replace ek266:k266=(30-jn):=ek266
   obtain ⟨hj,hS,hX⟩:=I266
   refine zSk fun _ hK267=>zT fun _ hK268=>rm rfl F266 fun _ F269=>rm rfl F269 fun _ F270=>zc (w':=w266) rfl rfl F270 rfl (zI (n0:Int)) (y_lnG 22 Tryz.underlying22 _ rfl (F270 48 rfl) rfl) fun _ F271=>?_
   by_cases h272:(jn:Int)<(n0:Int)
   ·refine zc (w':=w266) rfl rfl F271 rfl (.bool true) (zka _ _ _ _ rfl (F271 47 rfl) (F271 49 rfl) (decide_eq_true h272)) fun _ F273=>?_
    refine rm rfl F273 fun _ F274=>rm rfl F274 fun _ F275=>?_
    by_cases h276:(jn:Int)<30
    ·have xb:=hr0.2.1 jn
     obtain ⟨nn,hnn,hnnl⟩:∃ k:Nat,(x0 jn)%1073741824=(k:Int)∧k<1073741824:=in6 _ (by decide)
     refine zc (w':=w266) (zd rfl rfl rfl (F275 51 rfl)) rfl F275 rfl (.bool true) (zka _ _ _ _ rfl (F275 52 rfl) rfl (decide_eq_true h276)) fun _ F277=>?_
     refine zc (w':=w266) rfl rfl F277 rfl (.bool true) (zob rfl (F277 51 rfl) (F277 53 rfl)) fun _ F278=>?_
     refine hK268 _ _ (wp_cond_true (F278 54 rfl) (wp_skip (hK267 _ _ (zSk fun _ hK279=>wp_block (zT fun _ hK280=>rm rfl F278 fun _ F281=>rm rfl F281 fun _ F282=>zc (w':=w266) rfl rfl F282 rfl ((ixV (.slice A0 n0 cap0) jn)) (y_ixJ _ _ rfl (F282 57 rfl) (M266.rdI (k:=1) rfl) (F282 58 rfl) rfl (by omega)) fun _ F283=>?_)))))
     refine zc (w':=w266) rfl rfl F283 rfl (zI (x0 jn)) (y_ldJ _ rfl (F283 59 rfl) (M266.rdI (k:=1) rfl) (by omega)) fun _ F284=>?_
     refine ze rfl rfl F284 rfl rfl (zE Tryz.func17 rfl) #[zI (x0 jn),zI 1073741824] (zca (F284 60 rfl) rfl) (zx ((hnn▸within6_any (x0 jn) 1073741824 (by decide) (by decide) xb.1 xb.2 w266))) ?_
     rintro _ w285 a285 ⟨rfl,rfl⟩ F285
     refine rm rfl F285 fun _ F286=>hK280 _ _ (zSk fun K287 hK287=>?_)
     have J287:∀ (kz:Nat) (aJ:Act) (wJ:World),(kz<1073741824∧kz%12≤7)→Fx 225 aJ [(0,.slice A0 n0 cap0),(1,.slice A1 n1 cap1),(2,zI a2),(3,.bool a3),(4,zI a4),(5,.slice A5 n5 cap5),(13,(zO g38)),(14,(zO gx39)),(15,zI (jn:Int)),(16,zI (kz:Int))]→Mx none w wJ [(0,bytR l1 (.slice A1 n1 cap1)),(1,intR A0 n0 x0),(2,intR A5 n5 x5),(3,blkR g38 80 (vltA Vv sv nv)),(4,zva 0 18 Vv.c sv nv),(5,xR gx39 gc39 Vv sx nx)]→K287 aJ wJ:=by
      intro kz a287 w287 I287 F287 M287
      refine hK287 _ _ ?_
      obtain ⟨hz1,hz2⟩:=I287
      refine zT fun _ hK288=>rm rfl F287 fun _ F289=>rm rfl F289 fun _ F290=>rm rfl F290 fun _ F291=>rm rfl F291 fun _ F292=>?_
      refine ze rfl rfl F292 rfl rfl (zE Tryz.func16 rfl) #[(zO g38),(zO gx39),zI (kz:Int),.slice A1 n1 cap1,zN] (args5 (F292 69 rfl) (F292 70 rfl) (F292 71 rfl) (F292 72 rfl) rfl) (lstep_any g38 gx39 gc39 Vv sv nv sx nx hS.inv (by omega) hS.left l1 (.slice A1 n1 cap1) (zN) (by omega) (kz:Int) (by omega) (by omega) w287 (M287.rowsV (i:=4) (k:=3) rfl rfl (by decide)) (M287.blk (k:=3) rfl) (M287.xOk (k:=5) rfl) (fun h=>M287.dis 3 5 _ _ rfl rfl (by decide) rfl _ rfl h) (M287.isb (k:=0) rfl) (fun h=>M287.dis 3 0 _ _ rfl rfl (by decide) rfl _ rfl h)) ?_
      rintro _ w293 a293 ⟨rfl,V293,sv293,wm293,s293,n293,vt293,xt293⟩ F293
      obtain ⟨sx293,nx293,M293⟩:=(M287.vault (kg:=3) (kr:=4) rfl rfl vt293.grown vt293.blk vt293.rows vt293.fpt).xput (k:=5) rfl xt293
      clear M287 vt293 xt293
      have st293:=st_step hS (by omega) sv293
      obtain ⟨m2_,hA2_,hD2_⟩:=acc_step hS (by omega) sv293 hX.1 hX.2
      refine zc (w':=w293) rfl rfl F293 rfl (.bool false) (zlb _ _ rfl (F293 73 rfl)) fun _ F294=>?_
      refine hK288 _ _ (wp_cond_false (F294 74 rfl) (wp_skip (hK279 _ _ (zR (rm rfl F294 fun _ F295=>zc (w':=w293) rfl rfl F295 rfl (zI ((jn+1:Nat):Int)) (zia _ _ _ _ rfl (F295 55 rfl) rfl (by omega) (by omega)) fun _ F296=>?_)))))
      refine rm rfl F296 fun _ F297=>?_
      subst ek266
      exact hK266 _ ⟨(jn+1),V293,s293,n293,sx293,nx293,m2_⟩ _ _ (by omega) ⟨rfl,⟨by omega,st293,hA2_,hD2_⟩⟩ (F297.sb) (M293.sb)
     refine zT fun _ hK298=>rm rfl F286 fun _ F299=>zc (w':=w266) rfl rfl F299 rfl (zI ((nn%12:Nat):Int)) (y_remI _ _ _ _ rfl (F299 62 rfl) rfl (by omega) (by omega) (by omega)) fun _ F300=>?_
     by_cases h301:8≤((nn%12:Nat):Int)
     ·refine zc (w':=w266) rfl rfl F300 rfl (.bool true) (y_geq _ _ _ _ rfl (F300 63 rfl) rfl (decide_eq_true h301)) fun _ F302=>?_
      refine hK298 _ _ (wp_cond_true (F302 64 rfl) (zR (rm rfl F302 fun _ F303=>rm rfl F303 fun _ F304=>zc (w':=w266) rfl rfl F304 rfl (zI ((nn%12:Nat):Int)) (y_remI _ _ _ _ rfl (F304 66 rfl) rfl (by omega) (by omega) (by omega)) fun _ F305=>?_)))
      refine zc (w':=w266) rfl rfl F305 rfl (zI ((nn-nn%12:Nat):Int)) (y_subI _ _ _ _ rfl (F305 65 rfl) (F305 67 rfl) (by omega) (by omega)) fun _ F306=>?_
      refine rm rfl F306 fun _ F307=>?_
      exact J287 (nn-nn%12) _ _ (by omega) (F307.sb) (M266.sb)
     ·refine zc (w':=w266) rfl rfl F300 rfl (.bool false) (y_geq _ _ _ _ rfl (F300 63 rfl) rfl (decide_eq_false h301)) fun _ F308=>?_
      refine hK298 _ _ (wp_cond_false (F308 64 rfl) (wp_skip ?_))
      exact J287 nn _ _ (by omega) (F308.sb) (M266.sb)
    ·refine zc (w':=w266) (zd rfl rfl rfl (F275 51 rfl)) rfl F275 rfl (.bool false) (zka _ _ _ _ rfl (F275 52 rfl) rfl (decide_eq_false h276)) fun _ F309=>?_
     refine zc (w':=w266) rfl rfl F309 rfl (.bool false) (zob rfl (F309 51 rfl) (F309 53 rfl)) fun _ F310=>?_
     refine hK268 _ _ (wp_cond_false (F310 54 rfl) (wp_exit ?_))
     simp only [Exit.then,Exit.inBlock,↓reduceIte,Nat.reduceEqDiff]
     have hS31:=hS.mono (show jn+1≤31 by omega)
     exact J46 Vv sv nv sx nx mv _ _ ⟨hS31,hX⟩ (F310.sb) (M266.sb)
   ·refine zc (w':=w266) rfl rfl F271 rfl (.bool false) (zka _ _ _ _ rfl (F271 47 rfl) (F271 49 rfl) (decide_eq_false h272)) fun _ F311=>?_
    refine zAx 4 [(51,.bool false),(52,undef),(53,undef),(54,.bool false)] [] dnil [] F311 fun _ F312=>?_
    refine hK268 _ _ (wp_cond_false (F312 54 rfl) (wp_exit ?_))
    simp only [Exit.then,Exit.inBlock,↓reduceIte,Nat.reduceEqDiff]
    have hS31:=hS.mono (show jn+1≤31 by omega)
    exact J46 Vv sv nv sx nx mv _ _ ⟨hS31,hX⟩ (F312.sb) (M266.sb)
end Go.Proofs.YtmjbnmbobocpdaaGreat
