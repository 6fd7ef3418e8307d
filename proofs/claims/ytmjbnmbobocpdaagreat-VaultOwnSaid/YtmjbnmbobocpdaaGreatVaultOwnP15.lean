/- What VaultOwn stands on, part 15. -/
import Derived.Deep.Upon
import Derived.Test.YtmjbnmbobocpdaaGreatVaultOwnP1
import Derived.Test.YtmjbnmbobocpdaaGreatVaultOwnP2
import Derived.Test.YtmjbnmbobocpdaaGreatVaultOwnP3
import Derived.Test.YtmjbnmbobocpdaaGreatVaultOwnP4
import Derived.Test.YtmjbnmbobocpdaaGreatVaultOwnP5
import Derived.Test.YtmjbnmbobocpdaaGreatVaultOwnP6
import Derived.Test.YtmjbnmbobocpdaaGreatVaultOwnP7
import Derived.Test.YtmjbnmbobocpdaaGreatVaultOwnP8
import Derived.Test.YtmjbnmbobocpdaaGreatVaultOwnP9
import Derived.Test.YtmjbnmbobocpdaaGreatVaultOwnP10
import Derived.Test.YtmjbnmbobocpdaaGreatVaultOwnP11
import Derived.Test.YtmjbnmbobocpdaaGreatVaultOwnP12
import Derived.Test.YtmjbnmbobocpdaaGreatVaultOwnP13
import Derived.Test.YtmjbnmbobocpdaaGreatVaultOwnP14
set_option maxRecDepth 100000
set_option maxHeartbeats 8000000
set_option linter.unusedVariables false
set_option linter.unusedSimpArgs false
namespace Go.Proofs.YtmjbnmbobocpdaaGreat
open Go.ChangeShapes Go.WideShapes Go.ChangeAt Go.RowKit
theorem XOk.grow {w w':World} {gx gc g:Nat} {V:VltN} {s n:Nat→Value} (h:XOk w gx gc V s n) (hb:w.grownBy w' (some g)) (hg:¬(xR gx gc V s n).fp g):XOk w' gx gc V s n:=xR_dep _ _ (Same.of_grown hb fun q hq e=>hg (by cases e;exact hq)) h
structure VTo (w w':World) (g:Nat) (fp:Nat→Prop) (V':VltN) (s' n':Nat→Value):Prop where
 rows:RowsV w' g V'.c s' n'
 fpt:∀ b,zo 18 s' n' b→fp b∨w.heap.size≤b
 blk:w'.heap[g]? = some (.cells (vltA V' s' n') 80 (0,0))
 grown:w.grownBy w' (some g)
def StepV (V V':VltN):Prop:=(∃ r,RecOk r∧V'=(putV V r).1)∨∃ nm,V'=(goneV V nm).1
theorem Mx.vmut {G:Option Nat} {w0 w:World} {R:List (Nat×Res)} {g v:Nat} {V V':VltN} {s n:Nat→Value} {fp:Nat→Prop} {f:FuncId} {args:Array Value} {x:Value} (M:Mx G w0 w R) (kg kr kp:Nat) (hg:look R kg=some (blkR g 80 (vltA V s n))) (hr:look R kr=some (zua 0 18 V.c s n)) (hp:look R kp=some (pureR (∀ b,zo 18 s n b→fp b∨v≤b))) (hv:v≤w.heap.size)
  (hc:Calls Tryz.prog f args w fun e w'=>∃ t,e=.returned t∧t=x∧∃ s' n',RowsV w' g V'.c s' n'∧(∀ b,zo 18 s' n' b→zo 18 s n b∨w.heap.size≤b)∧w'.heap[g]? = some (.cells (vltA V' s' n') 80 (0,0))∧w.grownBy w' (some g)):
  Calls Tryz.prog f args w fun e w'=>∃ t,e=.returned t∧∃ u:(Nat→Value)×(Nat→Value),Mx G w0 w' ((kp,pureR (∀ b,zo 18 u.1 u.2 b→fp b∨v≤b))::(kr,zua 0 18 V'.c u.1 u.2)::(kg,blkR g 80 (vltA V' u.1 u.2))::R)∧t=x:=
 hc.mono fun e w' ⟨t,h1,h2,s',n',h3,h4,h5,h6⟩=>⟨t,h1,(s',n'),(M.vault hg hr h6 h5 h3 h4).pure_ kp (fun b hb=>(h4 b hb).elim ((M.at_ kp _ hp:∀ b,zo 18 s n b→fp b∨v≤b) b) fun h=>.inr (Nat.le_trans hv h)),h2⟩
def setT (r:RecN) (t:Int):RecN:={ r with t:=t }
theorem setT_ok {r:RecN} (h:RecOk r) {t:Int} (ht:-9223372036854775808≤t∧t<9223372036854775808):RecOk (setT r t):=⟨h.p,ht,h.c,h.z,h.s,h.a,h.b⟩
theorem lstep_any (g gx gc:Nat) {K:Nat} (V:VltN) (s n sx nx:Nat→Value) (hi:InvV K V) (hK:K<255) (hL:LeftOk V) (b:List UInt8) (bv tv:Value) (hb:b.length≤1000) (z:Int) (hz:0≤z∧z<1073741824) (h7:z%12≤7) (w:World) (hr:RowsV w g V.c s n) (hg:w.heap[g]? = some (.cells (vltA V s n) 80 (0,0))) (hx:XOk w gx gc V sx nx) (hgx:¬(xR gx gc V sx nx).fp g) (hB:IsB w b bv) (hBg:¬bfp bv g):
  Calls Tryz.prog 16 #[(zO g),(zO gx),zI z,bv,tv] w fun e w'=>∃ t,e=.returned t∧t=.bool true∧∃ V',StepV V V'∧∃ wm s' n',VTo w wm g (zo 18 s n) V' s' n'∧XTo wm w' gx gc (zo 18 sx nx) V':=by
 obtain ⟨k,hk⟩:∃ x,z.tdiv 12=x:=⟨_,rfl⟩
 have hz12:z.tdiv 12=z / 12:=Int.tdiv_eq_ediv_of_nonneg hz.1
 obtain ⟨q,hq⟩:∃ x,z%12=x:=⟨_,rfl⟩
 have hq7:0≤q∧q≤7:=by omega
 have hkb:0≤k∧k<1073741824:=by omega
 obtain ⟨nj,hnj,hnj10⟩:∃ j:Nat,k%10=(j:Int)∧j<10:=⟨(k%10).toNat,by omega,by omega⟩
 obtain ⟨r,hr0⟩:∃ r,recK k b ((k.tdiv 23)%10).toNat=r:=⟨_,rfl⟩
 obtain ⟨ro,rp⟩:=rec6_ok _ _ hr0
 obtain ⟨Ab,cb,rfl⟩:=hB.shape
 refine zk (args:=[(zO g),(zO gx),zI z,.slice Ab b.length cb,tv]) 117 Tryz.func16 rfl rfl rfl ?_
 intro fa F
 have M:=(Mx.rowsG hr hg 1).pure_ 2 (p:=∀ b,zo 18 s n b→zo 18 s n b∨w.heap.size≤b) (fun b h=>.inl h)
 refine zT fun _ hK21=>rm rfl F fun _ F22=>hK21 _ _ (zT fun _ hK23=>rm rfl F22 fun _ F24=>zc (w':=w) rfl rfl F24 rfl (zI k) (y_quoT _ _ _ _ rfl (F24 20 rfl) rfl (by omega) (by decide) hk) fun _ F25=>?_)
 refine rm rfl F25 fun _ F26=>hK23 _ _ (zSk fun _ hK27=>zT fun _ hK28=>rm rfl F26 fun _ F29=>zc (w':=w) rfl rfl F29 rfl (zI q) (y_remI _ _ _ _ rfl (F29 22 rfl) rfl (by omega) (by omega) hq) fun _ F30=>?_)
 refine hK28 _ _ (wp_block (zSk fun K31 hK31=>?_))
 have J31:∀ (b49:Bool) (aJ:Act) (wJ:World),(b49=decide (q≤5))→Fx 117 aJ [(0,(zO g)),(1,(zO gx)),(3,.slice Ab b.length cb),(4,tv),(11,zI k),(23,zI q),(49,.bool b49)]→Mx (some g) w wJ [(1,zua 0 18 V.c s n),(0,blkR g 80 (vltA V s n)),(2,pureR (∀ b,zo 18 s n b→zo 18 s n b∨w.heap.size≤b))]→K31 aJ wJ:=by
  intro b49 a31 w31 I31 F31 M31
  refine hK31 _ _ ?_
  have h49:=I31
  cases b49
  ·have hq5:¬q≤5:=of_decide_eq_false h49.symm
   refine wp_cond_false (F31 49 rfl) (zSk fun K32 hK32=>?_)
   have J32:∀ (_u:Unit) (aJ:Act) (wJ:World),(True)→Fx 117 aJ [(0,(zO g)),(1,(zO gx)),(3,.slice Ab b.length cb),(4,tv),(11,zI k),(23,zI q),(70,.bool true)]→Mx (some g) w wJ [(1,zua 0 18 V.c s n),(0,blkR g 80 (vltA V s n)),(2,pureR (∀ b,zo 18 s n b→zo 18 s n b∨w.heap.size≤b))]→K32 aJ wJ:=by
    intro _u a32 w32 I32 F32 M32
    refine hK32 _ _ (wp_cond_true (F32 70 rfl) (zT fun _ hK33=>zh rfl rfl F32 rfl rfl (zE Tryz.func34 rfl) #[] (args0) (names6_ex w32) ?_))
    rintro _ w34 a34 ⟨gq34,rfl,hg34,hc34,b34⟩ F34
    have M34:=M32.newb b34 3 hg34 hc34
    clear M32 b34 hg34 hc34
    refine rm rfl F34 fun _ F35=>zc (w':=w34) rfl rfl F35 rfl (zI (nj:Int)) (y_remI _ _ _ _ rfl (F35 74 rfl) rfl (by omega) (by omega) hnj) fun _ F36=>?_
    refine zc (w':=w34) rfl rfl F36 rfl (zP gq34 nj) (zcc 45 (s:=1) Tryz.underlying45 (by kernel_rfl) _ _ rfl (F36 73 rfl) (F36 75 rfl) rfl hnj10 (by omega)) fun _ F37=>?_
    refine zc (w':=w34) rfl rfl F37 rfl (.string (nmK nj)) (zda _ _ rfl (F37 76 rfl) (M34.blk (k:=3) rfl) (nmA_at (show nj<10 by omega)) Tryz.underlying9 rfl) fun _ F38=>?_
    refine rm rfl F38 fun _ F39=>hK33 _ _ (zT fun _ hK40=>rm rfl F39 fun _ F41=>rm rfl F41 fun _ F42=>?_)
    obtain ⟨V2,hV2⟩:∃ x,(goneV V (nmK nj)).1=x:=⟨_,rfl⟩
    obtain ⟨z2,hz2⟩:∃ x,(goneV V (nmK nj)).2=x:=⟨_,rfl⟩
    refine zh rfl rfl F42 rfl rfl (zE Tryz.func27 rfl) #[(zO g),.string (nmK nj)] (zfa (F42 78 rfl) (F42 79 rfl)) (gone_is g V s n (nmK nj) hi (by omega) V2 z2 hV2 hz2 w34  (M34.rowsV (i:=1) (k:=0) rfl rfl (by decide)) (M34.blk (k:=0) rfl)) ?_
    rintro _ w43 a43 ⟨rfl,s43,n43,hr43,ht43,hc43,hg43⟩ F43
    have hto_:=fun b hb=>(ht43 b hb).imp id (Nat.le_trans M34.le)
    have M43:=M34.vault (kg:=0) (kr:=1) rfl rfl hg43 hc43 hr43 ht43
    clear M34 hg43 hc43 hr43 ht43
    refine rm rfl F43 fun _ F44=>rm rfl F44 fun _ F45=>zh rfl rfl F45 rfl rfl (zE Tryz.func41 rfl) #[(zO gx),.string (nmK nj)] (zfa (F45 81 rfl) (F45 82 rfl)) (hz2▸hV2▸xgone_any gx gc V sx nx hi hK hL (nmK nj) w43 (hx.grow M43.grown hgx)) ?_
    rintro _ w46 a46 ⟨rfl,hw46⟩ F46
    refine zc (w':=w46) rfl rfl F46 rfl (.bool true) (zza _ _ _ _ rfl (F46 80 rfl) (F46 83 rfl) Tryz.underlying3 (zmb rfl)) fun _ F47=>?_
    refine rm rfl F47 fun _ F48=>hK40 _ _ (wp_ret ?_)
    try simp only [Exit.then,Exit.inBlock,Exit.jump]
    exact bodyPost_ret (res1 rfl (F48.get rfl)) F48.defers ⟨_,rfl,rfl,V2,(.inr ⟨_,hV2.symm⟩),_,s43,n43,⟨M43.rowsV (i:=1) (k:=0) rfl rfl (by decide),hto_,M43.blk (k:=0) rfl,M43.grown⟩,hw46⟩
   refine zT fun _ hK49=>?_
   by_cases h50:q=6
   ·refine zc (w':=w31) rfl rfl F31 rfl (.bool true) (zza _ _ _ _ rfl (F31 23 rfl) rfl Tryz.underlying3 (zmb h50)) fun _ F51=>?_
    refine rm rfl F51 fun _ F52=>hK49 _ _ (wp_cond_true (F52 70 rfl) (wp_skip ?_))
    exact J32 () _ _ trivial (F52.sb) (M31.sb)
   ·refine zc (w':=w31) rfl rfl F31 rfl (.bool false) (zza _ _ _ _ rfl (F31 23 rfl) rfl Tryz.underlying3 (zib h50)) fun _ F53=>?_
    refine rm rfl F53 fun _ F54=>hK49 _ _ (wp_cond_false (F54 70 rfl) (zR ?_))
    by_cases h55:q=7
    ·refine zc (w':=w31) rfl rfl F54 rfl (.bool true) (zza _ _ _ _ rfl (F54 23 rfl) rfl Tryz.underlying3 (zmb h55)) fun _ F56=>?_
     refine rm rfl F56 fun _ F57=>?_
     exact J32 () _ _ trivial (F57.sb) (M31.sb)
    ·omega
  ·have hq5:q≤5:=of_decide_eq_true h49.symm
   refine wp_cond_true (F31 49 rfl) (zT fun _ hK58=>rm rfl F31 fun _ F59=>rm rfl F59 fun _ F60=>zh rfl rfl F60 rfl rfl (zE Tryz.func21 rfl) #[zI k,.slice Ab b.length cb] (zfa (F60 56 rfl) (F60 57 rfl)) (rec6_is k b (.slice Ab b.length cb) (by omega) hb r hr0 w31 (hB.grow M31.grown hBg)) ?_)
   rintro _ w61 a61 ⟨U61,rfl,is61,lo61,b61⟩ F61
   have M61:=M31.newRec b61 is61 lo61 3 4
   clear M31 b61 lo61
   refine zq rfl rfl F61 rfl M61 5 (t:=37) (c:=recA ⟨0, "".toUTF8,[],0,0,[],0,0,0⟩ ⟨zN,zN⟩) (by unfold execOp;kernel_rfl) ?_
   intro g62 a62 w62 F62 M62
   refine zt rfl rfl F62 M62 (k:=5) rfl _ _ _ rfl (F62 12 rfl) (F62 58 rfl) (recA r U61) _ rfl (zL rfl) (z6a (w:=w62) ⟨(M62.isb (k:=3) rfl),(M62.isb (k:=4) rfl)⟩) (zca rfl) (by kernel_rfl) ?_
   intro w63 M63
   refine hK58 _ _ (zSk fun _ hK64=>zT fun _ hK65=>rm rfl F62 fun _ F66=>zc (w':=w63) rfl rfl F66 rfl (zI (k%41)) (y_remI _ _ _ _ rfl (F66 59 rfl) rfl (by omega) (by omega) rfl) fun _ F67=>?_)
   by_cases h68:(k%41)=0
   ·refine zc (w':=w63) rfl rfl F67 rfl (.bool true) (zza _ _ _ _ rfl (F67 60 rfl) rfl Tryz.underlying3 (zmb h68)) fun _ F69=>?_
    refine hK65 _ _ (wp_cond_true (F69 61 rfl) (zR (zc (w':=w63) rfl rfl F69 rfl (zP g62 20) (y_fa (off:=20) rfl (F69 12 rfl) (by kernel_rfl) rfl) fun _ F70=>?_)))
    refine zt rfl rfl F70 M63 (k:=5) rfl _ _ _ rfl (F70 62 rfl) rfl (#[zI 300]) (recA ⟨r.p,r.s,r.l2,r.a,r.b,r.l5,300,r.c,r.z⟩ ⟨U61.v2,U61.v5⟩) rfl (zL rfl) (zdc _ _) (by kernel_rfl) (by kernel_rfl) ?_
    intro w71 M71
    refine hK64 _ _ (zSk fun _ hK72=>?_)
    obtain ⟨V2,hV2⟩:∃ x,(putV V (setT r 300)).1=x:=⟨_,rfl⟩
    obtain ⟨z2,hz2⟩:∃ x,(putV V (setT r 300)).2=x:=⟨_,rfl⟩
    refine zva F70 [fun vE=>vE=(zO g),fun vE=>vE=.agg (recA ⟨r.p,r.s,r.l2,r.a,r.b,r.l5,300,r.c,r.z⟩ ⟨U61.v2,U61.v5⟩),fun vE=>vE=zI z2,fun vE=>vE=(zO gx),fun vE=>vE=.agg (recA ⟨r.p,r.s,r.l2,r.a,r.b,r.l5,300,r.c,r.z⟩ ⟨U61.v2,U61.v5⟩)] (JQ (some g) w (fun SV=>True) (fun (xJ:(Nat→Value)×(Nat→Value)) SV pV=>[(1,zha (SV 2) (zua 0 18 V2.c xJ.1 xJ.2) (zua 0 18 V.c s n)),(0,zha (SV 2) (blkR g 80 (vltA V2 xJ.1 xJ.2)) (blkR g 80 (vltA V s n))),(2,zha (SV 2) (pureR (∀ b,zo 18 xJ.1 xJ.2 b→zo 18 s n b∨w.heap.size≤b)) (pureR (∀ b,zo 18 s n b→zo 18 s n b∨w.heap.size≤b))),(3,bytR r.l2 U61.v2),(4,bytR r.l5 U61.v5),(5,blkR g62 37 (recA ⟨r.p,r.s,r.l2,r.a,r.b,r.l5,300,r.c,r.z⟩ ⟨U61.v2,U61.v5⟩))])) 5 rfl (by kernel_rfl) rfl ⟨trivial,trivial,trivial,trivial,trivial,trivial⟩ (fun p=>JQ.mk trivial (s,n) ((M71.step (zsa _)).sub ⟨rfl,rfl,rfl,rfl,rfl,rfl,trivial⟩)) ⟨?_,?_,?_,?_,?_,trivial⟩ ?_
    ·intro ua uw SV pV M0 hk hn hd
     obtain ⟨HP,xJ,M⟩:=M0
     replace M:Mx (some g) w uw _:=M
     have e0:ua.eval (.tmp 0)=(zO g):=(show ua.eval (.tmp 0)=_ from hd 0 (by decide)).trans (F70 0 rfl)
     exact ze rfl (zO g) (zla _ (.inl rfl) e0) rfl ((JQ.mk trivial xJ (M.sb)))
    ·intro ua uw SV pV M0 hk hn hd
     obtain ⟨HP,xJ,M⟩:=M0
     replace M:Mx (some g) w uw _:=M
     have e12:ua.eval (.tmp 12)=(zO g62):=(show ua.eval (.tmp 12)=_ from hd 12 (by decide)).trans (F70 12 rfl)
     exact ze rfl _ (zjb _ _ rfl e12 (M.blk (k:=5) rfl) (recA ⟨r.p,r.s,r.l2,r.a,r.b,r.l5,300,r.c,r.z⟩ ⟨U61.v2,U61.v5⟩) (znb rfl) Tryz.underlying37 rfl (by kernel_rfl)) rfl ((JQ.mk trivial xJ (M.sb)))
    ·intro ua uw SV pV M0 hk hn hd
     obtain ⟨HP,xJ,M⟩:=M0
     replace M:Mx (some g) w uw _:=M
     have e63:ua.eval (.tmp 63)=(zO g):=zQ1 (hd 63 (by decide))
     have e64:ua.eval (.tmp 64)=.agg (recA ⟨r.p,r.s,r.l2,r.a,r.b,r.l5,300,r.c,r.z⟩ ⟨U61.v2,U61.v5⟩):=zQ1 (hd 64 (by decide))
     exact z9a rfl rfl #[(zO g),.agg (recA ⟨r.p,r.s,r.l2,r.a,r.b,r.l5,300,r.c,r.z⟩ ⟨U61.v2,U61.v5⟩)] (zfa e63 e64) (zE Tryz.func22 rfl) ((Mx.vmut M 0 1 2 (zea hk rfl) (zea hk rfl) (zea hk rfl) M.le (put_is g V s n (setT r 300) ⟨U61.v2,U61.v5⟩ (setT_ok ro (by decide)) hi (by omega) V2 z2 hV2 hz2 uw ⟨M.isb (k:=3) rfl,M.isb (k:=4) rfl⟩ ⟨(fun h=>M.dis 0 3 _ _ (zea hk rfl) rfl (by decide) rfl _ rfl h),(fun h=>M.dis 0 4 _ _ (zea hk rfl) rfl (by decide) rfl _ rfl h)⟩ (M.rowsV (i:=1) (k:=0) (zea hk rfl) (zea hk rfl) (by decide)) (M.blk (k:=0) (zea hk rfl)))).mono fun e w2 h=>(by obtain ⟨t,h1,u2_,N,h2⟩:=h;exact ⟨t,h1,h2,(JQ.mk trivial u2_ (N.sb))⟩))
    ·intro ua uw SV pV M0 hk hn hd
     obtain ⟨HP,xJ,M⟩:=M0
     replace M:Mx (some g) w uw _:=M
     have e1:ua.eval (.tmp 1)=(zO gx):=(show ua.eval (.tmp 1)=_ from hd 1 (by decide)).trans (F70 1 rfl)
     exact ze rfl (zO gx) (zla _ (.inl rfl) e1) rfl ((JQ.mk trivial xJ (M.sb)))
    ·intro ua uw SV pV M0 hk hn hd
     obtain ⟨HP,xJ,M⟩:=M0
     replace M:Mx (some g) w uw _:=M
     have e12:ua.eval (.tmp 12)=(zO g62):=(show ua.eval (.tmp 12)=_ from hd 12 (by decide)).trans (F70 12 rfl)
     exact ze rfl _ (zjb _ _ rfl e12 (M.blk (k:=5) rfl) (recA ⟨r.p,r.s,r.l2,r.a,r.b,r.l5,300,r.c,r.z⟩ ⟨U61.v2,U61.v5⟩) (znb rfl) Tryz.underlying37 rfl (by kernel_rfl)) rfl ((JQ.mk trivial xJ (M.sb)))
    intro p73 a73 w73 M73 G73 y73
    obtain ⟨-,-,q2,q3,q4,-⟩:=y73
    have r2:p73 2=zI z2:=q2
    have r3:p73 3=(zO gx):=q3
    have r4:p73 4=.agg (recA ⟨r.p,r.s,r.l2,r.a,r.b,r.l5,300,r.c,r.z⟩ ⟨U61.v2,U61.v5⟩):=q4
    obtain ⟨-,xJ73,M73⟩:=M73
    replace M73:Mx _ _ w73 [(1,zha true (zua 0 18 V2.c xJ73.1 xJ73.2) (zua 0 18 V.c s n)),(0,zha true (blkR g 80 (vltA V2 xJ73.1 xJ73.2)) (blkR g 80 (vltA V s n))),(2,zha true (pureR (∀ b,zo 18 xJ73.1 xJ73.2 b→zo 18 s n b∨w.heap.size≤b)) (pureR (∀ b,zo 18 s n b→zo 18 s n b∨w.heap.size≤b))),(3,bytR r.l2 U61.v2),(4,bytR r.l5 U61.v5),(5,blkR g62 37 (recA ⟨r.p,r.s,r.l2,r.a,r.b,r.l5,300,r.c,r.z⟩ ⟨U61.v2,U61.v5⟩))]:=M73
    simp only [List.take,layV,Nat.zero_add,Nat.reduceAdd,r2,r3,r4] at G73
    refine zh rfl rfl G73 rfl rfl (zE Tryz.func23 rfl) #[(zO gx),.agg (recA ⟨r.p,r.s,r.l2,r.a,r.b,r.l5,300,r.c,r.z⟩ ⟨U61.v2,U61.v5⟩)] (zfa (G73 66 rfl) (G73 67 rfl)) (hz2▸hV2▸xput_any gx gc V sx nx hi hK hL (setT r 300) ⟨U61.v2,U61.v5⟩ (setT_ok ro (by decide)) w73 (hx.grow M73.grown hgx) ⟨(M73.isb (k:=3) rfl),(M73.isb (k:=4) rfl)⟩) ?_
    rintro _ w74 a74 ⟨rfl,hw74⟩ F74
    refine zc (w':=w74) rfl rfl F74 rfl (.bool true) (zza _ _ _ _ rfl (F74 65 rfl) (F74 68 rfl) Tryz.underlying3 (zmb rfl)) fun _ F75=>?_
    refine rm rfl F75 fun _ F76=>hK72 _ _ (wp_ret ?_)
    try simp only [Exit.then,Exit.inBlock,Exit.jump]
    exact bodyPost_ret (res1 rfl (F76.get rfl)) F76.defers ⟨_,rfl,rfl,V2,(.inl ⟨(setT r 300),(setT_ok ro (by decide)),hV2.symm⟩),_,xJ73.1,xJ73.2,⟨M73.rowsV (i:=1) (k:=0) rfl rfl (by decide),(M73.at_ 2 _ rfl),M73.blk (k:=0) rfl,M73.grown⟩,hw74⟩
   ·refine zc (w':=w63) rfl rfl F67 rfl (.bool false) (zza _ _ _ _ rfl (F67 60 rfl) rfl Tryz.underlying3 (zib h68)) fun _ F77=>?_
    refine hK65 _ _ (wp_cond_false (F77 61 rfl) (wp_skip (hK64 _ _ (zSk fun _ hK78=>?_))))
    obtain ⟨V2,hV2⟩:∃ x,(putV V r).1=x:=⟨_,rfl⟩
    obtain ⟨z2,hz2⟩:∃ x,(putV V r).2=x:=⟨_,rfl⟩
    refine zva F77 [fun vE=>vE=(zO g),fun vE=>vE=.agg (recA r U61),fun vE=>vE=zI z2,fun vE=>vE=(zO gx),fun vE=>vE=.agg (recA r U61)] (JQ (some g) w (fun SV=>True) (fun (xJ:(Nat→Value)×(Nat→Value)) SV pV=>[(1,zha (SV 2) (zua 0 18 V2.c xJ.1 xJ.2) (zua 0 18 V.c s n)),(0,zha (SV 2) (blkR g 80 (vltA V2 xJ.1 xJ.2)) (blkR g 80 (vltA V s n))),(2,zha (SV 2) (pureR (∀ b,zo 18 xJ.1 xJ.2 b→zo 18 s n b∨w.heap.size≤b)) (pureR (∀ b,zo 18 s n b→zo 18 s n b∨w.heap.size≤b))),(3,bytR r.l2 U61.v2),(4,bytR r.l5 U61.v5),(5,blkR g62 37 (recA r U61))])) 5 rfl (by kernel_rfl) rfl ⟨trivial,trivial,trivial,trivial,trivial,trivial⟩ (fun p=>JQ.mk trivial (s,n) ((M63.step (zsa _)).sub ⟨rfl,rfl,rfl,rfl,rfl,rfl,trivial⟩)) ⟨?_,?_,?_,?_,?_,trivial⟩ ?_
    ·intro ua uw SV pV M0 hk hn hd
     obtain ⟨HP,xJ,M⟩:=M0
     replace M:Mx (some g) w uw _:=M
     have e0:ua.eval (.tmp 0)=(zO g):=(show ua.eval (.tmp 0)=_ from hd 0 (by decide)).trans (F77 0 rfl)
     exact ze rfl (zO g) (zla _ (.inl rfl) e0) rfl ((JQ.mk trivial xJ (M.sb)))
    ·intro ua uw SV pV M0 hk hn hd
     obtain ⟨HP,xJ,M⟩:=M0
     replace M:Mx (some g) w uw _:=M
     have e12:ua.eval (.tmp 12)=(zO g62):=(show ua.eval (.tmp 12)=_ from hd 12 (by decide)).trans (F77 12 rfl)
     exact ze rfl _ (zjb _ _ rfl e12 (M.blk (k:=5) rfl) (recA r U61) (znb rfl) Tryz.underlying37 rfl (by kernel_rfl)) rfl ((JQ.mk trivial xJ (M.sb)))
    ·intro ua uw SV pV M0 hk hn hd
     obtain ⟨HP,xJ,M⟩:=M0
     replace M:Mx (some g) w uw _:=M
     have e63:ua.eval (.tmp 63)=(zO g):=zQ1 (hd 63 (by decide))
     have e64:ua.eval (.tmp 64)=.agg (recA r U61):=zQ1 (hd 64 (by decide))
     exact z9a rfl rfl #[(zO g),.agg (recA r U61)] (zfa e63 e64) (zE Tryz.func22 rfl) ((Mx.vmut M 0 1 2 (zea hk rfl) (zea hk rfl) (zea hk rfl) M.le (put_is g V s n r ⟨U61.v2,U61.v5⟩ ro hi (by omega) V2 z2 hV2 hz2 uw ⟨M.isb (k:=3) rfl,M.isb (k:=4) rfl⟩ ⟨(fun h=>M.dis 0 3 _ _ (zea hk rfl) rfl (by decide) rfl _ rfl h),(fun h=>M.dis 0 4 _ _ (zea hk rfl) rfl (by decide) rfl _ rfl h)⟩ (M.rowsV (i:=1) (k:=0) (zea hk rfl) (zea hk rfl) (by decide)) (M.blk (k:=0) (zea hk rfl)))).mono fun e w2 h=>(by obtain ⟨t,h1,u2_,N,h2⟩:=h;exact ⟨t,h1,h2,(JQ.mk trivial u2_ (N.sb))⟩))
    ·intro ua uw SV pV M0 hk hn hd
     obtain ⟨HP,xJ,M⟩:=M0
     replace M:Mx (some g) w uw _:=M
     have e1:ua.eval (.tmp 1)=(zO gx):=(show ua.eval (.tmp 1)=_ from hd 1 (by decide)).trans (F77 1 rfl)
     exact ze rfl (zO gx) (zla _ (.inl rfl) e1) rfl ((JQ.mk trivial xJ (M.sb)))
    ·intro ua uw SV pV M0 hk hn hd
     obtain ⟨HP,xJ,M⟩:=M0
     replace M:Mx (some g) w uw _:=M
     have e12:ua.eval (.tmp 12)=(zO g62):=(show ua.eval (.tmp 12)=_ from hd 12 (by decide)).trans (F77 12 rfl)
     exact ze rfl _ (zjb _ _ rfl e12 (M.blk (k:=5) rfl) (recA r U61) (znb rfl) Tryz.underlying37 rfl (by kernel_rfl)) rfl ((JQ.mk trivial xJ (M.sb)))
    intro p79 a79 w79 M79 G79 y79
    obtain ⟨-,-,q2,q3,q4,-⟩:=y79
    have r2:p79 2=zI z2:=q2
    have r3:p79 3=(zO gx):=q3
    have r4:p79 4=.agg (recA r U61):=q4
    obtain ⟨-,xJ79,M79⟩:=M79
    replace M79:Mx _ _ w79 [(1,zha true (zua 0 18 V2.c xJ79.1 xJ79.2) (zua 0 18 V.c s n)),(0,zha true (blkR g 80 (vltA V2 xJ79.1 xJ79.2)) (blkR g 80 (vltA V s n))),(2,zha true (pureR (∀ b,zo 18 xJ79.1 xJ79.2 b→zo 18 s n b∨w.heap.size≤b)) (pureR (∀ b,zo 18 s n b→zo 18 s n b∨w.heap.size≤b))),(3,bytR r.l2 U61.v2),(4,bytR r.l5 U61.v5),(5,blkR g62 37 (recA r U61))]:=M79
    simp only [List.take,layV,Nat.zero_add,Nat.reduceAdd,r2,r3,r4] at G79
    refine zh rfl rfl G79 rfl rfl (zE Tryz.func23 rfl) #[(zO gx),.agg (recA r U61)] (zfa (G79 66 rfl) (G79 67 rfl)) (hz2▸hV2▸xput_any gx gc V sx nx hi hK hL r ⟨U61.v2,U61.v5⟩ ro w79 (hx.grow M79.grown hgx) ⟨(M79.isb (k:=3) rfl),(M79.isb (k:=4) rfl)⟩) ?_
    rintro _ w80 a80 ⟨rfl,hw80⟩ F80
    refine zc (w':=w80) rfl rfl F80 rfl (.bool true) (zza _ _ _ _ rfl (F80 65 rfl) (F80 68 rfl) Tryz.underlying3 (zmb rfl)) fun _ F81=>?_
    refine rm rfl F81 fun _ F82=>hK78 _ _ (wp_ret ?_)
    try simp only [Exit.then,Exit.inBlock,Exit.jump]
    exact bodyPost_ret (res1 rfl (F82.get rfl)) F82.defers ⟨_,rfl,rfl,V2,(.inl ⟨r,ro,hV2.symm⟩),_,xJ79.1,xJ79.2,⟨M79.rowsV (i:=1) (k:=0) rfl rfl (by decide),(M79.at_ 2 _ rfl),M79.blk (k:=0) rfl,M79.grown⟩,hw80⟩
 refine zT fun _ hK83=>?_
 by_cases h84:q=0
 ·refine zc (w':=w) rfl rfl F30 rfl (.bool true) (zza _ _ _ _ rfl (F30 23 rfl) rfl Tryz.underlying3 (zmb h84)) fun _ F85=>?_
  refine rm rfl F85 fun _ F86=>hK83 _ _ (wp_cond_true (F86 49 rfl) (wp_skip ?_))
  exact J31 true _ _ (decide_eq_true (show q≤5 by omega)).symm (F86.sb) (M.sb)
 ·refine zc (w':=w) rfl rfl F30 rfl (.bool false) (zza _ _ _ _ rfl (F30 23 rfl) rfl Tryz.underlying3 (zib h84)) fun _ F87=>?_
  refine rm rfl F87 fun _ F88=>hK83 _ _ (wp_cond_false (F88 49 rfl) (zT fun _ hK89=>?_))
  by_cases h90:q=1
  ·refine zc (w':=w) rfl rfl F88 rfl (.bool true) (zza _ _ _ _ rfl (F88 23 rfl) rfl Tryz.underlying3 (zmb h90)) fun _ F91=>?_
   refine rm rfl F91 fun _ F92=>hK89 _ _ (wp_cond_true (F92 49 rfl) (wp_skip ?_))
   exact J31 true _ _ (decide_eq_true (show q≤5 by omega)).symm (F92.sb) (M.sb)
  ·refine zc (w':=w) rfl rfl F88 rfl (.bool false) (zza _ _ _ _ rfl (F88 23 rfl) rfl Tryz.underlying3 (zib h90)) fun _ F93=>?_
   refine rm rfl F93 fun _ F94=>hK89 _ _ (wp_cond_false (F94 49 rfl) (zT fun _ hK95=>?_))
   by_cases h96:q=2
   ·refine zc (w':=w) rfl rfl F94 rfl (.bool true) (zza _ _ _ _ rfl (F94 23 rfl) rfl Tryz.underlying3 (zmb h96)) fun _ F97=>?_
    refine rm rfl F97 fun _ F98=>hK95 _ _ (wp_cond_true (F98 49 rfl) (wp_skip ?_))
    exact J31 true _ _ (decide_eq_true (show q≤5 by omega)).symm (F98.sb) (M.sb)
   ·refine zc (w':=w) rfl rfl F94 rfl (.bool false) (zza _ _ _ _ rfl (F94 23 rfl) rfl Tryz.underlying3 (zib h96)) fun _ F99=>?_
    refine rm rfl F99 fun _ F100=>hK95 _ _ (wp_cond_false (F100 49 rfl) (zT fun _ hK101=>?_))
    by_cases h102:q=3
    ·refine zc (w':=w) rfl rfl F100 rfl (.bool true) (zza _ _ _ _ rfl (F100 23 rfl) rfl Tryz.underlying3 (zmb h102)) fun _ F103=>?_
     refine rm rfl F103 fun _ F104=>hK101 _ _ (wp_cond_true (F104 49 rfl) (wp_skip ?_))
     exact J31 true _ _ (decide_eq_true (show q≤5 by omega)).symm (F104.sb) (M.sb)
    ·refine zc (w':=w) rfl rfl F100 rfl (.bool false) (zza _ _ _ _ rfl (F100 23 rfl) rfl Tryz.underlying3 (zib h102)) fun _ F105=>?_
     refine rm rfl F105 fun _ F106=>hK101 _ _ (wp_cond_false (F106 49 rfl) (zT fun _ hK107=>?_))
     by_cases h108:q=4
     ·refine zc (w':=w) rfl rfl F106 rfl (.bool true) (zza _ _ _ _ rfl (F106 23 rfl) rfl Tryz.underlying3 (zmb h108)) fun _ F109=>?_
      refine rm rfl F109 fun _ F110=>hK107 _ _ (wp_cond_true (F110 49 rfl) (wp_skip ?_))
      exact J31 true _ _ (decide_eq_true (show q≤5 by omega)).symm (F110.sb) (M.sb)
     ·refine zc (w':=w) rfl rfl F106 rfl (.bool false) (zza _ _ _ _ rfl (F106 23 rfl) rfl Tryz.underlying3 (zib h108)) fun _ F111=>?_
      refine rm rfl F111 fun _ F112=>hK107 _ _ (wp_cond_false (F112 49 rfl) (zR ?_))
      by_cases h113:q=5
      ·refine zc (w':=w) rfl rfl F112 rfl (.bool true) (zza _ _ _ _ rfl (F112 23 rfl) rfl Tryz.underlying3 (zmb h113)) fun _ F114=>?_
       refine rm rfl F114 fun _ F115=>?_
       exact J31 true _ _ (decide_eq_true (show q≤5 by omega)).symm (F115.sb) (M.sb)
      ·refine zc (w':=w) rfl rfl F112 rfl (.bool false) (zza _ _ _ _ rfl (F112 23 rfl) rfl Tryz.underlying3 (zib h113)) fun _ F116=>?_
       refine rm rfl F116 fun _ F117=>?_
       exact J31 false _ _ (decide_eq_false (show ¬q≤5 by omega)).symm (F117.sb) (M.sb)
section
open Go.Shelf
def CleanC (i:Nat) (c:CelN):Prop:=c.f=false∧c.n=[]∧(c.s=[]∨∃ x8:UInt8,c.s[8]? = some x8∧c.s.length=25+x8.toNat∧c.s.drop (c.s.length-16)=sumY (outF (macW [] [cellB,zy (i:Int),c.s.take (c.s.length-16)])))
def CleanV (V:VltN):Prop:=∀ i,CleanC i (V.c i)
structure StOk (K:Nat) (V:VltN):Prop where
 inv:InvV K V
 era:EraV V 1
 fl:V.fl=false
 dd:V.dd=false
 cl:CleanV V
theorem StOk.left {K:Nat} {V:VltN} (h:StOk K V):LeftOk V:=fun e=>by rw [h.fl] at e;cases e
theorem StOk.mono {K K':Nat} {V:VltN} (h:StOk K V) (hK:K≤K'):StOk K' V:=⟨h.inv.mono hK,h.era,h.fl,h.dd,h.cl⟩
theorem xnew_is (V:VltN) (h:ageW zeroV=V) (w:World):Calls Tryz.prog 15 #[] w fun e w'=>∃ t,e=.returned t∧∃ gx gc s n,t=(zO gx)∧XOk w' gx gc V s n∧w.heap.size≤gx∧w.heap.size≤gc∧(∀ b,zo 18 s n b→w.heap.size≤b)∧Below w.heap.size w w':=by
 subst h;exact xnew_any w
end
structure CelsM (w:World) (g:Nat) (c:Nat→CelN) (s n:Nat→Value):Prop where
 blk:w.heap[g]? = some (.cells (celA c s n) 63 (0,0))
 hs:∀ i,i<18→IsB w (c i).s (s i)
 hn:∀ i,i<18→IsB w (c i).n (n i)
theorem str_neq {l:List UInt8}:(!decide ((⟨l.toArray⟩:ByteArray).toList=(⟨l.toArray⟩:ByteArray).toList))=false:=by simp
theorem xcells_any (ga gb:Nat) (c:Nat→CelN) (sa na sb nb:Nat→Value) (w:World) (h1:CelsM w ga c sa na) (h2:CelsM w gb c sb nb):
  Calls Tryz.prog 38 #[.slice (some ⟨ga,0,none⟩) 18 18,.slice (some ⟨gb,0,none⟩) 18 18] w fun e w'=>e=.returned (.bool true)∧Below w.heap.size w w':=by
 refine zk (args:=[.slice (some ⟨ga,0,none⟩) 18 18,.slice (some ⟨gb,0,none⟩) 18 18]) 58 Tryz.func38 rfl rfl rfl ?_
 intro fa F
 have M:=Mx.start w
 replace M:=M.argO 0 h1.blk (fun b e=>by cases e)
 replace M:=M.argO 1 h2.blk (fun b e=>by cases e)
 refine zT fun _ hK1=>rm rfl F fun _ F2=>hK1 _ _ (zSk fun _ hK3=>zT fun _ hK4=>rm rfl F2 fun _ F5=>zc (w':=w) rfl rfl F5 rfl (zI 18) (y_lnG 49 Tryz.underlying49 _ rfl (F5 6 rfl) rfl) fun _ F6=>?_)
 refine rm rfl F6 fun _ F7=>zc (w':=w) rfl rfl F7 rfl (zI 18) (y_lnG 49 Tryz.underlying49 _ rfl (F7 8 rfl) rfl) fun _ F8=>?_
 refine zc (w':=w) rfl rfl F8 rfl (.bool false) (y_neI _ _ _ _ rfl (F8 7 rfl) (F8 9 rfl) Tryz.underlying3 (y_bneF (by decide))) fun _ F9=>?_
 refine hK4 _ _ (wp_cond_false (F9 10 rfl) (wp_skip (hK3 _ _ (zSk fun _ hK10=>zT fun _ hK11=>rm rfl F9 fun _ F12=>hK11 _ _ (wp_block (zeb (α:=Nat) (n:=58) (G:=none) (w0:=w) (fun x=>[(0,.slice (some ⟨ga,0,none⟩) 18 18),(1,.slice (some ⟨gb,0,none⟩) 18 18),(6,.slice (some ⟨ga,0,none⟩) 18 18),(7,zI 18),(8,.slice (some ⟨gb,0,none⟩) 18 18),(9,zI 18),(10,.bool false),(5,zI (x:Int))]) (fun x=>[(0,blkO ga 63 (celA c sa na)),(1,blkO gb 63 (celA c sb nb))]) (fun k x=>k=(18-x)∧(x≤18)) _ 0 ⟨rfl,(Nat.zero_le _)⟩ (F12.sb) (M.sb) ?_))))))
 rintro k13 jn a13 w13 K13 ⟨ek13,I13⟩ F13 M13 hK13
 replace F13:Fx 58 a13 [(0,.slice (some ⟨ga,0,none⟩) 18 18),(1,.slice (some ⟨gb,0,none⟩) 18 18),(6,.slice (some ⟨ga,0,none⟩) 18 18),(7,zI 18),(8,.slice (some ⟨gb,0,none⟩) 18 18),(9,zI 18),(10,.bool false),(5,zI (jn:Int))]:=F13
 replace M13:Mx _ _ w13 [(0,blkO ga 63 (celA c sa na)),(1,blkO gb 63 (celA c sb nb))]:=M13
 replace I13:jn≤18:=I13
 replace ek13:k13=(18-jn):=ek13
 by_cases hlt:jn<18
 ·obtain ⟨cf,hcf⟩:∃ x,(c jn).f=x:=⟨_,rfl⟩
  refine zSk fun _ hK14=>zT fun _ hK15=>rm rfl F13 fun _ F16=>rm rfl F16 fun _ F17=>zc (w':=w13) rfl rfl F17 rfl (zI 18) (y_lnG 49 Tryz.underlying49 _ rfl (F17 12 rfl) rfl) fun _ F18=>?_
  refine zc (w':=w13) rfl rfl F18 rfl (.bool true) (zka _ _ _ _ rfl (F18 11 rfl) (F18 13 rfl) (decide_eq_true (show (jn:Int)<18 by omega))) fun _ F19=>?_
  refine hK15 _ _ (wp_cond_true (F19 14 rfl) (wp_skip (hK14 _ _ (zSk fun _ hK20=>wp_block (zSk fun _ hK21=>?_)))))
  refine z4a F19 (SK [.inl (.slice (some ⟨ga,0,none⟩) 18 18),.inl (zI (jn:Int)),.inl (zP ga (3*jn)),.inl (zP ga (3*jn+2)),.inl (.bool cf),.inl (.slice (some ⟨gb,0,none⟩) 18 18),.inl (zI (jn:Int)),.inl (zP gb (3*jn)),.inl (zP gb (3*jn+2)),.inl (.bool cf),.inl (.bool false),.inl (.bool false),.inl (.slice (some ⟨ga,0,none⟩) 18 18),.inl (zI (jn:Int)),.inl (zP ga (3*jn)),.inl (zP ga (3*jn+0)),.inl ((sa jn)),.inl (.string (⟨((c jn).s).toArray⟩)),.inl (.slice (some ⟨gb,0,none⟩) 18 18),.inl (zI (jn:Int)),.inl (zP gb (3*jn)),.inl (zP gb (3*jn+0)),.inl ((sb jn)),.inl (.string (⟨((c jn).s).toArray⟩)),.inl (.bool false),.inl (.bool false),.inl (.bool false),.inl (.slice (some ⟨ga,0,none⟩) 18 18),.inl (zI (jn:Int)),.inl (zP ga (3*jn)),.inl (zP ga (3*jn+1)),.inl ((na jn)),.inl (.string (⟨((c jn).n).toArray⟩)),.inl (.slice (some ⟨gb,0,none⟩) 18 18),.inl (zI (jn:Int)),.inl (zP gb (3*jn)),.inl (zP gb (3*jn+1)),.inl ((nb jn)),.inl (.string (⟨((c jn).n).toArray⟩)),.inl (.bool false),.inl (.bool false)]) 41 rfl (by kernel_rfl) ⟨hop0 F19,hop0 F19,hopR F19 [(17,.slice (some ⟨ga,0,none⟩) 18 18),(18,zI (jn:Int))] fun ua uw hb ⟨e17,e18,_⟩=>(zcc 49 (s:=3) Tryz.underlying49 (by kernel_rfl) _ _ rfl e17 e18 rfl hlt ((Nat.zero_add _).trans (Nat.mul_comm jn 3))),hopR F19 [(19,(zP ga (3*jn)))] fun ua uw hb ⟨e19,_⟩=>(y_fa (off:=2) rfl e19 (by kernel_rfl) rfl),hopR F19 [(20,(zP ga (3*jn+2)))] fun ua uw hb ⟨e20,_⟩=>(zda _ _ rfl e20 ((M13.step hb).roB (k:=0) rfl) (hcf▸cel_f c sa na hlt) Tryz.underlying4 rfl),hop0 F19,hop0 F19,hopR F19 [(22,.slice (some ⟨gb,0,none⟩) 18 18),(23,zI (jn:Int))] fun ua uw hb ⟨e22,e23,_⟩=>(zcc 49 (s:=3) Tryz.underlying49 (by kernel_rfl) _ _ rfl e22 e23 rfl hlt ((Nat.zero_add _).trans (Nat.mul_comm jn 3))),hopR F19 [(24,(zP gb (3*jn)))] fun ua uw hb ⟨e24,_⟩=>(y_fa (off:=2) rfl e24 (by kernel_rfl) rfl),hopR F19 [(25,(zP gb (3*jn+2)))] fun ua uw hb ⟨e25,_⟩=>(zda _ _ rfl e25 ((M13.step hb).roB (k:=1) rfl) (hcf▸cel_f c sb nb hlt) Tryz.underlying4 rfl),hopR F19 [(21,.bool cf),(26,.bool cf)] (v:=.bool false) fun ua uw hb ⟨e21,e26,_⟩=>(y_neB _ _ rfl e21 e26 (by cases cf <;> rfl)),hop0 F19,hop0 F19,hop0 F19,hopR F19 [(29,.slice (some ⟨ga,0,none⟩) 18 18),(30,zI (jn:Int))] fun ua uw hb ⟨e29,e30,_⟩=>(zcc 49 (s:=3) Tryz.underlying49 (by kernel_rfl) _ _ rfl e29 e30 rfl hlt ((Nat.zero_add _).trans (Nat.mul_comm jn 3))),hopR F19 [(31,(zP ga (3*jn)))] fun ua uw hb ⟨e31,_⟩=>(y_fa (off:=0) rfl e31 (by kernel_rfl) rfl),hopR F19 [(32,(zP ga (3*jn+0)))] fun ua uw hb ⟨e32,_⟩=>(zda _ _ rfl e32 ((M13.step hb).roB (k:=0) rfl) (cel_s c sa na hlt) Tryz.underlying23 rfl),hopR F19 [(33,(sa jn))] (v:=.string (⟨((c jn).s).toArray⟩)) fun ua uw hb ⟨e33,_⟩=>(y_str _ rfl e33 ((h1.hs jn hlt).step (M13.step hb).below)),hop0 F19,hop0 F19,hopR F19 [(35,.slice (some ⟨gb,0,none⟩) 18 18),(36,zI (jn:Int))] fun ua uw hb ⟨e35,e36,_⟩=>(zcc 49 (s:=3) Tryz.underlying49 (by kernel_rfl) _ _ rfl e35 e36 rfl hlt ((Nat.zero_add _).trans (Nat.mul_comm jn 3))),hopR F19 [(37,(zP gb (3*jn)))] fun ua uw hb ⟨e37,_⟩=>(y_fa (off:=0) rfl e37 (by kernel_rfl) rfl),hopR F19 [(38,(zP gb (3*jn+0)))] fun ua uw hb ⟨e38,_⟩=>(zda _ _ rfl e38 ((M13.step hb).roB (k:=1) rfl) (cel_s c sb nb hlt) Tryz.underlying23 rfl),hopR F19 [(39,(sb jn))] (v:=.string (⟨((c jn).s).toArray⟩)) fun ua uw hb ⟨e39,_⟩=>(y_str _ rfl e39 ((h2.hs jn hlt).step (M13.step hb).below)),hopR F19 [(34,.string (⟨((c jn).s).toArray⟩)),(40,.string (⟨((c jn).s).toArray⟩))] (v:=.bool false) fun ua uw hb ⟨e34,e40,_⟩=>(y_neS _ _ _ rfl e34 e40 str_neq),hop0 F19,hop0 F19,hop0 F19,hop0 F19,hopR F19 [(44,.slice (some ⟨ga,0,none⟩) 18 18),(45,zI (jn:Int))] fun ua uw hb ⟨e44,e45,_⟩=>(zcc 49 (s:=3) Tryz.underlying49 (by kernel_rfl) _ _ rfl e44 e45 rfl hlt ((Nat.zero_add _).trans (Nat.mul_comm jn 3))),hopR F19 [(46,(zP ga (3*jn)))] fun ua uw hb ⟨e46,_⟩=>(y_fa (off:=1) rfl e46 (by kernel_rfl) rfl),hopR F19 [(47,(zP ga (3*jn+1)))] fun ua uw hb ⟨e47,_⟩=>(zda _ _ rfl e47 ((M13.step hb).roB (k:=0) rfl) (cel_n c sa na hlt) Tryz.underlying23 rfl),hopR F19 [(48,(na jn))] (v:=.string (⟨((c jn).n).toArray⟩)) fun ua uw hb ⟨e48,_⟩=>(y_str _ rfl e48 ((h1.hn jn hlt).step (M13.step hb).below)),hop0 F19,hop0 F19,hopR F19 [(50,.slice (some ⟨gb,0,none⟩) 18 18),(51,zI (jn:Int))] fun ua uw hb ⟨e50,e51,_⟩=>(zcc 49 (s:=3) Tryz.underlying49 (by kernel_rfl) _ _ rfl e50 e51 rfl hlt ((Nat.zero_add _).trans (Nat.mul_comm jn 3))),hopR F19 [(52,(zP gb (3*jn)))] fun ua uw hb ⟨e52,_⟩=>(y_fa (off:=1) rfl e52 (by kernel_rfl) rfl),hopR F19 [(53,(zP gb (3*jn+1)))] fun ua uw hb ⟨e53,_⟩=>(zda _ _ rfl e53 ((M13.step hb).roB (k:=1) rfl) (cel_n c sb nb hlt) Tryz.underlying23 rfl),hopR F19 [(54,(nb jn))] (v:=.string (⟨((c jn).n).toArray⟩)) fun ua uw hb ⟨e54,_⟩=>(y_str _ rfl e54 ((h2.hn jn hlt).step (M13.step hb).below)),hopR F19 [(49,.string (⟨((c jn).n).toArray⟩)),(55,.string (⟨((c jn).n).toArray⟩))] (v:=.bool false) fun ua uw hb ⟨e49,e55,_⟩=>(y_neS _ _ _ rfl e49 e55 str_neq),hop0 F19,trivial⟩ ?_
  intro p23 a23 w23 b23 G23 y23
  obtain ⟨-,-,-,-,-,-,-,-,-,-,-,-,-,-,-,-,-,-,-,-,-,-,-,-,-,-,-,-,-,-,-,-,-,-,-,-,-,-,-,-,q40,-⟩:=y23
  have r40:p23 40=.bool false:=q40 (by decide)
  simp only [List.take,layV,Nat.zero_add,Nat.reduceAdd,r40] at G23
  have M23:=M13.kc b23
  clear F19 M13 r40 q40
  refine hK21 _ _ (wp_cond_false (G23 57 rfl) (wp_skip (hK20 _ _ (zR (rm rfl G23 fun _ F24=>zc (w':=w23) rfl rfl F24 rfl (zI ((jn+1:Nat):Int)) (zoa _ _ _ _ rfl (F24 15 rfl) rfl (by omega) (by omega)) fun _ F25=>?_)))))
  refine rm rfl F25 fun _ F26=>?_
  subst ek13
  exact hK13 _ (jn+1) _ _ (by omega) ⟨rfl,(by omega)⟩ (F26.sb) (M23.sb)
 ·refine zSk fun _ hK27=>zT fun _ hK28=>rm rfl F13 fun _ F29=>rm rfl F29 fun _ F30=>zc (w':=w13) rfl rfl F30 rfl (zI 18) (y_lnG 49 Tryz.underlying49 _ rfl (F30 12 rfl) rfl) fun _ F31=>?_
  refine zc (w':=w13) rfl rfl F31 rfl (.bool false) (zka _ _ _ _ rfl (F31 11 rfl) (F31 13 rfl) (decide_eq_false (show ¬(jn:Int)<18 by omega))) fun _ F32=>?_
  refine hK28 _ _ (wp_cond_false (F32 14 rfl) (wp_exit ?_))
  simp only [Exit.then,Exit.inBlock,↓reduceIte,Nat.reduceEqDiff]
  refine hK10 _ _ (zT fun _ hK33=>?_)
  exact rm rfl F32 fun _ F34=>hK33 _ _ (wp_ret (bodyPost_ret (res1 rfl (F34.get rfl)) F34.defers ⟨rfl,M13.below⟩))
section
open Go.Shelf
structure DisM (m:Nat→Option RecN):Prop where
 ok:∀ i r,i<8→m i=some r→RecOk r
 one:∀ i j r s,i<8→j<8→m i=some r→m j=some s→r.s.toList=s.s.toList→i=j
theorem isN_yes {nm:ByteArray} {o:Option RecN} (h:isN nm o=true):∃ r,o=some r∧r.s.toList=nm.toList:=by
 cases o with
 | none=>cases h
 | some r=>exact ⟨r,rfl,of_decide_eq_true h⟩
theorem others {m:Nat→Option RecN} (hd:DisM m) {nm:ByteArray} {p:Nat} (hp:p<8) (h:isN nm (m p)=true):∀ i,i<8→i≠p→isN nm (m i)=false:=fun i hi hne=>by
 cases hi':isN nm (m i) with
 | false=>rfl
 | true=>
  obtain ⟨r,e1,e2⟩:=isN_yes h
  obtain ⟨s,e3,e4⟩:=isN_yes hi'
  exact absurd (hd.one i p s r hi hp e3 e1 (e4.trans e2.symm)) hne
noncomputable def recG (V:VltN) (nm:ByteArray):RecN:=if fst8 (zz V nm)<8 then z0a V (2*fst8 (zz V nm)) else zeroRec
theorem zero_ok:RecOk zeroRec:=⟨by decide,by decide,by decide,by decide,by decide,by decide,by decide⟩
end
section
open Go.Shelf
def txtR (L:List ByteArray) (v:Value):Res:=⟨false,fun b=>0<L.length∧v.ownBlock=some b,fun w=>TxtAt w 0 L v⟩
theorem txt_dep {L:List ByteArray} {v:Value}:∀ u u',Same (txtR L v).fp u u'→(txtR L v).F u→(txtR L v).F u':=fun u u' hs ⟨A,c,e,h⟩=>⟨A,c,e,fun h0=>by
 obtain ⟨gr,E,e1,h1,h2⟩:=h h0
 exact ⟨gr,E,e1,h1,hs gr _ ⟨h0,by rw [e,e1];rfl⟩ h2⟩⟩
section
variable {G:Option Nat} {w0 w w':World} {R:List (Nat×Res)}
theorem Mx.newTxt (M:Mx G w0 w R) (hb:Below w.heap.size w w') (k:Nat) {L:List ByteArray} {v:Value} (h:TxtAt w' w.heap.size L v):Mx G w0 w' ((k,txtR L v)::R):=by
 obtain ⟨A,c,e,hA⟩:=h
 have hfp:∀ b,(txtR L v).fp b→w.heap.size≤b∧b<w'.heap.size:=fun b ⟨h0,h1⟩=>by
  obtain ⟨gr,E,e1,h2,h3⟩:=hA h0
  rw [e,e1] at h1
  have h1:gr=b:=Option.some.inj h1
  subst h1
  exact ⟨h2,z2a h3⟩
 exact (M.step hb).cons k _ ⟨A,c,e,fun h0=>by obtain ⟨gr,E,e1,h2,h3⟩:=hA h0;exact ⟨gr,E,e1,Nat.zero_le _,h3⟩⟩ txt_dep (fun b hb2=>(hfp b hb2).2) (fun e=>by cases e) fun q r er hkk hw b hb1 h2=>by
  rcases hw with hw | hw
  ·cases hw
  have h3:=M.lt q r er b h2
  have:=(hfp b hb1).1
  omega
variable {a:Act} {o:Oper} {A:Option Addr} {c:Nat} {L:List ByteArray}
theorem y_ixTx (x k:Operand) (ho:o.op=.indexAddr 45 x k) (hx:a.eval x=.slice A L.length c) (hT:(txtR L (.slice A L.length c)).F w) {z:Int} {i:Nat} (hk:a.eval k=zI z) (hz:z=(i:Int)) (hi:i<L.length):(execOp a.eval o).run Tryz.prog w=.ok (.value (ixV (.slice A L.length c) i)) w:=by
 subst hz
 obtain ⟨A',c',e,h⟩:=hT
 obtain ⟨gr,E,e1,-,hg⟩:=h (by omega)
 injection e with q1 q2 q3
 subst q1 q3 e1
 have h5:(i:Int)<(L.length:Int):=by omega
 rw [zcc 45 (s:=1) Tryz.underlying45 (by kernel_rfl) _ _ ho hx hk rfl hi (j:=i) (by omega)]
 simp [ixV,zna]
theorem y_ldTx (y:Operand) (ho:o.op=.load 9 y) {i:Nat} (hy:a.eval y=ixV (.slice A L.length c) i) (hT:(txtR L (.slice A L.length c)).F w) {s:ByteArray} (hl:L[i]? = some s):(execOp a.eval o).run Tryz.prog w=.ok (.value (.string s)) w:=by
 have hi:=(List.getElem?_eq_some_iff.1 hl).1
 obtain ⟨A',c',e,h⟩:=hT
 obtain ⟨gr,E,e1,-,hg⟩:=h (by omega)
 injection e with q1 q2 q3
 subst q1 q3 e1
 exact zda _ _ ho (hy.trans (by simp [ixV,zna])) hg (rowA_at hl) Tryz.underlying9 rfl
end
theorem get_is {K:Nat} (g:Nat) (V:VltN) (s n:Nat→Value) (hi:InvV K V) (nm:ByteArray) (b:Bool) (r:RecN) (hb:decide (fst8 (zz V nm)<8)=b) (hr:recG V nm=r) (w:World) (h:HasV w g V s n):Calls Tryz.prog 24 #[(zO g),.string nm] w fun e w'=>∃ t,e=.returned t∧∃ V',t=.tuple #[.agg (recA r V'),.bool b]∧RecIs w' r V'∧(∀ q,bfp V'.v2 q∨bfp V'.v5 q→w.heap.size≤q)∧Below w.heap.size w w':=by
 subst hb hr
 by_cases h8:fst8 (zz V nm)<8
 ·rw [decide_eq_true h8]
  exact get_yes g V s n hi nm _ h8 rfl _ (if_pos h8).symm w h
 ·rw [decide_eq_false h8]
  refine (get_not g V s n hi nm (by have:=fst8_le (zz V nm);omega) w h).mono fun e w' ⟨h1,h2⟩=>⟨_,h1,⟨zN,zN⟩,by rw [show recG V nm=zeroRec from if_neg h8],?_,fun q hq=>(by rcases hq with hq | hq <;> exact absurd hq (zpa q)),h2⟩
  rw [show recG V nm=zeroRec from if_neg h8]
  exact ⟨zia _,zia _⟩
theorem xget_is {K:Nat} (gx gc:Nat) (V:VltN) (s n:Nat→Value) (hi:InvV K V) (nm:ByteArray) (b:Bool) (r:RecN) (hb:decide (fst8 (zz V nm)<8)=b) (hr:recG V nm=r) (w:World) (h:XOk w gx gc V s n):Calls Tryz.prog 33 #[(zO gx),.string nm] w fun e w'=>∃ t,e=.returned t∧∃ V',t=.tuple #[.agg (recA r V'),.bool b]∧RecIs w' r V'∧(∀ q,bfp V'.v2 q∨bfp V'.v5 q→w.heap.size≤q)∧Below w.heap.size w w':=by
 subst hb hr
 by_cases h8:fst8 (zz V nm)<8
 ·rw [decide_eq_true h8,show recG V nm=z0a V (2*fst8 (zz V nm)) from if_pos h8]
  exact (rget_yes gx gc V (zhc V) s n hi nm _ h8 rfl w h.has).mono fun e w' ⟨V',h1,h2⟩=>⟨_,h1,V',rfl,h2⟩
 ·rw [decide_eq_false h8,show recG V nm=zeroRec from if_neg h8]
  exact (rget_not gx gc V (zhc V) s n hi nm (by have:=fst8_le (zz V nm);omega) w h.has).mono fun e w' ⟨h1,h2⟩=>⟨_,h1,⟨zN,zN⟩,rfl,⟨zia _,zia _⟩,fun q hq=>(by rcases hq with hq | hq <;> exact absurd hq (zpa q)),h2⟩
end
section
open Go.Shelf
theorem left_fail (V:VltN) (z:Int):zhc (failV V z)=max z (-1):=by
 unfold zhc failV
 dsimp only
 by_cases h:0≤z
 ·rw [if_pos (decide_eq_true h)];omega
 ·rw [if_neg (by rw [decide_eq_false h];exact Bool.false_ne_true)];omega
theorem xfail_any (gx gc:Nat) (V:VltN) (s n:Nat→Value) (z:Int) (V2:VltN) (hV2:failV V z=V2) (w:World) (ho:XOk w gx gc V s n):Calls Tryz.prog 20 #[(zO gx),zI z] w fun e w'=>∃ t,e=.returned t∧XTo w w' gx gc (zo 18 s n) V2:=by
 subst hV2
 refine (rfail_any gx gc (zhc V) V.dd z w ho.has.hx).mono fun e w' ⟨t,h1,h2,h3⟩=>⟨t,h1,⟨s,n,⟨⟨?_,?_,fun i hi=>?_,fun i hi=>?_⟩,ho.ne,ho.far⟩,fun b hb=>.inl hb⟩,h3.size,fun q h4 h5 h6=>?_,h3.os,h3.tape,h3.output⟩
 ·rw [left_fail];exact h2
 ·exact (h3.block gc (z2a ho.has.hc) fun e=>ho.ne (Option.some.inj e).symm).trans ho.has.hc
 ·exact (ho.has.hs i hi).grow h3 (ho.far i hi).1.1
 ·exact (ho.has.hn i hi).grow h3 (ho.far i hi).1.2
 ·exact h3.block q h6 fun e=>h4 (Option.some.inj e)
def StepA (V V':VltN) (x:Nat→Int) (m:Nat):Prop:=V'=V∨(∃ z,-1≤z∧z<5∧V'=failV V z)∨∃ k,k≤m∧V'=ageW (zac V x k)
theorem rdI_pre {w:World} {A:Option Addr} {m k:Nat} {x:Nat→Int} (h:RdI w A m x) (hk:k≤m):RdI w A k x:=
 ⟨by have:=h.1;omega,h.2.1,fun hn=>by
  obtain ⟨b,o,e,h1,h2⟩:=h.2.2 (by omega)
  exact ⟨b,o,e,h1,fun j hj=>h2 j (by omega)⟩⟩
theorem ifp_pre {A:Option Addr} {m k g:Nat} (hk:k≤m) (h:ifp A k g):ifp A m g:=h.elim fun h0 h1=>⟨by omega,h1⟩
section
variable {a:Act} {w:World} {o:Oper} {A:Option Addr} {n c:Nat}
theorem y_slI2 (x y:Operand) (ho:o.op=.slice 22 x none (some y) none) (hx:a.eval x=.slice A n c) {z:Int} {j:Nat} (hy:a.eval y=zI z) (hz:z=(j:Int)) (hc:j≤c):(execOp a.eval o).run Tryz.prog w=.ok (.value (.slice A j c)) w:=by
 subst hz
 have elem_int:Tryz.prog.elem 22=3:=by kernel_rfl
 have under_int:Tryz.prog.underlying 22=some (.slice (Tryz.prog.elem 22)):=by rw [elem_int];exact Tryz.underlying22
 have size_int:(sizeOf 3).run Tryz.prog w=.ok 1 w:=by
  have hi:(Tryz.prog.info? 3).map (·.size)=some 1:=by kernel_rfl
  cases hq:Tryz.prog.info? 3 with
  | none=>rw [hq] at hi;cases hi
  | some i=>rw [hq] at hi;simp only [Option.map_some,Option.some.injEq] at hi;simp [sizeOf,typeInfo,hq,hi]
 unfold execOp
 simp only [ho,hx]
 simp only [Option.map_some,Option.map_none,hy]
 rw [Sem.run_bind,run_sliceAt_slice _ _ _ _ _ _ under_int,run_slice_h _ _ _ _ _ under_int .i64 j (by omega) (by omega),elem_int,size_int]
 simp only [Result.andThen_ok,sliced,Int.toNat_natCast,Nat.mul_one,Sem.run_pure,Nat.sub_zero,map_add0,ite_self]
end
structure PlOk (K:Nat) (E:Nat) (V:VltN):Prop where
 inv:InvV K V
 era:EraS V E
 left:LeftOk V
theorem pl_new:PlOk 1 1 (ageW zeroV):=by
 have hz:=zero_inv 0
 have h:=say_says hz (by omega) 16 (zy (zic zeroV 16+1)) rfl
 refine ⟨new_is.2.1,⟨new_is.1,?_⟩,fun e=>by rw [new_is.2.2.1] at e;cases e⟩
 have e:=h.2
 rw [num0] at e
 unfold ageW
 rw [num0]
 exact e
theorem PlOk.mono {K K' E:Nat} {V:VltN} (h:PlOk K E V) (hK:K≤K'):PlOk K' E V:=⟨h.inv.mono hK,h.era,h.left⟩
theorem pl_say {K E:Nat} {V:VltN} (h:PlOk K E V) (hK:K<255) {q:Nat} (hq:q+1<16) {l:List UInt8} (hl:l.length≤255):PlOk (K+1) E (sayW V q l).1:=⟨sayW_inv h.inv hK q hl,eras_say h.era hq l,left_say h.left q l⟩
theorem pl_step {K E:Nat} {V V':VltN} (h:PlOk K E V) (hK:K<255) (hs:StepV V V'):PlOk (K+1) E V':=by
 have same:PlOk (K+1) E V:=h.mono (by omega)
 rcases hs with ⟨r,_,rfl⟩ | ⟨nm,rfl⟩
 ·unfold putV
  have hl:=recE_bd r
  split
  ·exact same
  ·split
   ·exact same
   ·split
    ·exact pl_say h hK (by omega) (by omega)
    ·split
     ·exact pl_say h hK (by omega) (by omega)
     ·exact same
 ·unfold goneV
  split
  ·exact same
  ·split
   ·exact pl_say h hK (by omega) (Nat.zero_le _)
   ·exact same
theorem pl_again {K E:Nat} {V:VltN} (h:PlOk K E V) (hK:K<255) (hE:E<999) (x:Nat→Int) (m:Nat):PlOk (K+1) (E+1) (ageW (zac V x m)):=
 ⟨age_inv (setl_inv h.inv x m) hK,eras_age (setl_inv h.inv x m) hK hE (eras_setl h.era x m) rfl,left_say (V:=zac V x m) (fun e=>by cases e) 16 _⟩
theorem pl_fail {K E:Nat} {V:VltN} (h:PlOk K E V) {z:Int} (hz:z<9223372036854775808):PlOk K E (failV V z):=⟨h.inv,h.era,fun e=>⟨of_decide_eq_true e,hz⟩⟩
theorem pl_stepA {K E:Nat} {V V':VltN} (h:PlOk K E V) (hK:K<255) (hE:E<999) {x:Nat→Int} {m:Nat} (hs:StepA V V' x m):∃ E',E'≤E+1∧PlOk (K+1) E' V':=by
 rcases hs with rfl | ⟨z,h1,h2,rfl⟩ | ⟨k,_,rfl⟩
 ·exact ⟨E,by omega,h.mono (by omega)⟩
 ·exact ⟨E,by omega,(pl_fail h (by omega)).mono (by omega)⟩
 ·exact ⟨E+1,Nat.le_refl _,pl_again h hK hE x k⟩
end
theorem lstepA_any (g gx gc:Nat) {K E:Nat} (V:VltN) (s n sx nx:Nat→Value) (hP:PlOk K E V) (hK:K<255) (hE:E<999) (bv:Value) (At:Option Addr) (mt ct:Nat) (xt:Nat→Int) (hmt:mt≤ct) (hmt1:mt≤10) (z:Int) (hz:0≤z∧z<1073741824) (h8:8≤z%12) (w:World) (hr:RowsV w g V.c s n) (hg:w.heap[g]? = some (.cells (vltA V s n) 80 (0,0))) (hx:XOk w gx gc V sx nx) (hgx:¬(xR gx gc V sx nx).fp g) (hT:RdI w At mt xt) (hTg:(¬ifp At mt g)∧∀ b,ifp At mt b→¬(xR gx gc V sx nx).fp b):
  Calls Tryz.prog 16 #[(zO g),(zO gx),zI z,bv,.slice At mt ct] w fun e w'=>∃ t,e=.returned t∧t=.bool true∧∃ V',StepA V V' xt mt∧∃ wm s' n',VTo w wm g (zo 18 s n) V' s' n'∧XTo wm w' gx gc (zo 18 sx nx) V':=by
 obtain ⟨k,hk⟩:∃ x,z.tdiv 12=x:=⟨_,rfl⟩
 have hz12:z.tdiv 12=z / 12:=Int.tdiv_eq_ediv_of_nonneg hz.1
 obtain ⟨q,hq⟩:∃ x,z%12=x:=⟨_,rfl⟩
 have hq7:8≤q∧q≤11:=by omega
 have hkb:0≤k∧k<1073741824:=by omega
 obtain ⟨nj,hnj,hnj10⟩:∃ j:Nat,k%10=(j:Int)∧j<10:=⟨(k%10).toNat,by omega,by omega⟩
 obtain ⟨zf,hzf⟩:∃ x,k%6-1=x:=⟨_,rfl⟩
 obtain ⟨k2,hk2⟩:∃ x,k.tdiv 2=x:=⟨_,rfl⟩
 have hk22:k.tdiv 2=k / 2:=Int.tdiv_eq_ediv_of_nonneg hkb.1
 obtain ⟨nt,hnt,hntm⟩:=in6 k2 (show 0<mt+1 by omega)
 obtain ⟨bg,hbg⟩:∃ x,decide (fst8 (zz V (nmK nj))<8)=x:=⟨_,rfl⟩
 obtain ⟨rv,hrv⟩:∃ x,recG V (nmK nj)=x:=⟨_,rfl⟩
 have hov:RecOk rv:=by
  rw [←hrv]
  unfold recG
  split
  ·unfold z0a
   split
   ·exact rdR_ok _
   ·exact zero_ok
  ·exact zero_ok
 refine zk (args:=[(zO g),(zO gx),zI z,bv,.slice At mt ct]) 117 Tryz.func16 rfl rfl rfl ?_
 intro fa F
 have M:=(Mx.rowsG hr hg 1)
 refine zT fun _ hK21=>rm rfl F fun _ F22=>hK21 _ _ (zT fun _ hK23=>rm rfl F22 fun _ F24=>zc (w':=w) rfl rfl F24 rfl (zI k) (y_quoT _ _ _ _ rfl (F24 20 rfl) rfl (by omega) (by decide) hk) fun _ F25=>?_)
 refine rm rfl F25 fun _ F26=>hK23 _ _ (zSk fun _ hK27=>zT fun _ hK28=>rm rfl F26 fun _ F29=>zc (w':=w) rfl rfl F29 rfl (zI q) (y_remI _ _ _ _ rfl (F29 22 rfl) rfl (by omega) (by omega) hq) fun _ F30=>?_)
 refine hK28 _ _ (wp_block (zSk fun _ hK31=>zT fun _ hK32=>zc (w':=w) rfl rfl F30 rfl (.bool false) (zza _ _ _ _ rfl (F30 23 rfl) rfl Tryz.underlying3 (zib (by omega))) fun _ F33=>?_))
 refine rm rfl F33 fun _ F34=>hK32 _ _ (wp_cond_false (F34 49 rfl) (zT fun _ hK35=>zc (w':=w) rfl rfl F34 rfl (.bool false) (zza _ _ _ _ rfl (F34 23 rfl) rfl Tryz.underlying3 (zib (by omega))) fun _ F36=>?_))
 refine rm rfl F36 fun _ F37=>hK35 _ _ (wp_cond_false (F37 49 rfl) (zT fun _ hK38=>zc (w':=w) rfl rfl F37 rfl (.bool false) (zza _ _ _ _ rfl (F37 23 rfl) rfl Tryz.underlying3 (zib (by omega))) fun _ F39=>?_))
 refine rm rfl F39 fun _ F40=>hK38 _ _ (wp_cond_false (F40 49 rfl) (zT fun _ hK41=>zc (w':=w) rfl rfl F40 rfl (.bool false) (zza _ _ _ _ rfl (F40 23 rfl) rfl Tryz.underlying3 (zib (by omega))) fun _ F42=>?_))
 refine rm rfl F42 fun _ F43=>hK41 _ _ (wp_cond_false (F43 49 rfl) (zT fun _ hK44=>zc (w':=w) rfl rfl F43 rfl (.bool false) (zza _ _ _ _ rfl (F43 23 rfl) rfl Tryz.underlying3 (zib (by omega))) fun _ F45=>?_))
 refine rm rfl F45 fun _ F46=>hK44 _ _ (wp_cond_false (F46 49 rfl) (zR (zc (w':=w) rfl rfl F46 rfl (.bool false) (zza _ _ _ _ rfl (F46 23 rfl) rfl Tryz.underlying3 (zib (by omega))) fun _ F47=>?_)))
 refine rm rfl F47 fun _ F48=>hK31 _ _ (wp_cond_false (F48 49 rfl) (zSk fun _ hK49=>zT fun _ hK50=>zc (w':=w) rfl rfl F48 rfl (.bool false) (zza _ _ _ _ rfl (F48 23 rfl) rfl Tryz.underlying3 (zib (by omega))) fun _ F51=>?_))
 refine rm rfl F51 fun _ F52=>hK50 _ _ (wp_cond_false (F52 70 rfl) (zR (zc (w':=w) rfl rfl F52 rfl (.bool false) (zza _ _ _ _ rfl (F52 23 rfl) rfl Tryz.underlying3 (zib (by omega))) fun _ F53=>?_)))
 refine rm rfl F53 fun _ F54=>hK49 _ _ (wp_cond_false (F54 70 rfl) (zT fun _ hK55=>?_))
 by_cases h56:q=8
 ·refine zc (w':=w) rfl rfl F54 rfl (.bool true) (zza _ _ _ _ rfl (F54 23 rfl) rfl Tryz.underlying3 (zmb h56)) fun _ F57=>?_
  refine rm rfl F57 fun _ F58=>hK55 _ _ (wp_cond_true (F58 85 rfl) (zT fun _ hK59=>rm rfl F58 fun _ F60=>rm rfl F60 fun _ F61=>zc (w':=w) rfl rfl F61 rfl (zI (k%6)) (y_remI _ _ _ _ rfl (F61 88 rfl) rfl (by omega) (by omega) rfl) fun _ F62=>?_))
  refine zc (w':=w) rfl rfl F62 rfl (zI zf) (z3c _ _ _ _ rfl (F62 89 rfl) rfl hzf (by omega)) fun _ F63=>?_
  obtain ⟨V2,hV2⟩:∃ x,failV V zf=x:=⟨_,rfl⟩
  refine zh rfl rfl F63 rfl rfl (zE Tryz.func19 rfl) #[(zO g),zI zf] (zfa (F63 87 rfl) (F63 90 rfl)) (fail_is g V s n zf V2 hV2 w  (M.rowsV (i:=1) (k:=0) rfl rfl (by decide)) (M.blk (k:=0) rfl)) ?_
  rintro _ w64 a64 ⟨s64,n64,hr64,ht64,hc64,hg64⟩ F64
  have hto_:=fun b hb=>(ht64 b hb).imp id (Nat.le_trans M.le)
  have M64:=M.vault (kg:=0) (kr:=1) rfl rfl hg64 hc64 hr64 ht64
  clear M hg64 hc64 hr64 ht64
  refine hK59 _ _ (zR (rm rfl F64 fun _ F65=>rm rfl F65 fun _ F66=>zc (w':=w64) rfl rfl F66 rfl (zI (k%6)) (y_remI _ _ _ _ rfl (F66 93 rfl) rfl (by omega) (by omega) rfl) fun _ F67=>?_))
  refine zc (w':=w64) rfl rfl F67 rfl (zI zf) (z3c _ _ _ _ rfl (F67 94 rfl) rfl hzf (by omega)) fun _ F68=>?_
  refine zh rfl rfl F68 rfl rfl (zE Tryz.func20 rfl) #[(zO gx),zI zf] (zfa (F68 92 rfl) (F68 95 rfl)) (xfail_any gx gc V sx nx zf V2 hV2 w64 (hx.grow M64.grown hgx)) ?_
  rintro _ w69 a69 hw69 F69
  refine hK27 _ _ (zT fun _ hK70=>?_)
  exact rm rfl F69 fun _ F71=>hK70 _ _ (wp_ret (bodyPost_ret (res1 rfl (F71.get rfl)) F71.defers ⟨_,rfl,rfl,V2,(.inr (.inl ⟨zf,by omega,by omega,hV2.symm⟩)),_,s64,n64,⟨M64.rowsV (i:=1) (k:=0) rfl rfl (by decide),hto_,M64.blk (k:=0) rfl,M64.grown⟩,hw69⟩))
 ·refine zc (w':=w) rfl rfl F54 rfl (.bool false) (zza _ _ _ _ rfl (F54 23 rfl) rfl Tryz.underlying3 (zib h56)) fun _ F72=>?_
  refine rm rfl F72 fun _ F73=>hK55 _ _ (wp_cond_false (F73 85 rfl) (zSk fun K74 hK74=>?_))
  have J74:∀ (b97:Bool) (aJ:Act) (wJ:World),(b97=decide (q≤10))→Fx 117 aJ [(0,(zO g)),(1,(zO gx)),(3,bv),(4,.slice At mt ct),(11,zI k),(23,zI q),(97,.bool b97)]→Mx (some g) w wJ [(1,zua 0 18 V.c s n),(0,blkR g 80 (vltA V s n))]→K74 aJ wJ:=by
   intro b97 a74 w74 I74 F74 M74
   refine hK74 _ _ ?_
   have h97:=I74
   cases b97
   ·have hq10:¬q≤10:=of_decide_eq_false h97.symm
    refine wp_cond_false (F74 97 rfl) (zT fun _ hK75=>zh rfl rfl F74 rfl rfl (zE Tryz.func34 rfl) #[] (args0) (names6_ex w74) ?_)
    rintro _ w76 a76 ⟨gq76,rfl,hg76,hc76,b76⟩ F76
    have M76:=M74.newb b76 3 hg76 hc76
    clear M74 b76 hg76 hc76
    refine rm rfl F76 fun _ F77=>zc (w':=w76) rfl rfl F77 rfl (zI (nj:Int)) (y_remI _ _ _ _ rfl (F77 25 rfl) rfl (by omega) (by omega) hnj) fun _ F78=>?_
    refine zc (w':=w76) rfl rfl F78 rfl (zP gq76 nj) (zcc 45 (s:=1) Tryz.underlying45 (by kernel_rfl) _ _ rfl (F78 24 rfl) (F78 26 rfl) rfl hnj10 (by omega)) fun _ F79=>?_
    refine zc (w':=w76) rfl rfl F79 rfl (.string (nmK nj)) (zda _ _ rfl (F79 27 rfl) (M76.blk (k:=3) rfl) (nmA_at (show nj<10 by omega)) Tryz.underlying9 rfl) fun _ F80=>?_
    refine rm rfl F80 fun _ F81=>hK75 _ _ (zT fun _ hK82=>rm rfl F81 fun _ F83=>rm rfl F83 fun _ F84=>zh rfl rfl F84 rfl rfl (zE Tryz.func24 rfl) #[(zO g),.string (nmK nj)] (zfa (F84 30 rfl) (F84 31 rfl)) (get_is g V s n hP.inv (nmK nj) bg rv hbg hrv w76 (M76.hasV (kg:=0) (kr:=1) rfl rfl (by decide))) ?_)
    rintro _ w85 a85 ⟨U85,rfl,is85,lo85,b85⟩ F85
    have M85:=M76.newRec b85 is85 lo85 4 5
    clear M76 b85 lo85
    refine zB 3 [(1,(zO gx)),(15,.string (nmK nj)),(33,.agg (recA rv U85)),(34,.bool bg)] [] dnil [] F85 fun _ F86=>?_
    refine zq rfl rfl F86 rfl M85 6 (t:=37) (c:=recA ⟨0, "".toUTF8,[],0,0,[],0,0,0⟩ ⟨zN,zN⟩) (by unfold execOp;kernel_rfl) ?_
    intro g87 a87 w87 F87 M87
    refine zt rfl rfl F87 M87 (k:=6) rfl _ _ _ rfl (F87 16 rfl) (F87 33 rfl) (recA rv U85) _ rfl (zL rfl) (z6a (w:=w87) ⟨(M87.isb (k:=4) rfl),(M87.isb (k:=5) rfl)⟩) (zca rfl) (by kernel_rfl) ?_
    intro w88 M88
    refine rm rfl F87 fun _ F89=>hK82 _ _ (zT fun _ hK90=>rm rfl F89 fun _ F91=>rm rfl F91 fun _ F92=>zh rfl rfl F92 rfl rfl (zE Tryz.func33 rfl) #[(zO gx),.string (nmK nj)] (zfa (F92 36 rfl) (F92 37 rfl)) (xget_is gx gc V sx nx hP.inv (nmK nj) bg rv hbg hrv w88 (hx.grow M88.grown hgx)) ?_)
    rintro _ w93 a93 ⟨U93,rfl,is93,lo93,b93⟩ F93
    have M93:=M88.newRec b93 is93 lo93 7 8
    clear M88 b93 lo93
    refine zB 3 [(16,(zO g87)),(17,.bool bg),(39,.agg (recA rv U93)),(40,.bool bg)] [] dnil [] F93 fun _ F94=>?_
    refine zq rfl rfl F94 rfl M93 9 (t:=37) (c:=recA ⟨0, "".toUTF8,[],0,0,[],0,0,0⟩ ⟨zN,zN⟩) (by unfold execOp;kernel_rfl) ?_
    intro g95 a95 w95 F95 M95
    refine zt rfl rfl F95 M95 (k:=9) rfl _ _ _ rfl (F95 18 rfl) (F95 39 rfl) (recA rv U93) _ rfl (zL rfl) (z6a (w:=w95) ⟨(M95.isb (k:=7) rfl),(M95.isb (k:=8) rfl)⟩) (zca rfl) (by kernel_rfl) ?_
    intro w96 M96
    refine rm rfl F95 fun _ F97=>hK90 _ _ (zT fun _ hK98=>rm rfl F97 fun _ F99=>rm rfl F99 fun _ F100=>zc (w':=w96) rfl rfl F100 rfl (.bool true) (y_eqB _ _ rfl (F100 41 rfl) (F100 42 rfl) (by cases bg <;> rfl)) fun _ F101=>?_)
    refine zB 3 [(44,.bool true),(45,.agg (recA rv U85)),(46,.agg (recA rv U93))] [0,1] (zu (M96.blk (k:=6) rfl) (zu (M96.blk (k:=9) rfl) dnil)) [g87,g95] F101 fun _ F102=>?_
    refine zh (zd rfl rfl rfl (F102 44 rfl)) rfl F102 rfl rfl (zE Tryz.func31 rfl) #[.agg (recA rv U85),.agg (recA rv U93)] (zfa (F102 45 rfl) (F102 46 rfl)) (zba ((recs_is rv rv ⟨U85.v2,U85.v5⟩ ⟨U93.v2,U93.v5⟩ hov hov true (eqR_self rv) w96 ⟨(M96.isb (k:=4) rfl),(M96.isb (k:=5) rfl)⟩ ⟨(M96.isb (k:=7) rfl),(M96.isb (k:=8) rfl)⟩))) ?_
    rintro _ w103 a103 ⟨rfl,b103⟩ F103
    have M103:=M96.step b103
    refine zB 2 [(10,.bool true)] [] dnil [] F103 fun _ F104=>?_
    refine hK98 _ _ (wp_ret ?_)
    try simp only [Exit.then,Exit.inBlock,Exit.jump]
    exact bodyPost_ret (res1 rfl (F104.get rfl)) F104.defers ⟨_,rfl,rfl,V,.inl rfl,_,s,n,⟨M103.rowsV (i:=1) (k:=0) rfl rfl (by decide),fun b hb=>.inl hb,M103.blk (k:=0) rfl,M103.grown⟩,(hx.grow M103.grown hgx).to (Below.refl _ _)⟩
   ·have hq10:q≤10:=of_decide_eq_true h97.symm
    refine wp_cond_true (F74 97 rfl) (zT fun _ hK105=>rm rfl F74 fun _ F106=>zc (w':=w74) rfl rfl F106 rfl (zI (k%2)) (y_remI _ _ _ _ rfl (F106 100 rfl) rfl (by omega) (by omega) rfl) fun _ F107=>?_)
    by_cases h108:(k%2)=0
    ·refine zc (w':=w74) rfl rfl F107 rfl (.bool true) (zza _ _ _ _ rfl (F107 101 rfl) rfl Tryz.underlying3 (zmb h108)) fun _ F109=>?_
     refine hK105 _ _ (wp_cond_true (F109 102 rfl) (zT fun _ hK110=>rm rfl F109 fun _ F111=>rm rfl F111 fun _ F112=>zc (w':=w74) rfl rfl F112 rfl (zI k2) (y_quoT _ _ _ _ rfl (F112 104 rfl) rfl (by omega) (by decide) hk2) fun _ F113=>?_))
     refine rm rfl F113 fun _ F114=>zc (w':=w74) rfl rfl F114 rfl (zI (mt:Int)) (y_lnG 22 Tryz.underlying22 _ rfl (F114 106 rfl) rfl) fun _ F115=>?_
     refine zc (w':=w74) rfl rfl F115 rfl (zI ((mt+1:Nat):Int)) (zoa _ _ _ _ rfl (F115 107 rfl) rfl (by omega) (by omega)) fun _ F116=>?_
     refine zh rfl rfl F116 rfl rfl (zE Tryz.func17 rfl) #[zI k2,zI ((mt+1:Nat):Int)] (zfa (F116 105 rfl) (F116 108 rfl)) (zba ((hnt▸within6_any k2 ((mt+1:Nat):Int) (by omega) (by omega) (by omega) (by omega) w74))) ?_
     rintro _ w117 a117 ⟨rfl,rfl⟩ F117
     refine zc (w':=w74) rfl rfl F117 rfl (.slice At nt ct) (y_slI2 _ _ rfl (F117 103 rfl) (F117 109 rfl) rfl (by omega)) fun _ F118=>?_
     refine rm rfl F118 fun _ F119=>hK110 _ _ (zT fun _ hK120=>rm rfl F119 fun _ F121=>rm rfl F121 fun _ F122=>?_)
     obtain ⟨V2,hV2⟩:∃ x,ageW (zac V xt nt)=x:=⟨_,rfl⟩
     refine zh rfl rfl F122 rfl rfl (zE Tryz.func30 rfl) #[(zO g),.slice At nt ct] (zfa (F122 111 rfl) (F122 112 rfl)) (again_isV g V s n At nt ct xt (by omega) hP.inv (by omega) hP.era.1 (by omega) (by omega) V2 hV2 w74 (rdI_pre (hT.grow M74.grown hTg.1) (by omega)) (fun h=>hTg.1 (ifp_pre (by omega) h)) (M74.rowsV (i:=1) (k:=0) rfl rfl (by decide)) (M74.blk (k:=0) rfl)) ?_
     rintro _ w123 a123 ⟨s123,n123,hr123,ht123,hc123,hg123⟩ F123
     have hto_:=fun b hb=>(ht123 b hb).imp id (Nat.le_trans M74.le)
     have M123:=M74.vault (kg:=0) (kr:=1) rfl rfl hg123 hc123 hr123 ht123
     clear M74 hg123 hc123 hr123 ht123
     refine hK120 _ _ (zR (rm rfl F123 fun _ F124=>rm rfl F124 fun _ F125=>zh rfl rfl F125 rfl rfl (zE Tryz.func42 rfl) #[(zO gx),.slice At nt ct] (zfa (F125 114 rfl) (F125 115 rfl)) (xagain_any gx gc V sx nx hP.inv hK E (by omega) hP.era At nt ct xt hV2 w123 (hx.grow M123.grown hgx) (rdI_pre (hT.grow M123.grown hTg.1) (by omega)) (fun b hb=>⟨fun e=>hTg.2 b (ifp_pre (by omega) hb) (.inl e),fun e=>hTg.2 b (ifp_pre (by omega) hb) (.inr (.inl e))⟩)) ?_))
     rintro _ w126 a126 hw126 F126
     refine hK27 _ _ (zT fun _ hK127=>?_)
     exact rm rfl F126 fun _ F128=>hK127 _ _ (wp_ret (bodyPost_ret (res1 rfl (F128.get rfl)) F128.defers ⟨_,rfl,rfl,V2,(.inr (.inr ⟨nt,by omega,hV2.symm⟩)),_,s123,n123,⟨M123.rowsV (i:=1) (k:=0) rfl rfl (by decide),hto_,M123.blk (k:=0) rfl,M123.grown⟩,hw126⟩))
    ·refine zc (w':=w74) rfl rfl F107 rfl (.bool false) (zza _ _ _ _ rfl (F107 101 rfl) rfl Tryz.underlying3 (zib h108)) fun _ F129=>?_
     refine hK105 _ _ (wp_cond_false (F129 102 rfl) (wp_skip (hK27 _ _ (zT fun _ hK130=>?_))))
     exact rm rfl F129 fun _ F131=>hK130 _ _ (wp_ret (bodyPost_ret (res1 rfl (F131.get rfl)) F131.defers ⟨_,rfl,rfl,V,.inl rfl,_,s,n,⟨M74.rowsV (i:=1) (k:=0) rfl rfl (by decide),fun b hb=>.inl hb,M74.blk (k:=0) rfl,M74.grown⟩,(hx.grow M74.grown hgx).to (Below.refl _ _)⟩))
  refine zT fun _ hK132=>?_
  by_cases h133:q=9
  ·refine zc (w':=w) rfl rfl F73 rfl (.bool true) (zza _ _ _ _ rfl (F73 23 rfl) rfl Tryz.underlying3 (zmb h133)) fun _ F134=>?_
   refine rm rfl F134 fun _ F135=>hK132 _ _ (wp_cond_true (F135 97 rfl) (wp_skip ?_))
   exact J74 true _ _ (decide_eq_true (show q≤10 by omega)).symm (F135.sb) (M.sb)
  ·refine zc (w':=w) rfl rfl F73 rfl (.bool false) (zza _ _ _ _ rfl (F73 23 rfl) rfl Tryz.underlying3 (zib h133)) fun _ F136=>?_
   refine rm rfl F136 fun _ F137=>hK132 _ _ (wp_cond_false (F137 97 rfl) (zR ?_))
   by_cases h138:q=10
   ·refine zc (w':=w) rfl rfl F137 rfl (.bool true) (zza _ _ _ _ rfl (F137 23 rfl) rfl Tryz.underlying3 (zmb h138)) fun _ F139=>?_
    refine rm rfl F139 fun _ F140=>?_
    exact J74 true _ _ (decide_eq_true (show q≤10 by omega)).symm (F140.sb) (M.sb)
   ·refine zc (w':=w) rfl rfl F137 rfl (.bool false) (zza _ _ _ _ rfl (F137 23 rfl) rfl Tryz.underlying3 (zib h138)) fun _ F141=>?_
    refine rm rfl F141 fun _ F142=>?_
    exact J74 false _ _ (decide_eq_false (show ¬q≤10 by omega)).symm (F142.sb) (M.sb)
section
open Go.Shelf
def StK.cel (c:Nat→CelN):StK:=⟨fun w v=>∃ g s n,v=.slice (some ⟨g,0,none⟩) 18 18∧CelsM w g c s n,fun B w w' v hb ⟨g,s,n,e,h⟩=>by
 obtain ⟨fr',h3,he⟩:=hb.kept _ _ _ _ h.blk
 rw [he (by decide)] at h3
 exact ⟨g,s,n,e,h3,fun i hi=>(h.hs i hi).kc hb,fun i hi=>(h.hn i hi).kc hb⟩⟩
theorem cells_r {K:Nat} {g:Nat} {V:VltN} {s n:Nat→Value} (hi:InvV K V) (w:World) (h:HasV w g V s n):Calls Tryz.prog 28 #[(zO g)] w fun e w'=>∃ v,e=.returned v∧Below w.heap.size w w'∧(StK.cel V.c).F w' v:=
 (cells_is g V s n hi w h).mono fun e w' ⟨t,h1,gq,s',n',h2,h3,h4⟩=>⟨t,h1,h4,gq,s',n',h2,h3.1,fun i hi=>(h3.2.2.1 i hi).1,fun i hi=>(h3.2.2.1 i hi).2.1⟩
theorem xcells_r {c:Nat→CelN} {w:World} {u:Value} (h1:(StK.cel c).F w u) {gb:Nat} {sb nb:Nat→Value} (h2:CelsM w gb c sb nb):Calls Tryz.prog 38 #[u,.slice (some ⟨gb,0,none⟩) 18 18] w fun e w'=>e=.returned (.bool true)∧Below w.heap.size w w':=by
 obtain ⟨g,s,n,rfl,h⟩:=h1
 exact xcells_any g gb c s n sb nb w h h2
def NamesOk:Prop:=∀ (gx gc:Nat) {K:Nat} (V:VltN) (L:Int) (s n:Nat→Value),InvV K V→∀ (M:List ByteArray),srtL (namL V 8)=M→∀ (w:World),HasX w gx gc V L s n→Calls Tryz.prog 43 #[(zO gx)] w fun e w'=>∃ v,e=.returned v∧TxtAt w' w.heap.size M v∧Below w.heap.size w w'
end
theorem same_any6 (hN:NamesOk) (g gx gc:Nat) {K E:Nat} (V:VltN) (s n sx nx:Nat→Value) (hP:PlOk K E V) (hE:E<1000) (w:World) (h1:HasV w g V s n) (h2:HasX w gx gc V (zhc V) sx nx):
  Calls Tryz.prog 18 #[(zO g),(zO gx)] w fun e w'=>e=.returned (.bool true)∧Below w.heap.size w w':=by
 obtain ⟨Lf,hLf⟩:∃ x,zhc V=x:=⟨_,rfl⟩
 rw [hLf] at h2
 obtain ⟨dd,hdd⟩:∃ x,V.dd=x:=⟨_,rfl⟩
 have hx0:=h2.hx
 rw [hdd] at hx0
 obtain ⟨L,hL⟩:∃ x,srtL (namL V 8)=x:=⟨_,rfl⟩
 have hL8:L.length≤8:=by rw [←hL,srtL_len];exact namL_len V 8
 have hbt:bootR V=(E:Int):=eras_boot hP.era hE
 refine zk (args:=[(zO g),(zO gx)]) 56 Tryz.func18 rfl rfl rfl ?_
 intro fa F
 have M:=Mx.start w
 replace M:=M.argO 0 h1.blk (fun b e=>by cases e)
 replace M:=M.argO 1 hx0 (fun b e=>by cases e)
 refine zT fun _ hK21=>rm rfl F fun _ F22=>hK21 _ _ (zT fun _ hK23=>rm rfl F22 fun _ F24=>zh rfl rfl F24 rfl rfl (zE Tryz.func25 rfl) #[(zO g)] (zaa (F24 8 rfl)) (names_is g V s n hP.inv L hL w (h1.step M.below)) ?_)
 rintro _ w25 a25 ⟨tx25,b25⟩ F25
 have M25:=M.newTxt b25 2 tx25
 clear M tx25 b25
 obtain ⟨A25,c25,e25,-⟩:=id (M25.at_ 2 _ rfl)
 subst e25
 refine rm rfl F25 fun _ F26=>zh rfl rfl F26 rfl rfl (zE Tryz.func43 rfl) #[(zO gx)] (zaa (F26 10 rfl)) (hN gx gc V Lf sx nx hP.inv L hL w25 (h2.step M25.below)) ?_
 rintro _ w27 a27 ⟨tx27,b27⟩ F27
 have M27:=M25.newTxt b27 3 tx27
 clear M25 tx27 b27
 obtain ⟨A27,c27,e27,-⟩:=id (M27.at_ 3 _ rfl)
 subst e27
 refine rm rfl F27 fun _ F28=>rm rfl F28 fun _ F29=>hK23 _ _ (zSk fun _ hK30=>zSk fun _ hK31=>?_)
 have hD32:=(zu (M27.roB (k:=1) rfl) dnil)
 refine z4a F29 (SK [.inl (.slice A25 L.length c25),.inl (zI (L.length:Int)),.inl (.slice A27 L.length c27),.inl (zI (L.length:Int)),.inl (.bool false),.inl (.bool false),.inl (zO g),.inl (zI (E:Int)),.inl (zO gx),.inl (zI (E:Int)),.inl (.bool false),.inl (.bool false),.inl (.bool false),.inl (zO g),.inl (.bool dd),.inl (zO gx),.inl (.bool dd),.inl (.bool false),.inl (.bool false),.inl (.bool false),.inl (zO g),.inr (StK.cel V.c),.inl (zO gx),.inl (zO gx),.inl (zO gx),.inl (.slice (some ⟨gc,0,none⟩) 18 18),.inl (.bool true),.inl (.bool false),.inl (.bool false)]) 29 rfl (by kernel_rfl) ⟨hop0 F29,hopR F29 [(12,.slice A25 L.length c25)] fun ua uw hb ⟨e12,_⟩=>(y_lnG 45 Tryz.underlying45 _ rfl e12 rfl),hop0 F29,hopR F29 [(14,.slice A27 L.length c27)] fun ua uw hb ⟨e14,_⟩=>(y_lnG 45 Tryz.underlying45 _ rfl e14 rfl),hopR F29 [(13,zI (L.length:Int)),(15,zI (L.length:Int))] (v:=.bool false) fun ua uw hb ⟨e13,e15,_⟩=>(y_neI _ _ _ _ rfl e13 e15 Tryz.underlying3 (y_bneF rfl)),hop0 F29,hop0 F29,hopC F29 [(18,(zO g))] rfl (zE Tryz.func26 rfl) fun uw hb=>(boot_is g V s n hP.inv hP.era.1 uw (h1.step (M27.step hb).below)),hop0 F29,hopC F29 [(20,(zO gx))] rfl (zE Tryz.func44 rfl) fun uw hb=>(hbt▸rboot_any gx gc V Lf sx nx hP.inv uw (h2.step (M27.step hb).below)),hopR F29 [(19,zI (E:Int)),(21,zI (E:Int))] (v:=.bool false) fun ua uw hb ⟨e19,e21,_⟩=>(y_neI _ _ _ _ rfl e19 e21 Tryz.underlying3 (y_bneF rfl)),hop0 F29,hop0 F29,hop0 F29,hopC F29 [(25,(zO g))] rfl (zE Tryz.func32 rfl) fun uw hb=>(dead_is g V s n dd hdd uw (h1.step (M27.step hb).below)),hop0 F29,hopC F29 [(27,(zO gx))] rfl (zE Tryz.func45 rfl) fun uw hb=>(hdd▸rdead_any gx gc V Lf sx nx hP.inv uw (h2.step (M27.step hb).below)),hopR F29 [(26,.bool dd),(28,.bool dd)] (v:=.bool false) fun ua uw hb ⟨e26,e28,_⟩=>(y_neB _ _ rfl e26 e28 (by cases dd <;> rfl)),hop0 F29,hop0 F29,hop0 F29,?_,hop0 F29,hop0 F29,hop0 F29,hopP F29 hD32 0 (some gx),?_,hop0 F29,hop0 F29,trivial⟩ ?_
 ·intro ua uw hb hd
  have eg:ua.eval (.tmp 31)=.bool false:=hd 31 (by decide)
  have e32:ua.eval (.tmp 32)=(zO g):=hd 32 (by decide)
  exact z6b (F:=(StK.cel V.c).F) (zd rfl rfl rfl eg) hb.size rfl #[(zO g)] (zaa e32) (zE Tryz.func28 rfl) ((cells_r hP.inv uw (h1.step (M27.step hb).below)))
 ·intro ua uw hb hd
  have eg:ua.eval (.tmp 31)=.bool false:=hd 31 (by decide)
  have e33:(StK.cel V.c).F uw (ua.eval (.tmp 33)):=hd 33 (by decide)
  have e37:ua.eval (.tmp 37)=.slice (some ⟨gc,0,none⟩) 18 18:=hd 37 (by decide)
  exact z6b (F:=(StK.eq (.bool true)).F) (zd rfl rfl rfl eg) hb.size rfl #[(ua.eval (.tmp 33)),.slice (some ⟨gc,0,none⟩) 18 18] (zfa rfl e37) (zE Tryz.func38 rfl) (zad ((xcells_r e33 ⟨(h2.step (M27.step hb).below).hc,(h2.step (M27.step hb).below).hs,(h2.step (M27.step hb).below).hn⟩)))
 intro p33 a33 w33 b33 G33 y33
 obtain ⟨-,-,-,-,-,-,-,-,-,-,-,-,-,-,-,-,-,-,-,-,-,-,-,-,-,-,-,-,q28,-⟩:=y33
 have r28:p33 28=.bool false:=q28 (by decide)
 simp only [List.take,layV,Nat.zero_add,Nat.reduceAdd,r28] at G33
 have M33:=M27.kc b33
 clear F29 M27 r28 q28
 refine hK31 _ _ (wp_cond_false (G33 40 rfl) (wp_skip (hK30 _ _ (zSk fun _ hK34=>zT fun _ hK35=>rm rfl G33 fun _ F36=>hK35 _ _ (wp_block (zeb (α:=Nat) (n:=56) (G:=none) (w0:=w) (fun x=>[(5,.slice A25 L.length c25),(6,.slice A27 L.length c27),(7,zI (x:Int))]) (fun x=>[(0,blkO g 80 (vltA V s n)),(1,blkO gx 72 (#[.slice (some ⟨gc,0,none⟩) 18 18,zI Lf,.bool dd])),(2,txtR L (.slice A25 L.length c25)),(3,txtR L (.slice A27 L.length c27))]) (fun k x=>k=(L.length-x)∧(x≤L.length)) _ 0 ⟨rfl,(Nat.zero_le _)⟩ (F36.sb) (M33.sb) ?_))))))
 rintro k37 kn a37 w37 K37 ⟨ek37,I37⟩ F37 M37 hK37
 replace F37:Fx 56 a37 [(5,.slice A25 L.length c25),(6,.slice A27 L.length c27),(7,zI (kn:Int))]:=F37
 replace M37:Mx _ _ w37 [(0,blkO g 80 (vltA V s n)),(1,blkO gx 72 (#[.slice (some ⟨gc,0,none⟩) 18 18,zI Lf,.bool dd])),(2,txtR L (.slice A25 L.length c25)),(3,txtR L (.slice A27 L.length c27))]:=M37
 replace I37:kn≤L.length:=I37
 replace ek37:k37=(L.length-kn):=ek37
 by_cases hkl:kn<L.length
 ·obtain ⟨nm,hnm⟩:∃ x,L[kn]? = some x:=⟨_,List.getElem?_eq_getElem hkl⟩
  refine zSk fun _ hK38=>zT fun _ hK39=>rm rfl F37 fun _ F40=>rm rfl F40 fun _ F41=>zc (w':=w37) rfl rfl F41 rfl (zI (L.length:Int)) (y_lnG 45 Tryz.underlying45 _ rfl (F41 42 rfl) rfl) fun _ F42=>?_
  refine zc (w':=w37) rfl rfl F42 rfl (.bool true) (zka _ _ _ _ rfl (F42 41 rfl) (F42 43 rfl) (decide_eq_true (show (kn:Int)<(L.length:Int) by omega))) fun _ F43=>?_
  refine hK39 _ _ (wp_cond_true (F43 44 rfl) (wp_skip (hK38 _ _ (zSk fun _ hK44=>wp_block (zSk fun _ hK45=>?_)))))
  refine z4a F43 (SK [.inl (.slice A25 L.length c25),.inl (zI (kn:Int)),.inl ((ixV (.slice A25 L.length c25) kn)),.inl (.string nm),.inl (.slice A27 L.length c27),.inl (zI (kn:Int)),.inl ((ixV (.slice A27 L.length c27) kn)),.inl (.string nm),.inl (.bool false)]) 9 rfl (by kernel_rfl) ⟨hop0 F43,hop0 F43,hopR F43 [(47,.slice A25 L.length c25),(48,zI (kn:Int))] fun ua uw hb ⟨e47,e48,_⟩=>(y_ixTx _ _ rfl e47 ((M37.step hb).at_ 2 _ rfl) e48 rfl hkl),hopR F43 [(49,(ixV (.slice A25 L.length c25) kn))] fun ua uw hb ⟨e49,_⟩=>(y_ldTx _ rfl e49 ((M37.step hb).at_ 2 _ rfl) hnm),hop0 F43,hop0 F43,hopR F43 [(51,.slice A27 L.length c27),(52,zI (kn:Int))] fun ua uw hb ⟨e51,e52,_⟩=>(y_ixTx _ _ rfl e51 ((M37.step hb).at_ 3 _ rfl) e52 rfl hkl),hopR F43 [(53,(ixV (.slice A27 L.length c27) kn))] fun ua uw hb ⟨e53,_⟩=>(y_ldTx _ rfl e53 ((M37.step hb).at_ 3 _ rfl) hnm),hopR F43 [(50,.string nm),(54,.string nm)] (v:=.bool false) fun ua uw hb ⟨e50,e54,_⟩=>(y_neS _ _ _ rfl e50 e54 (by simp)),trivial⟩ ?_
  intro p47 a47 w47 b47 G47 y47
  obtain ⟨-,-,-,-,-,-,-,-,q8,-⟩:=y47
  have r8:p47 8=.bool false:=q8 (by decide)
  simp only [List.take,layV,Nat.zero_add,Nat.reduceAdd,r8] at G47
  have M47:=M37.kc b47
  clear F43 M37 r8 q8
  refine hK45 _ _ (wp_cond_false (G47 55 rfl) (wp_skip (hK44 _ _ (zR (rm rfl G47 fun _ F48=>zc (w':=w47) rfl rfl F48 rfl (zI ((kn+1:Nat):Int)) (zoa _ _ _ _ rfl (F48 45 rfl) rfl (by omega) (by omega)) fun _ F49=>?_)))))
  refine rm rfl F49 fun _ F50=>?_
  subst ek37
  exact hK37 _ (kn+1) _ _ (by omega) ⟨rfl,(by omega)⟩ (F50.sb) (M47.sb)
 ·refine zSk fun _ hK51=>zT fun _ hK52=>rm rfl F37 fun _ F53=>rm rfl F53 fun _ F54=>zc (w':=w37) rfl rfl F54 rfl (zI (L.length:Int)) (y_lnG 45 Tryz.underlying45 _ rfl (F54 42 rfl) rfl) fun _ F55=>?_
  refine zc (w':=w37) rfl rfl F55 rfl (.bool false) (zka _ _ _ _ rfl (F55 41 rfl) (F55 43 rfl) (decide_eq_false (show ¬(kn:Int)<(L.length:Int) by omega))) fun _ F56=>?_
  refine hK52 _ _ (wp_cond_false (F56 44 rfl) (wp_exit ?_))
  simp only [Exit.then,Exit.inBlock,↓reduceIte,Nat.reduceEqDiff]
  refine hK34 _ _ (zT fun _ hK57=>?_)
  exact rm rfl F56 fun _ F58=>hK57 _ _ (wp_ret (bodyPost_ret (res1 rfl (F58.get rfl)) F58.defers ⟨rfl,M37.below⟩))
section
open Go.Shelf
theorem nam_cnt {V:VltN} {k:Nat} {ca ct:Int} {cl:List UInt8} (hC:cntR V (2*k) 2=(ca,ct,cl)):zfc V (2*k)=rdOk cl∧(rdOk cl=true→z0a V (2*k)=rdR cl):=by
 rcases cnt_any hC with ⟨h1,_,_,rfl⟩ | ⟨h1,_,_,rfl⟩
 ·exact ⟨by unfold zfc;rw [h1,Bool.true_and],fun _=>by unfold z0a;rw [if_pos h1]⟩
 ·exact ⟨by unfold zfc;rw [h1,rdOk_nil];rfl,fun h=>by rw [rdOk_nil] at h;cases h⟩
theorem srt_app (L:List ByteArray) (x:ByteArray):srtL (L++[x])=insR (srtL L) x:=by unfold srtL;rw [List.foldl_append];rfl
theorem ins_go {D:List ByteArray} {x y:ByteArray} {k:Nat} (hk:0<k) (hy:D[k-1]? = some y) (h:insR D x=insR (D.take k) x++D.drop k) (hl:Op.bytesLess x.toList y.toList=true):insR D x=insR (D.take (k-1)) x++D.drop (k-1):=by
 obtain ⟨j,rfl⟩:∃ j,k=j+1:=⟨k-1,by omega⟩
 replace hy:D[j]? = some y:=hy
 obtain ⟨h1,h2⟩:=List.getElem?_eq_some_iff.1 hy
 rw [Nat.add_sub_cancel]
 rw [h,List.take_succ_eq_append_getElem h1,h2,insR_less hl,List.append_assoc,List.drop_eq_getElem_cons h1,h2]
 rfl
theorem ins_end {D:List ByteArray} {x:ByteArray} {k:Nat} (h:insR D x=insR (D.take k) x++D.drop k) (hl:k=0∨∃ y,0<k∧D[k-1]? = some y∧Op.bytesLess x.toList y.toList=false):insR D x=(([]++D.take k)++[x])++D.drop k:=by
 rcases hl with rfl | ⟨y,hk,hy,hb⟩
 ·rw [h];rfl
 ·obtain ⟨j,rfl⟩:∃ j,k=j+1:=⟨k-1,by omega⟩
  replace hy:D[j]? = some y:=hy
  obtain ⟨h1,h2⟩:=List.getElem?_eq_some_iff.1 hy
  rw [h,List.take_succ_eq_append_getElem h1,h2,insR_no hb,List.nil_append]
def PcT (w:World) (L:List ByteArray) (u:Value):Prop:=∃ A c,u=.slice A L.length c∧(0<L.length→∃ g o cur,A=some ⟨g,o,none⟩∧w.heap[g]? = some (.cells cur 9 (0,0))∧∀ j s,L[j]? = some s→cur[o+j]? = some (.string s))
def slD (A:Option Addr) (c n k:Nat):Value:=.slice (if c=k then A else A.map (·.add k)) (n-k) (c-k)
theorem row_str {w:World} {D:List ByteArray} {A:Option Addr} {c:Nat} (h:w.ownsRow 0 9 1 (.slice A D.length c) D.length (strV D)):D.length≤c∧(0<D.length→∃ g cur,A=some ⟨g,0,none⟩∧w.heap[g]? = some (.cells cur 9 (0,0))∧∀ j s,D[j]? = some s→cur[0+j]? = some (.string s)):=by
 obtain ⟨A',c',e,h1,h2,h3⟩:=row_slice h
 injection e with q1 q2 q3
 subst q1 q3
 refine ⟨h1,fun h0=>?_⟩
 obtain ⟨g,cur,e2,hg,ht⟩:=h3 h0
 refine ⟨g,cur,e2,hg,fun j s hj=>?_⟩
 have h5:(strV D)[j]? = some (.string s):=by unfold strV;rw [List.getElem?_map,hj];rfl
 rw [←ht,List.getElem?_take] at h5
 split at h5
 ·rw [Nat.zero_add,←Array.getElem?_toList];exact h5
 ·cases h5
theorem pc_take {w:World} {D:List ByteArray} {A:Option Addr} {c k:Nat} (h:w.ownsRow 0 9 1 (.slice A D.length c) D.length (strV D)) (hk:k≤D.length):PcT w (D.take k) (.slice A k c):=by
 obtain ⟨h1,h2⟩:=row_str h
 refine ⟨A,c,by rw [List.length_take,Nat.min_eq_left hk],fun h0=>?_⟩
 rw [List.length_take] at h0
 obtain ⟨g,cur,e,hg,hc⟩:=h2 (by omega)
 refine ⟨g,0,cur,e,hg,fun j s hj=>hc j s ?_⟩
 rw [List.getElem?_take] at hj
 split at hj
 ·exact hj
 ·cases hj
theorem pc_drop {w:World} {D:List ByteArray} {A:Option Addr} {c k:Nat} (h:w.ownsRow 0 9 1 (.slice A D.length c) D.length (strV D)) (hk:k≤D.length):PcT w (D.drop k) (slD A c D.length k):=by
 obtain ⟨h1,h2⟩:=row_str h
 refine ⟨_,c-k,by unfold slD;rw [List.length_drop],fun h0=>?_⟩
 rw [List.length_drop] at h0
 obtain ⟨g,cur,rfl,hg,hc⟩:=h2 (by omega)
 refine ⟨g,k,cur,?_,hg,fun j s hj=>?_⟩
 ·rw [if_neg (by omega)];simp [zna]
 ·rw [List.getElem?_drop] at hj
  have:=hc (k+j) s hj
  rwa [Nat.zero_add] at this
theorem pc_lit {w:World} {x:ByteArray} {u:Value} (h:(slcR 9 1 #[.string x] u).F w):PcT w [x] u:=by
 obtain ⟨g,e,hg⟩:=h
 refine ⟨_,1,e,fun _=>⟨g,0,_,rfl,hg,fun j s hj=>?_⟩⟩
 match j,hj with
 | 0,hj=>cases hj;rfl
section
variable {G:Option Nat} {w0 w w':World} {R:List (Nat×Res)} {v u:Value} {i k:Nat} {a:Act} {o:Oper} {A:Option Addr} {n c:Nat}
theorem run_row0 (M:Mx G w0 w R) (i:Nat) (ho:o.op=.buildSlice 45 0 #[]):∃ v w',(execOp a.eval o).run Tryz.prog w=.ok (.value v) w'∧Mx G w0 w' ((i,rowR 9 1 ([]:List ByteArray).length (strV []) v)::R):=by
 refine ⟨.slice (some ⟨w.heap.size,0,none⟩) 0 0,w.alloc (.cells #[] 9),?_,M.fresh (zqa w _) i _ ⟨rfl,.inr ⟨w.heap.size,0,#[],rfl,Nat.zero_le _,heap_alloc_new w _,Nat.le_refl _,Nat.zero_le _,rfl,rfl⟩⟩ row_dep fun b hb=>?_⟩
 ·unfold execOp
  simp only [ho,List.map_toArray,List.map_nil]
  kernel_rfl
 ·obtain rfl:w.heap.size=b:=by simpa [rowR,ofp,Value.ownBlock] using hb
  exact ⟨Nat.le_refl _,by simp⟩
theorem Mx.sub_self (M:Mx G w0 w R) {r:Res} (h:look R k=some r):Mx G w0 w ((k,r)::R):=M.drop fun i s e=>by
 rw [zx] at e
 split at e
 ·rename_i q;cases e;subst q;exact h
 ·exact e
theorem run_appP (M:Mx G w0 w R) {D L:List ByteArray} (hk:look R k=some (rowR 9 1 D.length (strV D) v)) (hu:PcT w L u) (hn:D.length+L.length≤100) (s x:Operand) (ho:o.op=.call { callee:=.builtin .append,args:=#[s,x],argTypes:=#[45,45] }) (hs:a.eval s=v) (hx:a.eval x=u):
  ∃ v' w',(execOp a.eval o).run Tryz.prog w=.ok (.value v') w'∧Mx G w0 w' ((k,rowR 9 1 (D++L).length (strV (D++L)) v')::R):=by
 have hown:w.ownsRow 0 9 1 v D.length (strV D):=M.at_ k _ hk
 obtain ⟨A,c,rfl,hA⟩:=hu
 obtain ⟨i,hi⟩:∃ i,Tryz.prog.info? 9=some i:=by
  have:(Tryz.prog.info? 9).isSome=true:=by kernel_rfl
  exact Option.isSome_iff_exists.1 this
 have hinf:(Tryz.prog.info? 9).map (fun i=>(i.size,i.bytes,i.zero.map (·.cells.size)))=some (1,16,some 1):=by kernel_rfl
 rw [hi] at hinf
 have hinf:(i.size,i.bytes,i.zero.map (·.cells.size))=(1,16,some 1):=Option.some.inj hinf
 obtain ⟨z,hz,hzs⟩:∃ z,i.zero=some z∧z.cells.size=1:=by
  cases hq:i.zero with
  | none=>rw [hq] at hinf;exact absurd (congrArg (fun x=>x.2.2) hinf) (by simp)
  | some z=>rw [hq] at hinf;exact ⟨z,rfl,Option.some.inj (congrArg (fun x=>x.2.2) hinf)⟩
 have hsize:i.size=1:=by injection hinf
 have hbytes:i.bytes=16:=by injection hinf with _ h;injection h
 have hT:Tryz.prog.underlying 45=some (.slice 9):=Tryz.underlying45
 have fin:∀ v' w',(Builtin.append_ #[45,45] o.type #[v,.slice A L.length c]).run Tryz.prog w=.ok v' w'→(execOp a.eval o).run Tryz.prog w=.ok (.value v') w':=fun v' w' h=>by
  unfold execOp
  simp only [ho,resolve,invoke,builtin,Sem.run_bind,Sem.run_pure,Result.andThen_ok,List.map_toArray,List.map_cons,List.map_nil,hs,hx,h]
 by_cases h0:L=[]
 ·subst h0
  obtain ⟨A2,c2,rfl,h1,-,-⟩:=row_slice hown
  have hsrc:Go.Src Tryz.prog i.size 45 (.slice A ([]:List ByteArray).length c) 0 [] w:=by
   cases A with
   | none=>exact Go.Src.ofNil w hT c
   | some ad=>exact Go.Src.ofSlice w hT ad 0 c [] (by simp) (fun j u h=>by cases h) (fun u h=>by cases h)
  refine ⟨_,w,fin _ _ (run_append_nothing w _ _ _ _ i hT hi A2 D.length c2 h1 _ hsrc),?_⟩
  rw [List.append_nil]
  exact M.sub_self (k:=k) hk
 ·have hl:0<L.length:=List.length_pos_iff.2 h0
  obtain ⟨g,q,cur,rfl,hg,hc⟩:=hA hl
  obtain ⟨g',cap,w',q1,q2,q3,q4,q5⟩:=run_append_lies (P:=Tryz.prog) w 45 o.type 0 9 i z 1 16 hT hi hz hsize hbytes hzs (by decide) v D.length (strV D) hown ⟨g,q,none⟩ L.length c (strV L) (by unfold strV;simp) (fun j u hj=>by
   have hu2:∃ s,L[j]? = some s∧u=.string s:=by
    unfold strV at hj
    rw [List.getElem?_map] at hj
    cases hs2:L[j]? with
    | none=>rw [hs2] at hj;cases hj
    | some s=>rw [hs2] at hj;cases hj;exact ⟨s,rfl,rfl⟩
   obtain ⟨s,hs2,rfl⟩:=hu2
   rw [zna]
   exact y_cell hg (hc j s hs2)) (fun u hu=>by
   unfold strV at hu
   obtain ⟨s,-,rfl⟩:=List.mem_map.1 hu
   rfl) hl (by unfold maxLen;omega) (by omega) (Nat.zero_le _) _ rfl
  refine ⟨_,w',fin _ _ q1,M.write hk rfl q3 (fun _ e=>e) _ (by
   rw [List.length_append]
   have:strV (D++L)=strV D++strV L:=by unfold strV;rw [List.map_append]
   rw [this];exact q2) row_dep fun b hb=>?_⟩
  obtain rfl:g'=b:=by simpa [rowR,ofp,Value.ownBlock] using hb
  exact ⟨q5,q4.imp id fun e=>by rw [e];exact Nat.le_refl _⟩
theorem str_size (w:World):(sizeOf 9).run Tryz.prog w=.ok 1 w:=size_of_info (by kernel_rfl) w
theorem str_under:Tryz.prog.underlying 45=some (.slice (Tryz.prog.elem 45)):=by
 rw [show Tryz.prog.elem 45=9 by kernel_rfl];exact Tryz.underlying45
theorem y_slS1 (x y:Operand) (ho:o.op=.slice 45 x none (some y) none) (hx:a.eval x=.slice A n c) {z:Int} {j:Nat} (hy:a.eval y=zI z) (hz:z=(j:Int)) (hc:j≤c):(execOp a.eval o).run Tryz.prog w=.ok (.value (.slice A j c)) w:=by
 subst hz
 have e1:Tryz.prog.elem 45=9:=by kernel_rfl
 unfold execOp
 simp only [ho,hx]
 simp only [Option.map_some,Option.map_none,hy]
 rw [Sem.run_bind,run_sliceAt_slice _ _ _ _ _ _ str_under,run_slice_h _ _ _ _ _ str_under .i64 j (by omega) (by omega),e1,str_size]
 simp only [Result.andThen_ok,sliced,Int.toNat_natCast,Nat.mul_one,Sem.run_pure,Nat.sub_zero,map_add0,ite_self]
theorem y_slS2 (x y:Operand) (ho:o.op=.slice 45 x (some y) none none) (hx:a.eval x=.slice A n c) {z:Int} {j:Nat} (hy:a.eval y=zI z) (hz:z=(j:Int)) (hc:j≤n):(execOp a.eval o).run Tryz.prog w=.ok (.value (slD A c n j)) w:=by
 subst hz
 have e1:Tryz.prog.elem 45=9:=by kernel_rfl
 unfold execOp
 simp only [ho,hx]
 simp only [Option.map_some,Option.map_none,hy]
 rw [Sem.run_bind,run_sliceAt_slice _ _ _ _ _ _ str_under,run_slice_l _ _ _ _ _ str_under .i64 j (by omega) (by omega),e1,str_size]
 simp only [Result.andThen_ok,sliced,Int.toNat_natCast,Nat.mul_one,Sem.run_pure,slD]
theorem y_ldRs (M:Mx G w0 w R) {D:List ByteArray} (hk:look R k=some (rowR 9 1 D.length (strV D) (.slice A D.length c))) (x:Operand) (ho:o.op=.load 9 x) {j:Nat} {s:ByteArray} (hx:a.eval x=ixG (.slice A D.length c) (j*1)) (hs:D[j]? = some s):(execOp a.eval o).run Tryz.prog w=.ok (.value (.string s)) w:=by
 obtain ⟨g,cur,rfl,hg,hc⟩:=(row_str (M.rowF hk)).2 (by have:=(List.getElem?_eq_some_iff.1 hs).1;omega)
 exact zda _ _ ho (show a.eval x=(zP g j) from hx.trans (by simp [ixG,zna])) hg (by have:=hc j s hs;rwa [Nat.zero_add] at this) Tryz.underlying9 rfl
theorem look_filt {q:Nat}:∀ (R:List (Nat×Res)) (i:Nat),look (R.filter fun p=>p.1 != q) i=if i=q then none else look R i
 | [],i=>by split <;> rfl
 | p::R,i=>by
  obtain ⟨j,r⟩:=p
  have ih:=look_filt (q:=q) R i
  rw [List.filter_cons]
  by_cases h:j=q
  ·subst h
   rw [if_neg (by simp),ih,zx]
   by_cases e:i=j
   ·rw [if_pos e,if_pos e]
   ·rw [if_neg e,if_neg e,if_neg (fun h=>e h.symm)]
  ·rw [if_pos (by simpa using h),zx,zx,ih]
   by_cases e:j=i
   ·subst e;rw [if_pos rfl,if_neg h,if_pos rfl]
   ·rw [if_neg e,if_neg e]
theorem Mx.moved (M:Mx G w0 w R) {q row:Nat} {r:Res} (h:look R q=some r) (hne:q≠row):Mx G w0 w ((row,r)::R.filter fun p=>p.1 != q):=by
 refine M.ren (fun i=>if i=row then q else i) (fun i s e=>?_) (fun i j s t e1 e2 hij=>?_)
 ·rw [zx] at e
  by_cases hi:row=i
  ·subst hi;rw [if_pos rfl] at e ⊢;cases e;exact h
  ·rw [if_neg hi,look_filt] at e
   split at e
   ·cases e
   ·rw [if_neg (fun h=>hi h.symm)];exact e
 ·have key:∀ j t,look ((row,r)::R.filter fun p=>p.1 != q) j=some t→j≠row→j≠q:=fun j t e hj hq=>by
   rw [zx,if_neg (fun h=>hj h.symm),look_filt,if_pos hq] at e
   cases e
  by_cases hi:i=row
  ·subst hi
   rw [if_pos rfl,if_neg (fun h=>hij h.symm)]
   exact fun e=>key j t e2 (fun h=>hij h.symm) e.symm
  ·rw [if_neg hi]
   by_cases hj:j=row
   ·rw [if_pos hj];exact key i s e1 hi
   ·rw [if_neg hj];exact hij
end
theorem zwc {R:List (Nat×Res)} {i:Nat} {c:Bool} {r s:Res} (hc:c=true) (h:look R i=some r):look R i=some (zha c r s):=by subst hc;exact h
theorem names_row {w0 w:World} {R:List (Nat×Res)} (M:Mx none w0 w R) {k:Nat} {D:List ByteArray} {A:Option Addr} {c:Nat} (hk:look R k=some (rowR 9 1 D.length (strV D) (.slice A D.length c))) (h0:0<D.length):∃ gr E,A=some ⟨gr,0,none⟩∧w0.heap.size≤gr∧w.heap[gr]? = some (.cells (rowA D E) 9 (0,0)):=by
 obtain ⟨gr,c',E,e,M2⟩:=M.rowBlk hk h0 rfl
 injection e with q1 q2 q3
 subst q1
 have hl:look ((k,blkR gr 9 (rowA D E))::R) k=some (blkR gr 9 (rowA D E)):=by rw [zx,if_pos rfl]
 exact ⟨gr,E,rfl,(M2.own k _ hl rfl gr rfl).resolve_right (fun e=>by cases e),M2.blk hl⟩
end
end Go.Proofs.YtmjbnmbobocpdaaGreat
