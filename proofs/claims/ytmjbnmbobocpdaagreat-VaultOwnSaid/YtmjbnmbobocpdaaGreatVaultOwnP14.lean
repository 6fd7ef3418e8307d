/- What VaultOwn stands on, part 14. -/
import Derived.Test.YtmjbnmbobocpdaaGreatVaultOwnP1
import Derived.Test.YtmjbnmbobocpdaaGreatVaultOwnP2
import Derived.Test.YtmjbnmbobocpdaaGreatVaultOwnP3
import Derived.Test.YtmjbnmbobocpdaaGreatVaultOwnP4
import Derived.Test.YtmjbnmbobocpdaaGreatVaultOwnP5
import Derived.Test.YtmjbnmbobocpdaaGreatVaultOwnP6
import Derived.Test.YtmjbnmbobocpdaaGreatVaultOwnP7
import Derived.Test.YtmjbnmbobocpdaaGreatVaultOwnP8
import Derived.Test.YtmjbnmbobocpdaaGreatVaultOwnP9
import Derived.Test.YtmjbnmbobocpdaaGreatVaultOwnP10
import Derived.Test.YtmjbnmbobocpdaaGreatVaultOwnP11
import Derived.Test.YtmjbnmbobocpdaaGreatVaultOwnP12
import Derived.Test.YtmjbnmbobocpdaaGreatVaultOwnP13
set_option maxRecDepth 100000
set_option maxHeartbeats 8000000
set_option linter.unusedVariables false
set_option linter.unusedSimpArgs false
namespace Go.Proofs.YtmjbnmbobocpdaaGreat
open Go.ChangeShapes Go.WideShapes Go.ChangeAt Go.RowKit
theorem lay_rs (V:VltN) (N:Nat) (sb:List UInt8) (u:Value) (s:Nat→Value):∀ j,j<18→(((zkc V N sb).c j).s=(V.c j).s∧s j=s j)∨(((zkc V N sb).c j).s=sb∧s j=u)∨(((zkc V N sb).c j).s=[]∧s j=zN):=fun j _=>by
 rw [show (zkc V N sb).c=putC V.c N ⟨(V.c N).s,sb,true⟩ from rfl]
 by_cases e:j=N
 ·subst e;exact .inl ⟨by rw [zec],rfl⟩
 ·exact .inl ⟨by rw [ztc _ _ e],rfl⟩
theorem lay_rn (V:VltN) (N:Nat) (sb:List UInt8) (u:Value) (n:Nat→Value):∀ j,j<18→(((zkc V N sb).c j).n=(V.c j).n∧putN n N u j=n j)∨(((zkc V N sb).c j).n=sb∧putN n N u j=u)∨(((zkc V N sb).c j).n=[]∧putN n N u j=zN):=fun j _=>by
 rw [show (zkc V N sb).c=putC V.c N ⟨(V.c N).s,sb,true⟩ from rfl]
 by_cases e:j=N
 ·subst e;exact .inr (.inl ⟨by rw [zec],putN_at ..⟩)
 ·exact .inl ⟨by rw [ztc _ _ e],if_neg e⟩
theorem keep_c (V:VltN) (N:Nat) (sb:List UInt8):(keepV (zkc V N sb) N).c=putC (putC V.c N ⟨(V.c N).s,sb,true⟩) N ⟨sb,[],false⟩:=by
 unfold keepV zkc
 dsimp only
 rw [zec]
theorem keep_rs (V:VltN) (N:Nat) (sb:List UInt8) (u:Value) (s:Nat→Value):∀ j,j<18→((putC (putC V.c N ⟨(V.c N).s,sb,true⟩) N ⟨sb,[],false⟩ j).s=(V.c j).s∧putN s N u j=s j)∨((putC (putC V.c N ⟨(V.c N).s,sb,true⟩) N ⟨sb,[],false⟩ j).s=sb∧putN s N u j=u)∨((putC (putC V.c N ⟨(V.c N).s,sb,true⟩) N ⟨sb,[],false⟩ j).s=[]∧putN s N u j=zN):=fun j _=>by
 by_cases e:j=N
 ·subst e;exact .inr (.inl ⟨by rw [zec],putN_at ..⟩)
 ·exact .inl ⟨by rw [ztc _ _ e,ztc _ _ e],if_neg e⟩
theorem keep_rn (V:VltN) (N:Nat) (sb:List UInt8) (u:Value) (n:Nat→Value):∀ j,j<18→((putC (putC V.c N ⟨(V.c N).s,sb,true⟩) N ⟨sb,[],false⟩ j).n=(V.c j).n∧putN (putN n N u) N (zN) j=n j)∨((putC (putC V.c N ⟨(V.c N).s,sb,true⟩) N ⟨sb,[],false⟩ j).n=sb∧putN (putN n N u) N (zN) j=u)∨((putC (putC V.c N ⟨(V.c N).s,sb,true⟩) N ⟨sb,[],false⟩ j).n=[]∧putN (putN n N u) N (zN) j=zN):=fun j _=>by
 by_cases e:j=N
 ·subst e;exact .inr (.inr ⟨by rw [zec],putN_at ..⟩)
 ·exact .inl ⟨by rw [ztc _ _ e,ztc _ _ e],(if_neg e).trans (if_neg e)⟩
theorem cel_off {R:List (Nat×Res)} {i g:Nat} {T:TypeId} {b:Bool} {x x2 y:Array Value} (hb:b=false) (h:look R i=some (blkR g T (cond b x y))):look R i=some (blkR g T (cond b x2 y)):=by subst hb;exact h
theorem rstep_is (gx gc:Nat) (L:Int) (dd:Bool) (hd:dd=false) (b:Bool) (hb:(!decide (L=0))=b) (hL3:L<9223372036854775808) (w:World) (hx:w.heap[gx]? = some (.cells (#[.slice (some ⟨gc,0,none⟩) 18 18,zI L,.bool dd]) 72 (0,0))):
  Calls Tryz.prog 82 #[(zO gx)] w fun e w'=>∃ t,e=.returned t∧t=.bool b∧w'.heap[gx]? = some (.cells (#[.slice (some ⟨gc,0,none⟩) 18 18,zI (stpL L),.bool (!b)]) 72 (0,0))∧w.grownBy w' (some gx):=by
 subst hd hb
 rw [Bool.not_not]
 exact rstep_any gx gc L hL3 w hx
theorem put_fp {v:World} {s n s' n':Nat→Value} {u:Value} (hu:∀ q,bfp u q→v.heap.size≤q) {N:Nat} (hs:s'=s∨s'=putN s N u) (hn:n'=putN (putN n N u) N (zN)∨n'=putN n N u):∀ b,zo 18 s' n' b→zo 18 s n b∨v.heap.size≤b:=fun b ⟨i,hi,hb⟩=>by
 have e:∀ {f:Nat→Value} {x:Value},bfp (putN f N x i) b→bfp x b∨bfp (f i) b:=fun {f x} h=>by
  unfold putN at h
  split at h
  ·exact .inl h
  ·exact .inr h
 rcases hb with hb | hb
 ·rcases hs with rfl | rfl
  ·exact .inl ⟨i,hi,.inl hb⟩
  ·exact (e hb).elim (fun h=>.inr (hu b h)) fun h=>.inl ⟨i,hi,.inl h⟩
 ·rcases hn with rfl | rfl
  ·exact (e hb).elim (fun h=>absurd h (zpa b)) fun h=>(e h).elim (fun h=>.inr (hu b h)) fun h=>.inl ⟨i,hi,.inr h⟩
  ·exact (e hb).elim (fun h=>.inr (hu b h)) fun h=>.inl ⟨i,hi,.inr h⟩
theorem xwrite_any (gx gc:Nat) {K:Nat} (V:VltN) (s n:Nat→Value) (hi:InvV K V) (hK:K<255) (hL:LeftOk V) (hdd:V.dd=false) (p:Nat) (hp:p<9) (l:List UInt8) (lv:Value) (hl:l.length≤1000) (w:World) (h:XOk w gx gc V s n) (hB:IsB w l lv) (hlv:∀ b,bfp lv b→b≠gx∧b≠gc):
  Calls Tryz.prog 55 #[(zO gx),zI (p:Int),lv] w fun e w'=>∃ t,e=.returned t∧t=zI (if (sayW V (2*p) l).2=true then 0 else 10)∧XTo w w' gx gc (zo 18 s n) (sayW V (2*p) l).1:=by
 have hi:=hi
 obtain ⟨L,hLv⟩:∃ x,zhc V=x:=⟨_,rfl⟩
 have hL3:L<9223372036854775808:=hLv▸left_lt hL
 obtain ⟨ca,ct,cl,hC⟩:∃ a t l,cntR V (2*p) 2=(a,t,l):=⟨_,_,_,rfl⟩
 have hnx:=nxt_cnt hC
 have hnb:=nxtT_bd hi (2*p)
 have hnp:=nxtP_in V (2*p)
 obtain ⟨T,hT⟩:∃ T:Nat,ct+1=(T:Int):=⟨(ct+1).toNat,by omega⟩
 obtain ⟨b1,hb1⟩:∃ x,(!decide (L=0))=x:=⟨_,rfl⟩
 have hS3:stpL L<9223372036854775808:=by unfold stpL;split <;> omega
 obtain ⟨b2,hb2⟩:∃ x,(!decide (stpL L=0))=x:=⟨_,rfl⟩
 refine zk (args:=[(zO gx),zI (p:Int),lv]) 65 Tryz.func55 rfl rfl rfl ?_
 intro fa F
 have M:=(h.two.part 3 (bytR l lv) hB z2b rfl (k:=5) rfl rfl (fun b hb=>⟨hlv b hb,hB.lt hb⟩))
 rw [hLv,hdd] at M
 refine zT fun _ hK1=>rm rfl F fun _ F2=>hK1 _ _ (zT fun _ hK3=>rm rfl F2 fun _ F4=>rm rfl F4 fun _ F5=>zh rfl rfl F5 rfl rfl (zE Tryz.func62 rfl) #[(zO gx),zI (p:Int)] (zfa (F5 12 rfl) (F5 13 rfl)) (rcounts_is gx gc V L s n hi p hp hC w (M.hasX (kx:=0) (kc:=1) (kr:=2) (by rw [hdd];rfl) rfl rfl)) ?_)
 rintro _ w6 a6 ⟨S6,rfl,hS6,b6⟩ F6
 have M6:=M.step b6
 refine zB 7 [(0,(zO gx)),(1,zI (p:Int)),(2,lv),(6,zI 0),(7,zI ca),(8,zI ct)] [] dnil [] F6 fun _ F7=>?_
 refine hK3 _ _ (zT fun _ hK8=>rm rfl F7 fun _ F9=>zc (w':=w6) rfl rfl F9 rfl (zI ((2*p:Nat):Int)) (y_mulI _ _ _ _ rfl rfl (F9 18 rfl) (by omega) (by omega)) fun _ F10=>?_)
 refine rm rfl F10 fun _ F11=>hK8 _ _ (zSk fun K12 hK12=>?_)
 have J12:∀ (N:Nat) (aJ:Act) (wJ:World),(nxtP V (2*p)=N)→Fx 65 aJ [(0,(zO gx)),(1,zI (p:Int)),(2,lv),(8,zI ct),(10,zI (N:Int))]→Mx none ({ w with heap:=#[] }:World) wJ [(0,blkR gx 72 (#[.slice (some ⟨gc,0,none⟩) 18 18,zI L,.bool false])),(1,blkR gc 63 (celA V.c s n)),(2,zua 0 18 V.c s n),(3,bytR l lv),(5,staysR w gx gc)]→K12 aJ wJ:=by
  intro N a12 w12 I12 F12 M12
  refine hK12 _ _ ?_
  have hN:=I12
  have hN18:N<18:=by omega
  obtain ⟨sb,hsb⟩:∃ x,z7a zr N (T:Int) l=x:=⟨_,rfl⟩
  have hsv:z7a zr N (nxtT V (2*p)) l=sb:=by rw [hnx.2,hT];exact hsb
  refine zSk fun _ hK13=>zT fun _ hK14=>rm rfl F12 fun _ F15=>zh rfl rfl F15 rfl rfl (zE Tryz.func82 rfl) #[(zO gx)] (zaa (F15 25 rfl)) (rstep_is gx gc L false rfl b1 hb1 hL3 w12 (M12.blk (k:=0) rfl)) ?_
  rintro _ w16 a16 ⟨rfl,hc16,hg16⟩ F16
  have M16:=M12.put (k:=0) rfl hg16 hc16
  clear M12 hg16 hc16
  cases b1
  ·refine zc (w':=w16) rfl rfl F16 rfl (.bool true) (zgb _ _ rfl (F16 26 rfl)) fun _ F17=>?_
   refine hK14 _ _ (wp_cond_true (F17 27 rfl) (zT fun _ hK18=>rm rfl F17 fun _ F19=>hK18 _ _ (wp_ret ?_)))
   try simp only [Exit.then,Exit.inBlock,Exit.jump]
   exact bodyPost_ret (res1 rfl (F19.get rfl)) F19.defers ⟨_,rfl,(by
    have hL0:L=0:=by simpa using hb1
    have hf1:zpc V=true:=by rw [left_fall,hLv,hL0];rfl
    rw [say_1 hf1]
    exact ⟨rfl,M16.xto h.ne rfl rfl rfl rfl (by rw [show zhc (deadV V)=zhc V from rfl,hLv,hL0];rfl) rfl fun b hb=>.inl hb⟩)⟩
  ·refine zc (w':=w16) rfl rfl F16 rfl (.bool false) (zgb _ _ rfl (F16 26 rfl)) fun _ F20=>?_
   refine hK14 _ _ (wp_cond_false (F20 27 rfl) (wp_skip (hK13 _ _ (zSk fun _ hK21=>?_))))
   refine zva F20 [fun vE=>vE=(zO gx),fun vE=>vE=(zO gx),fun vE=>vE=(zO gx),fun vE=>vE=.slice (some ⟨gc,0,none⟩) 18 18,fun vE=>vE=zI (N:Int),fun vE=>vE=(zO gx),fun vE=>vE=(zO gx),fun vE=>vE=(zO gx),fun vE=>vE=.slice (some ⟨gc,0,none⟩) 18 18,fun vE=>vE=zI (N:Int),fun vE=>vE=zI (N:Int),fun vE=>vE=zI ct,fun vE=>vE=zI (T:Int),fun vE=>vE=lv,fun _=>True,fun vE=>vE=(zP gc (3*N)),fun vE=>vE=(zP gc (3*N+1)),fun vE=>vE=undef] (JM none ({ w with heap:=#[] }:World) fun SV pV=>[(0,blkR gx 72 (#[.slice (some ⟨gc,0,none⟩) 18 18,zI (stpL L),.bool false])),(1,blkR gc 63 (cond (SV 17) ((celA V.c s (putN n N ((pV 14))))) (celA V.c s n))),(2,zua 0 18 V.c s n),(3,bytR l lv),(5,staysR w gx gc),(6,z5a (SV 14) (ownR sb (pV 14)))]) 18 rfl (by kernel_rfl) rfl ⟨trivial,trivial,trivial,trivial,trivial,trivial,trivial,trivial,trivial,trivial,trivial,trivial,trivial,trivial,trivial,trivial,trivial,fun _=>Iff.rfl,trivial⟩ (fun p=>((M16.step (zsa _)).triv 6).sub ⟨rfl,rfl,rfl,rfl,rfl,rfl,trivial⟩) ⟨?_,?_,?_,?_,?_,?_,?_,?_,?_,?_,?_,?_,?_,?_,?_,?_,?_,?_,trivial⟩ ?_
   ·intro ua uw SV pV M0 hk hn hd
    have M:Mx none ({ w with heap:=#[] }:World) uw _:=M0
    have e0:ua.eval (.tmp 0)=(zO gx):=(show ua.eval (.tmp 0)=_ from hd 0 (by decide)).trans (F20 0 rfl)
    exact ze rfl (zO gx) (zla _ (.inl rfl) e0) rfl (M.sb)
   ·intro ua uw SV pV M0 hk hn hd
    have M:Mx none ({ w with heap:=#[] }:World) uw _:=M0
    have e28:ua.eval (.tmp 28)=(zO gx):=zQ1 (hd 28 (by decide))
    exact ze rfl (zO gx) (by unfold execOp;simp only [e28];kernel_rfl) rfl (M.sb)
   ·intro ua uw SV pV M0 hk hn hd
    have M:Mx none ({ w with heap:=#[] }:World) uw _:=M0
    have e29:ua.eval (.tmp 29)=(zO gx):=zQ1 (hd 29 (by decide))
    exact ze rfl (zO gx) (y_fa (off:=0) rfl e29 (by kernel_rfl) rfl) rfl (M.sb)
   ·intro ua uw SV pV M0 hk hn hd
    have M:Mx none ({ w with heap:=#[] }:World) uw _:=M0
    have e30:ua.eval (.tmp 30)=(zO gx):=zQ1 (hd 30 (by decide))
    exact ze rfl (.slice (some ⟨gc,0,none⟩) 18 18) (zda _ _ rfl e30 (M.blk (k:=0) rfl) rfl Tryz.underlying49 rfl) rfl (M.sb)
   ·intro ua uw SV pV M0 hk hn hd
    have M:Mx none ({ w with heap:=#[] }:World) uw _:=M0
    have e10:ua.eval (.tmp 10)=zI (N:Int):=(show ua.eval (.tmp 10)=_ from hd 10 (by decide)).trans (F20 10 rfl)
    exact ze rfl (zI (N:Int)) (zla _ (.inl rfl) e10) rfl (M.sb)
   ·intro ua uw SV pV M0 hk hn hd
    have M:Mx none ({ w with heap:=#[] }:World) uw _:=M0
    have e0:ua.eval (.tmp 0)=(zO gx):=(show ua.eval (.tmp 0)=_ from hd 0 (by decide)).trans (F20 0 rfl)
    exact ze rfl (zO gx) (zla _ (.inl rfl) e0) rfl (M.sb)
   ·intro ua uw SV pV M0 hk hn hd
    have M:Mx none ({ w with heap:=#[] }:World) uw _:=M0
    have e33:ua.eval (.tmp 33)=(zO gx):=zQ1 (hd 33 (by decide))
    exact ze rfl (zO gx) (by unfold execOp;simp only [e33];kernel_rfl) rfl (M.sb)
   ·intro ua uw SV pV M0 hk hn hd
    have M:Mx none ({ w with heap:=#[] }:World) uw _:=M0
    have e34:ua.eval (.tmp 34)=(zO gx):=zQ1 (hd 34 (by decide))
    exact ze rfl (zO gx) (y_fa (off:=0) rfl e34 (by kernel_rfl) rfl) rfl (M.sb)
   ·intro ua uw SV pV M0 hk hn hd
    have M:Mx none ({ w with heap:=#[] }:World) uw _:=M0
    have e35:ua.eval (.tmp 35)=(zO gx):=zQ1 (hd 35 (by decide))
    exact ze rfl (.slice (some ⟨gc,0,none⟩) 18 18) (zda _ _ rfl e35 (M.blk (k:=0) rfl) rfl Tryz.underlying49 rfl) rfl (M.sb)
   ·intro ua uw SV pV M0 hk hn hd
    have M:Mx none ({ w with heap:=#[] }:World) uw _:=M0
    have e10:ua.eval (.tmp 10)=zI (N:Int):=(show ua.eval (.tmp 10)=_ from hd 10 (by decide)).trans (F20 10 rfl)
    exact ze rfl (zI (N:Int)) (zla _ (.inl rfl) e10) rfl (M.sb)
   ·intro ua uw SV pV M0 hk hn hd
    have M:Mx none ({ w with heap:=#[] }:World) uw _:=M0
    have e10:ua.eval (.tmp 10)=zI (N:Int):=(show ua.eval (.tmp 10)=_ from hd 10 (by decide)).trans (F20 10 rfl)
    exact ze rfl (zI (N:Int)) (zla _ (.inl rfl) e10) rfl (M.sb)
   ·intro ua uw SV pV M0 hk hn hd
    have M:Mx none ({ w with heap:=#[] }:World) uw _:=M0
    have e8:ua.eval (.tmp 8)=zI ct:=(show ua.eval (.tmp 8)=_ from hd 8 (by decide)).trans (F20 8 rfl)
    exact ze rfl (zI ct) (zla _ (.inl rfl) e8) rfl (M.sb)
   ·intro ua uw SV pV M0 hk hn hd
    have M:Mx none ({ w with heap:=#[] }:World) uw _:=M0
    have e39:ua.eval (.tmp 39)=zI ct:=zQ1 (hd 39 (by decide))
    exact ze rfl (zI (T:Int)) (zoa _ _ _ _ rfl e39 rfl (by omega) (by omega)) rfl (M.sb)
   ·intro ua uw SV pV M0 hk hn hd
    have M:Mx none ({ w with heap:=#[] }:World) uw _:=M0
    have e2:ua.eval (.tmp 2)=lv:=(show ua.eval (.tmp 2)=_ from hd 2 (by decide)).trans (F20 2 rfl)
    exact ze rfl (lv) (zla _ (.inl rfl) e2) rfl (M.sb)
   ·intro ua uw SV pV M0 hk hn hd
    have M:Mx none ({ w with heap:=#[] }:World) uw _:=M0
    have e38:ua.eval (.tmp 38)=zI (N:Int):=zQ1 (hd 38 (by decide))
    have e40:ua.eval (.tmp 40)=zI (T:Int):=zQ1 (hd 40 (by decide))
    have e41:ua.eval (.tmp 41)=lv:=zQ1 (hd 41 (by decide))
    exact z9a rfl rfl #[zI (N:Int),zI (T:Int),lv] (args3 e38 e40 e41) (zE Tryz.func83 rfl) (((hsb▸rsaid_any N T hN18 (by omega) l lv hl uw (M.isb (k:=3) rfl))).mono fun e w2 h=>(by obtain ⟨u,h1,h2,h3⟩:=h;exact ⟨u,h1,trivial,(M.newO h3 6 h2).sub ⟨rfl,(cel_off (hn 17 (by kernel_rfl)) rfl),rfl,rfl,rfl,rfl,trivial⟩⟩))
   ·intro ua uw SV pV M0 hk hn hd
    have M:Mx none ({ w with heap:=#[] }:World) uw _:=M0
    have e31:ua.eval (.tmp 31)=.slice (some ⟨gc,0,none⟩) 18 18:=zQ1 (hd 31 (by decide))
    have e32:ua.eval (.tmp 32)=zI (N:Int):=zQ1 (hd 32 (by decide))
    exact ze rfl (zP gc (3*N)) (zcc 49 (s:=3) Tryz.underlying49 (by kernel_rfl) _ _ rfl e31 e32 rfl hN18 (by omega)) rfl (M.sb)
   ·intro ua uw SV pV M0 hk hn hd
    have M:Mx none ({ w with heap:=#[] }:World) uw _:=M0
    have e43:ua.eval (.tmp 43)=(zP gc (3*N)):=zQ1 (hd 43 (by decide))
    exact ze rfl (zP gc (3*N+1)) (y_fa (off:=1) rfl e43 (by kernel_rfl) rfl) rfl (M.sb)
   ·intro ua uw SV pV M0 hk hn hd
    have M:Mx none ({ w with heap:=#[] }:World) uw _:=M0
    have e44:ua.eval (.tmp 44)=(zP gc (3*N+1)):=zQ1 (hd 44 (by decide))
    obtain ⟨s14,f42,q42⟩:=(show SV 14=true∧ua.eval (.tmp 42)=pV 14∧stE _ 14 (pV 14) from hd 42 (by decide))
    have e42:ua.eval (.tmp 42)=(pV 14):=f42
    exact hopM_doM rfl rfl (run_st M (k:=1) rfl _ _ _ rfl e44 e42 (#[(pV 14)]) ((celA V.c s (putN n N ((pV 14))))) (cells_slcB (M.isO (k:=6) (zya s14 rfl))) (by rw [hk];show 3*N+1+1≤54;omega) (one_slcB (M.isO (k:=6) (zya s14 rfl))) (by rw [hk];exact (cel_putN V.c s n ((pV 14)) hN18)) (by kernel_rfl)) (fun w2 h2=>h2.sub ⟨rfl,rfl,rfl,rfl,rfl,rfl,trivial⟩) rfl
   intro p22 a22 w22 M22 G22 y22
   obtain ⟨-,-,-,-,-,-,-,-,q8,q9,-,-,-,-,-,-,-,-,-⟩:=y22
   have r8:p22 8=.slice (some ⟨gc,0,none⟩) 18 18:=q8
   have r9:p22 9=zI (N:Int):=q9
   replace M22:Mx _ _ w22 [(0,blkR gx 72 (#[.slice (some ⟨gc,0,none⟩) 18 18,zI (stpL L),.bool false])),(1,blkR gc 63 (celA V.c s (putN n N ((p22 14))))),(2,zua 0 18 V.c s n),(3,bytR l lv),(5,staysR w gx gc),(6,z5a true (ownR sb (p22 14)))]:=M22
   simp only [List.take,layV,Nat.zero_add,Nat.reduceAdd,r8,r9] at G22
   refine zc (w':=w22) rfl rfl G22 rfl (zP gc (3*N)) (zcc 49 (s:=3) Tryz.underlying49 (by kernel_rfl) _ _ rfl (G22 36 rfl) (G22 37 rfl) rfl hN18 (by omega)) fun _ F23=>?_
   clear G22
   refine zc (w':=w22) rfl rfl F23 rfl (zP gc (3*N+2)) (y_fa (off:=2) rfl (F23 45 rfl) (by kernel_rfl) rfl) fun _ F24=>?_
   refine zt rfl rfl F24 M22 (k:=1) rfl _ _ _ rfl (F24 46 rfl) rfl (#[.bool true]) ((celA (putC V.c N ⟨(V.c N).s,sb,true⟩) s (putN n N ((p22 14))))) rfl (show 3*N+2+1≤54 by omega) (by simp [Value.oneCell']) (cel_putF V.c s (putN n N ((p22 14))) (V.c N).s sb true hN18) (by kernel_rfl) ?_
   intro w25 M25
   refine hK21 _ _ (zSk fun _ hK26=>zT fun _ hK27=>rm rfl F24 fun _ F28=>zh rfl rfl F28 rfl rfl (zE Tryz.func82 rfl) #[(zO gx)] (zaa (F28 47 rfl)) (rstep_is gx gc (stpL L) false rfl b2 hb2 hS3 w25 (M25.blk (k:=0) rfl)) ?_)
   rintro _ w29 a29 ⟨rfl,hc29,hg29⟩ F29
   have M29:=M25.put (k:=0) rfl hg29 hc29
   clear M25 hg29 hc29
   cases b2
   ·refine zc (w':=w29) rfl rfl F29 rfl (.bool true) (zgb _ _ rfl (F29 48 rfl)) fun _ F30=>?_
    refine hK27 _ _ (wp_cond_true (F30 49 rfl) (zT fun _ hK31=>rm rfl F30 fun _ F32=>hK31 _ _ (wp_ret ?_)))
    try simp only [Exit.then,Exit.inBlock,Exit.jump]
    exact bodyPost_ret (res1 rfl (F32.get rfl)) F32.defers ⟨_,rfl,(by
     have hf1:zpc V=false:=by rw [left_fall,hLv];simpa using hb1
     have hl1:=left_lay hL hf1 N sb
     rw [hLv] at hl1
     have hS0:stpL L=0:=by simpa using hb2
     have hf2:zpc (zkc V N sb)=true:=by rw [left_fall,hl1.1,hS0];rfl
     rw [say_2 hN hsv hf1 hf2]
     have hu:=M29.newU (k:=6) rfl rfl rfl rfl (by decide)
     exact ⟨rfl,(M29.rowsTo (i:=2) (k:=6) (c':=(zkc V N sb).c) rfl rfl (fun _ _=>Nat.zero_le _) (lay_rs V N sb _ s) (lay_rn V N sb _ n)).xto h.ne rfl rfl rfl rfl (by rw [show zhc (deadV (zkc V N sb))=zhc (zkc V N sb) from rfl,hl1.1,hS0];rfl) rfl (put_fp hu (.inl rfl) (.inr rfl))⟩)⟩
   ·refine zc (w':=w29) rfl rfl F29 rfl (.bool false) (zgb _ _ rfl (F29 48 rfl)) fun _ F33=>?_
    refine hK27 _ _ (wp_cond_false (F33 49 rfl) (wp_skip (hK26 _ _ (zSk fun _ hK34=>?_))))
    obtain ⟨Aw,cw,hw⟩:=(M29.isO (k:=6) rfl).shape
    rw [hw] at M29
    try rw [hw] at F33
    refine zva F33 [fun vE=>vE=(zO gx),fun vE=>vE=(zO gx),fun vE=>vE=(zO gx),fun vE=>vE=.slice (some ⟨gc,0,none⟩) 18 18,fun vE=>vE=zI (N:Int),fun vE=>vE=(zO gx),fun vE=>vE=(zO gx),fun vE=>vE=(zO gx),fun vE=>vE=.slice (some ⟨gc,0,none⟩) 18 18,fun vE=>vE=zI (N:Int),fun vE=>vE=(zP gc (3*N)),fun vE=>vE=(zP gc (3*N+1)),fun vE=>vE=.slice Aw sb.length cw,fun vE=>vE=.agg (#[.slice Aw sb.length cw,zN,.bool false]),fun vE=>vE=(zP gc (3*N))] (JM none ({ w with heap:=#[] }:World) fun SV pV=>[(0,blkR gx 72 (#[.slice (some ⟨gc,0,none⟩) 18 18,zI (stpL (stpL L)),.bool false])),(1,blkR gc 63 (celA (putC V.c N ⟨(V.c N).s,sb,true⟩) s (putN n N (.slice Aw sb.length cw)))),(2,zua 0 18 V.c s n),(3,bytR l lv),(5,staysR w gx gc),(6,ownR sb (.slice Aw sb.length cw))]) 15 rfl (by kernel_rfl) rfl ⟨trivial,trivial,trivial,trivial,trivial,trivial,trivial,trivial,trivial,trivial,trivial,trivial,trivial,trivial,trivial,trivial⟩ (fun p=>(M29.step (zsa _)).sub ⟨rfl,rfl,rfl,rfl,rfl,rfl,trivial⟩) ⟨?_,?_,?_,?_,?_,?_,?_,?_,?_,?_,?_,?_,?_,?_,?_,trivial⟩ ?_
    ·intro ua uw SV pV M0 hk hn hd
     have M:Mx none ({ w with heap:=#[] }:World) uw _:=M0
     have e0:ua.eval (.tmp 0)=(zO gx):=(show ua.eval (.tmp 0)=_ from hd 0 (by decide)).trans (F33 0 rfl)
     exact ze rfl (zO gx) (zla _ (.inl rfl) e0) rfl (M.sb)
    ·intro ua uw SV pV M0 hk hn hd
     have M:Mx none ({ w with heap:=#[] }:World) uw _:=M0
     have e50:ua.eval (.tmp 50)=(zO gx):=zQ1 (hd 50 (by decide))
     exact ze rfl (zO gx) (by unfold execOp;simp only [e50];kernel_rfl) rfl (M.sb)
    ·intro ua uw SV pV M0 hk hn hd
     have M:Mx none ({ w with heap:=#[] }:World) uw _:=M0
     have e51:ua.eval (.tmp 51)=(zO gx):=zQ1 (hd 51 (by decide))
     exact ze rfl (zO gx) (y_fa (off:=0) rfl e51 (by kernel_rfl) rfl) rfl (M.sb)
    ·intro ua uw SV pV M0 hk hn hd
     have M:Mx none ({ w with heap:=#[] }:World) uw _:=M0
     have e52:ua.eval (.tmp 52)=(zO gx):=zQ1 (hd 52 (by decide))
     exact ze rfl (.slice (some ⟨gc,0,none⟩) 18 18) (zda _ _ rfl e52 (M.blk (k:=0) rfl) rfl Tryz.underlying49 rfl) rfl (M.sb)
    ·intro ua uw SV pV M0 hk hn hd
     have M:Mx none ({ w with heap:=#[] }:World) uw _:=M0
     have e10:ua.eval (.tmp 10)=zI (N:Int):=(show ua.eval (.tmp 10)=_ from hd 10 (by decide)).trans (F33 10 rfl)
     exact ze rfl (zI (N:Int)) (zla _ (.inl rfl) e10) rfl (M.sb)
    ·intro ua uw SV pV M0 hk hn hd
     have M:Mx none ({ w with heap:=#[] }:World) uw _:=M0
     have e0:ua.eval (.tmp 0)=(zO gx):=(show ua.eval (.tmp 0)=_ from hd 0 (by decide)).trans (F33 0 rfl)
     exact ze rfl (zO gx) (zla _ (.inl rfl) e0) rfl (M.sb)
    ·intro ua uw SV pV M0 hk hn hd
     have M:Mx none ({ w with heap:=#[] }:World) uw _:=M0
     have e55:ua.eval (.tmp 55)=(zO gx):=zQ1 (hd 55 (by decide))
     exact ze rfl (zO gx) (by unfold execOp;simp only [e55];kernel_rfl) rfl (M.sb)
    ·intro ua uw SV pV M0 hk hn hd
     have M:Mx none ({ w with heap:=#[] }:World) uw _:=M0
     have e56:ua.eval (.tmp 56)=(zO gx):=zQ1 (hd 56 (by decide))
     exact ze rfl (zO gx) (y_fa (off:=0) rfl e56 (by kernel_rfl) rfl) rfl (M.sb)
    ·intro ua uw SV pV M0 hk hn hd
     have M:Mx none ({ w with heap:=#[] }:World) uw _:=M0
     have e57:ua.eval (.tmp 57)=(zO gx):=zQ1 (hd 57 (by decide))
     exact ze rfl (.slice (some ⟨gc,0,none⟩) 18 18) (zda _ _ rfl e57 (M.blk (k:=0) rfl) rfl Tryz.underlying49 rfl) rfl (M.sb)
    ·intro ua uw SV pV M0 hk hn hd
     have M:Mx none ({ w with heap:=#[] }:World) uw _:=M0
     have e10:ua.eval (.tmp 10)=zI (N:Int):=(show ua.eval (.tmp 10)=_ from hd 10 (by decide)).trans (F33 10 rfl)
     exact ze rfl (zI (N:Int)) (zla _ (.inl rfl) e10) rfl (M.sb)
    ·intro ua uw SV pV M0 hk hn hd
     have M:Mx none ({ w with heap:=#[] }:World) uw _:=M0
     have e58:ua.eval (.tmp 58)=.slice (some ⟨gc,0,none⟩) 18 18:=zQ1 (hd 58 (by decide))
     have e59:ua.eval (.tmp 59)=zI (N:Int):=zQ1 (hd 59 (by decide))
     exact ze rfl (zP gc (3*N)) (zcc 49 (s:=3) Tryz.underlying49 (by kernel_rfl) _ _ rfl e58 e59 rfl hN18 (by omega)) rfl (M.sb)
    ·intro ua uw SV pV M0 hk hn hd
     have M:Mx none ({ w with heap:=#[] }:World) uw _:=M0
     have e60:ua.eval (.tmp 60)=(zP gc (3*N)):=zQ1 (hd 60 (by decide))
     exact ze rfl (zP gc (3*N+1)) (y_fa (off:=1) rfl e60 (by kernel_rfl) rfl) rfl (M.sb)
    ·intro ua uw SV pV M0 hk hn hd
     have M:Mx none ({ w with heap:=#[] }:World) uw _:=M0
     have e61:ua.eval (.tmp 61)=(zP gc (3*N+1)):=zQ1 (hd 61 (by decide))
     exact ze rfl (.slice Aw sb.length cw) (zda _ _ rfl e61 (M.blk (k:=1) rfl) ((cel_n _ s (putN n N (.slice Aw sb.length cw)) hN18).trans (congrArg some (putN_at n N _))) Tryz.underlying23 rfl) rfl (M.sb)
    ·intro ua uw SV pV M0 hk hn hd
     have M:Mx none ({ w with heap:=#[] }:World) uw _:=M0
     have e62:ua.eval (.tmp 62)=.slice Aw sb.length cw:=zQ1 (hd 62 (by decide))
     exact ze rfl (.agg (#[.slice Aw sb.length cw,zN,.bool false])) (by unfold execOp;simp only [List.map_toArray,List.map_cons,List.map_nil,e62];kernel_rfl) rfl (M.sb)
    ·intro ua uw SV pV M0 hk hn hd
     have M:Mx none ({ w with heap:=#[] }:World) uw _:=M0
     have e53:ua.eval (.tmp 53)=.slice (some ⟨gc,0,none⟩) 18 18:=zQ1 (hd 53 (by decide))
     have e54:ua.eval (.tmp 54)=zI (N:Int):=zQ1 (hd 54 (by decide))
     exact ze rfl (zP gc (3*N)) (zcc 49 (s:=3) Tryz.underlying49 (by kernel_rfl) _ _ rfl e53 e54 rfl hN18 (by omega)) rfl (M.sb)
    intro p35 a35 w35 M35 G35 y35
    obtain ⟨-,-,-,-,-,-,-,-,-,-,-,-,-,q13,q14,-⟩:=y35
    have r13:p35 13=.agg (#[.slice Aw sb.length cw,zN,.bool false]):=q13
    have r14:p35 14=(zP gc (3*N)):=q14
    replace M35:Mx _ _ w35 [(0,blkR gx 72 (#[.slice (some ⟨gc,0,none⟩) 18 18,zI (stpL (stpL L)),.bool false])),(1,blkR gc 63 (celA (putC V.c N ⟨(V.c N).s,sb,true⟩) s (putN n N (.slice Aw sb.length cw)))),(2,zua 0 18 V.c s n),(3,bytR l lv),(5,staysR w gx gc),(6,ownR sb (.slice Aw sb.length cw))]:=M35
    simp only [List.take,layV,Nat.zero_add,Nat.reduceAdd,r13,r14] at G35
    refine zt rfl rfl G35 M35 (k:=1) rfl _ _ _ rfl (G35 64 rfl) (G35 63 rfl) (#[.slice Aw sb.length cw,zN,.bool false]) ((celA (putC (putC V.c N ⟨(V.c N).s,sb,true⟩) N ⟨sb,[],false⟩) (putN s N (.slice Aw sb.length cw)) (putN (putN n N (.slice Aw sb.length cw)) N (zN)))) rfl (show 3*N+3≤54 by omega) (by simp [Value.oneCell']) (cel_put (putC V.c N ⟨(V.c N).s,sb,true⟩) s (putN n N (.slice Aw sb.length cw)) (.slice Aw sb.length cw) (zN) sb [] false hN18) (by kernel_rfl) ?_
    intro w36 M36
    refine hK34 _ _ (zT fun _ hK37=>rm rfl G35 fun _ F38=>hK37 _ _ (wp_ret ?_))
    exact bodyPost_ret (res1 rfl (F38.get rfl)) F38.defers ⟨_,rfl,(by
     have hf1:zpc V=false:=by rw [left_fall,hLv];simpa using hb1
     have hl1:=left_lay hL hf1 N sb
     rw [hLv] at hl1
     have hf2:zpc (zkc V N sb)=false:=by rw [left_fall,hl1.1];simpa using hb2
     have hl2:=left_keep hl1.2 hf2 N
     rw [hl1.1] at hl2
     rw [say_3 hN hsv hf1 hf2]
     have hu:=M36.newU (k:=6) rfl rfl rfl rfl (by decide)
     have M2:=M36.rowsTo (i:=2) (k:=6) (c':=putC (putC V.c N ⟨(V.c N).s,sb,true⟩) N ⟨sb,[],false⟩) rfl rfl (fun _ _=>Nat.zero_le _) (keep_rs V N sb _ s) (keep_rn V N sb _ n)
     rw [←keep_c] at M2
     exact ⟨rfl,M2.xto h.ne rfl rfl rfl rfl hl2.1.symm hdd.symm (put_fp hu (.inr rfl) (.inl rfl))⟩)⟩
 refine zT fun _ hK39=>rm rfl F11 fun _ F40=>rm rfl F40 fun _ F41=>?_
 by_cases h42:ca=((2*p:Nat):Int)
 ·refine zc (w':=w6) rfl rfl F41 rfl (.bool true) (zza _ _ _ _ rfl (F41 20 rfl) (F41 21 rfl) Tryz.underlying3 (zmb h42)) fun _ F43=>?_
  refine hK39 _ _ (wp_cond_true (F43 22 rfl) (zR (rm rfl F43 fun _ F44=>zc (w':=w6) rfl rfl F44 rfl (zI ((2*p+1:Nat):Int)) (zoa _ _ _ _ rfl (F44 23 rfl) rfl (by omega) (by omega)) fun _ F45=>?_)))
  refine rm rfl F45 fun _ F46=>?_
  exact J12 (2*p+1) _ _ (by have h9:=hnx.1;rw [if_pos h42] at h9;omega) (F46.sb) (M6.sb)
 ·refine zc (w':=w6) rfl rfl F41 rfl (.bool false) (zza _ _ _ _ rfl (F41 20 rfl) (F41 21 rfl) Tryz.underlying3 (zib h42)) fun _ F47=>?_
  refine hK39 _ _ (wp_cond_false (F47 22 rfl) (wp_skip ?_))
  exact J12 (2*p) _ _ (by have h9:=hnx.1;rw [if_neg h42] at h9;omega) (F47.sb) (M6.sb)
theorem cnt_short {K:Nat} {V:VltN} (hi:InvV K V) {q:Nat} (hq:q+1<18) {ca ct:Int} {cl:List UInt8} (hC:cntR V q 2=(ca,ct,cl)):cl.length≤1000:=by
 rcases cnt_any hC with ⟨_,_,_,rfl⟩ | ⟨_,_,_,rfl⟩
 ·exact cnt_len V q (z7b hi q (by omega)).1 (z7b hi (q+1) hq).1
 ·exact Nat.zero_le _
theorem rrd6_is (b:List UInt8) (bv:Value) (hl:b.length≤1000) (ok:Bool) (r:RecN) (h1:rdOk b=ok) (h2:rdR b=r) (w:World) (hb:IsB w b bv):Calls Tryz.prog 63 #[bv] w fun e w'=>∃ t,e=.returned t∧∃ V,t=.tuple #[.agg (recA r V),.bool ok]∧RecIs w' r V∧(∀ q,bfp V.v2 q∨bfp V.v5 q→w.heap.size≤q)∧Below w.heap.size w w':=by
 subst h1 h2;exact (rreadrec_any b bv (by omega) w hb).mono fun e w' ⟨V,k1,k2,k3,k4⟩=>⟨_,k1,V,rfl,k2,k3,k4⟩
theorem named_cnt {V:VltN} {nm:ByteArray} {k:Nat} {ca ct:Int} {cl:List UInt8} {r:RecN} {qR qN:Bool} (hC:cntR V (2*k) 2=(ca,ct,cl)) (hR:rdOk cl=qR) (hr:rdR cl=r) (hN:decide (r.s.toList=nm.toList)=qN):zz V nm k=(qR&&qN):=by
 unfold zz zfc z0a
 rcases cnt_any hC with ⟨h,_,_,rfl⟩ | ⟨h,_,_,rfl⟩
 ·rw [h,if_pos rfl,hR,hr,hN];rfl
 ·rw [h,Bool.false_and,Bool.false_and,←hR,rdOk_nil,Bool.false_and]
theorem rfind_any {K:Nat} (gx gc:Nat) (V:VltN) (L:Int) (s n:Nat→Value) (hi:InvV K V) (nm:ByteArray) (w:World) (h:HasX w gx gc V L s n):
  Calls Tryz.prog 53 #[(zO gx),.string nm] w fun e w'=>e=.returned (zI (idx8 (zz V nm)))∧Below w.heap.size w w':=by
 refine zk (args:=[(zO gx),.string nm]) 35 Tryz.func53 rfl rfl rfl ?_
 intro fa F
 have M:=Mx.start w
 replace M:=M.argO 0 h.hx (fun b e=>by cases e)
 replace M:=M.argO 1 h.hc (fun b e=>by cases e)
 refine zT fun _ hK1=>rm rfl F fun _ F2=>hK1 _ _ (zSk fun _ hK3=>zT fun _ hK4=>rm rfl F2 fun _ F5=>hK4 _ _ (wp_block (zeb (α:=Nat) (n:=35) (G:=none) (w0:=w) (fun x=>[(0,(zO gx)),(1,.string nm),(5,zI (x:Int))]) (fun x=>[(0,blkO gx 72 (#[.slice (some ⟨gc,0,none⟩) 18 18,zI L,.bool V.dd])),(1,blkO gc 63 (celA V.c s n))]) (fun k x=>k=(8-x)∧(x≤8∧fst8 (zz V nm)=fstN (zz V nm) (8-x) x)) _ 0 ⟨rfl,⟨Nat.zero_le _,rfl⟩⟩ (F5.sb) (M.sb) ?_)))
 rintro k6 jn a6 w6 K6 ⟨ek6,I6⟩ F6 M6 hK6
 replace F6:Fx 35 a6 [(0,(zO gx)),(1,.string nm),(5,zI (jn:Int))]:=F6
 replace M6:Mx _ _ w6 [(0,blkO gx 72 (#[.slice (some ⟨gc,0,none⟩) 18 18,zI L,.bool V.dd])),(1,blkO gc 63 (celA V.c s n))]:=M6
 replace I6:jn≤8∧fst8 (zz V nm)=fstN (zz V nm) (8-jn) jn:=I6
 replace ek6:k6=(8-jn):=ek6
 obtain ⟨hj,hf⟩:=I6
 by_cases h8:jn<8
 ·obtain ⟨ca,ct,cl,hC⟩:∃ a t l,cntR V (2*jn) 2=(a,t,l):=⟨_,_,_,rfl⟩
  have hcl:=cnt_short hi (by omega) hC
  obtain ⟨qR,hR⟩:∃ x,rdOk cl=x:=⟨_,rfl⟩
  obtain ⟨rr,hrr⟩:∃ x,rdR cl=x:=⟨_,rfl⟩
  obtain ⟨qN,hN⟩:∃ x,decide (rr.s.toList=nm.toList)=x:=⟨_,rfl⟩
  have hnc:=named_cnt hC hR hrr hN
  refine zSk fun _ hK7=>zT fun _ hK8=>rm rfl F6 fun _ F9=>zc (w':=w6) rfl rfl F9 rfl (.bool true) (zka _ _ _ _ rfl (F9 11 rfl) rfl (decide_eq_true (show (jn:Int)<8 by omega))) fun _ F10=>?_
  refine hK8 _ _ (wp_cond_true (F10 12 rfl) (wp_skip (hK7 _ _ (zSk fun _ hK11=>wp_block (zT fun _ hK12=>rm rfl F10 fun _ F13=>rm rfl F13 fun _ F14=>zh rfl rfl F14 rfl rfl (zE Tryz.func62 rfl) #[(zO gx),zI (jn:Int)] (zfa (F14 16 rfl) (F14 17 rfl)) (rcounts_is gx gc V L s n hi jn (by omega) hC w6 (h.step M6.below)) ?_)))))
  rintro _ w15 a15 ⟨S15,rfl,hS15,b15⟩ F15
  have M15:=M6.step b15
  have lS15:=hS15.step b15
  refine zB 7 [(0,(zO gx)),(1,.string nm),(5,zI (jn:Int)),(8,S15)] [] dnil [] F15 fun _ F16=>?_
  refine hK12 _ _ (zT fun _ hK17=>rm rfl F16 fun _ F18=>zh rfl rfl F18 rfl rfl (zE Tryz.func63 rfl) #[S15] (zaa (F18 23 rfl)) (rrd6_is cl (S15) hcl qR rr hR hrr w15 lS15) ?_)
  rintro _ w19 a19 ⟨V19,rfl,is19,lo19,b19⟩ F19
  have M19:=M15.newRec b19 is19 lo19 2 3
  clear M15 b19 lo19
  refine zB 3 [(0,(zO gx)),(1,.string nm),(5,zI (jn:Int)),(25,.agg (recA rr V19)),(26,.bool qR)] [] dnil [] F19 fun _ F20=>?_
  refine zq rfl rfl F20 rfl M19 4 (t:=37) (c:=recA ⟨0, "".toUTF8,[],0,0,[],0,0,0⟩ ⟨zN,zN⟩) (by unfold execOp;kernel_rfl) ?_
  intro g21 a21 w21 F21 M21
  refine zt rfl rfl F21 M21 (k:=4) rfl _ _ _ rfl (F21 9 rfl) (F21 25 rfl) (recA rr V19) _ rfl (zL rfl) (z6a (w:=w21) ⟨(M21.isb (k:=2) rfl),(M21.isb (k:=3) rfl)⟩) (zca rfl) (by kernel_rfl) ?_
  intro w22 M22
  refine rm rfl F21 fun _ F23=>hK17 _ _ (zT fun _ hK24=>rm rfl F23 fun _ F25=>rm rfl F25 fun _ F26=>?_)
  cases qR
  ·refine zB 5 [(0,(zO gx)),(1,.string nm),(5,zI (jn:Int)),(33,.bool false)] [] dnil [] F26 fun _ F27=>?_
   refine hK24 _ _ (wp_cond_false (F27 33 rfl) (wp_skip (hK11 _ _ (zR (rm rfl F27 fun _ F28=>zc (w':=w22) rfl rfl F28 rfl (zI ((jn+1:Nat):Int)) (zoa _ _ _ _ rfl (F28 13 rfl) rfl (by omega) (by omega)) fun _ F29=>?_)))))
   refine rm rfl F29 fun _ F30=>?_
   subst ek6
   exact hK6 _ (jn+1) _ _ (by omega) ⟨rfl,⟨by omega,fst_next h8 hnc hf⟩⟩ (F30.sb) (M22.sb)
  ·refine zAx 3 [(29,(zP g21 1)),(30,.string rr.s),(31,.string nm)] [0] (zu (M22.blk (k:=4) rfl) dnil) [g21] F26 fun _ F31=>?_
   refine zc (w':=w22) (zd rfl rfl rfl (F31 28 rfl)) rfl F31 rfl (.bool qN) (y_eqS _ _ _ rfl (F31 30 rfl) (F31 31 rfl) hN) fun _ F32=>?_
   refine zc (w':=w22) rfl rfl F32 rfl (.bool qN) (zpb rfl (F32 28 rfl) (F32 32 rfl)) fun _ F33=>?_
   refine hK24 _ _ ?_
   cases qN
   ·refine wp_cond_false (F33 33 rfl) (wp_skip (hK11 _ _ (zR (rm rfl F33 fun _ F34=>zc (w':=w22) rfl rfl F34 rfl (zI ((jn+1:Nat):Int)) (zoa _ _ _ _ rfl (F34 13 rfl) rfl (by omega) (by omega)) fun _ F35=>?_))))
    refine rm rfl F35 fun _ F36=>?_
    subst ek6
    exact hK6 _ (jn+1) _ _ (by omega) ⟨rfl,⟨by omega,fst_next h8 hnc hf⟩⟩ (F36.sb) (M22.sb)
   ·refine wp_cond_true (F33 33 rfl) (zT fun _ hK37=>rm rfl F33 fun _ F38=>rm rfl F38 fun _ F39=>hK37 _ _ (wp_ret ?_))
    try simp only [Exit.then,Exit.inBlock,Exit.jump]
    exact bodyPost_ret (res1 rfl (F39.get rfl)) F39.defers ⟨(by rw [idx8_at h8 (fst_here h8 hnc hf)]),M22.below⟩
 ·have hj8:jn=8:=by omega
  refine zSk fun _ hK40=>zT fun _ hK41=>rm rfl F6 fun _ F42=>zc (w':=w6) rfl rfl F42 rfl (.bool false) (zka _ _ _ _ rfl (F42 11 rfl) rfl (decide_eq_false (show ¬(jn:Int)<8 by omega))) fun _ F43=>?_
  refine hK41 _ _ (wp_cond_false (F43 12 rfl) (wp_exit ?_))
  simp only [Exit.then,Exit.inBlock,↓reduceIte,Nat.reduceEqDiff]
  refine hK3 _ _ (zT fun _ hK44=>?_)
  exact rm rfl F43 fun _ F45=>hK44 _ _ (wp_ret (bodyPost_ret (res1 rfl (F45.get rfl)) F45.defers ⟨(by rw [idx8_no (by rw [hf,hj8])]),M6.below⟩))
def bootR (V:VltN):Int:=if (cntR V 16 2).1<0∨¬((cntR V 16 2).2.2.length:Int)=8 then 0 else numR (cntR V 16 2).2.2
theorem bootR_no {V:VltN} {ca ct:Int} {cl:List UInt8} (hC:cntR V 16 2=(ca,ct,cl)) (h:ca<0∨¬(cl.length:Int)=8):bootR V=0:=by unfold bootR;rw [hC];exact if_pos h
theorem bootR_is {V:VltN} {ca ct:Int} {cl:List UInt8} (hC:cntR V 16 2=(ca,ct,cl)) (h1:¬ca<0) (h2:(cl.length:Int)=8):bootR V=numR cl:=by unfold bootR;rw [hC];exact if_neg (fun h=>h.elim h1 (fun h=>h h2))
theorem bootR_zero {V:VltN} (h:anyB zr V 16=false):bootR V=0:=by
 have hC:=cntR_2 V 16
 rw [h,if_neg Bool.false_ne_true] at hC
 exact bootR_no hC (.inl (by decide))
theorem bootR_era {V:VltN} {e:Int} (hA:anyB zr V 16=true) (hS:cntS V 16=zy e) (h0:0≤e) (h1:e<1000):bootR V=e:=by
 have hC:=cntR_2 V 16
 rw [hA,if_pos rfl,hS] at hC
 rw [bootR_is hC (by omega) (by rw [zja];rfl),numR_I (numOk_eight h0 (by omega)),zzc h0 (by omega)]
theorem rboot_any {K:Nat} (gx gc:Nat) (V:VltN) (L:Int) (s n:Nat→Value) (hi:InvV K V) (w:World) (h:HasX w gx gc V L s n):
  Calls Tryz.prog 44 #[(zO gx)] w fun e w'=>e=.returned (zI (bootR V))∧Below w.heap.size w w':=by
 refine zk (args:=[(zO gx)]) 21 Tryz.func44 rfl rfl rfl ?_
 intro fa F
 have M:=Mx.start w
 replace M:=M.argO 0 h.hx (fun b e=>by cases e)
 replace M:=M.argO 1 h.hc (fun b e=>by cases e)
 obtain ⟨ca,ct,cl,hC⟩:∃ a t l,cntR V 16 2=(a,t,l):=⟨_,_,_,rfl⟩
 refine zT fun _ hK1=>rm rfl F fun _ F2=>hK1 _ _ (zT fun _ hK3=>rm rfl F2 fun _ F4=>zh rfl rfl F4 rfl rfl (zE Tryz.func62 rfl) #[(zO gx),zI 8] (zfa (F4 7 rfl) rfl) (rcounts_is gx gc V L s n hi 8 (by omega) hC w (h.step M.below)) ?_)
 rintro _ w5 a5 ⟨S5,rfl,hS5,b5⟩ F5
 have M5:=M.step b5
 have lS5:=hS5.step b5
 refine zB 7 [(2,zI 0),(3,zI ca),(5,S5)] [] dnil [] F5 fun _ F6=>?_
 refine hK3 _ _ (zSk fun _ hK7=>zT fun _ hK8=>rm rfl F6 fun _ F9=>?_)
 by_cases h10:ca<0
 ·refine zc (w':=w5) rfl rfl F9 rfl (.bool true) (zka _ _ _ _ rfl (F9 12 rfl) rfl (decide_eq_true h10)) fun _ F11=>?_
  refine zB 5 [(2,zI 0),(5,S5),(18,.bool true)] [] dnil [] F11 fun _ F12=>?_
  refine hK8 _ _ (wp_cond_true (F12 18 rfl) (zT fun _ hK13=>rm rfl F12 fun _ F14=>hK13 _ _ (wp_ret ?_)))
  try simp only [Exit.then,Exit.inBlock,Exit.jump]
  exact bodyPost_ret (res1 rfl (F14.get rfl)) F14.defers ⟨(by rw [bootR_no hC (.inl h10)]),M5.below⟩
 ·refine zc (w':=w5) rfl rfl F9 rfl (.bool false) (zka _ _ _ _ rfl (F9 12 rfl) rfl (decide_eq_false h10)) fun _ F15=>?_
  refine rm rfl F15 fun _ F16=>rm rfl F16 fun _ F17=>zc (w':=w5) (zd rfl rfl rfl (F17 14 rfl)) rfl F17 rfl (zI (cl.length:Int)) (z8a _ rfl (F17 15 rfl) lS5 rfl) fun _ F18=>?_
  by_cases h19:(cl.length:Int)=8
  ·refine zc (w':=w5) (zd rfl rfl rfl (F18 14 rfl)) rfl F18 rfl (.bool false) (y_neI _ _ _ _ rfl (F18 16 rfl) rfl Tryz.underlying3 (y_bneF h19)) fun _ F20=>?_
   refine zc (w':=w5) rfl rfl F20 rfl (.bool false) (z0b rfl (F20 14 rfl) (F20 17 rfl)) fun _ F21=>?_
   refine hK8 _ _ (wp_cond_false (F21 18 rfl) (wp_skip (hK7 _ _ (zT fun _ hK22=>rm rfl F21 fun _ F23=>zh rfl rfl F23 rfl rfl (zE Tryz.func68 rfl) #[S5] (zaa (F23 19 rfl)) (zba ((rnum6_any cl (S5) (by omega) w5 lS5))) ?_))))
   rintro _ w24 a24 ⟨rfl,b24⟩ F24
   have M24:=M5.step b24
   exact rm rfl F24 fun _ F25=>hK22 _ _ (wp_ret (bodyPost_ret (res1 rfl (F25.get rfl)) F25.defers ⟨(by rw [bootR_is hC h10 h19]),M24.below⟩))
  ·refine zc (w':=w5) (zd rfl rfl rfl (F18 14 rfl)) rfl F18 rfl (.bool true) (y_neI _ _ _ _ rfl (F18 16 rfl) rfl Tryz.underlying3 (y_bneT h19)) fun _ F26=>?_
   refine zc (w':=w5) rfl rfl F26 rfl (.bool true) (z0b rfl (F26 14 rfl) (F26 17 rfl)) fun _ F27=>?_
   refine hK8 _ _ (wp_cond_true (F27 18 rfl) (zT fun _ hK28=>rm rfl F27 fun _ F29=>hK28 _ _ (wp_ret ?_)))
   try simp only [Exit.then,Exit.inBlock,Exit.jump]
   exact bodyPost_ret (res1 rfl (F29.get rfl)) F29.defers ⟨(by rw [bootR_no hC (.inr h19)]),M5.below⟩
theorem rdead_any {K:Nat} (gx gc:Nat) (V:VltN) (L:Int) (s n:Nat→Value) (hi:InvV K V) (w:World) (h:HasX w gx gc V L s n):
  Calls Tryz.prog 45 #[(zO gx)] w fun e w'=>e=.returned (.bool V.dd)∧Below w.heap.size w w':=by
 refine zk (args:=[(zO gx)]) 7 Tryz.func45 rfl rfl rfl ?_
 intro fa F
 have M:=Mx.start w
 replace M:=M.argO 0 h.hx (fun b e=>by cases e)
 replace M:=M.argO 1 h.hc (fun b e=>by cases e)
 refine zT fun _ hK1=>rm rfl F fun _ F2=>hK1 _ _ (zT fun _ hK3=>zB 5 [(2,.bool V.dd)] [0] (zu (M.roB (k:=0) rfl) dnil) [gx] F2 fun _ F4=>?_)
 exact hK3 _ _ (wp_ret (bodyPost_ret (res1 rfl (F4.get rfl)) F4.defers ⟨rfl,M.below⟩))
theorem xera_any (gx gc:Nat) {K:Nat} (V:VltN) (s n:Nat→Value) (hi:InvV K V) (hK:K<255) (hL:LeftOk V) (hdd:V.dd=false) (E:Nat) (hE:E<1000) (hb:bootR V=(E:Int)) {V2:VltN} (hn:(sayW V 16 (zy ((E+1:Nat):Int))).1=V2) (w:World) (ho:XOk w gx gc V s n):
  Calls Tryz.prog 40 #[(zO gx)] w fun e w'=>∃ t,e=.returned t∧XTo w w' gx gc (zo 18 s n) V2:=by
 have h:=ho.has
 obtain ⟨L,hLv⟩:∃ x,zhc V=x:=⟨_,rfl⟩
 rw [hLv] at h
 obtain ⟨dd,hd⟩:∃ x,V.dd=x:=⟨_,rfl⟩
 have hx0:=h.hx
 rw [hd] at hx0
 rw [hdd] at hd
 subst hd
 have hd:=hdd
 have hE8:=zja ((E+1:Nat):Int)
 refine zk (args:=[(zO gx)]) 8 Tryz.func40 rfl rfl rfl ?_
 intro fa F
 have M:=Mx.start w
 replace M:=M.argO 0 hx0 (fun b e=>by cases e)
 replace M:=M.argO 1 h.hc (fun b e=>by cases e)
 refine zR (rm rfl F fun _ F1=>rm rfl F1 fun _ F2=>zh rfl rfl F2 rfl rfl (zE Tryz.func44 rfl) #[(zO gx)] (zaa (F2 3 rfl)) (zba ((hb▸rboot_any gx gc V L s n hi w (h.step M.below)))) ?_)
 rintro _ w3 a3 ⟨rfl,b3⟩ F3
 have M3:=M.step b3
 refine zc (w':=w3) rfl rfl F3 rfl (zI ((E+1:Nat):Int)) (zoa _ _ _ _ rfl (F3 4 rfl) rfl (by omega) (by omega)) fun _ F4=>?_
 refine zh rfl rfl F4 rfl rfl (zE Tryz.func36 rfl) #[zI ((E+1:Nat):Int)] (zaa (F4 5 rfl)) ((reight6 (E+1) (by omega) w3)) ?_
 rintro v5 w5 a5 h5 F5
 have M5:=M3.newO h5.2 2 h5.1
 clear M3 h5
 obtain ⟨A5,c5,rfl⟩:=(M5.isO (k:=2) rfl).shape
 refine zh rfl rfl F5 rfl rfl (zE Tryz.func55 rfl) #[(zO gx),zI 8,.slice A5 ((zy ((E+1:Nat):Int))).length c5] (args3 (F5 2 rfl) rfl (F5 6 rfl)) (xwrite_any gx gc V s n hi hK hL hd 8 (by decide) (zy ((E+1:Nat):Int)) (.slice A5 ((zy ((E+1:Nat):Int))).length c5) (by omega) w5 (ho.step M5.below) (M5.isO (k:=2) rfl) (fun b hb=>⟨fun e=>M5.dis 2 0 _ _ rfl rfl (by decide) rfl b (zta hb) e,fun e=>M5.dis 2 1 _ _ rfl rfl (by decide) rfl b (zta hb) e⟩)) ?_
 rintro _ w6 a6 ⟨rfl,hw6⟩ F6
 exact bodyPost_end (res0 rfl) F6.defers ⟨_,rfl,hn▸XTo.before M5.below hw6⟩
section
open Go.Shelf
def EraS (V:VltN) (E:Nat):Prop:=EraV V (E:Int)∧cntS V 16=zy (E:Int)
theorem eras_setl {V:VltN} {E:Nat} (h:EraS V E) (x:Nat→Int) (m:Nat):EraS (zac V x m) E:=by
 have h1:(zac V x m).c 16=V.c 16:=setC_unf h.1.1 18
 have h2:(zac V x m).c 17=V.c 17:=setC_unf h.1.2.1 18
 exact ⟨era_setl h.1 x m,(pair_eq (V:=V) (V':=zac V x m) (q:=16) (by rw [h1]) (by rw [h2])).2.1.trans h.2⟩
theorem eras_age {K:Nat} {V:VltN} {E:Nat} (hi:InvV K V) (hK:K<255) (hE:E<999) (h:EraS V E) (hf:V.fl=false):EraS (ageW V) (E+1):=by
 have h1:=era_num hi hK h.1.2.2.2 (by omega) (by omega) hf h.1.1 h.1.2.1
 have h2:=(say_says hi hK 16 (zy (zic V 16+1)) hf).2
 rw [show (E:Int)+1=((E+1:Nat):Int) by omega] at h1
 rw [h.1.2.2.2,show (E:Int)+1=((E+1:Nat):Int) by omega] at h2
 exact ⟨h1,by unfold ageW;rw [h.1.2.2.2,show (E:Int)+1=((E+1:Nat):Int) by omega];exact h2⟩
theorem eras_say {V:VltN} {E:Nat} (h:EraS V E) {q:Nat} (hq:q+1<16) (l:List UInt8):EraS (sayW V q l).1 E:=⟨era_say h.1 hq l,(sayW_pair V (q':=16) l (.inr hq)).2.1.trans h.2⟩
theorem eras_boot {V:VltN} {E:Nat} (h:EraS V E) (hE:E<1000):bootR V=(E:Int):=bootR_era h.1.2.2.1 h.2 (by omega) (by omega)
theorem setC_go {c:Nat→CelN} {tx:Nat→Int} {m j k tn:Nat} {nl sl X:List UInt8} (hf:(c j).f=true) (hk:min k m=setK c m j) (hn:(c j).n=nl) (hs:(c j).s=sl) (ht:tn=if k<m then tornN (tx k) nl.length else 0) (hX:X=nl.take tn++sl.drop tn):setC c tx m (j+1)=putC (setC c tx m j) j ⟨X,[],false⟩∧min (k+1) m=setK c m (j+1):=by
 subst hn hs ht hX
 by_cases hq:k<m
 ·have e:setK c m j=k:=by omega
  rw [setC_in hf (by omega),setK_in hf (by omega),e,if_pos hq]
  exact ⟨rfl,by omega⟩
 ·rw [setC_out hf (by omega),setK_out (by omega),if_neg hq]
  exact ⟨rfl,by omega⟩
section
variable {w w1 w':World} {R:List (Nat×Res)} {s n:Nat→Value}
theorem Mx.xok {v:World} (M:Mx none { v with heap:=#[] } w R) {gx gc:Nat} {V':VltN} {L:Int} {dd:Bool} (hne:gx≠gc) (h0:look R 0=some (blkR gx 72 #[.slice (some ⟨gc,0,none⟩) 18 18,zI L,.bool dd])) (h1:look R 1=some (blkR gc 63 (celA V'.c s n))) (h2:look R 2=some (zua 0 18 V'.c s n)) (hL:L=zhc V') (hd:dd=V'.dd):XOk w gx gc V' s n:=by
 subst hL hd
 have far:∀ {k g:Nat} {t:TypeId} {a:Array Value},look R k=some (blkR g t a)→k≠2→∀ i,i<18→¬bfp (s i) g∧¬bfp (n i) g:=fun hk hn i hi=>⟨fun e=>M.dis _ 2 _ _ hk h2 hn rfl _ rfl ⟨i,hi,.inl e⟩,fun e=>M.dis _ 2 _ _ hk h2 hn rfl _ rfl ⟨i,hi,.inr e⟩⟩
 exact ⟨M.hasX h0 h1 h2,hne,fun i hi=>⟨far h0 (by decide) i hi,far h1 (by decide) i hi⟩⟩
theorem XTo.after {v:World} {gx gc:Nat} {fp fp1:Nat→Prop} {V1 V2:VltN} (hto:∀ b,fp1 b→fp b∨v.heap.size≤b) (hs:XTo v w gx gc fp V1) (h:XTo w w' gx gc fp1 V2):XTo v w' gx gc fp V2:=
 ⟨h.ok.elim fun s' h'=>h'.elim fun n' h'=>⟨s',n',h'.1,fun b hb=>(h'.2 b hb).elim (hto b) (fun e=>.inr (Nat.le_trans hs.size e))⟩,Nat.le_trans hs.size h.size,fun g h1 h2 h3=>(h.stay g h1 h2 (Nat.lt_of_lt_of_le h3 hs.size)).trans (hs.stay g h1 h2 h3),h.os.trans hs.os,h.tape.trans hs.tape,h.out.trans hs.out⟩
theorem rdI_lt {A:Option Addr} {m:Nat} {x:Nat→Int} (h:RdI w A m x):∀ b,ifp A m b→b<w.heap.size:=fun g ⟨hn,o,e⟩=>by
 obtain ⟨b,q,e2,h1,-⟩:=h.2.2 hn
 rw [e] at e2
 cases e2
 exact h1
end
end
theorem xagain_any (gx gc:Nat) {K:Nat} (V:VltN) (s n:Nat→Value) (hi:InvV K V) (hK:K<255) (E:Nat) (hE:E<1000) (hS:EraS V E) (A0:Option Addr) (m c0:Nat) (tx:Nat→Int) {V2:VltN} (hV2:ageW (zac V tx m)=V2) (w:World) (h:XOk w gx gc V s n) (hT:RdI w A0 m tx) (hTg:∀ b,ifp A0 m b→b≠gx∧b≠gc):
  Calls Tryz.prog 42 #[(zO gx),.slice A0 m c0] w fun e w'=>∃ t,e=.returned t∧XTo w w' gx gc (zo 18 s n) V2:=by
 have hlen:∀ i,i<18→(V.c i).s.length≤1000∧(V.c i).n.length≤1000:=z7b hi
 obtain ⟨L,hLv⟩:∃ x,zhc V=x:=⟨_,rfl⟩
 obtain ⟨dd,hdd⟩:∃ x,V.dd=x:=⟨_,rfl⟩
 refine zk (args:=[(zO gx),.slice A0 m c0]) 98 Tryz.func42 rfl rfl rfl ?_
 intro fa F
 have M:=(h.two.part 3 (intR A0 m tx) hT (fun _ _ hs h=>RdI.same hs h) rfl (k:=5) rfl rfl (fun b hb=>⟨hTg b hb,rdI_lt hT b hb⟩))
 rw [hLv,hdd] at M
 refine zT fun _ hK1=>rm rfl F fun _ F2=>hK1 _ _ (zSk fun _ hK3=>zT fun _ hK4=>rm rfl F2 fun _ F5=>hK4 _ _ (wp_block ?_))
 refine zeb (α:=Nat×Nat×(Nat→Value)×(Nat→Value)) (n:=98) (G:=none) (w0:=({ w with heap:=#[] }:World)) (fun x=>[(0,(zO gx)),(1,.slice A0 m c0),(5,zI (x.1:Int)),(4,zI (x.2.1:Int))]) (fun x=>[(0,blkR gx 72 (#[.slice (some ⟨gc,0,none⟩) 18 18,zI L,.bool dd])),(1,blkR gc 63 (celA (setC V.c tx m x.1) x.2.2.1 x.2.2.2)),(2,zua 0 18 (setC V.c tx m x.1) x.2.2.1 x.2.2.2),(3,intR A0 m tx),(5,staysR w gx gc)]) (fun k x=>k=(18-x.1)∧(x.1≤18∧x.2.1≤x.1∧min x.2.1 m=setK V.c m x.1∧∀ b,zo 18 x.2.2.1 x.2.2.2 b→zo 18 s n b∨w.heap.size≤b)) _ ⟨0,0,s,n⟩ ⟨rfl,⟨Nat.zero_le _,Nat.le_refl _,Nat.zero_min _,fun b hb=>.inl hb⟩⟩ (F5.sb) (M.sb) ?_
 rintro k6 ⟨jn,kq,sq,nq⟩ a6 w6 K6 ⟨ek6,I6⟩ F6 M6 hK6
 replace F6:Fx 98 a6 [(0,(zO gx)),(1,.slice A0 m c0),(5,zI (jn:Int)),(4,zI (kq:Int))]:=F6
 replace M6:Mx _ _ w6 [(0,blkR gx 72 (#[.slice (some ⟨gc,0,none⟩) 18 18,zI L,.bool dd])),(1,blkR gc 63 (celA (setC V.c tx m jn) sq nq)),(2,zua 0 18 (setC V.c tx m jn) sq nq),(3,intR A0 m tx),(5,staysR w gx gc)]:=M6
 replace I6:jn≤18∧kq≤jn∧min kq m=setK V.c m jn∧∀ b,zo 18 sq nq b→zo 18 s n b∨w.heap.size≤b:=I6
 replace ek6:k6=(18-jn):=ek6
 obtain ⟨hj,hkj,hmk,hfp⟩:=I6
 by_cases hlt:jn<18
 ·have hcj:setC V.c tx m jn jn=V.c jn:=setC_ge V.c tx m jn jn (Nat.le_refl _)
  obtain ⟨fj,hfj⟩:∃ b,(V.c jn).f=b:=⟨_,rfl⟩
  refine zSk fun _ hK7=>zT fun _ hK8=>zB 5 [(0,(zO gx)),(1,.slice A0 m c0),(5,zI (jn:Int)),(4,zI (kq:Int)),(8,zI (jn:Int)),(12,.slice (some ⟨gc,0,none⟩) 18 18)] [0] (zu (M6.blk (k:=0) rfl) dnil) [gx] F6 fun _ F9=>?_
  refine zc (w':=w6) rfl rfl F9 rfl (zI 18) (y_lnG 49 Tryz.underlying49 _ rfl (F9 12 rfl) rfl) fun _ F10=>?_
  refine zc (w':=w6) rfl rfl F10 rfl (.bool true) (zka _ _ _ _ rfl (F10 8 rfl) (F10 13 rfl) (decide_eq_true (show (jn:Int)<18 by omega))) fun _ F11=>?_
  refine hK8 _ _ (wp_cond_true (F11 14 rfl) (wp_skip (hK7 _ _ (zSk fun _ hK12=>wp_block (zSk fun _ hK13=>zT fun _ hK14=>zB 5 [(0,(zO gx)),(1,.slice A0 m c0),(5,zI (jn:Int)),(4,zI (kq:Int)),(20,.slice (some ⟨gc,0,none⟩) 18 18),(21,zI (jn:Int))] [0] (zu (M6.blk (k:=0) rfl) dnil) [gx] F11 fun _ F15=>?_)))))
  refine zc (w':=w6) rfl rfl F15 rfl (zP gc (3*jn)) (zcc 49 (s:=3) Tryz.underlying49 (by kernel_rfl) _ _ rfl (F15 20 rfl) (F15 21 rfl) rfl hlt (j:=3*jn) (by omega)) fun _ F16=>?_
  refine zc (w':=w6) rfl rfl F16 rfl (zP gc (3*jn+2)) (y_fa (off:=2) rfl (F16 22 rfl) (by kernel_rfl) rfl) fun _ F17=>?_
  refine zc (w':=w6) rfl rfl F17 rfl (.bool fj) (zda _ _ rfl (F17 23 rfl) (M6.blk (k:=1) rfl) ((cel_f (setC V.c tx m jn) sq nq hlt).trans (show some (Value.bool ((setC V.c tx m jn) jn).f)=_ by rw [hcj,hfj])) Tryz.underlying4 rfl) fun _ F18=>?_
  cases fj
  ·refine zc (w':=w6) rfl rfl F18 rfl (.bool true) (zgb _ _ rfl (F18 24 rfl)) fun _ F19=>?_
   refine hK14 _ _ (wp_cond_true (F19 25 rfl) (wp_exit ?_))
   simp only [Exit.then,Exit.inBlock,↓reduceIte,Nat.reduceEqDiff]
   refine hK12 _ _ (zR (rm rfl F19 fun _ F20=>zc (w':=w6) rfl rfl F20 rfl (zI ((jn+1:Nat):Int)) (zoa _ _ _ _ rfl (F20 15 rfl) rfl (by omega) (by omega)) fun _ F21=>?_))
   refine rm rfl F21 fun _ F22=>?_
   have hsC:setC V.c tx m (jn+1)=(setC V.c tx m jn):=setC_no hfj
   have hsK:setK V.c m (jn+1)=setK V.c m jn:=setK_no hfj
   subst ek6
   exact hK6 _ ⟨(jn+1),kq,sq,nq⟩ _ _ (by omega) ⟨rfl,⟨by (dsimp only;omega),by (dsimp only;omega),by rw [hsK];exact hmk,hfp⟩⟩ (F22.sb) (M6.sub ⟨rfl,(by rw [hsC];rfl),(by rw [hsC];rfl),rfl,rfl,trivial⟩)
  ·have hf:(V.c jn).f=true:=hfj
   obtain ⟨nl,hnl⟩:∃ l,(V.c jn).n=l:=⟨_,rfl⟩
   obtain ⟨sl,hsl⟩:∃ l,(V.c jn).s=l:=⟨_,rfl⟩
   have hln:=hlen jn hlt
   rw [hnl,hsl] at hln
   have hNl:IsB w6 nl (nq jn):=by rw [←hnl,←hcj];exact M6.rowsN (i:=2) rfl hlt
   have hSl:IsB w6 sl (sq jn):=by rw [←hsl,←hcj];exact M6.rowsS (i:=2) rfl hlt
   have M23:=(M6.part 50 (bytR nl (nq jn)) hNl z2b rfl (k:=2) rfl rfl (fun b hb=>⟨jn,hlt,.inr hb⟩)).part 51 (bytR sl (sq jn)) hSl z2b rfl (k:=2) rfl rfl (fun b hb=>⟨jn,hlt,.inl hb⟩)
   refine zc (w':=w6) rfl rfl F18 rfl (.bool false) (zgb _ _ rfl (F18 24 rfl)) fun _ F24=>?_
   refine hK14 _ _ (wp_cond_false (F24 25 rfl) (wp_skip (hK13 _ _ (zT fun _ hK25=>rm rfl F24 fun _ F26=>hK25 _ _ (zSk fun K27 hK27=>?_)))))
   have J27:∀ (tn:Nat) (aJ:Act) (wJ:World),(tn=if kq<m then tornN (tx kq) nl.length else 0)→Fx 98 aJ [(0,(zO gx)),(1,.slice A0 m c0),(5,zI (jn:Int)),(4,zI (kq:Int)),(6,zI (tn:Int))]→Mx none ({ w with heap:=#[] }:World) wJ [(51,bytR sl (sq jn)),(50,bytR nl (nq jn)),(0,blkR gx 72 (#[.slice (some ⟨gc,0,none⟩) 18 18,zI L,.bool dd])),(1,blkR gc 63 (celA (setC V.c tx m jn) sq nq)),(2,zua 0 18 (setC V.c tx m jn) sq nq),(3,intR A0 m tx),(5,staysR w gx gc)]→K27 aJ wJ:=by
    intro tn a27 w27 I27 F27 M27
    refine hK27 _ _ ?_
    have htc:=I27
    have htl:tn≤nl.length:=by
     rw [htc]
     split
     ·exact tornN_le _ _
     ·exact Nat.zero_le _
    refine zT fun _ hK28=>rm rfl F27 fun _ F29=>zc (w':=w27) rfl rfl F29 rfl (zI ((kq+1:Nat):Int)) (zoa _ _ _ _ rfl (F29 45 rfl) rfl (by omega) (by omega)) fun _ F30=>?_
    refine rm rfl F30 fun _ F31=>hK28 _ _ (zT fun _ hK32=>zwa rfl rfl F31 rfl (run_lit0 M27 60 rfl) ?_)
    intro v33 a33 w33 F33 M33
    obtain ⟨A33,c33,rfl⟩:=(M33.isO (k:=60) rfl).shape
    refine zAx 5 [(48,(zO gx)),(49,(zO gx)),(50,(zO gx)),(51,.slice (some ⟨gc,0,none⟩) 18 18),(52,zI (jn:Int))] [0] (zu (M33.blk (k:=0) rfl) dnil) [gx] F33 fun _ F34=>?_
    refine zc (w':=w33) rfl rfl F34 rfl (zP gc (3*jn)) (zcc 49 (s:=3) Tryz.underlying49 (by kernel_rfl) _ _ rfl (F34 51 rfl) (F34 52 rfl) rfl hlt (j:=3*jn) (by omega)) fun _ F35=>?_
    refine zc (w':=w33) rfl rfl F35 rfl (zP gc (3*jn+1)) (y_fa (off:=1) rfl (F35 53 rfl) (by kernel_rfl) rfl) fun _ F36=>?_
    refine zc (w':=w33) rfl rfl F36 rfl ((nq jn)) (zda _ _ rfl (F36 54 rfl) (M33.blk (k:=1) rfl) (cel_n (setC V.c tx m jn) sq nq hlt) Tryz.underlying23 rfl) fun _ F37=>?_
    refine rm rfl F37 fun _ F38=>zrc rfl rfl F38 rfl (y_slTo _ _ rfl (F38 55 rfl) (M33.isb (k:=50) rfl) (F38 56 rfl) (j:=tn) rfl (by omega)) ?_
    intro v39 a39 h39 F39
    have M39:=M33.partB 61 (k:=50) rfl h39.1 h39.2
    obtain ⟨A39,c39,rfl⟩:=(M39.isb (k:=61) rfl).shape
    refine zwa rfl rfl F39 rfl (zfb M39 (k:=60) rfl _ _ rfl (F39 47 rfl) (F39 57 rfl) (M39.isb (k:=61) rfl) (by simp;omega)) ?_
    intro v40 a40 w40 F40 M40
    obtain ⟨A40,c40,rfl⟩:=(M40.isO (k:=60) rfl).shape
    refine rm rfl F40 fun _ F41=>hK32 _ _ (zSk fun _ hK42=>zT fun _ hK43=>zAx 6 [(59,zI (tn:Int)),(60,(zO gx)),(61,(zO gx)),(62,(zO gx)),(63,.slice (some ⟨gc,0,none⟩) 18 18),(64,zI (jn:Int))] [0] (zu (M40.blk (k:=0) rfl) dnil) [gx] F41 fun _ F44=>?_)
    refine zc (w':=w40) rfl rfl F44 rfl (zP gc (3*jn)) (zcc 49 (s:=3) Tryz.underlying49 (by kernel_rfl) _ _ rfl (F44 63 rfl) (F44 64 rfl) rfl hlt (j:=3*jn) (by omega)) fun _ F45=>?_
    refine zc (w':=w40) rfl rfl F45 rfl (zP gc (3*jn+0)) (y_fa (off:=0) rfl (F45 65 rfl) (by kernel_rfl) rfl) fun _ F46=>?_
    refine zc (w':=w40) rfl rfl F46 rfl ((sq jn)) (zda _ _ rfl (F46 66 rfl) (M40.blk (k:=1) rfl) (cel_s (setC V.c tx m jn) sq nq hlt) Tryz.underlying23 rfl) fun _ F47=>?_
    refine zc (w':=w40) rfl rfl F47 rfl (zI (sl.length:Int)) (z8a _ rfl (F47 67 rfl) (M40.isb (k:=51) rfl) rfl) fun _ F48=>?_
    by_cases h49:(tn:Int)<(sl.length:Int)
    ·refine zc (w':=w40) rfl rfl F48 rfl (.bool true) (zka _ _ _ _ rfl (F48 59 rfl) (F48 68 rfl) (decide_eq_true h49)) fun _ F50=>?_
     refine hK43 _ _ (wp_cond_true (F50 69 rfl) (zR (zAx 6 [(70,.slice A40 (([]++(nl.take tn))).length c40),(71,(zO gx)),(72,(zO gx)),(73,(zO gx)),(74,.slice (some ⟨gc,0,none⟩) 18 18),(75,zI (jn:Int))] [0] (zu (M40.blk (k:=0) rfl) dnil) [gx] F50 fun _ F51=>?_)))
     refine zc (w':=w40) rfl rfl F51 rfl (zP gc (3*jn)) (zcc 49 (s:=3) Tryz.underlying49 (by kernel_rfl) _ _ rfl (F51 74 rfl) (F51 75 rfl) rfl hlt (j:=3*jn) (by omega)) fun _ F52=>?_
     refine zc (w':=w40) rfl rfl F52 rfl (zP gc (3*jn+0)) (y_fa (off:=0) rfl (F52 76 rfl) (by kernel_rfl) rfl) fun _ F53=>?_
     refine zc (w':=w40) rfl rfl F53 rfl ((sq jn)) (zda _ _ rfl (F53 77 rfl) (M40.blk (k:=1) rfl) (cel_s (setC V.c tx m jn) sq nq hlt) Tryz.underlying23 rfl) fun _ F54=>?_
     refine rm rfl F54 fun _ F55=>zrc rfl rfl F55 rfl (y_slFrom _ _ rfl (F55 78 rfl) (M40.isb (k:=51) rfl) (F55 79 rfl) (i:=tn) rfl (by omega)) ?_
     intro v56 a56 h56 F56
     have M56:=M40.partB 62 (k:=51) rfl h56.1 h56.2
     obtain ⟨A56,c56,rfl⟩:=(M56.isb (k:=62) rfl).shape
     refine zwa rfl rfl F56 rfl (zfb M56 (k:=60) rfl _ _ rfl (F56 70 rfl) (F56 80 rfl) (M56.isb (k:=62) rfl) (by simp;omega)) ?_
     intro v57 a57 w57 F57 M57
     obtain ⟨A57,c57,rfl⟩:=(M57.isO (k:=60) rfl).shape
     refine rm rfl F57 fun _ F58=>hK42 _ _ (zR (zB 6 [(0,(zO gx)),(1,.slice A0 m c0),(5,zI (jn:Int)),(4,zI ((kq+1:Nat):Int)),(85,.slice (some ⟨gc,0,none⟩) 18 18),(86,zI (jn:Int)),(87,.slice A57 ((([]++(nl.take tn))++(sl.drop tn))).length c57)] [0] (zu (M57.blk (k:=0) rfl) dnil) [gx] F58 fun _ F59=>?_))
     refine zc (w':=w57) rfl rfl F59 rfl (.agg (#[.slice A57 ((([]++(nl.take tn))++(sl.drop tn))).length c57,zN,.bool false])) (by unfold execOp;simp only [List.map_toArray,List.map_cons,List.map_nil,(F59 87 rfl)];kernel_rfl) fun _ F60=>?_
     refine zc (w':=w57) rfl rfl F60 rfl (zP gc (3*jn)) (zcc 49 (s:=3) Tryz.underlying49 (by kernel_rfl) _ _ rfl (F60 85 rfl) (F60 86 rfl) rfl hlt (j:=3*jn) (by omega)) fun _ F61=>?_
     refine zt rfl rfl F61 M57 (k:=1) rfl _ _ _ rfl (F61 89 rfl) (F61 88 rfl) (#[.slice A57 ((([]++(nl.take tn))++(sl.drop tn))).length c57,zN,.bool false]) ((celA (putC (setC V.c tx m jn) jn ⟨(([]++(nl.take tn))++(sl.drop tn)),[],false⟩) (putN sq jn (.slice A57 ((([]++(nl.take tn))++(sl.drop tn))).length c57)) (putN nq jn (zN)))) rfl (show 3*jn+3≤54 by omega) (by simp [Value.oneCell']) (cel_put (setC V.c tx m jn) sq nq (.slice A57 ((([]++(nl.take tn))++(sl.drop tn))).length c57) (zN) (([]++(nl.take tn))++(sl.drop tn)) [] false hlt) (by kernel_rfl) ?_
     intro w62 M62
     refine hK12 _ _ (zR (rm rfl F61 fun _ F63=>zc (w':=w62) rfl rfl F63 rfl (zI ((jn+1:Nat):Int)) (zoa _ _ _ _ rfl (F63 15 rfl) rfl (by omega) (by omega)) fun _ F64=>?_))
     refine rm rfl F64 fun _ F65=>?_
     have hown:=M62.newU (k:=60) rfl rfl rfl rfl (by decide)
     have M66:=M62.rowsPut (i:=2) (k:=60) rfl rfl (fun b _=>Nat.zero_le _) jn rfl
     obtain ⟨hsC,hsK⟩:=setC_go (tx:=tx) (X:=(([]++(nl.take tn))++(sl.drop tn))) hf hmk hnl hsl htc (by first | rfl | (simp;done) | (rw [List.drop_of_length_le (by omega)];simp))
     subst ek6
     exact hK6 _ ⟨(jn+1),(kq+1),(putN sq jn (.slice A57 ((([]++(nl.take tn))++(sl.drop tn))).length c57)),(putN nq jn (zN))⟩ _ _ (by omega) ⟨rfl,⟨by (dsimp only;omega),by (dsimp only;omega),hsK,fun b hb=>(rowsfp_put hb).elim (fun h=>hfp b h) (fun h=>.inr (hown b h))⟩⟩ (F65.sb) (M66.sub ⟨rfl,(by rw [hsC];rfl),(by rw [hsC];rfl),rfl,rfl,trivial⟩)
    ·refine zc (w':=w40) rfl rfl F48 rfl (.bool false) (zka _ _ _ _ rfl (F48 59 rfl) (F48 68 rfl) (decide_eq_false h49)) fun _ F67=>?_
     refine hK43 _ _ (wp_cond_false (F67 69 rfl) (wp_skip (hK42 _ _ (zR (zB 6 [(0,(zO gx)),(1,.slice A0 m c0),(5,zI (jn:Int)),(4,zI ((kq+1:Nat):Int)),(85,.slice (some ⟨gc,0,none⟩) 18 18),(86,zI (jn:Int)),(87,.slice A40 (([]++(nl.take tn))).length c40)] [0] (zu (M40.blk (k:=0) rfl) dnil) [gx] F67 fun _ F68=>?_)))))
     refine zc (w':=w40) rfl rfl F68 rfl (.agg (#[.slice A40 (([]++(nl.take tn))).length c40,zN,.bool false])) (by unfold execOp;simp only [List.map_toArray,List.map_cons,List.map_nil,(F68 87 rfl)];kernel_rfl) fun _ F69=>?_
     refine zc (w':=w40) rfl rfl F69 rfl (zP gc (3*jn)) (zcc 49 (s:=3) Tryz.underlying49 (by kernel_rfl) _ _ rfl (F69 85 rfl) (F69 86 rfl) rfl hlt (j:=3*jn) (by omega)) fun _ F70=>?_
     refine zt rfl rfl F70 M40 (k:=1) rfl _ _ _ rfl (F70 89 rfl) (F70 88 rfl) (#[.slice A40 (([]++(nl.take tn))).length c40,zN,.bool false]) ((celA (putC (setC V.c tx m jn) jn ⟨([]++(nl.take tn)),[],false⟩) (putN sq jn (.slice A40 (([]++(nl.take tn))).length c40)) (putN nq jn (zN)))) rfl (show 3*jn+3≤54 by omega) (by simp [Value.oneCell']) (cel_put (setC V.c tx m jn) sq nq (.slice A40 (([]++(nl.take tn))).length c40) (zN) ([]++(nl.take tn)) [] false hlt) (by kernel_rfl) ?_
     intro w71 M71
     refine hK12 _ _ (zR (rm rfl F70 fun _ F72=>zc (w':=w71) rfl rfl F72 rfl (zI ((jn+1:Nat):Int)) (zoa _ _ _ _ rfl (F72 15 rfl) rfl (by omega) (by omega)) fun _ F73=>?_))
     refine rm rfl F73 fun _ F74=>?_
     have hown:=M71.newU (k:=60) rfl rfl rfl rfl (by decide)
     have M75:=M71.rowsPut (i:=2) (k:=60) rfl rfl (fun b _=>Nat.zero_le _) jn rfl
     obtain ⟨hsC,hsK⟩:=setC_go (tx:=tx) (X:=([]++(nl.take tn))) hf hmk hnl hsl htc (by first | rfl | (simp;done) | (rw [List.drop_of_length_le (by omega)];simp))
     subst ek6
     exact hK6 _ ⟨(jn+1),(kq+1),(putN sq jn (.slice A40 (([]++(nl.take tn))).length c40)),(putN nq jn (zN))⟩ _ _ (by omega) ⟨rfl,⟨by (dsimp only;omega),by (dsimp only;omega),hsK,fun b hb=>(rowsfp_put hb).elim (fun h=>hfp b h) (fun h=>.inr (hown b h))⟩⟩ (F74.sb) (M75.sub ⟨rfl,(by rw [hsC];rfl),(by rw [hsC];rfl),rfl,rfl,trivial⟩)
   refine zT fun _ hK76=>rm rfl F26 fun _ F77=>rm rfl F77 fun _ F78=>zc (w':=w6) rfl rfl F78 rfl (zI (m:Int)) (y_lnG 22 Tryz.underlying22 _ rfl (F78 27 rfl) rfl) fun _ F79=>?_
   by_cases h80:(kq:Int)<(m:Int)
   ·have hq:kq<m:=by omega
    obtain ⟨tn0,htn⟩:∃ t,tornN (tx kq) nl.length=t:=⟨_,rfl⟩
    refine zc (w':=w6) rfl rfl F79 rfl (.bool true) (zka _ _ _ _ rfl (F79 26 rfl) (F79 28 rfl) (decide_eq_true h80)) fun _ F81=>?_
    refine hK76 _ _ (wp_cond_true (F81 29 rfl) ?_)
    have hD82:=(zu (M23.blk (k:=0) rfl) dnil)
    refine z4a F81 (SK [.inl (.slice A0 m c0),.inl (zI (kq:Int)),.inl ((ixV (.slice A0 m c0) kq)),.inl (zI (tx kq)),.inl (zI (max (tx kq) 0)),.inl (zO gx),.inl (zO gx),.inl (zO gx),.inl (.slice (some ⟨gc,0,none⟩) 18 18),.inl (zI (jn:Int)),.inl (zP gc (3*jn)),.inl (zP gc (3*jn+1)),.inl ((nq jn)),.inl (zI (nl.length:Int)),.inl (zI (tn0:Int)),.inl (zI (tn0:Int))]) 16 rfl (by kernel_rfl) ⟨hop0 F81,hop0 F81,hopR F81 [(30,.slice A0 m c0),(31,zI (kq:Int))] fun ua uw hb ⟨e30,e31,_⟩=>(y_ixJ _ _ rfl e30 ((M23.step hb).rdI (k:=3) rfl) e31 rfl hq),hopR F81 [(32,(ixV (.slice A0 m c0) kq))] fun ua uw hb ⟨e32,_⟩=>(y_ldJ _ rfl e32 ((M23.step hb).rdI (k:=3) rfl) hq),hopR F81 [(33,zI (tx kq))] fun ua uw hb ⟨e33,_⟩=>(y_maxI _ _ rfl e33 rfl rfl),hop0 F81,hop0 F81,hop0 F81,hopP F81 hD82 0 (some gx),hop0 F81,hopR F81 [(38,.slice (some ⟨gc,0,none⟩) 18 18),(39,zI (jn:Int))] fun ua uw hb ⟨e38,e39,_⟩=>(zcc 49 (s:=3) Tryz.underlying49 (by kernel_rfl) _ _ rfl e38 e39 rfl hlt (j:=3*jn) (by omega)),hopR F81 [(40,(zP gc (3*jn)))] fun ua uw hb ⟨e40,_⟩=>(y_fa (off:=1) rfl e40 (by kernel_rfl) rfl),hopR F81 [(41,(zP gc (3*jn+1)))] fun ua uw hb ⟨e41,_⟩=>(zda _ _ rfl e41 ((M23.step hb).blk (k:=1) rfl) (cel_n (setC V.c tx m jn) sq nq hlt) Tryz.underlying23 rfl),hopR F81 [(42,(nq jn))] fun ua uw hb ⟨e42,_⟩=>(z8a _ rfl e42 ((M23.step hb).isb (k:=50) rfl) rfl),hopR F81 [(34,zI (max (tx kq) 0)),(43,zI (nl.length:Int))] fun ua uw hb ⟨e34,e43,_⟩=>(y_min _ _ rfl e34 e43 (show (if (nl.length:Int)<max (tx kq) 0 then (nl.length:Int) else max (tx kq) 0)=(tn0:Int) by rw [←htn,tornN_int];split <;> omega)),hop0 F81,trivial⟩ ?_
    intro p83 a83 w83 b83 G83 y83
    obtain ⟨-,-,-,-,-,-,-,-,-,-,-,-,-,-,-,q15,-⟩:=y83
    have r15:p83 15=zI (tn0:Int):=q15 (by decide)
    simp only [List.take,layV,Nat.zero_add,Nat.reduceAdd,r15] at G83
    have M83:=M23.kc b83
    clear F81 M23 r15 q15
    exact J27 tn0 _ _ ((if_pos hq).trans htn).symm (G83.sb) (M83.sb)
   ·have hq:¬kq<m:=by omega
    refine zc (w':=w6) rfl rfl F79 rfl (.bool false) (zka _ _ _ _ rfl (F79 26 rfl) (F79 28 rfl) (decide_eq_false h80)) fun _ F84=>?_
    refine hK76 _ _ (wp_cond_false (F84 29 rfl) (wp_skip ?_))
    exact J27 0 _ _ (if_neg hq).symm (F84.sb) (M23.sb)
 ·obtain rfl:jn=18:=by omega
  refine zSk fun _ hK85=>zT fun _ hK86=>zB 5 [(0,(zO gx)),(1,.slice A0 m c0),(5,zI ((18:Nat):Int)),(4,zI (kq:Int)),(8,zI ((18:Nat):Int)),(12,.slice (some ⟨gc,0,none⟩) 18 18)] [0] (zu (M6.blk (k:=0) rfl) dnil) [gx] F6 fun _ F87=>?_
  refine zc (w':=w6) rfl rfl F87 rfl (zI 18) (y_lnG 49 Tryz.underlying49 _ rfl (F87 12 rfl) rfl) fun _ F88=>?_
  refine zc (w':=w6) rfl rfl F88 rfl (.bool false) (zka _ _ _ _ rfl (F88 8 rfl) (F88 13 rfl) (decide_eq_false (by decide))) fun _ F89=>?_
  refine hK86 _ _ (wp_cond_false (F89 14 rfl) (wp_exit ?_))
  simp only [Exit.then,Exit.inBlock,↓reduceIte,Nat.reduceEqDiff]
  refine hK3 _ _ (zT fun _ hK90=>zB 4 [(0,(zO gx)),(1,.slice A0 m c0),(5,zI ((18:Nat):Int)),(4,zI (kq:Int)),(91,(zO gx)),(93,(zP gx 2))] [] dnil [] F89 fun _ F91=>?_)
  refine zt rfl rfl F91 M6 (k:=0) rfl _ _ _ rfl (F91 93 rfl) rfl (#[.bool false]) (#[.slice (some ⟨gc,0,none⟩) 18 18,zI L,.bool false]) rfl (zL rfl) (by simp [Value.oneCell']) (by kernel_rfl) (by kernel_rfl) ?_
  intro w92 M92
  refine zAx 2 [(94,(zO gx)),(95,(zP gx 1))] [] dnil [] F91 fun _ F93=>?_
  refine zt rfl rfl F93 M92 (k:=0) rfl _ _ _ rfl (F93 95 rfl) rfl (#[zI (-1)]) (#[.slice (some ⟨gc,0,none⟩) 18 18,zI (-1),.bool false]) rfl (zL rfl) (zdc _ _) (by kernel_rfl) (by kernel_rfl) ?_
  intro w94 M94
  refine hK90 _ _ (zR (rm rfl F93 fun _ F95=>zh rfl rfl F95 rfl rfl (zE Tryz.func40 rfl) #[(zO gx)] (zaa (F95 96 rfl)) (xera_any (V2:=V2) gx gc (zac V tx m) sq nq (setl_inv hi tx m) hK (fun e=>by cases e) rfl E hE (eras_boot (eras_setl hS tx m) hE) (by unfold ageW at hV2;rw [(eras_setl hS tx m).1.2.2.2] at hV2;exact hV2) w94 (M94.xok h.ne rfl rfl rfl rfl rfl)) ?_))
  rintro _ w96 a96 hw96 F96
  exact bodyPost_end (res0 rfl) F96.defers ⟨_,rfl,XTo.after hfp (M94.xto (V':=zac V tx m) h.ne rfl rfl rfl rfl rfl rfl hfp) hw96⟩
theorem rfail_any (gx gc:Nat) (L:Int) (dd:Bool) (z:Int) (w:World) (hx:w.heap[gx]? = some (.cells (#[.slice (some ⟨gc,0,none⟩) 18 18,zI L,.bool dd]) 72 (0,0))):
  Calls Tryz.prog 20 #[(zO gx),zI z] w fun e w'=>∃ t,e=.returned t∧w'.heap[gx]? = some (.cells (#[.slice (some ⟨gc,0,none⟩) 18 18,zI (max z (-1)),.bool dd]) 72 (0,0))∧w.grownBy w' (some gx):=by
 refine zk (args:=[(zO gx),zI z]) 9 Tryz.func20 rfl rfl rfl ?_
 intro fa F
 have M:=Mx.theG hx 0
 refine zR (rm rfl F fun _ F1=>rm rfl F1 fun _ F2=>zc (w':=w) rfl rfl F2 rfl (zI (max z (-1))) (y_maxI _ _ rfl (F2 5 rfl) rfl rfl) fun _ F3=>?_)
 refine zB 2 [(6,zI (max z (-1))),(8,(zP gx 1))] [] dnil [] F3 fun _ F4=>?_
 refine zt rfl rfl F4 M (k:=0) rfl _ _ _ rfl (F4 8 rfl) (F4 6 rfl) (#[zI (max z (-1))]) (#[.slice (some ⟨gc,0,none⟩) 18 18,zI (max z (-1)),.bool dd]) rfl (zL rfl) (zdc _ _) (by kernel_rfl) (by kernel_rfl) ?_
 intro w5 M5
 refine wpList_nil ?_
 exact bodyPost_end (res0 rfl) F4.defers ⟨_,rfl,M5.blk (k:=0) rfl,M5.grown⟩
theorem said_cnt {V:VltN} {q:Nat} {ca ct:Int} {cl:List UInt8} (hC:cntR V q 2=(ca,ct,cl)) (h:zfc V q=true):rdOk cl=true∧rdR cl=z0a V q:=by
 unfold zfc at h
 unfold z0a
 simp only [Bool.and_eq_true] at h
 rcases cnt_any hC with ⟨h1,_,_,rfl⟩ | ⟨h1,_,_,rfl⟩
 ·exact ⟨h.2,by rw [if_pos h1]⟩
 ·rw [h1] at h;exact absurd h.1 Bool.false_ne_true
theorem named_said {V:VltN} {nm:ByteArray} {k:Nat} (h8:k<8) (hk:fst8 (zz V nm)=k):zfc V (2*k)=true:=by
 rcases fstN_spec (zz V nm) 8 0 with ⟨_,h2,_⟩ | ⟨h1,_⟩
 ·rw [show fstN (zz V nm) 8 0=k from hk] at h2
  unfold zz at h2
  simp only [Bool.and_eq_true] at h2
  exact h2.1
 ·rw [show fstN (zz V nm) 8 0=k from hk] at h1;omega
theorem rfind_is {K:Nat} (gx gc:Nat) (V:VltN) (L:Int) (s n:Nat→Value) (hi:InvV K V) (nm:ByteArray) {z:Int} (hz:idx8 (zz V nm)=z) (w:World) (h:HasX w gx gc V L s n):Calls Tryz.prog 53 #[(zO gx),.string nm] w fun e w'=>e=.returned (zI z)∧Below w.heap.size w w':=by
 subst hz;exact rfind_any gx gc V L s n hi nm w h
theorem rget_yes {K:Nat} (gx gc:Nat) (V:VltN) (L:Int) (s n:Nat→Value) (hi:InvV K V) (nm:ByteArray) (k:Nat) (h8:k<8) (hk:fst8 (zz V nm)=k) (w:World) (h:HasX w gx gc V L s n):
  Calls Tryz.prog 33 #[(zO gx),.string nm] w fun e w'=>∃ V',e=.returned (.tuple #[.agg (recA (z0a V (2*k)) V'),.bool true])∧RecIs w' (z0a V (2*k)) V'∧(∀ b,bfp V'.v2 b∨bfp V'.v5 b→w.heap.size≤b)∧Below w.heap.size w w':=by
 refine zk (args:=[(zO gx),.string nm]) 27 Tryz.func33 rfl rfl rfl ?_
 intro fa F
 have M:=Mx.start w
 replace M:=M.argO 0 h.hx (fun b e=>by cases e)
 replace M:=M.argO 1 h.hc (fun b e=>by cases e)
 obtain ⟨ca,ct,cl,hC⟩:∃ a t l,cntR V (2*k) 2=(a,t,l):=⟨_,_,_,rfl⟩
 have hcl:=cnt_short hi (by omega) hC
 obtain ⟨hR,hrr⟩:=said_cnt hC (named_said h8 hk)
 obtain ⟨rr,hr2⟩:∃ x,z0a V (2*k)=x:=⟨_,rfl⟩
 rw [hr2] at hrr ⊢
 refine zT fun _ hK1=>zq rfl rfl F rfl M 2 (t:=37) (c:=recA ⟨0, "".toUTF8,[],0,0,[],0,0,0⟩ ⟨zN,zN⟩) (by unfold execOp;kernel_rfl) ?_
 intro g2 a2 w2 F2 M2
 refine rm rfl F2 fun _ F3=>hK1 _ _ (zT fun _ hK4=>rm rfl F3 fun _ F5=>rm rfl F5 fun _ F6=>zh rfl rfl F6 rfl rfl (zE Tryz.func53 rfl) #[(zO gx),.string nm] (zfa (F6 10 rfl) (F6 11 rfl)) (zba ((rfind_is gx gc V L s n hi nm (idx8_at h8 hk) w2 (h.step M2.below)))) ?_)
 rintro _ w7 a7 ⟨rfl,b7⟩ F7
 have M7:=M2.step b7
 refine rm rfl F7 fun _ F8=>hK4 _ _ (zSk fun _ hK9=>zT fun _ hK10=>rm rfl F8 fun _ F11=>zc (w':=w7) rfl rfl F11 rfl (.bool false) (zka _ _ _ _ rfl (F11 13 rfl) rfl (decide_eq_false (show ¬(k:Int)<0 by omega))) fun _ F12=>?_)
 refine hK10 _ _ (wp_cond_false (F12 14 rfl) (wp_skip (hK9 _ _ (zT fun _ hK13=>rm rfl F12 fun _ F14=>rm rfl F14 fun _ F15=>zh rfl rfl F15 rfl rfl (zE Tryz.func62 rfl) #[(zO gx),zI (k:Int)] (zfa (F15 17 rfl) (F15 18 rfl)) (rcounts_is gx gc V L s n hi k (by omega) hC w7 (h.step M7.below)) ?_))))
 rintro _ w16 a16 ⟨S16,rfl,hS16,b16⟩ F16
 have M16:=M7.step b16
 have lS16:=hS16.step b16
 refine zB 7 [(4,(zO g2)),(5,.bool false),(9,S16)] [] dnil [] F16 fun _ F17=>?_
 refine hK13 _ _ (zT fun _ hK18=>rm rfl F17 fun _ F19=>zh rfl rfl F19 rfl rfl (zE Tryz.func63 rfl) #[S16] (zaa (F19 23 rfl)) (rrd6_is cl (S16) hcl true rr hR hrr w16 lS16) ?_)
 rintro _ w20 a20 ⟨V20,rfl,is20,lo20,b20⟩ F20
 have lf:=fun q h=>Nat.le_trans M16.le (lo20 q h)
 have M20:=M16.newRec b20 is20 lo20 3 4
 clear M16 b20 lo20
 refine zB 2 [(4,(zO g2)),(5,.bool false),(25,.agg (recA rr V20)),(26,.bool true)] [] dnil [] F20 fun _ F21=>?_
 refine zt rfl rfl F21 M20 (k:=2) rfl _ _ _ rfl (F21 4 rfl) (F21 25 rfl) (recA rr V20) _ rfl (zL rfl) (z6a (w:=w20) ⟨(M20.isb (k:=3) rfl),(M20.isb (k:=4) rfl)⟩) (zca rfl) (by kernel_rfl) ?_
 intro w22 M22
 exact rm rfl F21 fun _ F23=>hK18 _ _ (wp_ret (bodyPost_ret (resCT rfl (F23.get rfl) (M22.blk (k:=2) rfl) (F23.get rfl) Tryz.underlying37 rfl (by kernel_rfl)) F23.defers ⟨_,rfl,⟨(M22.isb (k:=3) rfl),(M22.isb (k:=4) rfl)⟩,lf,M22.below⟩))
theorem rget_not {K:Nat} (gx gc:Nat) (V:VltN) (L:Int) (s n:Nat→Value) (hi:InvV K V) (nm:ByteArray) (hk:fst8 (zz V nm)=8) (w:World) (h:HasX w gx gc V L s n):
  Calls Tryz.prog 33 #[(zO gx),.string nm] w fun e w'=>e=.returned (.tuple #[.agg (recA zeroRec ⟨zN,zN⟩),.bool false])∧Below w.heap.size w w':=by
 refine zk (args:=[(zO gx),.string nm]) 27 Tryz.func33 rfl rfl rfl ?_
 intro fa F
 have M:=Mx.start w
 replace M:=M.argO 0 h.hx (fun b e=>by cases e)
 replace M:=M.argO 1 h.hc (fun b e=>by cases e)
 refine zT fun _ hK1=>zq rfl rfl F rfl M 2 (t:=37) (c:=recA ⟨0, "".toUTF8,[],0,0,[],0,0,0⟩ ⟨zN,zN⟩) (by unfold execOp;kernel_rfl) ?_
 intro g2 a2 w2 F2 M2
 refine rm rfl F2 fun _ F3=>hK1 _ _ (zT fun _ hK4=>rm rfl F3 fun _ F5=>rm rfl F5 fun _ F6=>zh rfl rfl F6 rfl rfl (zE Tryz.func53 rfl) #[(zO gx),.string nm] (zfa (F6 10 rfl) (F6 11 rfl)) (zba ((rfind_is gx gc V L s n hi nm (if_neg (by rw [hk];decide)) w2 (h.step M2.below)))) ?_)
 rintro _ w7 a7 ⟨rfl,b7⟩ F7
 have M7:=M2.step b7
 refine rm rfl F7 fun _ F8=>hK4 _ _ (zSk fun _ hK9=>zT fun _ hK10=>zAx 2 [(13,zI (-1)),(14,.bool true)] [] dnil [] F8 fun _ F11=>?_)
 refine hK10 _ _ (wp_cond_true (F11 14 rfl) (zT fun _ hK12=>zc (w':=w7) rfl rfl F11 rfl (.agg (recA ⟨0, "".toUTF8,[],0,0,[],0,0,0⟩ ⟨zN,zN⟩)) (by unfold execOp;kernel_rfl) fun _ F13=>?_))
 refine zt rfl rfl F13 M7 (k:=2) rfl _ _ _ rfl (F13 4 rfl) (F13 15 rfl) (recA ⟨0, "".toUTF8,[],0,0,[],0,0,0⟩ ⟨zN,zN⟩) _ rfl (zL rfl) (z6a (w:=w7) ⟨(zia _),(zia _)⟩) (zca rfl) (by kernel_rfl) ?_
 intro w14 M14
 refine rm rfl F13 fun _ F15=>hK12 _ _ (wp_ret ?_)
 try simp only [Exit.then,Exit.inBlock,Exit.jump]
 exact bodyPost_ret (resCT rfl (F15.get rfl) (M14.blk (k:=2) rfl) (F15.get rfl) Tryz.underlying37 rfl (by kernel_rfl)) F15.defers ⟨rfl,M14.below⟩
theorem put_idx {V:VltN} {nm:ByteArray} {z1 z2 z:Int} (h1:idx8 (zz V nm)=z1) (h2:idx8 (fun i=>zxa V (2*i))=z2) (hz:z=if z1<0 then z2 else z1) {X:VltN×Int} {F:Nat→VltN×Int}:
  (z<0→(if fst8 (zz V nm)<8 then F (fst8 (zz V nm)) else if fst8 (fun i=>zxa V (2*i))<8 then F (fst8 (fun i=>zxa V (2*i))) else X)=X)∧(¬z<0→∃ p:Nat,z=(p:Int)∧p<8∧(if fst8 (zz V nm)<8 then F (fst8 (zz V nm)) else if fst8 (fun i=>zxa V (2*i))<8 then F (fst8 (fun i=>zxa V (2*i))) else X)=F p):=by
 subst h1 h2
 unfold idx8 at hz
 by_cases a:fst8 (zz V nm)<8
 ·rw [if_pos a,if_neg (by omega)] at hz
  rw [if_pos a]
  exact ⟨fun h=>by omega,fun _=>⟨_,hz,a,rfl⟩⟩
 ·rw [if_neg a,if_pos (by omega)] at hz
  rw [if_neg a]
  by_cases b:fst8 (fun i=>zxa V (2*i))<8
  ·rw [if_pos b] at hz
   rw [if_pos b]
   exact ⟨fun h=>by omega,fun _=>⟨_,hz,b,rfl⟩⟩
  ·rw [if_neg b] at hz
   rw [if_neg b]
   exact ⟨fun _=>rfl,fun h=>by omega⟩
theorem rrec6_is (r:RecN) (Vr:RecV) (ho:RecOk r) (q:Bool) (l:List UInt8) (h1:zga r=q) (h2:recE r=l) (w:World) (hm:RecIs w r Vr):Calls Tryz.prog 52 #[.agg (recA r Vr)] w fun e w'=>∃ t,e=.returned t∧∃ v,t=.tuple #[v,.bool q]∧Byt w' w.heap.size v l∧Below w.heap.size w w':=by
 subst h1 h2;exact (rrecord_any r Vr ho w hm).mono fun e w' ⟨v,k1,k2,k3⟩=>⟨_,k1,v,rfl,k2,k3⟩
theorem rfree_is {K:Nat} (gx gc:Nat) (V:VltN) (L:Int) (s n:Nat→Value) (hi:InvV K V) {z:Int} (hz:idx8 (fun i=>zxa V (2*i))=z) (w:World) (h:HasX w gx gc V L s n):Calls Tryz.prog 54 #[(zO gx)] w fun e w'=>e=.returned (zI z)∧Below w.heap.size w w':=by
 subst hz;exact rfree_any gx gc V L s n hi w h
theorem xput_any (gx gc:Nat) {K:Nat} (V:VltN) (s n:Nat→Value) (hi:InvV K V) (hK:K<255) (hL:LeftOk V) (r:RecN) (Vr:RecV) (hro:RecOk r) (w:World) (ho:XOk w gx gc V s n) (hR:RecIs w r Vr):
  Calls Tryz.prog 23 #[(zO gx),.agg (recA r Vr)] w fun e w'=>∃ t,e=.returned t∧t=zI (putV V r).2∧XTo w w' gx gc (zo 18 s n) (putV V r).1:=by
 have h:=ho.has
 obtain ⟨L,hLv⟩:∃ x,zhc V=x:=⟨_,rfl⟩
 rw [hLv] at h
 obtain ⟨dd,hd⟩:∃ x,V.dd=x:=⟨_,rfl⟩
 have hx0:=h.hx
 rw [hd] at hx0
 obtain ⟨qK,hqK⟩:∃ x,zga r=x:=⟨_,rfl⟩
 obtain ⟨l,hl⟩:∃ x,recE r=x:=⟨_,rfl⟩
 have hll:l.length≤1000:=by rw [←hl];exact Nat.le_trans (recE_bd r) (by decide)
 obtain ⟨z1,hz1⟩:∃ x,idx8 (zz V r.s)=x:=⟨_,rfl⟩
 obtain ⟨z2,hz2⟩:∃ x,idx8 (fun i=>zxa V (2*i))=x:=⟨_,rfl⟩
 unfold putV
 rw [hd,hqK,hl]
 refine zk (args:=[(zO gx),.agg (recA r Vr)]) 33 Tryz.func23 rfl rfl rfl ?_
 intro fa F
 have M:=Mx.start w
 replace M:=M.argO 0 hx0 (fun b e=>by cases e)
 replace M:=M.argO 1 h.hc (fun b e=>by cases e)
 refine zT fun _ hK1=>zq rfl rfl F rfl M 2 (t:=37) (c:=recA r Vr) (by unfold execOp;simp only [(F 1 rfl)];kernel_rfl) ?_
 intro g2 a2 w2 F2 M2
 refine rm rfl F2 fun _ F3=>hK1 _ _ (zSk fun _ hK4=>zT fun _ hK5=>zB 4 [(0,(zO gx)),(3,(zO g2)),(4,zI 0),(11,.bool dd)] [0] (zu (M2.roB (k:=0) rfl) dnil) [gx] F3 fun _ F6=>?_)
 refine hK5 _ _ ?_
 cases dd
 ·refine wp_cond_false (F6 11 rfl) (wp_skip (hK4 _ _ (zT fun _ hK7=>zc (w':=w2) rfl rfl F6 rfl _ (zjb _ _ rfl (F6 3 rfl) (M2.blk (k:=2) rfl) (recA r Vr) (znb rfl) Tryz.underlying37 rfl (by kernel_rfl)) fun _ F8=>?_)))
  refine zh rfl rfl F8 rfl rfl (zE Tryz.func52 rfl) #[.agg (recA r Vr)] (zaa (F8 13 rfl)) (rrec6_is r Vr hro qK l hqK hl w2 ⟨hR.h2.step M2.below,hR.h5.step M2.below⟩) ?_
  rintro _ w9 a9 ⟨v9,rfl,hv9,b9⟩ F9
  have M9:=M2.newO b9 3 hv9
  clear M2 b9 hv9
  obtain ⟨A9,c9,rfl⟩:=(M9.isO (k:=3) rfl).shape
  refine zB 5 [(0,(zO gx)),(3,(zO g2)),(4,zI 0),(5,.slice A9 (l).length c9),(6,.bool qK)] [] dnil [] F9 fun _ F10=>?_
  refine hK7 _ _ (zSk fun _ hK11=>zT fun _ hK12=>rm rfl F10 fun _ F13=>?_)
  cases qK
  ·refine zc (w':=w9) rfl rfl F13 rfl (.bool true) (zgb _ _ rfl (F13 17 rfl)) fun _ F14=>?_
   refine hK12 _ _ (wp_cond_true (F14 18 rfl) (zT fun _ hK15=>rm rfl F14 fun _ F16=>hK15 _ _ (wp_ret ?_)))
   try simp only [Exit.then,Exit.inBlock,Exit.jump]
   exact bodyPost_ret (res1 rfl (F16.get rfl)) F16.defers ⟨_,rfl,(by
    try simp only [if_true,if_false,Bool.false_eq_true,reduceIte,reduceCtorEq]
    exact ⟨(by first | rfl | trivial),ho.to M9.below⟩)⟩
  ·refine zc (w':=w9) rfl rfl F13 rfl (.bool false) (zgb _ _ rfl (F13 17 rfl)) fun _ F17=>?_
   refine hK12 _ _ (wp_cond_false (F17 18 rfl) (wp_skip (hK11 _ _ (zT fun _ hK18=>zB 3 [(0,(zO gx)),(4,zI 0),(5,.slice A9 (l).length c9),(19,(zO gx)),(21,.string r.s)] [0] (zu (M9.blk (k:=2) rfl) dnil) [g2] F17 fun _ F19=>?_))))
   refine zh rfl rfl F19 rfl rfl (zE Tryz.func53 rfl) #[(zO gx),.string r.s] (zfa (F19 19 rfl) (F19 21 rfl)) (zba ((rfind_is gx gc V L s n hi r.s hz1 w9 (h.step M9.below)))) ?_
   rintro _ w20 a20 ⟨rfl,b20⟩ F20
   have M20:=M9.step b20
   refine rm rfl F20 fun _ F21=>hK18 _ _ (zSk fun K22 hK22=>?_)
   have J22:∀ (zi:Int) (aJ:Act) (wJ:World),(zi=if z1<0 then z2 else z1)→Fx 33 aJ [(0,(zO gx)),(5,.slice A9 (l).length c9),(7,zI zi)]→Mx none w wJ [(0,blkO gx 72 (#[.slice (some ⟨gc,0,none⟩) 18 18,zI L,.bool false])),(1,blkO gc 63 (celA V.c s n)),(2,blkR g2 37 (recA r Vr)),(3,ownR l (.slice A9 (l).length c9))]→K22 aJ wJ:=by
    intro zi a22 w22 I22 F22 M22
    refine hK22 _ _ ?_
    obtain ⟨pn,py⟩:=put_idx hz1 hz2 I22 (X:=(V,7)) (F:=fun k=>((sayW V (2*k) l).1,if (sayW V (2*k) l).2=true then 0 else 10))
    refine zSk fun _ hK23=>zT fun _ hK24=>rm rfl F22 fun _ F25=>?_
    by_cases h26:zi<0
    ·refine zc (w':=w22) rfl rfl F25 rfl (.bool true) (zka _ _ _ _ rfl (F25 27 rfl) rfl (decide_eq_true h26)) fun _ F27=>?_
     refine hK24 _ _ (wp_cond_true (F27 28 rfl) (zT fun _ hK28=>rm rfl F27 fun _ F29=>hK28 _ _ (wp_ret ?_)))
     try simp only [Exit.then,Exit.inBlock,Exit.jump]
     exact bodyPost_ret (res1 rfl (F29.get rfl)) F29.defers ⟨_,rfl,(by
      try simp only [if_true,if_false,Bool.false_eq_true,reduceIte,reduceCtorEq]
      rw [pn h26]
      exact ⟨(by first | rfl | trivial),ho.to M22.below⟩)⟩
    ·obtain ⟨p,rfl,hp8,e2⟩:=py h26
     refine zc (w':=w22) rfl rfl F25 rfl (.bool false) (zka _ _ _ _ rfl (F25 27 rfl) rfl (decide_eq_false h26)) fun _ F30=>?_
     refine hK24 _ _ ?_
     refine wp_cond_false (F30 28 rfl) (wp_skip (hK23 _ _ (zT fun _ hK31=>rm rfl F30 fun _ F32=>rm rfl F32 fun _ F33=>rm rfl F33 fun _ F34=>zh rfl rfl F34 rfl rfl (zE Tryz.func55 rfl) #[(zO gx),zI (p:Int),.slice A9 (l).length c9] (args3 (F34 29 rfl) (F34 30 rfl) (F34 31 rfl)) (xwrite_any gx gc V s n hi hK hL hd p (by omega) l (.slice A9 (l).length c9) hll w22 (ho.step M22.below) (M22.isO (k:=3) rfl) (fun b hb=>⟨fun e=>M22.dis 3 0 _ _ rfl rfl (by decide) rfl b (zta hb) e,fun e=>M22.dis 3 1 _ _ rfl rfl (by decide) rfl b (zta hb) e⟩)) ?_)))
     rintro _ w35 a35 ⟨rfl,hw35⟩ F35
     refine rm rfl F35 fun _ F36=>hK31 _ _ (wp_ret ?_)
     exact bodyPost_ret (res1 rfl (F36.get rfl)) F36.defers ⟨_,rfl,(by
      try simp only [if_true,if_false,Bool.false_eq_true,reduceIte,reduceCtorEq]
      rw [e2]
      exact ⟨(by first | rfl | trivial),XTo.before M22.below hw35⟩)⟩
   refine zT fun _ hK37=>rm rfl F21 fun _ F38=>?_
   by_cases h39:z1<0
   ·refine zc (w':=w20) rfl rfl F38 rfl (.bool true) (zka _ _ _ _ rfl (F38 23 rfl) rfl (decide_eq_true h39)) fun _ F40=>?_
    refine hK37 _ _ (wp_cond_true (F40 24 rfl) (zR (rm rfl F40 fun _ F41=>zh rfl rfl F41 rfl rfl (zE Tryz.func54 rfl) #[(zO gx)] (zaa (F41 25 rfl)) (zba ((rfree_is gx gc V L s n hi hz2 w20 (h.step M20.below)))) ?_)))
    rintro _ w42 a42 ⟨rfl,b42⟩ F42
    have M42:=M20.step b42
    refine rm rfl F42 fun _ F43=>?_
    exact J22 z2 _ _ (by rw [if_pos h39]) (F43.sb) (M42.sb)
   ·refine zc (w':=w20) rfl rfl F38 rfl (.bool false) (zka _ _ _ _ rfl (F38 23 rfl) rfl (decide_eq_false h39)) fun _ F44=>?_
    refine hK37 _ _ (wp_cond_false (F44 24 rfl) (wp_skip ?_))
    exact J22 z1 _ _ (by rw [if_neg h39]) (F44.sb) (M20.sb)
 ·refine wp_cond_true (F6 11 rfl) (zT fun _ hK45=>rm rfl F6 fun _ F46=>hK45 _ _ (wp_ret ?_))
  try simp only [Exit.then,Exit.inBlock,Exit.jump]
  exact bodyPost_ret (res1 rfl (F46.get rfl)) F46.defers ⟨_,rfl,(by
   try simp only [if_true,if_false,Bool.false_eq_true,reduceIte,reduceCtorEq]
   exact ⟨(by first | rfl | trivial),ho.to M2.below⟩)⟩
theorem idx8_yes {p:Nat→Bool} {z:Int} (h:idx8 p=z) (hz:¬z<0):∃ k:Nat,z=(k:Int)∧k<8∧fst8 p=k:=by
 subst h
 unfold idx8 at hz ⊢
 split
 ·rename_i h8;exact ⟨_,rfl,h8,rfl⟩
 ·rename_i h8;rw [if_neg h8] at hz;omega
theorem idx8_not {p:Nat→Bool} {z:Int} (h:idx8 p=z) (hz:z<0):¬fst8 p<8:=fun h8=>by
 subst h;unfold idx8 at hz;rw [if_pos h8] at hz;omega
theorem xgone_any (gx gc:Nat) {K:Nat} (V:VltN) (s n:Nat→Value) (hi:InvV K V) (hK:K<255) (hL:LeftOk V) (nm:ByteArray) (w:World) (ho:XOk w gx gc V s n):
  Calls Tryz.prog 41 #[(zO gx),.string nm] w fun e w'=>∃ t,e=.returned t∧t=zI (goneV V nm).2∧XTo w w' gx gc (zo 18 s n) (goneV V nm).1:=by
 have h:=ho.has
 obtain ⟨L,hLv⟩:∃ x,zhc V=x:=⟨_,rfl⟩
 rw [hLv] at h
 obtain ⟨dd,hd⟩:∃ x,V.dd=x:=⟨_,rfl⟩
 have hx0:=h.hx
 rw [hd] at hx0
 obtain ⟨z1,hz1⟩:∃ x,idx8 (zz V nm)=x:=⟨_,rfl⟩
 unfold goneV
 rw [hd]
 refine zk (args:=[(zO gx),.string nm]) 18 Tryz.func41 rfl rfl rfl ?_
 intro fa F
 have M:=Mx.start w
 replace M:=M.argO 0 hx0 (fun b e=>by cases e)
 replace M:=M.argO 1 h.hc (fun b e=>by cases e)
 refine zT fun _ hK1=>rm rfl F fun _ F2=>hK1 _ _ (zSk fun _ hK3=>zT fun _ hK4=>zB 4 [(0,(zO gx)),(1,.string nm),(4,zI 0),(9,.bool dd)] [0] (zu (M.roB (k:=0) rfl) dnil) [gx] F2 fun _ F5=>?_)
 refine hK4 _ _ ?_
 cases dd
 ·refine wp_cond_false (F5 9 rfl) (wp_skip (hK3 _ _ (zT fun _ hK6=>rm rfl F5 fun _ F7=>rm rfl F7 fun _ F8=>zh rfl rfl F8 rfl rfl (zE Tryz.func53 rfl) #[(zO gx),.string nm] (zfa (F8 10 rfl) (F8 11 rfl)) (zba ((rfind_is gx gc V L s n hi nm hz1 w (h.step M.below)))) ?_)))
  rintro _ w9 a9 ⟨rfl,b9⟩ F9
  have M9:=M.step b9
  refine rm rfl F9 fun _ F10=>hK6 _ _ (zSk fun _ hK11=>zT fun _ hK12=>rm rfl F10 fun _ F13=>?_)
  by_cases h14:z1<0
  ·refine zc (w':=w9) rfl rfl F13 rfl (.bool true) (zka _ _ _ _ rfl (F13 13 rfl) rfl (decide_eq_true h14)) fun _ F15=>?_
   refine hK12 _ _ (wp_cond_true (F15 14 rfl) (zT fun _ hK16=>rm rfl F15 fun _ F17=>hK16 _ _ (wp_ret ?_)))
   try simp only [Exit.then,Exit.inBlock,Exit.jump]
   exact bodyPost_ret (res1 rfl (F17.get rfl)) F17.defers ⟨_,rfl,(by
    try simp only [if_true,if_false,Bool.false_eq_true,reduceIte,reduceCtorEq]
    rw [if_neg (idx8_not hz1 h14)]
    exact ⟨(by first | rfl | trivial),ho.to M9.below⟩)⟩
  ·obtain ⟨p,rfl,hp8,e2⟩:=idx8_yes hz1 h14
   refine zc (w':=w9) rfl rfl F13 rfl (.bool false) (zka _ _ _ _ rfl (F13 13 rfl) rfl (decide_eq_false h14)) fun _ F18=>?_
   refine hK12 _ _ (wp_cond_false (F18 14 rfl) (wp_skip (hK11 _ _ (zT fun _ hK19=>rm rfl F18 fun _ F20=>rm rfl F20 fun _ F21=>zh rfl rfl F21 rfl rfl (zE Tryz.func55 rfl) #[(zO gx),zI (p:Int),zN] (args3 (F21 15 rfl) (F21 16 rfl) rfl) (xwrite_any gx gc V s n hi hK hL hd p (by omega) [] (zN) (Nat.zero_le _) w9 (ho.step M9.below) (zia _) (fun b hb=>absurd hb (zpa b))) ?_))))
   rintro _ w22 a22 ⟨rfl,hw22⟩ F22
   refine rm rfl F22 fun _ F23=>hK19 _ _ (wp_ret ?_)
   exact bodyPost_ret (res1 rfl (F23.get rfl)) F23.defers ⟨_,rfl,(by
    try simp only [if_true,if_false,Bool.false_eq_true,reduceIte,reduceCtorEq]
    rw [e2,if_pos hp8]
    exact ⟨(by first | rfl | trivial),XTo.before M9.below hw22⟩)⟩
 ·refine wp_cond_true (F5 9 rfl) (zT fun _ hK24=>rm rfl F5 fun _ F25=>hK24 _ _ (wp_ret ?_))
  try simp only [Exit.then,Exit.inBlock,Exit.jump]
  exact bodyPost_ret (res1 rfl (F25.get rfl)) F25.defers ⟨_,rfl,(by
   try simp only [if_true,if_false,Bool.false_eq_true,reduceIte,reduceCtorEq]
   exact ⟨(by first | rfl | trivial),ho.to M.below⟩)⟩
theorem XTo.fresh {w w1 w':World} {gx gc:Nat} {fp:Nat→Prop} {V:VltN} (hb:Below w.heap.size w w1) (h:XTo w1 w' gx gc fp V) (hx:w.heap.size≤gx) (hc:w.heap.size≤gc):Below w.heap.size w w':=
 ⟨h.os.trans hb.os,h.tape.trans hb.tape,h.out.trans hb.output,Nat.le_trans hb.size h.size,fun k hk=>(h.stay k (by omega) (by omega) (Nat.lt_of_lt_of_le hk hb.size)).trans (hb.block k hk)⟩
theorem left0:LeftOk zeroV:=fun e=>by cases e
theorem era0:(sayW zeroV 16 (zy ((0+1:Nat):Int))).1=ageW zeroV:=by unfold ageW;rw [num0];rfl
theorem xok0 {w:World} {gx gc:Nat} (hx:w.heap[gx]? = some (.cells #[.slice (some ⟨gc,0,none⟩) 18 18,zI (-1),.bool false] 72 (0,0))) (hc:w.heap[gc]? = some (.cells (celA (fun _=>nilC) nilS nilS) 63 (0,0))) (hne:gx≠gc):XOk w gx gc zeroV nilS nilS:=
 ⟨⟨hx,hc,fun _ _=>zia _,fun _ _=>zia _⟩,hne,fun _ _=>⟨⟨zpa _,zpa _⟩,zpa _,zpa _⟩⟩
theorem xnew_any  (w:World):
  Calls Tryz.prog 15 #[] w fun e w'=>∃ t,e=.returned t∧∃ gx gc s n,t=(zO gx)∧XOk w' gx gc (ageW zeroV) s n∧w.heap.size≤gx∧w.heap.size≤gc∧(∀ b,zo 18 s n b→w.heap.size≤b)∧Below w.heap.size w w':=by
 refine zk (args:=[]) 8 Tryz.func15 rfl rfl rfl ?_
 intro fa F
 have M:=Mx.start w
 refine zT fun _ hK1=>rm rfl F fun _ F2=>hK1 _ _ (zT fun _ hK3=>wl_allocS rfl rfl F2 rfl M 0 (t:=63) (c:=celA (fun _=>nilC) nilS nilS) (k:=18) (m:=18) (y_mkCel _ _ _ Tryz.underlying49 rfl rfl rfl) ?_)
 intro g4 a4 w4 F4 M4
 refine zc (w':=w4) rfl rfl F4 rfl (.agg (#[.slice (some ⟨g4,0,none⟩) 18 18,zI (-1),.bool false])) (by unfold execOp;simp only [List.map_toArray,List.map_cons,List.map_nil,(F4 2 rfl)];kernel_rfl) fun _ F5=>?_
 refine zq rfl rfl F5 rfl M4 1 (t:=72) (c:=#[.slice (some ⟨g4,0,none⟩) 18 18,zI (-1),.bool false]) (by unfold execOp;simp only [(F5 3 rfl)];kernel_rfl) ?_
 intro g6 a6 w6 F6 M6
 refine rm rfl F6 fun _ F7=>hK3 _ _ (zT fun _ hK8=>rm rfl F7 fun _ F9=>?_)
 have ne_:g6≠g4:=fun e=>M6.dis 1 0 _ _ rfl rfl (by decide) rfl _ rfl e
 have lx_:=(M6.own 1 _ rfl rfl _ rfl).resolve_right (fun e=>by cases e)
 have lc_:=(M6.own 0 _ rfl rfl _ rfl).resolve_right (fun e=>by cases e)
 refine zh rfl rfl F9 rfl rfl (zE Tryz.func40 rfl) #[(zO g6)] (zaa (F9 5 rfl)) (xera_any g6 g4 zeroV nilS nilS (zero_inv 0) (by decide) left0 rfl 0 (by decide) (bootR_zero (any0 16)) era0 w6 (xok0 (M6.blk (k:=1) rfl) (M6.blk (k:=0) rfl) ne_)) ?_
 rintro _ w10 a10 hw10 F10
 refine hK8 _ _ (zT fun _ hK11=>rm rfl F10 fun _ F12=>rm rfl F12 fun _ F13=>hK11 _ _ (wp_ret ?_))
 exact bodyPost_ret (res1 rfl (F13.get rfl)) F13.defers (by
  obtain ⟨s_,n_,ho_,hf_⟩:=hw10.ok
  exact ⟨_,rfl,_,_,s_,n_,rfl,ho_,lx_,lc_,fun b hb=>(hf_ b hb).elim (fun h=>absurd h (rows_nil b)) (Nat.le_trans M6.le),XTo.fresh M6.below hw10 lx_ lc_⟩)
end Go.Proofs.YtmjbnmbobocpdaaGreat
