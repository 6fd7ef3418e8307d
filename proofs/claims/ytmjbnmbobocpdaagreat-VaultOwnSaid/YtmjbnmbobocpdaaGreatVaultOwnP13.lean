/- What VaultOwn stands on, part 13. -/
import Derived.Test.YtmjbnmbobocpdaaGreatVaultOwnP1
import Derived.Test.YtmjbnmbobocpdaaGreatVaultOwnP2
import Derived.Test.YtmjbnmbobocpdaaGreatVaultOwnP3
import Derived.Test.YtmjbnmbobocpdaaGreatVaultOwnP4
import Derived.Test.YtmjbnmbobocpdaaGreatVaultOwnP5
import Derived.Test.YtmjbnmbobocpdaaGreatVaultOwnP6
import Derived.Test.YtmjbnmbobocpdaaGreatVaultOwnP7
import Derived.Test.YtmjbnmbobocpdaaGreatVaultOwnP8
import Derived.Test.YtmjbnmbobocpdaaGreatVaultOwnP9
import Derived.Test.YtmjbnmbobocpdaaGreatVaultOwnP10
import Derived.Test.YtmjbnmbobocpdaaGreatVaultOwnP11
import Derived.Test.YtmjbnmbobocpdaaGreatVaultOwnP12
set_option maxRecDepth 100000
set_option maxHeartbeats 8000000
set_option linter.unusedVariables false
set_option linter.unusedSimpArgs false
namespace Go.Proofs.YtmjbnmbobocpdaaGreat
open Go.ChangeShapes Go.WideShapes Go.ChangeAt Go.RowKit
section
open Go.Shelf
section
def celA (c:Nat→CelN) (s n:Nat→Value):Array Value:=#[s 0,n 0,.bool (c 0).f,s 1,n 1,.bool (c 1).f,s 2,n 2,.bool (c 2).f,s 3,n 3,.bool (c 3).f,s 4,n 4,.bool (c 4).f,s 5,n 5,.bool (c 5).f,s 6,n 6,.bool (c 6).f,s 7,n 7,.bool (c 7).f,s 8,n 8,.bool (c 8).f,s 9,n 9,.bool (c 9).f,s 10,n 10,.bool (c 10).f,s 11,n 11,.bool (c 11).f,s 12,n 12,.bool (c 12).f,s 13,n 13,.bool (c 13).f,s 14,n 14,.bool (c 14).f,s 15,n 15,.bool (c 15).f,s 16,n 16,.bool (c 16).f,s 17,n 17,.bool (c 17).f]
theorem cel_in (V:VltN) (s n:Nat→Value):∀ (j:Nat) (v:Value),(celA V.c s n)[j]? = some v→(vltA V s n)[0+j]? = some v:=fun j v h=>by
 have e:vltA V s n=celA V.c s n++#[.bool V.fl,zI V.lf,.bool V.dd]:=by kernel_rfl
 rw [e,Nat.zero_add,Array.getElem?_append_left (Array.getElem?_eq_some_iff.1 h).1]
 exact h
theorem cel_s (c:Nat→CelN) (s n:Nat→Value):∀ {j:Nat},j<18→(celA c s n)[3*j]? = some (s j)
 | j,h=>by
  match j,h with
  | 0,_ | 1,_ | 2,_ | 3,_ | 4,_ | 5,_ | 6,_ | 7,_ | 8,_ | 9,_ | 10,_ | 11,_ | 12,_ | 13,_ | 14,_ | 15,_ | 16,_ | 17,_=>rfl
  | k+18,h=>exact absurd h (by omega)
theorem cel_n (c:Nat→CelN) (s n:Nat→Value):∀ {j:Nat},j<18→(celA c s n)[3*j+1]? = some (n j)
 | j,h=>by
  match j,h with
  | 0,_ | 1,_ | 2,_ | 3,_ | 4,_ | 5,_ | 6,_ | 7,_ | 8,_ | 9,_ | 10,_ | 11,_ | 12,_ | 13,_ | 14,_ | 15,_ | 16,_ | 17,_=>rfl
  | k+18,h=>exact absurd h (by omega)
theorem cel_f (c:Nat→CelN) (s n:Nat→Value):∀ {j:Nat},j<18→(celA c s n)[3*j+2]? = some (.bool (c j).f)
 | j,h=>by
  match j,h with
  | 0,_ | 1,_ | 2,_ | 3,_ | 4,_ | 5,_ | 6,_ | 7,_ | 8,_ | 9,_ | 10,_ | 11,_ | 12,_ | 13,_ | 14,_ | 15,_ | 16,_ | 17,_=>rfl
  | k+18,h=>exact absurd h (by omega)
theorem cel_put (c:Nat→CelN) (s n:Nat→Value) (u v:Value) (x y:List UInt8) (b:Bool):∀ {p:Nat},p<18→((celA c s n).toList.take (3*p)++(#[u,v,.bool b]:Array Value).toList++(celA c s n).toList.drop (3*p+(#[u,v,.bool b]:Array Value).size)).toArray=celA (putC c p ⟨x,y,b⟩) (putN s p u) (putN n p v)
 | p,h=>by
  match p,h with
  | 0,_ | 1,_ | 2,_ | 3,_ | 4,_ | 5,_ | 6,_ | 7,_ | 8,_ | 9,_ | 10,_ | 11,_ | 12,_ | 13,_ | 14,_ | 15,_ | 16,_ | 17,_=>show _=_;kernel_rfl
  | k+18,h=>exact absurd h (by omega)
theorem y_ixCel {a:Act} {w:World} {o:Oper} (x k:Operand) (T:TypeId) (hT:T=76) (ho:o.op=.index T x k) {c:Nat→CelN} {s n:Nat→Value} (hx:a.eval x=.agg (celA c s n)) {z:Int} (hk:a.eval k=zI z):∀ {j:Nat},j<18→z=(j:Int)→(execOp a.eval o).run Tryz.prog w=.ok (.value (.agg #[s j,n j,.bool (c j).f])) w
 | j,h,hz=>by
  subst hT hz
  unfold execOp
  simp only [ho,hx,hk]
  match j,h with
  | 0,_ | 1,_ | 2,_ | 3,_ | 4,_ | 5,_ | 6,_ | 7,_ | 8,_ | 9,_ | 10,_ | 11,_ | 12,_ | 13,_ | 14,_ | 15,_ | 16,_ | 17,_=>show _=_;kernel_rfl
  | k+18,h=>exact absurd h (by omega)
theorem y_mkCel {a:Act} {w:World} {o:Oper} (x y:Operand) (T:TypeId) (hT:Tryz.prog.underlying T=some (.slice 63)) (ho:o.op=.makeSlice T x y) (hx:a.eval x=zI 18) (hy:a.eval y=zI 18):(execOp a.eval o).run Tryz.prog w=.ok (.value (.slice (some ⟨w.heap.size,0,none⟩) 18 18)) (w.alloc (.cells (celA (fun _=>nilC) nilS nilS) 63)):=by
 have hinf:(Tryz.prog.info? 63).map (fun i=>(i.zero,i.size,i.bytes))=some (some (.agg #[zN,zN,.bool false]),3,56):=by kernel_rfl
 obtain ⟨i,hi,hz⟩:=Option.map_eq_some_iff.1 hinf
 simp only [Prod.mk.injEq] at hz
 obtain ⟨h1,h2,h3⟩:=hz
 have h:=run_makeSlice (P:=Tryz.prog) (w:=w) T _ i _ hT hi h1 .i64 .i64 18 18 (by omega) (Int.le_refl _) (by rw [h2];decide) (by rw [h3];decide) (by decide)
 unfold execOp
 simp only [ho,hx,hy,Sem.run_bind,h,Result.andThen_ok,Sem.run_pure]
 rw [h2]
 have e:madeCells (Value.agg #[zN,zN,.bool false]).cells (Int.toNat 18*3)=celA (fun _=>nilC) nilS nilS:=by kernel_rfl
 rw [e]
 rfl
def pureR (p:Prop):Res:=⟨false,fun _=>False,fun _=>p⟩
theorem Mx.pure_ {G:Option Nat} {w0 w:World} {R:List (Nat×Res)} (M:Mx G w0 w R) (i:Nat) {p:Prop} (h:p):Mx G w0 w ((i,pureR p)::R):=M.cons i _ h (fun _ _ _ h=>h) (fun _ h=>h.elim) (fun e=>by cases e) fun _ _ _ _ _ _ h=>h.elim
def cutC (c:Nat→CelN) (j:Nat):Nat→CelN:=fun i=>if i<j then c i else nilC
theorem cutC_0 (c:Nat→CelN):cutC c 0=fun _=>nilC:=funext fun i=>if_neg (Nat.not_lt_zero i)
theorem cutC_next (c:Nat→CelN) (j:Nat):putC (cutC c j) j ⟨(c j).s,(c j).n,(c j).f⟩=cutC c (j+1):=funext fun i=>by
 unfold putC cutC
 by_cases h:i=j
 ·subst h;rw [if_pos rfl,if_pos (by omega)]
 ·rw [if_neg h]
  by_cases h2:i<j
  ·rw [if_pos h2,if_pos (by omega)]
  ·rw [if_neg h2,if_neg (by omega)]
end
end
theorem cel_one {w:World} {l r:List UInt8} {u v:Value} {b:Bool} (h:IsB w l u) (h2:IsB w r v):(#[u,v,.bool b]:Array Value).all (·.oneCell')=true:=by
 obtain ⟨A,c,rfl⟩:=h.shape
 obtain ⟨A',c',rfl⟩:=h2.shape
 simp [Value.oneCell']
def CelsAt (w:World) (B gq:Nat) (c:Nat→CelN) (s n:Nat→Value):Prop:=w.heap[gq]? = some (.cells (celA c s n) 63 (0,0))∧B≤gq∧(∀ i,i<18→IsB w (c i).s (s i)∧IsB w (c i).n (n i)∧∀ b,bfp (s i) b∨bfp (n i) b→B≤b)∧∀ i,i<18→¬bfp (s i) gq∧¬bfp (n i) gq
theorem CelsAt.low {w:World} {B B' gq:Nat} {c:Nat→CelN} {s n:Nat→Value} (h:CelsAt w B gq c s n) (hb:B'≤B):CelsAt w B' gq c s n:=
 ⟨h.1,Nat.le_trans hb h.2.1,fun i hi=>⟨(h.2.2.1 i hi).1,(h.2.2.1 i hi).2.1,fun b hb2=>Nat.le_trans hb ((h.2.2.1 i hi).2.2 b hb2)⟩,h.2.2.2⟩
theorem CelsAt.step {w w':World} {B gq:Nat} {c:Nat→CelN} {s n:Nat→Value} (h:CelsAt w B gq c s n) (hb:Below w.heap.size w w'):CelsAt w' B gq c s n:=
 ⟨(hb.block gq (z2a h.1)).trans h.1,h.2.1,fun i hi=>⟨(h.2.2.1 i hi).1.step hb,(h.2.2.1 i hi).2.1.step hb,(h.2.2.1 i hi).2.2⟩,h.2.2.2⟩
theorem nil_fp:∀ g,¬zo 18 nilS nilS g:=fun g ⟨j,hj,h⟩=>by rcases h with h | h <;> exact absurd h (zpa g)
theorem unfz_put {w:World} {so no:Nat→Value} {u0 u1:Value} {j:Nat} (h:unfz (zo 18 so no) w) (h0:unfz (ofp u0) w) (h1:unfz (ofp u1) w):unfz (zo 18 (putN so j u0) (putN no j u1)) w:=fun g ⟨i,hi,hg⟩=>by
 rcases hg with hg | hg
 ·unfold putN at hg
  split at hg
  ·exact h0 g (zta hg)
  ·exact h g ⟨i,hi,.inl hg⟩
 ·unfold putN at hg
  split at hg
  ·exact h1 g (zta hg)
  ·exact h g ⟨i,hi,.inr hg⟩
theorem copiesW_any (g:Nat) (V:VltN) (s n:Nat→Value) (hv:z1a V) (w:World) (h:HasV w g V s n):
  Calls Tryz.prog 60 #[(zO g)] w fun e w'=>∃ gq s' n',e=.returned (.slice (some ⟨gq,0,none⟩) 18 18)∧CelsAt w' w.heap.size gq V.c s' n'∧unfz (zo 18 s' n') w'∧Below w.heap.size w w':=by
 refine zk (args:=[(zO g)]) 29 Tryz.func60 rfl rfl rfl ?_
 intro fa F
 have M:=Mx.start w
 replace M:=M.argO 0 h.blk (fun b e=>by cases e)
 refine zT fun _ hK1=>rm rfl F fun _ F2=>hK1 _ _ (zT fun _ hK3=>wl_allocS rfl rfl F2 rfl M 1 (t:=63) (c:=celA (fun _=>nilC) nilS nilS) (k:=18) (m:=18) (y_mkCel _ _ _ Tryz.underlying49 rfl rfl rfl) ?_)
 intro g4 a4 w4 F4 M4
 have N4:=M4.rowsNil 2 w.heap.size 18
 rw [←cutC_0 V.c] at N4
 replace N4:=N4.uz0 3 (fp:=zo 18 nilS nilS) nil_fp
 refine rm rfl F4 fun _ F5=>hK3 _ _ (zSk fun _ hK6=>zT fun _ hK7=>zB 3 [(2,zN),(3,.slice (some ⟨g4,0,none⟩) 18 18),(9,(zO g))] [] dnil [] F5 fun _ F8=>?_)
 refine zc (w':=w4) rfl rfl F8 rfl _ (zjb _ _ rfl (F8 9 rfl) (N4.roB (k:=0) rfl) (celA V.c s n) (cel_in V s n) Tryz.underlying76 rfl (by kernel_rfl)) fun _ F9=>?_
 refine rm rfl F9 fun _ F10=>hK7 _ _ (wp_block (zeb (α:=Nat×(Nat→Value)×(Nat→Value)) (n:=29) (G:=none) (w0:=w) (fun x=>[(3,.slice (some ⟨g4,0,none⟩) 18 18),(10,.agg (celA V.c s n)),(11,zI (x.1:Int))]) (fun x=>[(3,uzR (zo 18 x.2.1 x.2.2)),(2,zua w.heap.size 18 (cutC V.c x.1) x.2.1 x.2.2),(1,blkR g4 63 (celA (cutC V.c x.1) x.2.1 x.2.2)),(0,blkO g 80 (vltA V s n))]) (fun k x=>k=(18-x.1)∧(x.1≤18)) _ ⟨0,nilS,nilS⟩ ⟨rfl,(Nat.zero_le _)⟩ (F10.sb) (N4.sb) ?_))
 clear F10 N4
 rintro k11 ⟨jn,so,no⟩ a11 w11 K11 ⟨ek11,I11⟩ F11 M11 hK11
 replace F11:Fx 29 a11 [(3,.slice (some ⟨g4,0,none⟩) 18 18),(10,.agg (celA V.c s n)),(11,zI (jn:Int))]:=F11
 replace M11:Mx _ _ w11 [(3,uzR (zo 18 so no)),(2,zua w.heap.size 18 (cutC V.c jn) so no),(1,blkR g4 63 (celA (cutC V.c jn) so no)),(0,blkO g 80 (vltA V s n))]:=M11
 replace I11:jn≤18:=I11
 replace ek11:k11=(18-jn):=ek11
 have hj:=I11
 by_cases hlt:jn<18
 ·refine zT fun _ hK12=>zc (w':=w11) rfl rfl F11 rfl (.bool true) (zka _ _ _ _ rfl (F11 11 rfl) rfl (decide_eq_true (show (jn:Int)<18 by omega))) fun _ F13=>?_
  refine hK12 _ _ (zSk fun _ hK14=>wp_cond_true (F13 12 rfl) (wp_skip (hK14 _ _ (zSk fun _ hK15=>wp_block (zT fun _ hK16=>rm rfl F13 fun _ F17=>zc (w':=w11) rfl rfl F17 rfl (.agg (#[(s jn),(n jn),.bool ((V.c jn).f)])) (y_ixCel _ _ _ rfl rfl (F17 10 rfl) (F17 11 rfl) hlt rfl) fun _ F18=>?_)))))
  refine zq rfl rfl F18 rfl M11 4 (t:=63) (c:=#[zN,zN,.bool false]) (by unfold execOp;kernel_rfl) ?_
  intro g19 a19 w19 F19 M19
  refine rm rfl F19 fun _ F20=>zt rfl rfl F20 M19 (k:=4) rfl _ _ _ rfl (F20 5 rfl) (F20 14 rfl) (#[(s jn),(n jn),.bool ((V.c jn).f)]) _ rfl (zL rfl) (cel_one ((h.hs jn hlt).step M19.below) ((h.hn jn hlt).step M19.below)) (zca rfl) (by kernel_rfl) ?_
  intro w21 M21
  refine hK16 _ _ ?_
  refine zva F20 [fun vE=>vE=.slice (some ⟨g4,0,none⟩) 18 18,fun vE=>vE=zI (jn:Int),fun vE=>vE=(zO g19),fun vE=>vE=(s jn),fun _=>True,fun vE=>vE=(zP g19 1),fun vE=>vE=(n jn),fun _=>True,fun vE=>vE=(zP g19 2),fun vE=>vE=.bool ((V.c jn).f),fun _=>True] (JM none w fun SV pV=>[(3,uzR (zo 18 so no)),(2,zua w.heap.size 18 (cutC V.c jn) so no),(1,blkR g4 63 (celA (cutC V.c jn) so no)),(0,blkO g 80 (vltA V s n)),(4,blkR g19 63 (#[(s jn),(n jn),.bool ((V.c jn).f)])),(5,z5a (SV 4) (ownR ((V.c jn).s) (pV 4))),(6,z5a (SV 7) (ownR ((V.c jn).n) (pV 7))),(7,z5a (SV 10) (pureR (pV 10=.agg #[(pV 4),(pV 7),.bool (V.c jn).f])))]) 11 rfl (by kernel_rfl) rfl ⟨trivial,trivial,trivial,trivial,trivial,trivial,trivial,trivial,trivial,trivial,trivial,trivial⟩ (fun p=>((((M21.step (zsa _)).triv 5).triv 6).triv 7).sub ⟨rfl,rfl,rfl,rfl,rfl,rfl,rfl,rfl,trivial⟩) ⟨?_,?_,?_,?_,?_,?_,?_,?_,?_,?_,?_,trivial⟩ ?_
  ·intro ua uw SV pV (M:Mx none w uw _) hk hn hd
   have e3:ua.eval (.tmp 3)=.slice (some ⟨g4,0,none⟩) 18 18:=(show ua.eval (.tmp 3)=_ from hd 3 (by decide)).trans (F20 3 rfl)
   exact ze rfl (.slice (some ⟨g4,0,none⟩) 18 18) (zla _ (.inl rfl) e3) rfl (M.sb)
  ·intro ua uw SV pV (M:Mx none w uw _) hk hn hd
   have e4:ua.eval (.tmp 4)=zI (jn:Int):=(show ua.eval (.tmp 4)=_ from hd 4 (by decide)).trans (F20 4 rfl)
   exact ze rfl (zI (jn:Int)) (zla _ (.inl rfl) e4) rfl (M.sb)
  ·intro ua uw SV pV (M:Mx none w uw _) hk hn hd
   have e5:ua.eval (.tmp 5)=(zO g19):=(show ua.eval (.tmp 5)=_ from hd 5 (by decide)).trans (F20 5 rfl)
   exact ze rfl (zO g19) (y_fa (off:=0) rfl e5 (by kernel_rfl) rfl) rfl (M.sb)
  ·intro ua uw SV pV (M:Mx none w uw _) hk hn hd
   have e17:ua.eval (.tmp 17)=(zO g19):=zQ1 (hd 17 (by decide))
   exact ze rfl ((s jn)) (zda _ _ rfl e17 (M.blk (k:=4) rfl) rfl Tryz.underlying23 rfl) rfl (M.sb)
  ·intro ua uw SV pV (M:Mx none w uw _) hk hn hd
   have e18:ua.eval (.tmp 18)=(s jn):=zQ1 (hd 18 (by decide))
   exact z9a rfl rfl #[(s jn)] (zaa e18) (zE Tryz.func90 rfl) (((clone_any ((V.c jn).s) ((s jn)) (by have:=hv jn hlt;omega) uw ((h.hs jn hlt).step M.below))).mono fun e w2 h=>(by obtain ⟨u,h1,h2,h3⟩:=h;exact ⟨u,h1,trivial,(M.newO h3 5 h2).sub ⟨rfl,rfl,rfl,rfl,rfl,rfl,rfl,(condR_off (hn 10 (by kernel_rfl)) rfl),trivial⟩⟩))
  ·intro ua uw SV pV (M:Mx none w uw _) hk hn hd
   have e5:ua.eval (.tmp 5)=(zO g19):=(show ua.eval (.tmp 5)=_ from hd 5 (by decide)).trans (F20 5 rfl)
   exact ze rfl (zP g19 1) (y_fa (off:=1) rfl e5 (by kernel_rfl) rfl) rfl (M.sb)
  ·intro ua uw SV pV (M:Mx none w uw _) hk hn hd
   have e20:ua.eval (.tmp 20)=(zP g19 1):=zQ1 (hd 20 (by decide))
   exact ze rfl ((n jn)) (zda _ _ rfl e20 (M.blk (k:=4) rfl) rfl Tryz.underlying23 rfl) rfl (M.sb)
  ·intro ua uw SV pV (M:Mx none w uw _) hk hn hd
   have e21:ua.eval (.tmp 21)=(n jn):=zQ1 (hd 21 (by decide))
   exact z9a rfl rfl #[(n jn)] (zaa e21) (zE Tryz.func90 rfl) (((clone_any ((V.c jn).n) ((n jn)) (by have:=hv jn hlt;omega) uw ((h.hn jn hlt).step M.below))).mono fun e w2 h=>(by obtain ⟨u,h1,h2,h3⟩:=h;exact ⟨u,h1,trivial,(M.newO h3 6 h2).sub ⟨rfl,rfl,rfl,rfl,rfl,rfl,rfl,(condR_off (hn 10 (by kernel_rfl)) rfl),trivial⟩⟩))
  ·intro ua uw SV pV (M:Mx none w uw _) hk hn hd
   have e5:ua.eval (.tmp 5)=(zO g19):=(show ua.eval (.tmp 5)=_ from hd 5 (by decide)).trans (F20 5 rfl)
   exact ze rfl (zP g19 2) (y_fa (off:=2) rfl e5 (by kernel_rfl) rfl) rfl (M.sb)
  ·intro ua uw SV pV (M:Mx none w uw _) hk hn hd
   have e23:ua.eval (.tmp 23)=(zP g19 2):=zQ1 (hd 23 (by decide))
   exact ze rfl (.bool ((V.c jn).f)) (zda _ _ rfl e23 (M.blk (k:=4) rfl) rfl Tryz.underlying4 rfl) rfl (M.sb)
  ·intro ua uw SV pV (M:Mx none w uw _) hk hn hd
   obtain ⟨s4,f19,q19⟩:=(show SV 4=true∧ua.eval (.tmp 19)=pV 4∧stE _ 4 (pV 4) from hd 19 (by decide))
   have e19:ua.eval (.tmp 19)=(pV 4):=f19
   obtain ⟨s7,f22,q22⟩:=(show SV 7=true∧ua.eval (.tmp 22)=pV 7∧stE _ 7 (pV 7) from hd 22 (by decide))
   have e22:ua.eval (.tmp 22)=(pV 7):=f22
   have e24:ua.eval (.tmp 24)=.bool ((V.c jn).f):=zQ1 (hd 24 (by decide))
   obtain ⟨A0_,c0_,h0_⟩:=(M.isO (k:=5) (zya s4 rfl)).shape
   obtain ⟨A1_,c1_,h1_⟩:=(M.isO (k:=6) (zya s7 rfl)).shape
   exact ze rfl (.agg #[(pV 4),(pV 7),.bool (V.c jn).f]) (by unfold execOp;simp only [List.map_toArray,List.map_cons,List.map_nil,e19,e22,e24,h0_,h1_];kernel_rfl) trivial ((M.pure_ 7 rfl).sub ⟨rfl,rfl,rfl,rfl,rfl,rfl,rfl,rfl,trivial⟩)
  intro p22 a22 w22 M22 G22 y22
  obtain ⟨q0,q1,-,-,-,-,-,-,-,-,q10,-⟩:=y22
  have r0:p22 0=.slice (some ⟨g4,0,none⟩) 18 18:=q0
  have r1:p22 1=zI (jn:Int):=q1
  have r10:p22 10=.agg #[(p22 4),(p22 7),.bool (V.c jn).f]:=(show (pureR (p22 10=.agg #[(p22 4),(p22 7),.bool (V.c jn).f])).F _ from Mx.at_ (show Mx _ _ _ _ from M22) 7 _ rfl)
  replace M22:Mx _ _ w22 [(3,uzR (zo 18 so no)),(2,zua w.heap.size 18 (cutC V.c jn) so no),(1,blkR g4 63 (celA (cutC V.c jn) so no)),(0,blkO g 80 (vltA V s n)),(4,blkR g19 63 (#[(s jn),(n jn),.bool ((V.c jn).f)])),(5,z5a true (ownR ((V.c jn).s) (p22 4))),(6,z5a true (ownR ((V.c jn).n) (p22 7))),(7,z5a true (pureR (p22 10=.agg #[(p22 4),(p22 7),.bool (V.c jn).f])))]:=M22
  simp only [List.take,layV,Nat.zero_add,Nat.reduceAdd,r0,r1,r10] at G22
  obtain ⟨Ap22_5,cp22_5,hp22_5⟩:=(M22.isO (k:=5) rfl).shape
  rw [hp22_5] at M22
  try rw [hp22_5] at G22
  obtain ⟨Ap22_6,cp22_6,hp22_6⟩:=(M22.isO (k:=6) rfl).shape
  rw [hp22_6] at M22
  try rw [hp22_6] at G22
  refine zc (w':=w22) rfl rfl G22 rfl (zP g4 (3*jn)) (zcc 49 (s:=3) Tryz.underlying49 (by kernel_rfl) _ _ rfl (G22 15 rfl) (G22 16 rfl) rfl hlt (by omega)) fun _ F23=>?_
  clear G22
  refine zt rfl rfl F23 M22 (k:=1) rfl _ _ _ rfl (F23 26 rfl) (F23 25 rfl) (#[(.slice Ap22_5 ((V.c jn).s).length cp22_5),(.slice Ap22_6 ((V.c jn).n).length cp22_6),.bool ((V.c jn).f)]) (celA (putC (cutC V.c jn) jn ⟨(V.c jn).s,(V.c jn).n,(V.c jn).f⟩) (putN so jn ((.slice Ap22_5 ((V.c jn).s).length cp22_5))) (putN no jn ((.slice Ap22_6 ((V.c jn).n).length cp22_6)))) rfl (show 3*jn+3≤54 by omega) (by simp [Value.oneCell']) (cel_put (cutC V.c jn) so no ((.slice Ap22_5 ((V.c jn).s).length cp22_5)) ((.slice Ap22_6 ((V.c jn).n).length cp22_6)) (V.c jn).s (V.c jn).n (V.c jn).f hlt) (by kernel_rfl) ?_
  intro w24 M24
  refine hK15 _ _ (zR (zc (w':=w24) rfl rfl F23 rfl (zI ((jn+1:Nat):Int)) (zoa _ _ _ _ rfl (F23 11 rfl) rfl (by omega) (by omega)) fun _ F25=>?_))
  refine rm rfl F25 fun _ F26=>?_
  have hu_:=unfz_put (j:=jn) (M24.uzF (k:=3) rfl) (Byt.uz (M24.at_ 5 _ rfl)) (Byt.uz (M24.at_ 6 _ rfl))
  have M27:=M24.rowsTwo (i:=2) (k:=5) (k2:=6) (f:=(V.c jn).f) rfl rfl rfl (fun b hb=>M24.owns (k:=5) rfl b (zta hb)) (fun b hb=>M24.owns (k:=6) rfl b (zta hb)) jn (by decide)
  rw [cutC_next] at M27
  replace M27:=M27.uzGrow (i:=3) hu_ (fun g hg=>⟨2,_,rfl,rfl,hg⟩)
  subst ek11
  exact hK11 _ ⟨(jn+1),(putN so jn ((.slice Ap22_5 ((V.c jn).s).length cp22_5))),(putN no jn ((.slice Ap22_6 ((V.c jn).n).length cp22_6)))⟩ _ _ (by omega) ⟨rfl,(by omega)⟩ (F26.sb) (M27.sb)
 ·have hj18:jn=18:=by omega
  refine zT fun _ hK28=>zc (w':=w11) rfl rfl F11 rfl (.bool false) (zka _ _ _ _ rfl (F11 11 rfl) rfl (decide_eq_false (show ¬(jn:Int)<18 by omega))) fun _ F29=>?_
  refine hK28 _ _ (zSk fun _ hK30=>wp_cond_false (F29 12 rfl) (wp_exit ?_))
  simp only [Exit.then,Exit.inBlock,↓reduceIte,Nat.reduceEqDiff]
  refine hK6 _ _ (zT fun _ hK31=>rm rfl F29 fun _ F32=>?_)
  exact rm rfl F32 fun _ F33=>hK31 _ _ (wp_ret (bodyPost_ret (res1 rfl (F33.get rfl)) F33.defers ⟨g4,so,no,rfl,(by subst hj18;exact ⟨M11.blk (k:=1) rfl,(M11.own 1 _ rfl rfl _ rfl).resolve_right (fun e=>by cases e),fun i hi=>(by have q:=M11.rowsAt (i:=2) rfl i hi;rwa [show cutC V.c 18 i=V.c i from if_pos hi] at q),fun i hi=>⟨fun hb=>M11.dis 1 2 _ _ rfl rfl (by decide) rfl _ rfl ⟨i,hi,.inl hb⟩,fun hb=>M11.dis 1 2 _ _ rfl rfl (by decide) rfl _ rfl ⟨i,hi,.inr hb⟩⟩⟩),M11.uzF (k:=3) rfl,M11.below⟩))
theorem copiesW_ex (g:Nat) (V:VltN) (s n:Nat→Value) (hv:z1a V) (w:World) (h:HasV w g V s n):Calls Tryz.prog 60 #[(zO g)] w fun e w'=>∃ t,e=.returned t∧∃ gq s' n',t=.slice (some ⟨gq,0,none⟩) 18 18∧CelsAt w' w.heap.size gq V.c s' n'∧unfz (zo 18 s' n') w'∧Below w.heap.size w w':=
 (copiesW_any g V s n hv w h).mono fun e w' ⟨gq,s',n',h1,h2,h3,h4⟩=>⟨_,h1,gq,s',n',rfl,h2,h3,h4⟩
theorem cellsW_any (g:Nat) (V:VltN) (s n:Nat→Value) (hv:z1a V) (w:World) (h:HasV w g V s n):
  Calls Tryz.prog 28 #[(zO g)] w fun e w'=>∃ gq s' n',e=.returned (.slice (some ⟨gq,0,none⟩) 18 18)∧CelsAt w' w.heap.size gq V.c s' n'∧unfz (zo 18 s' n') w'∧Below w.heap.size w w':=by
 refine zk (args:=[(zO g)]) 7 Tryz.func28 rfl rfl rfl ?_
 intro fa F
 have M:=Mx.start w
 replace M:=M.argO 0 h.blk (fun b e=>by cases e)
 refine zT fun _ hK1=>rm rfl F fun _ F2=>hK1 _ _ (zT fun _ hK3=>zB 3 [(2,zN),(5,(zO g))] [] dnil [] F2 fun _ F4=>?_)
 refine zh rfl rfl F4 rfl rfl (zE Tryz.func60 rfl) #[(zO g)] (zaa (F4 5 rfl)) (copiesW_ex g V s n hv w (h.step M.below)) ?_
 rintro _ w5 a5 ⟨gq5,s5,n5,rfl,hq5,hu5,b5⟩ F5
 have hle:=M.le
 have M5:=M.step b5
 exact rm rfl F5 fun _ F6=>hK3 _ _ (wp_ret (bodyPost_ret (res1 rfl (F6.get rfl)) F6.defers ⟨gq5,s5,n5,rfl,CelsAt.low hq5 hle,hu5,M5.below⟩))
theorem within6_any (a n:Int) (hn:0<n) (hn':n<9223372036854775808) (ha:-9223372036854775808≤a) (ha':a<9223372036854775808) (w:World):
  Calls Tryz.prog 17 #[.int .i64 a,.int .i64 n] w fun e w'=>e=.returned (.int .i64 (a%n))∧w=w':=by
 obtain ⟨h1,h2,h3,h4⟩:=tmod_case a n hn
 have hz:(n==0)=false:=by simp;omega
 by_cases h:a.tmod n<0
 ·have H:=hid (h2 h)
  clear h1 h2
  go_enter Tryz.func17,Tryz.ntmps17
  go_wp2
  go_ret
  exact ⟨congrArg (fun x=>Ending.returned (.int .i64 x)) H.out,rfl⟩
 ·have H:=hid (h1 (by omega))
  clear h1 h2
  go_enter Tryz.func17,Tryz.ntmps17
  go_wp2
  go_ret
  exact ⟨congrArg (fun x=>Ending.returned (.int .i64 x)) H.out,rfl⟩
theorem top_small {a:Nat} (h:a<4294967296):topI a 8≤32:=by
 by_cases h0:a=0
 ·subst h0;rw [topI_none];decide
 ·have ha:a<4294967296^8:=Nat.lt_trans h (by decide)
  have h1:=Nat.log2_self_le h0
  have h2:a<2^(Nat.log2 a+1):=Nat.lt_log2_self
  have h3:a / 2^(Nat.log2 a)=1:=by
   apply Nat.div_eq_of_lt_le
   ·omega
   ·rw [Nat.pow_succ] at h2;omega
  rw [top_one ha h3]
  have h4:Nat.log2 a<32:=by
   refine Classical.byContradiction fun hn=>?_
   have:2^32≤2^Nat.log2 a:=Nat.pow_le_pow_right (by omega) (by omega)
   omega
  omega
theorem nmB_ne (s:ByteArray):sBy (nmB s)≠[]:=by
 by_cases h:(sBy s).length=0
 ·rw [nmB_nil h];simp [sBy]
 ·rw [nmB_some h]
  simp only [sBy,List.toList_toArray]
  intro e
  have:=congrArg List.length e
  rw [List.length_take] at this
  have h2:=nmL_len (sBy s)
  unfold sBy at h h2
  simp only [List.length_nil] at this
  omega
theorem nmB_size (s:ByteArray):0<(nmB s).size∧(nmB s).size≤16:=by
 have h:=nmB_ne s
 have e:(sBy (nmB s)).length=(nmB s).size:=sBy_len _
 refine ⟨by have:=List.length_pos_iff.2 h;omega,?_⟩
 by_cases h0:(sBy s).length=0
 ·rw [nmB_nil h0];decide
 ·rw [←e,nmB_some h0]
  simp only [sBy,List.toList_toArray,List.length_take]
  omega
theorem name_of {B:ByteArray} (h1:0<B.size) (h2:B.size≤16) (h:∀ x∈sBy B,33≤x.toNat∧x.toNat≤126):nameB B=true:=by
 refine @decide_eq_true _ (Classical.propDecidable _) ⟨h1,h2,fun i hi=>?_⟩
 have hg:(sBy B)[i]? = some (B[i]'hi):=by
  unfold sBy
  rw [Array.getElem?_toList]
  exact Array.getElem?_eq_getElem hi
 have:=h _ (List.mem_of_getElem? hg)
 omega
theorem nmB_ok (s:ByteArray):nameB (nmB s)=true:=by
 refine name_of (nmB_size s).1 (nmB_size s).2 fun x hx=>?_
 by_cases h0:(sBy s).length=0
 ·rw [nmB_nil h0] at hx
  have:x=117:=by simpa [sBy] using hx
  subst this;decide
 ·rw [nmB_some h0] at hx
  simp only [sBy,List.toList_toArray] at hx
  obtain ⟨y,-,hy⟩:=List.mem_map.1 (List.mem_of_mem_take hx)
  rw [←hy]
  exact nmC_in y
theorem kn (n:Int) {k:Int} (hk:0<k):0<(1+n%k).toNat∧(1+n%k).toNat≤k.toNat:=by
 have h1:=Int.emod_nonneg n (show k≠0 by omega)
 have h2:=Int.emod_lt_of_pos n hk
 omega
theorem mkR_ok (n:Int) (s:ByteArray) (b:List UInt8):RecOk (mkR n s b):=by
 have h2:=Int.emod_two_eq n
 have hs:=nmB_size s
 have h6:=Int.emod_nonneg (n.tdiv 11) (show (6:Int)≠0 by decide)
 have h6':=Int.emod_lt_of_pos (n.tdiv 11) (show (0:Int)<6 by decide)
 have h7:=Int.emod_nonneg (n.tdiv 13) (show (1000:Int)≠0 by decide)
 have h7':=Int.emod_lt_of_pos (n.tdiv 13) (show (0:Int)<1000 by decide)
 have h8:=Int.emod_nonneg (n.tdiv 17) (show (1099511627776:Int)≠0 by decide)
 have h8':=Int.emod_lt_of_pos (n.tdiv 17) (show (0:Int)<1099511627776 by decide)
 have h9:=Int.emod_nonneg (n.tdiv 2) (show (4294967296:Int)≠0 by decide)
 have h9':=Int.emod_lt_of_pos (n.tdiv 2) (show (0:Int)<4294967296 by decide)
 have hA:=Int.emod_nonneg (n.tdiv 7) (show (4294967296:Int)≠0 by decide)
 have hA':=Int.emod_lt_of_pos (n.tdiv 7) (show (0:Int)<4294967296 by decide)
 unfold mkR
 exact ⟨(by dsimp only;omega),(by dsimp only;omega),(by dsimp only;omega),(by dsimp only;omega),(by dsimp only;omega),Nat.lt_trans (m:=4294967296) (by dsimp only;omega) (by decide),Nat.lt_trans (m:=4294967296) (by dsimp only;omega) (by decide)⟩
theorem mkR_keep (n:Int) (s:ByteArray) (b:List UInt8):zga (mkR n s b)=true:=by
 have h2:=Int.emod_two_eq n
 have h6:=Int.emod_nonneg (n.tdiv 11) (show (6:Int)≠0 by decide)
 have h6':=Int.emod_lt_of_pos (n.tdiv 11) (show (0:Int)<6 by decide)
 have h7:=Int.emod_nonneg (n.tdiv 13) (show (1000:Int)≠0 by decide)
 have h8:=Int.emod_nonneg (n.tdiv 17) (show (1099511627776:Int)≠0 by decide)
 have h9:=Int.emod_nonneg (n.tdiv 2) (show (4294967296:Int)≠0 by decide)
 have h9':=Int.emod_lt_of_pos (n.tdiv 2) (show (0:Int)<4294967296 by decide)
 have hA:=Int.emod_nonneg (n.tdiv 7) (show (4294967296:Int)≠0 by decide)
 have hA':=Int.emod_lt_of_pos (n.tdiv 7) (show (0:Int)<4294967296 by decide)
 have t1:=top_small (a:=((n.tdiv 2)%4294967296).toNat) (by omega)
 have t2:=top_small (a:=((n.tdiv 7)%4294967296).toNat) (by omega)
 have q2:=Int.emod_nonneg n (show ((min b.length 16+1:Nat):Int)≠0 by omega)
 have q2':=Int.emod_lt_of_pos n (show (0:Int)<((min b.length 16+1:Nat):Int) by omega)
 have q5:=Int.emod_nonneg (n.tdiv 3) (show ((min b.length 48+1:Nat):Int)≠0 by omega)
 have q5':=Int.emod_lt_of_pos (n.tdiv 3) (show (0:Int)<((min b.length 48+1:Nat):Int) by omega)
 unfold zga mkR
 simp only [Bool.and_eq_true,decide_eq_true_eq]
 refine ⟨⟨⟨⟨⟨⟨⟨⟨⟨?_,nmB_ok s⟩,?_⟩,?_⟩,t1⟩,t2⟩,by omega⟩,by omega⟩,by omega⟩,by omega⟩
 ·exact decide_eq_true (by omega)
 ·rw [List.length_take];omega
 ·rw [List.length_take];omega
def nmK (k:Nat):ByteArray:=([({ data:=#[97] }:ByteArray),({ data:=#[98] }:ByteArray),({ data:=#[99,99] }:ByteArray),({ data:=#[100,33] }:ByteArray),({ data:=#[101] }:ByteArray),({ data:=#[102] }:ByteArray),({ data:=#[103] }:ByteArray),({ data:=#[104] }:ByteArray),({ data:=#[105] }:ByteArray),({ data:=#[106,106] }:ByteArray)]:List ByteArray).getD k { data:=#[] }
def nmA:Array Value:=#[.string ({ data:=#[97] }:ByteArray),.string ({ data:=#[98] }:ByteArray),.string ({ data:=#[99,99] }:ByteArray),.string ({ data:=#[100,33] }:ByteArray),.string ({ data:=#[101] }:ByteArray),.string ({ data:=#[102] }:ByteArray),.string ({ data:=#[103] }:ByteArray),.string ({ data:=#[104] }:ByteArray),.string ({ data:=#[105] }:ByteArray),.string ({ data:=#[106,106] }:ByteArray)]
theorem nmA_at:∀ {k:Nat},k<10→nmA[k]? = some (.string (nmK k))
 | k,h=>by
  match k,h with
  | 0,_ | 1,_ | 2,_ | 3,_ | 4,_ | 5,_ | 6,_ | 7,_ | 8,_ | 9,_=>rfl
  | n+10,h=>exact absurd h (by omega)
theorem nmK_ok:∀ {k:Nat},k<10→NameOk (nmK k)
 | k,h=>by
  have one:∀ (l:List UInt8),0<l.length→l.length≤16→(∀ b,b∈l→33≤((b.toNat:Nat):Int)∧((b.toNat:Nat):Int)≤126)→NameOk ⟨l.toArray⟩:=fun l h1 h2 h3=>⟨h1,h2,fun i hi=>h3 _ (by
   show l.toArray[i]∈l
   simp)⟩
  match k,h with
  | 0,_=>exact one [97] (by decide) (by decide) (by decide)
  | 1,_=>exact one [98] (by decide) (by decide) (by decide)
  | 2,_=>exact one [99,99] (by decide) (by decide) (by decide)
  | 3,_=>exact one [100,33] (by decide) (by decide) (by decide)
  | 4,_=>exact one [101] (by decide) (by decide) (by decide)
  | 5,_=>exact one [102] (by decide) (by decide) (by decide)
  | 6,_=>exact one [103] (by decide) (by decide) (by decide)
  | 7,_=>exact one [104] (by decide) (by decide) (by decide)
  | 8,_=>exact one [105] (by decide) (by decide) (by decide)
  | 9,_=>exact one [106,106] (by decide) (by decide) (by decide)
  | n+10,h=>exact absurd h (by omega)
def recK (n:Int) (b:List UInt8) (k:Nat):RecN:={ mkR n { data:=#[] } b with s:=nmK k }
theorem recK_ok (n:Int) (b:List UInt8) {k:Nat} (hk:k<10):RecOk (recK n b k):=by
 have h:=mkR_ok n { data:=#[] } b
 exact ⟨h.p,h.t,h.c,h.z,by have:=(nmK_ok hk).2.1;show (nmK k).size≤1000;omega,h.a,h.b⟩
theorem recK_keep (n:Int) (b:List UInt8) {k:Nat} (hk:k<10):zga (recK n b k)=true:=by
 have h:=mkR_keep n { data:=#[] } b
 unfold zga at h ⊢
 simp only [Bool.and_eq_true,decide_eq_true_eq] at h ⊢
 obtain ⟨⟨⟨⟨⟨⟨⟨⟨⟨h1,h2⟩,h3⟩,h4⟩,h5⟩,h6⟩,h7⟩,h8⟩,h9⟩,h10⟩:=h
 exact ⟨⟨⟨⟨⟨⟨⟨⟨⟨h1,@decide_eq_true _ (Classical.propDecidable _) (nmK_ok hk)⟩,h3⟩,h4⟩,h5⟩,h6⟩,h7⟩,h8⟩,h9⟩,h10⟩
theorem names6_any  (w:World):
  Calls Tryz.prog 34 #[] w fun e w'=>∃ gq,e=.returned (.slice (some ⟨gq,0,none⟩) 10 10)∧w.heap.size≤gq∧w'.heap[gq]? = some (.cells nmA 9 (0,0))∧Below w.heap.size w w':=by
 refine zk (args:=[]) 2 Tryz.func34 rfl rfl rfl ?_
 intro fa F
 have M:=Mx.start w
 refine zT fun _ hK1=>rm rfl F fun _ F2=>hK1 _ _ (zT fun _ hK3=>?_)
 refine wl_allocS rfl rfl F2 rfl M 0 (t:=9) (c:=#[.string ({ data:=#[97] }),.string ({ data:=#[98] }),.string ({ data:=#[99,99] }),.string ({ data:=#[100,33] }),.string ({ data:=#[101] }),.string ({ data:=#[102] }),.string ({ data:=#[103] }),.string ({ data:=#[104] }),.string ({ data:=#[105] }),.string ({ data:=#[106,106] })]) (k:=10) (m:=10) (y_litG 45 9 (s:=1) (zv:=.string "".toUTF8) Tryz.underlying45 (by kernel_rfl) (by kernel_rfl) rfl (#[.string ({ data:=#[97] }),.string ({ data:=#[98] }),.string ({ data:=#[99,99] }),.string ({ data:=#[100,33] }),.string ({ data:=#[101] }),.string ({ data:=#[102] }),.string ({ data:=#[103] }),.string ({ data:=#[104] }),.string ({ data:=#[105] }),.string ({ data:=#[106,106] })]) (by decide) (by decide) (by simp only [List.map_toArray,List.map_cons,List.map_nil];kernel_rfl)) ?_
 intro g4 a4 w4 F4 M4
 exact rm rfl F4 fun _ F5=>hK3 _ _ (wp_ret (bodyPost_ret (res1 rfl (F5.get rfl)) F5.defers ⟨g4,rfl,(M4.own 0 _ rfl rfl _ rfl).resolve_right (fun e=>by cases e),M4.blk (k:=0) rfl,M4.below⟩))
theorem names6_ex (w:World):Calls Tryz.prog 34 #[] w fun e w'=>∃ t,e=.returned t∧∃ gq,t=.slice (some ⟨gq,0,none⟩) 10 10∧w.heap.size≤gq∧w'.heap[gq]? = some (.cells nmA 9 (0,0))∧Below w.heap.size w w':=
 (names6_any w).mono fun e w' ⟨gq,h1,h2,h3,h4⟩=>⟨_,h1,gq,rfl,h2,h3,h4⟩
theorem rec6_any (n:Int) (b:List UInt8) (bv:Value) (hn:-9223372036854775808≤n∧n<9223372036854775808) (hb:b.length≤1000) (w:World) (hB:IsB w b bv):
  Calls Tryz.prog 21 #[zI n,bv] w fun e w'=>∃ t,e=.returned t∧∃ V,t=.agg (recA (recK n b ((n.tdiv 23)%10).toNat) V)∧RecIs w' (recK n b ((n.tdiv 23)%10).toNat) V∧(∀ q,bfp V.v2 q∨bfp V.v5 q→w.heap.size≤q)∧Below w.heap.size w w':=by
 obtain ⟨k,hk,hk10⟩:∃ k:Nat,(n.tdiv 23)%10=(k:Int)∧k<10:=⟨((n.tdiv 23)%10).toNat,by omega,by omega⟩
 rw [show ((n.tdiv 23)%10).toNat=k by omega]
 have hq0:=tdiv_in hn (show (0:Int)<23 by decide)
 have hq:-9223372036854775808≤n.tdiv 23∧n.tdiv 23<9223372036854775808:=by omega
 obtain ⟨r,er⟩:∃ x,mkR n { data:=#[] } b=x:=⟨_,rfl⟩
 rw [show recK n b k={ r with s:=nmK k } by rw [recK,er]]
 obtain ⟨Ab,cb,rfl⟩:=hB.shape
 refine zk (args:=[zI n,.slice Ab b.length cb]) 17 Tryz.func21 rfl rfl rfl ?_
 intro fa F
 have M:=Mx.start w
 replace M:=M.argB 0 hB (fun g e=>by cases e)
 refine zT fun _ hK1=>zq rfl rfl F rfl M 1 (t:=37) (c:=recA ⟨0, "".toUTF8,[],0,0,[],0,0,0⟩ ⟨zN,zN⟩) (by unfold execOp;kernel_rfl) ?_
 intro g2 a2 w2 F2 M2
 refine hK1 _ _ (zT fun _ hK3=>rm rfl F2 fun _ F4=>rm rfl F4 fun _ F5=>zh rfl rfl F5 rfl rfl (zE Tryz.func47 rfl) #[zI n,.string ({ data:=#[] }),.slice Ab b.length cb] (args3 (F5 6 rfl) rfl (F5 7 rfl)) (maker_is n ({ data:=#[] }) b (.slice Ab b.length cb) hn (by decide) hb r er w2 (M2.isb (k:=0) rfl)) ?_)
 rintro _ w6 a6 ⟨V6,rfl,is6,lo6,b6⟩ F6
 have lo0:=fun q h=>Nat.le_trans M2.le (lo6 q h)
 have M6:=M2.newRec b6 is6 lo6 2 3
 clear M2 b6 lo6
 refine zq rfl rfl F6 rfl M6 4 (t:=37) (c:=recA ⟨0, "".toUTF8,[],0,0,[],0,0,0⟩ ⟨zN,zN⟩) (by unfold execOp;kernel_rfl) ?_
 intro g7 a7 w7 F7 M7
 refine zt rfl rfl F7 M7 (k:=4) rfl _ _ _ rfl (F7 5 rfl) (F7 8 rfl) (recA r V6) _ rfl (zL rfl) (z6a (w:=w7) ⟨(M7.isb (k:=2) rfl),(M7.isb (k:=3) rfl)⟩) (zca rfl) (by kernel_rfl) ?_
 intro w8 M8
 refine hK3 _ _ (zT fun _ hK9=>zh rfl rfl F7 rfl rfl (zE Tryz.func34 rfl) #[] (args0) (names6_ex w8) ?_)
 rintro _ w10 a10 ⟨gq10,rfl,hg10,hc10,b10⟩ F10
 have M10:=M8.newb b10 5 hg10 hc10
 clear M8 b10 hg10 hc10
 refine rm rfl F10 fun _ F11=>zc (w':=w10) rfl rfl F11 rfl (zI (n.tdiv 23)) (y_quoT _ _ _ _ rfl (F11 10 rfl) rfl hn (by decide) rfl) fun _ F12=>?_
 refine zh rfl rfl F12 rfl rfl (zE Tryz.func17 rfl) #[zI (n.tdiv 23),zI 10] (zfa (F12 11 rfl) rfl) (zba ((hk▸within6_any (n.tdiv 23) 10 (by omega) (by omega) hq.1 hq.2 w10))) ?_
 rintro _ w13 a13 ⟨rfl,rfl⟩ F13
 refine zc (w':=w10) rfl rfl F13 rfl (zP gq10 k) (zcc 45 (s:=1) Tryz.underlying45 (by kernel_rfl) _ _ rfl (F13 9 rfl) (F13 12 rfl) rfl hk10 (by omega)) fun _ F14=>?_
 refine zc (w':=w10) rfl rfl F14 rfl (.string (nmK k)) (zda _ _ rfl (F14 13 rfl) (M10.blk (k:=5) rfl) (nmA_at hk10) Tryz.underlying9 rfl) fun _ F15=>?_
 refine zc (w':=w10) rfl rfl F15 rfl (zP g7 1) (y_fa (off:=1) rfl (F15 5 rfl) (by kernel_rfl) rfl) fun _ F16=>?_
 refine zt rfl rfl F16 M10 (k:=4) rfl _ _ _ rfl (F16 15 rfl) (F16 14 rfl) (#[.string (nmK k)]) (recA ⟨r.p,(nmK k),r.l2,r.a,r.b,r.l5,r.t,r.c,r.z⟩ ⟨V6.v2,V6.v5⟩) rfl (zL rfl) (one_str _) (by kernel_rfl) (by kernel_rfl) ?_
 intro w17 M17
 refine hK9 _ _ (zT fun _ hK18=>zc (w':=w17) rfl rfl F16 rfl _ (zjb _ _ rfl (F16 5 rfl) (M17.blk (k:=4) rfl) (recA ⟨r.p,(nmK k),r.l2,r.a,r.b,r.l5,r.t,r.c,r.z⟩ ⟨V6.v2,V6.v5⟩) (znb rfl) Tryz.underlying37 rfl (by kernel_rfl)) fun _ F19=>?_)
 refine zt rfl rfl F19 M17 (k:=1) rfl _ _ _ rfl (F19 4 rfl) (F19 16 rfl) (recA ⟨r.p,(nmK k),r.l2,r.a,r.b,r.l5,r.t,r.c,r.z⟩ ⟨V6.v2,V6.v5⟩) _ rfl (zL rfl) (z6a (w:=w17) (r:=⟨r.p,nmK k,r.l2,r.a,r.b,r.l5,r.t,r.c,r.z⟩) ⟨(M17.isb (k:=2) rfl),(M17.isb (k:=3) rfl)⟩) (zca rfl) (by kernel_rfl) ?_
 intro w20 M20
 exact hK18 _ _ (wp_ret (bodyPost_ret (results_cell_row rfl _ _ _ _ _ (0,0) _ (F19.get rfl) (M20.blk (k:=1) rfl) Tryz.underlying37 rfl (by kernel_rfl)) F19.defers ⟨_,rfl,⟨V6.v2,V6.v5⟩,rfl,⟨(M20.isb (k:=2) rfl),(M20.isb (k:=3) rfl)⟩,(fun q h=>h.elim (fun h=>lo0 q (.inl h)) (fun h=>lo0 q (.inr h))),M20.below⟩))
section
open Go.Shelf
section
variable {G:Option Nat} {w0 w w':World} {R:List (Nat×Res)} {kg kr g:Nat} {t:TypeId} {a a':Array Value} {c c':Nat→CelN} {s n s' n':Nat→Value}
theorem Mx.vault (M:Mx G w0 w R) (hk:look R kg=some (blkR g t a)) (hrr:look R kr=some (zua 0 18 c s n)) (hb:w.grownBy w' (some g)) (hblk:w'.heap[g]? = some (.cells a' t (0,0))) (hrow:RowsV w' g c' s' n') (hto:∀ b,zo 18 s' n' b→zo 18 s n b∨w.heap.size≤b):Mx G w0 w' ((kr,zua 0 18 c' s' n')::(kg,blkR g t a')::R):=
 (M.put hk hb hblk).cons kr _ (fun j hj=>⟨(hrow j hj).1.1,(hrow j hj).2.1,fun _ _=>Nat.zero_le _⟩) rows_dep (fun b ⟨j,hj,h⟩=>by
  rcases h with h | h
  ·exact (hrow j hj).1.1.lt h
  ·exact (hrow j hj).2.1.lt h) (fun e=>by cases e) fun k r e hkk hw b h h2=>by
  rcases hw with hw | hw
  ·cases hw
  rw [zx] at e
  split at e
  ·cases e
   obtain rfl:b=g:=h2
   obtain ⟨j,hj,h⟩:=h
   rcases h with h | h
   ·exact (hrow j hj).1.2 h
   ·exact (hrow j hj).2.2 h
  ·rcases hto b h with h | h
   ·exact M.dis k kr r _ e hrr (fun e2=>hkk e2.symm) hw b h2 h
   ·have:=M.lt k r e b h2
    omega
theorem Mx.newVault (M:Mx G w0 w R) (hb:Below w.heap.size w w') (kg kr:Nat) (hg:w.heap.size≤g) (hblk:w'.heap[g]? = some (.cells a' t (0,0))) (hrow:RowsV w' g c' s' n') (hto:∀ b,zo 18 s' n' b→w.heap.size≤b):Mx G w0 w' ((kr,zua 0 18 c' s' n')::(kg,blkR g t a')::R):=
 (M.newb hb kg hg hblk).cons kr _ (fun j hj=>⟨(hrow j hj).1.1,(hrow j hj).2.1,fun _ _=>Nat.zero_le _⟩) rows_dep (fun b ⟨j,hj,h⟩=>by
  rcases h with h | h
  ·exact (hrow j hj).1.1.lt h
  ·exact (hrow j hj).2.1.lt h) (fun e=>by cases e) fun k r e hkk hw b h h2=>by
  rcases hw with hw | hw
  ·cases hw
  rw [zx] at e
  split at e
  ·cases e
   obtain rfl:b=g:=h2
   obtain ⟨j,hj,h⟩:=h
   rcases h with h | h
   ·exact (hrow j hj).1.2 h
   ·exact (hrow j hj).2.2 h
  ·have:=M.lt k r e b h2
   have:=hto b h
   omega
theorem Mx.hasV (M:Mx G w0 w R) {V:VltN} (hk:look R kg=some (blkR g 80 (vltA V s n))) (hrr:look R kr=some (zua 0 18 V.c s n)) (hne:kr≠kg):HasV w g V s n:=HasV.of (M.blk hk) (M.rowsV hrr hk hne)
theorem Mx.freeze (M:Mx G w0 w R) {k g:Nat} {t:TypeId} {a:Array Value} (hk:look R k=some (blkR g t a)):Mx G w0 w ((k,blkO g t a)::R):=
 M.cons k _ (M.blk hk) blkO_dep (fun b hb=>by cases hb;exact z2a (M.blk hk)) (fun e=>by cases e) fun j r e hj hw b hb=>M.dis k j _ r hk e hj rfl b hb
end
section
variable (g:Nat) (V:VltN) (s n:Nat→Value) (w:World)
theorem vnew_is (V':VltN) (h:ageW zeroV=V') (w:World):Calls Tryz.prog 14 #[] w fun e w'=>∃ t,e=.returned t∧∃ g,t=(zO g)∧w.heap.size≤g∧∃ s' n',RowsV w' g V'.c s' n'∧(∀ b,zo 18 s' n' b→w.heap.size≤b)∧w'.heap[g]? = some (.cells (vltA V' s' n') 80 (0,0))∧Below w.heap.size w w':=by
 subst h
 exact (vnew_any w).mono fun e w' ⟨g,h1,h2,s',n',h3,h4,h5,h6⟩=>⟨_,h1,g,rfl,h2,s',n',h3,h4,h5,h6⟩
theorem put_is {K:Nat} (r:RecN) (Vr:RecV) (ho:RecOk r) (hi:InvV K V) (hK:K<256) (V':VltN) (z:Int) (h1:(putV V r).1=V') (h2:(putV V r).2=z) (w:World) (hR:RecIs w r Vr) (hRg:¬bfp Vr.v2 g∧¬bfp Vr.v5 g) (hr:RowsV w g V.c s n) (hg:w.heap[g]? = some (.cells (vltA V s n) 80 (0,0))):
  Calls Tryz.prog 22 #[(zO g),.agg (recA r Vr)] w fun e w'=>∃ t,e=.returned t∧t=zI z∧∃ s' n',RowsV w' g V'.c s' n'∧(∀ b,zo 18 s' n' b→zo 18 s n b∨w.heap.size≤b)∧w'.heap[g]? = some (.cells (vltA V' s' n') 80 (0,0))∧w.grownBy w' (some g):=by
 subst h1 h2
 exact put_any g V s n r Vr ho hi hK w hR hRg hr hg
theorem gone_is {K:Nat} (nm:ByteArray) (hi:InvV K V) (hK:K<256) (V':VltN) (z:Int) (h1:(goneV V nm).1=V') (h2:(goneV V nm).2=z) (w:World) (hr:RowsV w g V.c s n) (hg:w.heap[g]? = some (.cells (vltA V s n) 80 (0,0))):
  Calls Tryz.prog 27 #[(zO g),.string nm] w fun e w'=>∃ t,e=.returned t∧t=zI z∧∃ s' n',RowsV w' g V'.c s' n'∧(∀ b,zo 18 s' n' b→zo 18 s n b∨w.heap.size≤b)∧w'.heap[g]? = some (.cells (vltA V' s' n') 80 (0,0))∧w.grownBy w' (some g):=by
 subst h1 h2
 exact gone_any g V s n nm hi hK w hr hg
def failV (V:VltN) (z:Int):VltN:=⟨V.c,decide (0≤z),z,V.dd⟩
theorem fail_is (z:Int) (V':VltN) (h:failV V z=V') (w:World) (hr:RowsV w g V.c s n) (hg:w.heap[g]? = some (.cells (vltA V s n) 80 (0,0))):
  Calls Tryz.prog 19 #[(zO g),zI z] w fun e w'=>∃ t,e=.returned t∧∃ s' n',RowsV w' g V'.c s' n'∧(∀ b,zo 18 s' n' b→zo 18 s n b∨w.heap.size≤b)∧w'.heap[g]? = some (.cells (vltA V' s' n') 80 (0,0))∧w.grownBy w' (some g):=by
 subst h
 obtain ⟨c,fl,lf,dd⟩:=V
 exact (vfail_any g c fl lf dd s n z w hg).mono fun e w' ⟨t,h1,h2,h3⟩=>⟨t,h1,s,n,hr.grow h3,fun b hb=>.inl hb,h2,h3⟩
theorem again_isV {K:Nat} {e0:Int} (A0:Option Addr) (m c0:Nat) (tx:Nat→Int) (hmc:m≤c0) (hi:InvV K V) (hK:K<256) (he:EraV V e0) (h0:0≤e0) (h1:e0<1000) (V':VltN) (h:ageW (zac V tx m)=V') (w:World) (hT:RdI w A0 m tx) (hTg:¬ifp A0 m g) (hr:RowsV w g V.c s n) (hg:w.heap[g]? = some (.cells (vltA V s n) 80 (0,0))):
  Calls Tryz.prog 30 #[(zO g),.slice A0 m c0] w fun e w'=>∃ t,e=.returned t∧∃ s' n',RowsV w' g V'.c s' n'∧(∀ b,zo 18 s' n' b→zo 18 s n b∨w.heap.size≤b)∧w'.heap[g]? = some (.cells (vltA V' s' n') 80 (0,0))∧w.grownBy w' (some g):=by
 subst h
 exact vagain_any g V s n (z7b hi) A0 m c0 tx hmc (era_bd (era_setl he tx m) h0 h1) (inv_turn (setl_inv hi tx m) hK 16) w hT hTg hr hg
theorem boot_is {K:Nat} {e0:Int} (hi:InvV K V) (he:EraV V e0) (w:World) (h:HasV w g V s n):Calls Tryz.prog 26 #[(zO g)] w fun e w'=>e=.returned (zI e0)∧Below w.heap.size w w':=by
 have:=boot_any g V s n (z7b hi) w h
 rwa [he.2.2.2] at this
theorem dead_is (b:Bool) (hb:V.dd=b) (w:World) (h:HasV w g V s n):Calls Tryz.prog 32 #[(zO g)] w fun e w'=>e=.returned (.bool b)∧Below w.heap.size w w':=by
 subst hb;exact vdead_any g V s n w h
theorem get_yes {K:Nat} (hi:InvV K V) (nm:ByteArray) (k:Nat) (h8:k<8) (hk:fst8 (zz V nm)=k) (r:RecN) (hr:z0a V (2*k)=r) (w:World) (h:HasV w g V s n):Calls Tryz.prog 24 #[(zO g),.string nm] w fun e w'=>∃ t,e=.returned t∧∃ V',t=.tuple #[.agg (recA r V'),.bool true]∧RecIs w' r V'∧(∀ b,bfp V'.v2 b∨bfp V'.v5 b→w.heap.size≤b)∧Below w.heap.size w w':=by
 subst hr hk
 exact (get_any g V s n (z7b hi) nm w h).mono fun e w' ⟨t,h1,h2,h3⟩=>⟨t,h1,by
  rcases h2 with ⟨k,V',q1,q2,q3,q4,q5⟩ | ⟨q1,q2⟩
  ·subst q2;exact ⟨V',q3,q4.is,q5,h3⟩
  ·omega⟩
theorem get_yesU {K:Nat} (hi:InvV K V) (nm:ByteArray) (k:Nat) (h8:k<8) (hk:fst8 (zz V nm)=k) (r:RecN) (hr:z0a V (2*k)=r) (w:World) (h:HasV w g V s n):Calls Tryz.prog 24 #[(zO g),.string nm] w fun e w'=>∃ t,e=.returned t∧∃ V',t=.tuple #[.agg (recA r V'),.bool true]∧RecU w' r V'∧(∀ b,bfp V'.v2 b∨bfp V'.v5 b→w.heap.size≤b)∧Below w.heap.size w w':=by
 subst hr hk
 exact (get_any g V s n (z7b hi) nm w h).mono fun e w' ⟨t,h1,h2,h3⟩=>⟨t,h1,by
  rcases h2 with ⟨k,V',q1,q2,q3,q4,q5⟩ | ⟨q1,q2⟩
  ·subst q2;exact ⟨V',q3,q4,q5,h3⟩
  ·omega⟩
theorem get_not {K:Nat} (hi:InvV K V) (nm:ByteArray) (hk:fst8 (zz V nm)=8) (w:World) (h:HasV w g V s n):Calls Tryz.prog 24 #[(zO g),.string nm] w fun e w'=>e=.returned (.tuple #[.agg (recA zeroRec ⟨zN,zN⟩),.bool false])∧Below w.heap.size w w':=
 (get_any g V s n (z7b hi) nm w h).mono fun e w' ⟨t,h1,h2,h3⟩=>⟨by
  rcases h2 with ⟨k,V',q1,q2,q3,q4,q5⟩ | ⟨q1,q2⟩
  ·omega
  ·rw [h1,q2],h3⟩
theorem names_is {K:Nat} (hi:InvV K V) (L:List ByteArray) (hL:srtL (namL V 8)=L) (w:World) (h:HasV w g V s n):Calls Tryz.prog 25 #[(zO g)] w fun e w'=>∃ v,e=.returned v∧TxtAt w' w.heap.size L v∧Below w.heap.size w w':=by
 subst hL;exact names_any g V s n (z7b hi) w h
theorem cells_is {K:Nat} (hi:InvV K V) (w:World) (h:HasV w g V s n):Calls Tryz.prog 28 #[(zO g)] w fun e w'=>∃ t,e=.returned t∧∃ gq s' n',t=.slice (some ⟨gq,0,none⟩) 18 18∧CelsAt w' w.heap.size gq V.c s' n'∧Below w.heap.size w w':=
 (cellsW_any g V s n (z7b hi) w h).mono fun e w' ⟨gq,s',n',h1,h2,_,h3⟩=>⟨_,h1,gq,s',n',rfl,h2,h3⟩
theorem rec6_is (m:Int) (b:List UInt8) (bv:Value) (hn:-9223372036854775808≤m∧m<9223372036854775808) (hb:b.length≤1000) (r:RecN) (hr:recK m b ((m.tdiv 23)%10).toNat=r) (w:World) (hB:IsB w b bv):Calls Tryz.prog 21 #[zI m,bv] w fun e w'=>∃ t,e=.returned t∧∃ V,t=.agg (recA r V)∧RecIs w' r V∧(∀ q,bfp V.v2 q∨bfp V.v5 q→w.heap.size≤q)∧Below w.heap.size w w':=by
 subst hr;exact rec6_any m b bv hn hb w hB
end
theorem rec6_ok (m:Int) (b:List UInt8) {r:RecN} (hr:recK m b ((m.tdiv 23)%10).toNat=r):RecOk r∧zga r=true:=by
 have hk:((m.tdiv 23)%10).toNat<10:=by omega
 subst hr
 exact ⟨recK_ok m b hk,recK_keep m b hk⟩
end
section
open Go.Shelf
theorem recE_pos {r:RecN} (h:zga r=true):recE r≠[]:=by
 rw [show recE r=recL r from if_pos h,recL_is]
 exact fun e=>by cases e
theorem rdOk_nil:rdOk []=false:=by
 cases h:rdOk [] with
 | false=>rfl
 | true=>
  unfold rdOk zlb at h
  simp only [Bool.and_eq_true,decide_eq_true_eq] at h
  exact absurd h.2 (recE_pos h.1)
def accP (V:VltN) (k:Nat):Option RecN→Prop
 | none=>zfc V (2*k)=false∧zxa V (2*k)=true
 | some r=>zfc V (2*k)=true∧z0a V (2*k)=r∧zxa V (2*k)=false
def AccV (V:VltN) (m:Nat→Option RecN):Prop:=∀ k,k<8→accP V k (m k)
def updO (m:Nat→Option RecN) (k:Nat) (r:Option RecN):Nat→Option RecN:=fun i=>if i=k then r else m i
theorem acc_of {V V':VltN} {k:Nat} (h:zfc V' (2*k)=zfc V (2*k)∧z0a V' (2*k)=z0a V (2*k)∧zxa V' (2*k)=zxa V (2*k)∧numB V' (2*k)=numB V (2*k)∧zic V' (2*k)=zic V (2*k)) {o:Option RecN} (ha:accP V k o):accP V' k o:=by
 obtain ⟨h1,h2,h3,-⟩:=h
 cases o with
 | none=>exact ⟨h1.trans ha.1,h3.trans ha.2⟩
 | some r=>exact ⟨h1.trans ha.1,h2.trans ha.2.1,h3.trans ha.2.2⟩
theorem acc_nil {V:VltN} (h:∀ i,i<16→(V.c i).s=[]):AccV V fun _=>none:=fun k hk=>by
 have hg:∀ i,i<16→zob zr i (V.c i).s=false:=fun i hi=>by rw [h i hi];exact good0 i
 have ha:anyB zr V (2*k)=false:=by
  unfold anyB secB
  rw [hg _ (by omega),hg _ (by omega)];rfl
 exact ⟨by unfold zfc;rw [ha];rfl,by unfold zxa;rw [ha];rfl⟩
theorem acc_new:AccV (ageW zeroV) fun _=>none:=acc_nil fun i hi=>by
 have hp:=nxtP_in zeroV 16
 unfold ageW
 rw [(sayW_c zeroV 16 _).1 i (by omega)];rfl
theorem sayW_ok {V:VltN} {q:Nat} {l:List UInt8} (h:(sayW V q l).2=true):(sayW V q l).1.c (nxtP V q)=⟨z7a zr (nxtP V q) (nxtT V q) l,[],false⟩∧(sayW V q l).1.dd=V.dd∧(sayW V q l).1.fl=V.fl∧(sayW V q l).1.lf=IntKind.i64.wrap (IntKind.i64.wrap (V.lf-1)-1):=by
 unfold sayW wrtV at h ⊢
 by_cases h1:zpc V=true
 ·rw [if_pos h1] at h;cases h
 ·rw [if_neg h1] at h ⊢
  by_cases h2:zpc (zkc V (nxtP V q) (z7a zr (nxtP V q) (nxtT V q) l))=true
  ·rw [if_pos h2] at h;cases h
  ·rw [if_neg h2]
   refine ⟨?_,rfl,rfl,rfl⟩
   show putC (putC V.c _ _) _ ⟨(putC V.c _ _ _).n,[],false⟩ _=_
   rw [zec,zec]
theorem say_said' {K:Nat} {V:VltN} (hi:InvV K V) (hK:K<255) {q:Nat} {l:List UInt8} (h:(sayW V q l).2=true):anyB zr (sayW V q l).1 q=true∧cntS (sayW V q l).1 q=l:=
 wrote hi hK (by rw [(sayW_ok h).1]) (fun i hne=>by rw [(sayW_c V q l).1 i hne])
theorem acc_say {K:Nat} {V:VltN} {m:Nat→Option RecN} (hi:InvV K V) (hK:K<255) (ha:AccV V m) {k:Nat} {r:RecN} (ho:RecOk r) (hk:zga r=true) (h:(sayW V (2*k) (recE r)).2=true):AccV (sayW V (2*k) (recE r)).1 (updO m k (some r)):=fun j hj=>by
 unfold updO
 by_cases e:j=k
 ·subst e
  rw [if_pos rfl]
  obtain ⟨h1,h2⟩:=say_said' hi hK h
  obtain ⟨y1,y2⟩:=rd_rec ho hk
  refine ⟨by unfold zfc;rw [h1,h2,y1];rfl,by unfold z0a;rw [if_pos h1,h2,y2],?_⟩
  unfold zxa
  rw [h1,h2]
  have:=List.length_pos_iff.2 (recE_pos hk)
  rw [decide_eq_false (show ¬(((recE r).length:Int)=0) by omega)];rfl
 ·rw [if_neg e]
  exact acc_of (said_eq (sayW_pair V _ (by omega))) (ha j hj)
def isN (nm:ByteArray):Option RecN→Bool
 | none=>false
 | some r=>decide (r.s.toList=nm.toList)
theorem named_acc {V:VltN} {m:Nat→Option RecN} (ha:AccV V m) (nm:ByteArray) {k:Nat} (hk:k<8):zz V nm k=isN nm (m k):=by
 have h:=ha k hk
 cases hm:m k with
 | none=>rw [hm] at h;exact namedB_no h.1
 | some r=>rw [hm] at h;exact namedB_is h.1 (by rw [h.2.1];rfl)
theorem empty_acc {V:VltN} {m:Nat→Option RecN} (ha:AccV V m) {k:Nat} (hk:k<8):zxa V (2*k)=(m k).isNone:=by
 have h:=ha k hk
 cases hm:m k with
 | none=>rw [hm] at h;exact h.2
 | some r=>rw [hm] at h;exact h.2.2
theorem fst8_congr {p q:Nat→Bool} (h:∀ k,k<8→p k=q k):fst8 p=fst8 q:=by
 have:∀ n k,k+n≤8→fstN p n k=fstN q n k:=fun n=>by
  induction n with
  | zero=>intro k _;rfl
  | succ n ih=>intro k hk;unfold fstN;rw [h k (by omega),ih (k+1) (by omega)]
 exact this 8 0 (by omega)
theorem named8 {V:VltN} {m:Nat→Option RecN} (ha:AccV V m) (nm:ByteArray):fst8 (zz V nm)=fst8 fun k=>isN nm (m k):=fst8_congr fun k hk=>named_acc ha nm hk
theorem empty8 {V:VltN} {m:Nat→Option RecN} (ha:AccV V m):fst8 (fun i=>zxa V (2*i))=fst8 fun k=>(m k).isNone:=fst8_congr fun k hk=>empty_acc ha hk
theorem fst8_at {p:Nat→Bool} {k:Nat} (hk:k<8) (h:p k=true) (hl:∀ i,i<k→p i=false):fst8 p=k:=by
 rcases fst8_spec p with ⟨h1,h2,h3⟩ | ⟨h1,h2⟩
 ·rcases Nat.lt_trichotomy (fst8 p) k with h4 | h4 | h4
  ·rw [hl _ h4] at h2;cases h2
  ·exact h4
  ·rw [h3 k h4] at h;cases h
 ·rw [h2 k hk] at h;cases h
theorem fst8_none {p:Nat→Bool} (h:∀ i,i<8→p i=false):fst8 p=8:=by
 rcases fst8_spec p with ⟨h1,h2,h3⟩ | ⟨h1,h2⟩
 ·rw [h _ h1] at h2;cases h2
 ·exact h1
def plcM (m:Nat→Option RecN) (nm:ByteArray):Nat:=if fst8 (fun k=>isN nm (m k))<8 then fst8 (fun k=>isN nm (m k)) else fst8 fun k=>(m k).isNone
theorem put_acc {V:VltN} {m:Nat→Option RecN} (ha:AccV V m) {r:RecN} (hd:V.dd=false) (hk:zga r=true) (hp:plcM m r.s<8):putV V r=((sayW V (2*plcM m r.s) (recE r)).1,if (sayW V (2*plcM m r.s) (recE r)).2=true then 0 else 10):=by
 unfold putV
 rw [if_neg (by rw [hd];exact Bool.false_ne_true),if_neg (by rw [hk];exact fun h=>by cases h),named8 ha,empty8 ha]
 unfold plcM at hp ⊢
 split
 ·rfl
 ·rename_i h
  rw [if_neg h] at hp
  rw [if_pos hp]
theorem put_done {K:Nat} {V:VltN} {m:Nat→Option RecN} (hi:InvV K V) (hK:K<255) (ha:AccV V m) {r:RecN} (ho:RecOk r) (hk:zga r=true) (hd:V.dd=false) (hf:V.fl=false) (hp:plcM m r.s<8):(putV V r).2=0∧AccV (putV V r).1 (updO m (plcM m r.s) (some r))∧(putV V r).1.dd=false∧(putV V r).1.fl=false:=by
 rw [put_acc ha hd hk hp]
 obtain ⟨h1,h2,h3,h4⟩:=sayW_live (2*plcM m r.s) (recE r) hf
 exact ⟨by dsimp only;rw [if_pos h1],acc_say hi hK ha ho hk h1,h3.trans hd,h2⟩
def nmsM (m:Nat→Option RecN):Nat→List ByteArray
 | 0=>[]
 | k+1=>match m k with
  | none=>nmsM m k
  | some r=>nmsM m k++[r.s]
theorem namL_acc {V:VltN} {m:Nat→Option RecN} (ha:AccV V m):∀ k,k≤8→namL V k=nmsM m k
 | 0,_=>rfl
 | k+1,hk=>by
  have h:=ha k (by omega)
  have ih:=namL_acc ha k (by omega)
  unfold nmsM
  cases hm:m k with
  | none=>rw [hm] at h;rw [namL_no h.1];exact ih
  | some r=>rw [hm] at h;rw [namL_yes h.1 h.2.1,ih]
end
def rA:RecN:=⟨1,⟨#[97]⟩,[],0,0,[],0,0,0⟩
theorem rA_ok:RecOk rA:=⟨by decide,by decide,by decide,by decide,by decide,by decide,by decide⟩
theorem rA_name:NameOk rA.s:=by
 refine ⟨by decide,by decide,fun i h=>?_⟩
 have:i=0:=by have h1:rA.s.size=1:=rfl;omega
 subst this
 exact (show (33:Int)≤((97:UInt8).toNat:Int)∧((97:UInt8).toNat:Int)≤126 by decide)
theorem rA_keep:zga rA=true:=by
 unfold zga
 rw [show nameB rA.s=true from @decide_eq_true _ (Classical.propDecidable _) rA_name,show topI rA.a 8=0 from topI_none 8,show topI rA.b 8=0 from topI_none 8]
 decide
theorem y_eqPN {a:Act} {w:World} {o:Oper} (ty tz:TypeId) (hu:Tryz.prog.underlying ty=some (.pointer (Tryz.prog.pointee ty))) (hgt:Tryz.prog.eqGuardType Tryz.prog.depth ty=false) (x:Operand) {p:Addr} (ho:o.op=.binOp .eql ty x (.const (.pointer none)) tz) (hx:a.eval x=.pointer (some p)):(execOp a.eval o).run Tryz.prog w=.ok (.value (.bool false)) w:=
 y_eqV ty tz x _ ho hx (v:=.pointer none) rfl (by simp [eqGuard,go_sem,hgt]) (by rw [run_eql_pointer_nil (h:=hu)];rfl)
theorem plcA:plcM (fun _=>none) rA.s=0:=by
 have e:(fst8 fun k=>isN rA.s ((fun _=>none) k))=8:=fst8_none fun _ _=>rfl
 unfold plcM
 rw [if_neg (by omega)]
 exact fst8_at (by decide) rfl fun i h=>absurd h (Nat.not_lt_zero i)
theorem rdI_none (w:World) {x:Nat→Int} (hx:∀ k,-9223372036854775808≤x k∧x k<9223372036854775808:=by intro k;decide):RdI w none 0 x:=⟨by unfold maxLen;decide,hx,fun h=>absurd h (Nat.lt_irrefl 0)⟩
theorem known6_any  (w:World):
  Calls Tryz.prog 13 #[] w fun e w'=>e=.returned (.bool true)∧Below w.heap.size w w':=by
 obtain ⟨hE1,hI1,hf1,hd1⟩:=new_is
 have hA1:=acc_new
 obtain ⟨V1,hV1⟩:∃ x,ageW zeroV=x:=⟨_,rfl⟩
 rw [hV1] at hE1 hI1 hf1 hd1 hA1
 obtain ⟨hz2,hA2,hd2,hf2⟩:=put_done hI1 (by decide) hA1 rA_ok rA_keep hd1 hf1 (by rw [plcA];decide)
 rw [plcA] at hA2
 obtain ⟨hI2,hE2⟩:=put_keep hI1 (by decide) hE1 rA
 obtain ⟨V2,hV2⟩:∃ x,(putV V1 rA).1=x:=⟨_,rfl⟩
 rw [hV2] at hA2 hd2 hf2 hI2 hE2
 have h20:accP V2 0 (some rA):=hA2 0 (by decide)
 have hn2:fst8 (zz V2 rA.s)=0:=by
  rw [named8 hA2]
  exact fst8_at (by decide) (show isN rA.s (some rA)=true from decide_eq_true rfl) fun i h=>absurd h (Nat.not_lt_zero i)
 have hL2:srtL (namL V2 8)=[rA.s]:=by rw [namL_acc hA2 8 (Nat.le_refl _)];rfl
 obtain ⟨hE3,hI3,-,hd3⟩:=again_is hI2 (by decide) hE2 (by decide) (by decide) (fun _=>0) 0
 obtain ⟨V3,hV3⟩:∃ x,ageW (zac V2 (fun _=>0) 0)=x:=⟨_,rfl⟩
 rw [hV3] at hE3 hI3 hd3
 refine zk (args:=[]) 57 Tryz.func13 rfl rfl rfl ?_
 intro fa F
 have M:=Mx.start w
 refine zT fun _ hK21=>rm rfl F fun _ F22=>hK21 _ _ (zT fun _ hK23=>zh rfl rfl F22 rfl rfl (zE Tryz.func14 rfl) #[] (args0) (vnew_is V1 hV1 w) ?_)
 rintro _ w24 a24 ⟨g24,rfl,hg24,s24,n24,hr24,ht24,hc24,b24⟩ F24
 have M24:=M.newVault b24 0 1 hg24 hc24 hr24 ht24
 clear M b24 hg24 hc24 hr24 ht24
 refine rm rfl F24 fun _ F25=>hK23 _ _ (zSk fun _ hK26=>zT fun _ hK27=>rm rfl F25 fun _ F28=>zc (w':=w24) rfl rfl F28 rfl (.bool false) (y_eqPN 25 _ Tryz.underlying25 (by kernel_rfl) _ rfl (F28 7 rfl)) fun _ F29=>?_)
 refine rm rfl F29 fun _ F30=>rm rfl F30 fun _ F31=>zh (zd rfl rfl rfl (F31 9 rfl)) rfl F31 rfl rfl (zE Tryz.func26 rfl) #[(zO g24)] (zaa (F31 10 rfl)) (zba ((boot_is g24 V1 s24 n24 hI1 hE1 w24 (M24.hasV (kg:=0) (kr:=1) rfl rfl (by decide))))) ?_
 rintro _ w32 a32 ⟨rfl,b32⟩ F32
 have M32:=M24.step b32
 refine zB 2 [(0,.bool false),(1,(zO g24)),(13,.bool false)] [] dnil [] F32 fun _ F33=>?_
 refine hK27 _ _ (wp_cond_false (F33 13 rfl) (wp_skip (hK26 _ _ (zT fun _ hK34=>rm rfl F33 fun _ F35=>zc (w':=w32) rfl rfl F35 rfl (.agg (recA ⟨1,({ data:=#[97] }),[],0,0,[],0,0,0⟩ ⟨zN,zN⟩)) (by unfold execOp;simp only [List.map_toArray,List.map_cons,List.map_nil,];kernel_rfl) fun _ F36=>?_))))
 refine zh rfl rfl F36 rfl rfl (zE Tryz.func22 rfl) #[(zO g24),.agg (recA ⟨1,({ data:=#[97] }),[],0,0,[],0,0,0⟩ ⟨zN,zN⟩)] (zfa (F36 14 rfl) (F36 15 rfl)) (put_is g24 V1 s24 n24 rA rvZero rA_ok hI1 (by decide) V2 0 hV2 hz2 w32 ⟨(zia _),(zia _)⟩ ⟨(zpa _),(zpa _)⟩ (M32.rowsV (i:=1) (k:=0) rfl rfl (by decide)) (M32.blk (k:=0) rfl)) ?_
 rintro _ w37 a37 ⟨rfl,s37,n37,hr37,ht37,hc37,hg37⟩ F37
 have M37:=M32.vault (kg:=0) (kr:=1) rfl rfl hg37 hc37 hr37 ht37
 clear M32 hg37 hc37 hr37 ht37
 refine rm rfl F37 fun _ F38=>hK34 _ _ (zT fun _ hK39=>rm rfl F38 fun _ F40=>zh rfl rfl F40 rfl rfl (zE Tryz.func24 rfl) #[(zO g24),.string ({ data:=#[97] })] (zfa (F40 18 rfl) rfl) (get_yes g24 V2 s37 n37 hI2 ({ data:=#[97] }) 0 (by decide) hn2 rA h20.2.1 w37 (M37.hasV (kg:=0) (kr:=1) rfl rfl (by decide))) ?_)
 rintro _ w41 a41 ⟨U41,rfl,is41,lo41,b41⟩ F41
 have M41:=M37.newRec b41 is41 lo41 2 3
 clear M37 b41 lo41
 refine zB 3 [(0,.bool false),(1,(zO g24)),(2,zI 0),(20,.agg (recA rA U41)),(21,.bool true)] [] dnil [] F41 fun _ F42=>?_
 refine zq rfl rfl F42 rfl M41 4 (t:=37) (c:=recA ⟨0, "".toUTF8,[],0,0,[],0,0,0⟩ ⟨zN,zN⟩) (by unfold execOp;kernel_rfl) ?_
 intro g43 a43 w43 F43 M43
 refine zt rfl rfl F43 M43 (k:=4) rfl _ _ _ rfl (F43 3 rfl) (F43 20 rfl) (recA rA U41) _ rfl (zL rfl) (z6a (w:=w43) ⟨(M43.isb (k:=2) rfl),(M43.isb (k:=3) rfl)⟩) (zca rfl) (by kernel_rfl) ?_
 intro w44 M44
 refine rm rfl F43 fun _ F45=>hK39 _ _ (zT fun _ hK46=>rm rfl F45 fun _ F47=>zh rfl rfl F47 rfl rfl (zE Tryz.func25 rfl) #[(zO g24)] (zaa (F47 22 rfl)) (names_is g24 V2 s37 n37 hI2 ([rA.s]) hL2 w44 (M44.hasV (kg:=0) (kr:=1) rfl rfl (by decide))) ?_)
 rintro _ w48 a48 ⟨⟨A48,c48,rfl,tx48⟩,b48⟩ F48
 have M48:=M44.step b48
 clear M44 tx48
 refine rm rfl F48 fun _ F49=>hK46 _ _ (zT fun _ hK50=>rm rfl F49 fun _ F51=>zh rfl rfl F51 rfl rfl (zE Tryz.func30 rfl) #[(zO g24),zN] (zfa (F51 24 rfl) rfl) (again_isV g24 V2 s37 n37 none 0 0 (fun _=>0) (Nat.le_refl _) hI2 (by decide) hE2 (by decide) (by decide) V3 hV3 w48 (rdI_none _) (fun h=>absurd h.1 (Nat.not_lt_zero _)) (M48.rowsV (i:=1) (k:=0) rfl rfl (by decide)) (M48.blk (k:=0) rfl)) ?_)
 rintro _ w52 a52 ⟨s52,n52,hr52,ht52,hc52,hg52⟩ F52
 have M52:=M48.vault (kg:=0) (kr:=1) rfl rfl hg52 hc52 hr52 ht52
 clear M48 hg52 hc52 hr52 ht52
 refine hK50 _ _ (zT fun _ hK53=>zB 8 [(0,.bool false),(1,(zO g24)),(5,.slice A48 ([rA.s]).length c48),(31,.bool true),(33,.string rA.s)] [0] (zu (M52.blk (k:=4) rfl) dnil) [g43] F52 fun _ F54=>?_)
 refine zc (w':=w52) (zd rfl rfl rfl (F54 31 rfl)) rfl F54 rfl (.bool true) (y_eqS _ _ _ rfl (F54 33 rfl) rfl (decide_eq_true rfl)) fun _ F55=>?_
 refine zc (w':=w52) rfl rfl F55 rfl (.bool true) (zpb rfl (F55 31 rfl) (F55 34 rfl)) fun _ F56=>?_
 refine rm rfl F56 fun _ F57=>rm rfl F57 fun _ F58=>zc (w':=w52) (zd rfl rfl rfl (F58 36 rfl)) rfl F58 rfl (zI 1) (y_lnG 45 Tryz.underlying45 _ rfl (F58 37 rfl) rfl) fun _ F59=>?_
 refine zB 4 [(0,.bool false),(1,(zO g24)),(41,.bool true),(42,(zO g24))] [] dnil [] F59 fun _ F60=>?_
 refine zh (zd rfl rfl rfl (F60 41 rfl)) rfl F60 rfl rfl (zE Tryz.func26 rfl) #[(zO g24)] (zaa (F60 42 rfl)) (zba ((boot_is g24 V3 s52 n52 hI3 hE3 w52 (M52.hasV (kg:=0) (kr:=1) rfl rfl (by decide))))) ?_
 rintro _ w61 a61 ⟨rfl,b61⟩ F61
 have M61:=M52.step b61
 refine zc (w':=w61) (zd rfl rfl rfl (F61 41 rfl)) rfl F61 rfl (.bool true) (zza _ _ _ _ rfl (F61 43 rfl) rfl Tryz.underlying3 (zmb (by decide))) fun _ F62=>?_
 refine zc (w':=w61) rfl rfl F62 rfl (.bool true) (zpb rfl (F62 41 rfl) (F62 44 rfl)) fun _ F63=>?_
 refine rm rfl F63 fun _ F64=>rm rfl F64 fun _ F65=>zh (zd rfl rfl rfl (F65 46 rfl)) rfl F65 rfl rfl (zE Tryz.func32 rfl) #[(zO g24)] (zaa (F65 47 rfl)) (zba ((dead_is g24 V3 s52 n52 false hd3 w61 (M61.hasV (kg:=0) (kr:=1) rfl rfl (by decide))))) ?_
 rintro _ w66 a66 ⟨rfl,b66⟩ F66
 have M66:=M61.step b66
 refine zB 4 [(0,.bool false),(51,.bool true),(52,(zO g24))] [] dnil [] F66 fun _ F67=>?_
 refine zh (zd rfl rfl rfl (F67 51 rfl)) rfl F67 rfl rfl (zE Tryz.func28 rfl) #[(zO g24)] (zaa (F67 52 rfl)) (cells_is g24 V3 s52 n52 hI3 w66 (M66.hasV (kg:=0) (kr:=1) rfl rfl (by decide))) ?_
 rintro _ w68 a68 ⟨gq68,s68,n68,rfl,ce68,b68⟩ F68
 have M68:=M66.step b68
 clear M66 ce68
 refine zc (w':=w68) (zd rfl rfl rfl (F68 51 rfl)) rfl F68 rfl (zI 18) (y_lnG 49 Tryz.underlying49 _ rfl (F68 53 rfl) rfl) fun _ F69=>?_
 refine zB 3 [(0,.bool true)] [] dnil [] F69 fun _ F70=>?_
 exact hK53 _ _ (wp_ret (bodyPost_ret (res1 rfl (F70.get rfl)) F70.defers ⟨rfl,M68.below⟩))
section
open Go.Shelf
theorem in6 (a:Int) {n:Nat} (h:0<n):∃ k:Nat,a%(n:Int)=(k:Int)∧k<n:=by
 have h1:=Int.emod_nonneg a (show (n:Int)≠0 by omega)
 have h2:=Int.emod_lt_of_pos a (show (0:Int)<n by omega)
 exact ⟨(a%(n:Int)).toNat,by omega,by omega⟩
end
section
open Go.Shelf
section
variable {G:Option Nat} {w0 w w':World} {R:List (Nat×Res)} {gq:Nat} {c:Nat→CelN} {s n:Nat→Value}
variable {N i j:Nat} {B:Nat} {l:List UInt8} {v:Value}
end
/-! One cell is fresh. -/
def m1 (r:RecN):Nat→Option RecN:=updO (fun _=>none) 0 (some r)
end
structure HasX (w:World) (gx gc:Nat) (V:VltN) (L:Int) (s n:Nat→Value):Prop where
 hx:w.heap[gx]? = some (.cells #[.slice (some ⟨gc,0,none⟩) 18 18,zI L,.bool V.dd] 72 (0,0))
 hc:w.heap[gc]? = some (.cells (celA V.c s n) 63 (0,0))
 hs:∀ i,i<18→IsB w (V.c i).s (s i)
 hn:∀ i,i<18→IsB w (V.c i).n (n i)
theorem HasX.step {w w':World} {gx gc:Nat} {V:VltN} {L:Int} {s n:Nat→Value} (h:HasX w gx gc V L s n) (hb:Below w.heap.size w w'):HasX w' gx gc V L s n:=
 ⟨(hb.block gx (z2a h.hx)).trans h.hx,(hb.block gc (z2a h.hc)).trans h.hc,fun i hi=>(h.hs i hi).step hb,fun i hi=>(h.hn i hi).step hb⟩
def cntR (V:VltN) (q:Nat):Nat→Int×Int×List UInt8
 | 0=>(-1,0,[])
 | k+1=>if (zob zr (q+k) (V.c (q+k)).s&&(decide ((cntR V q k).1<0)||decide ((cntR V q k).2.1<entT (V.c (q+k)).s)))=true then (((q+k:Nat):Int),entT (V.c (q+k)).s,entS (V.c (q+k)).s) else cntR V q k
theorem cntR_no {V:VltN} {q k:Nat} (h:zob zr (q+k) (V.c (q+k)).s=false):cntR V q (k+1)=cntR V q k:=by
 unfold cntR;rw [h,Bool.false_and,if_neg (by decide)];cases k <;> rfl
theorem cntR_in {V:VltN} {q k:Nat} {a t:Int} {l:List UInt8} (e:cntR V q k=(a,t,l)) (h:zob zr (q+k) (V.c (q+k)).s=true) (h2:a<0∨t<entT (V.c (q+k)).s):cntR V q (k+1)=(((q+k:Nat):Int),entT (V.c (q+k)).s,entS (V.c (q+k)).s):=by
 show (if _ then _ else _)=_
 rw [e,h,if_pos (by rcases h2 with h2 | h2 <;> simp [h2])]
theorem cntR_out {V:VltN} {q k:Nat} {a t:Int} {l:List UInt8} (e:cntR V q k=(a,t,l)) (h1:¬a<0) (h2:¬t<entT (V.c (q+k)).s):cntR V q (k+1)=(a,t,l):=by
 show (if _ then _ else cntR V q k)=_
 rw [e,if_neg (by simp [h1,h2])]
theorem cntR_2 (V:VltN) (q:Nat):cntR V q 2=if anyB zr V q=true then ((cntP V q:Int),cntT V q,cntS V q) else (-1,0,[]):=by
 obtain ⟨b1,h1⟩:∃ x,zob zr q (V.c q).s=x:=⟨_,rfl⟩
 obtain ⟨b2,h2⟩:∃ x,zob zr (q+1) (V.c (q+1)).s=x:=⟨_,rfl⟩
 have hs:=sec_eq h1 h2
 unfold anyB cntP cntT cntS
 rw [hs,h1]
 cases b1 with
 | false=>
  have e1:cntR V q 1=(-1,0,[]):=cntR_no (k:=0) h1
  cases b2 with
  | false=>rw [cntR_no (k:=1) h2,e1];rfl
  | true=>rw [cntR_in (k:=1) e1 h2 (.inl (by decide))];simp [entP,good_ge h2]
 | true=>
  have e1:cntR V q 1=((q:Int),entT (V.c q).s,entS (V.c q).s):=cntR_in (k:=0) rfl h1 (.inl (by decide))
  cases b2 with
  | false=>rw [cntR_no (k:=1) h2,e1];simp [entP,good_ge h1]
  | true=>
   by_cases hl:entT (V.c q).s<entT (V.c (q+1)).s
   ·rw [cntR_in (k:=1) e1 h2 (.inr hl)];simp [entP,good_ge h2,hl]
   ·rw [cntR_out (k:=1) e1 (by omega) hl];simp [entP,good_ge h1,hl]
theorem rgood_is {K:Nat} (p:Nat) (hp:p<18) (b:List UInt8) (bv:Value) (hK:CellOk K b) (x:Bool) (hx:zob zr p b=x) (w:World) (hB:IsB w b bv):Calls Tryz.prog 92 #[zI (p:Int),bv] w fun e w'=>∃ t,e=.returned t∧∃ n S L,t=.tuple #[zI n,S,.bool x]∧IsB w L S∧(∀ g,bfp S g→bfp bv g)∧(x=true→n=entT b∧L=entS b)∧Below w.heap.size w w':=by
 subst hx;exact (rgood_any p hp b bv hK w hB).mono fun e w' ⟨n,S,L,h1,h2⟩=>⟨_,h1,n,S,L,rfl,h2⟩
theorem rcountsR_any {K:Nat} (gx gc:Nat) (V:VltN) (L:Int) (s n:Nat→Value) (hi:InvV K V) (p:Nat) (hp:p<9) (w:World) (h:HasX w gx gc V L s n):
  Calls Tryz.prog 62 #[(zO gx),zI (p:Int)] w fun e w'=>∃ S,e=.returned (.tuple #[zI (cntR V (2*p) 2).1,zI (cntR V (2*p) 2).2.1,S])∧IsB w (cntR V (2*p) 2).2.2 S∧Below w.heap.size w w':=by
 refine zk (args:=[(zO gx),zI (p:Int)]) 53 Tryz.func62 rfl rfl rfl ?_
 intro fa F
 have M:=Mx.start w
 replace M:=M.argO 0 h.hx (fun b e=>by cases e)
 replace M:=M.argO 1 h.hc (fun b e=>by cases e)
 refine zT fun _ hK1=>rm rfl F fun _ F2=>rm rfl F2 fun _ F3=>rm rfl F3 fun _ F4=>hK1 _ _ (zT fun _ hK5=>rm rfl F4 fun _ F6=>rm rfl F6 fun _ F7=>hK5 _ _ (zT fun _ hK8=>rm rfl F7 fun _ F9=>hK8 _ _ (zSk fun _ hK10=>zT fun _ hK11=>rm rfl F9 fun _ F12=>zc (w':=w) rfl rfl F12 rfl (zI ((2*p+0:Nat):Int)) (y_mulI _ _ _ _ rfl rfl (F12 14 rfl) (by omega) (by omega)) fun _ F13=>?_)))
 refine rm rfl F13 fun _ F14=>hK11 _ _ (wp_block ?_)
 refine zeb (α:=Nat×Int×Int×List UInt8×Value) (n:=53) (G:=none) (w0:=w) (fun x=>[(0,(zO gx)),(1,zI (p:Int)),(4,zI 0),(5,zI 0),(6,zN),(14,zI (p:Int)),(15,zI ((2*p+0:Nat):Int)),(10,zI ((2*p+x.1:Nat):Int)),(7,zI x.2.1),(8,zI x.2.2.1),(9,x.2.2.2.2)]) (fun x=>[(0,blkO gx 72 (#[.slice (some ⟨gc,0,none⟩) 18 18,zI L,.bool V.dd])),(1,blkO gc 63 (celA V.c s n))]) (fun k x=>k=(2-x.1)∧(x.1≤2∧cntR V (2*p) x.1=(x.2.1,x.2.2.1,x.2.2.2.1)∧IsB w x.2.2.2.1 x.2.2.2.2)) _ ⟨0,(-1),0,[],(zN)⟩ ⟨rfl,⟨Nat.zero_le _,rfl,zia _⟩⟩ (F14.sb) (M.sb) ?_
 rintro k15 ⟨jn,av,tv,lv,sv⟩ a15 w15 K15 ⟨ek15,I15⟩ F15 M15 hK15
 replace F15:Fx 53 a15 [(0,(zO gx)),(1,zI (p:Int)),(4,zI 0),(5,zI 0),(6,zN),(14,zI (p:Int)),(15,zI ((2*p+0:Nat):Int)),(10,zI ((2*p+jn:Nat):Int)),(7,zI av),(8,zI tv),(9,sv)]:=F15
 replace M15:Mx _ _ w15 [(0,blkO gx 72 (#[.slice (some ⟨gc,0,none⟩) 18 18,zI L,.bool V.dd])),(1,blkO gc 63 (celA V.c s n))]:=M15
 replace I15:jn≤2∧cntR V (2*p) jn=(av,tv,lv)∧IsB w lv sv:=I15
 replace ek15:k15=(2-jn):=ek15
 obtain ⟨hj,hcR,hsv⟩:=I15
 by_cases h2:jn<2
 ·have hlt:2*p+jn<18:=by omega
  obtain ⟨bg,hbg⟩:∃ x,zob zr (2*p+jn) (V.c (2*p+jn)).s=x:=⟨_,rfl⟩
  refine zSk fun _ hK16=>zT fun _ hK17=>rm rfl F15 fun _ F18=>rm rfl F18 fun _ F19=>zc (w':=w15) rfl rfl F19 rfl (zI ((2*p+0:Nat):Int)) (y_mulI _ _ _ _ rfl rfl (F19 17 rfl) (by omega) (by omega)) fun _ F20=>?_
  refine zc (w':=w15) rfl rfl F20 rfl (zI ((2*p+2:Nat):Int)) (zoa _ _ _ _ rfl (F20 18 rfl) rfl (by omega) (by omega)) fun _ F21=>?_
  refine zc (w':=w15) rfl rfl F21 rfl (.bool true) (zka _ _ _ _ rfl (F21 16 rfl) (F21 19 rfl) (decide_eq_true (show ((2*p+jn:Nat):Int)<((2*p+2:Nat):Int) by omega))) fun _ F22=>?_
  refine hK17 _ _ (wp_cond_true (F22 20 rfl) (wp_skip (hK16 _ _ (zSk fun _ hK23=>wp_block (zT fun _ hK24=>zAx 6 [(24,zI ((2*p+jn:Nat):Int)),(25,(zO gx)),(26,(zO gx)),(27,(zO gx)),(28,.slice (some ⟨gc,0,none⟩) 18 18),(29,zI ((2*p+jn:Nat):Int))] [0] (zu (M15.roB (k:=0) rfl) dnil) [gx] F22 fun _ F25=>?_)))))
  refine zc (w':=w15) rfl rfl F25 rfl (zP gc (3*(2*p+jn))) (zcc 49 (s:=3) Tryz.underlying49 (by kernel_rfl) _ _ rfl (F25 28 rfl) (F25 29 rfl) rfl hlt (by omega)) fun _ F26=>?_
  refine zc (w':=w15) rfl rfl F26 rfl (zP gc (3*(2*p+jn)+0)) (y_fa (off:=0) rfl (F26 30 rfl) (by kernel_rfl) rfl) fun _ F27=>?_
  refine zc (w':=w15) rfl rfl F27 rfl ((s (2*p+jn))) (zda _ _ rfl (F27 31 rfl) (M15.roB (k:=1) rfl) (cel_s V.c s n hlt) Tryz.underlying23 rfl) fun _ F28=>?_
  refine zh rfl rfl F28 rfl rfl (zE Tryz.func92 rfl) #[zI ((2*p+jn:Nat):Int),(s (2*p+jn))] (zfa (F28 24 rfl) (F28 32 rfl)) (rgood_is (2*p+jn) hlt (V.c (2*p+jn)).s ((s (2*p+jn))) (hi _).1 bg hbg w15 ((h.hs (2*p+jn) hlt).step M15.below)) ?_
  rintro _ w29 a29 ⟨n29,S29,L29,rfl,hS29,hf29,hg29,b29⟩ F29
  have hS29:=hS29.back M15.below (fun g hg=>(h.hs _ hlt).lt (hf29 g hg))
  have M29:=M15.step b29
  refine zAx 7 [(23,.tuple #[zI n29,S29,.bool bg]),(34,zI n29),(35,S29),(36,.bool bg),(11,zI n29),(12,S29),(13,.bool bg)] [] dnil [] F29 fun _ F30=>?_
  refine hK24 _ _ (zT fun _ hK31=>rm rfl F30 fun _ F32=>rm rfl F32 fun _ F33=>?_)
  cases bg
  ·refine zAx 8 [(39,undef),(40,undef),(41,undef),(42,undef),(43,undef),(44,undef),(45,undef),(46,.bool false)] [] dnil [] F33 fun _ F34=>?_
   refine hK31 _ _ (wp_cond_false (F34 46 rfl) (wp_skip (hK23 _ _ (zR (rm rfl F34 fun _ F35=>zc (w':=w29) rfl rfl F35 rfl (zI ((2*p+(jn+1):Nat):Int)) (zoa _ _ _ _ rfl (F35 21 rfl) rfl (by omega) (by omega)) fun _ F36=>?_)))))
   refine rm rfl F36 fun _ F37=>?_
   subst ek15
   exact hK15 _ ⟨(jn+1),av,tv,lv,sv⟩ _ _ (by omega) ⟨rfl,⟨by omega,(by rw [cntR_no hbg];exact hcR),hsv⟩⟩ (F37.sb) (M29.sb)
  ·refine rm rfl F33 fun _ F38=>?_
   by_cases h39:av<0
   ·refine zc (w':=w29) (zd rfl rfl rfl (F38 38 rfl)) rfl F38 rfl (.bool true) (zka _ _ _ _ rfl (F38 39 rfl) rfl (decide_eq_true h39)) fun _ F40=>?_
    refine zAx 6 [(41,.bool true),(42,undef),(43,undef),(44,undef),(45,.bool true),(46,.bool true)] [] dnil [] F40 fun _ F41=>?_
    refine hK31 _ _ (wp_cond_true (F41 46 rfl) (zR (zAx 6 [(7,zI ((2*p+jn:Nat):Int)),(8,zI n29),(9,S29),(47,zI ((2*p+jn:Nat):Int)),(48,zI n29),(49,S29)] [] dnil [] F41 fun _ F42=>?_)))
    refine hK23 _ _ (zR (rm rfl F42 fun _ F43=>zc (w':=w29) rfl rfl F43 rfl (zI ((2*p+(jn+1):Nat):Int)) (zoa _ _ _ _ rfl (F43 21 rfl) rfl (by omega) (by omega)) fun _ F44=>?_))
    refine rm rfl F44 fun _ F45=>?_
    subst ek15
    exact hK15 _ ⟨(jn+1),((2*p+jn:Nat):Int),n29,L29,S29⟩ _ _ (by omega) ⟨rfl,⟨by omega,(by rw [cntR_in hcR hbg (.inl h39),←(hg29 rfl).1,←(hg29 rfl).2]),hS29⟩⟩ (F45.sb) (M29.sb)
   ·refine zc (w':=w29) (zd rfl rfl rfl (F38 38 rfl)) rfl F38 rfl (.bool false) (zka _ _ _ _ rfl (F38 39 rfl) rfl (decide_eq_false h39)) fun _ F46=>?_
    refine rm rfl F46 fun _ F47=>rm rfl F47 fun _ F48=>rm rfl F48 fun _ F49=>?_
    by_cases h50:tv<n29
    ·refine zc (w':=w29) (zd rfl rfl rfl (F49 41 rfl)) rfl F49 rfl (.bool true) (zbc _ _ _ _ rfl (F49 42 rfl) (F49 43 rfl) (decide_eq_true h50)) fun _ F51=>?_
     refine zAx 2 [(45,.bool true),(46,.bool true)] [] dnil [] F51 fun _ F52=>?_
     refine hK31 _ _ (wp_cond_true (F52 46 rfl) (zR (zAx 6 [(7,zI ((2*p+jn:Nat):Int)),(8,zI n29),(9,S29),(47,zI ((2*p+jn:Nat):Int)),(48,zI n29),(49,S29)] [] dnil [] F52 fun _ F53=>?_)))
     refine hK23 _ _ (zR (rm rfl F53 fun _ F54=>zc (w':=w29) rfl rfl F54 rfl (zI ((2*p+(jn+1):Nat):Int)) (zoa _ _ _ _ rfl (F54 21 rfl) rfl (by omega) (by omega)) fun _ F55=>?_))
     refine rm rfl F55 fun _ F56=>?_
     subst ek15
     exact hK15 _ ⟨(jn+1),((2*p+jn:Nat):Int),n29,L29,S29⟩ _ _ (by omega) ⟨rfl,⟨by omega,(by rw [cntR_in hcR hbg (.inr (by rw [←(hg29 rfl).1];exact h50)),←(hg29 rfl).1,←(hg29 rfl).2]),hS29⟩⟩ (F56.sb) (M29.sb)
    ·refine zc (w':=w29) (zd rfl rfl rfl (F49 41 rfl)) rfl F49 rfl (.bool false) (zbc _ _ _ _ rfl (F49 42 rfl) (F49 43 rfl) (decide_eq_false h50)) fun _ F57=>?_
     refine zAx 2 [(45,.bool false),(46,.bool false)] [] dnil [] F57 fun _ F58=>?_
     refine hK31 _ _ (wp_cond_false (F58 46 rfl) (wp_skip (hK23 _ _ (zR (rm rfl F58 fun _ F59=>zc (w':=w29) rfl rfl F59 rfl (zI ((2*p+(jn+1):Nat):Int)) (zoa _ _ _ _ rfl (F59 21 rfl) rfl (by omega) (by omega)) fun _ F60=>?_)))))
     refine rm rfl F60 fun _ F61=>?_
     subst ek15
     exact hK15 _ ⟨(jn+1),av,tv,lv,sv⟩ _ _ (by omega) ⟨rfl,⟨by omega,(cntR_out hcR h39 (by rw [←(hg29 rfl).1];exact h50)),hsv⟩⟩ (F61.sb) (M29.sb)
 ·have hj2:jn=2:=by omega
  have hc2:cntR V (2*p) 2=(av,tv,lv):=by rw [hj2] at hcR;exact hcR
  refine zSk fun _ hK62=>zT fun _ hK63=>rm rfl F15 fun _ F64=>rm rfl F64 fun _ F65=>zc (w':=w15) rfl rfl F65 rfl (zI ((2*p+0:Nat):Int)) (y_mulI _ _ _ _ rfl rfl (F65 17 rfl) (by omega) (by omega)) fun _ F66=>?_
  refine zc (w':=w15) rfl rfl F66 rfl (zI ((2*p+2:Nat):Int)) (zoa _ _ _ _ rfl (F66 18 rfl) rfl (by omega) (by omega)) fun _ F67=>?_
  refine zc (w':=w15) rfl rfl F67 rfl (.bool false) (zka _ _ _ _ rfl (F67 16 rfl) (F67 19 rfl) (decide_eq_false (show ¬((2*p+jn:Nat):Int)<((2*p+2:Nat):Int) by omega))) fun _ F68=>?_
  refine hK63 _ _ (wp_cond_false (F68 20 rfl) (wp_exit ?_))
  simp only [Exit.then,Exit.inBlock,↓reduceIte,Nat.reduceEqDiff]
  refine hK10 _ _ (zT fun _ hK69=>zAx 6 [(4,zI av),(5,zI tv),(6,sv),(50,zI av),(51,zI tv),(52,sv)] [] dnil [] F68 fun _ F70=>?_)
  exact hK69 _ _ (wp_ret (bodyPost_ret (res3 rfl (F70.get rfl) (F70.get rfl) (F70.get rfl)) F70.defers ⟨sv,(by rw [hc2]),(by rw [hc2];exact hsv),M15.below⟩))
def stpL (L:Int):Int:=if 0<L then L-1 else L
theorem rstep_any (gx gc:Nat) (L:Int) (hL3:L<9223372036854775808) (w:World) (hx:w.heap[gx]? = some (.cells (#[.slice (some ⟨gc,0,none⟩) 18 18,zI L,.bool false]) 72 (0,0))):
  Calls Tryz.prog 82 #[(zO gx)] w fun e w'=>∃ t,e=.returned t∧t=.bool (!decide (L=0))∧w'.heap[gx]? = some (.cells (#[.slice (some ⟨gc,0,none⟩) 18 18,zI (stpL L),.bool (decide (L=0))]) 72 (0,0))∧w.grownBy w' (some gx):=by
 refine zk (args:=[(zO gx)]) 29 Tryz.func82 rfl rfl rfl ?_
 intro fa F
 have M:=Mx.theG hx 0
 refine zT fun _ hK1=>rm rfl F fun _ F2=>hK1 _ _ (zSk fun _ hK3=>zT fun _ hK4=>zB 9 [(0,(zO gx)),(2,.bool false),(7,.bool false),(11,zI L)] [0,0] (zu (M.blk (k:=0) rfl) dnil) [gx,gx] F2 fun _ F5=>?_)
 by_cases h6:L=0
 ·refine zc (w':=w) (zd rfl rfl rfl (F5 7 rfl)) rfl F5 rfl (.bool true) (zza _ _ _ _ rfl (F5 11 rfl) rfl Tryz.underlying3 (zmb h6)) fun _ F7=>?_
  refine zc (w':=w) rfl rfl F7 rfl (.bool true) (z0b rfl (F7 7 rfl) (F7 12 rfl)) fun _ F8=>?_
  refine hK4 _ _ (wp_cond_true (F8 13 rfl) (zT fun _ hK9=>zB 3 [(0,(zO gx)),(2,.bool false),(16,(zP gx 2))] [] dnil [] F8 fun _ F10=>?_))
  refine zt rfl rfl F10 M (k:=0) rfl _ _ _ rfl (F10 16 rfl) rfl (#[.bool true]) (#[.slice (some ⟨gc,0,none⟩) 18 18,zI L,.bool true]) rfl (zL rfl) (by simp [Value.oneCell']) (by kernel_rfl) (by kernel_rfl) ?_
  intro w11 M11
  refine hK9 _ _ (zT fun _ hK12=>rm rfl F10 fun _ F13=>hK12 _ _ (wp_ret ?_))
  try simp only [Exit.then,Exit.inBlock,Exit.jump]
  exact bodyPost_ret (res1 rfl (F13.get rfl)) F13.defers ⟨_,rfl,(by rw [decide_eq_true h6];rfl),(by rw [decide_eq_true h6,show stpL L=L from if_neg (by omega)];exact M11.blk (k:=0) rfl),M11.grown⟩
 ·refine zc (w':=w) (zd rfl rfl rfl (F5 7 rfl)) rfl F5 rfl (.bool false) (zza _ _ _ _ rfl (F5 11 rfl) rfl Tryz.underlying3 (zib h6)) fun _ F14=>?_
  refine zc (w':=w) rfl rfl F14 rfl (.bool false) (z0b rfl (F14 7 rfl) (F14 12 rfl)) fun _ F15=>?_
  refine hK4 _ _ (wp_cond_false (F15 13 rfl) (wp_skip (hK3 _ _ (zSk fun _ hK16=>zT fun _ hK17=>zB 4 [(0,(zO gx)),(2,.bool false),(20,zI L)] [0] (zu (M.blk (k:=0) rfl) dnil) [gx] F15 fun _ F18=>?_))))
  by_cases h19:0<L
  ·refine zc (w':=w) rfl rfl F18 rfl (.bool true) (zbc _ _ _ _ rfl (F18 20 rfl) rfl (decide_eq_true h19)) fun _ F20=>?_
   refine hK17 _ _ (wp_cond_true (F20 21 rfl) (zR (zB 4 [(2,.bool false),(22,(zO gx)),(25,zI L)] [0] (zu (M.blk (k:=0) rfl) dnil) [gx] F20 fun _ F21=>?_)))
   refine zc (w':=w) rfl rfl F21 rfl (zI (L-1)) (z3c _ _ _ _ rfl (F21 25 rfl) rfl (by omega) (by omega)) fun _ F22=>?_
   refine zB 2 [(2,.bool false),(26,zI (L-1)),(28,(zP gx 1))] [] dnil [] F22 fun _ F23=>?_
   refine zt rfl rfl F23 M (k:=0) rfl _ _ _ rfl (F23 28 rfl) (F23 26 rfl) (#[zI (L-1)]) (#[.slice (some ⟨gc,0,none⟩) 18 18,zI (L-1),.bool false]) rfl (zL rfl) (zdc _ _) (by kernel_rfl) (by kernel_rfl) ?_
   intro w24 M24
   refine hK16 _ _ (zT fun _ hK25=>?_)
   exact rm rfl F23 fun _ F26=>hK25 _ _ (wp_ret (bodyPost_ret (res1 rfl (F26.get rfl)) F26.defers ⟨_,rfl,(by rw [decide_eq_false h6];rfl),(by rw [decide_eq_false h6,show stpL L=_ from if_pos h19];exact M24.blk (k:=0) rfl),M24.grown⟩))
  ·refine zc (w':=w) rfl rfl F18 rfl (.bool false) (zbc _ _ _ _ rfl (F18 20 rfl) rfl (decide_eq_false h19)) fun _ F27=>?_
   refine hK17 _ _ (wp_cond_false (F27 21 rfl) (wp_skip (hK16 _ _ (zT fun _ hK28=>?_))))
   exact rm rfl F27 fun _ F29=>hK28 _ _ (wp_ret (bodyPost_ret (res1 rfl (F29.get rfl)) F29.defers ⟨_,rfl,(by rw [decide_eq_false h6];rfl),(by rw [decide_eq_false h6,show stpL L=_ from if_neg h19];exact M.blk (k:=0) rfl),M.grown⟩))
theorem rcounts_is {K:Nat} (gx gc:Nat) (V:VltN) (L:Int) (s n:Nat→Value) (hi:InvV K V) (p:Nat) (hp:p<9) {ca ct:Int} {cl:List UInt8} (hC:cntR V (2*p) 2=(ca,ct,cl)) (w:World) (h:HasX w gx gc V L s n):
  Calls Tryz.prog 62 #[(zO gx),zI (p:Int)] w fun e w'=>∃ t,e=.returned t∧∃ S,t=.tuple #[zI ca,zI ct,S]∧IsB w cl S∧Below w.heap.size w w':=
 (rcountsR_any gx gc V L s n hi p hp w h).mono fun e w' ⟨S,h1,h2,h3⟩=>by
  rw [hC] at h1 h2
  exact ⟨_,h1,S,rfl,h2,h3⟩
theorem cnt_any {V:VltN} {q:Nat} {ca ct:Int} {cl:List UInt8} (hC:cntR V q 2=(ca,ct,cl)):(anyB zr V q=true∧ca=(cntP V q:Int)∧ct=cntT V q∧cl=cntS V q)∨(anyB zr V q=false∧ca = -1∧ct=0∧cl=[]):=by
 rw [cntR_2] at hC
 by_cases h:anyB zr V q=true
 ·rw [if_pos h] at hC
  cases hC
  exact .inl ⟨h,rfl,rfl,rfl⟩
 ·rw [if_neg h] at hC
  cases hC
  exact .inr ⟨Bool.eq_false_iff.2 h,rfl,rfl,rfl⟩
theorem empty_cnt {V:VltN} {q:Nat} {ca ct:Int} {cl:List UInt8} (hC:cntR V q 2=(ca,ct,cl)):zxa V q=decide ((cl.length:Int)=0):=by
 unfold zxa
 rcases cnt_any hC with ⟨h,_,_,rfl⟩ | ⟨h,_,_,rfl⟩ <;> rw [h] <;> simp
def idx8 (p:Nat→Bool):Int:=if fst8 p<8 then (fst8 p:Int) else -1
theorem idx8_at {p:Nat→Bool} {k:Nat} (hk:k<8) (h:fst8 p=k):idx8 p=(k:Int):=by unfold idx8;rw [h,if_pos hk]
theorem idx8_no {p:Nat→Bool} (h:fst8 p=fstN p 0 8):idx8 p = -1:=by unfold idx8;rw [h];rfl
theorem rfree_any {K:Nat} (gx gc:Nat) (V:VltN) (L:Int) (s n:Nat→Value) (hi:InvV K V) (w:World) (h:HasX w gx gc V L s n):
  Calls Tryz.prog 54 #[(zO gx)] w fun e w'=>e=.returned (zI (idx8 (fun i=>zxa V (2*i))))∧Below w.heap.size w w':=by
 refine zk (args:=[(zO gx)]) 22 Tryz.func54 rfl rfl rfl ?_
 intro fa F
 have M:=Mx.start w
 replace M:=M.argO 0 h.hx (fun b e=>by cases e)
 replace M:=M.argO 1 h.hc (fun b e=>by cases e)
 refine zT fun _ hK1=>rm rfl F fun _ F2=>hK1 _ _ (zSk fun _ hK3=>zT fun _ hK4=>rm rfl F2 fun _ F5=>hK4 _ _ (wp_block (zeb (α:=Nat) (n:=22) (G:=none) (w0:=w) (fun x=>[(0,(zO gx)),(3,zI (x:Int))]) (fun x=>[(0,blkO gx 72 (#[.slice (some ⟨gc,0,none⟩) 18 18,zI L,.bool V.dd])),(1,blkO gc 63 (celA V.c s n))]) (fun k x=>k=(8-x)∧(x≤8∧fst8 (fun i=>zxa V (2*i))=fstN (fun i=>zxa V (2*i)) (8-x) x)) _ 0 ⟨rfl,⟨Nat.zero_le _,rfl⟩⟩ (F5.sb) (M.sb) ?_)))
 rintro k6 jn a6 w6 K6 ⟨ek6,I6⟩ F6 M6 hK6
 replace F6:Fx 22 a6 [(0,(zO gx)),(3,zI (jn:Int))]:=F6
 replace M6:Mx _ _ w6 [(0,blkO gx 72 (#[.slice (some ⟨gc,0,none⟩) 18 18,zI L,.bool V.dd])),(1,blkO gc 63 (celA V.c s n))]:=M6
 replace I6:jn≤8∧fst8 (fun i=>zxa V (2*i))=fstN (fun i=>zxa V (2*i)) (8-jn) jn:=I6
 replace ek6:k6=(8-jn):=ek6
 obtain ⟨hj,hf⟩:=I6
 by_cases h8:jn<8
 ·obtain ⟨ca,ct,cl,hC⟩:∃ a t l,cntR V (2*jn) 2=(a,t,l):=⟨_,_,_,rfl⟩
  refine zSk fun _ hK7=>zT fun _ hK8=>rm rfl F6 fun _ F9=>zc (w':=w6) rfl rfl F9 rfl (.bool true) (zka _ _ _ _ rfl (F9 7 rfl) rfl (decide_eq_true (show (jn:Int)<8 by omega))) fun _ F10=>?_
  refine hK8 _ _ (wp_cond_true (F10 8 rfl) (wp_skip (hK7 _ _ (zSk fun _ hK11=>wp_block (zT fun _ hK12=>rm rfl F10 fun _ F13=>rm rfl F13 fun _ F14=>zh rfl rfl F14 rfl rfl (zE Tryz.func62 rfl) #[(zO gx),zI (jn:Int)] (zfa (F14 12 rfl) (F14 13 rfl)) (rcounts_is gx gc V L s n hi jn (by omega) hC w6 (h.step M6.below)) ?_)))))
  rintro _ w15 a15 ⟨S15,rfl,hS15,b15⟩ F15
  have M15:=M6.step b15
  have lS15:=hS15.step b15
  refine zB 7 [(0,(zO gx)),(3,zI (jn:Int)),(6,S15)] [] dnil [] F15 fun _ F16=>?_
  refine hK12 _ _ (zT fun _ hK17=>rm rfl F16 fun _ F18=>zc (w':=w15) rfl rfl F18 rfl (zI (cl.length:Int)) (z8a _ rfl (F18 18 rfl) lS15 rfl) fun _ F19=>?_)
  by_cases h20:(cl.length:Int)=0
  ·refine zc (w':=w15) rfl rfl F19 rfl (.bool true) (zza _ _ _ _ rfl (F19 19 rfl) rfl Tryz.underlying3 (zmb h20)) fun _ F21=>?_
   refine hK17 _ _ (wp_cond_true (F21 20 rfl) (zT fun _ hK22=>rm rfl F21 fun _ F23=>rm rfl F23 fun _ F24=>hK22 _ _ (wp_ret ?_)))
   try simp only [Exit.then,Exit.inBlock,Exit.jump]
   exact bodyPost_ret (res1 rfl (F24.get rfl)) F24.defers ⟨(by rw [idx8_at h8 (fst_here h8 (show zxa V (2*jn)=true by rw [empty_cnt hC];exact decide_eq_true h20) hf)]),M15.below⟩
  ·refine zc (w':=w15) rfl rfl F19 rfl (.bool false) (zza _ _ _ _ rfl (F19 19 rfl) rfl Tryz.underlying3 (zib h20)) fun _ F25=>?_
   refine hK17 _ _ (wp_cond_false (F25 20 rfl) (wp_skip (hK11 _ _ (zR (rm rfl F25 fun _ F26=>zc (w':=w15) rfl rfl F26 rfl (zI ((jn+1:Nat):Int)) (zoa _ _ _ _ rfl (F26 9 rfl) rfl (by omega) (by omega)) fun _ F27=>?_)))))
   refine rm rfl F27 fun _ F28=>?_
   subst ek6
   exact hK6 _ (jn+1) _ _ (by omega) ⟨rfl,⟨by omega,fst_next h8 (show zxa V (2*jn)=false by rw [empty_cnt hC];exact decide_eq_false h20) hf⟩⟩ (F28.sb) (M15.sb)
 ·have hj8:jn=8:=by omega
  refine zSk fun _ hK29=>zT fun _ hK30=>rm rfl F6 fun _ F31=>zc (w':=w6) rfl rfl F31 rfl (.bool false) (zka _ _ _ _ rfl (F31 7 rfl) rfl (decide_eq_false (show ¬(jn:Int)<8 by omega))) fun _ F32=>?_
  refine hK30 _ _ (wp_cond_false (F32 8 rfl) (wp_exit ?_))
  simp only [Exit.then,Exit.inBlock,↓reduceIte,Nat.reduceEqDiff]
  refine hK3 _ _ (zT fun _ hK33=>?_)
  exact rm rfl F32 fun _ F34=>hK33 _ _ (wp_ret (bodyPost_ret (res1 rfl (F34.get rfl)) F34.defers ⟨(by rw [idx8_no (by rw [hf,hj8])]),M6.below⟩))
section
open Go.Shelf
def zhc (V:VltN):Int:=if V.fl=true then V.lf else -1
def LeftOk (V:VltN):Prop:=V.fl=true→0≤V.lf∧V.lf<9223372036854775808
theorem left_lt {V:VltN} (h:LeftOk V):zhc V<9223372036854775808:=by
 unfold zhc
 split
 ·exact (h (by assumption)).2
 ·decide
theorem left_fall (V:VltN):zpc V=decide (zhc V=0):=by
 unfold zpc zhc
 cases V.fl with
 | true=>rfl
 | false=>rfl
theorem left_down {V W:VltN} (h:LeftOk V) (hf:zpc V=false) (h1:W.fl=V.fl) (h2:W.lf=IntKind.i64.wrap (V.lf-1)):zhc W=stpL (zhc V)∧LeftOk W:=by
 unfold LeftOk zhc stpL
 rw [h1,h2]
 cases hfl:V.fl with
 | false=>exact ⟨rfl,fun e=>by cases e⟩
 | true=>
  obtain ⟨h3,h4⟩:=h hfl
  have h0:¬V.lf=0:=fun e=>by unfold zpc at hf;rw [hfl,e] at hf;cases hf
  have w1:IntKind.i64.wrap (V.lf-1)=V.lf-1:=by rw [IntKind.wrap_i64];omega
  simp only [if_true]
  rw [w1,if_pos (by omega)]
  exact ⟨rfl,fun _=>by omega⟩
theorem left_lay {V:VltN} (h:LeftOk V) (hf:zpc V=false) (p:Nat) (b:List UInt8):zhc (zkc V p b)=stpL (zhc V)∧LeftOk (zkc V p b):=left_down h hf rfl rfl
theorem left_keep {V:VltN} (h:LeftOk V) (hf:zpc V=false) (p:Nat):zhc (keepV V p)=stpL (zhc V)∧LeftOk (keepV V p):=left_down h hf rfl rfl
theorem say_1 {V:VltN} {q:Nat} {l:List UInt8} (h:zpc V=true):sayW V q l=(deadV V,false):=by unfold sayW wrtV;rw [if_pos h]
theorem say_2 {V:VltN} {q N:Nat} {l b:List UInt8} (hN:nxtP V q=N) (hb:z7a zr N (nxtT V q) l=b) (h:zpc V=false) (h2:zpc (zkc V N b)=true):sayW V q l=(deadV (zkc V N b),false):=by
 unfold sayW wrtV;rw [hN,hb,if_neg (by rw [h];decide),if_pos h2]
theorem say_3 {V:VltN} {q N:Nat} {l b:List UInt8} (hN:nxtP V q=N) (hb:z7a zr N (nxtT V q) l=b) (h:zpc V=false) (h2:zpc (zkc V N b)=false):sayW V q l=(keepV (zkc V N b) N,true):=by
 unfold sayW wrtV;rw [hN,hb,if_neg (by rw [h];decide),if_neg (by rw [h2];decide)]
theorem left_say {V:VltN} (h:LeftOk V) (q:Nat) (l:List UInt8):LeftOk (sayW V q l).1:=by
 obtain ⟨b1,h1⟩:∃ x,zpc V=x:=⟨_,rfl⟩
 cases b1 with
 | true=>rw [say_1 h1];exact h
 | false=>
  have h3:=left_lay h h1 (nxtP V q) (z7a zr (nxtP V q) (nxtT V q) l)
  obtain ⟨b2,h2⟩:∃ x,zpc (zkc V (nxtP V q) (z7a zr (nxtP V q) (nxtT V q) l))=x:=⟨_,rfl⟩
  cases b2 with
  | true=>rw [say_2 rfl rfl h1 h2];exact h3.2
  | false=>rw [say_3 rfl rfl h1 h2];exact (left_keep h3.2 h2 _).2
theorem nxt_cnt {V:VltN} {q:Nat} {ca ct:Int} {cl:List UInt8} (hC:cntR V q 2=(ca,ct,cl)):((nxtP V q:Nat):Int)=(if ca=(q:Int) then (q:Int)+1 else (q:Int))∧nxtT V q=ct+1:=by
 unfold nxtP nxtT
 rcases cnt_any hC with ⟨h,rfl,rfl,_⟩ | ⟨h,rfl,rfl,_⟩
 ·rw [if_pos h,if_pos h]
  rcases cntP_in h with e | e
  ·rw [e,if_pos rfl];exact ⟨by omega,rfl⟩
  ·rw [e,if_neg (by omega)];exact ⟨by omega,rfl⟩
 ·rw [h,if_neg Bool.false_ne_true,if_neg Bool.false_ne_true,if_neg (by omega)];exact ⟨rfl,rfl⟩
end
section
open Go.Shelf
section
theorem cel_putN (c:Nat→CelN) (s n:Nat→Value) (u:Value):∀ {p:Nat},p<18→((celA c s n).toList.take (3*p+1)++(#[u]:Array Value).toList++(celA c s n).toList.drop (3*p+1+(#[u]:Array Value).size)).toArray=celA c s (putN n p u)
 | p,h=>by
  match p,h with
  | 0,_ | 1,_ | 2,_ | 3,_ | 4,_ | 5,_ | 6,_ | 7,_ | 8,_ | 9,_ | 10,_ | 11,_ | 12,_ | 13,_ | 14,_ | 15,_ | 16,_ | 17,_=>show _=_;kernel_rfl
  | k+18,h=>exact absurd h (by omega)
theorem cel_putF (c:Nat→CelN) (s n:Nat→Value) (x y:List UInt8) (b:Bool):∀ {p:Nat},p<18→((celA c s n).toList.take (3*p+2)++(#[.bool b]:Array Value).toList++(celA c s n).toList.drop (3*p+2+(#[.bool b]:Array Value).size)).toArray=celA (putC c p ⟨x,y,b⟩) s n
 | p,h=>by
  match p,h with
  | 0,_ | 1,_ | 2,_ | 3,_ | 4,_ | 5,_ | 6,_ | 7,_ | 8,_ | 9,_ | 10,_ | 11,_ | 12,_ | 13,_ | 14,_ | 15,_ | 16,_ | 17,_=>show _=_;kernel_rfl
  | k+18,h=>exact absurd h (by omega)
end
section
variable {G:Option Nat} {w0 w:World} {R:List (Nat×Res)} {B N i k:Nat} {c c':Nat→CelN} {s n s' n':Nat→Value}
theorem Mx.rowsTo (M:Mx G w0 w R) (h:look R i=some (zua B N c s n)) {l:List UInt8} {u:Value} (hu:look R k=some (ownR l u)) (hB:∀ b,bfp u b→B≤b)
  (hs:∀ j,j<N→((c' j).s=(c j).s∧s' j=s j)∨((c' j).s=l∧s' j=u)∨((c' j).s=[]∧s' j=zN)) (hn:∀ j,j<N→((c' j).n=(c j).n∧n' j=n j)∨((c' j).n=l∧n' j=u)∨((c' j).n=[]∧n' j=zN)):
  Mx G w0 w ((i,zua B N c' s' n')::(k,bytR l u)::R):=by
 have hik:¬k=i:=fun e=>by subst e;rw [h] at hu;cases hu
 have M2:=M.tame hu
 have hsub:∀ b,zo N s' n' b→zo N s n b∨bfp u b:=fun b ⟨j,hj,hb⟩=>by
  rcases hb with hb | hb
  ·rcases hs j hj with ⟨_,e⟩ | ⟨_,e⟩ | ⟨_,e⟩ <;> rw [e] at hb
   ·exact .inl ⟨j,hj,.inl hb⟩
   ·exact .inr hb
   ·exact absurd hb (zpa b)
  ·rcases hn j hj with ⟨_,e⟩ | ⟨_,e⟩ | ⟨_,e⟩ <;> rw [e] at hb
   ·exact .inl ⟨j,hj,.inr hb⟩
   ·exact .inr hb
   ·exact absurd hb (zpa b)
 refine M2.cons i _ (fun j hj=>⟨?_,?_,fun b hb=>?_⟩) rows_dep (fun b hb=>?_) (fun e=>by cases e) fun q t e hq hw b hb hb2=>?_
 ·rcases hs j hj with ⟨e1,e2⟩ | ⟨e1,e2⟩ | ⟨e1,e2⟩ <;> rw [e1,e2]
  ·exact (M.rowsAt h j hj).1
  ·exact M.isO hu
  ·exact zia _
 ·rcases hn j hj with ⟨e1,e2⟩ | ⟨e1,e2⟩ | ⟨e1,e2⟩ <;> rw [e1,e2]
  ·exact (M.rowsAt h j hj).2.1
  ·exact M.isO hu
  ·exact zia _
 ·rcases hb with hb | hb
  ·rcases hs j hj with ⟨_,e⟩ | ⟨_,e⟩ | ⟨_,e⟩ <;> rw [e] at hb
   ·exact (M.rowsAt h j hj).2.2 b (.inl hb)
   ·exact hB b hb
   ·exact absurd hb (zpa b)
  ·rcases hn j hj with ⟨_,e⟩ | ⟨_,e⟩ | ⟨_,e⟩ <;> rw [e] at hb
   ·exact (M.rowsAt h j hj).2.2 b (.inr hb)
   ·exact hB b hb
   ·exact absurd hb (zpa b)
 ·rcases hsub b hb with hb | hb
  ·exact M.lt i _ h b hb
  ·exact (M.isO hu).lt hb
 ·rcases hw with hw | hw
  ·cases hw
  rw [zx] at e
  split at e
  ·cases e;cases hw
  ·rename_i hkq
   rcases hsub b hb with hb | hb
   ·exact M.dis q i t _ e h (fun e2=>hq e2.symm) hw b hb2 hb
   ·exact M.dis q k t _ e hu (fun e2=>hkq e2.symm) hw b hb2 (zta hb)
def staysR (w:World) (gx gc:Nat):Res:=⟨false,fun g=>(g≠gx∧g≠gc)∧g<w.heap.size,fun u=>w.heap.size≤u.heap.size∧∀ g,g≠gx→g≠gc→g<w.heap.size→u.heap[g]? = w.heap[g]?⟩
theorem staysR_dep {gx gc:Nat}:∀ u u',Same (staysR w gx gc).fp u u'→(staysR w gx gc).F u→(staysR w gx gc).F u':=fun u u' hs h=>⟨Nat.le_trans h.1 hs.size,fun g h1 h2 h3=>by
 have e:=h.2 g h1 h2 h3
 rw [←e]
 have e2:w.heap[g]? = some w.heap[g]:=Array.getElem?_eq_getElem h3
 rw [e2] at e
 rw [e]
 exact hs.at_ g _ ⟨⟨h1,h2⟩,h3⟩ e⟩
theorem Mx.two {gx gc:Nat} {tx tc:TypeId} {a b:Array Value} (hx:w.heap[gx]? = some (.cells a tx (0,0))) (hc:w.heap[gc]? = some (.cells b tc (0,0))) (hne:gx≠gc) (hr:∀ i,i<18→(IsB w (c i).s (s i)∧¬bfp (s i) gx∧¬bfp (s i) gc)∧(IsB w (c i).n (n i)∧¬bfp (n i) gx∧¬bfp (n i) gc)):
  Mx none { w with heap:=#[] } w [(0,blkR gx tx a),(1,blkR gc tc b),(2,zua 0 18 c s n),(5,staysR w gx gc)]:=by
 have M0:Mx none { w with heap:=#[] } w []:=⟨⟨rfl,rfl,rfl,Nat.zero_le _,fun k hk _=>absurd hk (Nat.not_lt_zero k)⟩,fun _ _ h=>(by cases h),fun _ _ h=>(by cases h),fun _ _ h=>(by cases h),fun _ _ h=>(by cases h),fun _ _ _ _ h=>(by cases h)⟩
 have M1:=M0.cons 5 (staysR w gx gc) ⟨Nat.le_refl _,fun _ _ _ _=>rfl⟩ staysR_dep (fun g hg=>hg.2) (fun e=>by cases e) fun k t e=>by cases e
 have M2:=M1.cons 2 (zua 0 18 c s n) (fun i hi=>⟨(hr i hi).1.1,(hr i hi).2.1,fun _ _=>Nat.zero_le _⟩) rows_dep (fun g ⟨j,hj,hg⟩=>hg.elim (fun h=>(hr j hj).1.1.lt h) (fun h=>(hr j hj).2.1.lt h)) (fun e=>by cases e) fun k t e hk hw=>by
  rw [zx] at e
  split at e
  ·cases e;rcases hw with hw | hw <;> cases hw
  ·cases e
 have M3:=M2.cons 1 (blkR gc tc b) hc z9c (fun g hg=>by cases hg;exact z2a hc) (fun _ _ _=>.inl (Nat.zero_le _)) fun k t e hk hw g hg h2=>by
  cases hg
  rw [zx] at e
  split at e
  ·cases e
   obtain ⟨j,hj,h⟩:=h2
   rcases h with h | h
   ·exact (hr j hj).1.2.2 h
   ·exact (hr j hj).2.2.2 h
  ·rw [zx] at e
   split at e
   ·cases e;exact h2.1.2 rfl
   ·cases e
 exact M3.cons 0 (blkR gx tx a) hx z9c (fun g hg=>by cases hg;exact z2a hx) (fun _ _ _=>.inl (Nat.zero_le _)) fun k t e hk hw g hg h2=>by
  cases hg
  rw [zx] at e
  split at e
  ·cases e;exact hne h2
  ·rw [zx] at e
   split at e
   ·cases e
    obtain ⟨j,hj,h⟩:=h2
    rcases h with h | h
    ·exact (hr j hj).1.2.1 h
    ·exact (hr j hj).2.2.1 h
   ·rw [zx] at e
    split at e
    ·cases e;exact h2.1.1 rfl
    ·cases e
theorem Mx.hasX (M:Mx G w0 w R) {gx gc kx kc kr:Nat} {V:VltN} {L:Int} (hx:look R kx=some (blkR gx 72 #[.slice (some ⟨gc,0,none⟩) 18 18,zI L,.bool V.dd])) (hc:look R kc=some (blkR gc 63 (celA V.c s n))) (hr:look R kr=some (zua 0 18 V.c s n)):HasX w gx gc V L s n:=
 ⟨M.blk hx,M.blk hc,fun i hi=>M.rowsS hr hi,fun i hi=>M.rowsN hr hi⟩
structure XOk (w:World) (gx gc:Nat) (V:VltN) (s n:Nat→Value):Prop where
 has:HasX w gx gc V (zhc V) s n
 ne:gx≠gc
 far:∀ i,i<18→(¬bfp (s i) gx∧¬bfp (n i) gx)∧¬bfp (s i) gc∧¬bfp (n i) gc
structure XTo (w w':World) (gx gc:Nat) (fp:Nat→Prop) (V':VltN):Prop where
 ok:∃ s' n',XOk w' gx gc V' s' n'∧∀ b,zo 18 s' n' b→fp b∨w.heap.size≤b
 size:w.heap.size≤w'.heap.size
 stay:∀ g,g≠gx→g≠gc→g<w.heap.size→w'.heap[g]? = w.heap[g]?
 os:w'.os=w.os
 tape:w'.tape=w.tape
 out:w'.output=w.output
theorem XTo.before {w w1 w':World} {gx gc:Nat} {fp:Nat→Prop} {V':VltN} (hb:Below w.heap.size w w1) (h:XTo w1 w' gx gc fp V'):XTo w w' gx gc fp V':=
 ⟨h.ok.elim fun s' h=>h.elim fun n' h=>⟨s',n',h.1,fun b hb'=>(h.2 b hb').imp id (Nat.le_trans hb.size)⟩,Nat.le_trans hb.size h.size,fun g h1 h2 h3=>(h.stay g h1 h2 (Nat.lt_of_lt_of_le h3 hb.size)).trans (hb.block g h3),h.os.trans hb.os,h.tape.trans hb.tape,h.out.trans hb.output⟩
theorem XOk.to {w w':World} {gx gc:Nat} {V:VltN} {s n:Nat→Value} (h:XOk w gx gc V s n) (hb:Below w.heap.size w w'):XTo w w' gx gc (zo 18 s n) V:=
 ⟨⟨s,n,⟨h.has.step hb,h.ne,h.far⟩,fun b hb=>.inl hb⟩,hb.size,fun g _ _ h3=>hb.block g h3,hb.os,hb.tape,hb.output⟩
theorem XOk.step {w w':World} {gx gc:Nat} {V:VltN} {s n:Nat→Value} (h:XOk w gx gc V s n) (hb:Below w.heap.size w w'):XOk w' gx gc V s n:=⟨h.has.step hb,h.ne,h.far⟩
theorem XOk.two {gx gc:Nat} {V:VltN} (h:XOk w gx gc V s n):Mx none { w with heap:=#[] } w [(0,blkR gx 72 #[.slice (some ⟨gc,0,none⟩) 18 18,zI (zhc V),.bool V.dd]),(1,blkR gc 63 (celA V.c s n)),(2,zua 0 18 V.c s n),(5,staysR w gx gc)]:=
 Mx.two h.has.hx h.has.hc h.ne fun i hi=>⟨⟨h.has.hs i hi,(h.far i hi).1.1,(h.far i hi).2.1⟩,h.has.hn i hi,(h.far i hi).1.2,(h.far i hi).2.2⟩
theorem Mx.newU {v:World} (M:Mx G w0 w R) {l:List UInt8} {u:Value} {gx gc:Nat} {tx tc:TypeId} {a b:Array Value} (hu:look R k=some (ownR l u)) (h0:look R 0=some (blkR gx tx a)) (h1:look R 1=some (blkR gc tc b)) (h5:look R 5=some (staysR v gx gc)) (hk:¬k=0∧¬k=1∧¬k=5):∀ q,bfp u q→v.heap.size≤q:=fun q hq=>by
 have e0:q≠gx:=fun e=>M.dis k 0 _ _ hu h0 hk.1 rfl q (zta hq) e
 have e1:q≠gc:=fun e=>M.dis k 1 _ _ hu h1 hk.2.1 rfl q (zta hq) e
 exact Nat.le_of_not_lt fun e=>M.dis k 5 _ _ hu h5 hk.2.2 rfl q (zta hq) ⟨⟨e0,e1⟩,e⟩
theorem Mx.xto {v:World} (M:Mx none { v with heap:=#[] } w R) {gx gc:Nat} {V':VltN} {L:Int} {dd:Bool} {fp:Nat→Prop} (hne:gx≠gc) (h0:look R 0=some (blkR gx 72 #[.slice (some ⟨gc,0,none⟩) 18 18,zI L,.bool dd])) (h1:look R 1=some (blkR gc 63 (celA V'.c s n))) (h2:look R 2=some (zua 0 18 V'.c s n)) (h5:look R 5=some (staysR v gx gc)) (hL:L=zhc V') (hd:dd=V'.dd) (hto:∀ b,zo 18 s n b→fp b∨v.heap.size≤b):XTo v w gx gc fp V':=by
 subst hL hd
 have far:∀ {k g:Nat} {t:TypeId} {a:Array Value},look R k=some (blkR g t a)→k≠2→∀ i,i<18→¬bfp (s i) g∧¬bfp (n i) g:=fun hk hn i hi=>⟨fun e=>M.dis _ 2 _ _ hk h2 hn rfl _ rfl ⟨i,hi,.inl e⟩,fun e=>M.dis _ 2 _ _ hk h2 hn rfl _ rfl ⟨i,hi,.inr e⟩⟩
 have S:=M.at_ 5 _ h5
 exact ⟨⟨s,n,⟨M.hasX h0 h1 h2,hne,fun i hi=>⟨far h0 (by decide) i hi,far h1 (by decide) i hi⟩⟩,hto⟩,S.1,S.2,M.grown.os,M.grown.tape,M.grown.output⟩
def xR (gx gc:Nat) (V:VltN) (s n:Nat→Value):Res:=⟨true,fun b=>b=gx∨b=gc∨zo 18 s n b,fun w=>XOk w gx gc V s n⟩
theorem xR_dep {gx gc:Nat} {V:VltN}:∀ u u',Same (xR gx gc V s n).fp u u'→(xR gx gc V s n).F u→(xR gx gc V s n).F u':=fun u u' hs h=>
 ⟨⟨hs.at_ _ _ (.inl rfl) h.has.hx,hs.at_ _ _ (.inr (.inl rfl)) h.has.hc,fun i hi=>(h.has.hs i hi).same ⟨fun g o hg ho=>hs.at_ g o (.inr (.inr ⟨i,hi,.inl hg⟩)) ho,hs.size⟩,fun i hi=>(h.has.hn i hi).same ⟨fun g o hg ho=>hs.at_ g o (.inr (.inr ⟨i,hi,.inr hg⟩)) ho,hs.size⟩⟩,h.ne,h.far⟩
theorem XOk.lt {gx gc:Nat} {V:VltN} (h:XOk w gx gc V s n):∀ b,(xR gx gc V s n).fp b→b<w.heap.size:=fun b hb=>by
 rcases hb with rfl | rfl | ⟨i,hi,hb | hb⟩
 ·exact z2a h.has.hx
 ·exact z2a h.has.hc
 ·exact (h.has.hs i hi).lt hb
 ·exact (h.has.hn i hi).lt hb
theorem Mx.xOk (M:Mx G w0 w R) {gx gc:Nat} {V:VltN} (h:look R k=some (xR gx gc V s n)):XOk w gx gc V s n:=M.at_ k _ h
theorem Mx.xput (M:Mx G w0 w R) {gx gc:Nat} {V V':VltN} {w':World} (hk:look R k=some (xR gx gc V s n)) (h:XTo w w' gx gc (zo 18 s n) V'):∃ s' n',Mx G w0 w' ((k,xR gx gc V' s' n')::R):=by
 obtain ⟨s',n',ho,hf⟩:=h.ok
 have far:∀ g,g<w.heap.size→¬(xR gx gc V s n).fp g→w'.heap[g]? = w.heap[g]?:=fun g hg hn=>h.stay g (fun e=>hn (.inl e)) (fun e=>hn (.inr (.inl e))) hg
 have hto:∀ b,(xR gx gc V' s' n').fp b→(xR gx gc V s n).fp b∨w.heap.size≤b:=fun b hb=>by
  rcases hb with e | e | e
  ·exact .inl (.inl e)
  ·exact .inl (.inr (.inl e))
  ·exact (hf b e).imp (fun e=>.inr (.inr e)) id
 have keep:∀ j t,look R j=some t→k≠j→Same t.fp w w':=fun j t e hkj=>⟨fun g o hg ho=>(far g ((Array.getElem?_eq_some_iff.1 ho).1) fun e2=>M.dis k j _ t hk e hkj rfl g e2 hg).trans ho,h.size⟩
 refine ⟨s',n',⟨h.os.trans M.grown.os,h.tape.trans M.grown.tape,h.out.trans M.grown.output,Nat.le_trans M.grown.size h.size,fun q hq hn=>(far q (Nat.lt_of_lt_of_le hq M.le) fun e=>?_).trans (M.grown.block q hq hn)⟩,fun j t e=>?_,fun j t e=>?_,fun j t e=>?_,fun j t e ht g hg=>?_,fun j q t u e1 e2 hjq ht g hg hg2=>?_⟩
 ·rcases M.own k _ hk rfl q e with h | h
  ·omega
  ·exact hn h.symm
 ·rw [zx] at e;split at e
  ·cases e;exact ho
  ·rename_i hne;exact M.dep j t e w w' (keep j t e hne) (M.at_ j t e)
 ·rw [zx] at e;split at e
  ·cases e;exact xR_dep
  ·exact M.dep j t e
 ·rw [zx] at e;split at e
  ·cases e;exact ho.lt
  ·exact fun g hg=>Nat.lt_of_lt_of_le (M.lt j t e g hg) h.size
 ·rw [zx] at e;split at e
  ·cases e
   rcases hto g hg with h | h
   ·exact M.own k _ hk rfl g h
   ·exact .inl (Nat.le_trans M.le h)
  ·exact M.own j t e ht g hg
 ·rw [zx] at e1 e2
  by_cases h1:k=j
  ·rw [if_pos h1] at e1;cases e1
   rw [if_neg (fun e=>hjq (h1.symm.trans e))] at e2
   rcases hto g hg with h | h
   ·exact M.dis k q _ u hk e2 (fun e=>hjq (h1.symm.trans e)) rfl g h hg2
   ·have:=M.lt q u e2 g hg2;omega
  ·rw [if_neg h1] at e1
   by_cases h2:k=q
   ·rw [if_pos h2] at e2;cases e2
    rcases hto g hg2 with h | h
    ·exact M.dis k j _ t hk e1 h1 rfl g h hg
    ·have:=M.lt j t e1 g hg;omega
   ·rw [if_neg h2] at e2
    exact M.dis j q t u e1 e2 hjq ht g hg hg2
theorem Mx.xnew (M:Mx G w0 w R) {gx gc:Nat} {V:VltN} {w':World} (k:Nat) (hb:Below w.heap.size w w') (h:XOk w' gx gc V s n) (hx:w.heap.size≤gx) (hc:w.heap.size≤gc) (hr:∀ b,zo 18 s n b→w.heap.size≤b):Mx G w0 w' ((k,xR gx gc V s n)::R):=
 M.fresh hb k _ h xR_dep fun b hb=>⟨hb.elim (fun e=>e▸hx) fun e=>e.elim (fun e=>e▸hc) (hr b),h.lt b hb⟩
end
end
end Go.Proofs.YtmjbnmbobocpdaaGreat
