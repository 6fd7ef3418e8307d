/- What VaultTwice stands on, part 14. -/
import Derived.Test.YtmjbnmbobocpdaaGreatVaultTwiceP1
import Derived.Test.YtmjbnmbobocpdaaGreatVaultTwiceP2
import Derived.Test.YtmjbnmbobocpdaaGreatVaultTwiceP3
import Derived.Test.YtmjbnmbobocpdaaGreatVaultTwiceP4
import Derived.Test.YtmjbnmbobocpdaaGreatVaultTwiceP5
import Derived.Test.YtmjbnmbobocpdaaGreatVaultTwiceP6
import Derived.Test.YtmjbnmbobocpdaaGreatVaultTwiceP7
import Derived.Test.YtmjbnmbobocpdaaGreatVaultTwiceP8
import Derived.Test.YtmjbnmbobocpdaaGreatVaultTwiceP9
import Derived.Test.YtmjbnmbobocpdaaGreatVaultTwiceP10
import Derived.Test.YtmjbnmbobocpdaaGreatVaultTwiceP11
import Derived.Test.YtmjbnmbobocpdaaGreatVaultTwiceP12
import Derived.Test.YtmjbnmbobocpdaaGreatVaultTwiceP13
set_option maxRecDepth 100000
set_option maxHeartbeats 8000000
set_option linter.unusedVariables false
set_option linter.unusedSimpArgs false
namespace Go.Proofs.YtmjbnmbobocpdaaGreat
open Go.ChangeShapes Go.WideShapes Go.ChangeAt Go.RowKit
section
open Go.Shelf
section
theorem cel_putN (c:Nat→CelN) (s n:Nat→Value) (u:Value):∀ {p:Nat},p<18→((celA c s n).toList.take (3*p+1)++(#[u]:Array Value).toList++(celA c s n).toList.drop (3*p+1+(#[u]:Array Value).size)).toArray=celA c s (putN n p u)
 | p,h=>by
  match p,h with
  | 0,_ | 1,_ | 2,_ | 3,_ | 4,_ | 5,_ | 6,_ | 7,_ | 8,_ | 9,_ | 10,_ | 11,_ | 12,_ | 13,_ | 14,_ | 15,_ | 16,_ | 17,_=>show _=_;kernel_rfl
  | k+18,h=>exact absurd h (by omega)
theorem cel_putF (c:Nat→CelN) (s n:Nat→Value) (x y:List UInt8) (b:Bool):∀ {p:Nat},p<18→((celA c s n).toList.take (3*p+2)++(#[.bool b]:Array Value).toList++(celA c s n).toList.drop (3*p+2+(#[.bool b]:Array Value).size)).toArray=celA (putC c p ⟨x,y,b⟩) s n
 | p,h=>by
  match p,h with
  | 0,_ | 1,_ | 2,_ | 3,_ | 4,_ | 5,_ | 6,_ | 7,_ | 8,_ | 9,_ | 10,_ | 11,_ | 12,_ | 13,_ | 14,_ | 15,_ | 16,_ | 17,_=>show _=_;kernel_rfl
  | k+18,h=>exact absurd h (by omega)
end
section
variable {G:Option Nat} {w0 w:World} {R:List (Nat×Res)} {B N i k:Nat} {c c':Nat→CelN} {s n s' n':Nat→Value}
theorem Mx.rowsTo (M:Mx G w0 w R) (h:look R i=some (zua B N c s n)) {l:List UInt8} {u:Value} (hu:look R k=some (ownR l u)) (hB:∀ b,bfp u b→B≤b)
  (hs:∀ j,j<N→((c' j).s=(c j).s∧s' j=s j)∨((c' j).s=l∧s' j=u)∨((c' j).s=[]∧s' j=zN)) (hn:∀ j,j<N→((c' j).n=(c j).n∧n' j=n j)∨((c' j).n=l∧n' j=u)∨((c' j).n=[]∧n' j=zN)):
  Mx G w0 w ((i,zua B N c' s' n')::(k,bytR l u)::R):=by
 have hik:¬k=i:=fun e=>by subst e;rw [h] at hu;cases hu
 have M2:=M.tame hu
 have hsub:∀ b,zq N s' n' b→zq N s n b∨bfp u b:=fun b ⟨j,hj,hb⟩=>by
  rcases hb with hb | hb
  ·rcases hs j hj with ⟨_,e⟩ | ⟨_,e⟩ | ⟨_,e⟩ <;> rw [e] at hb
   ·exact .inl ⟨j,hj,.inl hb⟩
   ·exact .inr hb
   ·exact absurd hb (zsa b)
  ·rcases hn j hj with ⟨_,e⟩ | ⟨_,e⟩ | ⟨_,e⟩ <;> rw [e] at hb
   ·exact .inl ⟨j,hj,.inr hb⟩
   ·exact .inr hb
   ·exact absurd hb (zsa b)
 refine M2.cons i _ (fun j hj=>⟨?_,?_,fun b hb=>?_⟩) rows_dep (fun b hb=>?_) (fun e=>by cases e) fun q t e hq hw b hb hb2=>?_
 ·rcases hs j hj with ⟨e1,e2⟩ | ⟨e1,e2⟩ | ⟨e1,e2⟩ <;> rw [e1,e2]
  ·exact (M.rowsAt h j hj).1
  ·exact M.isO hu
  ·exact zka _
 ·rcases hn j hj with ⟨e1,e2⟩ | ⟨e1,e2⟩ | ⟨e1,e2⟩ <;> rw [e1,e2]
  ·exact (M.rowsAt h j hj).2.1
  ·exact M.isO hu
  ·exact zka _
 ·rcases hb with hb | hb
  ·rcases hs j hj with ⟨_,e⟩ | ⟨_,e⟩ | ⟨_,e⟩ <;> rw [e] at hb
   ·exact (M.rowsAt h j hj).2.2 b (.inl hb)
   ·exact hB b hb
   ·exact absurd hb (zsa b)
  ·rcases hn j hj with ⟨_,e⟩ | ⟨_,e⟩ | ⟨_,e⟩ <;> rw [e] at hb
   ·exact (M.rowsAt h j hj).2.2 b (.inr hb)
   ·exact hB b hb
   ·exact absurd hb (zsa b)
 ·rcases hsub b hb with hb | hb
  ·exact M.lt i _ h b hb
  ·exact (M.isO hu).lt hb
 ·rcases hw with hw | hw
  ·cases hw
  rw [zx] at e
  split at e
  ·cases e;cases hw
  ·rename_i hkq
   rcases hsub b hb with hb | hb
   ·exact M.dis q i t _ e h (fun e2=>hq e2.symm) hw b hb2 hb
   ·exact M.dis q k t _ e hu (fun e2=>hkq e2.symm) hw b hb2 (zwa hb)
def staysR (w:World) (gx gc:Nat):Res:=⟨false,fun g=>(g≠gx∧g≠gc)∧g<w.heap.size,fun u=>w.heap.size≤u.heap.size∧∀ g,g≠gx→g≠gc→g<w.heap.size→u.heap[g]? = w.heap[g]?⟩
theorem staysR_dep {gx gc:Nat}:∀ u u',Same (staysR w gx gc).fp u u'→(staysR w gx gc).F u→(staysR w gx gc).F u':=fun u u' hs h=>⟨Nat.le_trans h.1 hs.size,fun g h1 h2 h3=>by
 have e:=h.2 g h1 h2 h3
 rw [←e]
 have e2:w.heap[g]? = some w.heap[g]:=Array.getElem?_eq_getElem h3
 rw [e2] at e
 rw [e]
 exact hs.at_ g _ ⟨⟨h1,h2⟩,h3⟩ e⟩
theorem Mx.two {gx gc:Nat} {tx tc:TypeId} {a b:Array Value} (hx:w.heap[gx]? = some (.cells a tx (0,0))) (hc:w.heap[gc]? = some (.cells b tc (0,0))) (hne:gx≠gc) (hr:∀ i,i<18→(IsB w (c i).s (s i)∧¬bfp (s i) gx∧¬bfp (s i) gc)∧(IsB w (c i).n (n i)∧¬bfp (n i) gx∧¬bfp (n i) gc)):
  Mx none { w with heap:=#[] } w [(0,blkR gx tx a),(1,blkR gc tc b),(2,zua 0 18 c s n),(5,staysR w gx gc)]:=by
 have M0:Mx none { w with heap:=#[] } w []:=⟨⟨rfl,rfl,rfl,Nat.zero_le _,fun k hk _=>absurd hk (Nat.not_lt_zero k)⟩,fun _ _ h=>(by cases h),fun _ _ h=>(by cases h),fun _ _ h=>(by cases h),fun _ _ h=>(by cases h),fun _ _ _ _ h=>(by cases h)⟩
 have M1:=M0.cons 5 (staysR w gx gc) ⟨Nat.le_refl _,fun _ _ _ _=>rfl⟩ staysR_dep (fun g hg=>hg.2) (fun e=>by cases e) fun k t e=>by cases e
 have M2:=M1.cons 2 (zua 0 18 c s n) (fun i hi=>⟨(hr i hi).1.1,(hr i hi).2.1,fun _ _=>Nat.zero_le _⟩) rows_dep (fun g ⟨j,hj,hg⟩=>hg.elim (fun h=>(hr j hj).1.1.lt h) (fun h=>(hr j hj).2.1.lt h)) (fun e=>by cases e) fun k t e hk hw=>by
  rw [zx] at e
  split at e
  ·cases e;rcases hw with hw | hw <;> cases hw
  ·cases e
 have M3:=M2.cons 1 (blkR gc tc b) hc z4c (fun g hg=>by cases hg;exact z4a hc) (fun _ _ _=>.inl (Nat.zero_le _)) fun k t e hk hw g hg h2=>by
  cases hg
  rw [zx] at e
  split at e
  ·cases e
   obtain ⟨j,hj,h⟩:=h2
   rcases h with h | h
   ·exact (hr j hj).1.2.2 h
   ·exact (hr j hj).2.2.2 h
  ·rw [zx] at e
   split at e
   ·cases e;exact h2.1.2 rfl
   ·cases e
 exact M3.cons 0 (blkR gx tx a) hx z4c (fun g hg=>by cases hg;exact z4a hx) (fun _ _ _=>.inl (Nat.zero_le _)) fun k t e hk hw g hg h2=>by
  cases hg
  rw [zx] at e
  split at e
  ·cases e;exact hne h2
  ·rw [zx] at e
   split at e
   ·cases e
    obtain ⟨j,hj,h⟩:=h2
    rcases h with h | h
    ·exact (hr j hj).1.2.1 h
    ·exact (hr j hj).2.2.1 h
   ·rw [zx] at e
    split at e
    ·cases e;exact h2.1.1 rfl
    ·cases e
theorem Mx.hasX (M:Mx G w0 w R) {gx gc kx kc kr:Nat} {V:VltN} {L:Int} (hx:look R kx=some (blkR gx 72 #[.slice (some ⟨gc,0,none⟩) 18 18,zI L,.bool V.dd])) (hc:look R kc=some (blkR gc 63 (celA V.c s n))) (hr:look R kr=some (zua 0 18 V.c s n)):HasX w gx gc V L s n:=
 ⟨M.blk hx,M.blk hc,fun i hi=>M.rowsS hr hi,fun i hi=>M.rowsN hr hi⟩
structure XOk (w:World) (gx gc:Nat) (V:VltN) (s n:Nat→Value):Prop where
 has:HasX w gx gc V (leftR V) s n
 ne:gx≠gc
 far:∀ i,i<18→(¬bfp (s i) gx∧¬bfp (n i) gx)∧¬bfp (s i) gc∧¬bfp (n i) gc
structure XTo (w w':World) (gx gc:Nat) (fp:Nat→Prop) (V':VltN):Prop where
 ok:∃ s' n',XOk w' gx gc V' s' n'∧∀ b,zq 18 s' n' b→fp b∨w.heap.size≤b
 size:w.heap.size≤w'.heap.size
 stay:∀ g,g≠gx→g≠gc→g<w.heap.size→w'.heap[g]? = w.heap[g]?
 os:w'.os=w.os
 tape:w'.tape=w.tape
 out:w'.output=w.output
theorem XTo.before {w w1 w':World} {gx gc:Nat} {fp:Nat→Prop} {V':VltN} (hb:Below w.heap.size w w1) (h:XTo w1 w' gx gc fp V'):XTo w w' gx gc fp V':=
 ⟨h.ok.elim fun s' h=>h.elim fun n' h=>⟨s',n',h.1,fun b hb'=>(h.2 b hb').imp id (Nat.le_trans hb.size)⟩,Nat.le_trans hb.size h.size,fun g h1 h2 h3=>(h.stay g h1 h2 (Nat.lt_of_lt_of_le h3 hb.size)).trans (hb.block g h3),h.os.trans hb.os,h.tape.trans hb.tape,h.out.trans hb.output⟩
theorem XOk.to {w w':World} {gx gc:Nat} {V:VltN} {s n:Nat→Value} (h:XOk w gx gc V s n) (hb:Below w.heap.size w w'):XTo w w' gx gc (zq 18 s n) V:=
 ⟨⟨s,n,⟨h.has.step hb,h.ne,h.far⟩,fun b hb=>.inl hb⟩,hb.size,fun g _ _ h3=>hb.block g h3,hb.os,hb.tape,hb.output⟩
theorem XOk.step {w w':World} {gx gc:Nat} {V:VltN} {s n:Nat→Value} (h:XOk w gx gc V s n) (hb:Below w.heap.size w w'):XOk w' gx gc V s n:=⟨h.has.step hb,h.ne,h.far⟩
theorem XOk.two {gx gc:Nat} {V:VltN} (h:XOk w gx gc V s n):Mx none { w with heap:=#[] } w [(0,blkR gx 72 #[.slice (some ⟨gc,0,none⟩) 18 18,zI (leftR V),.bool V.dd]),(1,blkR gc 63 (celA V.c s n)),(2,zua 0 18 V.c s n),(5,staysR w gx gc)]:=
 Mx.two h.has.hx h.has.hc h.ne fun i hi=>⟨⟨h.has.hs i hi,(h.far i hi).1.1,(h.far i hi).2.1⟩,h.has.hn i hi,(h.far i hi).1.2,(h.far i hi).2.2⟩
theorem Mx.newU {v:World} (M:Mx G w0 w R) {l:List UInt8} {u:Value} {gx gc:Nat} {tx tc:TypeId} {a b:Array Value} (hu:look R k=some (ownR l u)) (h0:look R 0=some (blkR gx tx a)) (h1:look R 1=some (blkR gc tc b)) (h5:look R 5=some (staysR v gx gc)) (hk:¬k=0∧¬k=1∧¬k=5):∀ q,bfp u q→v.heap.size≤q:=fun q hq=>by
 have e0:q≠gx:=fun e=>M.dis k 0 _ _ hu h0 hk.1 rfl q (zwa hq) e
 have e1:q≠gc:=fun e=>M.dis k 1 _ _ hu h1 hk.2.1 rfl q (zwa hq) e
 exact Nat.le_of_not_lt fun e=>M.dis k 5 _ _ hu h5 hk.2.2 rfl q (zwa hq) ⟨⟨e0,e1⟩,e⟩
theorem Mx.xto {v:World} (M:Mx none { v with heap:=#[] } w R) {gx gc:Nat} {V':VltN} {L:Int} {dd:Bool} {fp:Nat→Prop} (hne:gx≠gc) (h0:look R 0=some (blkR gx 72 #[.slice (some ⟨gc,0,none⟩) 18 18,zI L,.bool dd])) (h1:look R 1=some (blkR gc 63 (celA V'.c s n))) (h2:look R 2=some (zua 0 18 V'.c s n)) (h5:look R 5=some (staysR v gx gc)) (hL:L=leftR V') (hd:dd=V'.dd) (hto:∀ b,zq 18 s n b→fp b∨v.heap.size≤b):XTo v w gx gc fp V':=by
 subst hL hd
 have far:∀ {k g:Nat} {t:TypeId} {a:Array Value},look R k=some (blkR g t a)→k≠2→∀ i,i<18→¬bfp (s i) g∧¬bfp (n i) g:=fun hk hn i hi=>⟨fun e=>M.dis _ 2 _ _ hk h2 hn rfl _ rfl ⟨i,hi,.inl e⟩,fun e=>M.dis _ 2 _ _ hk h2 hn rfl _ rfl ⟨i,hi,.inr e⟩⟩
 have S:=M.at_ 5 _ h5
 exact ⟨⟨s,n,⟨M.hasX h0 h1 h2,hne,fun i hi=>⟨far h0 (by decide) i hi,far h1 (by decide) i hi⟩⟩,hto⟩,S.1,S.2,M.grown.os,M.grown.tape,M.grown.output⟩
def xR (gx gc:Nat) (V:VltN) (s n:Nat→Value):Res:=⟨true,fun b=>b=gx∨b=gc∨zq 18 s n b,fun w=>XOk w gx gc V s n⟩
theorem xR_dep {gx gc:Nat} {V:VltN}:∀ u u',Same (xR gx gc V s n).fp u u'→(xR gx gc V s n).F u→(xR gx gc V s n).F u':=fun u u' hs h=>
 ⟨⟨hs.at_ _ _ (.inl rfl) h.has.hx,hs.at_ _ _ (.inr (.inl rfl)) h.has.hc,fun i hi=>(h.has.hs i hi).same ⟨fun g o hg ho=>hs.at_ g o (.inr (.inr ⟨i,hi,.inl hg⟩)) ho,hs.size⟩,fun i hi=>(h.has.hn i hi).same ⟨fun g o hg ho=>hs.at_ g o (.inr (.inr ⟨i,hi,.inr hg⟩)) ho,hs.size⟩⟩,h.ne,h.far⟩
theorem XOk.lt {gx gc:Nat} {V:VltN} (h:XOk w gx gc V s n):∀ b,(xR gx gc V s n).fp b→b<w.heap.size:=fun b hb=>by
 rcases hb with rfl | rfl | ⟨i,hi,hb | hb⟩
 ·exact z4a h.has.hx
 ·exact z4a h.has.hc
 ·exact (h.has.hs i hi).lt hb
 ·exact (h.has.hn i hi).lt hb
theorem Mx.xOk (M:Mx G w0 w R) {gx gc:Nat} {V:VltN} (h:look R k=some (xR gx gc V s n)):XOk w gx gc V s n:=M.at_ k _ h
theorem Mx.xput (M:Mx G w0 w R) {gx gc:Nat} {V V':VltN} {w':World} (hk:look R k=some (xR gx gc V s n)) (h:XTo w w' gx gc (zq 18 s n) V'):∃ s' n',Mx G w0 w' ((k,xR gx gc V' s' n')::R):=by
 obtain ⟨s',n',ho,hf⟩:=h.ok
 have far:∀ g,g<w.heap.size→¬(xR gx gc V s n).fp g→w'.heap[g]? = w.heap[g]?:=fun g hg hn=>h.stay g (fun e=>hn (.inl e)) (fun e=>hn (.inr (.inl e))) hg
 have hto:∀ b,(xR gx gc V' s' n').fp b→(xR gx gc V s n).fp b∨w.heap.size≤b:=fun b hb=>by
  rcases hb with e | e | e
  ·exact .inl (.inl e)
  ·exact .inl (.inr (.inl e))
  ·exact (hf b e).imp (fun e=>.inr (.inr e)) id
 have keep:∀ j t,look R j=some t→k≠j→Same t.fp w w':=fun j t e hkj=>⟨fun g o hg ho=>(far g ((Array.getElem?_eq_some_iff.1 ho).1) fun e2=>M.dis k j _ t hk e hkj rfl g e2 hg).trans ho,h.size⟩
 refine ⟨s',n',⟨h.os.trans M.grown.os,h.tape.trans M.grown.tape,h.out.trans M.grown.output,Nat.le_trans M.grown.size h.size,fun q hq hn=>(far q (Nat.lt_of_lt_of_le hq M.le) fun e=>?_).trans (M.grown.block q hq hn)⟩,fun j t e=>?_,fun j t e=>?_,fun j t e=>?_,fun j t e ht g hg=>?_,fun j q t u e1 e2 hjq ht g hg hg2=>?_⟩
 ·rcases M.own k _ hk rfl q e with h | h
  ·omega
  ·exact hn h.symm
 ·rw [zx] at e;split at e
  ·cases e;exact ho
  ·rename_i hne;exact M.dep j t e w w' (keep j t e hne) (M.at_ j t e)
 ·rw [zx] at e;split at e
  ·cases e;exact xR_dep
  ·exact M.dep j t e
 ·rw [zx] at e;split at e
  ·cases e;exact ho.lt
  ·exact fun g hg=>Nat.lt_of_lt_of_le (M.lt j t e g hg) h.size
 ·rw [zx] at e;split at e
  ·cases e
   rcases hto g hg with h | h
   ·exact M.own k _ hk rfl g h
   ·exact .inl (Nat.le_trans M.le h)
  ·exact M.own j t e ht g hg
 ·rw [zx] at e1 e2
  by_cases h1:k=j
  ·rw [if_pos h1] at e1;cases e1
   rw [if_neg (fun e=>hjq (h1.symm.trans e))] at e2
   rcases hto g hg with h | h
   ·exact M.dis k q _ u hk e2 (fun e=>hjq (h1.symm.trans e)) rfl g h hg2
   ·have:=M.lt q u e2 g hg2;omega
  ·rw [if_neg h1] at e1
   by_cases h2:k=q
   ·rw [if_pos h2] at e2;cases e2
    rcases hto g hg2 with h | h
    ·exact M.dis k j _ t hk e1 h1 rfl g h hg
    ·have:=M.lt j t e1 g hg;omega
   ·rw [if_neg h2] at e2
    exact M.dis j q t u e1 e2 hjq ht g hg hg2
theorem Mx.xnew (M:Mx G w0 w R) {gx gc:Nat} {V:VltN} {w':World} (k:Nat) (hb:Below w.heap.size w w') (h:XOk w' gx gc V s n) (hx:w.heap.size≤gx) (hc:w.heap.size≤gc) (hr:∀ b,zq 18 s n b→w.heap.size≤b):Mx G w0 w' ((k,xR gx gc V s n)::R):=
 M.fresh hb k _ h xR_dep fun b hb=>⟨hb.elim (fun e=>e▸hx) fun e=>e.elim (fun e=>e▸hc) (hr b),h.lt b hb⟩
end
end
theorem lay_rs (V:VltN) (N:Nat) (sb:List UInt8) (u:Value) (s:Nat→Value):∀ j,j<18→(((z4b V N sb).c j).s=(V.c j).s∧s j=s j)∨(((z4b V N sb).c j).s=sb∧s j=u)∨(((z4b V N sb).c j).s=[]∧s j=zN):=fun j _=>by
 rw [show (z4b V N sb).c=putC V.c N ⟨(V.c N).s,sb,true⟩ from rfl]
 by_cases e:j=N
 ·subst e;exact .inl ⟨by rw [zhb],rfl⟩
 ·exact .inl ⟨by rw [zlb _ _ e],rfl⟩
theorem lay_rn (V:VltN) (N:Nat) (sb:List UInt8) (u:Value) (n:Nat→Value):∀ j,j<18→(((z4b V N sb).c j).n=(V.c j).n∧putN n N u j=n j)∨(((z4b V N sb).c j).n=sb∧putN n N u j=u)∨(((z4b V N sb).c j).n=[]∧putN n N u j=zN):=fun j _=>by
 rw [show (z4b V N sb).c=putC V.c N ⟨(V.c N).s,sb,true⟩ from rfl]
 by_cases e:j=N
 ·subst e;exact .inr (.inl ⟨by rw [zhb],putN_at ..⟩)
 ·exact .inl ⟨by rw [zlb _ _ e],if_neg e⟩
theorem keep_c (V:VltN) (N:Nat) (sb:List UInt8):(keepV (z4b V N sb) N).c=putC (putC V.c N ⟨(V.c N).s,sb,true⟩) N ⟨sb,[],false⟩:=by
 unfold keepV z4b
 dsimp only
 rw [zhb]
theorem keep_rs (V:VltN) (N:Nat) (sb:List UInt8) (u:Value) (s:Nat→Value):∀ j,j<18→((putC (putC V.c N ⟨(V.c N).s,sb,true⟩) N ⟨sb,[],false⟩ j).s=(V.c j).s∧putN s N u j=s j)∨((putC (putC V.c N ⟨(V.c N).s,sb,true⟩) N ⟨sb,[],false⟩ j).s=sb∧putN s N u j=u)∨((putC (putC V.c N ⟨(V.c N).s,sb,true⟩) N ⟨sb,[],false⟩ j).s=[]∧putN s N u j=zN):=fun j _=>by
 by_cases e:j=N
 ·subst e;exact .inr (.inl ⟨by rw [zhb],putN_at ..⟩)
 ·exact .inl ⟨by rw [zlb _ _ e,zlb _ _ e],if_neg e⟩
theorem keep_rn (V:VltN) (N:Nat) (sb:List UInt8) (u:Value) (n:Nat→Value):∀ j,j<18→((putC (putC V.c N ⟨(V.c N).s,sb,true⟩) N ⟨sb,[],false⟩ j).n=(V.c j).n∧putN (putN n N u) N (zN) j=n j)∨((putC (putC V.c N ⟨(V.c N).s,sb,true⟩) N ⟨sb,[],false⟩ j).n=sb∧putN (putN n N u) N (zN) j=u)∨((putC (putC V.c N ⟨(V.c N).s,sb,true⟩) N ⟨sb,[],false⟩ j).n=[]∧putN (putN n N u) N (zN) j=zN):=fun j _=>by
 by_cases e:j=N
 ·subst e;exact .inr (.inr ⟨by rw [zhb],putN_at ..⟩)
 ·exact .inl ⟨by rw [zlb _ _ e,zlb _ _ e],(if_neg e).trans (if_neg e)⟩
theorem cel_off {R:List (Nat×Res)} {i g:Nat} {T:TypeId} {b:Bool} {x x2 y:Array Value} (hb:b=false) (h:look R i=some (blkR g T (cond b x y))):look R i=some (blkR g T (cond b x2 y)):=by subst hb;exact h
theorem rstep_is (gx gc:Nat) (L:Int) (dd:Bool) (hd:dd=false) (b:Bool) (hb:(!decide (L=0))=b) (hL3:L<9223372036854775808) (w:World) (hx:w.heap[gx]? = some (.cells (#[.slice (some ⟨gc,0,none⟩) 18 18,zI L,.bool dd]) 72 (0,0))):
  Calls Tryz.prog 82 #[(zO gx)] w fun e w'=>∃ t,e=.returned t∧t=.bool b∧w'.heap[gx]? = some (.cells (#[.slice (some ⟨gc,0,none⟩) 18 18,zI (stpL L),.bool (!b)]) 72 (0,0))∧w.grownBy w' (some gx):=by
 subst hd hb
 rw [Bool.not_not]
 exact rstep_any gx gc L hL3 w hx
theorem put_fp {v:World} {s n s' n':Nat→Value} {u:Value} (hu:∀ q,bfp u q→v.heap.size≤q) {N:Nat} (hs:s'=s∨s'=putN s N u) (hn:n'=putN (putN n N u) N (zN)∨n'=putN n N u):∀ b,zq 18 s' n' b→zq 18 s n b∨v.heap.size≤b:=fun b ⟨i,hi,hb⟩=>by
 have e:∀ {f:Nat→Value} {x:Value},bfp (putN f N x i) b→bfp x b∨bfp (f i) b:=fun {f x} h=>by
  unfold putN at h
  split at h
  ·exact .inl h
  ·exact .inr h
 rcases hb with hb | hb
 ·rcases hs with rfl | rfl
  ·exact .inl ⟨i,hi,.inl hb⟩
  ·exact (e hb).elim (fun h=>.inr (hu b h)) fun h=>.inl ⟨i,hi,.inl h⟩
 ·rcases hn with rfl | rfl
  ·exact (e hb).elim (fun h=>absurd h (zsa b)) fun h=>(e h).elim (fun h=>.inr (hu b h)) fun h=>.inl ⟨i,hi,.inr h⟩
  ·exact (e hb).elim (fun h=>.inr (hu b h)) fun h=>.inl ⟨i,hi,.inr h⟩
theorem xwrite_any (gx gc:Nat) {K:Nat} (V:VltN) (s n:Nat→Value) (hi:InvV K V) (hK:K<255) (hL:LeftOk V) (hdd:V.dd=false) (p:Nat) (hp:p<9) (l:List UInt8) (lv:Value) (hl:l.length≤1000) (w:World) (h:XOk w gx gc V s n) (hB:IsB w l lv) (hlv:∀ b,bfp lv b→b≠gx∧b≠gc):
  Calls Tryz.prog 55 #[(zO gx),zI (p:Int),lv] w fun e w'=>∃ t,e=.returned t∧t=zI (if (sayW V (2*p) l).2=true then 0 else 10)∧XTo w w' gx gc (zq 18 s n) (sayW V (2*p) l).1:=by
 have hi:=hi
 obtain ⟨L,hLv⟩:∃ x,leftR V=x:=⟨_,rfl⟩
 have hL3:L<9223372036854775808:=hLv▸left_lt hL
 obtain ⟨ca,ct,cl,hC⟩:∃ a t l,cntR V (2*p) 2=(a,t,l):=⟨_,_,_,rfl⟩
 have hnx:=nxt_cnt hC
 have hnb:=nxtT_bd hi (2*p)
 have hnp:=nxtP_in V (2*p)
 obtain ⟨T,hT⟩:∃ T:Nat,ct+1=(T:Int):=⟨(ct+1).toNat,by omega⟩
 obtain ⟨b1,hb1⟩:∃ x,(!decide (L=0))=x:=⟨_,rfl⟩
 have hS3:stpL L<9223372036854775808:=by unfold stpL;split <;> omega
 obtain ⟨b2,hb2⟩:∃ x,(!decide (stpL L=0))=x:=⟨_,rfl⟩
 refine zj (args:=[(zO gx),zI (p:Int),lv]) 65 Tryz.func55 rfl rfl rfl ?_
 intro fa F
 have M:=(h.two.part 3 (bytR l lv) hB z5b rfl (k:=5) rfl rfl (fun b hb=>⟨hlv b hb,hB.lt hb⟩))
 rw [hLv,hdd] at M
 refine zT fun _ hK1=>rm rfl F fun _ F2=>hK1 _ _ (zT fun _ hK3=>rm rfl F2 fun _ F4=>rm rfl F4 fun _ F5=>zf rfl rfl F5 rfl rfl (zE Tryz.func62 rfl) #[(zO gx),zI (p:Int)] (zea (F5 12 rfl) (F5 13 rfl)) (rcounts_is gx gc V L s n hi p hp hC w (M.hasX (kx:=0) (kc:=1) (kr:=2) (by rw [hdd];rfl) rfl rfl)) ?_)
 rintro _ w6 a6 ⟨S6,rfl,hS6,b6⟩ F6
 have M6:=M.step b6
 refine zB 7 [(0,(zO gx)),(1,zI (p:Int)),(2,lv),(6,zI 0),(7,zI ca),(8,zI ct)] [] dnil [] F6 fun _ F7=>?_
 refine hK3 _ _ (zT fun _ hK8=>rm rfl F7 fun _ F9=>zc (w':=w6) rfl rfl F9 rfl (zI ((2*p:Nat):Int)) (y_mulI _ _ _ _ rfl rfl (F9 18 rfl) (by omega) (by omega)) fun _ F10=>?_)
 refine rm rfl F10 fun _ F11=>hK8 _ _ (zSk fun K12 hK12=>?_)
 have J12:∀ (N:Nat) (aJ:Act) (wJ:World),(nxtP V (2*p)=N)→Fx 65 aJ [(0,(zO gx)),(1,zI (p:Int)),(2,lv),(8,zI ct),(10,zI (N:Int))]→Mx none ({ w with heap:=#[] }:World) wJ [(0,blkR gx 72 (#[.slice (some ⟨gc,0,none⟩) 18 18,zI L,.bool false])),(1,blkR gc 63 (celA V.c s n)),(2,zua 0 18 V.c s n),(3,bytR l lv),(5,staysR w gx gc)]→K12 aJ wJ:=by
  intro N a12 w12 I12 F12 M12
  refine hK12 _ _ ?_
  have hN:=I12
  have hN18:N<18:=by omega
  obtain ⟨sb,hsb⟩:∃ x,zza zo N (T:Int) l=x:=⟨_,rfl⟩
  have hsv:zza zo N (nxtT V (2*p)) l=sb:=by rw [hnx.2,hT];exact hsb
  refine zSk fun _ hK13=>zT fun _ hK14=>rm rfl F12 fun _ F15=>zf rfl rfl F15 rfl rfl (zE Tryz.func82 rfl) #[(zO gx)] (zy (F15 25 rfl)) (rstep_is gx gc L false rfl b1 hb1 hL3 w12 (M12.blk (k:=0) rfl)) ?_
  rintro _ w16 a16 ⟨rfl,hc16,hg16⟩ F16
  have M16:=M12.put (k:=0) rfl hg16 hc16
  clear M12 hg16 hc16
  cases b1
  ·refine zc (w':=w16) rfl rfl F16 rfl (.bool true) (zib _ _ rfl (F16 26 rfl)) fun _ F17=>?_
   refine hK14 _ _ (wp_cond_true (F17 27 rfl) (zT fun _ hK18=>rm rfl F17 fun _ F19=>hK18 _ _ (wp_ret ?_)))
   try simp only [Exit.then,Exit.inBlock,Exit.jump]
   exact bodyPost_ret (res1 rfl (F19.get rfl)) F19.defers ⟨_,rfl,(by
    have hL0:L=0:=by simpa using hb1
    have hf1:zbc V=true:=by rw [left_fall,hLv,hL0];rfl
    rw [say_1 hf1]
    exact ⟨rfl,M16.xto h.ne rfl rfl rfl rfl (by rw [show leftR (deadV V)=leftR V from rfl,hLv,hL0];rfl) rfl fun b hb=>.inl hb⟩)⟩
  ·refine zc (w':=w16) rfl rfl F16 rfl (.bool false) (zib _ _ rfl (F16 26 rfl)) fun _ F20=>?_
   refine hK14 _ _ (wp_cond_false (F20 27 rfl) (wp_skip (hK13 _ _ (zSk fun _ hK21=>?_))))
   refine zya F20 [fun vE=>vE=(zO gx),fun vE=>vE=(zO gx),fun vE=>vE=(zO gx),fun vE=>vE=.slice (some ⟨gc,0,none⟩) 18 18,fun vE=>vE=zI (N:Int),fun vE=>vE=(zO gx),fun vE=>vE=(zO gx),fun vE=>vE=(zO gx),fun vE=>vE=.slice (some ⟨gc,0,none⟩) 18 18,fun vE=>vE=zI (N:Int),fun vE=>vE=zI (N:Int),fun vE=>vE=zI ct,fun vE=>vE=zI (T:Int),fun vE=>vE=lv,fun _=>True,fun vE=>vE=(zP gc (3*N)),fun vE=>vE=(zP gc (3*N+1)),fun vE=>vE=undef] (JM none ({ w with heap:=#[] }:World) fun SV pV=>[(0,blkR gx 72 (#[.slice (some ⟨gc,0,none⟩) 18 18,zI (stpL L),.bool false])),(1,blkR gc 63 (cond (SV 17) ((celA V.c s (putN n N ((pV 14))))) (celA V.c s n))),(2,zua 0 18 V.c s n),(3,bytR l lv),(5,staysR w gx gc),(6,zab (SV 14) (ownR sb (pV 14)))]) 18 rfl (by kernel_rfl) rfl ⟨trivial,trivial,trivial,trivial,trivial,trivial,trivial,trivial,trivial,trivial,trivial,trivial,trivial,trivial,trivial,trivial,trivial,fun _=>Iff.rfl,trivial⟩ (fun p=>((M16.step (zra _)).triv 6).sub ⟨rfl,rfl,rfl,rfl,rfl,rfl,trivial⟩) ⟨?_,?_,?_,?_,?_,?_,?_,?_,?_,?_,?_,?_,?_,?_,?_,?_,?_,?_,trivial⟩ ?_
   ·intro ua uw SV pV M0 hk hn hd
    have M:Mx none ({ w with heap:=#[] }:World) uw _:=M0
    have e0:ua.eval (.tmp 0)=(zO gx):=(show ua.eval (.tmp 0)=_ from hd 0 (by decide)).trans (F20 0 rfl)
    exact zg rfl (zO gx) (zpa _ (.inl rfl) e0) rfl (M.sb)
   ·intro ua uw SV pV M0 hk hn hd
    have M:Mx none ({ w with heap:=#[] }:World) uw _:=M0
    have e28:ua.eval (.tmp 28)=(zO gx):=zQ1 (hd 28 (by decide))
    exact zg rfl (zO gx) (by unfold execOp;simp only [e28];kernel_rfl) rfl (M.sb)
   ·intro ua uw SV pV M0 hk hn hd
    have M:Mx none ({ w with heap:=#[] }:World) uw _:=M0
    have e29:ua.eval (.tmp 29)=(zO gx):=zQ1 (hd 29 (by decide))
    exact zg rfl (zO gx) (y_fa (off:=0) rfl e29 (by kernel_rfl) rfl) rfl (M.sb)
   ·intro ua uw SV pV M0 hk hn hd
    have M:Mx none ({ w with heap:=#[] }:World) uw _:=M0
    have e30:ua.eval (.tmp 30)=(zO gx):=zQ1 (hd 30 (by decide))
    exact zg rfl (.slice (some ⟨gc,0,none⟩) 18 18) (zda _ _ rfl e30 (M.blk (k:=0) rfl) rfl Tryz.underlying49 rfl) rfl (M.sb)
   ·intro ua uw SV pV M0 hk hn hd
    have M:Mx none ({ w with heap:=#[] }:World) uw _:=M0
    have e10:ua.eval (.tmp 10)=zI (N:Int):=(show ua.eval (.tmp 10)=_ from hd 10 (by decide)).trans (F20 10 rfl)
    exact zg rfl (zI (N:Int)) (zpa _ (.inl rfl) e10) rfl (M.sb)
   ·intro ua uw SV pV M0 hk hn hd
    have M:Mx none ({ w with heap:=#[] }:World) uw _:=M0
    have e0:ua.eval (.tmp 0)=(zO gx):=(show ua.eval (.tmp 0)=_ from hd 0 (by decide)).trans (F20 0 rfl)
    exact zg rfl (zO gx) (zpa _ (.inl rfl) e0) rfl (M.sb)
   ·intro ua uw SV pV M0 hk hn hd
    have M:Mx none ({ w with heap:=#[] }:World) uw _:=M0
    have e33:ua.eval (.tmp 33)=(zO gx):=zQ1 (hd 33 (by decide))
    exact zg rfl (zO gx) (by unfold execOp;simp only [e33];kernel_rfl) rfl (M.sb)
   ·intro ua uw SV pV M0 hk hn hd
    have M:Mx none ({ w with heap:=#[] }:World) uw _:=M0
    have e34:ua.eval (.tmp 34)=(zO gx):=zQ1 (hd 34 (by decide))
    exact zg rfl (zO gx) (y_fa (off:=0) rfl e34 (by kernel_rfl) rfl) rfl (M.sb)
   ·intro ua uw SV pV M0 hk hn hd
    have M:Mx none ({ w with heap:=#[] }:World) uw _:=M0
    have e35:ua.eval (.tmp 35)=(zO gx):=zQ1 (hd 35 (by decide))
    exact zg rfl (.slice (some ⟨gc,0,none⟩) 18 18) (zda _ _ rfl e35 (M.blk (k:=0) rfl) rfl Tryz.underlying49 rfl) rfl (M.sb)
   ·intro ua uw SV pV M0 hk hn hd
    have M:Mx none ({ w with heap:=#[] }:World) uw _:=M0
    have e10:ua.eval (.tmp 10)=zI (N:Int):=(show ua.eval (.tmp 10)=_ from hd 10 (by decide)).trans (F20 10 rfl)
    exact zg rfl (zI (N:Int)) (zpa _ (.inl rfl) e10) rfl (M.sb)
   ·intro ua uw SV pV M0 hk hn hd
    have M:Mx none ({ w with heap:=#[] }:World) uw _:=M0
    have e10:ua.eval (.tmp 10)=zI (N:Int):=(show ua.eval (.tmp 10)=_ from hd 10 (by decide)).trans (F20 10 rfl)
    exact zg rfl (zI (N:Int)) (zpa _ (.inl rfl) e10) rfl (M.sb)
   ·intro ua uw SV pV M0 hk hn hd
    have M:Mx none ({ w with heap:=#[] }:World) uw _:=M0
    have e8:ua.eval (.tmp 8)=zI ct:=(show ua.eval (.tmp 8)=_ from hd 8 (by decide)).trans (F20 8 rfl)
    exact zg rfl (zI ct) (zpa _ (.inl rfl) e8) rfl (M.sb)
   ·intro ua uw SV pV M0 hk hn hd
    have M:Mx none ({ w with heap:=#[] }:World) uw _:=M0
    have e39:ua.eval (.tmp 39)=zI ct:=zQ1 (hd 39 (by decide))
    exact zg rfl (zI (T:Int)) (zja _ _ _ _ rfl e39 rfl (by omega) (by omega)) rfl (M.sb)
   ·intro ua uw SV pV M0 hk hn hd
    have M:Mx none ({ w with heap:=#[] }:World) uw _:=M0
    have e2:ua.eval (.tmp 2)=lv:=(show ua.eval (.tmp 2)=_ from hd 2 (by decide)).trans (F20 2 rfl)
    exact zg rfl (lv) (zpa _ (.inl rfl) e2) rfl (M.sb)
   ·intro ua uw SV pV M0 hk hn hd
    have M:Mx none ({ w with heap:=#[] }:World) uw _:=M0
    have e38:ua.eval (.tmp 38)=zI (N:Int):=zQ1 (hd 38 (by decide))
    have e40:ua.eval (.tmp 40)=zI (T:Int):=zQ1 (hd 40 (by decide))
    have e41:ua.eval (.tmp 41)=lv:=zQ1 (hd 41 (by decide))
    exact z6a rfl rfl #[zI (N:Int),zI (T:Int),lv] (args3 e38 e40 e41) (zE Tryz.func83 rfl) (((hsb▸rsaid_any N T hN18 (by omega) l lv hl uw (M.isb (k:=3) rfl))).mono fun e w2 h=>(by obtain ⟨u,h1,h2,h3⟩:=h;exact ⟨u,h1,trivial,(M.newO h3 6 h2).sub ⟨rfl,(cel_off (hn 17 (by kernel_rfl)) rfl),rfl,rfl,rfl,rfl,trivial⟩⟩))
   ·intro ua uw SV pV M0 hk hn hd
    have M:Mx none ({ w with heap:=#[] }:World) uw _:=M0
    have e31:ua.eval (.tmp 31)=.slice (some ⟨gc,0,none⟩) 18 18:=zQ1 (hd 31 (by decide))
    have e32:ua.eval (.tmp 32)=zI (N:Int):=zQ1 (hd 32 (by decide))
    exact zg rfl (zP gc (3*N)) (zjc 49 (s:=3) Tryz.underlying49 (by kernel_rfl) _ _ rfl e31 e32 rfl hN18 (by omega)) rfl (M.sb)
   ·intro ua uw SV pV M0 hk hn hd
    have M:Mx none ({ w with heap:=#[] }:World) uw _:=M0
    have e43:ua.eval (.tmp 43)=(zP gc (3*N)):=zQ1 (hd 43 (by decide))
    exact zg rfl (zP gc (3*N+1)) (y_fa (off:=1) rfl e43 (by kernel_rfl) rfl) rfl (M.sb)
   ·intro ua uw SV pV M0 hk hn hd
    have M:Mx none ({ w with heap:=#[] }:World) uw _:=M0
    have e44:ua.eval (.tmp 44)=(zP gc (3*N+1)):=zQ1 (hd 44 (by decide))
    obtain ⟨s14,f42,q42⟩:=(show SV 14=true∧ua.eval (.tmp 42)=pV 14∧stE _ 14 (pV 14) from hd 42 (by decide))
    have e42:ua.eval (.tmp 42)=(pV 14):=f42
    exact hopM_doM rfl rfl (run_st M (k:=1) rfl _ _ _ rfl e44 e42 (#[(pV 14)]) ((celA V.c s (putN n N ((pV 14))))) (cells_slcB (M.isO (k:=6) (z3a s14 rfl))) (by rw [hk];show 3*N+1+1≤54;omega) (one_slcB (M.isO (k:=6) (z3a s14 rfl))) (by rw [hk];exact (cel_putN V.c s n ((pV 14)) hN18)) (by kernel_rfl)) (fun w2 h2=>h2.sub ⟨rfl,rfl,rfl,rfl,rfl,rfl,trivial⟩) rfl
   intro p22 a22 w22 M22 G22 y22
   obtain ⟨-,-,-,-,-,-,-,-,q8,q9,-,-,-,-,-,-,-,-,-⟩:=y22
   have r8:p22 8=.slice (some ⟨gc,0,none⟩) 18 18:=q8
   have r9:p22 9=zI (N:Int):=q9
   replace M22:Mx _ _ w22 [(0,blkR gx 72 (#[.slice (some ⟨gc,0,none⟩) 18 18,zI (stpL L),.bool false])),(1,blkR gc 63 (celA V.c s (putN n N ((p22 14))))),(2,zua 0 18 V.c s n),(3,bytR l lv),(5,staysR w gx gc),(6,zab true (ownR sb (p22 14)))]:=M22
   simp only [List.take,layV,Nat.zero_add,Nat.reduceAdd,r8,r9] at G22
   refine zc (w':=w22) rfl rfl G22 rfl (zP gc (3*N)) (zjc 49 (s:=3) Tryz.underlying49 (by kernel_rfl) _ _ rfl (G22 36 rfl) (G22 37 rfl) rfl hN18 (by omega)) fun _ F23=>?_
   clear G22
   refine zc (w':=w22) rfl rfl F23 rfl (zP gc (3*N+2)) (y_fa (off:=2) rfl (F23 45 rfl) (by kernel_rfl) rfl) fun _ F24=>?_
   refine zu rfl rfl F24 M22 (k:=1) rfl _ _ _ rfl (F24 46 rfl) rfl (#[.bool true]) ((celA (putC V.c N ⟨(V.c N).s,sb,true⟩) s (putN n N ((p22 14))))) rfl (show 3*N+2+1≤54 by omega) (by simp [Value.oneCell']) (cel_putF V.c s (putN n N ((p22 14))) (V.c N).s sb true hN18) (by kernel_rfl) ?_
   intro w25 M25
   refine hK21 _ _ (zSk fun _ hK26=>zT fun _ hK27=>rm rfl F24 fun _ F28=>zf rfl rfl F28 rfl rfl (zE Tryz.func82 rfl) #[(zO gx)] (zy (F28 47 rfl)) (rstep_is gx gc (stpL L) false rfl b2 hb2 hS3 w25 (M25.blk (k:=0) rfl)) ?_)
   rintro _ w29 a29 ⟨rfl,hc29,hg29⟩ F29
   have M29:=M25.put (k:=0) rfl hg29 hc29
   clear M25 hg29 hc29
   cases b2
   ·refine zc (w':=w29) rfl rfl F29 rfl (.bool true) (zib _ _ rfl (F29 48 rfl)) fun _ F30=>?_
    refine hK27 _ _ (wp_cond_true (F30 49 rfl) (zT fun _ hK31=>rm rfl F30 fun _ F32=>hK31 _ _ (wp_ret ?_)))
    try simp only [Exit.then,Exit.inBlock,Exit.jump]
    exact bodyPost_ret (res1 rfl (F32.get rfl)) F32.defers ⟨_,rfl,(by
     have hf1:zbc V=false:=by rw [left_fall,hLv];simpa using hb1
     have hl1:=left_lay hL hf1 N sb
     rw [hLv] at hl1
     have hS0:stpL L=0:=by simpa using hb2
     have hf2:zbc (z4b V N sb)=true:=by rw [left_fall,hl1.1,hS0];rfl
     rw [say_2 hN hsv hf1 hf2]
     have hu:=M29.newU (k:=6) rfl rfl rfl rfl (by decide)
     exact ⟨rfl,(M29.rowsTo (i:=2) (k:=6) (c':=(z4b V N sb).c) rfl rfl (fun _ _=>Nat.zero_le _) (lay_rs V N sb _ s) (lay_rn V N sb _ n)).xto h.ne rfl rfl rfl rfl (by rw [show leftR (deadV (z4b V N sb))=leftR (z4b V N sb) from rfl,hl1.1,hS0];rfl) rfl (put_fp hu (.inl rfl) (.inr rfl))⟩)⟩
   ·refine zc (w':=w29) rfl rfl F29 rfl (.bool false) (zib _ _ rfl (F29 48 rfl)) fun _ F33=>?_
    refine hK27 _ _ (wp_cond_false (F33 49 rfl) (wp_skip (hK26 _ _ (zSk fun _ hK34=>?_))))
    obtain ⟨Aw,cw,hw⟩:=(M29.isO (k:=6) rfl).shape
    rw [hw] at M29
    try rw [hw] at F33
    refine zya F33 [fun vE=>vE=(zO gx),fun vE=>vE=(zO gx),fun vE=>vE=(zO gx),fun vE=>vE=.slice (some ⟨gc,0,none⟩) 18 18,fun vE=>vE=zI (N:Int),fun vE=>vE=(zO gx),fun vE=>vE=(zO gx),fun vE=>vE=(zO gx),fun vE=>vE=.slice (some ⟨gc,0,none⟩) 18 18,fun vE=>vE=zI (N:Int),fun vE=>vE=(zP gc (3*N)),fun vE=>vE=(zP gc (3*N+1)),fun vE=>vE=.slice Aw sb.length cw,fun vE=>vE=.agg (#[.slice Aw sb.length cw,zN,.bool false]),fun vE=>vE=(zP gc (3*N))] (JM none ({ w with heap:=#[] }:World) fun SV pV=>[(0,blkR gx 72 (#[.slice (some ⟨gc,0,none⟩) 18 18,zI (stpL (stpL L)),.bool false])),(1,blkR gc 63 (celA (putC V.c N ⟨(V.c N).s,sb,true⟩) s (putN n N (.slice Aw sb.length cw)))),(2,zua 0 18 V.c s n),(3,bytR l lv),(5,staysR w gx gc),(6,ownR sb (.slice Aw sb.length cw))]) 15 rfl (by kernel_rfl) rfl ⟨trivial,trivial,trivial,trivial,trivial,trivial,trivial,trivial,trivial,trivial,trivial,trivial,trivial,trivial,trivial,trivial⟩ (fun p=>(M29.step (zra _)).sub ⟨rfl,rfl,rfl,rfl,rfl,rfl,trivial⟩) ⟨?_,?_,?_,?_,?_,?_,?_,?_,?_,?_,?_,?_,?_,?_,?_,trivial⟩ ?_
    ·intro ua uw SV pV M0 hk hn hd
     have M:Mx none ({ w with heap:=#[] }:World) uw _:=M0
     have e0:ua.eval (.tmp 0)=(zO gx):=(show ua.eval (.tmp 0)=_ from hd 0 (by decide)).trans (F33 0 rfl)
     exact zg rfl (zO gx) (zpa _ (.inl rfl) e0) rfl (M.sb)
    ·intro ua uw SV pV M0 hk hn hd
     have M:Mx none ({ w with heap:=#[] }:World) uw _:=M0
     have e50:ua.eval (.tmp 50)=(zO gx):=zQ1 (hd 50 (by decide))
     exact zg rfl (zO gx) (by unfold execOp;simp only [e50];kernel_rfl) rfl (M.sb)
    ·intro ua uw SV pV M0 hk hn hd
     have M:Mx none ({ w with heap:=#[] }:World) uw _:=M0
     have e51:ua.eval (.tmp 51)=(zO gx):=zQ1 (hd 51 (by decide))
     exact zg rfl (zO gx) (y_fa (off:=0) rfl e51 (by kernel_rfl) rfl) rfl (M.sb)
    ·intro ua uw SV pV M0 hk hn hd
     have M:Mx none ({ w with heap:=#[] }:World) uw _:=M0
     have e52:ua.eval (.tmp 52)=(zO gx):=zQ1 (hd 52 (by decide))
     exact zg rfl (.slice (some ⟨gc,0,none⟩) 18 18) (zda _ _ rfl e52 (M.blk (k:=0) rfl) rfl Tryz.underlying49 rfl) rfl (M.sb)
    ·intro ua uw SV pV M0 hk hn hd
     have M:Mx none ({ w with heap:=#[] }:World) uw _:=M0
     have e10:ua.eval (.tmp 10)=zI (N:Int):=(show ua.eval (.tmp 10)=_ from hd 10 (by decide)).trans (F33 10 rfl)
     exact zg rfl (zI (N:Int)) (zpa _ (.inl rfl) e10) rfl (M.sb)
    ·intro ua uw SV pV M0 hk hn hd
     have M:Mx none ({ w with heap:=#[] }:World) uw _:=M0
     have e0:ua.eval (.tmp 0)=(zO gx):=(show ua.eval (.tmp 0)=_ from hd 0 (by decide)).trans (F33 0 rfl)
     exact zg rfl (zO gx) (zpa _ (.inl rfl) e0) rfl (M.sb)
    ·intro ua uw SV pV M0 hk hn hd
     have M:Mx none ({ w with heap:=#[] }:World) uw _:=M0
     have e55:ua.eval (.tmp 55)=(zO gx):=zQ1 (hd 55 (by decide))
     exact zg rfl (zO gx) (by unfold execOp;simp only [e55];kernel_rfl) rfl (M.sb)
    ·intro ua uw SV pV M0 hk hn hd
     have M:Mx none ({ w with heap:=#[] }:World) uw _:=M0
     have e56:ua.eval (.tmp 56)=(zO gx):=zQ1 (hd 56 (by decide))
     exact zg rfl (zO gx) (y_fa (off:=0) rfl e56 (by kernel_rfl) rfl) rfl (M.sb)
    ·intro ua uw SV pV M0 hk hn hd
     have M:Mx none ({ w with heap:=#[] }:World) uw _:=M0
     have e57:ua.eval (.tmp 57)=(zO gx):=zQ1 (hd 57 (by decide))
     exact zg rfl (.slice (some ⟨gc,0,none⟩) 18 18) (zda _ _ rfl e57 (M.blk (k:=0) rfl) rfl Tryz.underlying49 rfl) rfl (M.sb)
    ·intro ua uw SV pV M0 hk hn hd
     have M:Mx none ({ w with heap:=#[] }:World) uw _:=M0
     have e10:ua.eval (.tmp 10)=zI (N:Int):=(show ua.eval (.tmp 10)=_ from hd 10 (by decide)).trans (F33 10 rfl)
     exact zg rfl (zI (N:Int)) (zpa _ (.inl rfl) e10) rfl (M.sb)
    ·intro ua uw SV pV M0 hk hn hd
     have M:Mx none ({ w with heap:=#[] }:World) uw _:=M0
     have e58:ua.eval (.tmp 58)=.slice (some ⟨gc,0,none⟩) 18 18:=zQ1 (hd 58 (by decide))
     have e59:ua.eval (.tmp 59)=zI (N:Int):=zQ1 (hd 59 (by decide))
     exact zg rfl (zP gc (3*N)) (zjc 49 (s:=3) Tryz.underlying49 (by kernel_rfl) _ _ rfl e58 e59 rfl hN18 (by omega)) rfl (M.sb)
    ·intro ua uw SV pV M0 hk hn hd
     have M:Mx none ({ w with heap:=#[] }:World) uw _:=M0
     have e60:ua.eval (.tmp 60)=(zP gc (3*N)):=zQ1 (hd 60 (by decide))
     exact zg rfl (zP gc (3*N+1)) (y_fa (off:=1) rfl e60 (by kernel_rfl) rfl) rfl (M.sb)
    ·intro ua uw SV pV M0 hk hn hd
     have M:Mx none ({ w with heap:=#[] }:World) uw _:=M0
     have e61:ua.eval (.tmp 61)=(zP gc (3*N+1)):=zQ1 (hd 61 (by decide))
     exact zg rfl (.slice Aw sb.length cw) (zda _ _ rfl e61 (M.blk (k:=1) rfl) ((cel_n _ s (putN n N (.slice Aw sb.length cw)) hN18).trans (congrArg some (putN_at n N _))) Tryz.underlying23 rfl) rfl (M.sb)
    ·intro ua uw SV pV M0 hk hn hd
     have M:Mx none ({ w with heap:=#[] }:World) uw _:=M0
     have e62:ua.eval (.tmp 62)=.slice Aw sb.length cw:=zQ1 (hd 62 (by decide))
     exact zg rfl (.agg (#[.slice Aw sb.length cw,zN,.bool false])) (by unfold execOp;simp only [List.map_toArray,List.map_cons,List.map_nil,e62];kernel_rfl) rfl (M.sb)
    ·intro ua uw SV pV M0 hk hn hd
     have M:Mx none ({ w with heap:=#[] }:World) uw _:=M0
     have e53:ua.eval (.tmp 53)=.slice (some ⟨gc,0,none⟩) 18 18:=zQ1 (hd 53 (by decide))
     have e54:ua.eval (.tmp 54)=zI (N:Int):=zQ1 (hd 54 (by decide))
     exact zg rfl (zP gc (3*N)) (zjc 49 (s:=3) Tryz.underlying49 (by kernel_rfl) _ _ rfl e53 e54 rfl hN18 (by omega)) rfl (M.sb)
    intro p35 a35 w35 M35 G35 y35
    obtain ⟨-,-,-,-,-,-,-,-,-,-,-,-,-,q13,q14,-⟩:=y35
    have r13:p35 13=.agg (#[.slice Aw sb.length cw,zN,.bool false]):=q13
    have r14:p35 14=(zP gc (3*N)):=q14
    replace M35:Mx _ _ w35 [(0,blkR gx 72 (#[.slice (some ⟨gc,0,none⟩) 18 18,zI (stpL (stpL L)),.bool false])),(1,blkR gc 63 (celA (putC V.c N ⟨(V.c N).s,sb,true⟩) s (putN n N (.slice Aw sb.length cw)))),(2,zua 0 18 V.c s n),(3,bytR l lv),(5,staysR w gx gc),(6,ownR sb (.slice Aw sb.length cw))]:=M35
    simp only [List.take,layV,Nat.zero_add,Nat.reduceAdd,r13,r14] at G35
    refine zu rfl rfl G35 M35 (k:=1) rfl _ _ _ rfl (G35 64 rfl) (G35 63 rfl) (#[.slice Aw sb.length cw,zN,.bool false]) ((celA (putC (putC V.c N ⟨(V.c N).s,sb,true⟩) N ⟨sb,[],false⟩) (putN s N (.slice Aw sb.length cw)) (putN (putN n N (.slice Aw sb.length cw)) N (zN)))) rfl (show 3*N+3≤54 by omega) (by simp [Value.oneCell']) (cel_put (putC V.c N ⟨(V.c N).s,sb,true⟩) s (putN n N (.slice Aw sb.length cw)) (.slice Aw sb.length cw) (zN) sb [] false hN18) (by kernel_rfl) ?_
    intro w36 M36
    refine hK34 _ _ (zT fun _ hK37=>rm rfl G35 fun _ F38=>hK37 _ _ (wp_ret ?_))
    try simp only [Exit.then,Exit.inBlock,Exit.jump]
    exact bodyPost_ret (res1 rfl (F38.get rfl)) F38.defers ⟨_,rfl,(by
     have hf1:zbc V=false:=by rw [left_fall,hLv];simpa using hb1
     have hl1:=left_lay hL hf1 N sb
     rw [hLv] at hl1
     have hf2:zbc (z4b V N sb)=false:=by rw [left_fall,hl1.1];simpa using hb2
     have hl2:=left_keep hl1.2 hf2 N
     rw [hl1.1] at hl2
     rw [say_3 hN hsv hf1 hf2]
     have hu:=M36.newU (k:=6) rfl rfl rfl rfl (by decide)
     have M2:=M36.rowsTo (i:=2) (k:=6) (c':=putC (putC V.c N ⟨(V.c N).s,sb,true⟩) N ⟨sb,[],false⟩) rfl rfl (fun _ _=>Nat.zero_le _) (keep_rs V N sb _ s) (keep_rn V N sb _ n)
     rw [←keep_c] at M2
     exact ⟨rfl,M2.xto h.ne rfl rfl rfl rfl hl2.1.symm hdd.symm (put_fp hu (.inr rfl) (.inl rfl))⟩)⟩
 refine zT fun _ hK39=>rm rfl F11 fun _ F40=>rm rfl F40 fun _ F41=>?_
 by_cases h42:ca=((2*p:Nat):Int)
 ·refine zc (w':=w6) rfl rfl F41 rfl (.bool true) (zcb _ _ _ _ rfl (F41 20 rfl) (F41 21 rfl) Tryz.underlying3 (zvb h42)) fun _ F43=>?_
  refine hK39 _ _ (wp_cond_true (F43 22 rfl) (zR (rm rfl F43 fun _ F44=>zc (w':=w6) rfl rfl F44 rfl (zI ((2*p+1:Nat):Int)) (zja _ _ _ _ rfl (F44 23 rfl) rfl (by omega) (by omega)) fun _ F45=>?_)))
  refine rm rfl F45 fun _ F46=>?_
  exact J12 (2*p+1) _ _ (by have h9:=hnx.1;rw [if_pos h42] at h9;omega) (F46.sb) (M6.sb)
 ·refine zc (w':=w6) rfl rfl F41 rfl (.bool false) (zcb _ _ _ _ rfl (F41 20 rfl) (F41 21 rfl) Tryz.underlying3 (zdc h42)) fun _ F47=>?_
  refine hK39 _ _ (wp_cond_false (F47 22 rfl) (wp_skip ?_))
  exact J12 (2*p) _ _ (by have h9:=hnx.1;rw [if_neg h42] at h9;omega) (F47.sb) (M6.sb)
theorem cnt_short {K:Nat} {V:VltN} (hi:InvV K V) {q:Nat} (hq:q+1<18) {ca ct:Int} {cl:List UInt8} (hC:cntR V q 2=(ca,ct,cl)):cl.length≤1000:=by
 rcases cnt_any hC with ⟨_,_,_,rfl⟩ | ⟨_,_,_,rfl⟩
 ·exact cnt_len V q (zsc hi q (by omega)).1 (zsc hi (q+1) hq).1
 ·exact Nat.zero_le _
theorem rrd6_is (b:List UInt8) (bv:Value) (hl:b.length≤1000) (ok:Bool) (r:RecN) (h1:rdOk b=ok) (h2:rdR b=r) (w:World) (hb:IsB w b bv):Calls Tryz.prog 63 #[bv] w fun e w'=>∃ t,e=.returned t∧∃ V,t=.tuple #[.agg (recA r V),.bool ok]∧RecIs w' r V∧(∀ q,bfp V.v2 q∨bfp V.v5 q→w.heap.size≤q)∧Below w.heap.size w w':=by
 subst h1 h2;exact (rreadrec_any b bv (by omega) w hb).mono fun e w' ⟨V,k1,k2,k3,k4⟩=>⟨_,k1,V,rfl,k2,k3,k4⟩
theorem named_cnt {V:VltN} {nm:ByteArray} {k:Nat} {ca ct:Int} {cl:List UInt8} {r:RecN} {qR qN:Bool} (hC:cntR V (2*k) 2=(ca,ct,cl)) (hR:rdOk cl=qR) (hr:rdR cl=r) (hN:decide (r.s.toList=nm.toList)=qN):zaa V nm k=(qR&&qN):=by
 unfold zaa zic z2a
 rcases cnt_any hC with ⟨h,_,_,rfl⟩ | ⟨h,_,_,rfl⟩
 ·rw [h,if_pos rfl,hR,hr,hN];rfl
 ·rw [h,Bool.false_and,Bool.false_and,←hR,rdOk_nil,Bool.false_and]
theorem rfind_any {K:Nat} (gx gc:Nat) (V:VltN) (L:Int) (s n:Nat→Value) (hi:InvV K V) (nm:ByteArray) (w:World) (h:HasX w gx gc V L s n):
  Calls Tryz.prog 53 #[(zO gx),.string nm] w fun e w'=>e=.returned (zI (idx8 (zaa V nm)))∧Below w.heap.size w w':=by
 refine zj (args:=[(zO gx),.string nm]) 35 Tryz.func53 rfl rfl rfl ?_
 intro fa F
 have M:=Mx.start w
 replace M:=M.argO 0 h.hx (fun b e=>by cases e)
 replace M:=M.argO 1 h.hc (fun b e=>by cases e)
 refine zT fun _ hK1=>rm rfl F fun _ F2=>hK1 _ _ (zSk fun _ hK3=>zT fun _ hK4=>rm rfl F2 fun _ F5=>hK4 _ _ (wp_block (znb (α:=Nat) (n:=35) (G:=none) (w0:=w) (fun x=>[(0,(zO gx)),(1,.string nm),(5,zI (x:Int))]) (fun x=>[(0,blkO gx 72 (#[.slice (some ⟨gc,0,none⟩) 18 18,zI L,.bool V.dd])),(1,blkO gc 63 (celA V.c s n))]) (fun k x=>k=(8-x)∧(x≤8∧fst8 (zaa V nm)=fstN (zaa V nm) (8-x) x)) _ 0 ⟨rfl,⟨Nat.zero_le _,rfl⟩⟩ (F5.sb) (M.sb) ?_)))
 rintro k6 jn a6 w6 K6 ⟨ek6,I6⟩ F6 M6 hK6
 replace F6:Fx 35 a6 [(0,(zO gx)),(1,.string nm),(5,zI (jn:Int))]:=F6
 replace M6:Mx _ _ w6 [(0,blkO gx 72 (#[.slice (some ⟨gc,0,none⟩) 18 18,zI L,.bool V.dd])),(1,blkO gc 63 (celA V.c s n))]:=M6
 replace I6:jn≤8∧fst8 (zaa V nm)=fstN (zaa V nm) (8-jn) jn:=I6
 replace ek6:k6=(8-jn):=ek6
 obtain ⟨hj,hf⟩:=I6
 by_cases h8:jn<8
 ·obtain ⟨ca,ct,cl,hC⟩:∃ a t l,cntR V (2*jn) 2=(a,t,l):=⟨_,_,_,rfl⟩
  have hcl:=cnt_short hi (by omega) hC
  obtain ⟨qR,hR⟩:∃ x,rdOk cl=x:=⟨_,rfl⟩
  obtain ⟨rr,hrr⟩:∃ x,rdR cl=x:=⟨_,rfl⟩
  obtain ⟨qN,hN⟩:∃ x,decide (rr.s.toList=nm.toList)=x:=⟨_,rfl⟩
  have hnc:=named_cnt hC hR hrr hN
  refine zSk fun _ hK7=>zT fun _ hK8=>rm rfl F6 fun _ F9=>zc (w':=w6) rfl rfl F9 rfl (.bool true) (zha _ _ _ _ rfl (F9 11 rfl) rfl (decide_eq_true (show (jn:Int)<8 by omega))) fun _ F10=>?_
  refine hK8 _ _ (wp_cond_true (F10 12 rfl) (wp_skip (hK7 _ _ (zSk fun _ hK11=>wp_block (zT fun _ hK12=>rm rfl F10 fun _ F13=>rm rfl F13 fun _ F14=>zf rfl rfl F14 rfl rfl (zE Tryz.func62 rfl) #[(zO gx),zI (jn:Int)] (zea (F14 16 rfl) (F14 17 rfl)) (rcounts_is gx gc V L s n hi jn (by omega) hC w6 (h.step M6.below)) ?_)))))
  rintro _ w15 a15 ⟨S15,rfl,hS15,b15⟩ F15
  have M15:=M6.step b15
  have lS15:=hS15.step b15
  refine zB 7 [(0,(zO gx)),(1,.string nm),(5,zI (jn:Int)),(8,S15)] [] dnil [] F15 fun _ F16=>?_
  refine hK12 _ _ (zT fun _ hK17=>rm rfl F16 fun _ F18=>zf rfl rfl F18 rfl rfl (zE Tryz.func63 rfl) #[S15] (zy (F18 23 rfl)) (rrd6_is cl (S15) hcl qR rr hR hrr w15 lS15) ?_)
  rintro _ w19 a19 ⟨V19,rfl,is19,lo19,b19⟩ F19
  have M19:=M15.newRec b19 is19 lo19 2 3
  clear M15 b19 lo19
  refine zB 3 [(0,(zO gx)),(1,.string nm),(5,zI (jn:Int)),(25,.agg (recA rr V19)),(26,.bool qR)] [] dnil [] F19 fun _ F20=>?_
  refine zp rfl rfl F20 rfl M19 4 (t:=37) (c:=recA ⟨0, "".toUTF8,[],0,0,[],0,0,0⟩ ⟨zN,zN⟩) (by unfold execOp;kernel_rfl) ?_
  intro g21 a21 w21 F21 M21
  refine zu rfl rfl F21 M21 (k:=4) rfl _ _ _ rfl (F21 9 rfl) (F21 25 rfl) (recA rr V19) _ rfl (zL rfl) (z7a (w:=w21) ⟨(M21.isb (k:=2) rfl),(M21.isb (k:=3) rfl)⟩) (zba rfl) (by kernel_rfl) ?_
  intro w22 M22
  refine rm rfl F21 fun _ F23=>hK17 _ _ (zT fun _ hK24=>rm rfl F23 fun _ F25=>rm rfl F25 fun _ F26=>?_)
  cases qR
  ·refine zB 5 [(0,(zO gx)),(1,.string nm),(5,zI (jn:Int)),(33,.bool false)] [] dnil [] F26 fun _ F27=>?_
   refine hK24 _ _ (wp_cond_false (F27 33 rfl) (wp_skip (hK11 _ _ (zR (rm rfl F27 fun _ F28=>zc (w':=w22) rfl rfl F28 rfl (zI ((jn+1:Nat):Int)) (zja _ _ _ _ rfl (F28 13 rfl) rfl (by omega) (by omega)) fun _ F29=>?_)))))
   refine rm rfl F29 fun _ F30=>?_
   subst ek6
   exact hK6 _ (jn+1) _ _ (by omega) ⟨rfl,⟨by omega,fst_next h8 hnc hf⟩⟩ (F30.sb) (M22.sb)
  ·refine zAx 3 [(29,(zP g21 1)),(30,.string rr.s),(31,.string nm)] [0] (zw (M22.blk (k:=4) rfl) dnil) [g21] F26 fun _ F31=>?_
   refine zc (w':=w22) (zd rfl rfl rfl (F31 28 rfl)) rfl F31 rfl (.bool qN) (y_eqS _ _ _ rfl (F31 30 rfl) (F31 31 rfl) hN) fun _ F32=>?_
   refine zc (w':=w22) rfl rfl F32 rfl (.bool qN) (zpb rfl (F32 28 rfl) (F32 32 rfl)) fun _ F33=>?_
   refine hK24 _ _ ?_
   cases qN
   ·refine wp_cond_false (F33 33 rfl) (wp_skip (hK11 _ _ (zR (rm rfl F33 fun _ F34=>zc (w':=w22) rfl rfl F34 rfl (zI ((jn+1:Nat):Int)) (zja _ _ _ _ rfl (F34 13 rfl) rfl (by omega) (by omega)) fun _ F35=>?_))))
    refine rm rfl F35 fun _ F36=>?_
    subst ek6
    exact hK6 _ (jn+1) _ _ (by omega) ⟨rfl,⟨by omega,fst_next h8 hnc hf⟩⟩ (F36.sb) (M22.sb)
   ·refine wp_cond_true (F33 33 rfl) (zT fun _ hK37=>rm rfl F33 fun _ F38=>rm rfl F38 fun _ F39=>hK37 _ _ (wp_ret ?_))
    try simp only [Exit.then,Exit.inBlock,Exit.jump]
    exact bodyPost_ret (res1 rfl (F39.get rfl)) F39.defers ⟨(by rw [idx8_at h8 (fst_here h8 hnc hf)]),M22.below⟩
 ·have hj8:jn=8:=by omega
  refine zSk fun _ hK40=>zT fun _ hK41=>rm rfl F6 fun _ F42=>zc (w':=w6) rfl rfl F42 rfl (.bool false) (zha _ _ _ _ rfl (F42 11 rfl) rfl (decide_eq_false (show ¬(jn:Int)<8 by omega))) fun _ F43=>?_
  refine hK41 _ _ (wp_cond_false (F43 12 rfl) (wp_exit ?_))
  simp only [Exit.then,Exit.inBlock,↓reduceIte,Nat.reduceEqDiff]
  refine hK3 _ _ (zT fun _ hK44=>rm rfl F43 fun _ F45=>hK44 _ _ (wp_ret ?_))
  try simp only [Exit.then,Exit.inBlock,Exit.jump]
  exact bodyPost_ret (res1 rfl (F45.get rfl)) F45.defers ⟨(by rw [idx8_no (by rw [hf,hj8])]),M6.below⟩
def bootR (V:VltN):Int:=if (cntR V 16 2).1<0∨¬((cntR V 16 2).2.2.length:Int)=8 then 0 else numR (cntR V 16 2).2.2
theorem bootR_no {V:VltN} {ca ct:Int} {cl:List UInt8} (hC:cntR V 16 2=(ca,ct,cl)) (h:ca<0∨¬(cl.length:Int)=8):bootR V=0:=by unfold bootR;rw [hC];exact if_pos h
theorem bootR_is {V:VltN} {ca ct:Int} {cl:List UInt8} (hC:cntR V 16 2=(ca,ct,cl)) (h1:¬ca<0) (h2:(cl.length:Int)=8):bootR V=numR cl:=by unfold bootR;rw [hC];exact if_neg (fun h=>h.elim h1 (fun h=>h h2))
theorem bootR_zero {V:VltN} (h:anyB zo V 16=false):bootR V=0:=by
 have hC:=cntR_2 V 16
 rw [h,if_neg Bool.false_ne_true] at hC
 exact bootR_no hC (.inl (by decide))
theorem rboot_any {K:Nat} (gx gc:Nat) (V:VltN) (L:Int) (s n:Nat→Value) (hi:InvV K V) (w:World) (h:HasX w gx gc V L s n):
  Calls Tryz.prog 44 #[(zO gx)] w fun e w'=>e=.returned (zI (bootR V))∧Below w.heap.size w w':=by
 refine zj (args:=[(zO gx)]) 21 Tryz.func44 rfl rfl rfl ?_
 intro fa F
 have M:=Mx.start w
 replace M:=M.argO 0 h.hx (fun b e=>by cases e)
 replace M:=M.argO 1 h.hc (fun b e=>by cases e)
 obtain ⟨ca,ct,cl,hC⟩:∃ a t l,cntR V 16 2=(a,t,l):=⟨_,_,_,rfl⟩
 refine zT fun _ hK1=>rm rfl F fun _ F2=>hK1 _ _ (zT fun _ hK3=>rm rfl F2 fun _ F4=>zf rfl rfl F4 rfl rfl (zE Tryz.func62 rfl) #[(zO gx),zI 8] (zea (F4 7 rfl) rfl) (rcounts_is gx gc V L s n hi 8 (by omega) hC w (h.step M.below)) ?_)
 rintro _ w5 a5 ⟨S5,rfl,hS5,b5⟩ F5
 have M5:=M.step b5
 have lS5:=hS5.step b5
 refine zB 7 [(2,zI 0),(3,zI ca),(5,S5)] [] dnil [] F5 fun _ F6=>?_
 refine hK3 _ _ (zSk fun _ hK7=>zT fun _ hK8=>rm rfl F6 fun _ F9=>?_)
 by_cases h10:ca<0
 ·refine zc (w':=w5) rfl rfl F9 rfl (.bool true) (zha _ _ _ _ rfl (F9 12 rfl) rfl (decide_eq_true h10)) fun _ F11=>?_
  refine zB 5 [(2,zI 0),(5,S5),(18,.bool true)] [] dnil [] F11 fun _ F12=>?_
  refine hK8 _ _ (wp_cond_true (F12 18 rfl) (zT fun _ hK13=>rm rfl F12 fun _ F14=>hK13 _ _ (wp_ret ?_)))
  try simp only [Exit.then,Exit.inBlock,Exit.jump]
  exact bodyPost_ret (res1 rfl (F14.get rfl)) F14.defers ⟨(by rw [bootR_no hC (.inl h10)]),M5.below⟩
 ·refine zc (w':=w5) rfl rfl F9 rfl (.bool false) (zha _ _ _ _ rfl (F9 12 rfl) rfl (decide_eq_false h10)) fun _ F15=>?_
  refine rm rfl F15 fun _ F16=>rm rfl F16 fun _ F17=>zc (w':=w5) (zd rfl rfl rfl (F17 14 rfl)) rfl F17 rfl (zI (cl.length:Int)) (z1a _ rfl (F17 15 rfl) lS5 rfl) fun _ F18=>?_
  by_cases h19:(cl.length:Int)=8
  ·refine zc (w':=w5) (zd rfl rfl rfl (F18 14 rfl)) rfl F18 rfl (.bool false) (y_neI _ _ _ _ rfl (F18 16 rfl) rfl Tryz.underlying3 (y_bneF h19)) fun _ F20=>?_
   refine zc (w':=w5) rfl rfl F20 rfl (.bool false) (zob rfl (F20 14 rfl) (F20 17 rfl)) fun _ F21=>?_
   refine hK8 _ _ (wp_cond_false (F21 18 rfl) (wp_skip (hK7 _ _ (zT fun _ hK22=>rm rfl F21 fun _ F23=>zf rfl rfl F23 rfl rfl (zE Tryz.func68 rfl) #[S5] (zy (F23 19 rfl)) (zz ((rnum6_any cl (S5) (by omega) w5 lS5))) ?_))))
   rintro _ w24 a24 ⟨rfl,b24⟩ F24
   have M24:=M5.step b24
   refine rm rfl F24 fun _ F25=>hK22 _ _ (wp_ret ?_)
   try simp only [Exit.then,Exit.inBlock,Exit.jump]
   exact bodyPost_ret (res1 rfl (F25.get rfl)) F25.defers ⟨(by rw [bootR_is hC h10 h19]),M24.below⟩
  ·refine zc (w':=w5) (zd rfl rfl rfl (F18 14 rfl)) rfl F18 rfl (.bool true) (y_neI _ _ _ _ rfl (F18 16 rfl) rfl Tryz.underlying3 (y_bneT h19)) fun _ F26=>?_
   refine zc (w':=w5) rfl rfl F26 rfl (.bool true) (zob rfl (F26 14 rfl) (F26 17 rfl)) fun _ F27=>?_
   refine hK8 _ _ (wp_cond_true (F27 18 rfl) (zT fun _ hK28=>rm rfl F27 fun _ F29=>hK28 _ _ (wp_ret ?_)))
   try simp only [Exit.then,Exit.inBlock,Exit.jump]
   exact bodyPost_ret (res1 rfl (F29.get rfl)) F29.defers ⟨(by rw [bootR_no hC (.inr h19)]),M5.below⟩
theorem xera_any (gx gc:Nat) {K:Nat} (V:VltN) (s n:Nat→Value) (hi:InvV K V) (hK:K<255) (hL:LeftOk V) (hdd:V.dd=false) (E:Nat) (hE:E<1000) (hb:bootR V=(E:Int)) {V2:VltN} (hn:(sayW V 16 (zr ((E+1:Nat):Int))).1=V2) (w:World) (ho:XOk w gx gc V s n):
  Calls Tryz.prog 40 #[(zO gx)] w fun e w'=>∃ t,e=.returned t∧XTo w w' gx gc (zq 18 s n) V2:=by
 have h:=ho.has
 obtain ⟨L,hLv⟩:∃ x,leftR V=x:=⟨_,rfl⟩
 rw [hLv] at h
 obtain ⟨dd,hd⟩:∃ x,V.dd=x:=⟨_,rfl⟩
 have hx0:=h.hx
 rw [hd] at hx0
 rw [hdd] at hd
 subst hd
 have hd:=hdd
 have hE8:=zfa ((E+1:Nat):Int)
 refine zj (args:=[(zO gx)]) 8 Tryz.func40 rfl rfl rfl ?_
 intro fa F
 have M:=Mx.start w
 replace M:=M.argO 0 hx0 (fun b e=>by cases e)
 replace M:=M.argO 1 h.hc (fun b e=>by cases e)
 refine zR (rm rfl F fun _ F1=>rm rfl F1 fun _ F2=>zf rfl rfl F2 rfl rfl (zE Tryz.func44 rfl) #[(zO gx)] (zy (F2 3 rfl)) (zz ((hb▸rboot_any gx gc V L s n hi w (h.step M.below)))) ?_)
 rintro _ w3 a3 ⟨rfl,b3⟩ F3
 have M3:=M.step b3
 refine zc (w':=w3) rfl rfl F3 rfl (zI ((E+1:Nat):Int)) (zja _ _ _ _ rfl (F3 4 rfl) rfl (by omega) (by omega)) fun _ F4=>?_
 refine zf rfl rfl F4 rfl rfl (zE Tryz.func36 rfl) #[zI ((E+1:Nat):Int)] (zy (F4 5 rfl)) ((reight6 (E+1) (by omega) w3)) ?_
 rintro v5 w5 a5 h5 F5
 have M5:=M3.newO h5.2 2 h5.1
 clear M3 h5
 obtain ⟨A5,c5,rfl⟩:=(M5.isO (k:=2) rfl).shape
 refine zf rfl rfl F5 rfl rfl (zE Tryz.func55 rfl) #[(zO gx),zI 8,.slice A5 ((zr ((E+1:Nat):Int))).length c5] (args3 (F5 2 rfl) rfl (F5 6 rfl)) (xwrite_any gx gc V s n hi hK hL hd 8 (by decide) (zr ((E+1:Nat):Int)) (.slice A5 ((zr ((E+1:Nat):Int))).length c5) (by omega) w5 (ho.step M5.below) (M5.isO (k:=2) rfl) (fun b hb=>⟨fun e=>M5.dis 2 0 _ _ rfl rfl (by decide) rfl b (zwa hb) e,fun e=>M5.dis 2 1 _ _ rfl rfl (by decide) rfl b (zwa hb) e⟩)) ?_
 rintro _ w6 a6 ⟨rfl,hw6⟩ F6
 exact bodyPost_end (res0 rfl) F6.defers ⟨_,rfl,hn▸XTo.before M5.below hw6⟩
theorem rfind_is {K:Nat} (gx gc:Nat) (V:VltN) (L:Int) (s n:Nat→Value) (hi:InvV K V) (nm:ByteArray) {z:Int} (hz:idx8 (zaa V nm)=z) (w:World) (h:HasX w gx gc V L s n):Calls Tryz.prog 53 #[(zO gx),.string nm] w fun e w'=>e=.returned (zI z)∧Below w.heap.size w w':=by
 subst hz;exact rfind_any gx gc V L s n hi nm w h
theorem put_idx {V:VltN} {nm:ByteArray} {z1 z2 z:Int} (h1:idx8 (zaa V nm)=z1) (h2:idx8 (fun i=>zma V (2*i))=z2) (hz:z=if z1<0 then z2 else z1) {X:VltN×Int} {F:Nat→VltN×Int}:
  (z<0→(if fst8 (zaa V nm)<8 then F (fst8 (zaa V nm)) else if fst8 (fun i=>zma V (2*i))<8 then F (fst8 (fun i=>zma V (2*i))) else X)=X)∧(¬z<0→∃ p:Nat,z=(p:Int)∧p<8∧(if fst8 (zaa V nm)<8 then F (fst8 (zaa V nm)) else if fst8 (fun i=>zma V (2*i))<8 then F (fst8 (fun i=>zma V (2*i))) else X)=F p):=by
 subst h1 h2
 unfold idx8 at hz
 by_cases a:fst8 (zaa V nm)<8
 ·rw [if_pos a,if_neg (by omega)] at hz
  rw [if_pos a]
  exact ⟨fun h=>by omega,fun _=>⟨_,hz,a,rfl⟩⟩
 ·rw [if_neg a,if_pos (by omega)] at hz
  rw [if_neg a]
  by_cases b:fst8 (fun i=>zma V (2*i))<8
  ·rw [if_pos b] at hz
   rw [if_pos b]
   exact ⟨fun h=>by omega,fun _=>⟨_,hz,b,rfl⟩⟩
  ·rw [if_neg b] at hz
   rw [if_neg b]
   exact ⟨fun _=>rfl,fun h=>by omega⟩
theorem rrec6_is (r:RecN) (Vr:RecV) (ho:RecOk r) (q:Bool) (l:List UInt8) (h1:zca r=q) (h2:recE r=l) (w:World) (hm:RecIs w r Vr):Calls Tryz.prog 52 #[.agg (recA r Vr)] w fun e w'=>∃ t,e=.returned t∧∃ v,t=.tuple #[v,.bool q]∧Byt w' w.heap.size v l∧Below w.heap.size w w':=by
 subst h1 h2;exact (rrecord_any r Vr ho w hm).mono fun e w' ⟨v,k1,k2,k3⟩=>⟨_,k1,v,rfl,k2,k3⟩
theorem rfree_is {K:Nat} (gx gc:Nat) (V:VltN) (L:Int) (s n:Nat→Value) (hi:InvV K V) {z:Int} (hz:idx8 (fun i=>zma V (2*i))=z) (w:World) (h:HasX w gx gc V L s n):Calls Tryz.prog 54 #[(zO gx)] w fun e w'=>e=.returned (zI z)∧Below w.heap.size w w':=by
 subst hz;exact rfree_any gx gc V L s n hi w h
theorem xput_any (gx gc:Nat) {K:Nat} (V:VltN) (s n:Nat→Value) (hi:InvV K V) (hK:K<255) (hL:LeftOk V) (r:RecN) (Vr:RecV) (hro:RecOk r) (w:World) (ho:XOk w gx gc V s n) (hR:RecIs w r Vr):
  Calls Tryz.prog 23 #[(zO gx),.agg (recA r Vr)] w fun e w'=>∃ t,e=.returned t∧t=zI (putV V r).2∧XTo w w' gx gc (zq 18 s n) (putV V r).1:=by
 have h:=ho.has
 obtain ⟨L,hLv⟩:∃ x,leftR V=x:=⟨_,rfl⟩
 rw [hLv] at h
 obtain ⟨dd,hd⟩:∃ x,V.dd=x:=⟨_,rfl⟩
 have hx0:=h.hx
 rw [hd] at hx0
 obtain ⟨qK,hqK⟩:∃ x,zca r=x:=⟨_,rfl⟩
 obtain ⟨l,hl⟩:∃ x,recE r=x:=⟨_,rfl⟩
 have hll:l.length≤1000:=by rw [←hl];exact Nat.le_trans (recE_bd r) (by decide)
 obtain ⟨z1,hz1⟩:∃ x,idx8 (zaa V r.s)=x:=⟨_,rfl⟩
 obtain ⟨z2,hz2⟩:∃ x,idx8 (fun i=>zma V (2*i))=x:=⟨_,rfl⟩
 unfold putV
 rw [hd,hqK,hl]
 refine zj (args:=[(zO gx),.agg (recA r Vr)]) 33 Tryz.func23 rfl rfl rfl ?_
 intro fa F
 have M:=Mx.start w
 replace M:=M.argO 0 hx0 (fun b e=>by cases e)
 replace M:=M.argO 1 h.hc (fun b e=>by cases e)
 refine zT fun _ hK1=>zp rfl rfl F rfl M 2 (t:=37) (c:=recA r Vr) (by unfold execOp;simp only [(F 1 rfl)];kernel_rfl) ?_
 intro g2 a2 w2 F2 M2
 refine rm rfl F2 fun _ F3=>hK1 _ _ (zSk fun _ hK4=>zT fun _ hK5=>zB 4 [(0,(zO gx)),(3,(zO g2)),(4,zI 0),(11,.bool dd)] [0] (zw (M2.roB (k:=0) rfl) dnil) [gx] F3 fun _ F6=>?_)
 refine hK5 _ _ ?_
 cases dd
 ·refine wp_cond_false (F6 11 rfl) (wp_skip (hK4 _ _ (zT fun _ hK7=>zc (w':=w2) rfl rfl F6 rfl _ (zfb _ _ rfl (F6 3 rfl) (M2.blk (k:=2) rfl) (recA r Vr) (zmb rfl) Tryz.underlying37 rfl (by kernel_rfl)) fun _ F8=>?_)))
  refine zf rfl rfl F8 rfl rfl (zE Tryz.func52 rfl) #[.agg (recA r Vr)] (zy (F8 13 rfl)) (rrec6_is r Vr hro qK l hqK hl w2 ⟨hR.h2.step M2.below,hR.h5.step M2.below⟩) ?_
  rintro _ w9 a9 ⟨v9,rfl,hv9,b9⟩ F9
  have M9:=M2.newO b9 3 hv9
  clear M2 b9 hv9
  obtain ⟨A9,c9,rfl⟩:=(M9.isO (k:=3) rfl).shape
  refine zB 5 [(0,(zO gx)),(3,(zO g2)),(4,zI 0),(5,.slice A9 (l).length c9),(6,.bool qK)] [] dnil [] F9 fun _ F10=>?_
  refine hK7 _ _ (zSk fun _ hK11=>zT fun _ hK12=>rm rfl F10 fun _ F13=>?_)
  cases qK
  ·refine zc (w':=w9) rfl rfl F13 rfl (.bool true) (zib _ _ rfl (F13 17 rfl)) fun _ F14=>?_
   refine hK12 _ _ (wp_cond_true (F14 18 rfl) (zT fun _ hK15=>rm rfl F14 fun _ F16=>hK15 _ _ (wp_ret ?_)))
   try simp only [Exit.then,Exit.inBlock,Exit.jump]
   exact bodyPost_ret (res1 rfl (F16.get rfl)) F16.defers ⟨_,rfl,(by
    try simp only [if_true,if_false,Bool.false_eq_true,reduceIte,reduceCtorEq]
    exact ⟨(by first | rfl | trivial),ho.to M9.below⟩)⟩
  ·refine zc (w':=w9) rfl rfl F13 rfl (.bool false) (zib _ _ rfl (F13 17 rfl)) fun _ F17=>?_
   refine hK12 _ _ (wp_cond_false (F17 18 rfl) (wp_skip (hK11 _ _ (zT fun _ hK18=>zB 3 [(0,(zO gx)),(4,zI 0),(5,.slice A9 (l).length c9),(19,(zO gx)),(21,.string r.s)] [0] (zw (M9.blk (k:=2) rfl) dnil) [g2] F17 fun _ F19=>?_))))
   refine zf rfl rfl F19 rfl rfl (zE Tryz.func53 rfl) #[(zO gx),.string r.s] (zea (F19 19 rfl) (F19 21 rfl)) (zz ((rfind_is gx gc V L s n hi r.s hz1 w9 (h.step M9.below)))) ?_
   rintro _ w20 a20 ⟨rfl,b20⟩ F20
   have M20:=M9.step b20
   refine rm rfl F20 fun _ F21=>hK18 _ _ (zSk fun K22 hK22=>?_)
   have J22:∀ (zi:Int) (aJ:Act) (wJ:World),(zi=if z1<0 then z2 else z1)→Fx 33 aJ [(0,(zO gx)),(5,.slice A9 (l).length c9),(7,zI zi)]→Mx none w wJ [(0,blkO gx 72 (#[.slice (some ⟨gc,0,none⟩) 18 18,zI L,.bool false])),(1,blkO gc 63 (celA V.c s n)),(2,blkR g2 37 (recA r Vr)),(3,ownR l (.slice A9 (l).length c9))]→K22 aJ wJ:=by
    intro zi a22 w22 I22 F22 M22
    refine hK22 _ _ ?_
    obtain ⟨pn,py⟩:=put_idx hz1 hz2 I22 (X:=(V,7)) (F:=fun k=>((sayW V (2*k) l).1,if (sayW V (2*k) l).2=true then 0 else 10))
    refine zSk fun _ hK23=>zT fun _ hK24=>rm rfl F22 fun _ F25=>?_
    by_cases h26:zi<0
    ·refine zc (w':=w22) rfl rfl F25 rfl (.bool true) (zha _ _ _ _ rfl (F25 27 rfl) rfl (decide_eq_true h26)) fun _ F27=>?_
     refine hK24 _ _ (wp_cond_true (F27 28 rfl) (zT fun _ hK28=>rm rfl F27 fun _ F29=>hK28 _ _ (wp_ret ?_)))
     try simp only [Exit.then,Exit.inBlock,Exit.jump]
     exact bodyPost_ret (res1 rfl (F29.get rfl)) F29.defers ⟨_,rfl,(by
      try simp only [if_true,if_false,Bool.false_eq_true,reduceIte,reduceCtorEq]
      rw [pn h26]
      exact ⟨(by first | rfl | trivial),ho.to M22.below⟩)⟩
    ·obtain ⟨p,rfl,hp8,e2⟩:=py h26
     refine zc (w':=w22) rfl rfl F25 rfl (.bool false) (zha _ _ _ _ rfl (F25 27 rfl) rfl (decide_eq_false h26)) fun _ F30=>?_
     refine hK24 _ _ ?_
     refine wp_cond_false (F30 28 rfl) (wp_skip (hK23 _ _ (zT fun _ hK31=>rm rfl F30 fun _ F32=>rm rfl F32 fun _ F33=>rm rfl F33 fun _ F34=>zf rfl rfl F34 rfl rfl (zE Tryz.func55 rfl) #[(zO gx),zI (p:Int),.slice A9 (l).length c9] (args3 (F34 29 rfl) (F34 30 rfl) (F34 31 rfl)) (xwrite_any gx gc V s n hi hK hL hd p (by omega) l (.slice A9 (l).length c9) hll w22 (ho.step M22.below) (M22.isO (k:=3) rfl) (fun b hb=>⟨fun e=>M22.dis 3 0 _ _ rfl rfl (by decide) rfl b (zwa hb) e,fun e=>M22.dis 3 1 _ _ rfl rfl (by decide) rfl b (zwa hb) e⟩)) ?_)))
     rintro _ w35 a35 ⟨rfl,hw35⟩ F35
     refine rm rfl F35 fun _ F36=>hK31 _ _ (wp_ret ?_)
     try simp only [Exit.then,Exit.inBlock,Exit.jump]
     exact bodyPost_ret (res1 rfl (F36.get rfl)) F36.defers ⟨_,rfl,(by
      try simp only [if_true,if_false,Bool.false_eq_true,reduceIte,reduceCtorEq]
      rw [e2]
      exact ⟨(by first | rfl | trivial),XTo.before M22.below hw35⟩)⟩
   refine zT fun _ hK37=>rm rfl F21 fun _ F38=>?_
   by_cases h39:z1<0
   ·refine zc (w':=w20) rfl rfl F38 rfl (.bool true) (zha _ _ _ _ rfl (F38 23 rfl) rfl (decide_eq_true h39)) fun _ F40=>?_
    refine hK37 _ _ (wp_cond_true (F40 24 rfl) (zR (rm rfl F40 fun _ F41=>zf rfl rfl F41 rfl rfl (zE Tryz.func54 rfl) #[(zO gx)] (zy (F41 25 rfl)) (zz ((rfree_is gx gc V L s n hi hz2 w20 (h.step M20.below)))) ?_)))
    rintro _ w42 a42 ⟨rfl,b42⟩ F42
    have M42:=M20.step b42
    refine rm rfl F42 fun _ F43=>?_
    exact J22 z2 _ _ (by rw [if_pos h39]) (F43.sb) (M42.sb)
   ·refine zc (w':=w20) rfl rfl F38 rfl (.bool false) (zha _ _ _ _ rfl (F38 23 rfl) rfl (decide_eq_false h39)) fun _ F44=>?_
    refine hK37 _ _ (wp_cond_false (F44 24 rfl) (wp_skip ?_))
    exact J22 z1 _ _ (by rw [if_neg h39]) (F44.sb) (M20.sb)
 ·refine wp_cond_true (F6 11 rfl) (zT fun _ hK45=>rm rfl F6 fun _ F46=>hK45 _ _ (wp_ret ?_))
  try simp only [Exit.then,Exit.inBlock,Exit.jump]
  exact bodyPost_ret (res1 rfl (F46.get rfl)) F46.defers ⟨_,rfl,(by
   try simp only [if_true,if_false,Bool.false_eq_true,reduceIte,reduceCtorEq]
   exact ⟨(by first | rfl | trivial),ho.to M2.below⟩)⟩
theorem idx8_yes {p:Nat→Bool} {z:Int} (h:idx8 p=z) (hz:¬z<0):∃ k:Nat,z=(k:Int)∧k<8∧fst8 p=k:=by
 subst h
 unfold idx8 at hz ⊢
 split
 ·rename_i h8;exact ⟨_,rfl,h8,rfl⟩
 ·rename_i h8;rw [if_neg h8] at hz;omega
theorem idx8_not {p:Nat→Bool} {z:Int} (h:idx8 p=z) (hz:z<0):¬fst8 p<8:=fun h8=>by
 subst h;unfold idx8 at hz;rw [if_pos h8] at hz;omega
theorem xgone_any (gx gc:Nat) {K:Nat} (V:VltN) (s n:Nat→Value) (hi:InvV K V) (hK:K<255) (hL:LeftOk V) (nm:ByteArray) (w:World) (ho:XOk w gx gc V s n):
  Calls Tryz.prog 41 #[(zO gx),.string nm] w fun e w'=>∃ t,e=.returned t∧t=zI (goneV V nm).2∧XTo w w' gx gc (zq 18 s n) (goneV V nm).1:=by
 have h:=ho.has
 obtain ⟨L,hLv⟩:∃ x,leftR V=x:=⟨_,rfl⟩
 rw [hLv] at h
 obtain ⟨dd,hd⟩:∃ x,V.dd=x:=⟨_,rfl⟩
 have hx0:=h.hx
 rw [hd] at hx0
 obtain ⟨z1,hz1⟩:∃ x,idx8 (zaa V nm)=x:=⟨_,rfl⟩
 unfold goneV
 rw [hd]
 refine zj (args:=[(zO gx),.string nm]) 18 Tryz.func41 rfl rfl rfl ?_
 intro fa F
 have M:=Mx.start w
 replace M:=M.argO 0 hx0 (fun b e=>by cases e)
 replace M:=M.argO 1 h.hc (fun b e=>by cases e)
 refine zT fun _ hK1=>rm rfl F fun _ F2=>hK1 _ _ (zSk fun _ hK3=>zT fun _ hK4=>zB 4 [(0,(zO gx)),(1,.string nm),(4,zI 0),(9,.bool dd)] [0] (zw (M.roB (k:=0) rfl) dnil) [gx] F2 fun _ F5=>?_)
 refine hK4 _ _ ?_
 cases dd
 ·refine wp_cond_false (F5 9 rfl) (wp_skip (hK3 _ _ (zT fun _ hK6=>rm rfl F5 fun _ F7=>rm rfl F7 fun _ F8=>zf rfl rfl F8 rfl rfl (zE Tryz.func53 rfl) #[(zO gx),.string nm] (zea (F8 10 rfl) (F8 11 rfl)) (zz ((rfind_is gx gc V L s n hi nm hz1 w (h.step M.below)))) ?_)))
  rintro _ w9 a9 ⟨rfl,b9⟩ F9
  have M9:=M.step b9
  refine rm rfl F9 fun _ F10=>hK6 _ _ (zSk fun _ hK11=>zT fun _ hK12=>rm rfl F10 fun _ F13=>?_)
  by_cases h14:z1<0
  ·refine zc (w':=w9) rfl rfl F13 rfl (.bool true) (zha _ _ _ _ rfl (F13 13 rfl) rfl (decide_eq_true h14)) fun _ F15=>?_
   refine hK12 _ _ (wp_cond_true (F15 14 rfl) (zT fun _ hK16=>rm rfl F15 fun _ F17=>hK16 _ _ (wp_ret ?_)))
   try simp only [Exit.then,Exit.inBlock,Exit.jump]
   exact bodyPost_ret (res1 rfl (F17.get rfl)) F17.defers ⟨_,rfl,(by
    try simp only [if_true,if_false,Bool.false_eq_true,reduceIte,reduceCtorEq]
    rw [if_neg (idx8_not hz1 h14)]
    exact ⟨(by first | rfl | trivial),ho.to M9.below⟩)⟩
  ·obtain ⟨p,rfl,hp8,e2⟩:=idx8_yes hz1 h14
   refine zc (w':=w9) rfl rfl F13 rfl (.bool false) (zha _ _ _ _ rfl (F13 13 rfl) rfl (decide_eq_false h14)) fun _ F18=>?_
   refine hK12 _ _ (wp_cond_false (F18 14 rfl) (wp_skip (hK11 _ _ (zT fun _ hK19=>rm rfl F18 fun _ F20=>rm rfl F20 fun _ F21=>zf rfl rfl F21 rfl rfl (zE Tryz.func55 rfl) #[(zO gx),zI (p:Int),zN] (args3 (F21 15 rfl) (F21 16 rfl) rfl) (xwrite_any gx gc V s n hi hK hL hd p (by omega) [] (zN) (Nat.zero_le _) w9 (ho.step M9.below) (zka _) (fun b hb=>absurd hb (zsa b))) ?_))))
   rintro _ w22 a22 ⟨rfl,hw22⟩ F22
   refine rm rfl F22 fun _ F23=>hK19 _ _ (wp_ret ?_)
   try simp only [Exit.then,Exit.inBlock,Exit.jump]
   exact bodyPost_ret (res1 rfl (F23.get rfl)) F23.defers ⟨_,rfl,(by
    try simp only [if_true,if_false,Bool.false_eq_true,reduceIte,reduceCtorEq]
    rw [e2,if_pos hp8]
    exact ⟨(by first | rfl | trivial),XTo.before M9.below hw22⟩)⟩
 ·refine wp_cond_true (F5 9 rfl) (zT fun _ hK24=>rm rfl F5 fun _ F25=>hK24 _ _ (wp_ret ?_))
  try simp only [Exit.then,Exit.inBlock,Exit.jump]
  exact bodyPost_ret (res1 rfl (F25.get rfl)) F25.defers ⟨_,rfl,(by
   try simp only [if_true,if_false,Bool.false_eq_true,reduceIte,reduceCtorEq]
   exact ⟨(by first | rfl | trivial),ho.to M.below⟩)⟩
theorem XTo.fresh {w w1 w':World} {gx gc:Nat} {fp:Nat→Prop} {V:VltN} (hb:Below w.heap.size w w1) (h:XTo w1 w' gx gc fp V) (hx:w.heap.size≤gx) (hc:w.heap.size≤gc):Below w.heap.size w w':=
 ⟨h.os.trans hb.os,h.tape.trans hb.tape,h.out.trans hb.output,Nat.le_trans hb.size h.size,fun k hk=>(h.stay k (by omega) (by omega) (Nat.lt_of_lt_of_le hk hb.size)).trans (hb.block k hk)⟩
theorem left0:LeftOk zeroV:=fun e=>by cases e
theorem era0:(sayW zeroV 16 (zr ((0+1:Nat):Int))).1=ageW zeroV:=by unfold ageW;rw [num0];rfl
theorem xok0 {w:World} {gx gc:Nat} (hx:w.heap[gx]? = some (.cells #[.slice (some ⟨gc,0,none⟩) 18 18,zI (-1),.bool false] 72 (0,0))) (hc:w.heap[gc]? = some (.cells (celA (fun _=>nilC) nilS nilS) 63 (0,0))) (hne:gx≠gc):XOk w gx gc zeroV nilS nilS:=
 ⟨⟨hx,hc,fun _ _=>zka _,fun _ _=>zka _⟩,hne,fun _ _=>⟨⟨zsa _,zsa _⟩,zsa _,zsa _⟩⟩
theorem xnew_any  (w:World):
  Calls Tryz.prog 15 #[] w fun e w'=>∃ t,e=.returned t∧∃ gx gc s n,t=(zO gx)∧XOk w' gx gc (ageW zeroV) s n∧w.heap.size≤gx∧w.heap.size≤gc∧(∀ b,zq 18 s n b→w.heap.size≤b)∧Below w.heap.size w w':=by
 refine zj (args:=[]) 8 Tryz.func15 rfl rfl rfl ?_
 intro fa F
 have M:=Mx.start w
 refine zT fun _ hK1=>rm rfl F fun _ F2=>hK1 _ _ (zT fun _ hK3=>zdd rfl rfl F2 rfl M 0 (t:=63) (c:=celA (fun _=>nilC) nilS nilS) (k:=18) (m:=18) (y_mkCel _ _ _ Tryz.underlying49 rfl rfl rfl) ?_)
 intro g4 a4 w4 F4 M4
 refine zc (w':=w4) rfl rfl F4 rfl (.agg (#[.slice (some ⟨g4,0,none⟩) 18 18,zI (-1),.bool false])) (by unfold execOp;simp only [List.map_toArray,List.map_cons,List.map_nil,(F4 2 rfl)];kernel_rfl) fun _ F5=>?_
 refine zp rfl rfl F5 rfl M4 1 (t:=72) (c:=#[.slice (some ⟨g4,0,none⟩) 18 18,zI (-1),.bool false]) (by unfold execOp;simp only [(F5 3 rfl)];kernel_rfl) ?_
 intro g6 a6 w6 F6 M6
 refine rm rfl F6 fun _ F7=>hK3 _ _ (zT fun _ hK8=>rm rfl F7 fun _ F9=>?_)
 have ne_:g6≠g4:=fun e=>M6.dis 1 0 _ _ rfl rfl (by decide) rfl _ rfl e
 have lx_:=(M6.own 1 _ rfl rfl _ rfl).resolve_right (fun e=>by cases e)
 have lc_:=(M6.own 0 _ rfl rfl _ rfl).resolve_right (fun e=>by cases e)
 refine zf rfl rfl F9 rfl rfl (zE Tryz.func40 rfl) #[(zO g6)] (zy (F9 5 rfl)) (xera_any g6 g4 zeroV nilS nilS (zero_inv 0) (by decide) left0 rfl 0 (by decide) (bootR_zero (any0 16)) era0 w6 (xok0 (M6.blk (k:=1) rfl) (M6.blk (k:=0) rfl) ne_)) ?_
 rintro _ w10 a10 hw10 F10
 refine hK8 _ _ (zT fun _ hK11=>rm rfl F10 fun _ F12=>rm rfl F12 fun _ F13=>hK11 _ _ (wp_ret ?_))
 exact bodyPost_ret (res1 rfl (F13.get rfl)) F13.defers (by
  obtain ⟨s_,n_,ho_,hf_⟩:=hw10.ok
  exact ⟨_,rfl,_,_,s_,n_,rfl,ho_,lx_,lc_,fun b hb=>(hf_ b hb).elim (fun h=>absurd h (rows_nil b)) (Nat.le_trans M6.le),XTo.fresh M6.below hw10 lx_ lc_⟩)
theorem XOk.grow {w w':World} {gx gc g:Nat} {V:VltN} {s n:Nat→Value} (h:XOk w gx gc V s n) (hb:w.grownBy w' (some g)) (hg:¬(xR gx gc V s n).fp g):XOk w' gx gc V s n:=xR_dep _ _ (Same.of_grown hb fun q hq e=>hg (by cases e;exact hq)) h
structure VTo (w w':World) (g:Nat) (fp:Nat→Prop) (V':VltN) (s' n':Nat→Value):Prop where
 rows:RowsV w' g V'.c s' n'
 fpt:∀ b,zq 18 s' n' b→fp b∨w.heap.size≤b
 blk:w'.heap[g]? = some (.cells (vltA V' s' n') 80 (0,0))
 grown:w.grownBy w' (some g)
def StepV (V V':VltN):Prop:=(∃ r,RecOk r∧V'=(putV V r).1)∨∃ nm,V'=(goneV V nm).1
theorem step_keep6 {K:Nat} {V V':VltN} (h:StepV V V') (hi:InvV K V) (hK:K<255) {e:Int} (hE:EraV V e):InvV (K+1) V'∧EraV V' e:=by
 rcases h with ⟨r,_,rfl⟩ | ⟨nm,rfl⟩
 ·exact put_keep hi hK hE r
 ·exact gone_keep hi hK hE nm
theorem Mx.vmut {G:Option Nat} {w0 w:World} {R:List (Nat×Res)} {g v:Nat} {V V':VltN} {s n:Nat→Value} {fp:Nat→Prop} {f:FuncId} {args:Array Value} {x:Value} (M:Mx G w0 w R) (kg kr kp:Nat) (hg:look R kg=some (blkR g 80 (vltA V s n))) (hr:look R kr=some (zua 0 18 V.c s n)) (hp:look R kp=some (pureR (∀ b,zq 18 s n b→fp b∨v≤b))) (hv:v≤w.heap.size)
  (hc:Calls Tryz.prog f args w fun e w'=>∃ t,e=.returned t∧t=x∧∃ s' n',RowsV w' g V'.c s' n'∧(∀ b,zq 18 s' n' b→zq 18 s n b∨w.heap.size≤b)∧w'.heap[g]? = some (.cells (vltA V' s' n') 80 (0,0))∧w.grownBy w' (some g)):
  Calls Tryz.prog f args w fun e w'=>∃ t,e=.returned t∧∃ u:(Nat→Value)×(Nat→Value),Mx G w0 w' ((kp,pureR (∀ b,zq 18 u.1 u.2 b→fp b∨v≤b))::(kr,zua 0 18 V'.c u.1 u.2)::(kg,blkR g 80 (vltA V' u.1 u.2))::R)∧t=x:=
 hc.mono fun e w' ⟨t,h1,h2,s',n',h3,h4,h5,h6⟩=>⟨t,h1,(s',n'),(M.vault hg hr h6 h5 h3 h4).pure_ kp (fun b hb=>(h4 b hb).elim ((M.at_ kp _ hp:∀ b,zq 18 s n b→fp b∨v≤b) b) fun h=>.inr (Nat.le_trans hv h)),h2⟩
def setT (r:RecN) (t:Int):RecN:={ r with t:=t }
theorem setT_ok {r:RecN} (h:RecOk r) {t:Int} (ht:-9223372036854775808≤t∧t<9223372036854775808):RecOk (setT r t):=⟨h.p,ht,h.c,h.z,h.s,h.a,h.b⟩
theorem lstep_any (g gx gc:Nat) {K:Nat} (V:VltN) (s n sx nx:Nat→Value) (hi:InvV K V) (hK:K<255) (hL:LeftOk V) (b:List UInt8) (bv tv:Value) (hb:b.length≤1000) (z:Int) (hz:0≤z∧z<1073741824) (h7:z%12≤7) (w:World) (hr:RowsV w g V.c s n) (hg:w.heap[g]? = some (.cells (vltA V s n) 80 (0,0))) (hx:XOk w gx gc V sx nx) (hgx:¬(xR gx gc V sx nx).fp g) (hB:IsB w b bv) (hBg:¬bfp bv g):
  Calls Tryz.prog 16 #[(zO g),(zO gx),zI z,bv,tv] w fun e w'=>∃ t,e=.returned t∧t=.bool true∧∃ V',StepV V V'∧∃ wm s' n',VTo w wm g (zq 18 s n) V' s' n'∧XTo wm w' gx gc (zq 18 sx nx) V':=by
 obtain ⟨k,hk⟩:∃ x,z.tdiv 12=x:=⟨_,rfl⟩
 have hz12:z.tdiv 12=z / 12:=Int.tdiv_eq_ediv_of_nonneg hz.1
 obtain ⟨q,hq⟩:∃ x,z%12=x:=⟨_,rfl⟩
 have hq7:0≤q∧q≤7:=by omega
 have hkb:0≤k∧k<1073741824:=by omega
 obtain ⟨nj,hnj,hnj10⟩:∃ j:Nat,k%10=(j:Int)∧j<10:=⟨(k%10).toNat,by omega,by omega⟩
 obtain ⟨r,hr0⟩:∃ r,recK k b ((k.tdiv 23)%10).toNat=r:=⟨_,rfl⟩
 obtain ⟨ro,rp⟩:=rec6_ok _ _ hr0
 obtain ⟨Ab,cb,rfl⟩:=hB.shape
 refine zj (args:=[(zO g),(zO gx),zI z,.slice Ab b.length cb,tv]) 117 Tryz.func16 rfl rfl rfl ?_
 intro fa F
 have M:=(Mx.rowsG hr hg 1).pure_ 2 (p:=∀ b,zq 18 s n b→zq 18 s n b∨w.heap.size≤b) (fun b h=>.inl h)
 refine zT fun _ hK21=>rm rfl F fun _ F22=>hK21 _ _ (zT fun _ hK23=>rm rfl F22 fun _ F24=>zc (w':=w) rfl rfl F24 rfl (zI k) (y_quoT _ _ _ _ rfl (F24 20 rfl) rfl (by omega) (by decide) hk) fun _ F25=>?_)
 refine rm rfl F25 fun _ F26=>hK23 _ _ (zSk fun _ hK27=>zT fun _ hK28=>rm rfl F26 fun _ F29=>zc (w':=w) rfl rfl F29 rfl (zI q) (y_remI _ _ _ _ rfl (F29 22 rfl) rfl (by omega) (by omega) hq) fun _ F30=>?_)
 refine hK28 _ _ (wp_block (zSk fun K31 hK31=>?_))
 have J31:∀ (b49:Bool) (aJ:Act) (wJ:World),(b49=decide (q≤5))→Fx 117 aJ [(0,(zO g)),(1,(zO gx)),(3,.slice Ab b.length cb),(4,tv),(11,zI k),(23,zI q),(49,.bool b49)]→Mx (some g) w wJ [(1,zua 0 18 V.c s n),(0,blkR g 80 (vltA V s n)),(2,pureR (∀ b,zq 18 s n b→zq 18 s n b∨w.heap.size≤b))]→K31 aJ wJ:=by
  intro b49 a31 w31 I31 F31 M31
  refine hK31 _ _ ?_
  have h49:=I31
  cases b49
  ·have hq5:¬q≤5:=of_decide_eq_false h49.symm
   refine wp_cond_false (F31 49 rfl) (zSk fun K32 hK32=>?_)
   have J32:∀ (_u:Unit) (aJ:Act) (wJ:World),(True)→Fx 117 aJ [(0,(zO g)),(1,(zO gx)),(3,.slice Ab b.length cb),(4,tv),(11,zI k),(23,zI q),(70,.bool true)]→Mx (some g) w wJ [(1,zua 0 18 V.c s n),(0,blkR g 80 (vltA V s n)),(2,pureR (∀ b,zq 18 s n b→zq 18 s n b∨w.heap.size≤b))]→K32 aJ wJ:=by
    intro _u a32 w32 I32 F32 M32
    refine hK32 _ _ (wp_cond_true (F32 70 rfl) (zT fun _ hK33=>zf rfl rfl F32 rfl rfl (zE Tryz.func34 rfl) #[] (args0) (names6_ex w32) ?_))
    rintro _ w34 a34 ⟨gq34,rfl,hg34,hc34,b34⟩ F34
    have M34:=M32.newb b34 3 hg34 hc34
    clear M32 b34 hg34 hc34
    refine rm rfl F34 fun _ F35=>zc (w':=w34) rfl rfl F35 rfl (zI (nj:Int)) (y_remI _ _ _ _ rfl (F35 74 rfl) rfl (by omega) (by omega) hnj) fun _ F36=>?_
    refine zc (w':=w34) rfl rfl F36 rfl (zP gq34 nj) (zjc 45 (s:=1) Tryz.underlying45 (by kernel_rfl) _ _ rfl (F36 73 rfl) (F36 75 rfl) rfl hnj10 (by omega)) fun _ F37=>?_
    refine zc (w':=w34) rfl rfl F37 rfl (.string (nmK nj)) (zda _ _ rfl (F37 76 rfl) (M34.blk (k:=3) rfl) (nmA_at (show nj<10 by omega)) Tryz.underlying9 rfl) fun _ F38=>?_
    refine rm rfl F38 fun _ F39=>hK33 _ _ (zT fun _ hK40=>rm rfl F39 fun _ F41=>rm rfl F41 fun _ F42=>?_)
    obtain ⟨V2,hV2⟩:∃ x,(goneV V (nmK nj)).1=x:=⟨_,rfl⟩
    obtain ⟨z2,hz2⟩:∃ x,(goneV V (nmK nj)).2=x:=⟨_,rfl⟩
    refine zf rfl rfl F42 rfl rfl (zE Tryz.func27 rfl) #[(zO g),.string (nmK nj)] (zea (F42 78 rfl) (F42 79 rfl)) (gone_is g V s n (nmK nj) hi (by omega) V2 z2 hV2 hz2 w34  (M34.rowsV (i:=1) (k:=0) rfl rfl (by decide)) (M34.blk (k:=0) rfl)) ?_
    rintro _ w43 a43 ⟨rfl,s43,n43,hr43,ht43,hc43,hg43⟩ F43
    have hto_:=fun b hb=>(ht43 b hb).imp id (Nat.le_trans M34.le)
    have M43:=M34.vault (kg:=0) (kr:=1) rfl rfl hg43 hc43 hr43 ht43
    clear M34 hg43 hc43 hr43 ht43
    refine rm rfl F43 fun _ F44=>rm rfl F44 fun _ F45=>zf rfl rfl F45 rfl rfl (zE Tryz.func41 rfl) #[(zO gx),.string (nmK nj)] (zea (F45 81 rfl) (F45 82 rfl)) (hz2▸hV2▸xgone_any gx gc V sx nx hi hK hL (nmK nj) w43 (hx.grow M43.grown hgx)) ?_
    rintro _ w46 a46 ⟨rfl,hw46⟩ F46
    refine zc (w':=w46) rfl rfl F46 rfl (.bool true) (zcb _ _ _ _ rfl (F46 80 rfl) (F46 83 rfl) Tryz.underlying3 (zvb rfl)) fun _ F47=>?_
    refine rm rfl F47 fun _ F48=>hK40 _ _ (wp_ret ?_)
    try simp only [Exit.then,Exit.inBlock,Exit.jump]
    exact bodyPost_ret (res1 rfl (F48.get rfl)) F48.defers ⟨_,rfl,rfl,V2,(.inr ⟨_,hV2.symm⟩),_,s43,n43,⟨M43.rowsV (i:=1) (k:=0) rfl rfl (by decide),hto_,M43.blk (k:=0) rfl,M43.grown⟩,hw46⟩
   refine zT fun _ hK49=>?_
   by_cases h50:q=6
   ·refine zc (w':=w31) rfl rfl F31 rfl (.bool true) (zcb _ _ _ _ rfl (F31 23 rfl) rfl Tryz.underlying3 (zvb h50)) fun _ F51=>?_
    refine rm rfl F51 fun _ F52=>hK49 _ _ (wp_cond_true (F52 70 rfl) (wp_skip ?_))
    exact J32 () _ _ trivial (F52.sb) (M31.sb)
   ·refine zc (w':=w31) rfl rfl F31 rfl (.bool false) (zcb _ _ _ _ rfl (F31 23 rfl) rfl Tryz.underlying3 (zdc h50)) fun _ F53=>?_
    refine rm rfl F53 fun _ F54=>hK49 _ _ (wp_cond_false (F54 70 rfl) (zR ?_))
    by_cases h55:q=7
    ·refine zc (w':=w31) rfl rfl F54 rfl (.bool true) (zcb _ _ _ _ rfl (F54 23 rfl) rfl Tryz.underlying3 (zvb h55)) fun _ F56=>?_
     refine rm rfl F56 fun _ F57=>?_
     exact J32 () _ _ trivial (F57.sb) (M31.sb)
    ·omega
  ·have hq5:q≤5:=of_decide_eq_true h49.symm
   refine wp_cond_true (F31 49 rfl) (zT fun _ hK58=>rm rfl F31 fun _ F59=>rm rfl F59 fun _ F60=>zf rfl rfl F60 rfl rfl (zE Tryz.func21 rfl) #[zI k,.slice Ab b.length cb] (zea (F60 56 rfl) (F60 57 rfl)) (rec6_is k b (.slice Ab b.length cb) (by omega) hb r hr0 w31 (hB.grow M31.grown hBg)) ?_)
   rintro _ w61 a61 ⟨U61,rfl,is61,lo61,b61⟩ F61
   have M61:=M31.newRec b61 is61 lo61 3 4
   clear M31 b61 lo61
   refine zp rfl rfl F61 rfl M61 5 (t:=37) (c:=recA ⟨0, "".toUTF8,[],0,0,[],0,0,0⟩ ⟨zN,zN⟩) (by unfold execOp;kernel_rfl) ?_
   intro g62 a62 w62 F62 M62
   refine zu rfl rfl F62 M62 (k:=5) rfl _ _ _ rfl (F62 12 rfl) (F62 58 rfl) (recA r U61) _ rfl (zL rfl) (z7a (w:=w62) ⟨(M62.isb (k:=3) rfl),(M62.isb (k:=4) rfl)⟩) (zba rfl) (by kernel_rfl) ?_
   intro w63 M63
   refine hK58 _ _ (zSk fun _ hK64=>zT fun _ hK65=>rm rfl F62 fun _ F66=>zc (w':=w63) rfl rfl F66 rfl (zI (k%41)) (y_remI _ _ _ _ rfl (F66 59 rfl) rfl (by omega) (by omega) rfl) fun _ F67=>?_)
   by_cases h68:(k%41)=0
   ·refine zc (w':=w63) rfl rfl F67 rfl (.bool true) (zcb _ _ _ _ rfl (F67 60 rfl) rfl Tryz.underlying3 (zvb h68)) fun _ F69=>?_
    refine hK65 _ _ (wp_cond_true (F69 61 rfl) (zR (zc (w':=w63) rfl rfl F69 rfl (zP g62 20) (y_fa (off:=20) rfl (F69 12 rfl) (by kernel_rfl) rfl) fun _ F70=>?_)))
    refine zu rfl rfl F70 M63 (k:=5) rfl _ _ _ rfl (F70 62 rfl) rfl (#[zI 300]) (recA ⟨r.p,r.s,r.l2,r.a,r.b,r.l5,300,r.c,r.z⟩ ⟨U61.v2,U61.v5⟩) rfl (zL rfl) (zoc _ _) (by kernel_rfl) (by kernel_rfl) ?_
    intro w71 M71
    refine hK64 _ _ (zSk fun _ hK72=>?_)
    obtain ⟨V2,hV2⟩:∃ x,(putV V (setT r 300)).1=x:=⟨_,rfl⟩
    obtain ⟨z2,hz2⟩:∃ x,(putV V (setT r 300)).2=x:=⟨_,rfl⟩
    refine zya F70 [fun vE=>vE=(zO g),fun vE=>vE=.agg (recA ⟨r.p,r.s,r.l2,r.a,r.b,r.l5,300,r.c,r.z⟩ ⟨U61.v2,U61.v5⟩),fun vE=>vE=zI z2,fun vE=>vE=(zO gx),fun vE=>vE=.agg (recA ⟨r.p,r.s,r.l2,r.a,r.b,r.l5,300,r.c,r.z⟩ ⟨U61.v2,U61.v5⟩)] (JQ (some g) w (fun SV=>True) (fun (xJ:(Nat→Value)×(Nat→Value)) SV pV=>[(1,zxa (SV 2) (zua 0 18 V2.c xJ.1 xJ.2) (zua 0 18 V.c s n)),(0,zxa (SV 2) (blkR g 80 (vltA V2 xJ.1 xJ.2)) (blkR g 80 (vltA V s n))),(2,zxa (SV 2) (pureR (∀ b,zq 18 xJ.1 xJ.2 b→zq 18 s n b∨w.heap.size≤b)) (pureR (∀ b,zq 18 s n b→zq 18 s n b∨w.heap.size≤b))),(3,bytR r.l2 U61.v2),(4,bytR r.l5 U61.v5),(5,blkR g62 37 (recA ⟨r.p,r.s,r.l2,r.a,r.b,r.l5,300,r.c,r.z⟩ ⟨U61.v2,U61.v5⟩))])) 5 rfl (by kernel_rfl) rfl ⟨trivial,trivial,trivial,trivial,trivial,trivial⟩ (fun p=>JQ.mk trivial (s,n) ((M71.step (zra _)).sub ⟨rfl,rfl,rfl,rfl,rfl,rfl,trivial⟩)) ⟨?_,?_,?_,?_,?_,trivial⟩ ?_
    ·intro ua uw SV pV M0 hk hn hd
     obtain ⟨HP,xJ,M⟩:=M0
     replace M:Mx (some g) w uw _:=M
     have e0:ua.eval (.tmp 0)=(zO g):=(show ua.eval (.tmp 0)=_ from hd 0 (by decide)).trans (F70 0 rfl)
     exact zg rfl (zO g) (zpa _ (.inl rfl) e0) rfl ((JQ.mk trivial xJ (M.sb)))
    ·intro ua uw SV pV M0 hk hn hd
     obtain ⟨HP,xJ,M⟩:=M0
     replace M:Mx (some g) w uw _:=M
     have e12:ua.eval (.tmp 12)=(zO g62):=(show ua.eval (.tmp 12)=_ from hd 12 (by decide)).trans (F70 12 rfl)
     exact zg rfl _ (zfb _ _ rfl e12 (M.blk (k:=5) rfl) (recA ⟨r.p,r.s,r.l2,r.a,r.b,r.l5,300,r.c,r.z⟩ ⟨U61.v2,U61.v5⟩) (zmb rfl) Tryz.underlying37 rfl (by kernel_rfl)) rfl ((JQ.mk trivial xJ (M.sb)))
    ·intro ua uw SV pV M0 hk hn hd
     obtain ⟨HP,xJ,M⟩:=M0
     replace M:Mx (some g) w uw _:=M
     have e63:ua.eval (.tmp 63)=(zO g):=zQ1 (hd 63 (by decide))
     have e64:ua.eval (.tmp 64)=.agg (recA ⟨r.p,r.s,r.l2,r.a,r.b,r.l5,300,r.c,r.z⟩ ⟨U61.v2,U61.v5⟩):=zQ1 (hd 64 (by decide))
     exact z6a rfl rfl #[(zO g),.agg (recA ⟨r.p,r.s,r.l2,r.a,r.b,r.l5,300,r.c,r.z⟩ ⟨U61.v2,U61.v5⟩)] (zea e63 e64) (zE Tryz.func22 rfl) ((Mx.vmut M 0 1 2 (zia hk rfl) (zia hk rfl) (zia hk rfl) M.le (put_is g V s n (setT r 300) ⟨U61.v2,U61.v5⟩ (setT_ok ro (by decide)) hi (by omega) V2 z2 hV2 hz2 uw ⟨M.isb (k:=3) rfl,M.isb (k:=4) rfl⟩ ⟨(fun h=>M.dis 0 3 _ _ (zia hk rfl) rfl (by decide) rfl _ rfl h),(fun h=>M.dis 0 4 _ _ (zia hk rfl) rfl (by decide) rfl _ rfl h)⟩ (M.rowsV (i:=1) (k:=0) (zia hk rfl) (zia hk rfl) (by decide)) (M.blk (k:=0) (zia hk rfl)))).mono fun e w2 h=>(by obtain ⟨t,h1,u2_,N,h2⟩:=h;exact ⟨t,h1,h2,(JQ.mk trivial u2_ (N.sb))⟩))
    ·intro ua uw SV pV M0 hk hn hd
     obtain ⟨HP,xJ,M⟩:=M0
     replace M:Mx (some g) w uw _:=M
     have e1:ua.eval (.tmp 1)=(zO gx):=(show ua.eval (.tmp 1)=_ from hd 1 (by decide)).trans (F70 1 rfl)
     exact zg rfl (zO gx) (zpa _ (.inl rfl) e1) rfl ((JQ.mk trivial xJ (M.sb)))
    ·intro ua uw SV pV M0 hk hn hd
     obtain ⟨HP,xJ,M⟩:=M0
     replace M:Mx (some g) w uw _:=M
     have e12:ua.eval (.tmp 12)=(zO g62):=(show ua.eval (.tmp 12)=_ from hd 12 (by decide)).trans (F70 12 rfl)
     exact zg rfl _ (zfb _ _ rfl e12 (M.blk (k:=5) rfl) (recA ⟨r.p,r.s,r.l2,r.a,r.b,r.l5,300,r.c,r.z⟩ ⟨U61.v2,U61.v5⟩) (zmb rfl) Tryz.underlying37 rfl (by kernel_rfl)) rfl ((JQ.mk trivial xJ (M.sb)))
    intro p73 a73 w73 M73 G73 y73
    obtain ⟨-,-,q2,q3,q4,-⟩:=y73
    have r2:p73 2=zI z2:=q2
    have r3:p73 3=(zO gx):=q3
    have r4:p73 4=.agg (recA ⟨r.p,r.s,r.l2,r.a,r.b,r.l5,300,r.c,r.z⟩ ⟨U61.v2,U61.v5⟩):=q4
    obtain ⟨-,xJ73,M73⟩:=M73
    replace M73:Mx _ _ w73 [(1,zxa true (zua 0 18 V2.c xJ73.1 xJ73.2) (zua 0 18 V.c s n)),(0,zxa true (blkR g 80 (vltA V2 xJ73.1 xJ73.2)) (blkR g 80 (vltA V s n))),(2,zxa true (pureR (∀ b,zq 18 xJ73.1 xJ73.2 b→zq 18 s n b∨w.heap.size≤b)) (pureR (∀ b,zq 18 s n b→zq 18 s n b∨w.heap.size≤b))),(3,bytR r.l2 U61.v2),(4,bytR r.l5 U61.v5),(5,blkR g62 37 (recA ⟨r.p,r.s,r.l2,r.a,r.b,r.l5,300,r.c,r.z⟩ ⟨U61.v2,U61.v5⟩))]:=M73
    simp only [List.take,layV,Nat.zero_add,Nat.reduceAdd,r2,r3,r4] at G73
    refine zf rfl rfl G73 rfl rfl (zE Tryz.func23 rfl) #[(zO gx),.agg (recA ⟨r.p,r.s,r.l2,r.a,r.b,r.l5,300,r.c,r.z⟩ ⟨U61.v2,U61.v5⟩)] (zea (G73 66 rfl) (G73 67 rfl)) (hz2▸hV2▸xput_any gx gc V sx nx hi hK hL (setT r 300) ⟨U61.v2,U61.v5⟩ (setT_ok ro (by decide)) w73 (hx.grow M73.grown hgx) ⟨(M73.isb (k:=3) rfl),(M73.isb (k:=4) rfl)⟩) ?_
    rintro _ w74 a74 ⟨rfl,hw74⟩ F74
    refine zc (w':=w74) rfl rfl F74 rfl (.bool true) (zcb _ _ _ _ rfl (F74 65 rfl) (F74 68 rfl) Tryz.underlying3 (zvb rfl)) fun _ F75=>?_
    refine rm rfl F75 fun _ F76=>hK72 _ _ (wp_ret ?_)
    try simp only [Exit.then,Exit.inBlock,Exit.jump]
    exact bodyPost_ret (res1 rfl (F76.get rfl)) F76.defers ⟨_,rfl,rfl,V2,(.inl ⟨(setT r 300),(setT_ok ro (by decide)),hV2.symm⟩),_,xJ73.1,xJ73.2,⟨M73.rowsV (i:=1) (k:=0) rfl rfl (by decide),(M73.at_ 2 _ rfl),M73.blk (k:=0) rfl,M73.grown⟩,hw74⟩
   ·refine zc (w':=w63) rfl rfl F67 rfl (.bool false) (zcb _ _ _ _ rfl (F67 60 rfl) rfl Tryz.underlying3 (zdc h68)) fun _ F77=>?_
    refine hK65 _ _ (wp_cond_false (F77 61 rfl) (wp_skip (hK64 _ _ (zSk fun _ hK78=>?_))))
    obtain ⟨V2,hV2⟩:∃ x,(putV V r).1=x:=⟨_,rfl⟩
    obtain ⟨z2,hz2⟩:∃ x,(putV V r).2=x:=⟨_,rfl⟩
    refine zya F77 [fun vE=>vE=(zO g),fun vE=>vE=.agg (recA r U61),fun vE=>vE=zI z2,fun vE=>vE=(zO gx),fun vE=>vE=.agg (recA r U61)] (JQ (some g) w (fun SV=>True) (fun (xJ:(Nat→Value)×(Nat→Value)) SV pV=>[(1,zxa (SV 2) (zua 0 18 V2.c xJ.1 xJ.2) (zua 0 18 V.c s n)),(0,zxa (SV 2) (blkR g 80 (vltA V2 xJ.1 xJ.2)) (blkR g 80 (vltA V s n))),(2,zxa (SV 2) (pureR (∀ b,zq 18 xJ.1 xJ.2 b→zq 18 s n b∨w.heap.size≤b)) (pureR (∀ b,zq 18 s n b→zq 18 s n b∨w.heap.size≤b))),(3,bytR r.l2 U61.v2),(4,bytR r.l5 U61.v5),(5,blkR g62 37 (recA r U61))])) 5 rfl (by kernel_rfl) rfl ⟨trivial,trivial,trivial,trivial,trivial,trivial⟩ (fun p=>JQ.mk trivial (s,n) ((M63.step (zra _)).sub ⟨rfl,rfl,rfl,rfl,rfl,rfl,trivial⟩)) ⟨?_,?_,?_,?_,?_,trivial⟩ ?_
    ·intro ua uw SV pV M0 hk hn hd
     obtain ⟨HP,xJ,M⟩:=M0
     replace M:Mx (some g) w uw _:=M
     have e0:ua.eval (.tmp 0)=(zO g):=(show ua.eval (.tmp 0)=_ from hd 0 (by decide)).trans (F77 0 rfl)
     exact zg rfl (zO g) (zpa _ (.inl rfl) e0) rfl ((JQ.mk trivial xJ (M.sb)))
    ·intro ua uw SV pV M0 hk hn hd
     obtain ⟨HP,xJ,M⟩:=M0
     replace M:Mx (some g) w uw _:=M
     have e12:ua.eval (.tmp 12)=(zO g62):=(show ua.eval (.tmp 12)=_ from hd 12 (by decide)).trans (F77 12 rfl)
     exact zg rfl _ (zfb _ _ rfl e12 (M.blk (k:=5) rfl) (recA r U61) (zmb rfl) Tryz.underlying37 rfl (by kernel_rfl)) rfl ((JQ.mk trivial xJ (M.sb)))
    ·intro ua uw SV pV M0 hk hn hd
     obtain ⟨HP,xJ,M⟩:=M0
     replace M:Mx (some g) w uw _:=M
     have e63:ua.eval (.tmp 63)=(zO g):=zQ1 (hd 63 (by decide))
     have e64:ua.eval (.tmp 64)=.agg (recA r U61):=zQ1 (hd 64 (by decide))
     exact z6a rfl rfl #[(zO g),.agg (recA r U61)] (zea e63 e64) (zE Tryz.func22 rfl) ((Mx.vmut M 0 1 2 (zia hk rfl) (zia hk rfl) (zia hk rfl) M.le (put_is g V s n r ⟨U61.v2,U61.v5⟩ ro hi (by omega) V2 z2 hV2 hz2 uw ⟨M.isb (k:=3) rfl,M.isb (k:=4) rfl⟩ ⟨(fun h=>M.dis 0 3 _ _ (zia hk rfl) rfl (by decide) rfl _ rfl h),(fun h=>M.dis 0 4 _ _ (zia hk rfl) rfl (by decide) rfl _ rfl h)⟩ (M.rowsV (i:=1) (k:=0) (zia hk rfl) (zia hk rfl) (by decide)) (M.blk (k:=0) (zia hk rfl)))).mono fun e w2 h=>(by obtain ⟨t,h1,u2_,N,h2⟩:=h;exact ⟨t,h1,h2,(JQ.mk trivial u2_ (N.sb))⟩))
    ·intro ua uw SV pV M0 hk hn hd
     obtain ⟨HP,xJ,M⟩:=M0
     replace M:Mx (some g) w uw _:=M
     have e1:ua.eval (.tmp 1)=(zO gx):=(show ua.eval (.tmp 1)=_ from hd 1 (by decide)).trans (F77 1 rfl)
     exact zg rfl (zO gx) (zpa _ (.inl rfl) e1) rfl ((JQ.mk trivial xJ (M.sb)))
    ·intro ua uw SV pV M0 hk hn hd
     obtain ⟨HP,xJ,M⟩:=M0
     replace M:Mx (some g) w uw _:=M
     have e12:ua.eval (.tmp 12)=(zO g62):=(show ua.eval (.tmp 12)=_ from hd 12 (by decide)).trans (F77 12 rfl)
     exact zg rfl _ (zfb _ _ rfl e12 (M.blk (k:=5) rfl) (recA r U61) (zmb rfl) Tryz.underlying37 rfl (by kernel_rfl)) rfl ((JQ.mk trivial xJ (M.sb)))
    intro p79 a79 w79 M79 G79 y79
    obtain ⟨-,-,q2,q3,q4,-⟩:=y79
    have r2:p79 2=zI z2:=q2
    have r3:p79 3=(zO gx):=q3
    have r4:p79 4=.agg (recA r U61):=q4
    obtain ⟨-,xJ79,M79⟩:=M79
    replace M79:Mx _ _ w79 [(1,zxa true (zua 0 18 V2.c xJ79.1 xJ79.2) (zua 0 18 V.c s n)),(0,zxa true (blkR g 80 (vltA V2 xJ79.1 xJ79.2)) (blkR g 80 (vltA V s n))),(2,zxa true (pureR (∀ b,zq 18 xJ79.1 xJ79.2 b→zq 18 s n b∨w.heap.size≤b)) (pureR (∀ b,zq 18 s n b→zq 18 s n b∨w.heap.size≤b))),(3,bytR r.l2 U61.v2),(4,bytR r.l5 U61.v5),(5,blkR g62 37 (recA r U61))]:=M79
    simp only [List.take,layV,Nat.zero_add,Nat.reduceAdd,r2,r3,r4] at G79
    refine zf rfl rfl G79 rfl rfl (zE Tryz.func23 rfl) #[(zO gx),.agg (recA r U61)] (zea (G79 66 rfl) (G79 67 rfl)) (hz2▸hV2▸xput_any gx gc V sx nx hi hK hL r ⟨U61.v2,U61.v5⟩ ro w79 (hx.grow M79.grown hgx) ⟨(M79.isb (k:=3) rfl),(M79.isb (k:=4) rfl)⟩) ?_
    rintro _ w80 a80 ⟨rfl,hw80⟩ F80
    refine zc (w':=w80) rfl rfl F80 rfl (.bool true) (zcb _ _ _ _ rfl (F80 65 rfl) (F80 68 rfl) Tryz.underlying3 (zvb rfl)) fun _ F81=>?_
    refine rm rfl F81 fun _ F82=>hK78 _ _ (wp_ret ?_)
    try simp only [Exit.then,Exit.inBlock,Exit.jump]
    exact bodyPost_ret (res1 rfl (F82.get rfl)) F82.defers ⟨_,rfl,rfl,V2,(.inl ⟨r,ro,hV2.symm⟩),_,xJ79.1,xJ79.2,⟨M79.rowsV (i:=1) (k:=0) rfl rfl (by decide),(M79.at_ 2 _ rfl),M79.blk (k:=0) rfl,M79.grown⟩,hw80⟩
 refine zT fun _ hK83=>?_
 by_cases h84:q=0
 ·refine zc (w':=w) rfl rfl F30 rfl (.bool true) (zcb _ _ _ _ rfl (F30 23 rfl) rfl Tryz.underlying3 (zvb h84)) fun _ F85=>?_
  refine rm rfl F85 fun _ F86=>hK83 _ _ (wp_cond_true (F86 49 rfl) (wp_skip ?_))
  exact J31 true _ _ (decide_eq_true (show q≤5 by omega)).symm (F86.sb) (M.sb)
 ·refine zc (w':=w) rfl rfl F30 rfl (.bool false) (zcb _ _ _ _ rfl (F30 23 rfl) rfl Tryz.underlying3 (zdc h84)) fun _ F87=>?_
  refine rm rfl F87 fun _ F88=>hK83 _ _ (wp_cond_false (F88 49 rfl) (zT fun _ hK89=>?_))
  by_cases h90:q=1
  ·refine zc (w':=w) rfl rfl F88 rfl (.bool true) (zcb _ _ _ _ rfl (F88 23 rfl) rfl Tryz.underlying3 (zvb h90)) fun _ F91=>?_
   refine rm rfl F91 fun _ F92=>hK89 _ _ (wp_cond_true (F92 49 rfl) (wp_skip ?_))
   exact J31 true _ _ (decide_eq_true (show q≤5 by omega)).symm (F92.sb) (M.sb)
  ·refine zc (w':=w) rfl rfl F88 rfl (.bool false) (zcb _ _ _ _ rfl (F88 23 rfl) rfl Tryz.underlying3 (zdc h90)) fun _ F93=>?_
   refine rm rfl F93 fun _ F94=>hK89 _ _ (wp_cond_false (F94 49 rfl) (zT fun _ hK95=>?_))
   by_cases h96:q=2
   ·refine zc (w':=w) rfl rfl F94 rfl (.bool true) (zcb _ _ _ _ rfl (F94 23 rfl) rfl Tryz.underlying3 (zvb h96)) fun _ F97=>?_
    refine rm rfl F97 fun _ F98=>hK95 _ _ (wp_cond_true (F98 49 rfl) (wp_skip ?_))
    exact J31 true _ _ (decide_eq_true (show q≤5 by omega)).symm (F98.sb) (M.sb)
   ·refine zc (w':=w) rfl rfl F94 rfl (.bool false) (zcb _ _ _ _ rfl (F94 23 rfl) rfl Tryz.underlying3 (zdc h96)) fun _ F99=>?_
    refine rm rfl F99 fun _ F100=>hK95 _ _ (wp_cond_false (F100 49 rfl) (zT fun _ hK101=>?_))
    by_cases h102:q=3
    ·refine zc (w':=w) rfl rfl F100 rfl (.bool true) (zcb _ _ _ _ rfl (F100 23 rfl) rfl Tryz.underlying3 (zvb h102)) fun _ F103=>?_
     refine rm rfl F103 fun _ F104=>hK101 _ _ (wp_cond_true (F104 49 rfl) (wp_skip ?_))
     exact J31 true _ _ (decide_eq_true (show q≤5 by omega)).symm (F104.sb) (M.sb)
    ·refine zc (w':=w) rfl rfl F100 rfl (.bool false) (zcb _ _ _ _ rfl (F100 23 rfl) rfl Tryz.underlying3 (zdc h102)) fun _ F105=>?_
     refine rm rfl F105 fun _ F106=>hK101 _ _ (wp_cond_false (F106 49 rfl) (zT fun _ hK107=>?_))
     by_cases h108:q=4
     ·refine zc (w':=w) rfl rfl F106 rfl (.bool true) (zcb _ _ _ _ rfl (F106 23 rfl) rfl Tryz.underlying3 (zvb h108)) fun _ F109=>?_
      refine rm rfl F109 fun _ F110=>hK107 _ _ (wp_cond_true (F110 49 rfl) (wp_skip ?_))
      exact J31 true _ _ (decide_eq_true (show q≤5 by omega)).symm (F110.sb) (M.sb)
     ·refine zc (w':=w) rfl rfl F106 rfl (.bool false) (zcb _ _ _ _ rfl (F106 23 rfl) rfl Tryz.underlying3 (zdc h108)) fun _ F111=>?_
      refine rm rfl F111 fun _ F112=>hK107 _ _ (wp_cond_false (F112 49 rfl) (zR ?_))
      by_cases h113:q=5
      ·refine zc (w':=w) rfl rfl F112 rfl (.bool true) (zcb _ _ _ _ rfl (F112 23 rfl) rfl Tryz.underlying3 (zvb h113)) fun _ F114=>?_
       refine rm rfl F114 fun _ F115=>?_
       exact J31 true _ _ (decide_eq_true (show q≤5 by omega)).symm (F115.sb) (M.sb)
      ·refine zc (w':=w) rfl rfl F112 rfl (.bool false) (zcb _ _ _ _ rfl (F112 23 rfl) rfl Tryz.underlying3 (zdc h113)) fun _ F116=>?_
       refine rm rfl F116 fun _ F117=>?_
       exact J31 false _ _ (decide_eq_false (show ¬q≤5 by omega)).symm (F117.sb) (M.sb)
section
open Go.Shelf
def CleanC (i:Nat) (c:CelN):Prop:=c.f=false∧c.n=[]∧(c.s=[]∨∃ x8:UInt8,c.s[8]? = some x8∧c.s.length=25+x8.toNat∧c.s.drop (c.s.length-16)=sumY (outF (macW [] [cellB,zr (i:Int),c.s.take (c.s.length-16)])))
def CleanV (V:VltN):Prop:=∀ i,CleanC i (V.c i)
theorem clean_said (i:Nat) (t:Int) {l:List UInt8} (hl:l.length≤255):CleanC i ⟨zza zo i t l,[],false⟩:=by
 refine ⟨rfl,rfl,.inr ⟨_,saidL_at8 zo i t l,?_,?_⟩⟩
 ·dsimp only
  rw [saidL_len zo sealH_len,byteI_nat (by omega)]
 ·dsimp only
  have e:(zza zo i t l).length-16=(bodyL t l).length:=by
   unfold zza
   rw [List.length_append,sealH_len];omega
  rw [e]
  unfold zza
  rw [List.drop_left,List.take_left]
  rfl
theorem clean_say {V:VltN} (h:CleanV V) (hf:V.fl=false) (q:Nat) {l:List UInt8} (hl:l.length≤255):CleanV (sayW V q l).1∧(sayW V q l).1.fl=false∧(sayW V q l).1.dd=V.dd:=by
 have h1:zbc V=false:=by unfold zbc;rw [hf];rfl
 have h2:zbc (z4b V (nxtP V q) (zza zo (nxtP V q) (nxtT V q) l))=false:=by unfold zbc;rw [show (z4b V (nxtP V q) (zza zo (nxtP V q) (nxtT V q) l)).fl=V.fl from rfl,hf];rfl
 rw [say_3 rfl rfl h1 h2]
 refine ⟨fun i=>?_,hf,rfl⟩
 rw [keep_c]
 by_cases e:i=nxtP V q
 ·subst e;rw [zhb];exact clean_said _ _ hl
 ·rw [zlb _ _ e,zlb _ _ e];exact h i
theorem clean_zero:CleanV zeroV:=fun i=>⟨rfl,rfl,.inl rfl⟩
structure StOk (K:Nat) (V:VltN):Prop where
 inv:InvV K V
 era:EraV V 1
 fl:V.fl=false
 dd:V.dd=false
 cl:CleanV V
theorem StOk.left {K:Nat} {V:VltN} (h:StOk K V):LeftOk V:=fun e=>by rw [h.fl] at e;cases e
theorem StOk.mono {K K':Nat} {V:VltN} (h:StOk K V) (hK:K≤K'):StOk K' V:=⟨h.inv.mono hK,h.era,h.fl,h.dd,h.cl⟩
theorem st_new:StOk 1 (ageW zeroV):=⟨new_is.2.1,new_is.1,new_is.2.2.1,new_is.2.2.2,(clean_say clean_zero rfl 16 (by rw [zfa];omega)).1⟩
theorem st_step {K:Nat} {V V':VltN} (h:StOk K V) (hK:K<255) (hs:StepV V V'):StOk (K+1) V':=by
 obtain ⟨h1,h2⟩:=step_keep6 hs h.inv hK h.era
 have key:CleanV V'∧V'.fl=false∧V'.dd=false:=by
  have same:CleanV V∧V.fl=false∧V.dd=false:=⟨h.cl,h.fl,h.dd⟩
  have say:∀ q (l:List UInt8),l.length≤255→CleanV (sayW V q l).1∧(sayW V q l).1.fl=false∧(sayW V q l).1.dd=false:=fun q l hl=>by
   have:=clean_say h.cl h.fl q hl
   rw [h.dd] at this;exact this
  rcases hs with ⟨r,_,rfl⟩ | ⟨nm,rfl⟩
  ·unfold putV
   have hl:=recE_bd r
   split
   ·exact same
   ·split
    ·exact same
    ·split
     ·exact say _ _ (by omega)
     ·split
      ·exact say _ _ (by omega)
      ·exact same
  ·unfold goneV
   split
   ·exact same
   ·split
    ·exact say _ _ (Nat.zero_le _)
    ·exact same
 exact ⟨h1,h2,key.2.1,key.2.2,key.1⟩
theorem xnew_is (V:VltN) (h:ageW zeroV=V) (w:World):Calls Tryz.prog 15 #[] w fun e w'=>∃ t,e=.returned t∧∃ gx gc s n,t=(zO gx)∧XOk w' gx gc V s n∧w.heap.size≤gx∧w.heap.size≤gc∧(∀ b,zq 18 s n b→w.heap.size≤b)∧Below w.heap.size w w':=by
 subst h;exact xnew_any w
end
end Go.Proofs.YtmjbnmbobocpdaaGreat
