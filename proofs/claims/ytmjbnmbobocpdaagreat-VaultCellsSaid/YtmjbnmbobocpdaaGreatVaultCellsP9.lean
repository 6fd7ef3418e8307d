/- What VaultCells stands on, part 9. -/
import Derived.Test.YtmjbnmbobocpdaaGreatVaultCellsP1
import Derived.Test.YtmjbnmbobocpdaaGreatVaultCellsP2
import Derived.Test.YtmjbnmbobocpdaaGreatVaultCellsP3
import Derived.Test.YtmjbnmbobocpdaaGreatVaultCellsP4
import Derived.Test.YtmjbnmbobocpdaaGreatVaultCellsP5
import Derived.Test.YtmjbnmbobocpdaaGreatVaultCellsP6
import Derived.Test.YtmjbnmbobocpdaaGreatVaultCellsP7
import Derived.Test.YtmjbnmbobocpdaaGreatVaultCellsP8
set_option maxRecDepth 100000
set_option maxHeartbeats 8000000
set_option linter.unusedVariables false
set_option linter.unusedSimpArgs false
namespace Go.Proofs.YtmjbnmbobocpdaaGreat
open Go.ChangeShapes Go.WideShapes Go.ChangeAt Go.RowKit
def mkR (n:Int) (s:ByteArray) (b:List UInt8):RecN:=
 ⟨1+n%2,nmB s,b.take (n%((min b.length 16+1:Nat):Int)).toNat,((n.tdiv 2)%4294967296).toNat,((n.tdiv 7)%4294967296).toNat,b.take ((n.tdiv 3)%((min b.length 48+1:Nat):Int)).toNat,(n.tdiv 11)%6,(n.tdiv 13)%1000,(n.tdiv 17)%1099511627776⟩
theorem make_rec (n:Int) (s:ByteArray) (b:List UInt8) (v:Value) (hN:-9223372036854775808≤n∧n<9223372036854775808) (hs:s.size≤40) (hbl:b.length≤1000) (w:World) (hv:IsB w b v):
  Calls Tryz.prog 47 #[.int .i64 n,.string s,v] w fun e w'=>∃ t,e=.returned t∧∃ V,t=.agg (recA (mkR n s b) V)∧RecIs w' (mkR n s b) V∧(∀ g,bfp V.v2 g∨bfp V.v5 g→w.heap.size≤g)∧Below w.heap.size w w':=by
 obtain ⟨K2,hK2⟩:∃ K:Nat,n%((min b.length 16+1:Nat):Int)=(K:Int):=⟨(n%((min b.length 16+1:Nat):Int)).toNat,(Int.toNat_of_nonneg (Int.emod_nonneg _ (by omega))).symm⟩
 obtain ⟨K5,hK5⟩:∃ K:Nat,(n.tdiv 3)%((min b.length 48+1:Nat):Int)=(K:Int):=⟨((n.tdiv 3)%((min b.length 48+1:Nat):Int)).toNat,(Int.toNat_of_nonneg (Int.emod_nonneg _ (by omega))).symm⟩
 have hK2l:=Int.emod_lt_of_pos n (show 0<((min b.length 16+1:Nat):Int) by omega)
 have hK5l:=Int.emod_lt_of_pos (n.tdiv 3) (show 0<((min b.length 48+1:Nat):Int) by omega)
 have hK2b:K2≤b.length:=by omega
 have hK5b:K5≤b.length:=by omega
 refine zk (args:=[.int .i64 n,.string s,v]) 57 Tryz.func47 rfl rfl rfl ?_
 intro fa F
 have M:=Mx.start w
 replace M:=M.argB 0 hv (fun g e=>by cases e)
 refine zT fun _ hK1=>zp (zc rfl) rfl F rfl M 1 (t:=37) (c:=recA ⟨0, "".toUTF8,[],0,0,[],0,0,0⟩ ⟨zN,zN⟩) (by unfold execOp;kernel_rfl) ?_
 intro g2 a2 w2 F2 M2
 refine hK1 _ _ (zSk fun _ hK3=>?_)
 refine zR (rm rfl F2 fun _ F4=>zh (zc rfl) rfl F4 rfl rfl (zE Tryz.func69 rfl) #[.int .i64 n,.int .i64 2] (zia (F4.get rfl) rfl) (zba ((znc n 2 (by omega) (by omega) hN.1 hN.2 w2))) ?_)
 rintro _ w5 a5 ⟨rfl,rfl⟩ F5
 refine rn rfl rfl F5 rfl (.int .i64 (1+(n%2))) (zsa _ _ _ _ rfl rfl (F5.get rfl) rfl (by omega)) fun _ F6=>?_
 refine rm rfl F6 fun _ F7=>zh (zc rfl) rfl F7 rfl rfl (zE Tryz.func70 rfl) #[.string s] (zz (F7.get rfl)) (zba ((lname_any s hs w2))) ?_
 rintro _ w8 a8 ⟨rfl,b8⟩ F8
 have M8:=M2.step b8
 refine rm rfl F8 fun _ F9=>rn rfl rfl F9 rfl (.int .i64 (n.tdiv 2)) (y_quoT _ _ _ _ rfl (F9.get rfl) rfl hN (by decide) rfl) fun _ F10=>?_
 refine zh (zc rfl) rfl F10 rfl rfl (zE Tryz.func69 rfl) #[.int .i64 (n.tdiv 2),.int .i64 4294967296] (zia (F10.get rfl) rfl) (zba ((znc (n.tdiv 2) 4294967296 (by omega) (by omega) (zzc hN (show (0:Int)<2 by decide)).1 (zzc hN (show (0:Int)<2 by decide)).2 w8))) ?_
 rintro _ w11 a11 ⟨rfl,rfl⟩ F11
 refine zh (zc rfl) rfl F11 rfl rfl (zE Tryz.func71 rfl) #[.int .i64 ((n.tdiv 2)%4294967296)] (zz (F11.get rfl)) (zba ((from_ref ((n.tdiv 2)%4294967296) (by omega) (by omega) w8))) ?_
 rintro _ w12 a12 ⟨rfl,b12⟩ F12
 have M12:=M8.step b12
 refine rm rfl F12 fun _ F13=>rn rfl rfl F13 rfl (.int .i64 (n.tdiv 7)) (y_quoT _ _ _ _ rfl (F13.get rfl) rfl hN (by decide) rfl) fun _ F14=>?_
 refine zh (zc rfl) rfl F14 rfl rfl (zE Tryz.func69 rfl) #[.int .i64 (n.tdiv 7),.int .i64 4294967296] (zia (F14.get rfl) rfl) (zba ((znc (n.tdiv 7) 4294967296 (by omega) (by omega) (zzc hN (show (0:Int)<7 by decide)).1 (zzc hN (show (0:Int)<7 by decide)).2 w12))) ?_
 rintro _ w15 a15 ⟨rfl,rfl⟩ F15
 refine zh (zc rfl) rfl F15 rfl rfl (zE Tryz.func71 rfl) #[.int .i64 ((n.tdiv 7)%4294967296)] (zz (F15.get rfl)) (zba ((from_ref ((n.tdiv 7)%4294967296) (by omega) (by omega) w12))) ?_
 rintro _ w16 a16 ⟨rfl,b16⟩ F16
 have M16:=M12.step b16
 refine rm rfl F16 fun _ F17=>rn rfl rfl F17 rfl (.int .i64 (n.tdiv 11)) (y_quoT _ _ _ _ rfl (F17.get rfl) rfl hN (by decide) rfl) fun _ F18=>?_
 refine zh (zc rfl) rfl F18 rfl rfl (zE Tryz.func69 rfl) #[.int .i64 (n.tdiv 11),.int .i64 6] (zia (F18.get rfl) rfl) (zba ((znc (n.tdiv 11) 6 (by omega) (by omega) (zzc hN (show (0:Int)<11 by decide)).1 (zzc hN (show (0:Int)<11 by decide)).2 w16))) ?_
 rintro _ w19 a19 ⟨rfl,rfl⟩ F19
 refine rm rfl F19 fun _ F20=>rn rfl rfl F20 rfl (.int .i64 (n.tdiv 13)) (y_quoT _ _ _ _ rfl (F20.get rfl) rfl hN (by decide) rfl) fun _ F21=>?_
 refine zh (zc rfl) rfl F21 rfl rfl (zE Tryz.func69 rfl) #[.int .i64 (n.tdiv 13),.int .i64 1000] (zia (F21.get rfl) rfl) (zba ((znc (n.tdiv 13) 1000 (by omega) (by omega) (zzc hN (show (0:Int)<13 by decide)).1 (zzc hN (show (0:Int)<13 by decide)).2 w16))) ?_
 rintro _ w22 a22 ⟨rfl,rfl⟩ F22
 refine rm rfl F22 fun _ F23=>rn rfl rfl F23 rfl (.int .i64 (n.tdiv 17)) (y_quoT _ _ _ _ rfl (F23.get rfl) rfl hN (by decide) rfl) fun _ F24=>?_
 refine zh (zc rfl) rfl F24 rfl rfl (zE Tryz.func69 rfl) #[.int .i64 (n.tdiv 17),.int .i64 1099511627776] (zia (F24.get rfl) rfl) (zba ((znc (n.tdiv 17) 1099511627776 (by omega) (by omega) (zzc hN (show (0:Int)<17 by decide)).1 (zzc hN (show (0:Int)<17 by decide)).2 w16))) ?_
 rintro _ w25 a25 ⟨rfl,rfl⟩ F25
 refine rn rfl rfl F25 rfl (.agg (recA ⟨1+(n%2),(nmB s),[],(((n.tdiv 2)%4294967296)).toNat,(((n.tdiv 7)%4294967296)).toNat,[],((n.tdiv 11)%6),((n.tdiv 13)%1000),((n.tdiv 17)%1099511627776)⟩ ⟨zN,zN⟩)) (by unfold execOp;simp only [List.map_toArray,List.map_cons,List.map_nil,(F25.get (t:=10) rfl),(F25.get (t:=12) rfl),(F25.get (t:=16) rfl),(F25.get (t:=20) rfl),(F25.get (t:=23) rfl),(F25.get (t:=26) rfl),(F25.get (t:=29) rfl)];kernel_rfl) fun _ F26=>?_
 refine zp (zc rfl) rfl F26 rfl M16 2 (t:=37) (c:=recA ⟨0, "".toUTF8,[],0,0,[],0,0,0⟩ ⟨zN,zN⟩) (by unfold execOp;kernel_rfl) ?_
 intro g27 a27 w27 F27 M27
 refine zu (zc rfl) rfl F27 M27 (k:=2) rfl _ _ _ rfl (F27.get rfl) (F27.get rfl) (recA ⟨1+(n%2),(nmB s),[],(((n.tdiv 2)%4294967296)).toNat,(((n.tdiv 7)%4294967296)).toNat,[],((n.tdiv 11)%6),((n.tdiv 13)%1000),((n.tdiv 17)%1099511627776)⟩ ⟨zN,zN⟩) _ rfl (zL rfl) (zeb (w:=w27) ⟨(zta _),(zta _)⟩) (zaa rfl) (by kernel_rfl) ?_
 intro w28 M28
 refine hK3 _ _ (zSk fun _ hK29=>?_)
 refine zma F27 (SE [.inl (.pointer (some ⟨g27,2,none⟩)),.inl (zN),.inl (v),.inl (.int .i64 n),.inl (v),.inl (.int .i64 (b.length:Int)),.inl (.int .i64 ((min b.length 16:Nat):Int)),.inl (.int .i64 ((min b.length 16+1:Nat):Int)),.inl (.int .i64 (K2:Int)),.inr (fun _=>True)]) (JM none w fun SV pV=>[(0,bytR b v),(1,blkR g2 37 (recA ⟨0, "".toUTF8,[],0,0,[],0,0,0⟩ ⟨zN,zN⟩)),(2,blkR g27 37 (recA ⟨1+(n%2),(nmB s),[],(((n.tdiv 2)%4294967296)).toNat,(((n.tdiv 7)%4294967296)).toNat,[],((n.tdiv 11)%6),((n.tdiv 13)%1000),((n.tdiv 17)%1099511627776)⟩ ⟨zN,zN⟩)),(3,z4a (SV 9) (bytR (b.take K2) (pV 9)))]) 10 rfl (by kernel_rfl) rfl ⟨trivial,trivial,trivial,trivial,trivial,trivial,trivial,trivial,trivial,trivial,trivial⟩ (fun p=>((M28.step (zja _)).triv 3).sub ⟨rfl,rfl,rfl,rfl,trivial⟩) ⟨zva F27 (by kernel_rfl),z9b F27 (fun _ _ _ M=>zx (Mx.blk (k:=2) M rfl) dnil) (some g27) (by kernel_rfl),zva F27 (by kernel_rfl),zva F27 (by kernel_rfl),zva F27 (by kernel_rfl),?_,?_,?_,?_,?_,trivial⟩ ?_
 ·intro ua uw SV pV (M:Mx none w uw _) hk hn hd
  have e35:ua.eval (.tmp 35)=v:=zQ1 (hd 35 (by decide))
  exact zg (zc rfl) (.int .i64 (b.length:Int)) (zya _ rfl e35 (M.isb (k:=0) rfl) rfl) rfl (M.sb)
 ·intro ua uw SV pV (M:Mx none w uw _) hk hn hd
  have e36:ua.eval (.tmp 36)=.int .i64 (b.length:Int):=zQ1 (hd 36 (by decide))
  exact zg (zc rfl) (.int .i64 ((min b.length 16:Nat):Int)) (y_min _ _ rfl e36 rfl (by split <;> omega)) rfl (M.sb)
 ·intro ua uw SV pV (M:Mx none w uw _) hk hn hd
  have e37:ua.eval (.tmp 37)=.int .i64 ((min b.length 16:Nat):Int):=zQ1 (hd 37 (by decide))
  exact zg (zc rfl) (.int .i64 ((min b.length 16+1:Nat):Int)) (zsa _ _ _ _ rfl e37 rfl (by omega) (by omega)) rfl (M.sb)
 ·intro ua uw SV pV (M:Mx none w uw _) hk hn hd
  have e34:ua.eval (.tmp 34)=.int .i64 n:=zQ1 (hd 34 (by decide))
  have e38:ua.eval (.tmp 38)=.int .i64 ((min b.length 16+1:Nat):Int):=zQ1 (hd 38 (by decide))
  exact z1a (zc rfl) rfl #[.int .i64 n,.int .i64 ((min b.length 16+1:Nat):Int)] (zia e34 e38) (zE Tryz.func69 rfl) (((same_eq ((hK2▸znc n ((min b.length 16+1:Nat):Int) (by omega) (by omega) hN.1 hN.2 uw)))).mono fun e w2 h=>⟨_,h.1,rfl,(M.step h.2).sub ⟨rfl,rfl,rfl,rfl,trivial⟩⟩)
 ·intro ua uw SV pV (M:Mx none w uw _) hk hn hd
  have e33:ua.eval (.tmp 33)=v:=zQ1 (hd 33 (by decide))
  have e39:ua.eval (.tmp 39)=.int .i64 (K2:Int):=zQ1 (hd 39 (by decide))
  exact hopM_exE (zc rfl) (y_slTo _ _ rfl e33 (M.isb (k:=0) rfl) e39 (j:=K2) rfl hK2b) fun v h=>⟨trivial,(M.partB 3 (k:=0) rfl h.1 h.2).sub ⟨rfl,rfl,rfl,rfl,trivial⟩⟩
 intro p30 a30 w30 M30 G30 y30
 obtain ⟨-,q1,-,-,-,-,-,-,-,q9,-⟩:=y30
 have r1:p30 1=zN:=q1
 replace M30:Mx _ _ w30 [(0,bytR b v),(1,blkR g2 37 (recA ⟨0, "".toUTF8,[],0,0,[],0,0,0⟩ ⟨zN,zN⟩)),(2,blkR g27 37 (recA ⟨1+(n%2),(nmB s),[],(((n.tdiv 2)%4294967296)).toNat,(((n.tdiv 7)%4294967296)).toNat,[],((n.tdiv 11)%6),((n.tdiv 13)%1000),((n.tdiv 17)%1099511627776)⟩ ⟨zN,zN⟩)),(3,z4a true (bytR (b.take K2) (p30 9)))]:=M30
 simp only [List.take,layV,Nat.zero_add,Nat.reduceAdd,r1] at G30
 obtain ⟨Ap30_3,cp30_3,hp30_3⟩:=(M30.isb (k:=3) rfl).shape
 rw [hp30_3] at M30
 try rw [hp30_3] at G30
 have M31:=M30.nilO 4
 refine zza (zc rfl) rfl G30 rfl (zjb M31 (k:=4) rfl _ _ rfl (G30.get rfl) (G30.get rfl) (M31.isb (k:=3) rfl) (by simp only [List.length_nil,List.length_take];omega)) ?_
 intro v32 a32 w32 F32 M32
 clear G30 M31
 obtain ⟨A32,c32,rfl⟩:=(M32.isO (k:=4) rfl).shape
 refine rn rfl rfl F32 rfl (.pointer (some ⟨g27,2,none⟩)) (y_fa (off:=2) rfl (F32.get rfl) (by kernel_rfl) rfl) fun _ F33=>?_
 refine zu (zc rfl) rfl F33 M32 (k:=2) rfl _ _ _ rfl (F33.get rfl) (F33.get rfl) (#[.slice A32 (([]++(b.take K2))).length c32]) (recA ⟨1+(n%2),(nmB s),([]++(b.take K2)),(((n.tdiv 2)%4294967296)).toNat,(((n.tdiv 7)%4294967296)).toNat,[],((n.tdiv 11)%6),((n.tdiv 13)%1000),((n.tdiv 17)%1099511627776)⟩ ⟨.slice A32 (([]++(b.take K2))).length c32,zN⟩) rfl (zL rfl) (one_slcB (M32.isO (k:=4) rfl)) (by kernel_rfl) (by kernel_rfl) ?_
 intro w34 M34
 refine hK29 _ _ (zSk fun _ hK35=>?_)
 refine zma F33 (SE [.inl (.pointer (some ⟨g27,19,none⟩)),.inl (zN),.inl (v),.inl (.int .i64 n),.inl (.int .i64 (n.tdiv 3)),.inl (v),.inl (.int .i64 (b.length:Int)),.inl (.int .i64 ((min b.length 48:Nat):Int)),.inl (.int .i64 ((min b.length 48+1:Nat):Int)),.inl (.int .i64 (K5:Int)),.inr (fun _=>True)]) (JM none w fun SV pV=>[(0,bytR b v),(1,blkR g2 37 (recA ⟨0, "".toUTF8,[],0,0,[],0,0,0⟩ ⟨zN,zN⟩)),(2,blkR g27 37 (recA ⟨1+(n%2),(nmB s),([]++(b.take K2)),(((n.tdiv 2)%4294967296)).toNat,(((n.tdiv 7)%4294967296)).toNat,[],((n.tdiv 11)%6),((n.tdiv 13)%1000),((n.tdiv 17)%1099511627776)⟩ ⟨.slice A32 (([]++(b.take K2))).length c32,zN⟩)),(3,bytR (b.take K2) (.slice Ap30_3 ((b.take K2)).length cp30_3)),(4,ownR ([]++(b.take K2)) (.slice A32 (([]++(b.take K2))).length c32)),(5,z4a (SV 10) (bytR (b.take K5) (pV 10)))]) 11 rfl (by kernel_rfl) rfl ⟨trivial,trivial,trivial,trivial,trivial,trivial,trivial,trivial,trivial,trivial,trivial,trivial⟩ (fun p=>((M34.step (zja _)).triv 5).sub ⟨rfl,rfl,rfl,rfl,rfl,rfl,trivial⟩) ⟨zva F33 (by kernel_rfl),z9b F33 (fun _ _ _ M=>zx (Mx.blk (k:=2) M rfl) dnil) (some g27) (by kernel_rfl),zva F33 (by kernel_rfl),zva F33 (by kernel_rfl),?_,zva F33 (by kernel_rfl),?_,?_,?_,?_,?_,trivial⟩ ?_
 ·intro ua uw SV pV (M:Mx none w uw _) hk hn hd
  have e46:ua.eval (.tmp 46)=.int .i64 n:=zQ1 (hd 46 (by decide))
  exact zg (zc rfl) (.int .i64 (n.tdiv 3)) (y_quoT _ _ _ _ rfl e46 rfl hN (by decide) rfl) rfl (M.sb)
 ·intro ua uw SV pV (M:Mx none w uw _) hk hn hd
  have e48:ua.eval (.tmp 48)=v:=zQ1 (hd 48 (by decide))
  exact zg (zc rfl) (.int .i64 (b.length:Int)) (zya _ rfl e48 (M.isb (k:=0) rfl) rfl) rfl (M.sb)
 ·intro ua uw SV pV (M:Mx none w uw _) hk hn hd
  have e49:ua.eval (.tmp 49)=.int .i64 (b.length:Int):=zQ1 (hd 49 (by decide))
  exact zg (zc rfl) (.int .i64 ((min b.length 48:Nat):Int)) (y_min _ _ rfl e49 rfl (by split <;> omega)) rfl (M.sb)
 ·intro ua uw SV pV (M:Mx none w uw _) hk hn hd
  have e50:ua.eval (.tmp 50)=.int .i64 ((min b.length 48:Nat):Int):=zQ1 (hd 50 (by decide))
  exact zg (zc rfl) (.int .i64 ((min b.length 48+1:Nat):Int)) (zsa _ _ _ _ rfl e50 rfl (by omega) (by omega)) rfl (M.sb)
 ·intro ua uw SV pV (M:Mx none w uw _) hk hn hd
  have e47:ua.eval (.tmp 47)=.int .i64 (n.tdiv 3):=zQ1 (hd 47 (by decide))
  have e51:ua.eval (.tmp 51)=.int .i64 ((min b.length 48+1:Nat):Int):=zQ1 (hd 51 (by decide))
  exact z1a (zc rfl) rfl #[.int .i64 (n.tdiv 3),.int .i64 ((min b.length 48+1:Nat):Int)] (zia e47 e51) (zE Tryz.func69 rfl) (((same_eq ((hK5▸znc (n.tdiv 3) ((min b.length 48+1:Nat):Int) (by omega) (by omega) (zzc hN (show (0:Int)<3 by decide)).1 (zzc hN (show (0:Int)<3 by decide)).2 uw)))).mono fun e w2 h=>⟨_,h.1,rfl,(M.step h.2).sub ⟨rfl,rfl,rfl,rfl,rfl,rfl,trivial⟩⟩)
 ·intro ua uw SV pV (M:Mx none w uw _) hk hn hd
  have e45:ua.eval (.tmp 45)=v:=zQ1 (hd 45 (by decide))
  have e52:ua.eval (.tmp 52)=.int .i64 (K5:Int):=zQ1 (hd 52 (by decide))
  exact hopM_exE (zc rfl) (y_slTo _ _ rfl e45 (M.isb (k:=0) rfl) e52 (j:=K5) rfl hK5b) fun v h=>⟨trivial,(M.partB 5 (k:=0) rfl h.1 h.2).sub ⟨rfl,rfl,rfl,rfl,rfl,rfl,trivial⟩⟩
 intro p36 a36 w36 M36 G36 y36
 obtain ⟨-,q1,-,-,-,-,-,-,-,-,q10,-⟩:=y36
 have r1:p36 1=zN:=q1
 replace M36:Mx _ _ w36 [(0,bytR b v),(1,blkR g2 37 (recA ⟨0, "".toUTF8,[],0,0,[],0,0,0⟩ ⟨zN,zN⟩)),(2,blkR g27 37 (recA ⟨1+(n%2),(nmB s),([]++(b.take K2)),(((n.tdiv 2)%4294967296)).toNat,(((n.tdiv 7)%4294967296)).toNat,[],((n.tdiv 11)%6),((n.tdiv 13)%1000),((n.tdiv 17)%1099511627776)⟩ ⟨.slice A32 (([]++(b.take K2))).length c32,zN⟩)),(3,bytR (b.take K2) (.slice Ap30_3 ((b.take K2)).length cp30_3)),(4,ownR ([]++(b.take K2)) (.slice A32 (([]++(b.take K2))).length c32)),(5,z4a true (bytR (b.take K5) (p36 10)))]:=M36
 simp only [List.take,layV,Nat.zero_add,Nat.reduceAdd,r1] at G36
 obtain ⟨Ap36_5,cp36_5,hp36_5⟩:=(M36.isb (k:=5) rfl).shape
 rw [hp36_5] at M36
 try rw [hp36_5] at G36
 have M37:=M36.nilO 6
 refine zza (zc rfl) rfl G36 rfl (zjb M37 (k:=6) rfl _ _ rfl (G36.get rfl) (G36.get rfl) (M37.isb (k:=5) rfl) (by simp only [List.length_nil,List.length_take];omega)) ?_
 intro v38 a38 w38 F38 M38
 clear G36 M37
 obtain ⟨A38,c38,rfl⟩:=(M38.isO (k:=6) rfl).shape
 refine rn rfl rfl F38 rfl (.pointer (some ⟨g27,19,none⟩)) (y_fa (off:=19) rfl (F38.get rfl) (by kernel_rfl) rfl) fun _ F39=>?_
 refine zu (zc rfl) rfl F39 M38 (k:=2) rfl _ _ _ rfl (F39.get rfl) (F39.get rfl) (#[.slice A38 (([]++(b.take K5))).length c38]) (recA ⟨1+(n%2),(nmB s),([]++(b.take K2)),(((n.tdiv 2)%4294967296)).toNat,(((n.tdiv 7)%4294967296)).toNat,([]++(b.take K5)),((n.tdiv 11)%6),((n.tdiv 13)%1000),((n.tdiv 17)%1099511627776)⟩ ⟨.slice A32 (([]++(b.take K2))).length c32,.slice A38 (([]++(b.take K5))).length c38⟩) rfl (zL rfl) (one_slcB (M38.isO (k:=6) rfl)) (by kernel_rfl) (by kernel_rfl) ?_
 intro w40 M40
 refine hK35 _ _ (zSk fun _ hK41=>?_)
 refine zR (rn rfl rfl F39 rfl _ (zbb _ _ rfl (F39.get rfl) (M40.blk (k:=2) rfl) (recA ⟨1+(n%2),(nmB s),([]++(b.take K2)),(((n.tdiv 2)%4294967296)).toNat,(((n.tdiv 7)%4294967296)).toNat,([]++(b.take K5)),((n.tdiv 11)%6),((n.tdiv 13)%1000),((n.tdiv 17)%1099511627776)⟩ ⟨.slice A32 (([]++(b.take K2))).length c32,.slice A38 (([]++(b.take K5))).length c38⟩) (zcb rfl) Tryz.underlying37 rfl (by kernel_rfl)) fun _ F42=>?_)
 refine zu (zc rfl) rfl F42 M40 (k:=1) rfl _ _ _ rfl (F42.get rfl) (F42.get rfl) (recA ⟨1+(n%2),(nmB s),([]++(b.take K2)),(((n.tdiv 2)%4294967296)).toNat,(((n.tdiv 7)%4294967296)).toNat,([]++(b.take K5)),((n.tdiv 11)%6),((n.tdiv 13)%1000),((n.tdiv 17)%1099511627776)⟩ ⟨.slice A32 (([]++(b.take K2))).length c32,.slice A38 (([]++(b.take K5))).length c38⟩) _ rfl (zL rfl) (zeb (w:=w40) ⟨(M40.isO (k:=4) rfl),(M40.isO (k:=6) rfl)⟩) (zaa rfl) (by kernel_rfl) ?_
 intro w43 M43
 refine hK41 _ _ (wp_ret ?_)
 try simp only [Exit.then,Exit.inBlock,Exit.jump]
 exact bodyPost_ret (results_cell_row rfl _ _ _ _ _ (0,0) _ (F42.get rfl) (M43.blk (k:=1) rfl) Tryz.underlying37 rfl (by kernel_rfl)) F42.defers ⟨_,rfl,⟨.slice A32 (([]++(b.take K2))).length c32,.slice A38 (([]++(b.take K5))).length c38⟩,(by rw [(show mkR n s b=(⟨1+(n%2),(nmB s),((b.take K2)),(((n.tdiv 2)%4294967296)).toNat,(((n.tdiv 7)%4294967296)).toNat,((b.take K5)),((n.tdiv 11)%6),((n.tdiv 13)%1000),((n.tdiv 17)%1099511627776)⟩:RecN) from by unfold mkR;rw [hK2,hK5];rfl)];rfl),(by rw [(show mkR n s b=(⟨1+(n%2),(nmB s),((b.take K2)),(((n.tdiv 2)%4294967296)).toNat,(((n.tdiv 7)%4294967296)).toNat,((b.take K5)),((n.tdiv 11)%6),((n.tdiv 13)%1000),((n.tdiv 17)%1099511627776)⟩:RecN) from by unfold mkR;rw [hK2,hK5];rfl)];exact ⟨M43.isO (k:=4) rfl,M43.isO (k:=6) rfl⟩),(fun g h=>h.elim (fun h=>M43.owns (k:=4) rfl g (zpa h)) (fun h=>M43.owns (k:=6) rfl g (zpa h))),M43.below⟩
theorem rec_is (r:RecN) (V:RecV) (ho:RecOk r) (ok:Bool) (l:List UInt8) (h1:zda r=ok) (h2:recE r=l) (w:World) (hm:RecIs w r V):Calls Tryz.prog 48 #[.agg (recA r V)] w fun e w'=>∃ t,e=.returned t∧∃ v,t=.tuple #[v,.bool ok]∧Byt w' w.heap.size v l∧Below w.heap.size w w':=by
 subst h1 h2;exact record_ex r V ho w hm
theorem maker_is (n:Int) (s:ByteArray) (b:List UInt8) (v:Value) (hN:-9223372036854775808≤n∧n<9223372036854775808) (hs:s.size≤40) (hbl:b.length≤1000) (r:RecN) (hr:mkR n s b=r) (w:World) (hv:IsB w b v):Calls Tryz.prog 47 #[.int .i64 n,.string s,v] w fun e w'=>∃ t,e=.returned t∧∃ V,t=.agg (recA r V)∧RecIs w' r V∧(∀ g,bfp V.v2 g∨bfp V.v5 g→w.heap.size≤g)∧Below w.heap.size w w':=by
 subst hr;exact make_rec n s b v hN hs hbl w hv
section
variable {G:Option Nat} {w0 w:World} {R:List (Nat×Res)}
theorem Mx.newRec {w':World} (M:Mx G w0 w R) (h:Below w.heap.size w w') {r:RecN} {V:RecV} (hm:RecIs w' r V) (hlo:∀ q,bfp V.v2 q∨bfp V.v5 q→w.heap.size≤q) (a b:Nat):Mx G w0 w' ((b,bytR r.l5 V.v5)::(a,bytR r.l2 V.v2)::R):=by
 obtain ⟨M1,n1⟩:=(M.step h).roB2 (N:=w.heap.size) (fun k s e _ g hg=>M.lt k s e g hg) a hm.h2 (fun g hg=>hlo g (.inl hg))
 exact (M1.roB2 n1 b hm.h5 (fun g hg=>hlo g (.inr hg))).1
end
theorem HasV.step {w w':World} {g:Nat} {V:VltN} {s n:Nat→Value} (h:HasV w g V s n) (hb:Below w.heap.size w w'):HasV w' g V s n:=
 ⟨(hb.block g (z8a h.blk)).trans h.blk,fun i hi=>(h.hs i hi).step hb,fun i hi=>(h.hn i hi).step hb⟩
theorem cnt_len (V:VltN) (q:Nat) (h1:(V.c q).s.length≤1000) (h2:(V.c (q+1)).s.length≤1000):(cntS V q).length≤1000:=by
 have:∀ b:List UInt8,(entS b).length≤b.length:=fun b=>by
  unfold entS;split
  ·rw [saysL_len];omega
  ·exact Nat.zero_le _
 unfold cntS
 split
 ·exact Nat.le_trans (this _) h2
 ·exact Nat.le_trans (this _) h1
def zeroRec:RecN:=⟨0, "".toUTF8,[],0,0,[],0,0,0⟩
noncomputable def saidB (V:VltN) (q:Nat):Bool:=anyB zq V q&&rdOk (cntS V q)
noncomputable def z7a (V:VltN) (q:Nat):RecN:=if anyB zq V q=true then rdR (cntS V q) else zeroRec
def numB (V:VltN) (q:Nat):Bool:=anyB zq V q&&numOk (cntS V q)
def zmc (V:VltN) (q:Nat):Int:=if anyB zq V q=true then numI (cntS V q) else 0
theorem vrd_is (b:List UInt8) (bv:Value) (hl:b.length≤100000) (ok:Bool) (r:RecN) (h1:rdOk b=ok) (h2:rdR b=r) (w:World) (hb:IsB w b bv):Calls Tryz.prog 105 #[bv] w fun e w'=>∃ t,e=.returned t∧∃ V,t=.tuple #[.agg (recA r V),.bool ok]∧RecIs w' r V∧(∀ q,bfp V.v2 q∨bfp V.v5 q→w.heap.size≤q)∧Below w.heap.size w w':=by
 subst h1 h2;exact (readrec_any b bv hl w hb).mono fun e w' ⟨V,k1,k2,k3,k4⟩=>⟨_,k1,V,rfl,k2,k3,k4⟩
theorem vnum_is (b:List UInt8) (bv:Value) (hl:b.length≤100000) (ok:Bool) (r:Int) (h1:numOk b=ok) (h2:numI b=r) (w:World) (hb:IsB w b bv):Calls Tryz.prog 88 #[bv] w fun e w'=>e=.returned (.tuple #[.int .i64 r,.bool ok])∧Below w.heap.size w w':=by
 subst h1 h2;exact number_any b bv hl w hb
theorem countsR_is (q:Nat) (hq:q+1<18) (g:Nat) (V:VltN) (s n:Nat→Value) (hv:z5a V) (b:Bool) (hA:anyB zq V q=b) (w:World) (h:HasV w g V s n):Calls Tryz.prog 106 #[.agg #[.int .i64 (q:Int),.func (.func 105) #[] #[]],.pointer (some ⟨g,0,none⟩)] w fun e w'=>∃ t,e=.returned t∧∃ S,t=.tuple #[.agg #[.int .i64 (cntP V q:Int),.int .i64 (cntT V q),S],.bool b]∧IsB w (cntS V q) S∧(∀ b,bfp S b→bfp (s q) b∨bfp (s (q+1)) b)∧Below w.heap.size w w':=by
 subst hA;exact (countsR q hq g V s n hv w h).mono fun e w' ⟨S,k1,k2,k3,k4⟩=>⟨_,k1,S,rfl,k2,k3,k4⟩
theorem countsI_is (q:Nat) (hq:q+1<18) (g:Nat) (V:VltN) (s n:Nat→Value) (hv:z5a V) (b:Bool) (hA:anyB zq V q=b) (w:World) (h:HasV w g V s n):Calls Tryz.prog 89 #[.agg #[.int .i64 (q:Int),.func (.func 88) #[] #[]],.pointer (some ⟨g,0,none⟩)] w fun e w'=>∃ t,e=.returned t∧∃ S,t=.tuple #[.agg #[.int .i64 (cntP V q:Int),.int .i64 (cntT V q),S],.bool b]∧IsB w (cntS V q) S∧(∀ b,bfp S b→bfp (s q) b∨bfp (s (q+1)) b)∧Below w.heap.size w w':=by
 subst hA;exact (countsI q hq g V s n hv w h).mono fun e w' ⟨S,k1,k2,k3,k4⟩=>⟨_,k1,S,rfl,k2,k3,k4⟩
theorem saysR (q:Nat) (hq:q+1<18) (g:Nat) (V:VltN) (s n:Nat→Value) (hv:z5a V) (w:World) (h:HasV w g V s n):
  Calls Tryz.prog 85 #[.agg #[.int .i64 (q:Int),.func (.func 105) #[] #[]],.pointer (some ⟨g,0,none⟩)] w fun e w'=>∃ V',e=.returned (.tuple #[.agg (recA (z7a V q) V'),.bool (saidB V q)])∧RecIs w' (z7a V q) V'∧(∀ b,bfp V'.v2 b∨bfp V'.v5 b→w.heap.size≤b)∧Below w.heap.size w w':=by
 obtain ⟨qA,hA⟩:∃ x,anyB zq V q=x:=⟨_,rfl⟩
 have hcl:=cnt_len V q (hv q (by omega)).1 (hv (q+1) hq).1
 obtain ⟨qR,hR⟩:∃ x,rdOk (cntS V q)=x:=⟨_,rfl⟩
 rw [show saidB V q=(qA&&qR) by rw [saidB,hA,hR]]
 obtain ⟨rr,hrr⟩:∃ x,rdR (cntS V q)=x:=⟨_,rfl⟩
 rw [show z7a V q=if qA=true then rr else zeroRec by rw [z7a,hA,hrr]]
 refine zk (args:=[.agg (#[.int .i64 (q:Int),.func (.func 105) #[] #[]]),.pointer (some ⟨g,0,none⟩)]) 25 Tryz.func85 rfl rfl rfl ?_
 intro fa F
 have M:=Mx.start w
 replace M:=M.argO 0 h.blk (fun b e=>by cases e)
 refine zT fun _ hK1=>zp (zc rfl) rfl F rfl M 1 (t:=87) (c:=#[.int .i64 (q:Int),.func (.func 105) #[] #[]]) (by unfold execOp;simp only [(F.get (t:=0) rfl)];kernel_rfl) ?_
 intro g2 a2 w2 F2 M2
 refine zp (zc rfl) rfl F2 rfl M2 2 (t:=37) (c:=recA ⟨0, "".toUTF8,[],0,0,[],0,0,0⟩ ⟨zN,zN⟩) (by unfold execOp;kernel_rfl) ?_
 intro g3 a3 w3 F3 M3
 refine rm rfl F3 fun _ F4=>hK1 _ _ (zT fun _ hK5=>zd (w':=w3) (zc rfl) rfl F4 rfl _ (zbb _ _ rfl (F4.get (t:=2) rfl) (M3.blk (k:=1) rfl) (#[.int .i64 (q:Int),.func (.func 105) #[] #[]]) (zcb rfl) Tryz.underlying87 rfl (by kernel_rfl)) fun _ F6=>?_)
 refine rm rfl F6 fun _ F7=>zh (zc rfl) rfl F7 rfl rfl (zE Tryz.func106 rfl) #[.agg (#[.int .i64 (q:Int),.func (.func 105) #[] #[]]),.pointer (some ⟨g,0,none⟩)] (zia (F7.get (t:=10) rfl) (F7.get (t:=11) rfl)) (countsR_is q hq g V s n hv qA hA w3 (h.step M3.below)) ?_
 rintro _ w8 a8 ⟨S8,rfl,hS8,hf8,b8⟩ F8
 have hS0:=hS8.back M3.below (fun g hg=>(hf8 g hg).elim (fun h3=>(h.hs q (by omega)).lt h3) (fun h3=>(h.hs (q+1) hq).lt h3))
 have M8:=M3.step b8
 refine zB 3 [(2,.pointer (some ⟨g2,0,none⟩)),(4,.pointer (some ⟨g3,0,none⟩)),(5,.bool false),(13,.agg (#[.int .i64 (cntP V q:Int),.int .i64 (cntT V q),S8])),(14,.bool qA)] [] dnil [] F8 fun _ F9=>?_
 refine zp (zc rfl) rfl F9 rfl M8 3 (t:=128) (c:=#[.int .i64 0,.int .i64 0,zN]) (by unfold execOp;kernel_rfl) ?_
 intro g10 a10 w10 F10 M10
 refine zu (zc rfl) rfl F10 M10 (k:=3) rfl _ _ _ rfl (F10.get (t:=6) rfl) (F10.get (t:=13) rfl) (#[.int .i64 (cntP V q:Int),.int .i64 (cntT V q),S8]) _ rfl (zL rfl) (znb (hS0.step M10.below)) (zaa rfl) (by kernel_rfl) ?_
 intro w11 M11
 refine rm rfl F10 fun _ F12=>hK5 _ _ (zSk fun _ hK13=>zT fun _ hK14=>rm rfl F12 fun _ F15=>?_)
 cases qA
 ·refine zd (w':=w11) (zc rfl) rfl F15 rfl (.bool true) (zrb _ _ rfl (F15.get (t:=15) rfl)) fun _ F16=>?_
  refine hK14 _ _ (wp_cond_true (F16.get (t:=16) rfl) (zT fun _ hK17=>zp (zc rfl) rfl F16 rfl M11 4 (t:=37) (c:=recA ⟨0, "".toUTF8,[],0,0,[],0,0,0⟩ ⟨zN,zN⟩) (by unfold execOp;kernel_rfl) ?_))
  intro g18 a18 w18 F18 M18
  refine hK17 _ _ (zT fun _ hK19=>zd (w':=w18) (zc rfl) rfl F18 rfl _ (zbb _ _ rfl (F18.get (t:=8) rfl) (M18.blk (k:=4) rfl) (recA ⟨0, "".toUTF8,[],0,0,[],0,0,0⟩ ⟨zN,zN⟩) (zcb rfl) Tryz.underlying37 rfl (by kernel_rfl)) fun _ F20=>?_)
  refine zu (zc rfl) rfl F20 M18 (k:=2) rfl _ _ _ rfl (F20.get (t:=4) rfl) (F20.get (t:=17) rfl) (recA ⟨0, "".toUTF8,[],0,0,[],0,0,0⟩ ⟨zN,zN⟩) _ rfl (zL rfl) (zeb (w:=w18) ⟨(zta _),(zta _)⟩) (zaa rfl) (by kernel_rfl) ?_
  intro w21 M21
  refine rm rfl F20 fun _ F22=>hK19 _ _ (wp_ret ?_)
  try simp only [Exit.then,Exit.inBlock,Exit.jump]
  exact bodyPost_ret (resCT rfl (F22.get rfl) (M21.blk (k:=2) rfl) (F22.get rfl) Tryz.underlying37 rfl (by kernel_rfl)) F22.defers ⟨⟨zN,zN⟩,rfl,⟨zta _,zta _⟩,(fun q h=>h.elim (fun h=>absurd h (zxa q)) (fun h=>absurd h (zxa q))),M21.below⟩
 ·refine zd (w':=w11) (zc rfl) rfl F15 rfl (.bool false) (zrb _ _ rfl (F15.get (t:=15) rfl)) fun _ F23=>?_
  refine hK14 _ _ (wp_cond_false (F23.get (t:=16) rfl) (wp_skip (hK13 _ _ (zT fun _ hK24=>zB 4 [(4,.pointer (some ⟨g3,0,none⟩)),(5,.bool false),(19,.func (.func 105) #[] #[]),(21,S8)] [0,1] (zx (M11.blk (k:=1) rfl) (zx (M11.blk (k:=3) rfl) dnil)) [g2,g10] F23 fun _ F25=>?_))))
  refine wl_callV (zc rfl) rfl F25 rfl rfl (F25.get (t:=19) rfl) (zE Tryz.func105 rfl) #[S8] (show _++_=_ from by rw [(zz (F25.get (t:=21) rfl))];rfl) (vrd_is (cntS V q) (S8) (by omega) qR rr hR hrr w11 (hS0.step M11.below)) ?_
  rintro _ w26 a26 ⟨V26,rfl,is26,lo26,b26⟩ F26
  have lf:=fun q h=>Nat.le_trans M11.le (lo26 q h)
  have M26:=M11.newRec b26 is26 lo26 4 5
  clear M11 b26 lo26
  refine zB 2 [(4,.pointer (some ⟨g3,0,none⟩)),(5,.bool false),(23,.agg (recA rr V26)),(24,.bool qR)] [] dnil [] F26 fun _ F27=>?_
  refine zu (zc rfl) rfl F27 M26 (k:=2) rfl _ _ _ rfl (F27.get (t:=4) rfl) (F27.get (t:=23) rfl) (recA rr V26) _ rfl (zL rfl) (zeb (w:=w26) ⟨(M26.isb (k:=4) rfl),(M26.isb (k:=5) rfl)⟩) (zaa rfl) (by kernel_rfl) ?_
  intro w28 M28
  refine rm rfl F27 fun _ F29=>hK24 _ _ (wp_ret ?_)
  try simp only [Exit.then,Exit.inBlock,Exit.jump]
  exact bodyPost_ret (resCT rfl (F29.get rfl) (M28.blk (k:=2) rfl) (F29.get rfl) Tryz.underlying37 rfl (by kernel_rfl)) F29.defers ⟨_,rfl,⟨(M28.isb (k:=4) rfl),(M28.isb (k:=5) rfl)⟩,lf,M28.below⟩
theorem saysI (q:Nat) (hq:q+1<18) (g:Nat) (V:VltN) (s n:Nat→Value) (hv:z5a V) (w:World) (h:HasV w g V s n):
  Calls Tryz.prog 59 #[.agg #[.int .i64 (q:Int),.func (.func 88) #[] #[]],.pointer (some ⟨g,0,none⟩)] w fun e w'=>e=.returned (.tuple #[.int .i64 (zmc V q),.bool (numB V q)])∧Below w.heap.size w w':=by
 obtain ⟨qA,hA⟩:∃ x,anyB zq V q=x:=⟨_,rfl⟩
 have hcl:=cnt_len V q (hv q (by omega)).1 (hv (q+1) hq).1
 obtain ⟨qR,hR⟩:∃ x,numOk (cntS V q)=x:=⟨_,rfl⟩
 rw [show numB V q=(qA&&qR) by rw [numB,hA,hR]]
 obtain ⟨rr,hrr⟩:∃ x,numI (cntS V q)=x:=⟨_,rfl⟩
 rw [show zmc V q=if qA=true then rr else 0 by rw [zmc,hA,hrr]]
 refine zk (args:=[.agg (#[.int .i64 (q:Int),.func (.func 88) #[] #[]]),.pointer (some ⟨g,0,none⟩)]) 25 Tryz.func59 rfl rfl rfl ?_
 intro fa F
 have M:=Mx.start w
 replace M:=M.argO 0 h.blk (fun b e=>by cases e)
 refine zT fun _ hK1=>zp (zc rfl) rfl F rfl M 1 (t:=100) (c:=#[.int .i64 (q:Int),.func (.func 88) #[] #[]]) (by unfold execOp;simp only [(F.get (t:=0) rfl)];kernel_rfl) ?_
 intro g2 a2 w2 F2 M2
 refine rm rfl F2 fun _ F3=>rm rfl F3 fun _ F4=>hK1 _ _ (zT fun _ hK5=>zd (w':=w2) (zc rfl) rfl F4 rfl _ (zbb _ _ rfl (F4.get (t:=2) rfl) (M2.blk (k:=1) rfl) (#[.int .i64 (q:Int),.func (.func 88) #[] #[]]) (zcb rfl) Tryz.underlying100 rfl (by kernel_rfl)) fun _ F6=>?_)
 refine rm rfl F6 fun _ F7=>zh (zc rfl) rfl F7 rfl rfl (zE Tryz.func89 rfl) #[.agg (#[.int .i64 (q:Int),.func (.func 88) #[] #[]]),.pointer (some ⟨g,0,none⟩)] (zia (F7.get (t:=10) rfl) (F7.get (t:=11) rfl)) (countsI_is q hq g V s n hv qA hA w2 (h.step M2.below)) ?_
 rintro _ w8 a8 ⟨S8,rfl,hS8,hf8,b8⟩ F8
 have hS0:=hS8.back M2.below (fun g hg=>(hf8 g hg).elim (fun h3=>(h.hs q (by omega)).lt h3) (fun h3=>(h.hs (q+1) hq).lt h3))
 have M8:=M2.step b8
 refine zB 3 [(2,.pointer (some ⟨g2,0,none⟩)),(4,.int .i64 0),(5,.bool false),(13,.agg (#[.int .i64 (cntP V q:Int),.int .i64 (cntT V q),S8])),(14,.bool qA)] [] dnil [] F8 fun _ F9=>?_
 refine zp (zc rfl) rfl F9 rfl M8 2 (t:=128) (c:=#[.int .i64 0,.int .i64 0,zN]) (by unfold execOp;kernel_rfl) ?_
 intro g10 a10 w10 F10 M10
 refine zu (zc rfl) rfl F10 M10 (k:=2) rfl _ _ _ rfl (F10.get (t:=6) rfl) (F10.get (t:=13) rfl) (#[.int .i64 (cntP V q:Int),.int .i64 (cntT V q),S8]) _ rfl (zL rfl) (znb (hS0.step M10.below)) (zaa rfl) (by kernel_rfl) ?_
 intro w11 M11
 refine rm rfl F10 fun _ F12=>hK5 _ _ (zSk fun _ hK13=>zT fun _ hK14=>rm rfl F12 fun _ F15=>?_)
 cases qA
 ·refine zd (w':=w11) (zc rfl) rfl F15 rfl (.bool true) (zrb _ _ rfl (F15.get (t:=15) rfl)) fun _ F16=>?_
  refine hK14 _ _ (wp_cond_true (F16.get (t:=16) rfl) (zT fun _ hK17=>rm rfl F16 fun _ F18=>hK17 _ _ (zT fun _ hK19=>rm rfl F18 fun _ F20=>rm rfl F20 fun _ F21=>rm rfl F21 fun _ F22=>hK19 _ _ (wp_ret ?_))))
  try simp only [Exit.then,Exit.inBlock,Exit.jump]
  exact bodyPost_ret (res2 rfl (F22.get rfl) (F22.get rfl)) F22.defers ⟨rfl,M11.below⟩
 ·refine zd (w':=w11) (zc rfl) rfl F15 rfl (.bool false) (zrb _ _ rfl (F15.get (t:=15) rfl)) fun _ F23=>?_
  refine hK14 _ _ (wp_cond_false (F23.get (t:=16) rfl) (wp_skip (hK13 _ _ (zT fun _ hK24=>zB 4 [(4,.int .i64 0),(5,.bool false),(19,.func (.func 88) #[] #[]),(21,S8)] [0,1] (zx (M11.blk (k:=1) rfl) (zx (M11.blk (k:=2) rfl) dnil)) [g2,g10] F23 fun _ F25=>?_))))
  refine wl_callV (zc rfl) rfl F25 rfl rfl (F25.get (t:=19) rfl) (zE Tryz.func88 rfl) #[S8] (show _++_=_ from by rw [(zz (F25.get (t:=21) rfl))];rfl) (zba ((vnum_is (cntS V q) (S8) (by omega) qR rr hR hrr w11 (hS0.step M11.below)))) ?_
  rintro _ w26 a26 ⟨rfl,b26⟩ F26
  have M26:=M11.step b26
  refine zB 4 [(4,.int .i64 rr),(5,.bool qR)] [] dnil [] F26 fun _ F27=>?_
  refine hK24 _ _ (wp_ret ?_)
  try simp only [Exit.then,Exit.inBlock,Exit.jump]
  exact bodyPost_ret (res2 rfl (F27.get rfl) (F27.get rfl)) F27.defers ⟨rfl,M26.below⟩
def zwa (V:VltN) (q:Nat):Bool:=!anyB zq V q||decide (((cntS V q).length:Int)=0)
theorem empty_any (q:Nat) (hq:q+1<18) (g:Nat) (V:VltN) (s n:Nat→Value) (hv:z5a V) (w:World) (h:HasV w g V s n):
  Calls Tryz.prog 76 #[.agg #[.int .i64 (q:Int),.func (.func 105) #[] #[]],.pointer (some ⟨g,0,none⟩)] w fun e w'=>e=.returned (.bool (zwa V q))∧Below w.heap.size w w':=by
 obtain ⟨qA,hA⟩:∃ x,anyB zq V q=x:=⟨_,rfl⟩
 have hcl:=cnt_len V q (hv q (by omega)).1 (hv (q+1) hq).1
 rw [show zwa V q=(!qA||decide (((cntS V q).length:Int)=0)) by rw [zwa,hA]]
 refine zk (args:=[.agg (#[.int .i64 (q:Int),.func (.func 105) #[] #[]]),.pointer (some ⟨g,0,none⟩)]) 21 Tryz.func76 rfl rfl rfl ?_
 intro fa F
 have M:=Mx.start w
 replace M:=M.argO 0 h.blk (fun b e=>by cases e)
 refine zT fun _ hK1=>zp (zc rfl) rfl F rfl M 1 (t:=87) (c:=#[.int .i64 (q:Int),.func (.func 105) #[] #[]]) (by unfold execOp;simp only [(F.get (t:=0) rfl)];kernel_rfl) ?_
 intro g2 a2 w2 F2 M2
 refine rm rfl F2 fun _ F3=>hK1 _ _ (zT fun _ hK4=>zd (w':=w2) (zc rfl) rfl F3 rfl _ (zbb _ _ rfl (F3.get (t:=2) rfl) (M2.blk (k:=1) rfl) (#[.int .i64 (q:Int),.func (.func 105) #[] #[]]) (zcb rfl) Tryz.underlying87 rfl (by kernel_rfl)) fun _ F5=>?_)
 refine rm rfl F5 fun _ F6=>zh (zc rfl) rfl F6 rfl rfl (zE Tryz.func106 rfl) #[.agg (#[.int .i64 (q:Int),.func (.func 105) #[] #[]]),.pointer (some ⟨g,0,none⟩)] (zia (F6.get (t:=8) rfl) (F6.get (t:=9) rfl)) (countsR_is q hq g V s n hv qA hA w2 (h.step M2.below)) ?_
 rintro _ w7 a7 ⟨S7,rfl,hS7,hf7,b7⟩ F7
 have hS0:=hS7.back M2.below (fun g hg=>(hf7 g hg).elim (fun h3=>(h.hs q (by omega)).lt h3) (fun h3=>(h.hs (q+1) hq).lt h3))
 have M7:=M2.step b7
 refine zB 3 [(4,.bool false),(11,.agg (#[.int .i64 (cntP V q:Int),.int .i64 (cntT V q),S7])),(12,.bool qA)] [] dnil [] F7 fun _ F8=>?_
 refine zp (zc rfl) rfl F8 rfl M7 2 (t:=128) (c:=#[.int .i64 0,.int .i64 0,zN]) (by unfold execOp;kernel_rfl) ?_
 intro g9 a9 w9 F9 M9
 refine zu (zc rfl) rfl F9 M9 (k:=2) rfl _ _ _ rfl (F9.get (t:=5) rfl) (F9.get (t:=11) rfl) (#[.int .i64 (cntP V q:Int),.int .i64 (cntT V q),S7]) _ rfl (zL rfl) (znb (hS0.step M9.below)) (zaa rfl) (by kernel_rfl) ?_
 intro w10 M10
 refine rm rfl F9 fun _ F11=>hK4 _ _ (zT fun _ hK12=>rm rfl F11 fun _ F13=>?_)
 cases qA
 ·refine zB 8 [(4,.bool true)] [] dnil [] F13 fun _ F14=>?_
  refine hK12 _ _ (wp_ret ?_)
  try simp only [Exit.then,Exit.inBlock,Exit.jump]
  exact bodyPost_ret (res1 rfl (F14.get rfl)) F14.defers ⟨rfl,M10.below⟩
 ·refine zB 4 [(4,.bool false),(15,.bool false),(17,S7)] [0] (zx (M10.blk (k:=2) rfl) dnil) [g9] F13 fun _ F15=>?_
  refine zd (w':=w10) (ze rfl rfl rfl (F15.get (t:=15) rfl)) rfl F15 rfl (.int .i64 ((cntS V q).length:Int)) (zya _ rfl (F15.get (t:=17) rfl) (hS0.step M10.below) rfl) fun _ F16=>?_
  by_cases h17:((cntS V q).length:Int)=0
  ·refine zd (w':=w10) (ze rfl rfl rfl (F16.get (t:=15) rfl)) rfl F16 rfl (.bool true) (zgb _ _ _ _ rfl (F16.get (t:=18) rfl) rfl Tryz.underlying3 (z1b h17)) fun _ F18=>?_
   refine zB 2 [(4,.bool true)] [] dnil [] F18 fun _ F19=>?_
   refine hK12 _ _ (wp_ret ?_)
   try simp only [Exit.then,Exit.inBlock,Exit.jump]
   exact bodyPost_ret (res1 rfl (F19.get rfl)) F19.defers ⟨(by rw [decide_eq_true h17];rfl),M10.below⟩
  ·refine zd (w':=w10) (ze rfl rfl rfl (F16.get (t:=15) rfl)) rfl F16 rfl (.bool false) (zgb _ _ _ _ rfl (F16.get (t:=18) rfl) rfl Tryz.underlying3 (zhc h17)) fun _ F20=>?_
   refine zB 2 [(4,.bool false)] [] dnil [] F20 fun _ F21=>?_
   refine hK12 _ _ (wp_ret ?_)
   try simp only [Exit.then,Exit.inBlock,Exit.jump]
   exact bodyPost_ret (res1 rfl (F21.get rfl)) F21.defers ⟨(by rw [decide_eq_false h17];rfl),M10.below⟩
theorem eras_any  (w:World):
  Calls Tryz.prog 58 #[] w fun e w'=>e=.returned (.agg #[.int .i64 16,.func (.func 88) #[] #[]])∧Below w.heap.size w w':=by
 refine zk (args:=[]) 2 Tryz.func58 rfl rfl rfl ?_
 intro fa F
 have M:=Mx.start w
 refine zT fun _ hK1=>zp (zc rfl) rfl F rfl M 0 (t:=100) (c:=#[.int .i64 0,.nilFunc]) (by unfold execOp;kernel_rfl) ?_
 intro g2 a2 w2 F2 M2
 refine hK1 _ _ (zT fun _ hK3=>zd (w':=w2) (zc rfl) rfl F2 rfl (.agg (#[.int .i64 16,.func (.func 88) #[] #[]])) (by unfold execOp;simp only [List.map_toArray,List.map_cons,List.map_nil,];kernel_rfl) fun _ F4=>?_)
 refine zu (zc rfl) rfl F4 M2 (k:=0) rfl _ _ _ rfl (F4.get (t:=0) rfl) (F4.get (t:=1) rfl) (#[.int .i64 16,.func (.func 88) #[] #[]]) _ rfl (zL rfl) (by first | rfl | simp [Value.oneCell']) (zaa rfl) (by kernel_rfl) ?_
 intro w5 M5
 refine hK3 _ _ (wp_ret ?_)
 try simp only [Exit.then,Exit.inBlock,Exit.jump]
 exact bodyPost_ret (results_cell_row rfl _ _ _ _ _ (0,0) _ (F4.get rfl) (M5.blk (k:=0) rfl) Tryz.underlying100 rfl (by kernel_rfl)) F4.defers ⟨rfl,M5.below⟩
theorem boot_any (g:Nat) (V:VltN) (s n:Nat→Value) (hv:z5a V) (w:World) (h:HasV w g V s n):
  Calls Tryz.prog 26 #[.pointer (some ⟨g,0,none⟩)] w fun e w'=>e=.returned (.int .i64 (zmc V 16))∧Below w.heap.size w w':=by
 refine zk (args:=[.pointer (some ⟨g,0,none⟩)]) 14 Tryz.func26 rfl rfl rfl ?_
 intro fa F
 have M:=Mx.start w
 replace M:=M.argO 0 h.blk (fun b e=>by cases e)
 refine zT fun _ hK1=>rm rfl F fun _ F2=>hK1 _ _ (zSk fun _ hK3=>?_)
 refine z6a F2 (SK [.inl (.agg (#[.int .i64 16,.func (.func 88) #[] #[]])),.inl (.pointer (some ⟨g,0,none⟩)),.inl (.pointer (some ⟨g,0,none⟩)),.inl (.pointer (some ⟨g,0,none⟩)),.inl (.tuple #[.int .i64 (zmc V 16),.bool (numB V 16)]),.inl (.tuple #[.int .i64 (zmc V 16),.bool (numB V 16)]),.inl (.int .i64 (zmc V 16)),.inl (.bool (numB V 16)),.inl (.int .i64 (zmc V 16)),.inl (.bool (numB V 16))]) 10 rfl (by kernel_rfl) ⟨hopC F2 [] rfl (zE Tryz.func58 rfl) fun uw hb=>(eras_any uw),hop0 F2 (by kernel_rfl),hop0 F2 (by kernel_rfl),hop0 F2 (by kernel_rfl),hopC F2 [(6,.agg (#[.int .i64 16,.func (.func 88) #[] #[]])),(9,.pointer (some ⟨g,0,none⟩))] rfl (zE Tryz.func59 rfl) fun uw hb=>(saysI 16 (by omega) g V s n hv uw (h.step (M.step hb).below)),hop0 F2 (by kernel_rfl),hop0 F2 (by kernel_rfl),hop0 F2 (by kernel_rfl),hop0 F2 (by kernel_rfl),hop0 F2 (by kernel_rfl),trivial⟩ ?_
 intro p5 a5 w5 b5 G5 y5
 obtain ⟨-,-,-,-,-,-,-,-,q8,-,-⟩:=y5
 have r8:p5 8=.int .i64 (zmc V 16):=q8 (by decide)
 simp only [List.take,layV,Nat.zero_add,Nat.reduceAdd,r8] at G5
 have M5:=M.kc b5
 clear F2 M r8 q8
 refine hK3 _ _ (zT fun _ hK6=>rm rfl G5 fun _ F7=>rm rfl F7 fun _ F8=>hK6 _ _ (wp_ret ?_))
 try simp only [Exit.then,Exit.inBlock,Exit.jump]
 exact bodyPost_ret (res1 rfl (F8.get rfl)) F8.defers ⟨rfl,M5.below⟩
theorem dfail_any (g:Nat) (c:Nat→CelN) (fl:Bool) (lf:Int) (dd:Bool) (s n:Nat→Value) (z:Int) (w:World) (hg:w.heap[g]? = some (.cells (vltA ⟨c,fl,lf,dd⟩ s n) 80 (0,0))):
  Calls Tryz.prog 46 #[.pointer (some ⟨g,0,none⟩),.int .i64 z] w fun e w'=>∃ t,e=.returned t∧w'.heap[g]? = some (.cells (vltA ⟨c,decide (0≤z),z,dd⟩ s n) 80 (0,0))∧w.grownBy w' (some g):=by
 refine zk (args:=[.pointer (some ⟨g,0,none⟩),.int .i64 z]) 13 Tryz.func46 rfl rfl rfl ?_
 intro fa F
 have M:=Mx.theG hg 0
 refine zT fun _ hK1=>rm rfl F fun _ F2=>rm rfl F2 fun _ F3=>?_
 by_cases h4:0≤z
 ·refine zd (w':=w) (zc rfl) rfl F3 rfl (.bool true) (y_geq _ _ _ _ rfl (F3.get (t:=5) rfl) rfl (decide_eq_true h4)) fun _ F5=>?_
  refine zB 2 [(0,.pointer (some ⟨g,0,none⟩)),(1,.int .i64 z),(6,.bool true),(8,.pointer (some ⟨g,54,none⟩))] [] dnil [] F5 fun _ F6=>?_
  refine zu (zc rfl) rfl F6 M (k:=0) rfl _ _ _ rfl (F6.get (t:=8) rfl) (F6.get (t:=6) rfl) (#[.bool true]) (vltA ⟨c,true,lf,dd⟩ s n) rfl (zL rfl) (by simp [Value.oneCell']) (by kernel_rfl) (by kernel_rfl) ?_
  intro w7 M7
  refine hK1 _ _ (zR (zB 4 [(10,.int .i64 z),(12,.pointer (some ⟨g,55,none⟩))] [] dnil [] F6 fun _ F8=>?_))
  refine zu (zc rfl) rfl F8 M7 (k:=0) rfl _ _ _ rfl (F8.get (t:=12) rfl) (F8.get (t:=10) rfl) (#[.int .i64 z]) (vltA ⟨c,true,z,dd⟩ s n) rfl (zL rfl) (z8b _ _) (by kernel_rfl) (by kernel_rfl) ?_
  intro w9 M9
  refine wpList_nil ?_
  try simp only [Exit.then,Exit.inBlock,Exit.jump]
  exact bodyPost_end (res0 rfl) F8.defers ⟨_,rfl,(by rw [decide_eq_true h4];exact M9.blk (k:=0) rfl),M9.grown⟩
 ·refine zd (w':=w) (zc rfl) rfl F3 rfl (.bool false) (y_geq _ _ _ _ rfl (F3.get (t:=5) rfl) rfl (decide_eq_false h4)) fun _ F10=>?_
  refine zB 2 [(0,.pointer (some ⟨g,0,none⟩)),(1,.int .i64 z),(6,.bool false),(8,.pointer (some ⟨g,54,none⟩))] [] dnil [] F10 fun _ F11=>?_
  refine zu (zc rfl) rfl F11 M (k:=0) rfl _ _ _ rfl (F11.get (t:=8) rfl) (F11.get (t:=6) rfl) (#[.bool false]) (vltA ⟨c,false,lf,dd⟩ s n) rfl (zL rfl) (by simp [Value.oneCell']) (by kernel_rfl) (by kernel_rfl) ?_
  intro w12 M12
  refine hK1 _ _ (zR (zB 4 [(10,.int .i64 z),(12,.pointer (some ⟨g,55,none⟩))] [] dnil [] F11 fun _ F13=>?_))
  refine zu (zc rfl) rfl F13 M12 (k:=0) rfl _ _ _ rfl (F13.get (t:=12) rfl) (F13.get (t:=10) rfl) (#[.int .i64 z]) (vltA ⟨c,false,z,dd⟩ s n) rfl (zL rfl) (z8b _ _) (by kernel_rfl) (by kernel_rfl) ?_
  intro w14 M14
  refine wpList_nil ?_
  try simp only [Exit.then,Exit.inBlock,Exit.jump]
  exact bodyPost_end (res0 rfl) F13.defers ⟨_,rfl,(by rw [decide_eq_false h4];exact M14.blk (k:=0) rfl),M14.grown⟩
section
theorem put_n (c:Nat→CelN) (fl:Bool) (lf:Int) (dd:Bool) (s n:Nat→Value) (u:Value):∀ {p:Nat},p<18→((vltA ⟨c,fl,lf,dd⟩ s n).toList.take (3*p+1)++(#[u]:Array Value).toList++(vltA ⟨c,fl,lf,dd⟩ s n).toList.drop (3*p+1+(#[u]:Array Value).size)).toArray=vltA ⟨c,fl,lf,dd⟩ s (putN n p u)
 | p,h=>by
  match p,h with
  | 0,_=>show _=_;kernel_rfl
  | 1,_=>show _=_;kernel_rfl
  | 2,_=>show _=_;kernel_rfl
  | 3,_=>show _=_;kernel_rfl
  | 4,_=>show _=_;kernel_rfl
  | 5,_=>show _=_;kernel_rfl
  | 6,_=>show _=_;kernel_rfl
  | 7,_=>show _=_;kernel_rfl
  | 8,_=>show _=_;kernel_rfl
  | 9,_=>show _=_;kernel_rfl
  | 10,_=>show _=_;kernel_rfl
  | 11,_=>show _=_;kernel_rfl
  | 12,_=>show _=_;kernel_rfl
  | 13,_=>show _=_;kernel_rfl
  | 14,_=>show _=_;kernel_rfl
  | 15,_=>show _=_;kernel_rfl
  | 16,_=>show _=_;kernel_rfl
  | 17,_=>show _=_;kernel_rfl
  | k+18,h=>exact absurd h (by omega)
theorem put_f (c:Nat→CelN) (fl:Bool) (lf:Int) (dd:Bool) (s n:Nat→Value) (x y:List UInt8) (b:Bool):∀ {p:Nat},p<18→((vltA ⟨c,fl,lf,dd⟩ s n).toList.take (3*p+2)++(#[.bool b]:Array Value).toList++(vltA ⟨c,fl,lf,dd⟩ s n).toList.drop (3*p+2+(#[.bool b]:Array Value).size)).toArray=vltA ⟨putC c p ⟨x,y,b⟩,fl,lf,dd⟩ s n
 | p,h=>by
  match p,h with
  | 0,_=>show _=_;kernel_rfl
  | 1,_=>show _=_;kernel_rfl
  | 2,_=>show _=_;kernel_rfl
  | 3,_=>show _=_;kernel_rfl
  | 4,_=>show _=_;kernel_rfl
  | 5,_=>show _=_;kernel_rfl
  | 6,_=>show _=_;kernel_rfl
  | 7,_=>show _=_;kernel_rfl
  | 8,_=>show _=_;kernel_rfl
  | 9,_=>show _=_;kernel_rfl
  | 10,_=>show _=_;kernel_rfl
  | 11,_=>show _=_;kernel_rfl
  | 12,_=>show _=_;kernel_rfl
  | 13,_=>show _=_;kernel_rfl
  | 14,_=>show _=_;kernel_rfl
  | 15,_=>show _=_;kernel_rfl
  | 16,_=>show _=_;kernel_rfl
  | 17,_=>show _=_;kernel_rfl
  | k+18,h=>exact absurd h (by omega)
theorem put_c (c:Nat→CelN) (fl:Bool) (lf:Int) (dd:Bool) (s n:Nat→Value) (u v:Value) (x y:List UInt8) (b:Bool):∀ {p:Nat},p<18→((vltA ⟨c,fl,lf,dd⟩ s n).toList.take (3*p)++(#[u,v,.bool b]:Array Value).toList++(vltA ⟨c,fl,lf,dd⟩ s n).toList.drop (3*p+(#[u,v,.bool b]:Array Value).size)).toArray=vltA ⟨putC c p ⟨x,y,b⟩,fl,lf,dd⟩ (putN s p u) (putN n p v)
 | p,h=>by
  match p,h with
  | 0,_=>show _=_;kernel_rfl
  | 1,_=>show _=_;kernel_rfl
  | 2,_=>show _=_;kernel_rfl
  | 3,_=>show _=_;kernel_rfl
  | 4,_=>show _=_;kernel_rfl
  | 5,_=>show _=_;kernel_rfl
  | 6,_=>show _=_;kernel_rfl
  | 7,_=>show _=_;kernel_rfl
  | 8,_=>show _=_;kernel_rfl
  | 9,_=>show _=_;kernel_rfl
  | 10,_=>show _=_;kernel_rfl
  | 11,_=>show _=_;kernel_rfl
  | 12,_=>show _=_;kernel_rfl
  | 13,_=>show _=_;kernel_rfl
  | 14,_=>show _=_;kernel_rfl
  | 15,_=>show _=_;kernel_rfl
  | 16,_=>show _=_;kernel_rfl
  | 17,_=>show _=_;kernel_rfl
  | k+18,h=>exact absurd h (by omega)
end
theorem lay_any (g:Nat) (c:Nat→CelN) (fl:Bool) (lf:Int) (dd:Bool) (s n:Nat→Value) (p bx:Nat) (hp:p<18) (u:Value) (hu:∃ A m k,u=.slice A m k) (l:List UInt8) (hne:¬bx=g) (w:World) (hbx:w.heap[bx]? = some (.cells #[u] 23 (0,0))) (hg:w.heap[g]? = some (.cells (vltA ⟨c,fl,lf,dd⟩ s n) 80 (0,0))):
  Calls Tryz.prog 123 #[.pointer (some ⟨g,3*p,none⟩),.pointer (some ⟨bx,0,none⟩)] w fun e w'=>∃ t,e=.returned t∧w'.heap[g]? = some (.cells (vltA ⟨putC c p ⟨(c p).s,l,true⟩,fl,lf,dd⟩ s (putN n p u)) 80 (0,0))∧w.grownBy w' (some g):=by
 obtain ⟨Au,mu,ku,rfl⟩:=hu
 refine zk (args:=[.pointer (some ⟨g,3*p,none⟩),.pointer (some ⟨bx,0,none⟩)]) 10 Tryz.func123 rfl rfl rfl ?_
 intro fa F
 have M:=Mx.theG hg 0
 replace M:=M.argO 1 hbx (fun b e=>by cases e;exact hne)
 refine zR (zB 4 [(4,.pointer (some ⟨g,3*p,none⟩)),(5,(.slice Au mu ku)),(6,.pointer (some ⟨g,3*p,none⟩))] [0] (zx (M.roB (k:=1) rfl) dnil) [bx] F fun _ F1=>?_)
 refine zd (w':=w) (zc rfl) rfl F1 rfl (.pointer (some ⟨g,3*p+1,none⟩)) (y_fa (off:=1) rfl (F1.get (t:=6) rfl) (by kernel_rfl) rfl) fun _ F2=>?_
 refine zu (zc rfl) rfl F2 M (k:=0) rfl _ _ _ rfl (F2.get (t:=7) rfl) (F2.get (t:=5) rfl) (#[(.slice Au mu ku)]) (vltA ⟨c,fl,lf,dd⟩ s (putN n p (.slice Au mu ku))) rfl (show 3*p+1+1≤57 by omega) (by simp [Value.oneCell']) (put_n c fl lf dd s n (.slice Au mu ku) hp) (by kernel_rfl) ?_
 intro w3 M3
 refine zd (w':=w3) (zc rfl) rfl F2 rfl (.pointer (some ⟨g,3*p,none⟩)) (by unfold execOp;simp only [(F2.get (t:=4) rfl)];kernel_rfl) fun _ F4=>?_
 refine zd (w':=w3) (zc rfl) rfl F4 rfl (.pointer (some ⟨g,3*p+2,none⟩)) (y_fa (off:=2) rfl (F4.get (t:=8) rfl) (by kernel_rfl) rfl) fun _ F5=>?_
 refine zu (zc rfl) rfl F5 M3 (k:=0) rfl _ _ _ rfl (F5.get (t:=9) rfl) rfl (#[.bool true]) (vltA ⟨(putC c p ⟨(c p).s,l,true⟩),fl,lf,dd⟩ s (putN n p (.slice Au mu ku))) rfl (show 3*p+2+1≤57 by omega) (by simp [Value.oneCell']) (put_f c fl lf dd s (putN n p (.slice Au mu ku)) (c p).s l true hp) (by kernel_rfl) ?_
 intro w6 M6
 refine wpList_nil ?_
 try simp only [Exit.then,Exit.inBlock,Exit.jump]
 exact bodyPost_end (res0 rfl) F5.defers ⟨_,rfl,M6.blk (k:=0) rfl,M6.grown⟩
theorem keep_any (g:Nat) (c:Nat→CelN) (fl:Bool) (lf:Int) (dd:Bool) (s n:Nat→Value) (p:Nat) (hp:p<18) (hu:∃ A m k,n p=.slice A m k) (x:List UInt8) (w:World) (hg:w.heap[g]? = some (.cells (vltA ⟨c,fl,lf,dd⟩ s n) 80 (0,0))):
  Calls Tryz.prog 124 #[.pointer (some ⟨g,3*p,none⟩)] w fun e w'=>∃ t,e=.returned t∧w'.heap[g]? = some (.cells (vltA ⟨putC c p ⟨x,[],false⟩,fl,lf,dd⟩ (putN s p (n p)) (putN n p (zN))) 80 (0,0))∧w.grownBy w' (some g):=by
 obtain ⟨Au,mu,ku,hnu⟩:=hu
 refine zk (args:=[.pointer (some ⟨g,3*p,none⟩)]) 9 Tryz.func124 rfl rfl rfl ?_
 intro fa F
 have M:=Mx.theG hg 0
 refine zR (zB 3 [(2,.pointer (some ⟨g,3*p,none⟩)),(4,.pointer (some ⟨g,3*p,none⟩))] [] dnil [] F fun _ F1=>?_)
 refine zd (w':=w) (zc rfl) rfl F1 rfl (.pointer (some ⟨g,3*p+1,none⟩)) (y_fa (off:=1) rfl (F1.get (t:=4) rfl) (by kernel_rfl) rfl) fun _ F2=>?_
 refine zd (w':=w) (zc rfl) rfl F2 rfl ((.slice Au mu ku)) (zca _ _ rfl (F2.get (t:=5) rfl) (M.blk (k:=0) rfl) (by rw [←hnu];exact vlt_n ⟨c,fl,lf,dd⟩ s n hp) Tryz.underlying23 rfl) fun _ F3=>?_
 refine zd (w':=w) (zc rfl) rfl F3 rfl (.agg (#[(.slice Au mu ku),zN,.bool false])) (by unfold execOp;simp only [List.map_toArray,List.map_cons,List.map_nil,(F3.get (t:=6) rfl)];kernel_rfl) fun _ F4=>?_
 refine zd (w':=w) (zc rfl) rfl F4 rfl (.pointer (some ⟨g,3*p,none⟩)) (by unfold execOp;simp only [(F4.get (t:=2) rfl)];kernel_rfl) fun _ F5=>?_
 refine zu (zc rfl) rfl F5 M (k:=0) rfl _ _ _ rfl (F5.get (t:=8) rfl) (F5.get (t:=7) rfl) (#[(.slice Au mu ku),zN,.bool false]) (vltA ⟨(putC c p ⟨x,[],false⟩),fl,lf,dd⟩ (putN s p (.slice Au mu ku)) (putN n p (zN))) rfl (show 3*p+3≤57 by omega) (by simp [Value.oneCell']) (put_c c fl lf dd s n (.slice Au mu ku) (zN) x [] false hp) (by kernel_rfl) ?_
 intro w6 M6
 refine wpList_nil ?_
 try simp only [Exit.then,Exit.inBlock,Exit.jump]
 exact bodyPost_end (res0 rfl) F5.defers ⟨_,rfl,(by rw [hnu];exact M6.blk (k:=0) rfl),M6.grown⟩
theorem y_subW {a:Act} {w:World} {o:Oper} (x y:Operand) (ho:o.op=.binOp .sub 3 x y 3) {p q:Int} (hx:a.eval x=.int .i64 p) (hy:a.eval y=.int .i64 q):(execOp a.eval o).run Tryz.prog w=.ok (.value (.int .i64 (IntKind.i64.wrap (p-q)))) w:=by
 unfold execOp;simp only [ho,hx,hy];simp [go_sem]
theorem step_lay (g:Nat) (c:Nat→CelN) (fl:Bool) (lf:Int) (dd:Bool) (s n:Nat→Value) (p bx:Nat) (hp:p<18) (u:Value) (hu:∃ A m k,u=.slice A m k) (l:List UInt8) (hne:¬bx=g) (w:World) (hbx:w.heap[bx]? = some (.cells #[u] 23 (0,0))) (hg:w.heap[g]? = some (.cells (vltA ⟨c,fl,lf,dd⟩ s n) 80 (0,0))):
  Calls Tryz.prog 125 #[.pointer (some ⟨g,0,none⟩),.int .i64 (p:Int),.func (.func 123) #[] #[.pointer (some ⟨bx,0,none⟩)]] w fun e w'=>∃ t,e=.returned t∧t=.bool (!(fl&&decide (lf=0)))∧w'.heap[g]? = some (.cells (if (fl&&decide (lf=0))=true then vltA ⟨c,fl,lf,true⟩ s n else vltA ⟨putC c p ⟨(c p).s,l,true⟩,fl,IntKind.i64.wrap (lf-1),dd⟩ s (putN n p u)) 80 (0,0))∧w.grownBy w' (some g):=by
 refine zk (args:=[.pointer (some ⟨g,0,none⟩),.int .i64 (p:Int),.func (.func 123) #[] #[.pointer (some ⟨bx,0,none⟩)]]) 35 Tryz.func125 rfl rfl rfl ?_
 intro fa F
 have M:=Mx.theG hg 0
 replace M:=M.argO 1 hbx (fun b e=>by cases e;exact hne)
 refine zT fun _ hK1=>rm rfl F fun _ F2=>hK1 _ _ (zSk fun _ hK3=>zT fun _ hK4=>zB 5 [(0,.pointer (some ⟨g,0,none⟩)),(1,.int .i64 (p:Int)),(2,.func (.func 123) #[] #[.pointer (some ⟨bx,0,none⟩)]),(6,.bool false),(11,.bool fl)] [0] (zx (M.blk (k:=0) rfl) dnil) [g] F2 fun _ F5=>?_)
 cases fl
 ·refine zAx 6 [(12,undef),(13,undef),(14,undef),(15,undef),(16,undef),(17,.bool false)] [] dnil [] F5 fun _ F6=>?_
  refine hK4 _ _ (wp_cond_false (F6.get (t:=17) rfl) (wp_skip (hK3 _ _ (zT fun _ hK7=>zAx 4 [(21,.pointer (some ⟨g,0,none⟩)),(22,.pointer (some ⟨g,0,none⟩)),(23,.pointer (some ⟨g,55,none⟩)),(24,.int .i64 lf)] [0] (zx (M.blk (k:=0) rfl) dnil) [g] F6 fun _ F8=>?_))))
  refine zd (w':=w) (zc rfl) rfl F8 rfl (.int .i64 (IntKind.i64.wrap (lf-1))) (y_subW _ _ rfl (F8.get (t:=24) rfl) rfl) fun _ F9=>?_
  refine zAx 2 [(26,.pointer (some ⟨g,0,none⟩)),(27,.pointer (some ⟨g,55,none⟩))] [] dnil [] F9 fun _ F10=>?_
  refine zu (zc rfl) rfl F10 M (k:=0) rfl _ _ _ rfl (F10.get (t:=27) rfl) (F10.get (t:=25) rfl) (#[.int .i64 (IntKind.i64.wrap (lf-1))]) (vltA ⟨c,false,(IntKind.i64.wrap (lf-1)),dd⟩ s n) rfl (zL rfl) (z8b _ _) (by kernel_rfl) (by kernel_rfl) ?_
  intro w11 M11
  refine hK7 _ _ (zT fun _ hK12=>zB 5 [(6,.bool false),(28,.func (.func 123) #[] #[.pointer (some ⟨bx,0,none⟩)]),(30,.int .i64 (p:Int)),(32,.pointer (some ⟨g,0,none⟩))] [] dnil [] F10 fun _ F13=>?_)
  refine zd (w':=w11) (zc rfl) rfl F13 rfl (.pointer (some ⟨g,3*p,none⟩)) (y_ixC3 (N:=18) 76 (by kernel_rfl) (by kernel_rfl) (by kernel_rfl) rfl (F13.get (t:=32) rfl) (F13.get (t:=30) rfl) rfl hp) fun _ F14=>?_
  refine wl_callV (zc rfl) rfl F14 rfl rfl (F14.get (t:=28) rfl) (zE Tryz.func123 rfl) #[.pointer (some ⟨g,3*p,none⟩),.pointer (some ⟨bx,0,none⟩)] (show _++_=_ from by rw [(zz (F14.get (t:=33) rfl))];rfl) (lay_any g c false (IntKind.i64.wrap (lf-1)) dd s n p bx hp u hu l hne w11 (M11.roB (k:=1) rfl) (M11.blk (k:=0) rfl)) ?_
  rintro _ w15 a15 ⟨hc15,hg15⟩ F15
  have M15:=M11.put (k:=0) rfl hg15 hc15
  clear M11 hg15 hc15
  refine hK12 _ _ (zT fun _ hK16=>rm rfl F15 fun _ F17=>hK16 _ _ (wp_ret ?_))
  try simp only [Exit.then,Exit.inBlock,Exit.jump]
  exact bodyPost_ret (res1 rfl (F17.get rfl)) F17.defers ⟨_,rfl,rfl,(by rw [if_neg (by simp)];exact M15.blk (k:=0) rfl),M15.grown⟩
 ·refine zAx 4 [(12,.pointer (some ⟨g,0,none⟩)),(13,.pointer (some ⟨g,0,none⟩)),(14,.pointer (some ⟨g,55,none⟩)),(15,.int .i64 lf)] [0] (zx (M.blk (k:=0) rfl) dnil) [g] F5 fun _ F18=>?_
  by_cases h19:lf=0
  ·refine zd (w':=w) (ze rfl rfl rfl (F18.get (t:=11) rfl)) rfl F18 rfl (.bool true) (zgb _ _ _ _ rfl (F18.get (t:=15) rfl) rfl Tryz.underlying3 (z1b h19)) fun _ F20=>?_
   refine zd (w':=w) (zc rfl) rfl F20 rfl (.bool true) (zob rfl (F20.get (t:=11) rfl) (F20.get (t:=16) rfl)) fun _ F21=>?_
   refine hK4 _ _ (wp_cond_true (F21.get (t:=17) rfl) (zT fun _ hK22=>zAx 3 [(18,.pointer (some ⟨g,0,none⟩)),(19,.pointer (some ⟨g,0,none⟩)),(20,.pointer (some ⟨g,56,none⟩))] [] dnil [] F21 fun _ F23=>?_))
   refine zu (zc rfl) rfl F23 M (k:=0) rfl _ _ _ rfl (F23.get (t:=20) rfl) rfl (#[.bool true]) (vltA ⟨c,true,lf,true⟩ s n) rfl (zL rfl) (by simp [Value.oneCell']) (by kernel_rfl) (by kernel_rfl) ?_
   intro w24 M24
   refine hK22 _ _ (zT fun _ hK25=>rm rfl F23 fun _ F26=>hK25 _ _ (wp_ret ?_))
   try simp only [Exit.then,Exit.inBlock,Exit.jump]
   exact bodyPost_ret (res1 rfl (F26.get rfl)) F26.defers ⟨_,rfl,(by rw [decide_eq_true h19];rfl),(by rw [if_pos (by simp [h19])];exact M24.blk (k:=0) rfl),M24.grown⟩
  ·refine zd (w':=w) (ze rfl rfl rfl (F18.get (t:=11) rfl)) rfl F18 rfl (.bool false) (zgb _ _ _ _ rfl (F18.get (t:=15) rfl) rfl Tryz.underlying3 (zhc h19)) fun _ F27=>?_
   refine zd (w':=w) (zc rfl) rfl F27 rfl (.bool false) (zob rfl (F27.get (t:=11) rfl) (F27.get (t:=16) rfl)) fun _ F28=>?_
   refine hK4 _ _ (wp_cond_false (F28.get (t:=17) rfl) (wp_skip (hK3 _ _ (zT fun _ hK29=>zAx 4 [(21,.pointer (some ⟨g,0,none⟩)),(22,.pointer (some ⟨g,0,none⟩)),(23,.pointer (some ⟨g,55,none⟩)),(24,.int .i64 lf)] [0] (zx (M.blk (k:=0) rfl) dnil) [g] F28 fun _ F30=>?_))))
   refine zd (w':=w) (zc rfl) rfl F30 rfl (.int .i64 (IntKind.i64.wrap (lf-1))) (y_subW _ _ rfl (F30.get (t:=24) rfl) rfl) fun _ F31=>?_
   refine zAx 2 [(26,.pointer (some ⟨g,0,none⟩)),(27,.pointer (some ⟨g,55,none⟩))] [] dnil [] F31 fun _ F32=>?_
   refine zu (zc rfl) rfl F32 M (k:=0) rfl _ _ _ rfl (F32.get (t:=27) rfl) (F32.get (t:=25) rfl) (#[.int .i64 (IntKind.i64.wrap (lf-1))]) (vltA ⟨c,true,(IntKind.i64.wrap (lf-1)),dd⟩ s n) rfl (zL rfl) (z8b _ _) (by kernel_rfl) (by kernel_rfl) ?_
   intro w33 M33
   refine hK29 _ _ (zT fun _ hK34=>zB 5 [(6,.bool false),(28,.func (.func 123) #[] #[.pointer (some ⟨bx,0,none⟩)]),(30,.int .i64 (p:Int)),(32,.pointer (some ⟨g,0,none⟩))] [] dnil [] F32 fun _ F35=>?_)
   refine zd (w':=w33) (zc rfl) rfl F35 rfl (.pointer (some ⟨g,3*p,none⟩)) (y_ixC3 (N:=18) 76 (by kernel_rfl) (by kernel_rfl) (by kernel_rfl) rfl (F35.get (t:=32) rfl) (F35.get (t:=30) rfl) rfl hp) fun _ F36=>?_
   refine wl_callV (zc rfl) rfl F36 rfl rfl (F36.get (t:=28) rfl) (zE Tryz.func123 rfl) #[.pointer (some ⟨g,3*p,none⟩),.pointer (some ⟨bx,0,none⟩)] (show _++_=_ from by rw [(zz (F36.get (t:=33) rfl))];rfl) (lay_any g c true (IntKind.i64.wrap (lf-1)) dd s n p bx hp u hu l hne w33 (M33.roB (k:=1) rfl) (M33.blk (k:=0) rfl)) ?_
   rintro _ w37 a37 ⟨hc37,hg37⟩ F37
   have M37:=M33.put (k:=0) rfl hg37 hc37
   clear M33 hg37 hc37
   refine hK34 _ _ (zT fun _ hK38=>rm rfl F37 fun _ F39=>hK38 _ _ (wp_ret ?_))
   try simp only [Exit.then,Exit.inBlock,Exit.jump]
   exact bodyPost_ret (res1 rfl (F39.get rfl)) F39.defers ⟨_,rfl,(by rw [decide_eq_false h19];rfl),(by rw [if_neg (by simp [h19])];exact M37.blk (k:=0) rfl),M37.grown⟩
theorem step_keep (g:Nat) (c:Nat→CelN) (fl:Bool) (lf:Int) (dd:Bool) (s n:Nat→Value) (p:Nat) (hp:p<18) (hu:∃ A m k,n p=.slice A m k) (x:List UInt8) (w:World) (hg:w.heap[g]? = some (.cells (vltA ⟨c,fl,lf,dd⟩ s n) 80 (0,0))):
  Calls Tryz.prog 125 #[.pointer (some ⟨g,0,none⟩),.int .i64 (p:Int),.func (.func 124) #[] #[]] w fun e w'=>∃ t,e=.returned t∧t=.bool (!(fl&&decide (lf=0)))∧w'.heap[g]? = some (.cells (if (fl&&decide (lf=0))=true then vltA ⟨c,fl,lf,true⟩ s n else vltA ⟨putC c p ⟨x,[],false⟩,fl,IntKind.i64.wrap (lf-1),dd⟩ (putN s p (n p)) (putN n p (zN))) 80 (0,0))∧w.grownBy w' (some g):=by
 refine zk (args:=[.pointer (some ⟨g,0,none⟩),.int .i64 (p:Int),.func (.func 124) #[] #[]]) 35 Tryz.func125 rfl rfl rfl ?_
 intro fa F
 have M:=Mx.theG hg 0
 refine zT fun _ hK1=>rm rfl F fun _ F2=>hK1 _ _ (zSk fun _ hK3=>zT fun _ hK4=>zB 5 [(0,.pointer (some ⟨g,0,none⟩)),(1,.int .i64 (p:Int)),(2,.func (.func 124) #[] #[]),(6,.bool false),(11,.bool fl)] [0] (zx (M.blk (k:=0) rfl) dnil) [g] F2 fun _ F5=>?_)
 cases fl
 ·refine zAx 6 [(12,undef),(13,undef),(14,undef),(15,undef),(16,undef),(17,.bool false)] [] dnil [] F5 fun _ F6=>?_
  refine hK4 _ _ (wp_cond_false (F6.get (t:=17) rfl) (wp_skip (hK3 _ _ (zT fun _ hK7=>zAx 4 [(21,.pointer (some ⟨g,0,none⟩)),(22,.pointer (some ⟨g,0,none⟩)),(23,.pointer (some ⟨g,55,none⟩)),(24,.int .i64 lf)] [0] (zx (M.blk (k:=0) rfl) dnil) [g] F6 fun _ F8=>?_))))
  refine zd (w':=w) (zc rfl) rfl F8 rfl (.int .i64 (IntKind.i64.wrap (lf-1))) (y_subW _ _ rfl (F8.get (t:=24) rfl) rfl) fun _ F9=>?_
  refine zAx 2 [(26,.pointer (some ⟨g,0,none⟩)),(27,.pointer (some ⟨g,55,none⟩))] [] dnil [] F9 fun _ F10=>?_
  refine zu (zc rfl) rfl F10 M (k:=0) rfl _ _ _ rfl (F10.get (t:=27) rfl) (F10.get (t:=25) rfl) (#[.int .i64 (IntKind.i64.wrap (lf-1))]) (vltA ⟨c,false,(IntKind.i64.wrap (lf-1)),dd⟩ s n) rfl (zL rfl) (z8b _ _) (by kernel_rfl) (by kernel_rfl) ?_
  intro w11 M11
  refine hK7 _ _ (zT fun _ hK12=>zB 5 [(6,.bool false),(28,.func (.func 124) #[] #[]),(30,.int .i64 (p:Int)),(32,.pointer (some ⟨g,0,none⟩))] [] dnil [] F10 fun _ F13=>?_)
  refine zd (w':=w11) (zc rfl) rfl F13 rfl (.pointer (some ⟨g,3*p,none⟩)) (y_ixC3 (N:=18) 76 (by kernel_rfl) (by kernel_rfl) (by kernel_rfl) rfl (F13.get (t:=32) rfl) (F13.get (t:=30) rfl) rfl hp) fun _ F14=>?_
  refine wl_callV (zc rfl) rfl F14 rfl rfl (F14.get (t:=28) rfl) (zE Tryz.func124 rfl) #[.pointer (some ⟨g,3*p,none⟩)] (show _++_=_ from by rw [(zz (F14.get (t:=33) rfl))];rfl) (keep_any g c false (IntKind.i64.wrap (lf-1)) dd s n p hp hu x w11 (M11.blk (k:=0) rfl)) ?_
  rintro _ w15 a15 ⟨hc15,hg15⟩ F15
  have M15:=M11.put (k:=0) rfl hg15 hc15
  clear M11 hg15 hc15
  refine hK12 _ _ (zT fun _ hK16=>rm rfl F15 fun _ F17=>hK16 _ _ (wp_ret ?_))
  try simp only [Exit.then,Exit.inBlock,Exit.jump]
  exact bodyPost_ret (res1 rfl (F17.get rfl)) F17.defers ⟨_,rfl,rfl,(by rw [if_neg (by simp)];exact M15.blk (k:=0) rfl),M15.grown⟩
 ·refine zB 4 [(0,.pointer (some ⟨g,0,none⟩)),(1,.int .i64 (p:Int)),(2,.func (.func 124) #[] #[]),(6,.bool false),(11,.bool true),(15,.int .i64 lf)] [0] (zx (M.blk (k:=0) rfl) dnil) [g] F5 fun _ F18=>?_
  by_cases h19:lf=0
  ·refine zd (w':=w) (ze rfl rfl rfl (F18.get (t:=11) rfl)) rfl F18 rfl (.bool true) (zgb _ _ _ _ rfl (F18.get (t:=15) rfl) rfl Tryz.underlying3 (z1b h19)) fun _ F20=>?_
   refine zd (w':=w) (zc rfl) rfl F20 rfl (.bool true) (zob rfl (F20.get (t:=11) rfl) (F20.get (t:=16) rfl)) fun _ F21=>?_
   refine hK4 _ _ (wp_cond_true (F21.get (t:=17) rfl) (zT fun _ hK22=>zAx 3 [(18,.pointer (some ⟨g,0,none⟩)),(19,.pointer (some ⟨g,0,none⟩)),(20,.pointer (some ⟨g,56,none⟩))] [] dnil [] F21 fun _ F23=>?_))
   refine zu (zc rfl) rfl F23 M (k:=0) rfl _ _ _ rfl (F23.get (t:=20) rfl) rfl (#[.bool true]) (vltA ⟨c,true,lf,true⟩ s n) rfl (zL rfl) (by simp [Value.oneCell']) (by kernel_rfl) (by kernel_rfl) ?_
   intro w24 M24
   refine hK22 _ _ (zT fun _ hK25=>rm rfl F23 fun _ F26=>hK25 _ _ (wp_ret ?_))
   try simp only [Exit.then,Exit.inBlock,Exit.jump]
   exact bodyPost_ret (res1 rfl (F26.get rfl)) F26.defers ⟨_,rfl,(by rw [decide_eq_true h19];rfl),(by rw [if_pos (by simp [h19])];exact M24.blk (k:=0) rfl),M24.grown⟩
  ·refine zd (w':=w) (ze rfl rfl rfl (F18.get (t:=11) rfl)) rfl F18 rfl (.bool false) (zgb _ _ _ _ rfl (F18.get (t:=15) rfl) rfl Tryz.underlying3 (zhc h19)) fun _ F27=>?_
   refine zd (w':=w) (zc rfl) rfl F27 rfl (.bool false) (zob rfl (F27.get (t:=11) rfl) (F27.get (t:=16) rfl)) fun _ F28=>?_
   refine hK4 _ _ (wp_cond_false (F28.get (t:=17) rfl) (wp_skip (hK3 _ _ (zT fun _ hK29=>zAx 4 [(21,.pointer (some ⟨g,0,none⟩)),(22,.pointer (some ⟨g,0,none⟩)),(23,.pointer (some ⟨g,55,none⟩)),(24,.int .i64 lf)] [0] (zx (M.blk (k:=0) rfl) dnil) [g] F28 fun _ F30=>?_))))
   refine zd (w':=w) (zc rfl) rfl F30 rfl (.int .i64 (IntKind.i64.wrap (lf-1))) (y_subW _ _ rfl (F30.get (t:=24) rfl) rfl) fun _ F31=>?_
   refine zAx 2 [(26,.pointer (some ⟨g,0,none⟩)),(27,.pointer (some ⟨g,55,none⟩))] [] dnil [] F31 fun _ F32=>?_
   refine zu (zc rfl) rfl F32 M (k:=0) rfl _ _ _ rfl (F32.get (t:=27) rfl) (F32.get (t:=25) rfl) (#[.int .i64 (IntKind.i64.wrap (lf-1))]) (vltA ⟨c,true,(IntKind.i64.wrap (lf-1)),dd⟩ s n) rfl (zL rfl) (z8b _ _) (by kernel_rfl) (by kernel_rfl) ?_
   intro w33 M33
   refine hK29 _ _ (zT fun _ hK34=>zB 5 [(6,.bool false),(28,.func (.func 124) #[] #[]),(30,.int .i64 (p:Int)),(32,.pointer (some ⟨g,0,none⟩))] [] dnil [] F32 fun _ F35=>?_)
   refine zd (w':=w33) (zc rfl) rfl F35 rfl (.pointer (some ⟨g,3*p,none⟩)) (y_ixC3 (N:=18) 76 (by kernel_rfl) (by kernel_rfl) (by kernel_rfl) rfl (F35.get (t:=32) rfl) (F35.get (t:=30) rfl) rfl hp) fun _ F36=>?_
   refine wl_callV (zc rfl) rfl F36 rfl rfl (F36.get (t:=28) rfl) (zE Tryz.func124 rfl) #[.pointer (some ⟨g,3*p,none⟩)] (show _++_=_ from by rw [(zz (F36.get (t:=33) rfl))];rfl) (keep_any g c true (IntKind.i64.wrap (lf-1)) dd s n p hp hu x w33 (M33.blk (k:=0) rfl)) ?_
   rintro _ w37 a37 ⟨hc37,hg37⟩ F37
   have M37:=M33.put (k:=0) rfl hg37 hc37
   clear M33 hg37 hc37
   refine hK34 _ _ (zT fun _ hK38=>rm rfl F37 fun _ F39=>hK38 _ _ (wp_ret ?_))
   try simp only [Exit.then,Exit.inBlock,Exit.jump]
   exact bodyPost_ret (res1 rfl (F39.get rfl)) F39.defers ⟨_,rfl,(by rw [decide_eq_false h19];rfl),(by rw [if_neg (by simp [h19])];exact M37.blk (k:=0) rfl),M37.grown⟩
theorem putN_at (s:Nat→Value) (p:Nat) (v:Value):putN s p v p=v:=if_pos rfl
theorem step_lay_t (g:Nat) (c:Nat→CelN) (fl:Bool) (lf:Int) (dd:Bool) (s n:Nat→Value) (p bx:Nat) (hp:p<18) (u:Value) (hu:∃ A m k,u=.slice A m k) (l:List UInt8) (hne:¬bx=g) (hf:(fl&&decide (lf=0))=true) (w:World) (hbx:w.heap[bx]? = some (.cells #[u] 23 (0,0))) (hg:w.heap[g]? = some (.cells (vltA ⟨c,fl,lf,dd⟩ s n) 80 (0,0))):
  Calls Tryz.prog 125 #[.pointer (some ⟨g,0,none⟩),.int .i64 (p:Int),.func (.func 123) #[] #[.pointer (some ⟨bx,0,none⟩)]] w fun e w'=>∃ t,e=.returned t∧t=.bool false∧w'.heap[g]? = some (.cells (vltA ⟨c,fl,lf,true⟩ s n) 80 (0,0))∧w.grownBy w' (some g):=
 (step_lay g c fl lf dd s n p bx hp u hu l hne w hbx hg).mono fun e w' ⟨t,h1,h2,h3,h4⟩=>⟨t,h1,(by simp only [hf,Bool.not_true,Bool.not_false] at h2;exact h2),(by simp only [hf,if_true,Bool.false_eq_true,if_false] at h3;exact h3),h4⟩
theorem step_lay_f (g:Nat) (c:Nat→CelN) (fl:Bool) (lf:Int) (dd:Bool) (s n:Nat→Value) (p bx:Nat) (hp:p<18) (u:Value) (hu:∃ A m k,u=.slice A m k) (l:List UInt8) (hne:¬bx=g) (hf:(fl&&decide (lf=0))=false) (w:World) (hbx:w.heap[bx]? = some (.cells #[u] 23 (0,0))) (hg:w.heap[g]? = some (.cells (vltA ⟨c,fl,lf,dd⟩ s n) 80 (0,0))):
  Calls Tryz.prog 125 #[.pointer (some ⟨g,0,none⟩),.int .i64 (p:Int),.func (.func 123) #[] #[.pointer (some ⟨bx,0,none⟩)]] w fun e w'=>∃ t,e=.returned t∧t=.bool true∧w'.heap[g]? = some (.cells (vltA ⟨putC c p ⟨(c p).s,l,true⟩,fl,IntKind.i64.wrap (lf-1),dd⟩ s (putN n p u)) 80 (0,0))∧w.grownBy w' (some g):=
 (step_lay g c fl lf dd s n p bx hp u hu l hne w hbx hg).mono fun e w' ⟨t,h1,h2,h3,h4⟩=>⟨t,h1,(by simp only [hf,Bool.not_true,Bool.not_false] at h2;exact h2),(by simp only [hf,if_true,Bool.false_eq_true,if_false] at h3;exact h3),h4⟩
theorem step_keep_t (g:Nat) (c:Nat→CelN) (fl:Bool) (lf:Int) (dd:Bool) (s n:Nat→Value) (p:Nat) (hp:p<18) (hu:∃ A m k,n p=.slice A m k) (x:List UInt8) (hf:(fl&&decide (lf=0))=true) (w:World) (hg:w.heap[g]? = some (.cells (vltA ⟨c,fl,lf,dd⟩ s n) 80 (0,0))):
  Calls Tryz.prog 125 #[.pointer (some ⟨g,0,none⟩),.int .i64 (p:Int),.func (.func 124) #[] #[]] w fun e w'=>∃ t,e=.returned t∧t=.bool false∧w'.heap[g]? = some (.cells (vltA ⟨c,fl,lf,true⟩ s n) 80 (0,0))∧w.grownBy w' (some g):=
 (step_keep g c fl lf dd s n p hp hu x w hg).mono fun e w' ⟨t,h1,h2,h3,h4⟩=>⟨t,h1,(by simp only [hf,Bool.not_true,Bool.not_false] at h2;exact h2),(by simp only [hf,if_true,Bool.false_eq_true,if_false] at h3;exact h3),h4⟩
theorem step_keep_f (g:Nat) (c:Nat→CelN) (fl:Bool) (lf:Int) (dd:Bool) (s n:Nat→Value) (p:Nat) (hp:p<18) (hu:∃ A m k,n p=.slice A m k) (x:List UInt8) (hf:(fl&&decide (lf=0))=false) (w:World) (hg:w.heap[g]? = some (.cells (vltA ⟨c,fl,lf,dd⟩ s n) 80 (0,0))):
  Calls Tryz.prog 125 #[.pointer (some ⟨g,0,none⟩),.int .i64 (p:Int),.func (.func 124) #[] #[]] w fun e w'=>∃ t,e=.returned t∧t=.bool true∧w'.heap[g]? = some (.cells (vltA ⟨putC c p ⟨x,[],false⟩,fl,IntKind.i64.wrap (lf-1),dd⟩ (putN s p (n p)) (putN n p (zN))) 80 (0,0))∧w.grownBy w' (some g):=
 (step_keep g c fl lf dd s n p hp hu x w hg).mono fun e w' ⟨t,h1,h2,h3,h4⟩=>⟨t,h1,(by simp only [hf,Bool.not_true,Bool.not_false] at h2;exact h2),(by simp only [hf,if_true,Bool.false_eq_true,if_false] at h3;exact h3),h4⟩
theorem dwrite_1 (g:Nat) (c:Nat→CelN) (fl:Bool) (lf:Int) (dd:Bool) (s n:Nat→Value) (p:Nat) (hp:p<18) (u:Value) (hu:∃ A m k,u=.slice A m k) (l:List UInt8) (hf1:(fl&&decide (lf=0))=true) (w:World) (hg:w.heap[g]? = some (.cells (vltA ⟨c,fl,lf,dd⟩ s n) 80 (0,0))):
  Calls Tryz.prog 98 #[.pointer (some ⟨g,0,none⟩),.int .i64 (p:Int),u] w fun e w'=>∃ t,e=.returned t∧t=.bool false∧w'.heap[g]? = some (.cells (vltA ⟨c,fl,lf,true⟩ s n) 80 (0,0))∧w.grownBy w' (some g):=by
 obtain ⟨Au,mu,ku,rfl⟩:=hu
 refine zk (args:=[.pointer (some ⟨g,0,none⟩),.int .i64 (p:Int),(.slice Au mu ku)]) 20 Tryz.func98 rfl rfl rfl ?_
 intro fa F
 have M:=Mx.theG hg 0
 refine zT fun _ hK1=>zp (zc rfl) rfl F rfl M 1 (t:=23) (c:=#[(.slice Au mu ku)]) (by unfold execOp;simp only [(F.get (t:=2) rfl)];kernel_rfl) ?_
 intro g2 a2 w2 F2 M2
 refine rm rfl F2 fun _ F3=>hK1 _ _ (zT fun _ hK4=>zd (w':=w2) (zc rfl) rfl F3 rfl (.func (.func 123) #[] #[.pointer (some ⟨g2,0,none⟩)]) (by unfold execOp;simp only [List.map_toArray,List.map_cons,List.map_nil,(F3.get (t:=5) rfl)];kernel_rfl) fun _ F5=>?_)
 refine rm rfl F5 fun _ F6=>hK4 _ _ (zT fun _ hK7=>zd (w':=w2) (zc rfl) rfl F6 rfl (.func (.func 124) #[] #[]) (zqa _ (.inr rfl) rfl) fun _ F8=>?_)
 refine hK7 _ _ (zT fun _ hK9=>rm rfl F8 fun _ F10=>rm rfl F10 fun _ F11=>rm rfl F11 fun _ F12=>zh (zc rfl) rfl F12 rfl rfl (zE Tryz.func125 rfl) #[.pointer (some ⟨g,0,none⟩),.int .i64 (p:Int),.func (.func 123) #[] #[.pointer (some ⟨g2,0,none⟩)]] (args3 (F12.get (t:=10) rfl) (F12.get (t:=11) rfl) (F12.get (t:=12) rfl)) (step_lay_t g c fl lf dd s n p g2 hp (.slice Au mu ku) ⟨Au,mu,ku,rfl⟩ l (fun e=>M2.dis 0 1 _ _ rfl rfl (by decide) rfl g rfl e.symm) hf1 w2 (M2.blk (k:=1) rfl) (M2.blk (k:=0) rfl)) ?_)
 rintro _ w13 a13 ⟨rfl,hc13,hg13⟩ F13
 have M13:=M2.put (k:=0) rfl hg13 hc13
 clear M2 hg13 hc13
 refine zB 7 [(6,.bool false)] [] dnil [] F13 fun _ F14=>?_
 refine hK9 _ _ (wp_ret ?_)
 try simp only [Exit.then,Exit.inBlock,Exit.jump]
 exact bodyPost_ret (res1 rfl (F14.get rfl)) F14.defers ⟨_,rfl,rfl,M13.blk (k:=0) rfl,M13.grown⟩
theorem dwrite_2 (g:Nat) (c:Nat→CelN) (fl:Bool) (lf:Int) (dd:Bool) (s n:Nat→Value) (p:Nat) (hp:p<18) (u:Value) (hu:∃ A m k,u=.slice A m k) (l:List UInt8) (hf1:(fl&&decide (lf=0))=false) (hf2:(fl&&decide ((IntKind.i64.wrap (lf-1))=0))=true) (w:World) (hg:w.heap[g]? = some (.cells (vltA ⟨c,fl,lf,dd⟩ s n) 80 (0,0))):
  Calls Tryz.prog 98 #[.pointer (some ⟨g,0,none⟩),.int .i64 (p:Int),u] w fun e w'=>∃ t,e=.returned t∧t=.bool false∧w'.heap[g]? = some (.cells (vltA ⟨(putC c p ⟨(c p).s,l,true⟩),fl,(IntKind.i64.wrap (lf-1)),true⟩ s (putN n p u)) 80 (0,0))∧w.grownBy w' (some g):=by
 obtain ⟨Au,mu,ku,rfl⟩:=hu
 refine zk (args:=[.pointer (some ⟨g,0,none⟩),.int .i64 (p:Int),(.slice Au mu ku)]) 20 Tryz.func98 rfl rfl rfl ?_
 intro fa F
 have M:=Mx.theG hg 0
 refine zT fun _ hK1=>zp (zc rfl) rfl F rfl M 1 (t:=23) (c:=#[(.slice Au mu ku)]) (by unfold execOp;simp only [(F.get (t:=2) rfl)];kernel_rfl) ?_
 intro g2 a2 w2 F2 M2
 refine rm rfl F2 fun _ F3=>hK1 _ _ (zT fun _ hK4=>zd (w':=w2) (zc rfl) rfl F3 rfl (.func (.func 123) #[] #[.pointer (some ⟨g2,0,none⟩)]) (by unfold execOp;simp only [List.map_toArray,List.map_cons,List.map_nil,(F3.get (t:=5) rfl)];kernel_rfl) fun _ F5=>?_)
 refine rm rfl F5 fun _ F6=>hK4 _ _ (zT fun _ hK7=>zd (w':=w2) (zc rfl) rfl F6 rfl (.func (.func 124) #[] #[]) (zqa _ (.inr rfl) rfl) fun _ F8=>?_)
 refine hK7 _ _ (zT fun _ hK9=>rm rfl F8 fun _ F10=>rm rfl F10 fun _ F11=>rm rfl F11 fun _ F12=>zh (zc rfl) rfl F12 rfl rfl (zE Tryz.func125 rfl) #[.pointer (some ⟨g,0,none⟩),.int .i64 (p:Int),.func (.func 123) #[] #[.pointer (some ⟨g2,0,none⟩)]] (args3 (F12.get (t:=10) rfl) (F12.get (t:=11) rfl) (F12.get (t:=12) rfl)) (step_lay_f g c fl lf dd s n p g2 hp (.slice Au mu ku) ⟨Au,mu,ku,rfl⟩ l (fun e=>M2.dis 0 1 _ _ rfl rfl (by decide) rfl g rfl e.symm) hf1 w2 (M2.blk (k:=1) rfl) (M2.blk (k:=0) rfl)) ?_)
 rintro _ w13 a13 ⟨rfl,hc13,hg13⟩ F13
 have M13:=M2.put (k:=0) rfl hg13 hc13
 clear M2 hg13 hc13
 refine rm rfl F13 fun _ F14=>rm rfl F14 fun _ F15=>rm rfl F15 fun _ F16=>rm rfl F16 fun _ F17=>zh (ze rfl rfl rfl (F17.get (t:=14) rfl)) rfl F17 rfl rfl (zE Tryz.func125 rfl) #[.pointer (some ⟨g,0,none⟩),.int .i64 (p:Int),.func (.func 124) #[] #[]] (args3 (F17.get (t:=15) rfl) (F17.get (t:=16) rfl) (F17.get (t:=17) rfl)) (step_keep_t g (putC c p ⟨(c p).s,l,true⟩) fl (IntKind.i64.wrap (lf-1)) dd s (putN n p (.slice Au mu ku)) p hp (by rw [putN_at];exact ⟨Au,mu,ku,rfl⟩) l hf2 w13 (M13.blk (k:=0) rfl)) ?_
 rintro _ w18 a18 ⟨rfl,hc18,hg18⟩ F18
 have M18:=M13.put (k:=0) rfl hg18 hc18
 clear M13 hg18 hc18
 refine zB 2 [(6,.bool false)] [] dnil [] F18 fun _ F19=>?_
 refine hK9 _ _ (wp_ret ?_)
 try simp only [Exit.then,Exit.inBlock,Exit.jump]
 exact bodyPost_ret (res1 rfl (F19.get rfl)) F19.defers ⟨_,rfl,rfl,M18.blk (k:=0) rfl,M18.grown⟩
theorem dwrite_3 (g:Nat) (c:Nat→CelN) (fl:Bool) (lf:Int) (dd:Bool) (s n:Nat→Value) (p:Nat) (hp:p<18) (u:Value) (hu:∃ A m k,u=.slice A m k) (l:List UInt8) (hf1:(fl&&decide (lf=0))=false) (hf2:(fl&&decide ((IntKind.i64.wrap (lf-1))=0))=false) (w:World) (hg:w.heap[g]? = some (.cells (vltA ⟨c,fl,lf,dd⟩ s n) 80 (0,0))):
  Calls Tryz.prog 98 #[.pointer (some ⟨g,0,none⟩),.int .i64 (p:Int),u] w fun e w'=>∃ t,e=.returned t∧t=.bool true∧w'.heap[g]? = some (.cells (vltA ⟨putC (putC c p ⟨(c p).s,l,true⟩) p ⟨l,[],false⟩,fl,IntKind.i64.wrap ((IntKind.i64.wrap (lf-1))-1),dd⟩ (putN s p ((putN n p u) p)) (putN (putN n p u) p (zN))) 80 (0,0))∧w.grownBy w' (some g):=by
 obtain ⟨Au,mu,ku,rfl⟩:=hu
 refine zk (args:=[.pointer (some ⟨g,0,none⟩),.int .i64 (p:Int),(.slice Au mu ku)]) 20 Tryz.func98 rfl rfl rfl ?_
 intro fa F
 have M:=Mx.theG hg 0
 refine zT fun _ hK1=>zp (zc rfl) rfl F rfl M 1 (t:=23) (c:=#[(.slice Au mu ku)]) (by unfold execOp;simp only [(F.get (t:=2) rfl)];kernel_rfl) ?_
 intro g2 a2 w2 F2 M2
 refine rm rfl F2 fun _ F3=>hK1 _ _ (zT fun _ hK4=>zd (w':=w2) (zc rfl) rfl F3 rfl (.func (.func 123) #[] #[.pointer (some ⟨g2,0,none⟩)]) (by unfold execOp;simp only [List.map_toArray,List.map_cons,List.map_nil,(F3.get (t:=5) rfl)];kernel_rfl) fun _ F5=>?_)
 refine rm rfl F5 fun _ F6=>hK4 _ _ (zT fun _ hK7=>zd (w':=w2) (zc rfl) rfl F6 rfl (.func (.func 124) #[] #[]) (zqa _ (.inr rfl) rfl) fun _ F8=>?_)
 refine hK7 _ _ (zT fun _ hK9=>rm rfl F8 fun _ F10=>rm rfl F10 fun _ F11=>rm rfl F11 fun _ F12=>zh (zc rfl) rfl F12 rfl rfl (zE Tryz.func125 rfl) #[.pointer (some ⟨g,0,none⟩),.int .i64 (p:Int),.func (.func 123) #[] #[.pointer (some ⟨g2,0,none⟩)]] (args3 (F12.get (t:=10) rfl) (F12.get (t:=11) rfl) (F12.get (t:=12) rfl)) (step_lay_f g c fl lf dd s n p g2 hp (.slice Au mu ku) ⟨Au,mu,ku,rfl⟩ l (fun e=>M2.dis 0 1 _ _ rfl rfl (by decide) rfl g rfl e.symm) hf1 w2 (M2.blk (k:=1) rfl) (M2.blk (k:=0) rfl)) ?_)
 rintro _ w13 a13 ⟨rfl,hc13,hg13⟩ F13
 have M13:=M2.put (k:=0) rfl hg13 hc13
 clear M2 hg13 hc13
 refine rm rfl F13 fun _ F14=>rm rfl F14 fun _ F15=>rm rfl F15 fun _ F16=>rm rfl F16 fun _ F17=>zh (ze rfl rfl rfl (F17.get (t:=14) rfl)) rfl F17 rfl rfl (zE Tryz.func125 rfl) #[.pointer (some ⟨g,0,none⟩),.int .i64 (p:Int),.func (.func 124) #[] #[]] (args3 (F17.get (t:=15) rfl) (F17.get (t:=16) rfl) (F17.get (t:=17) rfl)) (step_keep_f g (putC c p ⟨(c p).s,l,true⟩) fl (IntKind.i64.wrap (lf-1)) dd s (putN n p (.slice Au mu ku)) p hp (by rw [putN_at];exact ⟨Au,mu,ku,rfl⟩) l hf2 w13 (M13.blk (k:=0) rfl)) ?_
 rintro _ w18 a18 ⟨rfl,hc18,hg18⟩ F18
 have M18:=M13.put (k:=0) rfl hg18 hc18
 clear M13 hg18 hc18
 refine zB 2 [(6,.bool true)] [] dnil [] F18 fun _ F19=>?_
 refine hK9 _ _ (wp_ret ?_)
 try simp only [Exit.then,Exit.inBlock,Exit.jump]
 exact bodyPost_ret (res1 rfl (F19.get rfl)) F19.defers ⟨_,rfl,rfl,M18.blk (k:=0) rfl,M18.grown⟩
def RowsV (w:World) (g:Nat) (c:Nat→CelN) (s n:Nat→Value):Prop:=∀ i,i<18→(IsB w (c i).s (s i)∧¬bfp (s i) g)∧(IsB w (c i).n (n i)∧¬bfp (n i) g)
def zr (N:Nat) (s n:Nat→Value) (b:Nat):Prop:=∃ i,i<N∧(bfp (s i) b∨bfp (n i) b)
theorem rowsfp_lay {s n:Nat→Value} {p:Nat} {u:Value} {b:Nat} (h:zr 18 s (putN n p u) b):zr 18 s n b∨bfp u b:=by
 obtain ⟨i,hi,hb⟩:=h
 rcases hb with hb | hb
 ·exact .inl ⟨i,hi,.inl hb⟩
 ·by_cases e:i=p
  ·subst e
   rw [show putN n i u i=u from if_pos rfl] at hb
   exact .inr hb
  ·rw [show putN n p u i=n i from if_neg e] at hb
   exact .inl ⟨i,hi,.inr hb⟩
theorem rowsfp_keep {s n:Nat→Value} {p:Nat} (hp:p<18) {b:Nat} (h:zr 18 (putN s p (n p)) (putN n p (zN)) b):zr 18 s n b:=by
 obtain ⟨i,hi,hb⟩:=h
 by_cases e:i=p
 ·subst e
  rw [show putN s i (n i) i=n i from if_pos rfl,show putN n i (zN) i=zN from if_pos rfl] at hb
  rcases hb with hb | hb
  ·exact ⟨i,hi,.inr hb⟩
  ·exact absurd hb (zxa b)
 ·rw [show putN s p (n p) i=s i from if_neg e,show putN n p (zN) i=n i from if_neg e] at hb
  exact ⟨i,hi,hb⟩
theorem RowsV.lay {w:World} {g:Nat} {c:Nat→CelN} {s n:Nat→Value} (h:RowsV w g c s n) {p:Nat} {l:List UInt8} {u:Value} (hu:IsB w l u) (hg:¬bfp u g):RowsV w g (putC c p ⟨(c p).s,l,true⟩) s (putN n p u):=fun i hi=>by
 by_cases e:i=p
 ·subst e
  rw [z4b,putN_at]
  exact ⟨(h i hi).1,hu,hg⟩
 ·rw [zgc _ _ e,show putN n p u i=n i from if_neg e]
  exact h i hi
theorem RowsV.keep {w:World} {g:Nat} {c:Nat→CelN} {s n:Nat→Value} (h:RowsV w g c s n) {p:Nat} (hp:p<18):RowsV w g (putC c p ⟨(c p).n,[],false⟩) (putN s p (n p)) (putN n p (zN)):=fun i hi=>by
 by_cases e:i=p
 ·subst e
  rw [z4b,putN_at,putN_at]
  exact ⟨(h i hi).2,zta _,zxa _⟩
 ·rw [zgc _ _ e,show putN s p (n p) i=s i from if_neg e,show putN n p (zN) i=n i from if_neg e]
  exact h i hi
theorem IsB.grow {w w':World} {g:Nat} {l:List UInt8} {v:Value} (h:IsB w l v) (hb:w.grownBy w' (some g)) (hg:¬bfp v g):IsB w' l v:=by
 obtain ⟨A,c,rfl,h1,h2,h3,h4⟩:=h
 refine ⟨A,c,rfl,h1,h2,h3,fun hl=>?_⟩
 obtain ⟨ad,rfl,q1,q2⟩:=h4 hl
 obtain ⟨b,o,s⟩:=ad
 have e:w'.heap[b]? = w.heap[b]?:=hb.block b q1 fun e=>by
  have e2:b=g:=Option.some.inj e
  subst e2
  exact hg ⟨o,s,_,_,rfl,hl⟩
 have hlt:b<w'.heap.size:=by
  obtain ⟨x,hx⟩:∃ x,w.heap[b]? = some x:=⟨_,Array.getElem?_eq_getElem q1⟩
  rw [hx] at e
  exact (Array.getElem?_eq_some_iff.1 e).1
 refine ⟨_,rfl,hlt,fun j x hj=>?_⟩
 have hblk:((⟨b,o,s⟩:Addr).add j).block=b:=by unfold Addr.add;split <;> rfl
 have:=q2 j x hj
 simp only [World.cell?,hblk,e] at this ⊢
 exact this
theorem RowsV.grow {w w':World} {g:Nat} {c:Nat→CelN} {s n:Nat→Value} (h:RowsV w g c s n) (hb:w.grownBy w' (some g)):RowsV w' g c s n:=fun i hi=>
 ⟨⟨(h i hi).1.1.grow hb (h i hi).1.2,(h i hi).1.2⟩,(h i hi).2.1.grow hb (h i hi).2.2,(h i hi).2.2⟩
theorem dwrite_any (g:Nat) (V:VltN) (s n:Nat→Value) (p:Nat) (hp:p<18) (u:Value) (l:List UInt8) (w:World) (hu:IsB w l u) (hug:¬bfp u g) (hr:RowsV w g V.c s n) (hg:w.heap[g]? = some (.cells (vltA V s n) 80 (0,0))):
  Calls Tryz.prog 98 #[.pointer (some ⟨g,0,none⟩),.int .i64 (p:Int),u] w fun e w'=>∃ t,e=.returned t∧t=.bool (wrtV V p l).2∧∃ s' n',RowsV w' g (wrtV V p l).1.c s' n'∧(∀ b,zr 18 s' n' b→zr 18 s n b∨bfp u b)∧w'.heap[g]? = some (.cells (vltA (wrtV V p l).1 s' n') 80 (0,0))∧w.grownBy w' (some g):=by
 obtain ⟨c,fl,lf,dd⟩:=V
 have hs:∃ A m k,u=.slice A m k:=hu.slc
 have h1:RowsV w g (putC c p ⟨(c p).s,l,true⟩) s (putN n p u):=RowsV.lay hr hu hug
 have h2:RowsV w g (putC (putC c p ⟨(c p).s,l,true⟩) p ⟨l,[],false⟩) (putN s p (putN n p u p)) (putN (putN n p u) p (zN)):=by
  have:=h1.keep hp
  rw [z4b] at this
  exact this
 by_cases hf1:(fl&&decide (lf=0))=true
 ·have e:wrtV ⟨c,fl,lf,dd⟩ p l=(⟨c,fl,lf,true⟩,false):=by
   unfold wrtV;rw [if_pos (show zdc ⟨c,fl,lf,dd⟩=true from hf1)];rfl
  rw [e]
  exact (dwrite_1 g c fl lf dd s n p hp u hs l hf1 w hg).mono fun e w' ⟨t,k1,k2,k3,k4⟩=>⟨t,k1,k2,s,n,RowsV.grow hr k4,fun b h=>.inl h,k3,k4⟩
 ·have hf1':(fl&&decide (lf=0))=false:=by simpa using hf1
  by_cases hf2:(fl&&decide (IntKind.i64.wrap (lf-1)=0))=true
  ·have e:wrtV ⟨c,fl,lf,dd⟩ p l=(⟨putC c p ⟨(c p).s,l,true⟩,fl,IntKind.i64.wrap (lf-1),true⟩,false):=by
    unfold wrtV;rw [if_neg (show ¬zdc ⟨c,fl,lf,dd⟩=true from hf1),if_pos (show zdc (zec ⟨c,fl,lf,dd⟩ p l)=true from hf2)];rfl
   rw [e]
   exact (dwrite_2 g c fl lf dd s n p hp u hs l hf1' hf2 w hg).mono fun e w' ⟨t,k1,k2,k3,k4⟩=>⟨t,k1,k2,s,putN n p u,RowsV.grow h1 k4,fun b h=>rowsfp_lay h,k3,k4⟩
  ·have hf2':(fl&&decide (IntKind.i64.wrap (lf-1)=0))=false:=by simpa using hf2
   have e:wrtV ⟨c,fl,lf,dd⟩ p l=(⟨putC (putC c p ⟨(c p).s,l,true⟩) p ⟨l,[],false⟩,fl,IntKind.i64.wrap (IntKind.i64.wrap (lf-1)-1),dd⟩,true):=by
    unfold wrtV;rw [if_neg (show ¬zdc ⟨c,fl,lf,dd⟩=true from hf1),if_neg (show ¬zdc (zec ⟨c,fl,lf,dd⟩ p l)=true from hf2)]
    unfold keepV zec
    dsimp only
    rw [z4b]
   rw [e]
   exact (dwrite_3 g c fl lf dd s n p hp u hs l hf1' hf2' w hg).mono fun e w' ⟨t,k1,k2,k3,k4⟩=>⟨t,k1,k2,_,_,RowsV.grow h2 k4,fun b h=>rowsfp_lay (rowsfp_keep hp h),k3,k4⟩
end Go.Proofs.YtmjbnmbobocpdaaGreat
