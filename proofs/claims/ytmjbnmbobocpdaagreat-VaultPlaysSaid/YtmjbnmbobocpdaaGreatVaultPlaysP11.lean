/- What VaultPlays stands on, part 11. -/
import Derived.Test.YtmjbnmbobocpdaaGreatVaultPlaysP1
import Derived.Test.YtmjbnmbobocpdaaGreatVaultPlaysP2
import Derived.Test.YtmjbnmbobocpdaaGreatVaultPlaysP3
import Derived.Test.YtmjbnmbobocpdaaGreatVaultPlaysP4
import Derived.Test.YtmjbnmbobocpdaaGreatVaultPlaysP5
import Derived.Test.YtmjbnmbobocpdaaGreatVaultPlaysP6
import Derived.Test.YtmjbnmbobocpdaaGreatVaultPlaysP7
import Derived.Test.YtmjbnmbobocpdaaGreatVaultPlaysP8
import Derived.Test.YtmjbnmbobocpdaaGreatVaultPlaysP9
import Derived.Test.YtmjbnmbobocpdaaGreatVaultPlaysP10
set_option maxRecDepth 100000
set_option maxHeartbeats 8000000
set_option linter.unusedVariables false
set_option linter.unusedSimpArgs false
namespace Go.Proofs.YtmjbnmbobocpdaaGreat
open Go.ChangeShapes Go.WideShapes Go.ChangeAt Go.RowKit
theorem y_lssS {a:Act} {w:World} {o:Oper} (x y:Operand) {T tz:TypeId} (ho:o.op=.binOp .lss T x y tz) {p q:ByteArray} (hx:a.eval x=.string p) (hy:a.eval y=.string q) {b:Bool} (hb:Op.bytesLess p.toList q.toList=b):(execOp a.eval o).run Tryz.prog w=.ok (.value (.bool b)) w:=by
 subst hb
 unfold execOp;simp only [ho,hx,hy];simp [go_sem,eqGuard]
theorem ixs_ex {a:Act} {w:World} {o:Oper} (x k:Operand) (ho:o.op=.index 9 x k) {s:ByteArray} (hx:a.eval x=.string s) {j:Nat} (hk:a.eval k=zY (j:Int)) (hj:j<s.size):∃ v,(execOp a.eval o).run Tryz.prog w=.ok (.value v) w∧∃ b:Nat,b<256∧v=zY (b:Int):=by
 refine ⟨zY (((s[j]'hj).toNat:Nat):Int),?_,_,(s[j]'hj).toNat_lt,rfl⟩
 unfold execOp
 simp only [ho,hx,hk]
 have h0:¬((j:Int)<0):=by omega
 have h1:(j:Int)<(s.size:Int):=by omega
 simp [go_sem,h0,h1,hj,Instr.index]
def rowA (D:List ByteArray) (E:List Value):Array Value:=(D.map Value.string++E).toArray
theorem rowA_at {D:List ByteArray} {E:List Value} {j:Nat} {s:ByteArray} (h:D[j]? = some s):(rowA D E)[j]? = some (.string s):=by
 unfold rowA
 rw [List.getElem?_toArray,List.getElem?_append_left (by rw [List.length_map];exact (List.getElem?_eq_some_iff.1 h).1),List.getElem?_map,h];rfl
theorem rowA_size (D:List ByteArray) (E:List Value):(rowA D E).size=D.length+E.length:=by unfold rowA;simp
theorem rowA_put {D:List ByteArray} {E:List Value} {j:Nat} (hj:j<D.length) (s:ByteArray):((rowA D E).toList.take j++(#[.string s]:Array Value).toList++(rowA D E).toList.drop (j+(#[.string s]:Array Value).size)).toArray=rowA (D.set j s) E:=by
 unfold rowA
 congr 1
 show (D.map Value.string++E).take j++[Value.string s]++(D.map Value.string++E).drop (j+1)=_
 have hl:(D.map Value.string).length=D.length:=List.length_map _
 rw [List.take_append_of_le_length (by omega),List.drop_append_of_le_length (by omega),←List.map_take,←List.map_drop,List.set_eq_take_append_cons_drop,if_pos hj]
 simp
def insV:ByteArray→List ByteArray→List ByteArray
 | x,[]=>[x]
 | x,y::ys=>if Op.bytesLess x.toList y.toList=true then y::insV x ys else x::y::ys
def insR (acc:List ByteArray) (x:ByteArray):List ByteArray:=(insV x acc.reverse).reverse
def srtL (L:List ByteArray):List ByteArray:=L.foldl insR []
theorem insR_nil (x:ByteArray):insR [] x=[x]:=rfl
theorem insR_less {P:List ByteArray} {x y:ByteArray} (h:Op.bytesLess x.toList y.toList=true):insR (P++[y]) x=insR P x++[y]:=by
 unfold insR
 rw [List.reverse_append]
 show (insV x (y::P.reverse)).reverse=_
 rw [insV,if_pos h,List.reverse_cons]
theorem insR_no {P:List ByteArray} {x y:ByteArray} (h:Op.bytesLess x.toList y.toList=false):insR (P++[y]) x=P++[y]++[x]:=by
 unfold insR
 rw [List.reverse_append]
 show (insV x (y::P.reverse)).reverse=_
 rw [insV,if_neg (by rw [h];exact Bool.false_ne_true)]
 simp
theorem insR_len (P:List ByteArray) (x:ByteArray):(insR P x).length=P.length+1:=by
 have:∀ (L:List ByteArray),(insV x L).length=L.length+1:=fun L=>by
  induction L with
  | nil=>rfl
  | cons y ys ih=>
   unfold insV
   split
   ·rw [List.length_cons,ih,List.length_cons]
   ·rfl
 unfold insR
 rw [List.length_reverse,this,List.length_reverse]
theorem srtL_next {L:List ByteArray} {i:Nat} {x:ByteArray} (h:L[i]? = some x):srtL (L.take (i+1))=insR (srtL (L.take i)) x:=by
 obtain ⟨h1,h2⟩:=List.getElem?_eq_some_iff.1 h
 unfold srtL
 rw [List.take_succ_eq_append_getElem h1,h2,List.foldl_append]
 rfl
theorem srtL_len (L:List ByteArray):(srtL L).length=L.length:=by
 have:∀ (M acc:List ByteArray),(M.foldl insR acc).length=acc.length+M.length:=fun M=>by
  induction M with
  | nil=>intro acc;rfl
  | cons x M ih=>intro acc;rw [List.foldl_cons,ih,insR_len,List.length_cons];omega
 unfold srtL
 rw [this];simp
theorem len64_any (n:Nat) (hn:n<100) (w:World):
  Calls Tryz.prog 119 #[.int .u64 (n:Int)] w fun e w'=>∃ z:Int,e=.returned (zI z)∧Below w.heap.size w w':=by
 refine zk (args:=[.int .u64 (n:Int)]) 25 Tryz.func119 rfl rfl rfl ?_
 intro fa F
 have M:=Mx.start w
 refine zT fun _ hK1=>rm rfl F fun _ F2=>hK1 _ _ (zSk fun _ hK3=>zT fun _ hK4=>rm rfl F2 fun _ F5=>zc (w':=w) rfl rfl F5 rfl (.bool false) (y_geq _ _ _ _ rfl (F5 3 rfl) rfl (decide_eq_false (show ¬((4294967296:Int)≤(n:Int)) by omega))) fun _ F6=>?_)
 refine hK4 _ _ (wp_cond_false (F6 4 rfl) (wp_skip (hK3 _ _ (zSk fun _ hK7=>zT fun _ hK8=>rm rfl F6 fun _ F9=>zc (w':=w) rfl rfl F9 rfl (.bool false) (y_geq _ _ _ _ rfl (F9 7 rfl) rfl (decide_eq_false (show ¬((65536:Int)≤(n:Int)) by omega))) fun _ F10=>?_))))
 refine hK8 _ _ (wp_cond_false (F10 8 rfl) (wp_skip (hK7 _ _ (zSk fun _ hK11=>zT fun _ hK12=>rm rfl F10 fun _ F13=>zc (w':=w) rfl rfl F13 rfl (.bool false) (y_geq _ _ _ _ rfl (F13 13 rfl) rfl (decide_eq_false (show ¬((256:Int)≤(n:Int)) by omega))) fun _ F14=>?_))))
 refine hK12 _ _ (wp_cond_false (F14 14 rfl) (wp_skip (hK11 _ _ (zT fun _ hK15=>rm rfl F14 fun _ F16=>rm rfl F16 fun _ F17=>zc (w':=w) rfl rfl F17 rfl (zY (n:Int)) (y_cvI _ _ _ rfl (F17 20 rfl) Tryz.underlying157 Tryz.underlying5 (by rw [IntKind.wrap_u8];omega)) fun _ F18=>?_))))
 refine zrc rfl rfl F18 rfl (ixs_ex _ _ rfl rfl (F18 21 rfl) (Nat.lt_of_lt_of_le hn (zL rfl))) ?_
 rintro v a19 ⟨bl,hbl,rfl⟩ F19
 refine zc (w':=w) rfl rfl F19 rfl (zI (bl:Int)) (y_cvI _ _ _ rfl (F19 22 rfl) Tryz.underlying5 Tryz.underlying3 (by rw [IntKind.wrap_i64];omega)) fun _ F20=>?_
 refine zc (w':=w) rfl rfl F20 rfl (zI (bl:Int)) (zsa _ _ _ _ rfl (F20 19 rfl) (F20 23 rfl) (by omega) (by omega)) fun _ F21=>?_
 exact rm rfl F21 fun _ F22=>hK15 _ _ (wp_ret (bodyPost_ret (res1 rfl (F22.get rfl)) F22.defers ⟨_,rfl,M.below⟩))
theorem len64_ex (n:Nat) (hn:n<100) (w:World):Calls Tryz.prog 119 #[.int .u64 (n:Int)] w fun e w'=>∃ v,e=.returned v∧∃ z:Int,v=zI z∧Below w.heap.size w w':=
 (len64_any n hn w).mono fun e w' ⟨z,h1,h2⟩=>⟨_,h1,z,rfl,h2⟩
theorem len_any (n:Nat) (hn:n<100) (w:World):
  Calls Tryz.prog 87 #[.int .u64 (n:Int)] w fun e w'=>∃ z:Int,e=.returned (zI z)∧Below w.heap.size w w':=by
 refine zk (args:=[.int .u64 (n:Int)]) 8 Tryz.func87 rfl rfl rfl ?_
 intro fa F
 have M:=Mx.start w
 refine zT fun _ hK1=>rm rfl F fun _ F2=>hK1 _ _ (zSk fun _ hK3=>wp_cond_false rfl (wp_skip (hK3 _ _ (zT fun _ hK4=>rm rfl F2 fun _ F5=>zh rfl rfl F5 rfl rfl (zE Tryz.func119 rfl) #[.int .u64 (n:Int)] (zca (F5 6 rfl)) (len64_ex n hn w) ?_))))
 rintro _ w6 a6 ⟨z6,rfl,b6⟩ F6
 have M6:=M.step b6
 exact rm rfl F6 fun _ F7=>hK4 _ _ (wp_ret (bodyPost_ret (res1 rfl (F7.get rfl)) F7.defers ⟨_,rfl,M6.below⟩))
theorem len_ex (n:Nat) (hn:n<100) (w:World):Calls Tryz.prog 87 #[.int .u64 (n:Int)] w fun e w'=>∃ v,e=.returned v∧∃ z:Int,v=zI z∧Below w.heap.size w w':=
 (len_any n hn w).mono fun e w' ⟨z,h1,h2⟩=>⟨_,h1,z,rfl,h2⟩
theorem isnan_any (s:ByteArray) (w:World):
  Calls Tryz.prog 139 #[.string s] w fun e w'=>e=.returned (.bool false)∧Below w.heap.size w w':=by
 refine zk (args:=[.string s]) 6 Tryz.func139 rfl rfl rfl ?_
 intro fa F
 have M:=Mx.start w
 refine zT fun _ hK1=>rm rfl F fun _ F2=>hK1 _ _ (zT fun _ hK3=>rm rfl F2 fun _ F4=>rm rfl F4 fun _ F5=>zc (w':=w) rfl rfl F5 rfl (.bool false) (y_neS _ _ _ rfl (F5 3 rfl) (F5 4 rfl) (by simp)) fun _ F6=>?_)
 exact rm rfl F6 fun _ F7=>hK3 _ _ (wp_ret (bodyPost_ret (res1 rfl (F7.get rfl)) F7.defers ⟨rfl,M.below⟩))
theorem lessS_any (s u:ByteArray) (w:World):
  Calls Tryz.prog 115 #[.string s,.string u] w fun e w'=>e=.returned (.bool (Op.bytesLess s.toList u.toList))∧Below w.heap.size w w':=by
 refine zk (args:=[.string s,.string u]) 17 Tryz.func115 rfl rfl rfl ?_
 intro fa F
 have M:=Mx.start w
 refine zT fun _ hK1=>rm rfl F fun _ F2=>hK1 _ _ (zT fun _ hK3=>rm rfl F2 fun _ F4=>zh rfl rfl F4 rfl rfl (zE Tryz.func139 rfl) #[.string s] (zca (F4 5 rfl)) (zda ((isnan_any s w))) ?_)
 rintro _ w5 a5 ⟨rfl,b5⟩ F5
 have M5:=M.step b5
 refine zB 8 [(4,.bool false),(12,.bool false),(13,.string s),(14,.string u)] [] dnil [] F5 fun _ F6=>?_
 refine zc (w':=w5) (zd rfl rfl rfl (F6 12 rfl)) rfl F6 rfl (.bool (Op.bytesLess s.toList u.toList)) (y_lssS _ _ rfl (F6 13 rfl) (F6 14 rfl) rfl) fun _ F7=>?_
 refine zB 2 [(4,.bool (Op.bytesLess s.toList u.toList))] [] dnil [] F7 fun _ F8=>?_
 exact hK3 _ _ (wp_ret (bodyPost_ret (res1 rfl (F8.get rfl)) F8.defers ⟨rfl,M5.below⟩))
theorem srt_one (L:List ByteArray):srtL (L.take 1)++L.drop 1=L:=by
 cases L with
 | nil=>rfl
 | cons x t=>rfl
theorem srt_all {L:List ByteArray} {i:Nat} (h1:1≤i) (h:¬(i:Int)<(L.length:Int)):srtL (L.take i)++L.drop i=srtL L:=by
 rw [List.take_of_length_le (by omega),List.drop_eq_nil_of_le (by omega),List.append_nil]
theorem drop_at {L:List ByteArray} {i:Nat} {x:ByteArray} (h:L[i]? = some x):L.drop i=x::L.drop (i+1):=by
 obtain ⟨h1,h2⟩:=List.getElem?_eq_some_iff.1 h
 rw [List.drop_eq_getElem_cons h1,h2]
theorem swap_eq {P:List ByteArray} {x y:ByteArray} {U:List ByteArray} {j:Nat} (hj:P.length=j):(((P++[y])++x::U).set (j+1) y).set j x=P++x::(y::U):=by
 subst hj
 rw [List.append_assoc,List.set_append_right _ _ (by omega),List.set_append_right _ _ (by omega)]
 simp
theorem ins_done {acc P Q T:List ByteArray} {x:ByteArray} (h:insR acc x=insR P x++Q) (hP:P=[]∨∃ P' y,P=P'++[y]∧Op.bytesLess x.toList y.toList=false):P++x::(Q++T)=insR acc x++T:=by
 rw [h]
 rcases hP with rfl | ⟨P',y,rfl,hy⟩
 ·rw [insR_nil];simp
 ·rw [insR_no hy];simp
theorem ins_next {acc P Q:List ByteArray} {x y:ByteArray} (h:insR acc x=insR (P++[y]) x++Q) (hy:Op.bytesLess x.toList y.toList=true):insR acc x=insR P x++(y::Q):=by
 rw [h,insR_less hy];simp
theorem last_of {P:List ByteArray} {j:Nat} (h:P.length=j+1):∃ P' y,P=P'++[y]∧P'.length=j:=by
 have hne:P≠[]:=by rintro rfl;simp at h
 exact ⟨P.dropLast,P.getLast hne,(List.dropLast_concat_getLast hne).symm,by rw [List.length_dropLast];omega⟩
theorem insert_nil (A0:Option Addr) (c0:Nat) (w:World):
  Calls Tryz.prog 109 #[.slice A0 0 c0,zI 0,zI 0] w fun e w'=>∃ t,e=.returned t∧Below w.heap.size w w':=by
 refine zk (args:=[.slice A0 0 c0,zI 0,zI 0]) 49 Tryz.func109 rfl rfl rfl ?_
 intro fa F
 have M:=Mx.start w
 refine zT fun _ hK1=>rm rfl F fun _ F2=>zc (w':=w) rfl rfl F2 rfl (zI 1) (zsa _ _ _ _ rfl (F2 8 rfl) rfl rfl (by omega)) fun _ F3=>?_
 refine rm rfl F3 fun _ F4=>hK1 _ _ (wp_block (zob (α:=Nat) (n:=49) (G:=none) (w0:=w) (fun x=>[(0,.slice A0 0 c0),(1,zI 0),(2,zI 0),(6,zI 1)]) (fun x=>[]) (fun k x=>k=0∧(True)) _ 0 ⟨rfl,trivial⟩ (F4.sb) (M.sub trivial) ?_))
 rintro k5 u a5 w5 K5 ⟨ek5,I5⟩ F5 M5 hK5
 replace F5:Fx 49 a5 [(0,.slice A0 0 c0),(1,zI 0),(2,zI 0),(6,zI 1)]:=F5
 replace M5:Mx _ _ w5 []:=M5
 replace I5:True:=I5
 replace ek5:k5=0:=ek5
 refine zSk fun _ hK6=>zT fun _ hK7=>zB 3 [(0,.slice A0 0 c0),(1,zI 0),(2,zI 0),(6,zI 1),(12,.bool false)] [] dnil [] F5 fun _ F8=>?_
 refine hK7 _ _ (wp_cond_false (F8 12 rfl) (wp_exit ?_))
 simp only [Exit.then,Exit.inBlock,↓reduceIte,Nat.reduceEqDiff]
 exact bodyPost_end (res0 rfl) F8.defers ⟨_,rfl,M5.below⟩
theorem insert_some (L:List ByteArray) (E:List Value) (gr c0:Nat) (hL:L.length≤1000) (w:World) (hg:w.heap[gr]? = some (.cells (rowA L E) 9 (0,0))):
  Calls Tryz.prog 109 #[.slice (some ⟨gr,0,none⟩) L.length c0,zI 0,zI (L.length:Int)] w fun e w'=>∃ t,e=.returned t∧w'.heap[gr]? = some (.cells (rowA (srtL L) E) 9 (0,0))∧w.grownBy w' (some gr):=by
 refine zk (args:=[.slice (some ⟨gr,0,none⟩) L.length c0,zI 0,zI (L.length:Int)]) 49 Tryz.func109 rfl rfl rfl ?_
 intro fa F
 have M:=Mx.theG hg 0
 refine zT fun _ hK1=>rm rfl F fun _ F2=>zc (w':=w) rfl rfl F2 rfl (zI 1) (zsa _ _ _ _ rfl (F2 8 rfl) rfl rfl (by omega)) fun _ F3=>?_
 refine rm rfl F3 fun _ F4=>hK1 _ _ (wp_block (zob (α:=Nat×(List ByteArray)) (n:=49) (G:=(some gr)) (w0:=w) (fun x=>[(0,.slice (some ⟨gr,0,none⟩) L.length c0),(1,zI 0),(2,zI (L.length:Int)),(6,zI (x.1:Int))]) (fun x=>[(0,blkR gr 9 (rowA x.2 E))]) (fun k x=>k=(L.length+1-x.1)∧(1≤x.1∧(L.length=0∨x.1≤L.length)∧x.2=srtL (L.take x.1)++L.drop x.1)) _ ⟨1,L⟩ ⟨rfl,⟨Nat.le_refl _,by dsimp only;omega,(srt_one L).symm⟩⟩ (F4.sb) (M.sb) ?_))
 rintro k5 ⟨iv,Dv⟩ a5 w5 K5 ⟨ek5,I5⟩ F5 M5 hK5
 replace F5:Fx 49 a5 [(0,.slice (some ⟨gr,0,none⟩) L.length c0),(1,zI 0),(2,zI (L.length:Int)),(6,zI (iv:Int))]:=F5
 replace M5:Mx _ _ w5 [(0,blkR gr 9 (rowA Dv E))]:=M5
 replace I5:1≤iv∧(L.length=0∨iv≤L.length)∧Dv=srtL (L.take iv)++L.drop iv:=I5
 replace ek5:k5=(L.length+1-iv):=ek5
 obtain ⟨hi1,hin,hD⟩:=I5
 by_cases hlt:iv<L.length
 ·obtain ⟨xt,hx⟩:∃ xt,L[iv]? = some xt:=⟨_,List.getElem?_eq_getElem hlt⟩
  refine zSk fun _ hK6=>zT fun _ hK7=>rm rfl F5 fun _ F8=>rm rfl F8 fun _ F9=>zc (w':=w5) rfl rfl F9 rfl (.bool true) (zna _ _ _ _ rfl (F9 10 rfl) (F9 11 rfl) (decide_eq_true (show (iv:Int)<(L.length:Int) by omega))) fun _ F10=>?_
  refine hK7 _ _ (wp_cond_true (F10 12 rfl) (wp_skip (hK6 _ _ (zSk fun _ hK11=>wp_block (zT fun _ hK12=>rm rfl F10 fun _ F13=>rm rfl F13 fun _ F14=>hK12 _ _ (wp_block ?_))))))
  refine zob (α:=Nat×(List ByteArray)×(List ByteArray)) (n:=49) (G:=(some gr)) (w0:=w) (fun x=>[(0,.slice (some ⟨gr,0,none⟩) L.length c0),(1,zI 0),(2,zI (L.length:Int)),(6,zI (iv:Int)),(7,zI (x.1:Int))]) (fun x=>[(0,blkR gr 9 (rowA (x.2.1++xt::(x.2.2++L.drop (iv+1))) E))]) (fun k x=>k=x.1∧(x.2.1.length=x.1∧x.1+x.2.2.length=iv∧insR (srtL (L.take iv)) xt=insR x.2.1 xt++x.2.2)) _ ⟨iv,(srtL (L.take iv)),[]⟩ ⟨rfl,⟨by rw [srtL_len,List.length_take];omega,by simp,by simp⟩⟩ (F14.sb) (M5.sub ⟨(by rw [hD,drop_at hx];rfl),trivial⟩) ?_
  rintro k15 ⟨jv,Pv,Qv⟩ a15 w15 K15 ⟨ek15,I15⟩ F15 M15 hK15
  replace F15:Fx 49 a15 [(0,.slice (some ⟨gr,0,none⟩) L.length c0),(1,zI 0),(2,zI (L.length:Int)),(6,zI (iv:Int)),(7,zI (jv:Int))]:=F15
  replace M15:Mx _ _ w15 [(0,blkR gr 9 (rowA (Pv++xt::(Qv++L.drop (iv+1))) E))]:=M15
  replace I15:Pv.length=jv∧jv+Qv.length=iv∧insR (srtL (L.take iv)) xt=insR Pv xt++Qv:=I15
  replace ek15:k15=jv:=ek15
  obtain ⟨hPl,hQl,hins⟩:=I15
  rcases Nat.eq_zero_or_pos jv with hj0 | hj0
  ·subst hj0
   have hfin:Pv=[]∨∃ P' y,Pv=P'++[y]∧Op.bytesLess xt.toList y.toList=false:=.inl (List.eq_nil_of_length_eq_zero hPl)
   refine zSk fun _ hK16=>zSk fun _ hK17=>z5a F15 (SK [.inl (zI ((0:Nat):Int)),.inl (zI 0),.inl (.bool false),.inl (.bool false),.inl (undef),.inl (undef),.inl (undef),.inl (undef),.inl (undef),.inl (undef),.inl (undef),.inl (undef),.inl (undef),.inl (undef),.inl (.bool false)]) 15 rfl (by kernel_rfl) ⟨hop0 F15,hop0 F15,?_,hop0 F15,hop0 F15,hop0 F15,hop0 F15,hop0 F15,hop0 F15,hop0 F15,hop0 F15,hop0 F15,hop0 F15,hop0 F15,hop0 F15,trivial⟩ ?_
   ·intro ua uw hb hd
    have e16:ua.eval (.tmp 16)=zI ((0:Nat):Int):=hd 16 (by decide)
    have e17:ua.eval (.tmp 17)=zI 0:=hd 17 (by decide)
    exact z9b (F:=(StK.eq (.bool false)).F) rfl (.bool false) (z2b _ _ _ _ rfl e16 e17 (decide_eq_false (by decide))) rfl
   intro p19 a19 w19 b19 G19 y19
   obtain ⟨-,-,-,-,-,-,-,-,-,-,-,-,-,-,q14,-⟩:=y19
   have r14:p19 14=.bool false:=q14 (by decide)
   simp only [List.take,layV,Nat.zero_add,Nat.reduceAdd,r14] at G19
   have M19:=M15.kc b19
   clear F15 M15 r14 q14
   refine hK17 _ _ (wp_cond_false (G19 30 rfl) (wp_exit ?_))
   simp only [Exit.then,Exit.inBlock,↓reduceIte,Nat.reduceEqDiff]
   refine hK11 _ _ (zR (rm rfl G19 fun _ F20=>zc (w':=w19) rfl rfl F20 rfl (zI ((iv+1:Nat):Int)) (zsa _ _ _ _ rfl (F20 13 rfl) rfl (by omega) (by omega)) fun _ F21=>?_))
   refine rm rfl F21 fun _ F22=>?_
   subst ek5
   exact hK5 _ ⟨(iv+1),(Pv++xt::(Qv++L.drop (iv+1)))⟩ _ _ (by dsimp only;omega) ⟨rfl,⟨by dsimp only;omega,by dsimp only;omega,by dsimp only;rw [srtL_next hx];exact ins_done hins hfin⟩⟩ (F22.sb) (M19.sb)
  ·obtain ⟨jv,rfl⟩:∃ j,jv=j+1:=⟨jv-1,by omega⟩
   obtain ⟨Pq,y,rfl,hPq⟩:=last_of hPl
   obtain ⟨bl,hbl⟩:∃ b,Op.bytesLess xt.toList y.toList=b:=⟨_,rfl⟩
   have hdl:((Pq++[y])++xt::(Qv++L.drop (iv+1))).length=L.length:=by simp only [List.length_append,List.length_cons,List.length_nil,List.length_drop] at hPl ⊢;omega
   have hdx:((Pq++[y])++xt::(Qv++L.drop (iv+1)))[jv+1]? = some xt:=by rw [List.getElem?_append_right (by omega),hPl,Nat.sub_self];rfl
   have hdy:((Pq++[y])++xt::(Qv++L.drop (iv+1)))[jv]? = some y:=by rw [List.append_assoc,List.getElem?_append_right (by omega),hPq,Nat.sub_self];rfl
   refine zSk fun _ hK23=>?_
   refine zSk fun _ hK24=>z5a F15 (SK [.inl (zI ((jv+1:Nat):Int)),.inl (zI 0),.inl (.bool true),.inl (.bool true),.inl (.slice (some ⟨gr,0,none⟩) L.length c0),.inl (zI ((jv+1:Nat):Int)),.inl (zP gr (jv+1)),.inl (.string xt),.inl (.slice (some ⟨gr,0,none⟩) L.length c0),.inl (zI ((jv+1:Nat):Int)),.inl (zI (jv:Int)),.inl (zP gr jv),.inl (.string y),.inl (.bool bl),.inl (.bool bl)]) 15 rfl (by kernel_rfl) ⟨hop0 F15,hop0 F15,?_,hop0 F15,hop0 F15,hop0 F15,?_,?_,hop0 F15,hop0 F15,?_,?_,?_,?_,hop0 F15,trivial⟩ ?_
   ·intro ua uw hb hd
    have e16:ua.eval (.tmp 16)=zI ((jv+1:Nat):Int):=hd 16 (by decide)
    have e17:ua.eval (.tmp 17)=zI 0:=hd 17 (by decide)
    exact z9b (F:=(StK.eq (.bool true)).F) rfl (.bool true) (z2b _ _ _ _ rfl e16 e17 (decide_eq_true (show (0:Int)<((jv+1:Nat):Int) by omega))) rfl
   ·intro ua uw hb hd
    have eg:ua.eval (.tmp 19)=.bool true:=hd 19 (by decide)
    have e20:ua.eval (.tmp 20)=.slice (some ⟨gr,0,none⟩) L.length c0:=hd 20 (by decide)
    have e21:ua.eval (.tmp 21)=zI ((jv+1:Nat):Int):=hd 21 (by decide)
    exact z9b (F:=(StK.eq (zP gr (jv+1))).F) (zd rfl rfl rfl eg) (zP gr (jv+1)) (zkc 45 (s:=1) Tryz.underlying45 (by kernel_rfl) _ _ rfl e20 e21 (i:=(jv+1)) rfl (by omega) (by omega)) rfl
   ·intro ua uw hb hd
    have eg:ua.eval (.tmp 19)=.bool true:=hd 19 (by decide)
    have e22:ua.eval (.tmp 22)=(zP gr (jv+1)):=hd 22 (by decide)
    exact z9b (F:=(StK.eq (.string xt)).F) (zd rfl rfl rfl eg) (.string xt) (zha _ _ rfl e22 ((M15.step hb).blk (k:=0) rfl) (rowA_at hdx) Tryz.underlying9 rfl) rfl
   ·intro ua uw hb hd
    have eg:ua.eval (.tmp 19)=.bool true:=hd 19 (by decide)
    have e25:ua.eval (.tmp 25)=zI ((jv+1:Nat):Int):=hd 25 (by decide)
    exact z9b (F:=(StK.eq (zI (jv:Int))).F) (zd rfl rfl rfl eg) (zI (jv:Int)) (z3c _ _ _ _ rfl e25 rfl (by omega) (by omega)) rfl
   ·intro ua uw hb hd
    have eg:ua.eval (.tmp 19)=.bool true:=hd 19 (by decide)
    have e24:ua.eval (.tmp 24)=.slice (some ⟨gr,0,none⟩) L.length c0:=hd 24 (by decide)
    have e26:ua.eval (.tmp 26)=zI (jv:Int):=hd 26 (by decide)
    exact z9b (F:=(StK.eq (zP gr jv)).F) (zd rfl rfl rfl eg) (zP gr jv) (zkc 45 (s:=1) Tryz.underlying45 (by kernel_rfl) _ _ rfl e24 e26 (i:=jv) rfl (by omega) (by omega)) rfl
   ·intro ua uw hb hd
    have eg:ua.eval (.tmp 19)=.bool true:=hd 19 (by decide)
    have e27:ua.eval (.tmp 27)=(zP gr jv):=hd 27 (by decide)
    exact z9b (F:=(StK.eq (.string y)).F) (zd rfl rfl rfl eg) (.string y) (zha _ _ rfl e27 ((M15.step hb).blk (k:=0) rfl) (rowA_at hdy) Tryz.underlying9 rfl) rfl
   ·intro ua uw hb hd
    have eg:ua.eval (.tmp 19)=.bool true:=hd 19 (by decide)
    have e23:ua.eval (.tmp 23)=.string xt:=hd 23 (by decide)
    have e28:ua.eval (.tmp 28)=.string y:=hd 28 (by decide)
    exact z7b (F:=(StK.eq (.bool bl)).F) (zd rfl rfl rfl eg) hb.size rfl #[.string xt,.string y] (zea e23 e28) (zE Tryz.func115 rfl) (zad ((hbl▸lessS_any xt y uw)))
   intro p26 a26 w26 b26 G26 y26
   obtain ⟨-,-,-,-,-,-,-,-,-,-,-,-,-,-,q14,-⟩:=y26
   have r14:p26 14=.bool bl:=q14 (by decide)
   simp only [List.take,layV,Nat.zero_add,Nat.reduceAdd,r14] at G26
   have M26:=M15.kc b26
   clear F15 M15 r14 q14
   refine hK24 _ _ ?_
   cases bl
   ·have hfin:(Pq++[y])=[]∨∃ P' y2,(Pq++[y])=P'++[y2]∧Op.bytesLess xt.toList y2.toList=false:=.inr ⟨Pq,y,rfl,hbl⟩
    refine wp_cond_false (G26 30 rfl) (wp_exit ?_)
    simp only [Exit.then,Exit.inBlock,↓reduceIte,Nat.reduceEqDiff]
    refine hK11 _ _ (zR (rm rfl G26 fun _ F27=>zc (w':=w26) rfl rfl F27 rfl (zI ((iv+1:Nat):Int)) (zsa _ _ _ _ rfl (F27 13 rfl) rfl (by omega) (by omega)) fun _ F28=>?_))
    refine rm rfl F28 fun _ F29=>?_
    subst ek5
    exact hK5 _ ⟨(iv+1),((Pq++[y])++xt::(Qv++L.drop (iv+1)))⟩ _ _ (by dsimp only;omega) ⟨rfl,⟨by dsimp only;omega,by dsimp only;omega,by dsimp only;rw [srtL_next hx];exact ins_done hins hfin⟩⟩ (F29.sb) (M26.sb)
   ·refine wp_cond_true (G26 30 rfl) (wp_skip (hK23 _ _ (zSk fun _ hK30=>wp_block ?_)))
    refine zpa G26 [fun vE=>vE=.slice (some ⟨gr,0,none⟩) L.length c0,fun vE=>vE=zI ((jv+1:Nat):Int),fun vE=>vE=.slice (some ⟨gr,0,none⟩) L.length c0,fun vE=>vE=zI ((jv+1:Nat):Int),fun vE=>vE=zI (jv:Int),fun vE=>vE=.slice (some ⟨gr,0,none⟩) L.length c0,fun vE=>vE=zI ((jv+1:Nat):Int),fun vE=>vE=zI (jv:Int),fun vE=>vE=(zP gr jv),fun vE=>vE=.string y,fun vE=>vE=.slice (some ⟨gr,0,none⟩) L.length c0,fun vE=>vE=zI ((jv+1:Nat):Int),fun vE=>vE=(zP gr (jv+1)),fun vE=>vE=.string xt,fun vE=>vE=(zP gr (jv+1)),fun vE=>vE=undef] (JM (some gr) w fun SV pV=>[(0,zaa (SV 15) (blkR gr 9 (rowA (((Pq++[y])++xt::(Qv++L.drop (iv+1))).set (jv+1) y) E)) (blkR gr 9 (rowA ((Pq++[y])++xt::(Qv++L.drop (iv+1))) E)))]) 16 rfl (by kernel_rfl) rfl ⟨trivial,trivial,trivial,trivial,trivial,trivial,trivial,trivial,trivial,trivial,trivial,trivial,trivial,trivial,trivial,fun _=>Iff.rfl,trivial⟩ (fun p=>(M26.step (zma _)).sub ⟨rfl,trivial⟩) ⟨?_,?_,?_,?_,?_,?_,?_,?_,?_,?_,?_,?_,?_,?_,?_,?_,trivial⟩ ?_
    ·intro ua uw SV pV (M:Mx (some gr) w uw _) hk hn hd
     have e0:ua.eval (.tmp 0)=.slice (some ⟨gr,0,none⟩) L.length c0:=(show ua.eval (.tmp 0)=_ from hd 0 (by decide)).trans (G26 0 rfl)
     exact ze rfl (.slice (some ⟨gr,0,none⟩) L.length c0) (zga _ (.inl rfl) e0) rfl (M.sb)
    ·intro ua uw SV pV (M:Mx (some gr) w uw _) hk hn hd
     have e7:ua.eval (.tmp 7)=zI ((jv+1:Nat):Int):=(show ua.eval (.tmp 7)=_ from hd 7 (by decide)).trans (G26 7 rfl)
     exact ze rfl (zI ((jv+1:Nat):Int)) (zga _ (.inl rfl) e7) rfl (M.sb)
    ·intro ua uw SV pV (M:Mx (some gr) w uw _) hk hn hd
     have e0:ua.eval (.tmp 0)=.slice (some ⟨gr,0,none⟩) L.length c0:=(show ua.eval (.tmp 0)=_ from hd 0 (by decide)).trans (G26 0 rfl)
     exact ze rfl (.slice (some ⟨gr,0,none⟩) L.length c0) (zga _ (.inl rfl) e0) rfl (M.sb)
    ·intro ua uw SV pV (M:Mx (some gr) w uw _) hk hn hd
     have e7:ua.eval (.tmp 7)=zI ((jv+1:Nat):Int):=(show ua.eval (.tmp 7)=_ from hd 7 (by decide)).trans (G26 7 rfl)
     exact ze rfl (zI ((jv+1:Nat):Int)) (zga _ (.inl rfl) e7) rfl (M.sb)
    ·intro ua uw SV pV (M:Mx (some gr) w uw _) hk hn hd
     have e36:ua.eval (.tmp 36)=zI ((jv+1:Nat):Int):=zQ1 (hd 36 (by decide))
     exact ze rfl (zI (jv:Int)) (z3c _ _ _ _ rfl e36 rfl (by omega) (by omega)) rfl (M.sb)
    ·intro ua uw SV pV (M:Mx (some gr) w uw _) hk hn hd
     have e0:ua.eval (.tmp 0)=.slice (some ⟨gr,0,none⟩) L.length c0:=(show ua.eval (.tmp 0)=_ from hd 0 (by decide)).trans (G26 0 rfl)
     exact ze rfl (.slice (some ⟨gr,0,none⟩) L.length c0) (zga _ (.inl rfl) e0) rfl (M.sb)
    ·intro ua uw SV pV (M:Mx (some gr) w uw _) hk hn hd
     have e7:ua.eval (.tmp 7)=zI ((jv+1:Nat):Int):=(show ua.eval (.tmp 7)=_ from hd 7 (by decide)).trans (G26 7 rfl)
     exact ze rfl (zI ((jv+1:Nat):Int)) (zga _ (.inl rfl) e7) rfl (M.sb)
    ·intro ua uw SV pV (M:Mx (some gr) w uw _) hk hn hd
     have e39:ua.eval (.tmp 39)=zI ((jv+1:Nat):Int):=zQ1 (hd 39 (by decide))
     exact ze rfl (zI (jv:Int)) (z3c _ _ _ _ rfl e39 rfl (by omega) (by omega)) rfl (M.sb)
    ·intro ua uw SV pV (M:Mx (some gr) w uw _) hk hn hd
     have e38:ua.eval (.tmp 38)=.slice (some ⟨gr,0,none⟩) L.length c0:=zQ1 (hd 38 (by decide))
     have e40:ua.eval (.tmp 40)=zI (jv:Int):=zQ1 (hd 40 (by decide))
     exact ze rfl (zP gr jv) (zkc 45 (s:=1) Tryz.underlying45 (by kernel_rfl) _ _ rfl e38 e40 (i:=jv) rfl (by omega) (by omega)) rfl (M.sb)
    ·intro ua uw SV pV (M:Mx (some gr) w uw _) hk hn hd
     have e41:ua.eval (.tmp 41)=(zP gr jv):=zQ1 (hd 41 (by decide))
     exact ze rfl (.string y) (zha _ _ rfl e41 (M.blk (k:=0) (zu (hn 15 (by kernel_rfl)) rfl)) (rowA_at hdy) Tryz.underlying9 rfl) rfl (M.sb)
    ·intro ua uw SV pV (M:Mx (some gr) w uw _) hk hn hd
     have e0:ua.eval (.tmp 0)=.slice (some ⟨gr,0,none⟩) L.length c0:=(show ua.eval (.tmp 0)=_ from hd 0 (by decide)).trans (G26 0 rfl)
     exact ze rfl (.slice (some ⟨gr,0,none⟩) L.length c0) (zga _ (.inl rfl) e0) rfl (M.sb)
    ·intro ua uw SV pV (M:Mx (some gr) w uw _) hk hn hd
     have e7:ua.eval (.tmp 7)=zI ((jv+1:Nat):Int):=(show ua.eval (.tmp 7)=_ from hd 7 (by decide)).trans (G26 7 rfl)
     exact ze rfl (zI ((jv+1:Nat):Int)) (zga _ (.inl rfl) e7) rfl (M.sb)
    ·intro ua uw SV pV (M:Mx (some gr) w uw _) hk hn hd
     have e43:ua.eval (.tmp 43)=.slice (some ⟨gr,0,none⟩) L.length c0:=zQ1 (hd 43 (by decide))
     have e44:ua.eval (.tmp 44)=zI ((jv+1:Nat):Int):=zQ1 (hd 44 (by decide))
     exact ze rfl (zP gr (jv+1)) (zkc 45 (s:=1) Tryz.underlying45 (by kernel_rfl) _ _ rfl e43 e44 (i:=(jv+1)) rfl (by omega) (by omega)) rfl (M.sb)
    ·intro ua uw SV pV (M:Mx (some gr) w uw _) hk hn hd
     have e45:ua.eval (.tmp 45)=(zP gr (jv+1)):=zQ1 (hd 45 (by decide))
     exact ze rfl (.string xt) (zha _ _ rfl e45 (M.blk (k:=0) (zu (hn 15 (by kernel_rfl)) rfl)) (rowA_at hdx) Tryz.underlying9 rfl) rfl (M.sb)
    ·intro ua uw SV pV (M:Mx (some gr) w uw _) hk hn hd
     have e33:ua.eval (.tmp 33)=.slice (some ⟨gr,0,none⟩) L.length c0:=zQ1 (hd 33 (by decide))
     have e34:ua.eval (.tmp 34)=zI ((jv+1:Nat):Int):=zQ1 (hd 34 (by decide))
     exact ze rfl (zP gr (jv+1)) (zkc 45 (s:=1) Tryz.underlying45 (by kernel_rfl) _ _ rfl e33 e34 (i:=(jv+1)) rfl (by omega) (by omega)) rfl (M.sb)
    ·intro ua uw SV pV (M:Mx (some gr) w uw _) hk hn hd
     have e47:ua.eval (.tmp 47)=(zP gr (jv+1)):=zQ1 (hd 47 (by decide))
     have e42:ua.eval (.tmp 42)=.string y:=zQ1 (hd 42 (by decide))
     exact hopM_doM rfl rfl (run_st M (k:=0) (zu hk rfl) _ _ _ rfl e47 e42 (#[.string y]) (rowA (((Pq++[y])++xt::(Qv++L.drop (iv+1))).set (jv+1) y) E) rfl (show jv+1+1≤(rowA ((Pq++[y])++xt::(Qv++L.drop (iv+1))) E).size by rw [rowA_size,hdl];omega) (one_str _) (rowA_put (show jv+1<((Pq++[y])++xt::(Qv++L.drop (iv+1))).length by rw [hdl];omega) y) (by kernel_rfl)) (fun w2 h2=>h2.sub ⟨rfl,trivial⟩) rfl
    intro p31 a31 w31 M31 G31 y31
    obtain ⟨-,-,q2,-,q4,-,-,-,-,-,-,-,-,q13,-,-,-⟩:=y31
    have r2:p31 2=.slice (some ⟨gr,0,none⟩) L.length c0:=q2
    have r4:p31 4=zI (jv:Int):=q4
    have r13:p31 13=.string xt:=q13
    replace M31:Mx _ _ w31 [(0,zaa true (blkR gr 9 (rowA (((Pq++[y])++xt::(Qv++L.drop (iv+1))).set (jv+1) y) E)) (blkR gr 9 (rowA ((Pq++[y])++xt::(Qv++L.drop (iv+1))) E)))]:=M31
    simp only [List.take,layV,Nat.zero_add,Nat.reduceAdd,r2,r4,r13] at G31
    refine zc (w':=w31) rfl rfl G31 rfl (zP gr jv) (zkc 45 (s:=1) Tryz.underlying45 (by kernel_rfl) _ _ rfl (G31 35 rfl) (G31 37 rfl) (i:=jv) rfl (by omega) (by omega)) fun _ F32=>?_
    clear G31
    refine zt rfl rfl F32 M31 (k:=0) rfl _ _ _ rfl (F32 48 rfl) (F32 46 rfl) (#[.string xt]) (rowA ((((Pq++[y])++xt::(Qv++L.drop (iv+1))).set (jv+1) y).set jv xt) E) rfl (show jv+1≤(rowA (((Pq++[y])++xt::(Qv++L.drop (iv+1))).set (jv+1) y) E).size by rw [rowA_size,List.length_set,hdl];omega) (one_str _) (rowA_put (show jv<(((Pq++[y])++xt::(Qv++L.drop (iv+1))).set (jv+1) y).length by rw [List.length_set,hdl];omega) xt) (by kernel_rfl) ?_
    intro w33 M33
    refine hK30 _ _ (zR (rm rfl F32 fun _ F34=>zc (w':=w33) rfl rfl F34 rfl (zI (jv:Int)) (z3c _ _ _ _ rfl (F34 31 rfl) rfl (by omega) (by omega)) fun _ F35=>?_))
    refine rm rfl F35 fun _ F36=>?_
    subst ek15
    exact hK15 _ ⟨jv,Pq,(y::Qv)⟩ _ _ (by dsimp only;omega) ⟨rfl,⟨hPq,by dsimp only;simp only [List.length_cons];omega,ins_next hins hbl⟩⟩ (F36.sb) (M33.sub ⟨(by rw [swap_eq hPq];rfl),trivial⟩)
 ·refine zSk fun _ hK37=>zT fun _ hK38=>rm rfl F5 fun _ F39=>rm rfl F39 fun _ F40=>zc (w':=w5) rfl rfl F40 rfl (.bool false) (zna _ _ _ _ rfl (F40 10 rfl) (F40 11 rfl) (decide_eq_false (show ¬(iv:Int)<(L.length:Int) by omega))) fun _ F41=>?_
  refine hK38 _ _ (wp_cond_false (F41 12 rfl) (wp_exit ?_))
  simp only [Exit.then,Exit.inBlock,↓reduceIte,Nat.reduceEqDiff]
  exact bodyPost_end (res0 rfl) F41.defers ⟨_,rfl,(by have q:=M5.blk (k:=0) rfl;rw [hD,srt_all hi1 (by omega)] at q;exact q),M5.grown⟩
theorem pdq_nil (A0:Option Addr) (c0:Nat) (zl:Int) (w:World):
  Calls Tryz.prog 86 #[.slice A0 0 c0,zI 0,zI 0,zI zl] w fun e w'=>∃ t,e=.returned t∧Below w.heap.size w w':=by
 refine zk (args:=[.slice A0 0 c0,zI 0,zI 0,zI zl]) 134 Tryz.func86 rfl rfl rfl ?_
 intro fa F
 have M:=Mx.start w
 refine zT fun _ hK1=>rm rfl F fun _ F2=>hK1 _ _ (zT fun _ hK3=>rm rfl F2 fun _ F4=>hK3 _ _ (wp_block (zob (α:=Nat) (n:=134) (G:=none) (w0:=w) (fun x=>[(0,.slice A0 0 c0),(1,zI 0),(2,zI 0),(3,zI zl)]) (fun x=>[]) (fun k x=>k=0∧(True)) _ 0 ⟨rfl,trivial⟩ (F4.sb) (M.sub trivial) ?_)))
 rintro k5 u a5 w5 K5 ⟨ek5,I5⟩ F5 M5 hK5
 replace F5:Fx 134 a5 [(0,.slice A0 0 c0),(1,zI 0),(2,zI 0),(3,zI zl)]:=F5
 replace M5:Mx _ _ w5 []:=M5
 replace I5:True:=I5
 replace ek5:k5=0:=ek5
 refine wp_block (zT fun _ hK6=>rm rfl F5 fun _ F7=>rm rfl F7 fun _ F8=>zc (w':=w5) rfl rfl F8 rfl (zI 0) (z3c _ _ _ _ rfl (F8 19 rfl) (F8 20 rfl) rfl (by omega)) fun _ F9=>?_)
 refine rm rfl F9 fun _ F10=>hK6 _ _ (zSk fun _ hK11=>zT fun _ hK12=>zAx 2 [(22,zI 0),(23,.bool true)] [] dnil [] F10 fun _ F13=>?_)
 refine hK12 _ _ (wp_cond_true (F13 23 rfl) (zT fun _ hK14=>rm rfl F13 fun _ F15=>rm rfl F15 fun _ F16=>rm rfl F16 fun _ F17=>zh rfl rfl F17 rfl rfl (zE Tryz.func109 rfl) #[.slice A0 0 c0,zI 0,zI 0] (args3 (F17 24 rfl) (F17 25 rfl) (F17 26 rfl)) (insert_nil A0 c0 w5) ?_))
 rintro _ w18 a18 b18 F18
 have M18:=M5.step b18
 refine hK14 _ _ (wp_ret ?_)
 try simp only [Exit.then,Exit.inBlock,Exit.jump]
 exact bodyPost_ret (res0 rfl) F18.defers ⟨_,rfl,M18.below⟩
theorem sort_nil (A0:Option Addr) (c0:Nat) (w:World):
  Calls Tryz.prog 57 #[.slice A0 0 c0] w fun e w'=>∃ t,e=.returned t∧Below w.heap.size w w':=by
 refine zk (args:=[.slice A0 0 c0]) 11 Tryz.func57 rfl rfl rfl ?_
 intro fa F
 have M:=Mx.start w
 refine zT fun _ hK1=>rm rfl F fun _ F2=>zc (w':=w) rfl rfl F2 rfl (zI 0) (y_lnG 45 Tryz.underlying45 _ rfl (F2 3 rfl) rfl) fun _ F3=>?_
 refine rm rfl F3 fun _ F4=>hK1 _ _ (zR (rm rfl F4 fun _ F5=>rm rfl F5 fun _ F6=>rm rfl F6 fun _ F7=>zc (w':=w) rfl rfl F7 rfl (.int .u64 0) (y_cvI _ _ _ rfl (F7 7 rfl) Tryz.underlying3 Tryz.underlying108 rfl) fun _ F8=>?_))
 refine zh rfl rfl F8 rfl rfl (zE Tryz.func87 rfl) #[.int .u64 0] (zca (F8 8 rfl)) (len_ex 0 (by omega) w) ?_
 rintro _ w9 a9 ⟨z9,rfl,b9⟩ F9
 have M9:=M.step b9
 refine zh rfl rfl F9 rfl rfl (zE Tryz.func86 rfl) #[.slice A0 0 c0,zI 0,zI 0,zI z9] (args4 (F9 5 rfl) rfl (F9 6 rfl) (F9 9 rfl)) (pdq_nil A0 c0 z9 w9) ?_
 rintro _ w10 a10 b10 F10
 have M10:=M9.step b10
 exact bodyPost_end (res0 rfl) F10.defers ⟨_,rfl,M10.below⟩
theorem pdq_some (L:List ByteArray) (E:List Value) (gr c0:Nat) (hL:L.length≤12) (zl:Int) (w:World) (hg:w.heap[gr]? = some (.cells (rowA L E) 9 (0,0))):
  Calls Tryz.prog 86 #[.slice (some ⟨gr,0,none⟩) L.length c0,zI 0,zI (L.length:Int),zI zl] w fun e w'=>∃ t,e=.returned t∧w'.heap[gr]? = some (.cells (rowA (srtL L) E) 9 (0,0))∧w.grownBy w' (some gr):=by
 refine zk (args:=[.slice (some ⟨gr,0,none⟩) L.length c0,zI 0,zI (L.length:Int),zI zl]) 134 Tryz.func86 rfl rfl rfl ?_
 intro fa F
 have M:=Mx.theG hg 0
 refine zT fun _ hK1=>rm rfl F fun _ F2=>hK1 _ _ (zT fun _ hK3=>rm rfl F2 fun _ F4=>hK3 _ _ (wp_block (zob (α:=Nat) (n:=134) (G:=(some gr)) (w0:=w) (fun x=>[(0,.slice (some ⟨gr,0,none⟩) L.length c0),(1,zI 0),(2,zI (L.length:Int)),(3,zI zl)]) (fun x=>[(0,blkR gr 9 (rowA L E))]) (fun k x=>k=0∧(True)) _ 0 ⟨rfl,trivial⟩ (F4.sb) (M.sb) ?_)))
 rintro k5 u a5 w5 K5 ⟨ek5,I5⟩ F5 M5 hK5
 replace F5:Fx 134 a5 [(0,.slice (some ⟨gr,0,none⟩) L.length c0),(1,zI 0),(2,zI (L.length:Int)),(3,zI zl)]:=F5
 replace M5:Mx _ _ w5 [(0,blkR gr 9 (rowA L E))]:=M5
 replace I5:True:=I5
 replace ek5:k5=0:=ek5
 refine wp_block (zT fun _ hK6=>rm rfl F5 fun _ F7=>rm rfl F7 fun _ F8=>zc (w':=w5) rfl rfl F8 rfl (zI (L.length:Int)) (z3c _ _ _ _ rfl (F8 19 rfl) (F8 20 rfl) (by omega) (by omega)) fun _ F9=>?_)
 refine rm rfl F9 fun _ F10=>hK6 _ _ (zSk fun _ hK11=>zT fun _ hK12=>rm rfl F10 fun _ F13=>zc (w':=w5) rfl rfl F13 rfl (.bool true) (y_leq _ _ _ _ rfl (F13 22 rfl) rfl (decide_eq_true (show (L.length:Int)≤12 by omega))) fun _ F14=>?_)
 refine hK12 _ _ (wp_cond_true (F14 23 rfl) (zT fun _ hK15=>rm rfl F14 fun _ F16=>rm rfl F16 fun _ F17=>rm rfl F17 fun _ F18=>zh rfl rfl F18 rfl rfl (zE Tryz.func109 rfl) #[.slice (some ⟨gr,0,none⟩) L.length c0,zI 0,zI (L.length:Int)] (args3 (F18 24 rfl) (F18 25 rfl) (F18 26 rfl)) (insert_some L E gr c0 (by omega) w5 (M5.blk (k:=0) rfl)) ?_))
 rintro _ w19 a19 ⟨hc19,hg19⟩ F19
 have M19:=M5.put (k:=0) rfl hg19 hc19
 clear M5 hg19 hc19
 refine hK15 _ _ (wp_ret ?_)
 try simp only [Exit.then,Exit.inBlock,Exit.jump]
 exact bodyPost_ret (res0 rfl) F19.defers ⟨_,rfl,M19.blk (k:=0) rfl,M19.grown⟩
theorem sort_some (L:List ByteArray) (E:List Value) (gr c0:Nat) (hL:L.length≤12) (w:World) (hg:w.heap[gr]? = some (.cells (rowA L E) 9 (0,0))):
  Calls Tryz.prog 57 #[.slice (some ⟨gr,0,none⟩) L.length c0] w fun e w'=>∃ t,e=.returned t∧w'.heap[gr]? = some (.cells (rowA (srtL L) E) 9 (0,0))∧w.grownBy w' (some gr):=by
 refine zk (args:=[.slice (some ⟨gr,0,none⟩) L.length c0]) 11 Tryz.func57 rfl rfl rfl ?_
 intro fa F
 have M:=Mx.theG hg 0
 refine zT fun _ hK1=>rm rfl F fun _ F2=>zc (w':=w) rfl rfl F2 rfl (zI (L.length:Int)) (y_lnG 45 Tryz.underlying45 _ rfl (F2 3 rfl) rfl) fun _ F3=>?_
 refine rm rfl F3 fun _ F4=>hK1 _ _ (zR (rm rfl F4 fun _ F5=>rm rfl F5 fun _ F6=>rm rfl F6 fun _ F7=>zc (w':=w) rfl rfl F7 rfl (.int .u64 (L.length:Int)) (y_cvI _ _ _ rfl (F7 7 rfl) Tryz.underlying3 Tryz.underlying108 (by rw [IntKind.wrap_u64];omega)) fun _ F8=>?_))
 refine zh rfl rfl F8 rfl rfl (zE Tryz.func87 rfl) #[.int .u64 (L.length:Int)] (zca (F8 8 rfl)) (len_ex L.length (by omega) w) ?_
 rintro _ w9 a9 ⟨z9,rfl,b9⟩ F9
 have M9:=M.step b9
 refine zh rfl rfl F9 rfl rfl (zE Tryz.func86 rfl) #[.slice (some ⟨gr,0,none⟩) L.length c0,zI 0,zI (L.length:Int),zI z9] (args4 (F9 5 rfl) rfl (F9 6 rfl) (F9 9 rfl)) (pdq_some L E gr c0 hL z9 w9 (M9.blk (k:=0) rfl)) ?_
 rintro _ w10 a10 ⟨hc10,hg10⟩ F10
 have M10:=M9.put (k:=0) rfl hg10 hc10
 clear M9 hg10 hc10
 exact bodyPost_end (res0 rfl) F10.defers ⟨_,rfl,M10.blk (k:=0) rfl,M10.grown⟩
section
open Go.Shelf
def rowR (e:TypeId) (sz n:Nat) (xs:List Value) (v:Value):Res:=⟨true,ofp v,fun w=>w.ownsRow 0 e sz v n xs⟩
theorem row_dep {e:TypeId} {sz n:Nat} {xs:List Value} {v:Value}:∀ u u',Same (rowR e sz n xs v).fp u u'→(rowR e sz n xs v).F u→(rowR e sz n xs v).F u':=fun u u' hs h=>by
 refine ⟨h.1,?_⟩
 rcases h.2 with hn | ⟨g,c,cur,e,hbg,hg,rest⟩
 ·exact .inl hn
 ·exact .inr ⟨g,c,cur,e,hbg,hs.at_ g _ (by show ofp v g;rw [ofp,e];rfl) hg,rest⟩
section
variable {G:Option Nat} {w0 w w':World} {R:List (Nat×Res)} {e:TypeId} {sz n:Nat} {xs:List Value} {v:Value} {i k:Nat} {a:Act} {o:Oper}
theorem Mx.nilRow (M:Mx G w0 w R) (i:Nat) (e:TypeId) (sz:Nat):Mx G w0 w ((i,rowR e sz 0 [] (zN))::R):=
 M.cons i _ (World.ownsRow_nil w 0 e sz) row_dep (fun g hg=>by cases hg) (fun _ g hg=>by cases hg) (fun _ _ _ _ _ g hg=>by cases hg)
theorem Mx.rowF (M:Mx G w0 w R) (h:look R k=some (rowR e sz n xs v)):w.ownsRow 0 e sz v n xs:=M.at_ k _ h
theorem row_slice (h:w.ownsRow 0 e sz v n xs):∃ A c,v=.slice A n c∧n≤c∧c≤maxLen∧(0<n→∃ g cur,A=some ⟨g,0,none⟩∧w.heap[g]? = some (.cells cur e (0,0))∧cur.toList.take (n*sz)=xs):=by
 rcases h.2 with ⟨rfl,rfl⟩ | ⟨g,c,cur,rfl,hb,hg,h1,h2,h3,h4⟩
 ·exact ⟨none,0,rfl,Nat.le_refl _,Nat.zero_le _,fun h=>absurd h (Nat.lt_irrefl 0)⟩
 ·exact ⟨_,c,rfl,h1,h2,fun _=>⟨g,cur,rfl,hg,h4⟩⟩
theorem run_appR (M:Mx G w0 w R) {kb g:Nat} {c:Array Value} {t T:TypeId} {by_ cc:Nat} (hk:look R k=some (rowR e sz n xs v)) (hb:look R kb=some (blkR g t c)) (hc:c.size=sz) (h1:c.all (·.oneCell')=true) (hsz:0<sz) (hT:Tryz.prog.underlying T=some (.slice e))
  (hinf:(Tryz.prog.info? e).map (fun i=>(i.size,i.bytes,i.zero.map (·.cells.size)))=some (sz,by_,some sz)) (hn:(n+1)*by_≤140737488355328) (hm:n+1≤maxLen) (s x:Operand)
  (ho:o.op=.call { callee:=.builtin .append,args:=#[s,x],argTypes:=#[T,T] }) (hs:a.eval s=v) (hx:a.eval x=.slice (some ⟨g,0,none⟩) 1 cc):
  ∃ v' w',(execOp a.eval o).run Tryz.prog w=.ok (.value v') w'∧Mx G w0 w' ((k,rowR e sz (n+1) (xs++c.toList) v')::R):=by
 have hown:w.ownsRow 0 e sz v n xs:=M.at_ k _ hk
 obtain ⟨i,hi⟩:∃ i,Tryz.prog.info? e=some i:=by
  cases hq:Tryz.prog.info? e with
  | none=>rw [hq] at hinf;cases hinf
  | some i=>exact ⟨i,rfl⟩
 rw [hi] at hinf
 have hinf:(i.size,i.bytes,i.zero.map (·.cells.size))=(sz,by_,some sz):=Option.some.inj hinf
 obtain ⟨z,hz,hzs⟩:∃ z,i.zero=some z∧z.cells.size=sz:=by
  cases hq:i.zero with
  | none=>rw [hq] at hinf;cases hinf
  | some z=>rw [hq] at hinf;exact ⟨z,rfl,by injection hinf with _ h;injection h with _ h;exact Option.some.inj h⟩
 have hsize:i.size=sz:=by injection hinf
 have hbytes:i.bytes=by_:=by injection hinf with _ h;injection h
 obtain ⟨g',cap,w',q1,q2,q3,q4,q5⟩:=run_append_lies (P:=Tryz.prog) w T o.type 0 e i z sz by_ hT hi hz hsize hbytes hzs hsz v n xs hown ⟨g,0,none⟩ 1 cc c.toList (by rw [Array.length_toList,hc,Nat.one_mul]) (World.news_of_block (M.blk hb)) (fun u hu=>by
  have:=Array.all_eq_true_iff_forall_mem.1 h1 u (Array.mem_toList_iff.1 hu)
  exact this) (by decide) hm hn (Nat.zero_le _) _ rfl
 refine ⟨_,w',?_,M.write hk rfl q3 (fun _ e=>e) _ q2 row_dep fun b hb=>?_⟩
 ·unfold execOp
  simp only [ho,resolve,invoke,builtin,Sem.run_bind,Sem.run_pure,Result.andThen_ok,List.map_toArray,List.map_cons,List.map_nil,hs,hx,q1]
 ·obtain rfl:g'=b:=by simpa [rowR,ofp,Value.ownBlock] using hb
  exact ⟨q5,q4.imp id fun e=>by rw [e];exact Nat.le_refl _⟩
def ixG (v:Value) (j:Nat):Value:=match v with
 | .slice (some ad) _ _=>.pointer (some (ad.add j))
 | _=>undef
theorem y_ixR (M:Mx G w0 w R) (hk:look R k=some (rowR e sz n xs v)) (T:TypeId) (hu:Tryz.prog.underlying T=some (.slice (Tryz.prog.elem T))) (hs:(Tryz.prog.info? (Tryz.prog.elem T)).map (·.size)=some sz) (x y:Operand) (ho:o.op=.indexAddr T x y) (hx:a.eval x=v) {z:Int} {j:Nat} (hy:a.eval y=zI z) (hz:z=(j:Int)) (hj:j<n):
  (execOp a.eval o).run Tryz.prog w=.ok (.value (ixG v (j*sz))) w:=by
 obtain ⟨A,c,rfl,h1,h2,h3⟩:=row_slice (M.rowF hk)
 obtain ⟨g,cur,rfl,-,-⟩:=h3 (by omega)
 have:=zkc (a:=a) (w:=w) T hu hs x y ho hx hy hz hj (q:=0) rfl
 rw [this]
 simp [ixG,zoa]
end
end
noncomputable def namL (V:VltN):Nat→List ByteArray
 | 0=>[]
 | k+1=>if zec V (2*k)=true then namL V k++[(z0a V (2*k)).s] else namL V k
theorem namL_no {V:VltN} {k:Nat} (h:zec V (2*k)=false):namL V (k+1)=namL V k:=if_neg (by rw [h];exact Bool.false_ne_true)
theorem namL_yes {V:VltN} {k:Nat} (h:zec V (2*k)=true) {r:RecN} (hr:z0a V (2*k)=r):namL V (k+1)=namL V k++[r.s]:=by rw [namL,if_pos h,hr]
theorem namL_len (V:VltN):∀ k,(namL V k).length≤k
 | 0=>Nat.le_refl _
 | k+1=>by
  unfold namL
  have:=namL_len V k
  split
  ·rw [List.length_append];simp;omega
  ·omega
def strV (L:List ByteArray):List Value:=L.map Value.string
def TxtAt (w:World) (B:Nat) (L:List ByteArray) (v:Value):Prop:=∃ A c,v=.slice A L.length c∧(0<L.length→∃ gr E,A=some ⟨gr,0,none⟩∧B≤gr∧w.heap[gr]? = some (.cells (rowA L E) 9 (0,0)))
theorem cells_row {w:World} {e:TypeId} {sz n:Nat} {xs:List Value} {v:Value} (h:(rowR e sz n xs v).F w):zuc w (rowR e sz n xs v):=fun g hg=>by
 have h:w.ownsRow 0 e sz v n xs:=h
 have hg':v.ownBlock=some g:=hg
 rcases h.2 with ⟨rfl,_⟩ | ⟨b,c,cur,rfl,_,h1,_⟩
 ·cases hg'
 ·cases hg';exact ⟨_,h1,rfl⟩
theorem Mx.rowBlk {G:Option Nat} {w0 w:World} {R:List (Nat×Res)} (M:Mx G w0 w R) {k n:Nat} {L:List ByteArray} {v:Value} (hk:look R k=some (rowR 9 1 n (strV L) v)) (hn:0<L.length) (hl:n=L.length):∃ gr c E,v=.slice (some ⟨gr,0,none⟩) L.length c∧Mx G w0 w ((k,blkR gr 9 (rowA L E))::R):=by
 subst hl
 have h:=M.rowF hk
 rcases h.2 with ⟨_,h0⟩ | ⟨g,c,cur,e,_,hg,h1,h2,h3,h4⟩
 ·omega
 ·refine ⟨g,c,cur.toList.drop L.length,e,?_⟩
  have hc:cur=rowA L (cur.toList.drop L.length):=by
   unfold rowA
   rw [show L.map Value.string=cur.toList.take (L.length*1) from h4.symm,Nat.mul_one,List.take_append_drop]
  rw [←hc]
  have hf:∀ b,b=g→ofp v b:=fun b hb=>by subst hb;rw [e];rfl
  exact M.cons k _ hg z9c (fun b hb=>by cases hb;exact z8a hg) (fun _ b hb=>M.own k _ hk rfl b (hf b hb)) fun j s e2 hj hw b hb=>M.dis k j _ s hk e2 hj rfl b (hf b hb)
theorem names_any (g:Nat) (V:VltN) (s n:Nat→Value) (hv:z2a V) (w:World) (h:HasV w g V s n):
  Calls Tryz.prog 25 #[(zO g)] w fun e w'=>∃ v,e=.returned v∧TxtAt w' w.heap.size (srtL (namL V 8)) v∧Below w.heap.size w w':=by
 refine calls_fxM (args:=[(zO g)]) 18 Tryz.func25 rfl rfl rfl ?_
 intro fa F
 have M:=Mx.start w
 refine zT fun _ hK1=>rm rfl F fun _ F2=>hK1 _ _ (zT fun _ hK3=>zq rfl rfl F2 rfl M 0 (t:=45) (c:=#[zN]) (by unfold execOp;kernel_rfl) ?_)
 intro g4 a4 w4 F4 M4
 refine hK3 _ _ (zSk fun _ hK5=>zT fun _ hK6=>rm rfl F4 fun _ F7=>zh rfl rfl F7 rfl rfl (zE Tryz.func56 rfl) #[(zO g)] (zca (F7 6 rfl)) (accounts_ex g w4) ?_)
 rintro _ w8 a8 ⟨g8,rfl,hg8,hc8,b8⟩ F8
 have M8:=M4.newb b8 1 hg8 hc8
 clear M4 hg8 hc8 b8
 refine hK6 _ _ (wp_block ?_)
 have M9:=M8.nilRow 2 9 1
 refine range_fx4 F8 (gf:=84) (lb:=#[(zO g8)]) (F8 7 rfl) (zE Tryz.func84 rfl) rfl rfl (α:=Nat×RecV×Res) (fun x=>.agg #[zI ((2*x.1:Nat):Int),.func (.func 105) #[] #[]]) (fun x=>.agg (recA (z0a V (2*x.1)) x.2.1))
  (fun x W=>(x.1<8∧zec V (2*x.1)=true)∧(∀ W,Res.F x.2.2 W→zuc W x.2.2)∧∃ (ev:Value),(True)∧Mx none w W [(3,zwb w.heap.size (z0a V (2*x.1)) (.agg (recA (z0a V (2*x.1)) x.2.1))),(4,x.2.2),(2,rowR 9 1 (namL V x.1).length (strV (namL V x.1)) ev),(0,blkR g4 45 (#[ev])),(1,blkR g8 25 (#[(zO g)]))]) (fun x W=>((∀ W,Res.F x.2.2 W→zuc W x.2.2)∧∃ (ev:Value),(True)∧Mx none w W [(4,x.2.2),(2,rowR 9 1 (namL V (x.1+1)).length (strV (namL V (x.1+1))) ev),(0,blkR g4 45 (#[ev])),(1,blkR g8 25 (#[(zO g)]))])) (fun c W=>c=.ret∧∃ k,(k<8∧(False))∧Mx none w W []) (fun W=>∃ X,((∀ W,Res.F X W→zuc W X)∧∃ (ev:Value),(True)∧Mx none w W [(4,X),(2,rowR 9 1 (namL V 8).length (strV (namL V 8)) ev),(0,blkR g4 45 (#[ev])),(1,blkR g8 25 (#[(zO g)]))])) ?_ ?_ ?_ ?_
 ·intro l D o1 o2 W1 hD hL bW hrec hY
  have M1:=M9.step bW
  have hlW:=heap_ltO hrec.1
  have hle1:=M1.le
  refine accounts1_any g g8 V s n hv (fun X k W=>((∀ W,Res.F X W→zuc W X)∧∃ (ev:Value),(True)∧Mx none w W [(4,X),(2,rowR 9 1 (namL V k).length (strV (namL V k)) ev),(0,blkR g4 45 (#[ev])),(1,blkR g8 25 (#[(zO g)]))])) _ l D o1 o2 W1 ?_ ?_ ?_ ?_ ?_ ?_ ?_ ?_ ?_ hrec
  ·rintro X k W ⟨hXc,ev,hi,M⟩
   exact ⟨h.step M.below,M.blk (k:=1) rfl⟩
  ·rintro X k W ⟨hXc,ev,hi,M⟩
   exact M.at_ 4 _ rfl
  ·rintro X k W W' ⟨hXc,ev,hi,M⟩ hb hx hd hf hXc2
   exact ⟨hXc2,_,hi,(M.fresh hb 4 X hx hd hf).sub ⟨rfl,rfl,rfl,rfl,trivial⟩⟩
  ·rintro X k W W' ⟨hXc,ev,hi,M⟩ hb
   exact ⟨hXc,_,hi,M.step hb⟩
  ·rintro X k W l' o hl hnc ⟨hXc,ev,hi,M⟩
   exact ⟨hXc,_,hi,M.putObj ⟨hXc _ (M.at_ 4 _ rfl),cells_row (M.at_ 2 _ rfl),zg (M.at_ 0 _ rfl),zg (M.at_ 1 _ rfl),trivial⟩ (by omega) hnc o⟩
  ·rintro W l' o hl hnc hS
   refine hS.put (by omega) (by omega) ?_
   rintro c ⟨hc,k,hk,M⟩
   exact ⟨hc,k,hk,M.putObj trivial (by omega) hnc o⟩
  ·rintro X k W hk hs ⟨hXc,ev,hi,M⟩
   exact ⟨hXc,_,trivial,M.sub ⟨rfl,(by rw [namL_no hs];rfl),rfl,rfl,trivial⟩⟩
  ·rintro X k V' W W' hk hs ⟨hXc,ev,hi,M⟩ hb hr hlo hre
   exact hY (k,V',X) W' ⟨⟨hk,hs⟩,hXc,_,hi,M.newRecv hb hr hlo 3⟩ hre
  ·exact ⟨fun W _ g hg=>hg.elim,(zN),trivial,(M1.triv 4).sub ⟨rfl,rfl,rfl,rfl,trivial⟩⟩
 ·rintro l ⟨k,V',X⟩ W ra F10 hlo hlt ⟨⟨hk,hs⟩,hXc,ev,hi,M10⟩
  replace F10:Fx 18 ra _:=F10
  dsimp only at hk hs hi M10 F10 ⊢
  have hwle:=M9.le
  obtain ⟨rk,hrk⟩:∃ x,z0a V (2*k)=x:=⟨_,rfl⟩
  rw [hrk] at M10 F10
  have CM:CellsA _ _:=(show CellsA W [(3,zwb w.heap.size rk (.agg (recA rk V'))),(4,X),(2,rowR 9 1 (namL V k).length (strV (namL V k)) ev),(0,blkR g4 45 (#[ev])),(1,blkR g8 25 (#[(zO g)]))] from ⟨ztb (M10.at_ 3 _ rfl),hXc _ (M10.at_ 4 _ rfl),cells_row (M10.at_ 2 _ rfl),zg (M10.at_ 0 _ rfl),zg (M10.at_ 1 _ rfl),trivial⟩)
  replace M10:Mx none w W [(3,zwb w.heap.size rk (.agg (recA rk V'))),(4,X),(2,rowR 9 1 (namL V k).length (strV (namL V k)) ev),(0,blkR g4 45 (#[ev])),(1,blkR g8 25 (#[(zO g)]))]:=M10
  have N10:=M10.oth CM 7
  clear CM M10
  refine wpIn_lit' (fun ⟨_,_,h⟩=>h) rfl ?_
  refine zq rfl rfl F10 rfl N10 8 (t:=37) (c:=recA ⟨0, "".toUTF8,[],0,0,[],0,0,0⟩ ⟨zN,zN⟩) (by unfold execOp;kernel_rfl) ?_
  intro g11 a11 w11 F11 M11
  clear F10 N10
  refine zt rfl rfl F11 M11 (k:=8) rfl _ _ _ rfl (F11 5 rfl) (F11 9 rfl) (recA rk V') _ rfl (zL rfl) (z3a (recv_is (M11.at_ 3 _ rfl))) (zfa rfl) (by kernel_rfl) ?_
  intro w12 M12
  refine ⟨M12.keeps (i:=7) rfl,fun o hnc hoc=>?_⟩
  have hlz:l<w12.heap.size:=Nat.lt_of_lt_of_le hlt (M12.keeps (i:=7) rfl).size
  have M13:Mx none w w12 [(3,zwb w.heap.size rk (.agg (recA rk V'))),(4,X),(2,rowR 9 1 (namL V k).length (strV (namL V k)) ev),(0,blkR g4 45 (#[ev])),(1,blkR g8 25 (#[(zO g)])),(8,blkR g11 37 (recA rk V'))]:=M12.sb
  have CM:CellsA _ _:=(show CellsA w12 [(3,zwb w.heap.size rk (.agg (recA rk V'))),(4,X),(2,rowR 9 1 (namL V k).length (strV (namL V k)) ev),(0,blkR g4 45 (#[ev])),(1,blkR g8 25 (#[(zO g)])),(8,blkR g11 37 (recA rk V'))] from ⟨ztb (M13.at_ 3 _ rfl),hXc _ (M13.at_ 4 _ rfl),cells_row (M13.at_ 2 _ rfl),zg (M13.at_ 0 _ rfl),zg (M13.at_ 1 _ rfl),zg (M13.at_ 8 _ rfl),trivial⟩)
  have N13:=M13.putObj CM (by omega) hnc o
  have hLo:(w12.putObj l o).heap[l]? = some o:=World.putObj_heap_same hlz
  clear CM M13
  obtain ⟨Wp,hWp⟩:∃ x,x=w12.putObj l o:=⟨_,rfl⟩
  rw [←hWp] at N13 hLo ⊢
  have CM:CellsA _ _:=(show CellsA Wp [(3,zwb w.heap.size rk (.agg (recA rk V'))),(4,X),(2,rowR 9 1 (namL V k).length (strV (namL V k)) ev),(0,blkR g4 45 (#[ev])),(1,blkR g8 25 (#[(zO g)])),(8,blkR g11 37 (recA rk V'))] from ⟨ztb (N13.at_ 3 _ rfl),hXc _ (N13.at_ 4 _ rfl),cells_row (N13.at_ 2 _ rfl),zg (N13.at_ 0 _ rfl),zg (N13.at_ 1 _ rfl),zg (N13.at_ 8 _ rfl),trivial⟩)
  have P13:=N13.oth CM 5
  clear CM N13
  refine wpIn_block ?_
  refine wpIn_lit' (fun ⟨_,_,h⟩=>h) rfl ?_
  refine zB 3 [(2,zN),(3,(zO g4)),(10,ev),(12,.string rk.s)] [0,1] (zx (P13.blk (k:=0) rfl) (zx (P13.blk (k:=8) rfl) dnil)) [g4,g11] F11 fun _ F14=>?_
  refine wl_allocS rfl rfl F14 rfl P13 9 (t:=9) (c:=#[.string rk.s]) (k:=1) (m:=1) (y_litG 45 9 (s:=1) (zv:=.string "".toUTF8) Tryz.underlying45 (by kernel_rfl) (by kernel_rfl) rfl (#[.string rk.s]) (by decide) (by decide) (by simp only [List.map_toArray,List.map_cons,List.map_nil,(F14 12 rfl)];kernel_rfl)) ?_
  intro g15 a15 w15 F15 M15
  clear F14 P13
  refine zua rfl rfl F15 rfl (run_appR M15 (k:=2) (kb:=9) (by_:=16) rfl rfl rfl (one_str _) (by decide) Tryz.underlying45 (by kernel_rfl) (by have:=namL_len V k;omega) (by have:=namL_len V k;unfold maxLen;omega) _ _ rfl (F15 10 rfl) (F15 13 rfl)) ?_
  intro v16 a16 w16 F16 M16
  obtain ⟨Ar16,cr16,rfl,-⟩:=row_slice (M16.rowF (k:=2) rfl)
  refine zt rfl rfl F16 M16 (k:=0) rfl _ _ _ rfl (F16 3 rfl) (F16 14 rfl) (#[.slice Ar16 ((namL V k).length+1) cr16]) _ rfl (zL rfl) (one_slc rfl) (zfa rfl) (by kernel_rfl) ?_
  intro w17 M17
  have KO:=M17.keeps (i:=5) rfl
  have Me:Mx none w w17 [(4,X),(2,rowR 9 1 (namL V (k+1)).length (strV (namL V (k+1))) (.slice Ar16 ((namL V k).length+1) cr16)),(0,blkR g4 45 (#[(.slice Ar16 ((namL V k).length+1) cr16)])),(1,blkR g8 25 (#[(zO g)]))]:=M17.sub ⟨rfl,(by rw [namL_yes hs hrk,List.length_append];unfold strV;rw [List.map_append];rfl),rfl,rfl,trivial⟩
  have CM:CellsA _ _:=(show CellsA w17 [(4,X),(2,rowR 9 1 (namL V (k+1)).length (strV (namL V (k+1))) (.slice Ar16 ((namL V k).length+1) cr16)),(0,blkR g4 45 (#[(.slice Ar16 ((namL V k).length+1) cr16)])),(1,blkR g8 25 (#[(zO g)]))] from ⟨hXc _ (Me.at_ 4 _ rfl),cells_row (Me.at_ 2 _ rfl),zg (Me.at_ 0 _ rfl),zg (Me.at_ 1 _ rfl),trivial⟩)
  exact ⟨KO,fun o2=>⟨hXc,(.slice Ar16 ((namL V k).length+1) cr16),trivial,Me.putObj CM (by omega) (fun o3 h3=>by rw [KO.same l o hLo hoc] at h3;cases h3;exact hoc) o2⟩⟩
 ·rintro l D o W a19 hD hL ⟨X,hXc,ev,hi,M19⟩ hnc hdd F19
  replace M19:Mx none w W [(2,rowR 9 1 (namL V 8).length (strV (namL V 8)) ev),(0,blkR g4 45 (#[ev])),(1,blkR g8 25 (#[(zO g)]))]:=M19.sb
  have hwle:=M9.le
  have CM:CellsA W [(2,rowR 9 1 (namL V 8).length (strV (namL V 8)) ev),(0,blkR g4 45 (#[ev])),(1,blkR g8 25 (#[(zO g)]))]:=⟨cells_row (M19.at_ 2 _ rfl),zg (M19.at_ 0 _ rfl),zg (M19.at_ 1 _ rfl),trivial⟩
  replace M19:=M19.putObj CM (by omega) hnc o
  clear CM
  have CM:CellsA (W.putObj l o) [(2,rowR 9 1 (namL V 8).length (strV (namL V 8)) ev),(0,blkR g4 45 (#[ev])),(1,blkR g8 25 (#[(zO g)]))]:=⟨cells_row (M19.at_ 2 _ rfl),zg (M19.at_ 0 _ rfl),zg (M19.at_ 1 _ rfl),trivial⟩
  replace M19:=M19.obj CM 6 D _ hdd rfl
  clear CM
  have hDge:w.heap.size≤D:=by omega
  clear hdd hnc hL hD
  obtain ⟨w19,hw19⟩:∃ x,x=W.putObj l o:=⟨_,rfl⟩
  rw [←hw19] at M19 ⊢
  clear hw19 F8 M9
  rcases Nat.eq_zero_or_pos (namL V 8).length with hn | hn
  ·obtain ⟨A0,c0,rfl⟩:∃ A c,ev=.slice A 0 c:=by
    obtain ⟨A,c,e,-⟩:=row_slice (M19.rowF (k:=2) rfl)
    exact ⟨A,c,by rw [e,hn]⟩
   refine hK5 _ _ (zT fun _ hK20=>zc (w':=w19) rfl rfl F19 rfl (.slice A0 0 c0) (zha _ _ rfl (F19 3 rfl) (M19.blk (k:=0) rfl) rfl Tryz.underlying45 rfl) fun _ F21=>?_)
   refine zh rfl rfl F21 rfl rfl (zE Tryz.func57 rfl) #[.slice A0 0 c0] (zca (F21 15 rfl)) (sort_nil A0 c0 w19) ?_
   rintro _ w22 a22 b22 F22
   have M22:=M19.step b22
   refine hK20 _ _ (zT fun _ hK23=>zB 2 [(2,.slice A0 0 c0)] [0] (zx (M22.blk (k:=0) rfl) dnil) [g4] F22 fun _ F24=>?_)
   refine hK23 _ _ (wp_ret ?_)
   have hDD:=M22.anObj (i:=6) rfl
   have M9:Mx none w w22 [(2,rowR 9 1 (namL V 8).length (strV (namL V 8)) (.slice A0 0 c0)),(0,blkR g4 45 (#[.slice A0 0 c0])),(1,blkR g8 25 (#[(zO g)]))]:=M22.sb
   have Mz:=M9.putObj (show CellsA w22 [(2,rowR 9 1 (namL V 8).length (strV (namL V 8)) (.slice A0 0 c0)),(0,blkR g4 45 (#[.slice A0 0 c0])),(1,blkR g8 25 (#[(zO g)]))] from ⟨cells_row (M9.at_ 2 _ rfl),zg (M9.at_ 0 _ rfl),zg (M9.at_ 1 _ rfl),trivial⟩) hDge (fun o3 h3=>by rw [hDD] at h3;cases h3;rfl) (.deferred none)
   exact zsc F24.defers hDD (res1 rfl (F24 2 rfl)) ⟨_,rfl,⟨A0,c0,by rw [srtL_len,hn],fun h0=>absurd h0 (by rw [srtL_len,hn];decide)⟩,Mz.below⟩
  ·obtain ⟨gr,c0,E,rfl,M25⟩:=M19.rowBlk (k:=2) rfl hn rfl
   refine hK5 _ _ (zT fun _ hK26=>zc (w':=w19) rfl rfl F19 rfl (.slice (some ⟨gr,0,none⟩) (namL V 8).length c0) (zha _ _ rfl (F19 3 rfl) (M25.blk (k:=0) rfl) rfl Tryz.underlying45 rfl) fun _ F27=>?_)
   refine zh rfl rfl F27 rfl rfl (zE Tryz.func57 rfl) #[.slice (some ⟨gr,0,none⟩) (namL V 8).length c0] (zca (F27 15 rfl)) (sort_some (namL V 8) E gr c0 (by have:=namL_len V 8;omega) w19 (M25.blk (k:=2) rfl)) ?_
   rintro _ w28 a28 ⟨hc28,hg28⟩ F28
   have M28:=M25.put (k:=2) rfl hg28 hc28
   clear M25 hg28 hc28
   refine hK26 _ _ (zT fun _ hK29=>zc (w':=w28) rfl rfl F28 rfl (.slice (some ⟨gr,0,none⟩) (namL V 8).length c0) (zha _ _ rfl (F28 3 rfl) (M28.blk (k:=0) rfl) rfl Tryz.underlying45 rfl) fun _ F30=>?_)
   refine rm rfl F30 fun _ F31=>hK29 _ _ (wp_ret ?_)
   have hDD:=M28.anObj (i:=6) rfl
   have M9:Mx none w w28 [(2,blkR gr 9 (rowA (srtL (namL V 8)) E)),(0,blkR g4 45 (#[.slice (some ⟨gr,0,none⟩) (namL V 8).length c0])),(1,blkR g8 25 (#[(zO g)]))]:=M28.sb
   have Mz:=M9.putObj (show CellsA w28 [(2,blkR gr 9 (rowA (srtL (namL V 8)) E)),(0,blkR g4 45 (#[.slice (some ⟨gr,0,none⟩) (namL V 8).length c0])),(1,blkR g8 25 (#[(zO g)]))] from ⟨zg (M9.at_ 2 _ rfl),zg (M9.at_ 0 _ rfl),zg (M9.at_ 1 _ rfl),trivial⟩) hDge (fun o3 h3=>by rw [hDD] at h3;cases h3;rfl) (.deferred none)
   exact zsc F31.defers hDD (res1 rfl (F31 2 rfl)) ⟨_,rfl,⟨_,c0,by rw [srtL_len],fun _=>⟨gr,E,rfl,(Mz.own 2 _ rfl rfl gr rfl).resolve_right (fun e=>by cases e),Mz.blk (k:=2) rfl⟩⟩,Mz.below⟩
 ·rintro l D o c W a32 hD hL ⟨rfl,k,⟨hk,hi⟩,M32⟩ hnc hdd F32
  have hwle:=M9.le
  have CM:CellsA W []:=trivial
  replace M32:=M32.putObj CM (by omega) hnc o
  clear CM
  have CM:CellsA (W.putObj l o) []:=trivial
  replace M32:=M32.obj CM 6 D _ hdd rfl
  clear CM
  have hDge:w.heap.size≤D:=by omega
  clear hdd hnc hL hD
  obtain ⟨w32,hw32⟩:∃ x,x=W.putObj l o:=⟨_,rfl⟩
  rw [←hw32] at M32 ⊢
  clear hw32 F8 M9
  exact absurd hi id
theorem settle_any (g:Nat) (c:Nat→CelN) (fl:Bool) (lf:Int) (dd:Bool) (s n:Nat→Value) (A0:Option Addr) (m c0:Nat) (tx:Nat→Int) (hmc:m≤c0) (hv:z2a ⟨c,fl,lf,dd⟩) (w:World) (hT:RdI w A0 m tx) (hTg:¬ifp A0 m g) (hr:RowsV w g c s n) (hg:w.heap[g]? = some (.cells (vltA ⟨c,fl,lf,dd⟩ s n) 80 (0,0))):
  Calls Tryz.prog 61 #[(zO g),.slice A0 m c0] w fun e w'=>∃ t,e=.returned t∧∃ s' n',RowsV w' g (setC c tx m 18) s' n'∧(∀ b,zo 18 s' n' b→zo 18 s n b∨w.heap.size≤b)∧w'.heap[g]? = some (.cells (vltA ⟨setC c tx m 18,false,-1,false⟩ s' n') 80 (0,0))∧w.grownBy w' (some g):=by
 have hlen:∀ i,i<18→(c i).s.length≤1000∧(c i).n.length≤1000:=hv
 refine zk (args:=[(zO g),.slice A0 m c0]) 66 Tryz.func61 rfl rfl rfl ?_
 intro fa F
 have M:=Mx.rowsG hr hg 1
 refine zSk fun _ hK1=>zT fun _ hK2=>rm rfl F fun _ F3=>hK2 _ _ (wp_block ?_)
 refine zob (α:=Nat×Option Addr×Nat×Nat×(Nat→Int)×(Nat→Value)×(Nat→Value)) (n:=66) (G:=(some g)) (w0:=w) (fun x=>[(0,(zO g)),(8,zI (x.1:Int)),(1,.slice x.2.1 x.2.2.1 x.2.2.2.1)]) (fun x=>[(1,zza 0 18 (setC c tx m x.1) x.2.2.2.2.2.1 x.2.2.2.2.2.2),(0,blkR g 80 (vltA ⟨(setC c tx m x.1),fl,lf,dd⟩ x.2.2.2.2.2.1 x.2.2.2.2.2.2))]) (fun k x=>k=(18-x.1)∧(x.1≤18∧(∀ b,zo 18 x.2.2.2.2.2.1 x.2.2.2.2.2.2 b→zo 18 s n b∨w.heap.size≤b)∧RdI w x.2.1 x.2.2.1 x.2.2.2.2.1∧(¬ifp x.2.1 x.2.2.1 g)∧x.2.2.1≤x.2.2.2.1∧x.2.2.1+setK c m x.1=m∧∀ i,i<x.2.2.1→x.2.2.2.2.1 i=tx (setK c m x.1+i))) _ ⟨0,A0,m,c0,tx,s,n⟩ ⟨rfl,⟨Nat.zero_le _,fun b hb=>.inl hb,hT,hTg,hmc,rfl,fun i _=>by rw [show setK c m 0=0 from rfl,Nat.zero_add]⟩⟩ (F3.sb) (M.sb) ?_
 rintro k4 ⟨jn,At,qt,ct,yt,sq,nq⟩ a4 w4 K4 ⟨ek4,I4⟩ F4 M4 hK4
 replace F4:Fx 66 a4 [(0,(zO g)),(8,zI (jn:Int)),(1,.slice At qt ct)]:=F4
 replace M4:Mx _ _ w4 [(1,zza 0 18 (setC c tx m jn) sq nq),(0,blkR g 80 (vltA ⟨(setC c tx m jn),fl,lf,dd⟩ sq nq))]:=M4
 replace I4:jn≤18∧(∀ b,zo 18 sq nq b→zo 18 s n b∨w.heap.size≤b)∧RdI w At qt yt∧(¬ifp At qt g)∧qt≤ct∧qt+setK c m jn=m∧∀ i,i<qt→yt i=tx (setK c m jn+i):=I4
 replace ek4:k4=(18-jn):=ek4
 obtain ⟨hj,hfp,hT1,hTg1,hqc,hqm,hyx⟩:=I4
 by_cases hlt:jn<18
 ·have hcj:setC c tx m jn jn=c jn:=setC_ge c tx m jn jn (Nat.le_refl _)
  obtain ⟨fj,hfj⟩:∃ b,(c jn).f=b:=⟨_,rfl⟩
  refine zT fun _ hK5=>zc (w':=w4) rfl rfl F4 rfl (.bool true) (zna _ _ _ _ rfl (F4 8 rfl) rfl (decide_eq_true (show (jn:Int)<18 by omega))) fun _ F6=>?_
  refine hK5 _ _ (zSk fun _ hK7=>wp_cond_true (F6 9 rfl) (wp_skip (hK7 _ _ (zSk fun _ hK8=>wp_block (zT fun _ hK9=>rm rfl F6 fun _ F10=>rm rfl F10 fun _ F11=>hK9 _ _ (zT fun _ hK12=>zB 4 [(0,(zO g)),(8,zI (jn:Int)),(1,.slice At qt ct),(12,zI (jn:Int)),(14,(zO g))] [] dnil [] F11 fun _ F13=>?_))))))
  refine zc (w':=w4) rfl rfl F13 rfl (zP g (3*jn)) (y_ixC3 (N:=18) 76 (by kernel_rfl) (by kernel_rfl) (by kernel_rfl) rfl (F13 14 rfl) (F13 12 rfl) rfl hlt) fun _ F14=>?_
  refine rm rfl F14 fun _ F15=>hK12 _ _ (zSk fun _ hK16=>zT fun _ hK17=>rm rfl F15 fun _ F18=>zc (w':=w4) rfl rfl F18 rfl (zP g (3*jn)) (by unfold execOp;simp only [(F18 16 rfl)];kernel_rfl) fun _ F19=>?_)
  refine zc (w':=w4) rfl rfl F19 rfl (zP g (3*jn+2)) (y_fa (off:=2) rfl (F19 17 rfl) (by kernel_rfl) rfl) fun _ F20=>?_
  refine zc (w':=w4) rfl rfl F20 rfl (.bool fj) (zha _ _ rfl (F20 18 rfl) (M4.blk (k:=0) rfl) ((vlt_f ⟨(setC c tx m jn),fl,lf,dd⟩ sq nq hlt).trans (show some (Value.bool ((setC c tx m jn) jn).f)=_ by rw [hcj,hfj])) Tryz.underlying4 rfl) fun _ F21=>?_
  cases fj
  ·refine zc (w':=w4) rfl rfl F21 rfl (.bool true) (zjb _ _ rfl (F21 19 rfl)) fun _ F22=>?_
   refine hK17 _ _ (wp_cond_true (F22 20 rfl) (wp_exit ?_))
   simp only [Exit.then,Exit.inBlock,↓reduceIte,Nat.reduceEqDiff]
   refine hK8 _ _ (zR (zc (w':=w4) rfl rfl F22 rfl (zI ((jn+1:Nat):Int)) (zsa _ _ _ _ rfl (F22 8 rfl) rfl (by omega) (by omega)) fun _ F23=>?_))
   refine rm rfl F23 fun _ F24=>?_
   have hsC:setC c tx m (jn+1)=(setC c tx m jn):=setC_no hfj
   have hsK:setK c m (jn+1)=setK c m jn:=setK_no hfj
   subst ek4
   exact hK4 _ ⟨(jn+1),At,qt,ct,yt,sq,nq⟩ _ _ (by omega) ⟨rfl,⟨by omega,hfp,hT1,hTg1,hqc,by rw [hsK];exact hqm,by rw [hsK];exact hyx⟩⟩ (F24.sb) (M4.sub ⟨(by rw [hsC];rfl),(by rw [hsC];rfl),trivial⟩)
  ·have hf:(c jn).f=true:=hfj
   obtain ⟨nl,hnl⟩:∃ l,(c jn).n=l:=⟨_,rfl⟩
   obtain ⟨sl,hsl⟩:∃ l,(c jn).s=l:=⟨_,rfl⟩
   have hln:=hlen jn hlt
   rw [hnl,hsl] at hln
   have hNl:IsB w4 nl (nq jn):=by rw [←hnl,←hcj];exact M4.rowsN (i:=1) rfl hlt
   have hSl:IsB w4 sl (sq jn):=by rw [←hsl,←hcj];exact M4.rowsS (i:=1) rfl hlt
   have M25:=(M4.part 50 (bytR nl (nq jn)) hNl z3b rfl (k:=1) rfl rfl (fun b hb=>⟨jn,hlt,.inr hb⟩)).part 51 (bytR sl (sq jn)) hSl z3b rfl (k:=1) rfl rfl (fun b hb=>⟨jn,hlt,.inl hb⟩)
   refine zc (w':=w4) rfl rfl F21 rfl (.bool false) (zjb _ _ rfl (F21 19 rfl)) fun _ F26=>?_
   refine hK17 _ _ (wp_cond_false (F26 20 rfl) (wp_skip (hK16 _ _ (zT fun _ hK27=>rm rfl F26 fun _ F28=>hK27 _ _ (zSk fun _ hK29=>zT fun _ hK30=>rm rfl F28 fun _ F31=>zc (w':=w4) rfl rfl F31 rfl (zI (qt:Int)) (y_lnG 22 Tryz.underlying22 _ rfl (F31 21 rfl) rfl) fun _ F32=>?_)))))
   by_cases h33:0<(qt:Int)
   ·have hq:0<qt:=by omega
    obtain ⟨tn,htn⟩:∃ t,tornN (yt 0) nl.length=t:=⟨_,rfl⟩
    have htl:tn≤nl.length:=by rw [←htn];exact tornN_le _ _
    obtain ⟨km,hkm⟩:∃ k,min tn sl.length=k:=⟨_,rfl⟩
    have hks:km≤sl.length:=by omega
    refine zc (w':=w4) rfl rfl F32 rfl (.bool true) (z2b _ _ _ _ rfl (F32 22 rfl) rfl (decide_eq_true h33)) fun _ F34=>?_
    refine hK30 _ _ (wp_cond_true (F34 23 rfl) (zSk fun _ hK35=>z5a F34 (SK [.inl (.slice At qt ct),.inl ((ixV (.slice At qt ct) 0)),.inl (zI (yt 0)),.inl (zI (max (yt 0) 0)),.inl (zP g (3*jn)),.inl (zP g (3*jn)),.inl (zP g (3*jn+1)),.inl ((nq jn)),.inl (zI (nl.length:Int)),.inl (zI (tn:Int)),.inl (zI (tn:Int))]) 11 rfl (by kernel_rfl) ⟨hop0 F34,?_,?_,?_,hop0 F34,hop0 F34,?_,?_,?_,?_,hop0 F34,trivial⟩ ?_))
    ·intro ua uw hb hd
     have e24:ua.eval (.tmp 24)=.slice At qt ct:=hd 24 (by decide)
     exact z9b (F:=(StK.eq ((ixV (.slice At qt ct) 0))).F) rfl ((ixV (.slice At qt ct) 0)) (y_ixJ _ _ rfl e24 (hT1.grow (M25.step hb).grown hTg1) rfl rfl hq) rfl
    ·intro ua uw hb hd
     have e25:ua.eval (.tmp 25)=(ixV (.slice At qt ct) 0):=hd 25 (by decide)
     exact z9b (F:=(StK.eq (zI (yt 0))).F) rfl (zI (yt 0)) (y_ldJ _ rfl e25 (hT1.grow (M25.step hb).grown hTg1) hq) rfl
    ·intro ua uw hb hd
     have e26:ua.eval (.tmp 26)=zI (yt 0):=hd 26 (by decide)
     exact z9b (F:=(StK.eq (zI (max (yt 0) 0))).F) rfl (zI (max (yt 0) 0)) (y_maxI _ _ rfl e26 rfl rfl) rfl
    ·intro ua uw hb hd
     have e29:ua.eval (.tmp 29)=(zP g (3*jn)):=hd 29 (by decide)
     exact z9b (F:=(StK.eq (zP g (3*jn+1))).F) rfl (zP g (3*jn+1)) (y_fa (off:=1) rfl e29 (by kernel_rfl) rfl) rfl
    ·intro ua uw hb hd
     have e30:ua.eval (.tmp 30)=(zP g (3*jn+1)):=hd 30 (by decide)
     exact z9b (F:=(StK.eq ((nq jn))).F) rfl ((nq jn)) (zha _ _ rfl e30 ((M25.step hb).blk (k:=0) rfl) (vlt_n ⟨(setC c tx m jn),fl,lf,dd⟩ sq nq hlt) Tryz.underlying23 rfl) rfl
    ·intro ua uw hb hd
     have e31:ua.eval (.tmp 31)=(nq jn):=hd 31 (by decide)
     exact z9b (F:=(StK.eq (zI (nl.length:Int))).F) rfl (zI (nl.length:Int)) (zcb _ rfl e31 ((M25.step hb).isb (k:=50) rfl) rfl) rfl
    ·intro ua uw hb hd
     have e27:ua.eval (.tmp 27)=zI (max (yt 0) 0):=hd 27 (by decide)
     have e32:ua.eval (.tmp 32)=zI (nl.length:Int):=hd 32 (by decide)
     exact z9b (F:=(StK.eq (zI (tn:Int))).F) rfl (zI (tn:Int)) (y_min _ _ rfl e27 e32 (by rw [←htn,tornN_int];split <;> omega)) rfl
    intro p37 a37 w37 b37 G37 y37
    obtain ⟨-,-,-,-,-,-,-,-,-,-,q10,-⟩:=y37
    have r10:p37 10=zI (tn:Int):=q10 (by decide)
    simp only [List.take,layV,Nat.zero_add,Nat.reduceAdd,r10] at G37
    have M37:=M25.kc b37
    clear F34 M25 r10 q10
    refine hK35 _ _ (zR (rm rfl G37 fun _ F38=>zc (w':=w37) rfl rfl F38 rfl (.slice (tlA At ct) (qt-1) (ct-1)) (y_slI1 _ _ rfl (F38 34 rfl) rfl hq hqc) fun _ F39=>?_))
    refine rm rfl F39 fun _ F40=>hK29 _ _ (zSk fun _ hK41=>?_)
    refine zpa F40 [fun vE=>vE=(zP g (3*jn)),fun vE=>vE=(zP g (3*jn)),fun vE=>vE=(zP g (3*jn)),fun vE=>vE=(sq jn),fun vE=>vE=zI (tn:Int),fun vE=>vE=(zP g (3*jn)),fun vE=>vE=(zP g (3*jn)),fun vE=>vE=(zP g (3*jn)),fun vE=>vE=(sq jn),fun vE=>vE=zI (sl.length:Int),fun vE=>vE=zI (km:Int)] (JM (some g) w fun SV pV=>[(51,bytR sl (sq jn)),(50,bytR nl (nq jn)),(1,zza 0 18 (setC c tx m jn) sq nq),(0,blkR g 80 (vltA ⟨(setC c tx m jn),fl,lf,dd⟩ sq nq))]) 11 rfl (by kernel_rfl) rfl ⟨trivial,trivial,trivial,trivial,trivial,trivial,trivial,trivial,trivial,trivial,trivial,trivial⟩ (fun p=>(M37.step (zma _)).sub ⟨rfl,rfl,rfl,rfl,trivial⟩) ⟨?_,?_,?_,?_,?_,?_,?_,?_,?_,?_,?_,trivial⟩ ?_
    ·intro ua uw SV pV (M:Mx (some g) w uw _) hk hn hd
     have e5:ua.eval (.tmp 5)=(zP g (3*jn)):=(show ua.eval (.tmp 5)=_ from hd 5 (by decide)).trans (F40 5 rfl)
     exact ze rfl (zP g (3*jn)) (zga _ (.inl rfl) e5) rfl (M.sb)
    ·intro ua uw SV pV (M:Mx (some g) w uw _) hk hn hd
     have e36:ua.eval (.tmp 36)=(zP g (3*jn)):=zQ1 (hd 36 (by decide))
     exact ze rfl (zP g (3*jn)) (by unfold execOp;simp only [e36];kernel_rfl) rfl (M.sb)
    ·intro ua uw SV pV (M:Mx (some g) w uw _) hk hn hd
     have e37:ua.eval (.tmp 37)=(zP g (3*jn)):=zQ1 (hd 37 (by decide))
     exact ze rfl (zP g (3*jn)) (y_fa (off:=0) rfl e37 (by kernel_rfl) rfl) rfl (M.sb)
    ·intro ua uw SV pV (M:Mx (some g) w uw _) hk hn hd
     have e38:ua.eval (.tmp 38)=(zP g (3*jn)):=zQ1 (hd 38 (by decide))
     exact ze rfl ((sq jn)) (zha _ _ rfl e38 (M.blk (k:=0) rfl) (vlt_s ⟨(setC c tx m jn),fl,lf,dd⟩ sq nq hlt) Tryz.underlying23 rfl) rfl (M.sb)
    ·intro ua uw SV pV (M:Mx (some g) w uw _) hk hn hd
     have e6:ua.eval (.tmp 6)=zI (tn:Int):=(show ua.eval (.tmp 6)=_ from hd 6 (by decide)).trans (F40 6 rfl)
     exact ze rfl (zI (tn:Int)) (zga _ (.inl rfl) e6) rfl (M.sb)
    ·intro ua uw SV pV (M:Mx (some g) w uw _) hk hn hd
     have e5:ua.eval (.tmp 5)=(zP g (3*jn)):=(show ua.eval (.tmp 5)=_ from hd 5 (by decide)).trans (F40 5 rfl)
     exact ze rfl (zP g (3*jn)) (zga _ (.inl rfl) e5) rfl (M.sb)
    ·intro ua uw SV pV (M:Mx (some g) w uw _) hk hn hd
     have e41:ua.eval (.tmp 41)=(zP g (3*jn)):=zQ1 (hd 41 (by decide))
     exact ze rfl (zP g (3*jn)) (by unfold execOp;simp only [e41];kernel_rfl) rfl (M.sb)
    ·intro ua uw SV pV (M:Mx (some g) w uw _) hk hn hd
     have e42:ua.eval (.tmp 42)=(zP g (3*jn)):=zQ1 (hd 42 (by decide))
     exact ze rfl (zP g (3*jn)) (y_fa (off:=0) rfl e42 (by kernel_rfl) rfl) rfl (M.sb)
    ·intro ua uw SV pV (M:Mx (some g) w uw _) hk hn hd
     have e43:ua.eval (.tmp 43)=(zP g (3*jn)):=zQ1 (hd 43 (by decide))
     exact ze rfl ((sq jn)) (zha _ _ rfl e43 (M.blk (k:=0) rfl) (vlt_s ⟨(setC c tx m jn),fl,lf,dd⟩ sq nq hlt) Tryz.underlying23 rfl) rfl (M.sb)
    ·intro ua uw SV pV (M:Mx (some g) w uw _) hk hn hd
     have e44:ua.eval (.tmp 44)=(sq jn):=zQ1 (hd 44 (by decide))
     exact ze rfl (zI (sl.length:Int)) (zcb _ rfl e44 (M.isb (k:=51) rfl) rfl) rfl (M.sb)
    ·intro ua uw SV pV (M:Mx (some g) w uw _) hk hn hd
     have e40:ua.eval (.tmp 40)=zI (tn:Int):=zQ1 (hd 40 (by decide))
     have e45:ua.eval (.tmp 45)=zI (sl.length:Int):=zQ1 (hd 45 (by decide))
     exact ze rfl (zI (km:Int)) (y_min _ _ rfl e40 e45 (by rw [←hkm];split <;> omega)) rfl (M.sb)
    intro p42 a42 w42 M42 G42 y42
    obtain ⟨-,-,-,q3,-,-,-,-,-,-,q10,-⟩:=y42
    have r3:p42 3=(sq jn):=q3
    have r10:p42 10=zI (km:Int):=q10
    replace M42:Mx _ _ w42 [(51,bytR sl (sq jn)),(50,bytR nl (nq jn)),(1,zza 0 18 (setC c tx m jn) sq nq),(0,blkR g 80 (vltA ⟨(setC c tx m jn),fl,lf,dd⟩ sq nq))]:=M42
    simp only [List.take,layV,Nat.zero_add,Nat.reduceAdd,r3,r10] at G42
    refine zrc rfl rfl G42 rfl (y_slFrom _ _ rfl (G42 39 rfl) (M42.isb (k:=51) rfl) (G42 46 rfl) (i:=km) rfl (by omega)) ?_
    intro v43 a43 h43 F43
    clear G42
    have M43:=M42.partB 60 (k:=51) rfl h43.1 h43.2
    obtain ⟨A43,c43,rfl⟩:=(M43.isb (k:=60) rfl).shape
    refine rm rfl F43 fun _ F44=>hK41 _ _ (zR (rm rfl F44 fun _ F45=>rm rfl F45 fun _ F46=>zc (w':=w42) rfl rfl F46 rfl (zP g (3*jn)) (by unfold execOp;simp only [(F46 49 rfl)];kernel_rfl) fun _ F47=>?_))
    refine zc (w':=w42) rfl rfl F47 rfl (zP g (3*jn+1)) (y_fa (off:=1) rfl (F47 50 rfl) (by kernel_rfl) rfl) fun _ F48=>?_
    refine zc (w':=w42) rfl rfl F48 rfl ((nq jn)) (zha _ _ rfl (F48 51 rfl) (M43.blk (k:=0) rfl) (vlt_n ⟨(setC c tx m jn),fl,lf,dd⟩ sq nq hlt) Tryz.underlying23 rfl) fun _ F49=>?_
    refine rm rfl F49 fun _ F50=>zrc rfl rfl F50 rfl (y_slTo _ _ rfl (F50 52 rfl) (M43.isb (k:=50) rfl) (F50 53 rfl) (j:=tn) rfl (by omega)) ?_
    intro v51 a51 h51 F51
    have M51:=M43.partB 61 (k:=50) rfl h51.1 h51.2
    obtain ⟨A51,c51,rfl⟩:=(M51.isb (k:=61) rfl).shape
    refine rm rfl F51 fun _ F52=>wl_allocS rfl rfl F52 rfl M51 62 (t:=23) (c:=#[.slice A51 ((nl.take tn)).length c51,.slice A43 ((sl.drop km)).length c43]) (k:=2) (m:=2) (y_litG 68 23 (s:=1) (zv:=zN) Tryz.underlying68 (by kernel_rfl) (by kernel_rfl) rfl (#[.slice A51 ((nl.take tn)).length c51,.slice A43 ((sl.drop km)).length c43]) (by decide) (by decide) (by simp only [List.map_toArray,List.map_cons,List.map_nil,(F52 54 rfl),(F52 55 rfl)];kernel_rfl)) ?_
    intro g53 a53 w53 F53 M53
    refine zh rfl rfl F53 rfl rfl (zE Tryz.func91 rfl) #[.slice (some ⟨g53,0,none⟩) 2 2] (zca (F53 56 rfl)) ((concat2 (nl.take tn) (sl.drop km) (.slice (some ⟨g53,0,none⟩) 2 2) (by rw [List.length_take,List.length_drop];omega) w53 (isP2 ⟨_,rfl,M53.blk (k:=62) rfl⟩ (M53.isb (k:=61) rfl) (M53.isb (k:=60) rfl)))) ?_
    rintro v54 w54 a54 h54 F54
    have M54:=M53.newO h54.2 63 h54.1
    clear M53 h54
    obtain ⟨A54,c54,rfl⟩:=(M54.isO (k:=63) rfl).shape
    refine zc (w':=w54) rfl rfl F54 rfl (.agg (#[.slice A54 (((nl.take tn)++(sl.drop km))).length c54,zN,.bool false])) (by unfold execOp;simp only [List.map_toArray,List.map_cons,List.map_nil,(F54 57 rfl)];kernel_rfl) fun _ F55=>?_
    refine zc (w':=w54) rfl rfl F55 rfl (zP g (3*jn)) (by unfold execOp;simp only [(F55 48 rfl)];kernel_rfl) fun _ F56=>?_
    refine zt rfl rfl F56 M54 (k:=0) rfl _ _ _ rfl (F56 59 rfl) (F56 58 rfl) (#[.slice A54 (((nl.take tn)++(sl.drop km))).length c54,zN,.bool false]) (vltA ⟨(putC (setC c tx m jn) jn ⟨((nl.take tn)++(sl.drop km)),[],false⟩),fl,lf,dd⟩ (putN sq jn (.slice A54 (((nl.take tn)++(sl.drop km))).length c54)) (putN nq jn (zN))) rfl (show 3*jn+3≤57 by omega) (by simp [Value.oneCell']) (put_c (setC c tx m jn) fl lf dd sq nq (.slice A54 (((nl.take tn)++(sl.drop km))).length c54) (zN) ((nl.take tn)++(sl.drop km)) [] false hlt) (by kernel_rfl) ?_
    intro w57 M57
    refine hK8 _ _ (zR (zc (w':=w57) rfl rfl F56 rfl (zI ((jn+1:Nat):Int)) (zsa _ _ _ _ rfl (F56 8 rfl) rfl (by omega) (by omega)) fun _ F58=>?_))
    refine rm rfl F58 fun _ F59=>?_
    have hown:∀ b,bfp (.slice A54 (((nl.take tn)++(sl.drop km))).length c54) b→w.heap.size≤b:=fun b hb=>(M57.own 63 _ rfl rfl b (z1a hb)).resolve_right (fun e=>M57.dis 0 63 _ _ rfl rfl (by decide) rfl b (Option.some.inj e).symm (z1a hb))
    have M60:=M57.rowsPut (i:=1) (k:=63) rfl rfl (fun b _=>Nat.zero_le _) jn rfl
    have hk:setK c m jn<m:=by omega
    have hy0:yt 0=tx (setK c m jn):=hyx 0 hq
    have hsC:setC c tx m (jn+1)=putC (setC c tx m jn) jn ⟨((nl.take tn)++(sl.drop km)),[],false⟩:=by
     rw [setC_in hf hk,←hy0,hnl,htn,tornC,hnl,hsl,←hkm,drop_min]
    have hsK:setK c m (jn+1)=setK c m jn+1:=setK_in hf hk
    subst ek4
    exact hK4 _ ⟨(jn+1),(tlA At ct),(qt-1),(ct-1),(fun i=>yt (i+1)),(putN sq jn (.slice A54 (((nl.take tn)++(sl.drop km))).length c54)),(putN nq jn (zN))⟩ _ _ (by omega) ⟨rfl,⟨by omega,fun b hb=>(rowsfp_put hb).elim (fun h=>hfp b h) (fun h=>.inr (hown b h)),rdI_tl hT1 hq hqc,fun h=>hTg1 (ifp_tl hT1 hq hqc h),by dsimp only;omega,by dsimp only;rw [hsK];omega,fun i hi=>by dsimp only at hi ⊢;rw [hsK,show setK c m jn+1+i=setK c m jn+(i+1) by omega];exact hyx (i+1) (by omega)⟩⟩ (F59.sb) (M60.sub ⟨(by rw [hsC];rfl),(by rw [hsC];rfl),trivial⟩)
   ·have hq:qt=0:=by omega
    refine zc (w':=w4) rfl rfl F32 rfl (.bool false) (z2b _ _ _ _ rfl (F32 22 rfl) rfl (decide_eq_false h33)) fun _ F61=>?_
    refine hK30 _ _ (wp_cond_false (F61 23 rfl) (wp_skip (hK29 _ _ (zSk fun _ hK62=>?_))))
    refine zpa F61 [fun vE=>vE=(zP g (3*jn)),fun vE=>vE=(zP g (3*jn)),fun vE=>vE=(zP g (3*jn)),fun vE=>vE=(sq jn),fun vE=>vE=zI 0,fun vE=>vE=(zP g (3*jn)),fun vE=>vE=(zP g (3*jn)),fun vE=>vE=(zP g (3*jn)),fun vE=>vE=(sq jn),fun vE=>vE=zI (sl.length:Int),fun vE=>vE=zI 0] (JM (some g) w fun SV pV=>[(51,bytR sl (sq jn)),(50,bytR nl (nq jn)),(1,zza 0 18 (setC c tx m jn) sq nq),(0,blkR g 80 (vltA ⟨(setC c tx m jn),fl,lf,dd⟩ sq nq))]) 11 rfl (by kernel_rfl) rfl ⟨trivial,trivial,trivial,trivial,trivial,trivial,trivial,trivial,trivial,trivial,trivial,trivial⟩ (fun p=>(M25.step (zma _)).sub ⟨rfl,rfl,rfl,rfl,trivial⟩) ⟨?_,?_,?_,?_,?_,?_,?_,?_,?_,?_,?_,trivial⟩ ?_
    ·intro ua uw SV pV (M:Mx (some g) w uw _) hk hn hd
     have e5:ua.eval (.tmp 5)=(zP g (3*jn)):=(show ua.eval (.tmp 5)=_ from hd 5 (by decide)).trans (F61 5 rfl)
     exact ze rfl (zP g (3*jn)) (zga _ (.inl rfl) e5) rfl (M.sb)
    ·intro ua uw SV pV (M:Mx (some g) w uw _) hk hn hd
     have e36:ua.eval (.tmp 36)=(zP g (3*jn)):=zQ1 (hd 36 (by decide))
     exact ze rfl (zP g (3*jn)) (by unfold execOp;simp only [e36];kernel_rfl) rfl (M.sb)
    ·intro ua uw SV pV (M:Mx (some g) w uw _) hk hn hd
     have e37:ua.eval (.tmp 37)=(zP g (3*jn)):=zQ1 (hd 37 (by decide))
     exact ze rfl (zP g (3*jn)) (y_fa (off:=0) rfl e37 (by kernel_rfl) rfl) rfl (M.sb)
    ·intro ua uw SV pV (M:Mx (some g) w uw _) hk hn hd
     have e38:ua.eval (.tmp 38)=(zP g (3*jn)):=zQ1 (hd 38 (by decide))
     exact ze rfl ((sq jn)) (zha _ _ rfl e38 (M.blk (k:=0) rfl) (vlt_s ⟨(setC c tx m jn),fl,lf,dd⟩ sq nq hlt) Tryz.underlying23 rfl) rfl (M.sb)
    ·intro ua uw SV pV (M:Mx (some g) w uw _) hk hn hd
     have e6:ua.eval (.tmp 6)=zI 0:=(show ua.eval (.tmp 6)=_ from hd 6 (by decide)).trans (F61 6 rfl)
     exact ze rfl (zI 0) (zga _ (.inl rfl) e6) rfl (M.sb)
    ·intro ua uw SV pV (M:Mx (some g) w uw _) hk hn hd
     have e5:ua.eval (.tmp 5)=(zP g (3*jn)):=(show ua.eval (.tmp 5)=_ from hd 5 (by decide)).trans (F61 5 rfl)
     exact ze rfl (zP g (3*jn)) (zga _ (.inl rfl) e5) rfl (M.sb)
    ·intro ua uw SV pV (M:Mx (some g) w uw _) hk hn hd
     have e41:ua.eval (.tmp 41)=(zP g (3*jn)):=zQ1 (hd 41 (by decide))
     exact ze rfl (zP g (3*jn)) (by unfold execOp;simp only [e41];kernel_rfl) rfl (M.sb)
    ·intro ua uw SV pV (M:Mx (some g) w uw _) hk hn hd
     have e42:ua.eval (.tmp 42)=(zP g (3*jn)):=zQ1 (hd 42 (by decide))
     exact ze rfl (zP g (3*jn)) (y_fa (off:=0) rfl e42 (by kernel_rfl) rfl) rfl (M.sb)
    ·intro ua uw SV pV (M:Mx (some g) w uw _) hk hn hd
     have e43:ua.eval (.tmp 43)=(zP g (3*jn)):=zQ1 (hd 43 (by decide))
     exact ze rfl ((sq jn)) (zha _ _ rfl e43 (M.blk (k:=0) rfl) (vlt_s ⟨(setC c tx m jn),fl,lf,dd⟩ sq nq hlt) Tryz.underlying23 rfl) rfl (M.sb)
    ·intro ua uw SV pV (M:Mx (some g) w uw _) hk hn hd
     have e44:ua.eval (.tmp 44)=(sq jn):=zQ1 (hd 44 (by decide))
     exact ze rfl (zI (sl.length:Int)) (zcb _ rfl e44 (M.isb (k:=51) rfl) rfl) rfl (M.sb)
    ·intro ua uw SV pV (M:Mx (some g) w uw _) hk hn hd
     have e40:ua.eval (.tmp 40)=zI 0:=zQ1 (hd 40 (by decide))
     have e45:ua.eval (.tmp 45)=zI (sl.length:Int):=zQ1 (hd 45 (by decide))
     exact ze rfl (zI 0) (y_min _ _ rfl e40 e45 (by split <;> omega)) rfl (M.sb)
    intro p63 a63 w63 M63 G63 y63
    obtain ⟨-,-,-,q3,-,-,-,-,-,-,q10,-⟩:=y63
    have r3:p63 3=(sq jn):=q3
    have r10:p63 10=zI 0:=q10
    replace M63:Mx _ _ w63 [(51,bytR sl (sq jn)),(50,bytR nl (nq jn)),(1,zza 0 18 (setC c tx m jn) sq nq),(0,blkR g 80 (vltA ⟨(setC c tx m jn),fl,lf,dd⟩ sq nq))]:=M63
    simp only [List.take,layV,Nat.zero_add,Nat.reduceAdd,r3,r10] at G63
    refine zrc rfl rfl G63 rfl (y_slFrom _ _ rfl (G63 39 rfl) (M63.isb (k:=51) rfl) (G63 46 rfl) (i:=0) rfl (Nat.zero_le _)) ?_
    intro v64 a64 h64 F64
    clear G63
    have M64:=M63.partB 60 (k:=51) rfl h64.1 h64.2
    obtain ⟨A64,c64,rfl⟩:=(M64.isb (k:=60) rfl).shape
    refine rm rfl F64 fun _ F65=>hK62 _ _ (zR (rm rfl F65 fun _ F66=>rm rfl F66 fun _ F67=>zc (w':=w63) rfl rfl F67 rfl (zP g (3*jn)) (by unfold execOp;simp only [(F67 49 rfl)];kernel_rfl) fun _ F68=>?_))
    refine zc (w':=w63) rfl rfl F68 rfl (zP g (3*jn+1)) (y_fa (off:=1) rfl (F68 50 rfl) (by kernel_rfl) rfl) fun _ F69=>?_
    refine zc (w':=w63) rfl rfl F69 rfl ((nq jn)) (zha _ _ rfl (F69 51 rfl) (M64.blk (k:=0) rfl) (vlt_n ⟨(setC c tx m jn),fl,lf,dd⟩ sq nq hlt) Tryz.underlying23 rfl) fun _ F70=>?_
    refine rm rfl F70 fun _ F71=>zrc rfl rfl F71 rfl (y_slTo _ _ rfl (F71 52 rfl) (M64.isb (k:=50) rfl) (F71 53 rfl) (j:=0) rfl (Nat.zero_le _)) ?_
    intro v72 a72 h72 F72
    have M72:=M64.partB 61 (k:=50) rfl h72.1 h72.2
    obtain ⟨A72,c72,rfl⟩:=(M72.isb (k:=61) rfl).shape
    refine rm rfl F72 fun _ F73=>wl_allocS rfl rfl F73 rfl M72 62 (t:=23) (c:=#[.slice A72 ((nl.take 0)).length c72,.slice A64 ((sl.drop 0)).length c64]) (k:=2) (m:=2) (y_litG 68 23 (s:=1) (zv:=zN) Tryz.underlying68 (by kernel_rfl) (by kernel_rfl) rfl (#[.slice A72 ((nl.take 0)).length c72,.slice A64 ((sl.drop 0)).length c64]) (by decide) (by decide) (by simp only [List.map_toArray,List.map_cons,List.map_nil,(F73 54 rfl),(F73 55 rfl)];kernel_rfl)) ?_
    intro g74 a74 w74 F74 M74
    refine zh rfl rfl F74 rfl rfl (zE Tryz.func91 rfl) #[.slice (some ⟨g74,0,none⟩) 2 2] (zca (F74 56 rfl)) ((concat2 (nl.take 0) (sl.drop 0) (.slice (some ⟨g74,0,none⟩) 2 2) (by rw [List.length_take,List.length_drop];omega) w74 (isP2 ⟨_,rfl,M74.blk (k:=62) rfl⟩ (M74.isb (k:=61) rfl) (M74.isb (k:=60) rfl)))) ?_
    rintro v75 w75 a75 h75 F75
    have M75:=M74.newO h75.2 63 h75.1
    clear M74 h75
    obtain ⟨A75,c75,rfl⟩:=(M75.isO (k:=63) rfl).shape
    refine zc (w':=w75) rfl rfl F75 rfl (.agg (#[.slice A75 (((nl.take 0)++(sl.drop 0))).length c75,zN,.bool false])) (by unfold execOp;simp only [List.map_toArray,List.map_cons,List.map_nil,(F75 57 rfl)];kernel_rfl) fun _ F76=>?_
    refine zc (w':=w75) rfl rfl F76 rfl (zP g (3*jn)) (by unfold execOp;simp only [(F76 48 rfl)];kernel_rfl) fun _ F77=>?_
    refine zt rfl rfl F77 M75 (k:=0) rfl _ _ _ rfl (F77 59 rfl) (F77 58 rfl) (#[.slice A75 (((nl.take 0)++(sl.drop 0))).length c75,zN,.bool false]) (vltA ⟨(putC (setC c tx m jn) jn ⟨((nl.take 0)++(sl.drop 0)),[],false⟩),fl,lf,dd⟩ (putN sq jn (.slice A75 (((nl.take 0)++(sl.drop 0))).length c75)) (putN nq jn (zN))) rfl (show 3*jn+3≤57 by omega) (by simp [Value.oneCell']) (put_c (setC c tx m jn) fl lf dd sq nq (.slice A75 (((nl.take 0)++(sl.drop 0))).length c75) (zN) ((nl.take 0)++(sl.drop 0)) [] false hlt) (by kernel_rfl) ?_
    intro w78 M78
    refine hK8 _ _ (zR (zc (w':=w78) rfl rfl F77 rfl (zI ((jn+1:Nat):Int)) (zsa _ _ _ _ rfl (F77 8 rfl) rfl (by omega) (by omega)) fun _ F79=>?_))
    refine rm rfl F79 fun _ F80=>?_
    have hown:∀ b,bfp (.slice A75 (((nl.take 0)++(sl.drop 0))).length c75) b→w.heap.size≤b:=fun b hb=>(M78.own 63 _ rfl rfl b (z1a hb)).resolve_right (fun e=>M78.dis 0 63 _ _ rfl rfl (by decide) rfl b (Option.some.inj e).symm (z1a hb))
    have M81:=M78.rowsPut (i:=1) (k:=63) rfl rfl (fun b _=>Nat.zero_le _) jn rfl
    have hk:¬setK c m jn<m:=by omega
    have hsC:setC c tx m (jn+1)=putC (setC c tx m jn) jn ⟨((nl.take 0)++(sl.drop 0)),[],false⟩:=by
     rw [setC_out hf hk,tornC,hnl,hsl]
    have hsK:setK c m (jn+1)=setK c m jn:=setK_out hk
    subst ek4
    exact hK4 _ ⟨(jn+1),At,qt,ct,yt,(putN sq jn (.slice A75 (((nl.take 0)++(sl.drop 0))).length c75)),(putN nq jn (zN))⟩ _ _ (by omega) ⟨rfl,⟨by omega,fun b hb=>(rowsfp_put hb).elim (fun h=>hfp b h) (fun h=>.inr (hown b h)),hT1,hTg1,hqc,by rw [hsK];exact hqm,by rw [hsK];exact hyx⟩⟩ (F80.sb) (M81.sub ⟨(by rw [hsC];rfl),(by rw [hsC];rfl),trivial⟩)
 ·obtain rfl:jn=18:=by omega
  refine zT fun _ hK82=>zc (w':=w4) rfl rfl F4 rfl (.bool false) (zna _ _ _ _ rfl (F4 8 rfl) rfl (decide_eq_false (by decide))) fun _ F83=>?_
  refine hK82 _ _ (zSk fun _ hK84=>wp_cond_false (F83 9 rfl) (wp_exit ?_))
  simp only [Exit.then,Exit.inBlock,↓reduceIte,Nat.reduceEqDiff]
  refine hK1 _ _ (zT fun _ hK85=>rm rfl F83 fun _ F86=>zh rfl rfl F86 rfl rfl (zE Tryz.func46 rfl) #[(zO g),zI (-1)] (zea (F86 61 rfl) rfl) (dfail_any g (setC c tx m 18) fl lf dd sq nq (-1) w4 (M4.blk (k:=0) rfl)) ?_)
  rintro _ w87 a87 ⟨hc87,hg87⟩ F87
  have M87:=M4.put (k:=0) rfl hg87 (show _=some (Obj.cells (vltA ⟨(setC c tx m 18),false,-1,dd⟩ sq nq) 80 (0,0)) from hc87)
  clear M4 hg87 hc87
  refine hK85 _ _ (zR (zB 3 [(0,(zO g)),(8,zI ((18:Nat):Int)),(1,.slice At qt ct),(65,(zP g 56))] [] dnil [] F87 fun _ F88=>?_))
  refine zt rfl rfl F88 M87 (k:=0) rfl _ _ _ rfl (F88 65 rfl) rfl (#[.bool false]) (vltA ⟨(setC c tx m 18),false,(-1),false⟩ sq nq) rfl (zL rfl) (by simp [Value.oneCell']) (by kernel_rfl) (by kernel_rfl) ?_
  intro w89 M89
  refine wpList_nil ?_
  exact bodyPost_end (res0 rfl) F88.defers ⟨_,rfl,sq,nq,M89.rowsV (i:=1) (k:=0) rfl rfl (by decide),hfp,M89.blk (k:=0) rfl,M89.grown⟩
def zac (V:VltN) (x:Nat→Int) (m:Nat):VltN:=⟨setC V.c x m 18,false,-1,false⟩
theorem tornC_short {c:CelN} {k:Nat} (hk:k≤c.n.length) (h:c.s.length≤1000∧c.n.length≤1000):(tornC c k).s.length≤1000∧(tornC c k).n.length≤1000:=by
 refine ⟨?_,Nat.zero_le _⟩
 show (c.n.take k++c.s.drop k).length≤1000
 rw [List.length_append,List.length_take,List.length_drop]
 omega
theorem setC_all {c:Nat→CelN} {x:Nat→Int} {m:Nat} {p:Nat→CelN→Prop} (h:∀ i,p i (c i)) (ht:∀ i k,(c i).f=true→k≤(c i).n.length→p i (tornC (c i) k)):∀ j i,p i (setC c x m j i)
 | 0,i=>h i
 | j+1,i=>by
  unfold setC
  split
  ·rename_i hf
   by_cases e:i=j
   ·subst e
    rw [zdc]
    split
    ·exact ht i _ hf (tornN_le _ _)
    ·exact ht i _ hf (Nat.zero_le _)
   ·rw [ztc _ _ e]
    exact setC_all h ht j i
  ·exact setC_all h ht j i
theorem setlV_short {V:VltN} (h:z2a V) (x:Nat→Int) (m:Nat):z2a (zac V x m):=fun i hi=>
 setC_all (p:=fun i c=>i<18→c.s.length≤1000∧c.n.length≤1000) (fun i hi=>h i hi) (fun i k _ hk hi=>tornC_short hk (h i hi)) 18 i hi
theorem settle_is (g:Nat) (V:VltN) (s n:Nat→Value) (A0:Option Addr) (m c0:Nat) (tx:Nat→Int) (hmc:m≤c0) (hv:z2a V) (w:World) (hT:RdI w A0 m tx) (hTg:¬ifp A0 m g) (hr:RowsV w g V.c s n) (hg:w.heap[g]? = some (.cells (vltA V s n) 80 (0,0))):
  Calls Tryz.prog 61 #[(zO g),.slice A0 m c0] w fun e w'=>∃ t,e=.returned t∧∃ s' n',RowsV w' g (zac V tx m).c s' n'∧(∀ b,zo 18 s' n' b→zo 18 s n b∨w.heap.size≤b)∧w'.heap[g]? = some (.cells (vltA (zac V tx m) s' n') 80 (0,0))∧w.grownBy w' (some g):=by
 obtain ⟨c,fl,lf,dd⟩:=V
 exact settle_any g c fl lf dd s n A0 m c0 tx hmc hv w hT hTg hr hg
theorem vagain_any (g:Nat) (V:VltN) (s n:Nat→Value) (hv:z2a V) (A0:Option Addr) (m c0:Nat) (tx:Nat→Int) (hmc:m≤c0) (hb:-9223372036854775808≤zhc (zac V tx m) 16∧zhc (zac V tx m) 16<9223372036854775807) (ht:anyB zr (zac V tx m) 16=true → -9223372036854775808≤cntT (zac V tx m) 16∧cntT (zac V tx m) 16<9223372036854775807) (w:World) (hT:RdI w A0 m tx) (hTg:¬ifp A0 m g) (hr:RowsV w g V.c s n) (hg:w.heap[g]? = some (.cells (vltA V s n) 80 (0,0))):
  Calls Tryz.prog 30 #[(zO g),.slice A0 m c0] w fun e w'=>∃ t,e=.returned t∧∃ s' n',RowsV w' g (ageW (zac V tx m)).c s' n'∧(∀ b,zo 18 s' n' b→zo 18 s n b∨w.heap.size≤b)∧w'.heap[g]? = some (.cells (vltA (ageW (zac V tx m)) s' n') 80 (0,0))∧w.grownBy w' (some g):=by
 obtain ⟨VS,hVS⟩:∃ x,zac V tx m=x:=⟨_,rfl⟩
 have hvs:z2a VS:=by rw [←hVS];exact setlV_short hv tx m
 rw [hVS] at hb ht ⊢
 refine zk (args:=[(zO g),.slice A0 m c0]) 11 Tryz.func30 rfl rfl rfl ?_
 intro fa F
 have M:=Mx.theG hg 0
 refine zT fun _ hK1=>zB 4 [(0,(zO g)),(6,(zO g)),(7,.slice A0 m c0)] [] dnil [] F fun _ F2=>?_
 refine zh rfl rfl F2 rfl rfl (zE Tryz.func61 rfl) #[(zO g),.slice A0 m c0] (zea (F2 6 rfl) (F2 7 rfl)) (settle_is g V s n A0 m c0 tx hmc hv w (hT.grow M.grown hTg) hTg (hr.grow M.grown) (M.blk (k:=0) rfl)) ?_
 rintro _ w3 a3 ⟨s3,n3,hr3,ht3,hc3,hg3⟩ F3
 rw [hVS] at hr3 hc3
 have M3:=M.put (k:=0) rfl hg3 hc3
 refine hK1 _ _ (zR (rm rfl F3 fun _ F4=>zh rfl rfl F4 rfl rfl (zE Tryz.func39 rfl) #[(zO g)] (zca (F4 9 rfl)) (age_any g VS s3 n3 hvs hb ht w3 hr3 (M3.blk (k:=0) rfl)) ?_))
 rintro _ w5 a5 ⟨s5,n5,hr5,ht5,hc5,hg5⟩ F5
 have M5:=M3.put (k:=0) rfl hg5 hc5
 refine wpList_nil ?_
 exact bodyPost_end (res0 rfl) F5.defers ⟨_,rfl,s5,n5,hr5,(fun b hb=>(ht5 b hb).elim (fun h=>(ht3 b h).imp id (fun h=>Nat.le_trans M.le h)) (fun h=>.inr (Nat.le_trans M3.le h))),hc5,M3.grown.trans hg5⟩
theorem find_yes (g:Nat) (V:VltN) (s n:Nat→Value) (hv:z2a V) (nm:ByteArray) (k:Nat) (hk:fst8 (zba V nm)=k) (h8:k<8) (w:World) (h:HasV w g V s n):Calls Tryz.prog 49 #[(zO g),.string nm] w fun e w'=>e=.returned (.tuple #[.agg #[zI ((2*k:Nat):Int),.func (.func 105) #[] #[]],.bool true])∧Below w.heap.size w w':=
 (find_any g V s n hv nm w h).mono fun e w' ⟨t,h1,h2,h3⟩=>⟨by
  rcases h2 with ⟨k',q1,q2,q3⟩ | ⟨q1,q2⟩
  ·rw [hk] at q2;subst q2;rw [h1,q3]
  ·omega,h3⟩
theorem find_not (g:Nat) (V:VltN) (s n:Nat→Value) (hv:z2a V) (nm:ByteArray) (hk:fst8 (zba V nm)=8) (w:World) (h:HasV w g V s n):Calls Tryz.prog 49 #[(zO g),.string nm] w fun e w'=>e=.returned (.tuple #[.agg #[zI 0,.nilFunc],.bool false])∧Below w.heap.size w w':=
 (find_any g V s n hv nm w h).mono fun e w' ⟨t,h1,h2,h3⟩=>⟨by
  rcases h2 with ⟨k',q1,q2,q3⟩ | ⟨q1,q2⟩
  ·omega
  ·rw [h1,q2],h3⟩
theorem free_yes (g:Nat) (V:VltN) (s n:Nat→Value) (hv:z2a V) (k:Nat) (hk:fst8 (fun i=>zwa V (2*i))=k) (h8:k<8) (w:World) (h:HasV w g V s n):Calls Tryz.prog 50 #[(zO g)] w fun e w'=>e=.returned (.tuple #[.agg #[zI ((2*k:Nat):Int),.func (.func 105) #[] #[]],.bool true])∧Below w.heap.size w w':=
 (free_any g V s n hv w h).mono fun e w' ⟨t,h1,h2,h3⟩=>⟨by
  rcases h2 with ⟨k',q1,q2,q3⟩ | ⟨q1,q2⟩
  ·rw [hk] at q2;subst q2;rw [h1,q3]
  ·omega,h3⟩
theorem free_not (g:Nat) (V:VltN) (s n:Nat→Value) (hv:z2a V) (hk:fst8 (fun i=>zwa V (2*i))=8) (w:World) (h:HasV w g V s n):Calls Tryz.prog 50 #[(zO g)] w fun e w'=>e=.returned (.tuple #[.agg #[zI 0,.nilFunc],.bool false])∧Below w.heap.size w w':=
 (free_any g V s n hv w h).mono fun e w' ⟨t,h1,h2,h3⟩=>⟨by
  rcases h2 with ⟨k',q1,q2,q3⟩ | ⟨q1,q2⟩
  ·omega
  ·rw [h1,q2],h3⟩
theorem gone_dead (g:Nat) (V:VltN) (s n:Nat→Value) (hv:z2a V) (nm:ByteArray) (hd:V.dd=true) (w:World) (hr:RowsV w g V.c s n) (hg:w.heap[g]? = some (.cells (vltA V s n) 80 (0,0))):
  Calls Tryz.prog 27 #[(zO g),.string nm] w fun e w'=>∃ t,e=.returned t∧t=zI 10∧∃ s' n',RowsV w' g (V).c s' n'∧(∀ b,zo 18 s' n' b→zo 18 s n b∨w.heap.size≤b)∧w'.heap[g]? = some (.cells (vltA (V) s' n') 80 (0,0))∧w.grownBy w' (some g):=by
 refine zk (args:=[(zO g),.string nm]) 23 Tryz.func27 rfl rfl rfl ?_
 intro fa F
 have M:=Mx.theG hg 0
 refine zT fun _ hK1=>rm rfl F fun _ F2=>hK1 _ _ (zSk fun _ hK3=>zT fun _ hK4=>zB 4 [(0,(zO g)),(1,.string nm),(4,zI 0),(10,(zP g 56))] [] dnil [] F2 fun _ F5=>?_)
 refine zc (w':=w) rfl rfl F5 rfl (.bool true) (zha _ _ rfl (F5 10 rfl) (M.blk (k:=0) rfl) (show _=some (Value.bool _) from by rw [←hd];rfl) Tryz.underlying4 rfl) fun _ F6=>?_
 refine hK4 _ _ (wp_cond_true (F6 11 rfl) (zT fun _ hK7=>rm rfl F6 fun _ F8=>hK7 _ _ (wp_ret ?_)))
 try simp only [Exit.then,Exit.inBlock,Exit.jump]
 exact bodyPost_ret (res1 rfl (F8.get rfl)) F8.defers ⟨_,rfl,rfl,s,n,hr.grow M.grown,fun b h=>.inl h,M.blk (k:=0) rfl,M.grown⟩
theorem gone_not (g:Nat) (V:VltN) (s n:Nat→Value) (hv:z2a V) (nm:ByteArray) (hd:V.dd=false) (hk:fst8 (zba V nm)=8) (w:World) (hr:RowsV w g V.c s n) (hg:w.heap[g]? = some (.cells (vltA V s n) 80 (0,0))):
  Calls Tryz.prog 27 #[(zO g),.string nm] w fun e w'=>∃ t,e=.returned t∧t=zI 3∧∃ s' n',RowsV w' g (V).c s' n'∧(∀ b,zo 18 s' n' b→zo 18 s n b∨w.heap.size≤b)∧w'.heap[g]? = some (.cells (vltA (V) s' n') 80 (0,0))∧w.grownBy w' (some g):=by
 refine zk (args:=[(zO g),.string nm]) 23 Tryz.func27 rfl rfl rfl ?_
 intro fa F
 have M:=Mx.theG hg 0
 refine zT fun _ hK1=>rm rfl F fun _ F2=>hK1 _ _ (zSk fun _ hK3=>zT fun _ hK4=>zB 4 [(0,(zO g)),(1,.string nm),(4,zI 0),(10,(zP g 56))] [] dnil [] F2 fun _ F5=>?_)
 refine zc (w':=w) rfl rfl F5 rfl (.bool false) (zha _ _ rfl (F5 10 rfl) (M.blk (k:=0) rfl) (show _=some (Value.bool _) from by rw [←hd];rfl) Tryz.underlying4 rfl) fun _ F6=>?_
 refine hK4 _ _ (wp_cond_false (F6 11 rfl) (wp_skip (hK3 _ _ (zT fun _ hK7=>rm rfl F6 fun _ F8=>rm rfl F8 fun _ F9=>zh rfl rfl F9 rfl rfl (zE Tryz.func49 rfl) #[(zO g),.string nm] (zea (F9 13 rfl) (F9 14 rfl)) (zda ((find_not g V s n hv nm hk w (HasV.of (M.blk (k:=0) rfl) (hr.grow M.grown))))) ?_))))
 rintro _ w10 a10 ⟨rfl,b10⟩ F10
 have M10:=M.step b10
 refine zB 3 [(0,(zO g)),(4,zI 0),(16,.agg (#[zI 0,.nilFunc])),(17,.bool false)] [] dnil [] F10 fun _ F11=>?_
 refine zq rfl rfl F11 rfl M10 1 (t:=87) (c:=#[zI 0,.nilFunc]) (by unfold execOp;kernel_rfl) ?_
 intro g12 a12 w12 F12 M12
 refine zt rfl rfl F12 M12 (k:=1) rfl _ _ _ rfl (F12 5 rfl) (F12 16 rfl) (#[zI 0,.nilFunc]) _ rfl (zL rfl) (by first | rfl | simp [Value.oneCell']) (zfa rfl) (by kernel_rfl) ?_
 intro w13 M13
 refine rm rfl F12 fun _ F14=>hK7 _ _ (zSk fun _ hK15=>zT fun _ hK16=>zAx 2 [(18,.bool false),(19,.bool true)] [] dnil [] F14 fun _ F17=>?_)
 refine hK16 _ _ (wp_cond_true (F17 19 rfl) (zT fun _ hK18=>rm rfl F17 fun _ F19=>hK18 _ _ (wp_ret ?_)))
 try simp only [Exit.then,Exit.inBlock,Exit.jump]
 exact bodyPost_ret (res1 rfl (F19.get rfl)) F19.defers ⟨_,rfl,rfl,s,n,hr.grow M13.grown,fun b h=>.inl h,M13.blk (k:=0) rfl,M13.grown⟩
theorem gone_yes (g:Nat) (V:VltN) (s n:Nat→Value) (hv:z2a V) (nm:ByteArray) (hd:V.dd=false) (k:Nat) (hk:fst8 (zba V nm)=k) (h8:k<8) (ht:anyB zr V (2*k)=true → -9223372036854775808≤cntT V (2*k)∧cntT V (2*k)<9223372036854775807) (w:World) (hr:RowsV w g V.c s n) (hg:w.heap[g]? = some (.cells (vltA V s n) 80 (0,0))):
  Calls Tryz.prog 27 #[(zO g),.string nm] w fun e w'=>∃ t,e=.returned t∧t=zI (if (sayW V (2*k) []).2=true then 0 else 10)∧∃ s' n',RowsV w' g ((sayW V (2*k) []).1).c s' n'∧(∀ b,zo 18 s' n' b→zo 18 s n b∨w.heap.size≤b)∧w'.heap[g]? = some (.cells (vltA ((sayW V (2*k) []).1) s' n') 80 (0,0))∧w.grownBy w' (some g):=by
 refine zk (args:=[(zO g),.string nm]) 23 Tryz.func27 rfl rfl rfl ?_
 intro fa F
 have M:=Mx.theG hg 0
 refine zT fun _ hK1=>rm rfl F fun _ F2=>hK1 _ _ (zSk fun _ hK3=>zT fun _ hK4=>zB 4 [(0,(zO g)),(1,.string nm),(4,zI 0),(10,(zP g 56))] [] dnil [] F2 fun _ F5=>?_)
 refine zc (w':=w) rfl rfl F5 rfl (.bool false) (zha _ _ rfl (F5 10 rfl) (M.blk (k:=0) rfl) (show _=some (Value.bool _) from by rw [←hd];rfl) Tryz.underlying4 rfl) fun _ F6=>?_
 refine hK4 _ _ (wp_cond_false (F6 11 rfl) (wp_skip (hK3 _ _ (zT fun _ hK7=>rm rfl F6 fun _ F8=>rm rfl F8 fun _ F9=>zh rfl rfl F9 rfl rfl (zE Tryz.func49 rfl) #[(zO g),.string nm] (zea (F9 13 rfl) (F9 14 rfl)) (zda ((find_yes g V s n hv nm k hk h8 w (HasV.of (M.blk (k:=0) rfl) (hr.grow M.grown))))) ?_))))
 rintro _ w10 a10 ⟨rfl,b10⟩ F10
 have M10:=M.step b10
 refine zB 3 [(0,(zO g)),(4,zI 0),(16,.agg (#[zI ((2*k:Nat):Int),.func (.func 105) #[] #[]])),(17,.bool true)] [] dnil [] F10 fun _ F11=>?_
 refine zq rfl rfl F11 rfl M10 1 (t:=87) (c:=#[zI 0,.nilFunc]) (by unfold execOp;kernel_rfl) ?_
 intro g12 a12 w12 F12 M12
 refine zt rfl rfl F12 M12 (k:=1) rfl _ _ _ rfl (F12 5 rfl) (F12 16 rfl) (#[zI ((2*k:Nat):Int),.func (.func 105) #[] #[]]) _ rfl (zL rfl) (by first | rfl | simp [Value.oneCell']) (zfa rfl) (by kernel_rfl) ?_
 intro w13 M13
 refine rm rfl F12 fun _ F14=>hK7 _ _ (zSk fun _ hK15=>zT fun _ hK16=>zAx 2 [(18,.bool true),(19,.bool false)] [] dnil [] F14 fun _ F17=>?_)
 refine hK16 _ _ (wp_cond_false (F17 19 rfl) (wp_skip (hK15 _ _ (zT fun _ hK18=>rm rfl F17 fun _ F19=>zc (w':=w13) rfl rfl F19 rfl _ (zdb _ _ rfl (F19 5 rfl) (M13.blk (k:=1) rfl) (#[zI ((2*k:Nat):Int),.func (.func 105) #[] #[]]) (zib rfl) Tryz.underlying87 rfl (by kernel_rfl)) fun _ F20=>?_))))
 refine zh rfl rfl F20 rfl rfl (zE Tryz.func51 rfl) #[(zO g),.agg (#[zI ((2*k:Nat):Int),.func (.func 105) #[] #[]]),zN] (args3 (F20 20 rfl) (F20 21 rfl) rfl) (vwrite_any g V s n hv k h8 [] (zN) (Nat.zero_le _) ht w13 (zka _) (zta _) (hr.grow M13.grown) (M13.blk (k:=0) rfl)) ?_
 rintro _ w21 a21 ⟨rfl,s21,n21,hr21,ht21,hc21,hg21⟩ F21
 have M21:=M13.put (k:=0) rfl hg21 hc21
 exact rm rfl F21 fun _ F22=>hK18 _ _ (wp_ret (bodyPost_ret (res1 rfl (F22.get rfl)) F22.defers ⟨_,rfl,rfl,s21,n21,hr21,(fun b hb=>(ht21 b hb).imp id (fun hb=>Nat.le_trans M13.le hb)),hc21,M13.grown.trans hg21⟩))
end Go.Proofs.YtmjbnmbobocpdaaGreat
