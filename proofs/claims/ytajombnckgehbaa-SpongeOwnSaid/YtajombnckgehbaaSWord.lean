/- sponge: words turned; blocks known whole. -/
import Derived.Test.YtajombnckgehbaaGen
namespace Go.Proofs.Ytajombnckgehbaa
set_option linter.unusedVariables false
set_option linter.unusedSimpArgs false
open Go.ChangeShapes Go.WideShapes Go.ChangeAt Go.RowKit

/-- A block that is known whole. -/
def Blk (w : World) (b : Nat) (t : TypeId) (c : Array Value) : Prop := w.heap[b]? = some (.cells c t (0, 0))
section
variable {w w' : World} {b : Nat} {t : TypeId} {c : Array Value}
theorem Blk.lt (h : Blk w b t c) : b < w.heap.size := heap_lt h
theorem Blk.cell (h : Blk w b t c) {k : Nat} {v : Value} (hk : c[k]? = some v) : w.cell? ⟨b, k, none⟩ = some v := by
  unfold Blk at h
  simp [World.cell?, h, hk]
theorem Blk.frozen (h : Blk w b t c) (k : Nat) : w.frozen? ⟨b, k, none⟩ = false := by
  unfold Blk at h
  simp [World.frozen?, h]
theorem Blk.below {B : Nat} (h : Blk w b t c) (hb : Below B w w') (hl : b < B) : Blk w' b t c := (hb.block b hl).trans h
theorem Blk.step (h : Blk w b t c) (hb : Below w.heap.size w w') : Blk w' b t c := h.below hb h.lt
theorem Blk.grown {row : Option Nat} (h : Blk w b t c) (hg : w.grownBy w' row) (hn : some b ≠ row) : Blk w' b t c := (hg.block b h.lt hn).trans h
theorem Blk.alloc (h : Blk w b t c) (o : Obj) : Blk (w.alloc o) b t c := (Below.heap_alloc w o b h.lt).trans h
theorem Blk.new (w : World) (t : TypeId) (c : Array Value) : Blk (w.alloc (.cells c t)) w.heap.size t c := heap_alloc_new _ _
theorem Blk.drew (h : Blk w b t c) : Blk w.drew b t c := h
theorem Blk.set (h : Blk w b t c) (k : Nat) (v : Value) {c' : Array Value} (hc : c.setIfInBounds k v = c') : Blk (w.setCell ⟨b, k, none⟩ v) b t c' := by
  subst hc
  unfold Blk at *
  have hl := heap_lt h
  have hg : w.heap[b] = .cells c t (0, 0) := by simpa [hl] using h
  simp [World.setCell, hl, Array.getElem_modify, hg]
end
def orW (x y : Int) : Int := bits .or .u32 x y
def xorW (x y : Int) : Int := bits .xor .u32 x y
def addW (x y : Int) : Int := (x + y) % 4294967296
def rotW (m x : Int) : Int := bits .or .u32 (x * m % 4294967296) (x / (4294967296 / m))
theorem w_bd (op : BinOp) (a b : Int) : 0 ≤ bits op .u32 a b ∧ bits op .u32 a b < 4294967296 := by
  have := wrap_within .u32 (bits op .u32 a b)
  unfold bits
  rw [IntKind.wrap_u32]
  omega
theorem xorW_bd (x y : Int) : 0 ≤ xorW x y ∧ xorW x y < 4294967296 := w_bd _ _ _
theorem rotW_bd (m x : Int) : 0 ≤ rotW m x ∧ rotW m x < 4294967296 := w_bd _ _ _
theorem addW_bd (x y : Int) : 0 ≤ addW x y ∧ addW x y < 4294967296 := by unfold addW; omega
theorem rot16 (x : Int) (h0 : 0 ≤ x) (h1 : x < 4294967296) (w : World) :
    Calls Try.prog 46 #[.int .u32 x, .int .i64 16] w fun e w' => e = .returned (.int .u32 (rotW 65536 x)) ∧ w' = w := by
  have hb : bits BinOp.and IntKind.u64 16 31 = 16 := by decide
  go_enter Try.func46, Try.ntmps46
  go_wp2
  go_ret
  exact ⟨rfl, rfl⟩
theorem turn16 (x : Int) (h0 : 0 ≤ x) (h1 : x < 4294967296) (w : World) :
    Calls Try.prog 47 #[.int .u32 x, .int .i64 16] w fun e w' => e = .returned (.int .u32 (rotW 65536 x)) ∧ w' = w := by
  have hb : bits BinOp.and IntKind.u64 16 31 = 16 := by decide
  go_enter Try.func47, Try.ntmps47
  go_wp2
  go_ret
  exact ⟨rfl, rfl⟩
theorem rot12 (x : Int) (h0 : 0 ≤ x) (h1 : x < 4294967296) (w : World) :
    Calls Try.prog 46 #[.int .u32 x, .int .i64 12] w fun e w' => e = .returned (.int .u32 (rotW 4096 x)) ∧ w' = w := by
  have hb : bits BinOp.and IntKind.u64 12 31 = 12 := by decide
  go_enter Try.func46, Try.ntmps46
  go_wp2
  go_ret
  exact ⟨rfl, rfl⟩
theorem turn12 (x : Int) (h0 : 0 ≤ x) (h1 : x < 4294967296) (w : World) :
    Calls Try.prog 47 #[.int .u32 x, .int .i64 12] w fun e w' => e = .returned (.int .u32 (rotW 4096 x)) ∧ w' = w := by
  have hb : bits BinOp.and IntKind.u64 12 31 = 12 := by decide
  go_enter Try.func47, Try.ntmps47
  go_wp2
  go_ret
  exact ⟨rfl, rfl⟩
theorem rot8 (x : Int) (h0 : 0 ≤ x) (h1 : x < 4294967296) (w : World) :
    Calls Try.prog 46 #[.int .u32 x, .int .i64 8] w fun e w' => e = .returned (.int .u32 (rotW 256 x)) ∧ w' = w := by
  have hb : bits BinOp.and IntKind.u64 8 31 = 8 := by decide
  go_enter Try.func46, Try.ntmps46
  go_wp2
  go_ret
  exact ⟨rfl, rfl⟩
theorem turn8 (x : Int) (h0 : 0 ≤ x) (h1 : x < 4294967296) (w : World) :
    Calls Try.prog 47 #[.int .u32 x, .int .i64 8] w fun e w' => e = .returned (.int .u32 (rotW 256 x)) ∧ w' = w := by
  have hb : bits BinOp.and IntKind.u64 8 31 = 8 := by decide
  go_enter Try.func47, Try.ntmps47
  go_wp2
  go_ret
  exact ⟨rfl, rfl⟩
theorem rot7 (x : Int) (h0 : 0 ≤ x) (h1 : x < 4294967296) (w : World) :
    Calls Try.prog 46 #[.int .u32 x, .int .i64 7] w fun e w' => e = .returned (.int .u32 (rotW 128 x)) ∧ w' = w := by
  have hb : bits BinOp.and IntKind.u64 7 31 = 7 := by decide
  go_enter Try.func46, Try.ntmps46
  go_wp2
  go_ret
  exact ⟨rfl, rfl⟩
theorem turn7 (x : Int) (h0 : 0 ≤ x) (h1 : x < 4294967296) (w : World) :
    Calls Try.prog 47 #[.int .u32 x, .int .i64 7] w fun e w' => e = .returned (.int .u32 (rotW 128 x)) ∧ w' = w := by
  have hb : bits BinOp.and IntKind.u64 7 31 = 7 := by decide
  go_enter Try.func47, Try.ntmps47
  go_wp2
  go_ret
  exact ⟨rfl, rfl⟩
attribute [irreducible] rotW xorW addW
end Go.Proofs.Ytajombnckgehbaa
