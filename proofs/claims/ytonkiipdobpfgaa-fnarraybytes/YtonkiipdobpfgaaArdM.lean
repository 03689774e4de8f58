/-
  Plain: an array read from its bytes; no Go in sight.
-/
import Derived.Test.YtonkiipdobpfgaaReadM
import Derived.Test.YtonkiipdobpfgaaArrM
namespace Go.Proofs.Ytonkiipdobpfgaa
/-- The rank that bytes tell. -/
def rkB (b : List Int) : Nat := (b.getD 0 0).toNat
def dimB (b : List Int) (i : Nat) : Int := b.getD (1 + 2 * i) 0 + 256 * b.getD (1 + 2 * i + 1) 0
def shB (b : List Int) : List Int := (List.range (rkB b)).map (dimB b)
/-- Where the numbers begin. -/
def offB (b : List Int) : Nat := 1 + 2 * rkB b
def numB (b : List Int) : Nat := (b.length - offB b) / 8
def dtB (b : List Int) : List Int := numsW (b.drop (offB b)) (numB b)
/-- Whether bytes are those of an array. -/
def ardB (b : List Int) : Bool := decide (offB b ≤ b.length) && decide (sizeV (shB b) * 8 = ((b.length - offB b : Nat) : Int)) && arrOk (shB b) (dtB b)
theorem shB_len (b : List Int) : (shB b).length = rkB b := by simp [shB]
theorem dtB_len (b : List Int) : (dtB b).length = numB b := by simp [dtB, numsW_len]
theorem ardB_short {b : List Int} (h : b.length < offB b) : ardB b = false := by
  unfold ardB; rw [decide_eq_false (by omega)]; rfl
theorem ardB_size {b : List Int} (h : sizeV (shB b) * 8 ≠ ((b.length - offB b : Nat) : Int)) : ardB b = false := by
  unfold ardB; rw [decide_eq_false h]; simp
theorem ardB_ok {b : List Int} (h1 : offB b ≤ b.length) (h2 : sizeV (shB b) * 8 = ((b.length - offB b : Nat) : Int)) : ardB b = arrOk (shB b) (dtB b) := by
  unfold ardB; rw [decide_eq_true h1, decide_eq_true h2]; rfl
theorem numB_size {b : List Int} (h2 : sizeV (shB b) * 8 = ((b.length - offB b : Nat) : Int)) : b.length - offB b = 8 * numB b := by
  unfold numB; omega
theorem rkB_le {b : List Int} (h : isB b) : rkB b ≤ 255 := by
  have := isB_getD h 0
  unfold rkB; omega
theorem dimB_bd {b : List Int} (h : isB b) (i : Nat) : 0 ≤ dimB b i ∧ dimB b i ≤ 65535 := by
  have h1 := isB_getD h (1 + 2 * i)
  have h2 := isB_getD h (1 + 2 * i + 1)
  unfold dimB; omega
theorem dimB_drop (b : List Int) (k : Nat) : (b.drop (1 + 2 * k)).getD 0 0 + (b.drop (1 + 2 * k)).getD 1 0 * 256 = dimB b k := by
  unfold dimB
  simp [List.getD_eq_getElem?_getD]
  omega
end Go.Proofs.Ytonkiipdobpfgaa
