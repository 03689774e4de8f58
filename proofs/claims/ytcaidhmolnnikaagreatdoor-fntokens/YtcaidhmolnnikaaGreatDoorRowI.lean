
/-
  Walks: the program's padded, lineText, ShowRow, over strings.Repeat's and strings.Join's contracts.
-/
import Derived.Test.YtcaidhmolnnikaaGreatDoorRowS
import Derived.Test.YtcaidhmolnnikaaGreatDoorDigI
import Derived.Lib.Join
namespace Go.Proofs.YtcaidhmolnnikaaGreatDoor
open Go.RowKit
set_option linter.unusedVariables false
set_option linter.unusedSimpArgs false
/-- Texts joined, one blank between each two. -/
def jn (xs : List ByteArray) : ByteArray := ⟨(Lib.join (xs.map (·.data.toList)) [32]).toArray⟩
theorem jn_snoc (xs : List ByteArray) (x : ByteArray) : jn (xs ++ [x]) = (if xs = [] then jn xs else jn xs ++ ⟨#[32]⟩) ++ x := by
  apply ByteArray.ext
  cases xs with
  | nil => simp [jn, Lib.join_nil, Lib.join_one, ByteArray.data_append]
  | cons y r =>
    rw [if_neg (by simp)]
    unfold jn
    simp only [List.cons_append, List.map_cons, List.map_append, List.map_nil, Lib.join_cons, ByteArray.data_append]
    apply Array.ext'
    simp [Lib.joinTail]
/-- A text filled up with blanks ahead. -/
def padB (n : Nat) (s : ByteArray) : ByteArray := ⟨(List.replicate (n - s.size) (32 : UInt8)).toArray⟩ ++ s
theorem padB_zero (s : ByteArray) : padB 0 s = s := by
  apply ByteArray.ext
  simp [padB, ByteArray.data_append]
theorem rep_size (c : Nat) : (⟨(List.replicate c (32 : UInt8)).toArray⟩ : ByteArray).size = c := by
  show ((List.replicate c (32 : UInt8)).toArray).size = c
  rw [List.size_toArray, List.length_replicate]
theorem padB_size (n : Nat) (s : ByteArray) : (padB n s).size = (n - s.size) + s.size := by
  unfold padB
  rw [str_len, rep_size]
def Joins : Prop := ∀ (bk c : Nat) (xs : List ByteArray) (w : World), (∀ j x, xs[j]? = some x → w.cell? ⟨bk, j, none⟩ = some (.string x)) → bk < w.heap.size → xs.length ≤ c → xs.length ≤ 1048576 → (∀ x ∈ xs, x.size ≤ 44) → Calls Tryz.prog 18 #[.slice (some ⟨bk, 0, none⟩) xs.length c, .string ⟨#[32]⟩] w fun e w' => e = .returned (.string (jn xs)) ∧ Below w.heap.size w w'
/-- The first k of n texts, told by f, lie in block o. -/
def StrK (w0 : World) (o n k : Nat) (W : World) (f : Nat → ByteArray) : Prop :=
  ∃ A : Array Value, W.heap[o]? = some (.cells A 9 (0, 0)) ∧ A.size = n ∧ (∀ i, i < k → A[i]? = some (.string (f i))) ∧ Below o w0 W
theorem StrK.keep {w0 W W' : World} {o n k : Nat} {f : Nat → ByteArray} (h : StrK w0 o n k W f) (hb : Below W.heap.size W W') : StrK w0 o n k W' f := by
  obtain ⟨A, h1, h2, h3, h4⟩ := h
  exact ⟨A, by rw [hb.block o (lt_of_heapA h1)]; exact h1, h2, h3, h4.trans (hb.mono (Nat.le_of_lt (lt_of_heapA h1)))⟩
theorem StrK.put {w0 W : World} {o n k : Nat} {f : Nat → ByteArray} (h : StrK w0 o n k W f) (hk : k < n) : StrK w0 o n (k + 1) (W.setCell ⟨o, k, none⟩ (.string (f k))) f ∧ (∃ u, W.cell? ⟨o, k, none⟩ = some u) ∧ W.frozen? ⟨o, k, none⟩ = false := by
  obtain ⟨A, h1, h2, h3, h4⟩ := h
  refine ⟨⟨_, heap_setCell_same W o k _ _ _ h1, by simpa using h2, fun i hi => ?_, below_setCell h4 (Nat.le_refl _) _ _⟩, ⟨A[k]'(by omega), cell_at h1 (Array.getElem?_eq_getElem (by omega))⟩, free_at h1 _⟩
  rw [Array.getElem?_setIfInBounds]
  by_cases e : i = k
  · subst e; rw [if_pos rfl, if_pos (by omega)]
  · rw [if_neg (by omega)]; exact h3 i (by omega)
theorem info_str : (Tryz.prog.info? 9).map (fun i => (i.zero, i.size, i.bytes)) = some (some (.string ⟨#[]⟩), 1, 16) := by kernel_rfl
theorem make_strs (n : Nat) (hn : n ≤ 1048576) (w : World) (f : Nat → ByteArray) : ∃ w', (Instr.makeSlice 39 (.int .i64 (n : Int)) (.int .i64 (n : Int))).run Tryz.prog w = .ok (.slice (some ⟨w.heap.size, 0, none⟩) n n) w' ∧ StrK w w.heap.size n 0 w' f := by
  have hi := info_str
  cases hq : Tryz.prog.info? 9 with
  | none => rw [hq] at hi; cases hi
  | some i =>
    rw [hq] at hi
    simp at hi
    obtain ⟨z1, z2, z3⟩ := hi
    have q := run_make (P := Tryz.prog) w 39 9 i _ Tryz.underlying39 hq z1 .i64 .i64 (n : Int) (n : Int) (by omega) (by omega) (by rw [z3]; omega) (by omega)
    rw [z2, Int.toNat_natCast] at q
    exact ⟨_, q, _, heap_alloc_new w _, by rw [size_madeCells, Nat.mul_one], fun i hi => absurd hi (by omega), bAlloc (Below.refl _ _) _⟩
/-- The texts of a line of numbers, each filled up. -/
def wds (m : Nat) (l : List Int) : List ByteArray := (List.range l.length).map fun i => padB m (digB (l.getD i 0))
end Go.Proofs.YtcaidhmolnnikaaGreatDoor
