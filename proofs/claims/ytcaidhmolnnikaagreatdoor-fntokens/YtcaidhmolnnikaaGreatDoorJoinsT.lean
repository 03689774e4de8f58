/-
  strings.Join, out of the library's contract (as in RowL, by itself).
-/
import Derived.Test.YtcaidhmolnnikaaGreatDoorTokI
import Derived.Test.YtcaidhmolnnikaaGreatDoorLaysJ
namespace Go.Proofs.YtcaidhmolnnikaaGreatDoor
open Go.RowKit
set_option linter.unusedVariables false
set_option linter.unusedSimpArgs false
theorem bytes_bne (V : ByteArray) : (V != V) = false := by
  show (!(V == V)) = false
  have h : (V == V) = true := by
    cases V with | mk d => show (d == d) = true; exact beq_self_eq_true d
  rw [h]; rfl
theorem lens_le (k : Nat) : ∀ xs : List ByteArray, (∀ x ∈ xs, x.size ≤ k) → Lib.lens (xs.map (·.data.toList)) ≤ k * xs.length
  | [], _ => by simp [Lib.lens]
  | x :: r, h => by
    have h1 := h x (by simp)
    have h2 := lens_le k r fun y hy => h y (by simp [hy])
    have h3 : x.data.toList.length = x.size := (Lib.size_eq x).symm
    simp only [Lib.lens, List.map_cons, List.sum_cons, List.length_cons, List.map_map] at h2 ⊢
    rw [h3, Nat.mul_succ]
    omega
theorem jn_len (xs : List ByteArray) (hn : xs.length ≤ 1048576) (h : ∀ x ∈ xs, x.size ≤ 44) : (Lib.join (xs.map (·.data.toList)) [32]).length ≤ 140737488355328 := by
  cases xs with
  | nil => simp [Lib.join_nil]
  | cons x r =>
    have h1 := lens_le 44 (x :: r) h
    rw [List.map_cons] at h1 ⊢
    rw [Lib.join_length, List.length_map]
    simp only [List.length_cons, List.length_nil] at hn h1 ⊢
    omega
theorem joins : Joins := fun bk c xs w hc hb hl hn hs => by
  have h := Any.strings_Join Tryz.laysJoin Tryz.extraJoin bk 0 c xs ⟨#[32]⟩ w (fun j x hx => by rw [Nat.zero_add]; exact hc j x hx) hb (by omega) hl (jn_len xs hn hs)
  exact h
end Go.Proofs.YtcaidhmolnnikaaGreatDoor
