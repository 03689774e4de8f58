
/-
  Walks: the specification's Rows.
-/
import Derived.Test.YtmmjidhpmbcoiaaRowsI
import Derived.Test.YtmmjidhpmbcoiaaSpecArr
import Derived.Deep.AppendLies
import Derived.Deep.RegionHeld3
namespace Go.Proofs.Ytmmjidhpmbcoiaa
open Go.RowKit
set_option linter.unusedVariables false
set_option linter.unusedSimpArgs false
theorem info_arr : (Try.prog.info? 32).map (fun i => (i.zero, i.size, i.bytes)) = some (some (.agg #[.slice none 0 0, .slice none 0 0]), 2, 48) := by kernel_rfl
/-- The tail of a shape, wherever its cut lies. -/
def TailAt (w : World) (b1 o1 c : Nat) (t : List Int) : Prop := Ints w (some ⟨b1, o1 + 1, none⟩) t
theorem ints_cut {w : World} {b off : Nat} {l : List Int} {m n : Nat} (h : Ints w (some ⟨b, off, none⟩) l) (hm : m + n ≤ l.length) : Ints w (some ⟨b, off + m, none⟩) ((l.drop m).take n) := by
  by_cases h0 : n = 0
  · subst h0; exact .inl (by simp)
  · rcases h with rfl | ⟨b', off', e, hb, hc⟩
    · simp at hm; omega
    · cases e
      refine .inr ⟨b, off + m, rfl, hb, fun k hk => ?_⟩
      have hk' : k < n := by simp at hk; omega
      have e : ((l.drop m).take n).getD k 0 = l.getD (m + k) 0 := by
        simp [List.getD, List.getElem?_take_of_lt hk']
      rw [e, Nat.add_assoc]
      exact hc (m + k) (by omega)
theorem slice_tail (W : World) (b o n c : Nat) (hc : 1 < c) : (Instr.slice 25 (.slice (some ⟨b, o, none⟩) (n + 1) c) (some (.int .i64 1)) none none).run Try.prog W = .ok (.slice (some ⟨b, o + 1, none⟩) n (c - 1)) W := by
  have hs : (sizeOf 3).run Try.prog W = .ok 1 W := by kernel_rfl
  have he : Try.prog.elem 25 = 3 := by kernel_rfl
  rw [run_slice_l (P := Try.prog) (w := W) 25 (some ⟨b, o, none⟩) (n + 1) c (by rw [he]; exact Try.underlying25) .i64 1 (by decide) (by omega), he, hs]
  simp [Result.andThen, sliced, Addr.add, show ¬ c = 1 by omega]
theorem slice_cut (W : World) (b o n e M N : Nat) (h : M + N ≤ e) (hm : M < e) : (Instr.slice 25 (.slice (some ⟨b, o, none⟩) n e) (some (.int .i64 (M : Int))) (some (.int .i64 ((M : Int) + (N : Int)))) none).run Try.prog W = .ok (.slice (some ⟨b, o + M, none⟩) N (e - M)) W := by
  have hs : (sizeOf 3).run Try.prog W = .ok 1 W := by kernel_rfl
  have he : Try.prog.elem 25 = 3 := by kernel_rfl
  rw [run_slice_lh (P := Try.prog) (w := W) 25 (some ⟨b, o, none⟩) n e (by rw [he]; exact Try.underlying25) .i64 .i64 (M : Int) ((M : Int) + (N : Int)) (by omega) (by omega) (by omega), he, hs]
  have e1 : ((M : Int) + (N : Int)).toNat = M + N := by omega
  simp [Result.andThen, sliced, Addr.add, e1, show ¬ e = M by omega]

theorem wrapI {a : Int} (h0 : 0 ≤ a) (h1 : a ≤ 1099511627776) : IntKind.i64.wrap a = a := by rw [IntKind.wrap_i64]; omega
theorem boxBelow {w w' : World} {g B : Nat} {x y : Value} {t : TypeId} (h : Box w g x y t) (hb : Below B w w') (hg : g < B) : Box w' g x y t := by
  unfold Box at *; rw [hb.block g hg]; exact h
theorem sizeOfBelow {w w' : World} (h : Below w.heap.size w w') : w.heap.size ≤ w'.heap.size := h.size
end Go.Proofs.Ytmmjidhpmbcoiaa
