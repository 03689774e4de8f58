/-
  Cuts of lists of numbers; copies into a list of one's own.
-/
import Derived.Test.YtmmjidhpmbcoiaaMakeM
import Derived.Test.YtmmjidhpmbcoiaaLaw3
import Derived.Test.YtmmjidhpmbcoiaaEachP
import Derived.Test.YtmmjidhpmbcoiaaAppend
import Derived.Test.YtmmjidhpmbcoiaaImplShape0
import Derived.Laws.CopyOwn
namespace Go.Proofs.Ytmmjidhpmbcoiaa
open Go.RowKit
set_option linter.unusedVariables false
set_option linter.unusedSimpArgs false
theorem ints_tail {w : World} {b off : Nat} {l : List Int} (m : Nat) (h : Ints w (some ⟨b, off, none⟩) l) : Ints w (some ⟨b, off + m, none⟩) (l.drop m) := by
  rcases h with rfl | ⟨b', off', e, hb, hc⟩
  · exact .inl (by simp)
  · cases e
    refine .inr ⟨b, off + m, rfl, hb, fun k hk => ?_⟩
    have := hc (m + k) (by simp at hk; omega)
    rw [Nat.add_assoc, this]
    simp
/-- A list from one number on, and between two, whatever its memory. -/
theorem run_from {a : Option Addr} {n c M : Nat} (hM : M ≤ n) (hc : n ≤ c) (W : World) : (Instr.slice 25 (.slice a n c) (some (.int .i64 (M : Int))) none none).run Try.prog W = .ok (.slice (if c - M = 0 then a else a.map (·.add (M * 1))) (n - M) (c - M)) W := by
  have hs : (sizeOf 3).run Try.prog W = .ok 1 W := by kernel_rfl
  have he : Try.prog.elem 25 = 3 := by kernel_rfl
  rw [run_slice_l (P := Try.prog) (w := W) 25 a n c (by rw [he]; exact Try.underlying25) .i64 (M : Int) (by omega) (by omega), he, hs]
  have e : (c = M) = (c - M = 0) := by apply propext; omega
  simp [Result.andThen, sliced, e]
/-- What a copy makes of a list: m numbers of e from place k on. -/
def paste (l : List Int) (k : Nat) (e : List Int) (m : Nat) : List Int := l.take k ++ e.take m ++ l.drop (k + m)
theorem paste_zero (l : List Int) (k : Nat) (e : List Int) : paste l k e 0 = l := by simp [paste]
theorem paste_length {l e : List Int} {k m : Nat} (h : k + m ≤ l.length) (hm : m ≤ e.length) : (paste l k e m).length = l.length := by simp [paste]; omega
theorem paste_at {l e : List Int} {k m : Nat} (h : k + m ≤ l.length) (hm : m ≤ e.length) (i : Nat) : (paste l k e m).getD i 0 = if i < k then l.getD i 0 else if i < k + m then e.getD (i - k) 0 else l.getD i 0 := by
  have lk : (l.take k).length = k := by simp; omega
  have lm : (e.take m).length = m := by simp; omega
  unfold paste
  simp only [List.getD_eq_getElem?_getD, List.append_assoc]
  by_cases h1 : i < k
  · rw [if_pos h1, List.getElem?_append_left (by omega), List.getElem?_take_of_lt h1]
  · rw [if_neg h1, List.getElem?_append_right (by omega), lk]
    by_cases h2 : i < k + m
    · rw [if_pos h2, List.getElem?_append_left (by omega), List.getElem?_take_of_lt (by omega)]
    · rw [if_neg h2, List.getElem?_append_right (by omega), lm, List.getElem?_drop]
      congr 2
      omega
theorem copy_paste {w : World} {g : Nat} {l e : List Int} {a : Option Addr} {k n : Nat} (h : OwnInts w g l) (hs : Ints w a e) (hfit : k + min e.length n ≤ l.length) (ty : TypeId) (dC c : Nat) :
    (Builtin.copy_ #[25, 25] ty #[.slice (some ⟨g, k, none⟩) n dC, .slice a e.length c]).run Try.prog w = .ok (.int .i64 ((min e.length n : Nat) : Int)) (w.setRow g (vals (paste l k e (min e.length n)))) := by
  by_cases h0 : min e.length n = 0
  · rw [h0, paste_zero, setRow_self w g (vals l) _ _ h]
    exact run_copy_none (P := Try.prog) _ 25 25 ty 3 _ _ _ _ _ _ Try.underlying25 int_size h0
  · rcases hs with rfl | ⟨b, off, rfl, hb, hc⟩
    · simp at h0
    · have hc' : ∀ j, j < (e.take (min e.length n)).length → w.cell? ⟨b, off + j, none⟩ = some (.int .i64 ((e.take (min e.length n)).getD j 0)) := by
        intro j hj
        have hj' : j < min e.length n := by simp at hj; omega
        rw [hc j (by omega)]
        simp only [List.getD_eq_getElem?_getD, List.getElem?_take_of_lt hj']
      have q := run_copy_row Try.prog w 25 25 ty 3 g k n dC ⟨b, off, none⟩ e.length c (vals l) 3 ((e.take (min e.length n)).map (Value.int .i64)) Try.underlying25 int_size h (by simp) (ints_src hc') (by simp [vals]; omega) (by intro v hv; obtain ⟨x, _, rfl⟩ := List.mem_map.1 hv; rfl)
      rw [q, List.length_map, List.length_take, Nat.min_eq_left (Nat.min_le_left _ _)]
      simp [paste, vals, goInt]
theorem OwnInts.setRow {w : World} {g : Nat} {l : List Int} (h : OwnInts w g l) (l' : List Int) : OwnInts (w.setRow g (vals l')) g l' := setRow_heap w g _ _ _ _ h
end Go.Proofs.Ytmmjidhpmbcoiaa
