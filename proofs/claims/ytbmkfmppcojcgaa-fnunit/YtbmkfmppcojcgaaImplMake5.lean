
/-
  Walks: the program's chosenRows, for whatever closure.
-/
import Derived.Test.YtbmkfmppcojcgaaMakeP
import Derived.Test.YtbmkfmppcojcgaaImplMake1
import Derived.Shelf.Abstract
namespace Go.Proofs.Ytbmkfmppcojcgaa
open Go.RowKit
set_option linter.unusedVariables false
set_option linter.unusedSimpArgs false
theorem run_between {a : Option Addr} {n c M N : Nat} (hM : M ≤ N) (hc : N ≤ c) (W : World) : (Instr.slice 24 (.slice a n c) (some (.int .i64 (M : Int))) (some (.int .i64 (N : Int))) none).run Try.prog W = .ok (.slice (if c - M = 0 then a else a.map (·.add (M * 1))) (N - M) (c - M)) W := by
  have hs : (sizeOf 3).run Try.prog W = .ok 1 W := by kernel_rfl
  have he : Try.prog.elem 24 = 3 := by kernel_rfl
  rw [run_slice_lh (P := Try.prog) (w := W) 24 a n c (by rw [he]; exact Try.underlying24) .i64 .i64 (M : Int) (N : Int) (by omega) (by omega) (by omega), he, hs]
  have e : (c = M) = (c - M = 0) := by apply propext; omega
  simp [Result.andThen, sliced, e]
theorem ints_cell5 {w : World} {b o : Nat} {l : List Int} {k : Nat} (h : Ints w (some ⟨b, o, none⟩) l) (hk : k < l.length) : w.cell? ⟨b, o + k, none⟩ = some (.int .i64 (l.getD k 0)) := by
  obtain ⟨b', o', e, hb, hc⟩ := h.at hk
  cases e
  exact hc
theorem ints_from5 {w : World} {b : Option Addr} {d : List Int} {e : Nat} (C : Nat) (h : Ints w b d) (he : d.length ≤ e) : Ints w (if e - C = 0 then b else b.map (·.add (C * 1))) (d.drop C) := by
  by_cases h0 : d.length ≤ C
  · exact .inl (List.drop_of_length_le h0)
  · rw [if_neg (by omega)]
    obtain ⟨b', o', rfl, _, _⟩ := h.at (k := 0) (by omega)
    have := ints_tail C h
    by_cases hC0 : C = 0 <;> simpa [Addr.add, hC0] using this
theorem OwnInts.keep5 {w w' : World} {g : Nat} {l : List Int} (h : OwnInts w g l) (hb : Below w.heap.size w w') : OwnInts w' g l := by
  unfold OwnInts
  rw [hb.block _ (lt_of_heapA h)]
  exact h
theorem measure5 {k n : Nat} (h : wrap64 ((k : Int) + 1) = (k : Int) + 1) (hk : k < n) : n - (wrap64 ((k : Int) + 1)).toNat < n - ((k : Int)).toNat := by
  rw [h]; omega
theorem wrap5 {a : Int} (h1 : -1000000000000000 ≤ a) (h2 : a ≤ 1000000000000000) : wrap64 a = a := by unfold wrap64; omega
/-- A row is copied to its place. -/
theorem copy_row5 {w : World} {g m A B C L e : Nat} {l d : List Int} {b : Option Addr} (ho : OwnInts w g l) (hl : l.length = m) (hi : Ints w b d) (he : d.length ≤ e) (hA : A + L = B) (hB : B ≤ m) (hC : C + L ≤ d.length) (ty : TypeId) :
    (Builtin.copy_ #[24, 24] ty #[.slice (if m - A = 0 then some ⟨g, 0, none⟩ else (some (⟨g, 0, none⟩ : Addr)).map (·.add (A * 1))) (B - A) (m - A), .slice (if e - C = 0 then b else b.map (·.add (C * 1))) (d.length - C) (e - C)]).run Try.prog w = .ok (.int .i64 (L : Int)) (w.setRow g (vals (paste l A (d.drop C) L))) := by
  have hi' := ints_from5 (e := e) C hi he
  have hL : B - A = L := by omega
  have hd : (d.drop C).length = d.length - C := by simp
  rw [hL]
  by_cases h0 : m - A = 0
  · obtain rfl : L = 0 := by omega
    rw [if_pos h0, paste_zero, setRow_self w g (vals l) _ _ ho]
    exact run_copy_none (P := Try.prog) _ 24 24 ty 3 _ _ _ _ _ _ Try.underlying24 int_size (Nat.min_zero _)
  · rw [if_neg h0]
    have q := copy_paste (k := A) (n := L) (l := l) ho hi' (by rw [hd]; omega) ty (m - A) (e - C)
    rw [hd, Nat.min_eq_right (by omega)] at q
    have e1 : (some (⟨g, 0, none⟩ : Addr)).map (·.add (A * 1)) = some ⟨g, A, none⟩ := by
      by_cases hA0 : A = 0 <;> simp [Addr.add, hA0]
    rw [e1]
    exact q
end Go.Proofs.Ytbmkfmppcojcgaa
