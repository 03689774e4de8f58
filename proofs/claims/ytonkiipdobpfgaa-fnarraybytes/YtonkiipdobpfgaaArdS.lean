/-
  Walks: the specification's ArrayRead, where the bytes end ahead of the numbers.
-/
import Derived.Test.YtonkiipdobpfgaaArdI2
import Derived.Test.YtonkiipdobpfgaaSpecArr
import Derived.Test.YtonkiipdobpfgaaOrB
namespace Go.Proofs.Ytonkiipdobpfgaa
open Go.RowKit
set_option linter.unusedVariables false
set_option linter.unusedSimpArgs false
theorem ardB_rk {b : List Int} (h : 3 < rkB b) : ardB b = false := by
  have e : sizeV (shB b) = -1 := by unfold sizeV; rw [if_pos (by rw [shB_len]; exact h)]
  exact ardB_size (by rw [e]; omega)
theorem blocks2 (w : World) (A B : Obj) : ((w.alloc A).alloc B).heap[w.heap.size]? = some A ∧ ((w.alloc A).alloc B).heap[w.heap.size + 1]? = some B := ⟨heap_alloc2_old w _ _, heap_alloc2_new w _ _⟩
set_option maxRecDepth 20000 in
set_option maxHeartbeats 8000000 in
theorem arrayRead_short {b : List Int} {a : Option Addr} {n c : Nat} {w : World} (h : Bys w a b) (hb : isB b) (hn : b.length = n) (hm : n ≤ 1048576) (hq : n = 0 ∨ 3 < rkB b ∨ n < offB b) :
    Calls Try.prog 15 #[.slice a n c] w fun r w' => ArdPost w b r w' := by
  have NO : Hid (ardB b = false) := by
    rcases hq with h0 | h0 | h0
    · exact ardB_short (by unfold offB; omega)
    · exact ardB_rk h0
    · exact ardB_short (by omega)
  have q1 := blocks2 w (.cells #[.slice none 0 0, .slice none 0 0] 29) (.cells #[.slice none 0 0, .slice none 0 0] 29)
  have X1 : Hid (Box ((w.alloc (.cells #[.slice none 0 0, .slice none 0 0] 29)).alloc (.cells #[.slice none 0 0, .slice none 0 0] 29)) w.heap.size (.slice none 0 0) (.slice none 0 0) 29) := q1.1
  have Y1 : Hid (Box ((w.alloc (.cells #[.slice none 0 0, .slice none 0 0] 29)).alloc (.cells #[.slice none 0 0, .slice none 0 0] 29)) (w.heap.size + 1) (.slice none 0 0) (.slice none 0 0) 29) := q1.2
  have B1 : Hid (Below w.heap.size w ((w.alloc (.cells #[.slice none 0 0, .slice none 0 0] 29)).alloc (.cells #[.slice none 0 0, .slice none 0 0] 29))) := bAlloc (bAlloc (Below.refl _ _) _) _
  clear q1
  by_cases h0 : n = 0
  · subst h0
    clear h hb hn hq
    go_enter Try.func15, Try.ntmps15
    go_wp2_with fail
    refine bodyPost_ret (results_arr_tmp Try.results15 _ _ w.heap.size _ _ rfl X1.out) rfl (ardPost_no NO.out ?_)
    exact ⟨_, rfl, arr_zero _ _ _, B1.out⟩
  · obtain ⟨g, off, rfl, hg, c0⟩ := h.at (k := 0) (by omega)
    rw [Nat.add_zero] at c0
    have b0 := isB_getD hb 0
    obtain ⟨q, hqe⟩ : ∃ q, q = rkB b := ⟨_, rfl⟩
    have en : b.getD 0 0 = (q : Int) := by unfold rkB at hqe; omega
    have q255 : q ≤ 255 := by omega
    have EO : offB b = 1 + 2 * q := by rw [hqe]; rfl
    rw [EO, ← hqe] at hq
    rw [en] at c0
    have i0 : ¬ ((n : Int) = 0) := by omega
    have i1 : ((n : Int) == 0) = false := by simpa using i0
    have k0 : 0 < n := by omega
    have wn : IntKind.i64.wrap (q : Int) = (q : Int) := by rw [IntKind.wrap_i64]; omega
    have c1 : ((w.alloc (.cells #[.slice none 0 0, .slice none 0 0] 29)).alloc (.cells #[.slice none 0 0, .slice none 0 0] 29)).cell? ⟨g, off, none⟩ = some (.int .u8 (q : Int)) := (B1.out.cell (p := ⟨g, off, none⟩) hg).trans c0
    clear h hb hn en c0 hg hqe EO b0
    by_cases h3 : (3 : Int) < (q : Int)
    · clear hq
      go_enter Try.func15, Try.ntmps15
      go_wp2_with fail
      refine bodyPost_ret (results_arr_tmp Try.results15 _ _ w.heap.size _ _ rfl X1.out) rfl (ardPost_no NO.out ?_)
      exact ⟨_, rfl, arr_zero _ _ _, B1.out⟩
    · have lt9 : (n : Int) - 1 < 2 * (q : Int) := by omega
      clear hq
      go_enter Try.func15, Try.ntmps15
      go_wp2_with fail
      refine bodyPost_ret (results_arr_tmp Try.results15 _ _ w.heap.size _ _ rfl X1.out) rfl (ardPost_no NO.out ?_)
      exact ⟨_, rfl, arr_zero _ _ _, B1.out⟩
end Go.Proofs.Ytonkiipdobpfgaa
