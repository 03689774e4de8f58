/-
  Walks: slices.Grow of nothing, and slices.Concat of two lists.
-/
import Derived.Test.YtbmkfmppcojcgaaGreatOutB
import Derived.Test.YtbmkfmppcojcgaaGreatCutI
import Derived.Lib.AppendZeros
namespace Go.Proofs.YtbmkfmppcojcgaaGreat
open Go.RowKit
set_option linter.unusedVariables false
set_option linter.unusedSimpArgs false
theorem run_zeros (w : World) (ty : TypeId) {n : Nat} (h0 : 0 < n) (hn : n ≤ 1048576) :
    ∃ cap w', (Builtin.append_ #[24, 3] ty #[.slice none 0 0, .int .i64 (n : Int)]).run Tryz.prog w = .ok (.slice (some ⟨w.heap.size, 0, none⟩) n cap) w' ∧ NewInts w.heap.size w' (.slice (some ⟨w.heap.size, 0, none⟩) 0 cap) [] ∧ Below w.heap.size w w' := by
  obtain ⟨i, hq, z1, z2, z3⟩ : ∃ i, Tryz.prog.info? 3 = some i ∧ i.zero = some (.int .i64 0) ∧ i.size = 1 ∧ i.bytes = 8 := by
    have hi := info_int
    cases hq : Tryz.prog.info? 3 with
    | none => rw [hq] at hi; cases hi
    | some i => rw [hq] at hi; simp at hi; exact ⟨i, rfl, hi.1, hi.2.1, hi.2.2⟩
  refine ⟨_, _, Lib.run_append_nil_zeros w 24 3 ty 3 i (.int .i64 0) .i64 .i64 Tryz.underlying24 Tryz.underlying3 hq z1 n h0 (by omega) (by omega) (by rw [z3]; omega), ?_, bAlloc ((Below.refl w.heap.size w).drew) _⟩
  have hge := grownCap_ge w n 0 3
  have hcm := grownCap_le_maxLen w n 0 3 (by unfold maxLen; omega)
  refine ⟨rfl, .inr ⟨w.heap.size, _, _, rfl, Nat.le_refl _, heap_alloc_new w.drew _, Nat.zero_le _, hcm, ?_, by simp⟩⟩
  simp only [Array.size_append, size_zeroCells]
  rw [show (Value.int .i64 0).cells.size = 1 from rfl]
  omega
set_option maxRecDepth 20000 in
set_option maxHeartbeats 2000000 in
/-- slices.Grow of no list. -/
theorem grow0_impl {n : Nat} (w : World) (hn : n ≤ 1048576) :
    Calls Tryz.prog 49 #[.slice none 0 0, .int .i64 (n : Int)] w fun r w' => ∃ v, r = .returned v ∧ NewInts w.heap.size w' v [] ∧ Below w.heap.size w w' := by
  by_cases h0 : n = 0
  · subst h0
    go_enter Tryz.func49, Tryz.ntmps49
    go_wp2
    go_ret
    exact ⟨_, rfl, NewInts.nil _ _, Below.refl _ _⟩
  · obtain ⟨cap, w2, r2, n2, b2⟩ := run_zeros w 24 (n := n) (by omega) hn
    have R2 : Hid (_ = _) := r2
    have N2 : Hid (NewInts w.heap.size w2 (.slice (some ⟨w.heap.size, 0, none⟩) 0 cap) []) := n2
    have B2 : Hid (Below w.heap.size w w2) := b2
    have hp : (0 : Int) < (n : Int) := by omega
    clear r2 n2 b2 h0
    go_enter Tryz.func49, Tryz.ntmps49
    go_wp2_with (at_builtin; refine wpList_append_ty rfl _ _ 24 3 rfl _ _ _ rfl rfl R2.out ?_)
    go_ret
    exact ⟨_, rfl, N2.out, B2.out⟩
set_option maxRecDepth 20000 in
set_option maxHeartbeats 4000000 in
/-- slices.Concat of two lists: a list of one's own. -/
theorem concat_impl {l m : List Int} {a b : Option Addr} {c c' o : Nat} {w : World} {T : TypeId} (ha : Ints w a l) (hb : Ints w b m) (hl : l.length + m.length ≤ 1048576) (ho : w.heap[o]? = some (.cells #[.slice a l.length c, .slice b m.length c'] T (0, 0))) :
    Calls Tryz.prog 21 #[.slice (some ⟨o, 0, none⟩) 2 2] w fun r w' => ∃ a' k', r = .returned (.slice a' (l ++ m).length k') ∧ NewInts w.heap.size w' (.slice a' (l ++ m).length k') (l ++ m) ∧ Below w.heap.size w w' := by
  have c0 : w.cell? ⟨o, 0, none⟩ = some (.slice a l.length c) := cell_at ho rfl
  have c1 : w.cell? ⟨o, 1, none⟩ = some (.slice b m.length c') := cell_at ho rfl
  have hlt : o < w.heap.size := lt_of_heapA ho
  have CK : Hid (∀ W, Below w.heap.size w W → W.cell? ⟨o, 0, none⟩ = some (.slice a l.length c) ∧ W.cell? ⟨o, 1, none⟩ = some (.slice b m.length c')) := fun W h => ⟨(h.cell (p := ⟨o, 0, none⟩) hlt).trans c0, (h.cell (p := ⟨o, 1, none⟩) hlt).trans c1⟩
  have HA : Hid (∀ W, Below w.heap.size w W → Ints W a l) := fun W h => ha.keep h
  have HB : Hid (∀ W, Below w.heap.size w W → Ints W b m) := fun W h => hb.keep h
  have hG : Hid (∀ W, Calls Tryz.prog 49 #[.slice none 0 0, .int .i64 ((l.length : Int) + (m.length : Int))] W fun r w' => ∃ v, r = .returned v ∧ NewInts W.heap.size w' v [] ∧ Below W.heap.size W w') := fun W => by
    have := grow0_impl (n := l.length + m.length) W hl
    rw [Int.natCast_add] at this
    exact this
  have hw1 : IntKind.i64.wrap ((l.length : Int) + (m.length : Int)) = (l.length : Int) + (m.length : Int) := by rw [IntKind.wrap_i64]; omega
  clear ha hb ho
  go_enter Tryz.func21, Tryz.ntmps21
  go_wp2
  go_loopw [3, 11] (fun z i w' => w' = w ∧ ((i = .int .i64 0 ∧ z = .int .i64 0) ∨ (i = .int .i64 1 ∧ z = .int .i64 (l.length : Int)) ∨ (i = .int .i64 2 ∧ z = .int .i64 ((l.length : Int) + (m.length : Int))))) (fun _ i _ => 2 - (intOf i).toNat)
  case atStart => exact ⟨rfl, .inl ⟨rfl, rfl⟩⟩
  case round =>
    obtain ⟨hw, h⟩ := hrel
    have hw2 := hw.symm
    clear hw
    subst hw2
    rcases h with ⟨rfl, rfl⟩ | ⟨rfl, rfl⟩ | ⟨rfl, rfl⟩
    · go_wp2
      go_roundw
      case rel => exact ⟨by first | rfl | trivial, .inr (.inl ⟨rfl, by simp⟩)⟩
      case measure => simp [intOf]
    · go_wp2
      go_roundw
      case rel => exact ⟨by first | rfl | trivial, .inr (.inr ⟨rfl, by simp⟩)⟩
      case measure => simp [intOf]
    · go_wp2_with fail
      refine (hG.out _).mono ?_
      rintro r w2 ⟨v2, rfl, hn, hb⟩
      have N2 : Hid (NewInts w.heap.size w2 v2 []) := hn
      have B2 : Hid (Below w.heap.size w w2) := hb
      clear hn hb c0 c1
      go_wp2
      go_loopw [6, 27] (fun v i w' => Below w.heap.size w w' ∧ ((i = .int .i64 0 ∧ NewInts w.heap.size w' v []) ∨ (i = .int .i64 1 ∧ NewInts w.heap.size w' v l) ∨ (i = .int .i64 2 ∧ NewInts w.heap.size w' v (l ++ m)))) (fun _ i _ => 2 - (intOf i).toNat)
      case atStart => exact ⟨B2.out, .inl ⟨rfl, N2.out⟩⟩
      case round =>
        obtain ⟨hw, h⟩ := hrel
        have BR : Hid (Below w.heap.size w wr) := hw
        clear hw N2 B2
        obtain ⟨d0, d1⟩ := CK.out _ BR.out
        rcases h with ⟨rfl, hn⟩ | ⟨rfl, hn⟩ | ⟨rfl, hn⟩
        · obtain ⟨a3, k3, w3, r3, n3, b3⟩ := growL hn (HA.out _ BR.out) BR.out.size (by simp; omega) c
          rw [List.nil_append] at r3 n3
          have R3 : Hid (_ = _) := r3
          have N3 : Hid (NewInts w.heap.size w3 (.slice a3 l.length k3) l) := n3
          have B3 : Hid (Below w.heap.size w w3) := BR.out.trans b3
          clear hn r3 n3 b3
          go_wp2_with (at_builtin; refine wpList_append_ty rfl _ _ 24 24 rfl _ _ _ rfl rfl R3.out ?_)
          go_roundw
          case rel => exact ⟨B3.out, .inr (.inl ⟨rfl, N3.out⟩)⟩
          case measure => simp [intOf]
        · obtain ⟨a3, k3, w3, r3, n3, b3⟩ := growL hn (HB.out _ BR.out) BR.out.size hl c'
          have R3 : Hid (_ = _) := r3
          have N3 : Hid (NewInts w.heap.size w3 (.slice a3 (l ++ m).length k3) (l ++ m)) := n3
          have B3 : Hid (Below w.heap.size w w3) := BR.out.trans b3
          clear hn r3 n3 b3
          go_wp2_with (at_builtin; refine wpList_append_ty rfl _ _ 24 24 rfl _ _ _ rfl rfl R3.out ?_)
          go_roundw
          case rel => exact ⟨B3.out, .inr (.inr ⟨rfl, by have q := N3.out; rw [List.length_append] at q; exact q⟩)⟩
          case measure => simp [intOf]
        · have NN : Hid (NewInts w.heap.size wr _ (l ++ m)) := hn
          obtain ⟨a4, k4, rfl, _⟩ := hn.ints
          clear hn
          go_wp2
          go_ret
          exact ⟨_, _, rfl, NN.out, BR.out⟩
end Go.Proofs.YtbmkfmppcojcgaaGreat
