/-
  Walks: HeapUsed, of the specification and of the program.
-/
import Derived.Test.YtlnaodjhkchgjaaHeapS1
import Derived.Test.YtlnaodjhkchgjaaHeapI3
namespace Go.Proofs.Ytlnaodjhkchgjaa
open Go.RowKit
set_option linter.unusedVariables false
set_option linter.unusedSimpArgs false
/-- How many words the first k cells have. -/
def usedN (E : Nat → Cel) : Nat → Int
  | 0 => 0
  | k + 1 => usedN E k + (E k).l
noncomputable def usedH (m : Nat) (t : Int) (n : Nat) (E : Nat → Cel) : Int := if hOkB m t n E = true then usedN E n else -1
theorem ok_l {m : Nat} {t : Int} {n : Nat} {E : Nat → Cel} (h : hOk m t n E) {i : Nat} (hi : i < n) : 0 ≤ (E i).l ∧ (E i).l ≤ 6000 := by
  obtain ⟨h1, h2, h3, h4, h5, _⟩ := h
  obtain ⟨f1, f2⟩ := h5 i hi
  cases hv : (E i).v with
  | false => have := f1 hv; omega
  | true => have := f2 hv; omega
theorem used_le {m : Nat} {t : Int} {n : Nat} {E : Nat → Cel} (h : hOk m t n E) : ∀ k, k ≤ n → 0 ≤ usedN E k ∧ usedN E k ≤ 6000 * k
  | 0, _ => by simp [usedN]
  | k + 1, hk => by
    have := used_le h k (by omega)
    have := ok_l h (show k < n by omega)
    simp only [usedN]
    omega
set_option maxRecDepth 20000 in
set_option maxHeartbeats 8000000 in
theorem used_spec {w : World} {v : Value} {W : List Int} {t : Int} {n : Nat} {E : Nat → Cel} (h : HI w v W t n E) (hk : hOk W.length t n E) :
    Calls Try.prog 46 #[v] w fun e w' => e = .returned (.int .i64 (usedN E n)) ∧ Below w.heap.size w w' := by
  obtain ⟨wa, wc, ca, cc, rfl, h1, h2, h3, h4⟩ := h
  have H3 : Hid (CsA w ca n E) := h3
  have HK : Hid (∀ k, k ≤ n → 0 ≤ usedN E k ∧ usedN E k ≤ 6000 * k) := used_le hk
  have n200 : n ≤ 200 := hk.2.2.2.1
  clear h1 h2 h3 h4 hk
  go_enter Try.func46, Try.ntmps46
  go_wp2
  generalize hW1 : w.alloc (.cells #[.slice wa W.length wc, .int .i64 t, .slice ca n cc] 29) = w1
  have X1 : Hid (Box3 w1 w.heap.size (.slice wa W.length wc) (.int .i64 t) (.slice ca n cc) 29) := by rw [← hW1]; exact box3_new _ _ _ _ _
  have B1 : Hid (Below w.heap.size w w1) := by rw [← hW1]; exact bAlloc (Below.refl _ _) _
  clear hW1
  have Z0 : Hid (usedN E 0 = 0) := rfl
  go_loopw [3, 4] (fun s i w' => ∃ k : Nat, k ≤ n ∧ i = .int .i64 (k : Int) ∧ s = .int .i64 (usedN E k) ∧ Hid (w' = w1)) (fun _ i _ => n - (intOf i).toNat)
  case atStart => exact ⟨0, by omega, rfl, rfl, (rfl : w1 = w1)⟩
  case round =>
    obtain ⟨k, hk, rfl, rfl, hw⟩ := hrel
    have x2 : wr.cell? ⟨w.heap.size, 2, none⟩ = some (.slice ca n cc) := by rw [hw.out]; exact X1.out.c2
    by_cases hlt : (k : Int) < (n : Int)
    · have L : k < n := by omega
      obtain ⟨o, off, rfl, ho, p0, p1, p2⟩ := (show CsA wr ca n E by rw [hw.out]; exact H3.out.keep B1.out).at L
      have b1 := HK.out (k + 1) (by omega)
      have US : Hid (usedN E (k + 1) = usedN E k + (E k).l) := rfl
      rw [US.out] at b1
      generalize usedN E k = Y at *
      generalize (E k).l = l at *
      have hw9 : IntKind.i64.wrap (Y + l) = Y + l := by rw [IntKind.wrap_i64]; omega
      go_wp2
      go_roundw
      case rel => exact ⟨k + 1, by omega, by go_num, by rw [US.out], hw⟩
      case measure => simp [intOf]; omega
    · obtain rfl : k = n := by omega
      go_wp2
      go_ret
      exact ⟨rfl, by rw [hw.out]; exact B1.out⟩
set_option maxRecDepth 20000 in
set_option maxHeartbeats 8000000 in
theorem heapUsed_spec {w : World} {v : Value} {W : List Int} {t : Int} {n : Nat} {E : Nat → Cel} (h : HI w v W t n E) (he : (∀ i, in64 (E i).f ∧ in64 (E i).l) ∧ in64 t) (hW : W.length ≤ 1048576) (hn : n ≤ 1048576) :
    Calls Try.prog 20 #[v] w fun e w' => e = .returned (.int .i64 (usedH W.length t n E)) ∧ Below w.heap.size w w' := by
  have CK : Hid (∀ W', Below w.heap.size w W' → Calls Try.prog 30 #[v] W' fun e w' => e = .returned (.bool (hOkB W.length t n E)) ∧ Below W'.heap.size W' w') := fun W' hb => heapOk_spec (h.keep hb) he hW hn
  have CU : Hid (hOkB W.length t n E = true → ∀ W', Below w.heap.size w W' → Calls Try.prog 46 #[v] W' fun e w' => e = .returned (.int .i64 (usedN E n)) ∧ Below W'.heap.size W' w') := fun hk W' hb => used_spec (h.keep hb) (hOkB_iff.1 hk)
  have UH : Hid (usedH W.length t n E = if hOkB W.length t n E = true then usedN E n else -1) := rfl
  obtain ⟨wa, wc, ca, cc, rfl, h1, h2, h3, h4⟩ := h
  clear h1 h2 h3 h4
  generalize usedH W.length t n E = U at *
  generalize hOkB W.length t n E = V at *
  go_enter Try.func20, Try.ntmps20
  go_wp2_with fail
  generalize hW1 : w.alloc (.cells #[.slice wa W.length wc, .int .i64 t, .slice ca n cc] 29) = w1
  have X1 : Hid (Box3 w1 w.heap.size (.slice wa W.length wc) (.int .i64 t) (.slice ca n cc) 29) := by rw [← hW1]; exact box3_new _ _ _ _ _
  have B1 : Hid (Below w.heap.size w w1) := by rw [← hW1]; exact bAlloc (Below.refl _ _) _
  clear hW1
  refine (CK.out _ B1.out).mono ?_
  rintro r w2 ⟨rfl, hb⟩
  have X2 : Hid (Box3 w2 w.heap.size (.slice wa W.length wc) (.int .i64 t) (.slice ca n cc) 29) := X1.out.keep hb
  have B2 : Hid (Below w.heap.size w w2) := bTrans B1.out hb
  clear hb X1 B1
  cases V with
  | false =>
    go_wp2
    go_ret
    exact ⟨by rw [UH.out]; rfl, B2.out⟩
  | true =>
    have x0 := X2.out.c0
    have x1 := X2.out.c1
    have x2 := X2.out.c2
    go_wp2_with fail
    refine (CU.out (by trivial) _ B2.out).mono ?_
    rintro r w3 ⟨rfl, hb⟩
    have B3 : Hid (Below w.heap.size w w3) := bTrans B2.out hb
    clear hb x0 x1 x2
    go_wp2
    go_ret
    exact ⟨by rw [UH.out]; rfl, B3.out⟩
set_option maxRecDepth 20000 in
set_option maxHeartbeats 8000000 in
theorem used_impl {w : World} {v : Value} {W : List Int} {t : Int} {n : Nat} {E : Nat → Cel} (h : HI w v W t n E) (hk : hOk W.length t n E) :
    Calls Try.prog 47 #[v] w fun e w' => e = .returned (.int .i64 (usedN E n)) ∧ Below w.heap.size w w' := by
  obtain ⟨wa, wc, ca, cc, rfl, h1, h2, h3, h4⟩ := h
  have H3 : Hid (CsA w ca n E) := h3
  have KK : Hid (n ≤ 200 ∧ ∀ k, k ≤ n → 0 ≤ usedN E k ∧ usedN E k ≤ 6000 * k) := ⟨hk.2.2.2.1, used_le hk⟩
  clear h1 h2 h3 h4 hk
  go_enter Try.func47, Try.ntmps47
  go_wp2
  generalize hW1 : w.alloc (.cells #[.slice wa W.length wc, .int .i64 t, .slice ca n cc] 29) = w1
  have B1 : Hid (Below w.heap.size w w1) := by rw [← hW1]; exact bAlloc (Below.refl _ _) _
  clear hW1
  have Z0 : Hid (usedN E 0 = 0) := rfl
  go_loopw [3, 9] (fun s i w' => ∃ k : Nat, k ≤ n ∧ i = .int .i64 (k : Int) ∧ s = .int .i64 (usedN E k) ∧ Below w.heap.size w w') (fun _ i _ => n - (intOf i).toNat)
  case atStart => exact ⟨0, by omega, rfl, rfl, B1.out⟩
  case round =>
    obtain ⟨k, hk, rfl, rfl, hB⟩ := hrel
    have BK : Hid (Below w.heap.size w wr) := hB
    have n200 := KK.out.1
    clear hB
    by_cases hlt : (k : Int) < (n : Int)
    · have L : k < n := by omega
      obtain ⟨o, off, rfl, ho, p0, p1, p2⟩ := (H3.out.keep BK.out).at L
      have b1 := KK.out.2 (k + 1) (by omega)
      have US : Hid (usedN E (k + 1) = usedN E k + (E k).l) := rfl
      rw [US.out] at b1
      generalize usedN E k = Y at *
      generalize (E k).l = l at *
      generalize (E k).f = f at *
      generalize (E k).v = b at *
      have hw9 : IntKind.i64.wrap (Y + l) = Y + l := by rw [IntKind.wrap_i64]; omega
      go_wp2
      go_roundw
      case rel => exact ⟨k + 1, by omega, by go_num, by rw [US.out], bAlloc BK.out _⟩
      case measure => simp [intOf]; omega
    · obtain rfl : k = n := by omega
      go_wp2
      go_ret
      exact ⟨rfl, BK.out⟩
set_option maxRecDepth 20000 in
set_option maxHeartbeats 8000000 in
theorem heapUsed_impl (hS : SortsBy) (hS0 : SortsNone) {w : World} {v : Value} {W : List Int} {t : Int} {n : Nat} {E : Nat → Cel} (h : HI w v W t n E) (he : (∀ i, in64 (E i).f ∧ in64 (E i).l) ∧ in64 t) (hW : W.length ≤ 1048576) (hn : n ≤ 1048576) :
    Calls Try.prog 21 #[v] w fun e w' => e = .returned (.int .i64 (usedH W.length t n E)) ∧ Below w.heap.size w w' := by
  have CK : Hid (∀ W', Below w.heap.size w W' → Calls Try.prog 27 #[v] W' fun e w' => e = .returned (.bool (hOkB W.length t n E)) ∧ Below W'.heap.size W' w') := fun W' hb => heapOk_impl hS hS0 (h.keep hb) he hW hn
  have CU : Hid (hOkB W.length t n E = true → ∀ W', Below w.heap.size w W' → Calls Try.prog 47 #[v] W' fun e w' => e = .returned (.int .i64 (usedN E n)) ∧ Below W'.heap.size W' w') := fun hk W' hb => used_impl (h.keep hb) (hOkB_iff.1 hk)
  have UH : Hid (usedH W.length t n E = if hOkB W.length t n E = true then usedN E n else -1) := rfl
  obtain ⟨wa, wc, ca, cc, rfl, h1, h2, h3, h4⟩ := h
  clear h1 h2 h3 h4
  generalize usedH W.length t n E = U at *
  generalize hOkB W.length t n E = V at *
  go_enter Try.func21, Try.ntmps21
  go_wp2_with fail
  generalize hW1 : w.alloc (.cells #[.slice wa W.length wc, .int .i64 t, .slice ca n cc] 29) = w1
  have X1 : Hid (Box3 w1 w.heap.size (.slice wa W.length wc) (.int .i64 t) (.slice ca n cc) 29) := by rw [← hW1]; exact box3_new _ _ _ _ _
  have B1 : Hid (Below w.heap.size w w1) := by rw [← hW1]; exact bAlloc (Below.refl _ _) _
  clear hW1
  refine (CK.out _ B1.out).mono ?_
  rintro r w2 ⟨rfl, hb⟩
  have X2 : Hid (Box3 w2 w.heap.size (.slice wa W.length wc) (.int .i64 t) (.slice ca n cc) 29) := X1.out.keep hb
  have B2 : Hid (Below w.heap.size w w2) := bTrans B1.out hb
  clear hb X1 B1
  cases V with
  | false =>
    go_wp2
    go_ret
    exact ⟨by rw [UH.out]; rfl, B2.out⟩
  | true =>
    have x0 := X2.out.c0
    have x1 := X2.out.c1
    have x2 := X2.out.c2
    go_wp2_with fail
    refine (CU.out (by trivial) _ B2.out).mono ?_
    rintro r w3 ⟨rfl, hb⟩
    have B3 : Hid (Below w.heap.size w w3) := bTrans B2.out hb
    clear hb x0 x1 x2
    go_wp2
    go_ret
    exact ⟨by rw [UH.out]; rfl, B3.out⟩
end Go.Proofs.Ytlnaodjhkchgjaa
