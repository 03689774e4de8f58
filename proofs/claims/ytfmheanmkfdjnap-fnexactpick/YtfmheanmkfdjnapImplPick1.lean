/-
  Walks: slices.ContainsFunc over a closure of one variable; Pick's two closures.
-/
import Derived.Test.YtfmheanmkfdjnapImplMake3
import Derived.Test.YtfmheanmkfdjnapImplMake5
import Derived.Test.YtfmheanmkfdjnapRowsM
namespace Go.Proofs.Ytfmheanmkfdjnap
open Go.RowKit
set_option linter.unusedVariables false
set_option linter.unusedSimpArgs false
set_option maxRecDepth 20000 in
set_option maxHeartbeats 2000000 in
/-- slices.IndexFunc over a closure of one variable. -/
theorem indexBy_impl {l : List Int} {a : Option Addr} {w : World} {c f : Nat} {p : Value} {φ : Int → Bool} (hE : ∀ (args : Array Value) (w : World), (callFunc f args).run Try.prog w = .ok (.enter f args) w) (h : Ints w a l) (hl : l.length ≤ 1048576)
    (hV : ∀ x : Int, Calls Try.prog f #[.int .i64 x, p] w fun r W' => r = .returned (.bool (φ x)) ∧ W' = w) :
    Calls Try.prog 76 #[.slice a l.length c, .func (.func f) #[] #[p]] w fun r w' => ∃ x : Int, r = .returned (.int .i64 x) ∧ (decide (0 ≤ x) = l.any φ) ∧ w' = w := by
  have HI : Hid (Ints w a l) := h
  have HV : Hid (∀ x : Int, Calls Try.prog f #[.int .i64 x, p] w fun r W' => r = .returned (.bool (φ x)) ∧ W' = w) := hV
  clear h hV
  go_enter Try.func76, Try.ntmps76
  go_wp2
  go_loopw [8] (fun i w' => ∃ k : Nat, k ≤ l.length ∧ i = .int .i64 (k : Int) ∧ ((l.take k).any φ) = false ∧ w' = w) (fun i _ => l.length - (intOf i).toNat)
  case atStart => exact ⟨0, by omega, rfl, by simp, rfl⟩
  case round =>
    obtain ⟨k, hk, rfl, ht, hw⟩ := hrel
    have hw2 := hw.symm
    clear hw
    subst hw2
    have HT : Hid (((l.take k).any φ) = false) := ht
    clear ht
    by_cases hlt : (k : Int) < (l.length : Int)
    · have L : k < l.length := by omega
      obtain ⟨b1, o1, rfl, _, c1⟩ := HI.out.at L
      have Q : Hid (((l.take (k + 1)).any φ) = (((l.take k).any φ) || φ (l.getD k 0))) := by show _ = _; rw [take_snoc L]; simp
      have QB : Hid (φ (l.getD k 0) = true → (l.any φ) = true) := fun h => by
        rw [List.any_eq_true]
        exact ⟨l.getD k 0, by simp [L], h⟩
      clear L
      generalize l.getD k 0 = x at c1 Q QB
      by_cases hx : φ x = true
      · have QB' : Hid ((l.any φ) = true) := QB.out hx
        clear Q QB
        go_wp2_with (go_at_fn f; refine (HV.out x).mono ?_; rintro r w2 ⟨rfl, hw⟩; subst w2; rw [hx])
        go_ret
        exact ⟨_, rfl, by rw [QB'.out]; simp, rfl⟩
      · have hx' : φ x = false := by simpa using hx
        have HT' : Hid (((l.take (k + 1)).any φ) = false) := by show _ = _; rw [Q.out, HT.out, hx']; rfl
        clear Q QB hx
        go_wp2_with (go_at_fn f; refine (HV.out x).mono ?_; rintro r w2 ⟨rfl, hw⟩; subst w2; rw [hx'])
        go_roundw
        case rel => exact ⟨k + 1, by omega, by go_num, HT'.out, by first | trivial | rfl⟩
        case measure => simp [intOf]; omega
    · have HV' : Hid ((l.any φ) = false) := by
        have h := HT.out
        show _ = _
        rw [List.take_of_length_le (by omega)] at h
        exact h
      go_wp2
      go_ret
      exact ⟨_, rfl, by rw [HV'.out]; rfl, rfl⟩
set_option maxRecDepth 20000 in
set_option maxHeartbeats 2000000 in
/-- slices.ContainsFunc over a closure of one variable. -/
theorem containsBy_impl {l : List Int} {a : Option Addr} {w : World} {c f : Nat} {p : Value} {φ : Int → Bool} (hE : ∀ (args : Array Value) (w : World), (callFunc f args).run Try.prog w = .ok (.enter f args) w) (h : Ints w a l) (hl : l.length ≤ 1048576)
    (hV : ∀ x : Int, Calls Try.prog f #[.int .i64 x, p] w fun r W' => r = .returned (.bool (φ x)) ∧ W' = w) :
    Calls Try.prog 56 #[.slice a l.length c, .func (.func f) #[] #[p]] w fun r w' => r = .returned (.bool (l.any φ)) ∧ w' = w := by
  have HC : Hid (Calls Try.prog 76 #[.slice a l.length c, .func (.func f) #[] #[p]] w fun r w' => ∃ x : Int, r = .returned (.int .i64 x) ∧ (decide (0 ≤ x) = l.any φ) ∧ w' = w) := indexBy_impl hE h hl hV
  clear h hV hE
  generalize l.any φ = q at *
  go_enter Try.func56, Try.ntmps56
  go_wp2_with fail
  refine HC.out.mono ?_
  rintro r w1 ⟨x, rfl, hx, rfl⟩
  clear HC
  by_cases h0 : (0 : Int) ≤ x
  · have E : Hid (q = true) := by show _ = _; rw [← hx]; simpa using h0
    clear hx
    go_wp2
    go_ret
    exact ⟨by rw [E.out]; simp [h0], rfl⟩
  · have E : Hid (q = false) := by show _ = _; rw [← hx]; simpa using h0
    clear hx
    go_wp2
    go_ret
    exact ⟨by rw [E.out]; simp [h0], rfl⟩
set_option maxHeartbeats 1000000 in
/-- Pick's first closure: there is no such row. -/
theorem pick1_impl {N : Nat} {o : Nat} {W : World} (x : Int) (h : W.cell? ⟨o, 0, none⟩ = some (.int .i64 (N : Int))) (hN : N ≤ 300) :
    Calls Try.prog 54 #[.int .i64 x, .pointer (some ⟨o, 0, none⟩)] W fun r W' => r = .returned (.bool (noRow (N : Int) x)) ∧ W' = W := by
  have hw : IntKind.i64.wrap (-(N : Int)) = -(N : Int) := by rw [IntKind.wrap_i64]; omega
  unfold noRow
  by_cases h1 : x < -(N : Int)
  · have q1 : decide (x < -(N : Int)) = true := by simpa using h1
    go_enter Try.func54, Try.ntmps54
    go_wp2
    go_ret
    exact ⟨by simp [h1], rfl⟩
  · have q1 : decide (x < -(N : Int)) = false := by simpa using h1
    go_enter Try.func54, Try.ntmps54
    go_wp2
    go_ret
    exact ⟨by simp [h1], rfl⟩
set_option maxHeartbeats 1000000 in
theorem either_impl {N : Nat} (x : Int) (W : World) (hN : N ≤ 300) (hx : noRow (N : Int) x = false) :
    Calls Try.prog 59 #[.int .i64 x, .int .i64 (N : Int)] W fun r W' => r = .returned (.int .i64 ((rowNo (N : Int) x : Nat) : Int)) ∧ W' = W := by
  have e := (rowNo_bd hx).2
  obtain ⟨b1, b2⟩ := noRow_false.1 hx
  rw [e]
  have hw : IntKind.i64.wrap ((N : Int) + x) = (N : Int) + x := by rw [IntKind.wrap_i64]; omega
  clear e hx
  by_cases h1 : x < 0
  · rw [if_pos h1]
    go_enter Try.func59, Try.ntmps59
    go_wp2
    go_ret
    exact ⟨rfl, rfl⟩
  · rw [if_neg h1]
    go_enter Try.func59, Try.ntmps59
    go_wp2
    go_ret
    exact ⟨rfl, rfl⟩
set_option maxRecDepth 20000 in
set_option maxHeartbeats 1000000 in
/-- Pick's second closure: the number of a row. -/
theorem pick2_impl {N k : Nat} {g o b1 o1 n f : Nat} {sv : Value} {x : Int} {W : World} (hg : Box W g sv (.slice (some ⟨b1, o1, none⟩) n f) 26) (hc : W.cell? ⟨b1, o1 + k, none⟩ = some (.int .i64 x)) (h : W.cell? ⟨o, 0, none⟩ = some (.int .i64 (N : Int))) (hN : N ≤ 300) (hk : (k : Int) < (n : Int)) (hx : noRow (N : Int) x = false) :
    Calls Try.prog 58 #[.int .i64 (k : Int), .pointer (some ⟨g, 0, none⟩), .pointer (some ⟨o, 0, none⟩)] W fun r W' => r = .returned (.int .i64 ((rowNo (N : Int) x : Nat) : Int)) ∧ Below W.heap.size W W' := by
  have HE : Hid (∀ W : World, Calls Try.prog 59 #[.int .i64 x, .int .i64 (N : Int)] W fun r W' => r = .returned (.int .i64 ((rowNo (N : Int) x : Nat) : Int)) ∧ W' = W) := fun W => either_impl x W hN hx
  have g1 := hg.c1
  clear hg hx
  go_enter Try.func58, Try.ntmps58
  go_wp2_with fail
  go_region_held3 (fun w' => w'.cell? ⟨g, 1, none⟩ = some (.slice (some ⟨b1, o1, none⟩) n f) ∧ w'.cell? ⟨b1, o1 + k, none⟩ = some (.int .i64 x) ∧ w'.cell? ⟨o, 0, none⟩ = some (.int .i64 (N : Int)))
    (first | with_reducible exact ⟨g1, hc, h⟩ | exact ⟨g1, hc, h⟩ | go_keep)
    ((go_at_call 59; refine (HE.out _).mono ?_; rintro r w2 ⟨rfl, rfl⟩))
  go_wp2
  go_ret
  exact ⟨rfl, (Below.refl _ _).drew⟩
end Go.Proofs.Ytfmheanmkfdjnap
