/-
  Plain: what the law on rows asks of an array's rows, number by number.
-/
import Derived.Test.YtcaidhmolnnikaaDoorSpecRows2
import Derived.Test.YtcaidhmolnnikaaDoorShapeP
namespace Go.Proofs.YtcaidhmolnnikaaDoor
set_option linter.unusedVariables false
theorem rows_facts {n0 : Int} {t d : List Int} (ho : arrOk (n0 :: t) d = true) :
    ∃ cnt N : Nat, n0 = (cnt : Int) ∧ cnt ≤ 300 ∧ N ≤ 300 ∧ cnt * N = d.length ∧ (rowsF (n0 :: t) d).length = 2 * cnt ∧
      ∀ k, k < cnt → (rowsF (n0 :: t) d).getD (2 * k) [] = t ∧ ∃ D, (rowsF (n0 :: t) d).getD (2 * k + 1) [] = D ∧ D.length = N ∧ arrOk t D = true ∧ ∀ j, j < N → D.getD j 0 = d.getD (k * N + j) 0 := by
  have hh := head_bd ho
  simp only [List.getD_cons_zero] at hh
  obtain ⟨cnt, rfl⟩ : ∃ cnt : Nat, n0 = (cnt : Int) := ⟨n0.toNat, by omega⟩
  have hL : (rowsF ((cnt : Int) :: t) d).length = 2 * cnt := by rw [rowsF_length, if_pos ⟨ho, by simp⟩]; simp
  by_cases hp : 0 < cnt
  · obtain ⟨p0, p1, p2⟩ := tail_size ho (by omega)
    obtain ⟨N, hN⟩ : ∃ N : Nat, sizeV t = N := ⟨(sizeV t).toNat, by omega⟩
    rw [hN] at p1
    have hmul : cnt * N = d.length := by
      have : ((cnt * N : Nat) : Int) = (d.length : Int) := by simpa using p1
      omega
    refine ⟨cnt, N, rfl, by omega, by omega, hmul, hL, fun k hk => ?_⟩
    have hat := flat2_at cnt k (fun _ => t) (fun i => (d.drop (i * N)).take N) hk
    have hR : rowsF ((cnt : Int) :: t) d = (List.range cnt).flatMap (fun i => [t, (d.drop (i * N)).take N]) := by
      unfold rowsF
      rw [if_pos ⟨ho, by simp⟩]
      simp [hN]
    have hle : k * N + N ≤ d.length := by
      have q : (k + 1) * N ≤ cnt * N := Nat.mul_le_mul_right N (by omega)
      rw [hmul, Nat.add_mul, Nat.one_mul] at q
      exact q
    have hlen : ((d.drop (k * N)).take N).length = N := by simp; omega
    rw [hR]
    refine ⟨hat.1, _, hat.2, hlen, ?_, fun j hj => ?_⟩
    · have hd : d.all ok = true := by simp only [arrOk, Bool.and_eq_true] at ho; exact ho.2
      simp only [arrOk, Bool.and_eq_true, decide_eq_true_eq, hlen, hN, true_and]
      rw [List.all_eq_true] at hd ⊢
      exact fun x hx => hd x (List.mem_of_mem_drop (List.mem_of_mem_take hx))
    · simp [List.getD, List.getElem?_take_of_lt hj]
  · obtain rfl : cnt = 0 := by omega
    have hz := arrOk_size ho
    have k4 := (sizeV_ok (arrOk_shape ho)).2.2.2
    rw [prodV_cons] at k4
    rw [show ((0 : Nat) : Int) = 0 from rfl, Int.zero_mul] at k4
    rw [show ((0 : Nat) : Int) = 0 from rfl] at hz
    have hd : d.length = 0 := by omega
    exact ⟨0, 0, rfl, by omega, by omega, by omega, hL, fun k hk => by omega⟩
theorem numAt_index {s d : List Int} (ho : arrOk s d = true) {k : Nat} (hk : k < d.length) : numAtOk s d (indexV s (k : Int)) = true ∧ numAtV s d (indexV s (k : Int)) = d.getD k 0 := by
  have hz := arrOk_size ho
  have q := (place_of_index (s := s) (p := (k : Int)) (by omega) (by omega) (by omega)).2
  have h1 : numAtOk s d (indexV s (k : Int)) = true := by simp [numAtOk, ho, q]
  refine ⟨h1, ?_⟩
  rw [numAt_good h1, q, Int.toNat_natCast]
end Go.Proofs.YtcaidhmolnnikaaDoor
