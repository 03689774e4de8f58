/-
  Walks: what the functions of Chapter 1 on one number (program and specification) answer, whatever they are given.
-/
import Derived.Test.YtfmheanmkfdjnacBase
import Derived.Test.YtfmheanmkfdjnacMath
import Derived.Laws.EntriesVeiled
namespace Go.Proofs.Ytfmheanmkfdjnac
open Go.RowKit
set_option maxHeartbeats 400000 in
theorem numOk_impl (x : Int) (w : World) : Calls Try.prog 55 #[.int .i64 x] w fun e w' => e = .returned (.bool (ok x)) ∧ w' = w := by
  go_enter Try.func55, Try.ntmps55
  go_wp2
  all_goals
    go_ret
    refine ⟨?_, rfl⟩
    simp_all [ok] <;> omega
set_option maxHeartbeats 400000 in
theorem in_spec (x l h : Int) (w : World) : Calls Try.prog 94 #[.int .i64 x, .int .i64 l, .int .i64 h] w fun e w' => e = .returned (.bool (decide (l ≤ x) && decide (x ≤ h))) ∧ w' = w := by
  go_enter Try.func94, Try.ntmps94
  go_wp2
  all_goals
    go_ret
    refine ⟨?_, rfl⟩
    simp_all <;> omega
set_option maxHeartbeats 400000 in
theorem numOk_spec (x : Int) (w : World) : Calls Try.prog 66 #[.int .i64 x] w fun e w' => e = .returned (.bool (ok x)) ∧ w' = w := by
  go_enter Try.func66, Try.ntmps66
  go_wp2_with (go_at_call 94; refine (in_spec _ _ _ _).mono ?_; rintro e w' ⟨rfl, rfl⟩)
  go_ret
  exact ⟨by simp [ok], rfl⟩
set_option maxHeartbeats 400000 in
theorem bit_spec (b : Bool) (w : World) : Calls Try.prog 99 #[.bool b] w fun e w' => e = .returned (.int .i64 (bit b)) ∧ w' = w := by
  cases b <;> (go_enter Try.func99, Try.ntmps99; go_wp2; go_ret; exact ⟨rfl, rfl⟩)
set_option maxHeartbeats 400000 in
theorem max_spec (a b : Int) (w : World) : Calls Try.prog 98 #[.int .i64 a, .int .i64 b] w fun e w' => e = .returned (.int .i64 (mx a b)) ∧ w' = w := by
  go_enter Try.func98, Try.ntmps98
  go_wp2
  all_goals
    go_ret
    refine ⟨?_, rfl⟩
    simp_all [mx] <;> omega
set_option maxHeartbeats 400000 in
theorem min_spec (a b : Int) (w : World) : Calls Try.prog 97 #[.int .i64 a, .int .i64 b] w fun e w' => e = .returned (.int .i64 (mn a b)) ∧ w' = w := by
  go_enter Try.func97, Try.ntmps97
  go_wp2
  all_goals
    go_ret
    refine ⟨?_, rfl⟩
    simp_all [mn] <;> omega
set_option maxHeartbeats 400000 in
theorem itself_impl (x : Int) (w : World) : Calls Try.prog 116 #[.int .i64 x] w fun e w' => e = .returned (.tuple #[.int .i64 x, .int .i64 0]) ∧ w' = w := by
  go_enter Try.func116, Try.ntmps116
  go_wp2
  go_ret2
  exact ⟨rfl, rfl⟩
set_option maxHeartbeats 400000 in
theorem negated_impl (x : Int) (h1 : -1000000000000 ≤ x) (h2 : x ≤ 1000000000000) (w : World) : Calls Try.prog 117 #[.int .i64 x] w fun e w' => e = .returned (.tuple #[.int .i64 (-x), .int .i64 0]) ∧ w' = w := by
  go_enter Try.func117, Try.ntmps117
  go_wp2
  go_ret2
  exact ⟨rfl, rfl⟩
set_option maxHeartbeats 400000 in
theorem direction_impl (x : Int) (w : World) : Calls Try.prog 118 #[.int .i64 x] w fun e w' => e = .returned (.tuple #[.int .i64 (sgn x), .int .i64 0]) ∧ w' = w := by
  go_enter Try.func118, Try.ntmps118
  go_wp2
  all_goals
    go_ret2
    refine ⟨?_, rfl⟩
    simp_all [sgn] <;> omega
set_option maxHeartbeats 400000 in
theorem withoutSign_impl (x : Int) (h1 : -1000000000000 ≤ x) (h2 : x ≤ 1000000000000) (w : World) : Calls Try.prog 133 #[.int .i64 x] w fun e w' => e = .returned (.int .i64 (mag x)) ∧ w' = w := by
  go_enter Try.func133, Try.ntmps133
  go_wp2
  all_goals
    go_ret
    refine ⟨?_, rfl⟩
    simp_all [mag] <;> omega
set_option maxHeartbeats 400000 in
theorem magnitude_impl (x : Int) (h1 : -1000000000000 ≤ x) (h2 : x ≤ 1000000000000) (w : World) : Calls Try.prog 119 #[.int .i64 x] w fun e w' => e = .returned (.tuple #[.int .i64 (mag x), .int .i64 0]) ∧ w' = w := by
  go_enter Try.func119, Try.ntmps119
  go_wp2_with (go_at_call 133; refine (withoutSign_impl _ h1 h2 _).mono ?_; rintro e w' ⟨rfl, rfl⟩)
  go_ret2
  exact ⟨rfl, rfl⟩
set_option maxHeartbeats 400000 in
theorem inverted_impl (x : Int) (h1 : -1000000000000 ≤ x) (h2 : x ≤ 1000000000000) (w : World) : Calls Try.prog 120 #[.int .i64 x] w fun e w' => e = .returned (.tuple #[.int .i64 (invV x), .int .i64 (invC x)]) ∧ w' = w := by
  go_enter Try.func120, Try.ntmps120
  go_wp2
  all_goals
    go_ret2
    refine ⟨?_, rfl⟩
    simp_all [invV, invC] <;> omega
end Go.Proofs.Ytfmheanmkfdjnac
namespace Go.Proofs.Ytfmheanmkfdjnac
open Go.RowKit
theorem ret_int' {k : IntKind} {a b : Int} (h : a = b) : Ending.returned (.int k a) = .returned (.int k b) := by rw [h]
theorem ret_two' {a b c d : Int} (h : a = b) (h' : c = d) : Ending.returned (.tuple #[.int .i64 a, .int .i64 c]) = .returned (.tuple #[.int .i64 b, .int .i64 d]) := by rw [h, h']
theorem ret_bool {a b : Bool} (h : a = b) : Ending.returned (.bool a) = .returned (.bool b) := by rw [h]
set_option maxHeartbeats 400000 in
theorem sign1_spec (s : Int) (w : World) : Calls Try.prog 63 #[.int .i64 s] w fun e w' => e = .returned (.bool (sign1 s)) ∧ w' = w := by
  go_enter Try.func63, Try.ntmps63
  go_wp2
  all_goals
    go_ret
    refine ⟨ret_bool ?_, rfl⟩
    simp_all [sign1]
set_option maxHeartbeats 400000 in
theorem sign2_spec (s : Int) (w : World) : Calls Try.prog 46 #[.int .i64 s] w fun e w' => e = .returned (.bool (sign2 s)) ∧ w' = w := by
  go_enter Try.func46, Try.ntmps46
  go_wp2
  all_goals
    go_ret
    refine ⟨ret_bool ?_, rfl⟩
    simp_all [sign2]
set_option maxHeartbeats 400000 in
theorem one_specBad (s x : Int) (h : sign1 s = false ∨ ok x = false) (w : World) :
    Calls Try.prog 65 #[.int .i64 s, .int .i64 x] w fun e w' => e = .returned (.tuple #[.int .i64 0, .int .i64 1]) ∧ w' = w := by
  by_cases hs : sign1 s = true
  · have hx : ok x = false := by simpa [hs] using h
    clear h
    go_enter Try.func65, Try.ntmps65
    go_wp2_with (first | (go_at_call 63; refine (sign1_spec _ _).mono ?_; rintro e w' ⟨rfl, hw⟩; subst w') | (go_at_call 66; refine (numOk_spec _ _).mono ?_; rintro e w' ⟨rfl, hw⟩; subst w'))
    go_ret2
    exact ⟨rfl, rfl⟩
  · have hs : sign1 s = false := by simpa using hs
    clear h
    go_enter Try.func65, Try.ntmps65
    go_wp2_with (first | (go_at_call 63; refine (sign1_spec _ _).mono ?_; rintro e w' ⟨rfl, hw⟩; subst w') | (go_at_call 66; refine (numOk_spec _ _).mono ?_; rintro e w' ⟨rfl, hw⟩; subst w'))
    go_ret2
    exact ⟨rfl, rfl⟩
set_option maxHeartbeats 400000 in
theorem one_spec43 (x : Int) (h1 : -1000000000000 ≤ x) (h2 : x ≤ 1000000000000) (w : World) :
    Calls Try.prog 65 #[.int .i64 43, .int .i64 x] w fun e w' => e = .returned (.tuple #[.int .i64 (oneV 43 x).1, .int .i64 (oneV 43 x).2]) ∧ w' = w := by
  have hk := ok_mk h1 h2
  have hs : sign1 43 = true := by decide
  go_enter Try.func65, Try.ntmps65
  go_wp2_with (first | (go_at_call 63; refine (sign1_spec _ _).mono ?_; rintro e w' ⟨rfl, hw⟩; subst w') | (go_at_call 66; refine (numOk_spec _ _).mono ?_; rintro e w' ⟨rfl, hw⟩; subst w'))
  go_ret2
  exact ⟨ret_two' (by rw [oneV_43 hk]) (by rw [oneV_43 hk]), rfl⟩
set_option maxHeartbeats 400000 in
theorem one_spec45 (x : Int) (h1 : -1000000000000 ≤ x) (h2 : x ≤ 1000000000000) (w : World) :
    Calls Try.prog 65 #[.int .i64 45, .int .i64 x] w fun e w' => e = .returned (.tuple #[.int .i64 (oneV 45 x).1, .int .i64 (oneV 45 x).2]) ∧ w' = w := by
  have hk := ok_mk h1 h2
  have hs : sign1 45 = true := by decide
  go_enter Try.func65, Try.ntmps65
  go_wp2_with (first | (go_at_call 63; refine (sign1_spec _ _).mono ?_; rintro e w' ⟨rfl, hw⟩; subst w') | (go_at_call 66; refine (numOk_spec _ _).mono ?_; rintro e w' ⟨rfl, hw⟩; subst w'))
  go_ret2
  exact ⟨ret_two' (by rw [oneV_45 hk]) (by rw [oneV_45 hk]), rfl⟩
set_option maxHeartbeats 400000 in
theorem one_spec42 (x : Int) (h1 : -1000000000000 ≤ x) (h2 : x ≤ 1000000000000) (w : World) :
    Calls Try.prog 65 #[.int .i64 42, .int .i64 x] w fun e w' => e = .returned (.tuple #[.int .i64 (oneV 42 x).1, .int .i64 (oneV 42 x).2]) ∧ w' = w := by
  have hk := ok_mk h1 h2
  have hs : sign1 42 = true := by decide
  obtain ⟨p1, p2⟩ := bit_bd (decide (0 < x))
  obtain ⟨q1, q2⟩ := bit_bd (decide (x < 0))
  go_enter Try.func65, Try.ntmps65
  go_wp2_with (first | (go_at_call 63; refine (sign1_spec _ _).mono ?_; rintro e w' ⟨rfl, hw⟩; subst w') | (go_at_call 66; refine (numOk_spec _ _).mono ?_; rintro e w' ⟨rfl, hw⟩; subst w') | (go_at_call 99; refine (bit_spec _ _).mono ?_; rintro e w' ⟨rfl, hw⟩; subst w'))
  go_ret2
  exact ⟨ret_two' (by rw [oneV_42 hk]; exact sgn_bits x) (by rw [oneV_42 hk]), rfl⟩
set_option maxHeartbeats 400000 in
theorem one_spec124 (x : Int) (h1 : -1000000000000 ≤ x) (h2 : x ≤ 1000000000000) (w : World) :
    Calls Try.prog 65 #[.int .i64 124, .int .i64 x] w fun e w' => e = .returned (.tuple #[.int .i64 (oneV 124 x).1, .int .i64 (oneV 124 x).2]) ∧ w' = w := by
  have hk := ok_mk h1 h2
  have hs : sign1 124 = true := by decide
  go_enter Try.func65, Try.ntmps65
  go_wp2_with (first | (go_at_call 63; refine (sign1_spec _ _).mono ?_; rintro e w' ⟨rfl, hw⟩; subst w') | (go_at_call 66; refine (numOk_spec _ _).mono ?_; rintro e w' ⟨rfl, hw⟩; subst w') | (go_at_call 98; refine (max_spec _ _ _).mono ?_; rintro e w' ⟨rfl, hw⟩; subst w'))
  go_ret2
  exact ⟨ret_two' (by rw [oneV_124 hk]; exact mx_mag x) (by rw [oneV_124 hk]), rfl⟩
set_option maxHeartbeats 400000 in
theorem one_spec126 (x : Int) (h1 : -1000000000000 ≤ x) (h2 : x ≤ 1000000000000) (w : World) :
    Calls Try.prog 65 #[.int .i64 126, .int .i64 x] w fun e w' => e = .returned (.tuple #[.int .i64 (oneV 126 x).1, .int .i64 (oneV 126 x).2]) ∧ w' = w := by
  have hk := ok_mk h1 h2
  have hs : sign1 126 = true := by decide
  by_cases p : 0 ≤ x ∧ x ≤ 1
  · have hx : x = 0 ∨ x = 1 := by omega
    have E : Hid (oneV 126 x = (1 - x, 0)) := by show oneV 126 x = _; rw [oneV_126 hk]; simp [invV, invC, hx]
    clear hx
    obtain ⟨p1, p2⟩ := p
    go_enter Try.func65, Try.ntmps65
    go_wp2_with (first | (go_at_call 63; refine (sign1_spec _ _).mono ?_; rintro e w' ⟨rfl, hw⟩; subst w') | (go_at_call 66; refine (numOk_spec _ _).mono ?_; rintro e w' ⟨rfl, hw⟩; subst w') | (go_at_call 94; refine (in_spec _ _ _ _).mono ?_; rintro e w' ⟨rfl, hw⟩; subst w'))
    go_ret2
    exact ⟨ret_two' (by rw [E.out]) (by rw [E.out]), rfl⟩
  · have hx : ¬ (x = 0 ∨ x = 1) := by omega
    have E : Hid (oneV 126 x = (0, 2)) := by show oneV 126 x = _; rw [oneV_126 hk]; simp [invV, invC, hx]
    clear hx
    have q : (decide (0 ≤ x) && decide (x ≤ 1)) = false := by simp; omega
    go_enter Try.func65, Try.ntmps65
    go_wp2_with (first | (go_at_call 63; refine (sign1_spec _ _).mono ?_; rintro e w' ⟨rfl, hw⟩; subst w') | (go_at_call 66; refine (numOk_spec _ _).mono ?_; rintro e w' ⟨rfl, hw⟩; subst w') | (go_at_call 94; refine (in_spec _ _ _ _).mono ?_; rintro e w' ⟨rfl, hw⟩; subst w'; rw [q]))
    go_ret2
    exact ⟨ret_two' (by rw [E.out]) (by rw [E.out]), rfl⟩
/-- The specification's One, whatever it is given. -/
theorem one_spec (s x : Int) (w : World) :
    Calls Try.prog 65 #[.int .i64 s, .int .i64 x] w fun e w' => e = .returned (.tuple #[.int .i64 (oneV s x).1, .int .i64 (oneV s x).2]) ∧ w' = w := by
  by_cases hx : ok x = true
  · obtain ⟨h1, h2⟩ := ok_bd hx
    by_cases hs : sign1 s = true
    · rcases sign1_of hs with rfl | rfl | rfl | rfl | rfl
      · exact one_spec43 x h1 h2 w
      · exact one_spec45 x h1 h2 w
      · exact one_spec42 x h1 h2 w
      · exact one_spec124 x h1 h2 w
      · exact one_spec126 x h1 h2 w
    · have hs : sign1 s = false := by simpa using hs
      rw [oneV_none hs]
      exact one_specBad s x (.inl hs) w
  · have hx : ok x = false := by simpa using hx
    rw [oneV_bad hx]
    exact one_specBad s x (.inr hx) w
end Go.Proofs.Ytfmheanmkfdjnac
