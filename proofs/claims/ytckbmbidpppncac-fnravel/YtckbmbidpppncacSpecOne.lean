/-
  Walks: the specification's One and Two, whatever they are given.
-/
import Derived.Test.YtckbmbidpppncacSmall
namespace Go.Proofs.Ytckbmbidpppncac
open Go.RowKit
theorem ret_int' {k : IntKind} {a b : Int} (h : a = b) : Ending.returned (.int k a) = .returned (.int k b) := by rw [h]
theorem ret_two' {a b c d : Int} (h : a = b) (h' : c = d) : Ending.returned (.tuple #[.int .i64 a, .int .i64 c]) = .returned (.tuple #[.int .i64 b, .int .i64 d]) := by rw [h, h']
theorem ret_bool {a b : Bool} (h : a = b) : Ending.returned (.bool a) = .returned (.bool b) := by rw [h]
set_option maxHeartbeats 400000 in
theorem sign1_spec (s : Int) (w : World) : Calls Try.prog 58 #[.int .i64 s] w fun e w' => e = .returned (.bool (sign1 s)) ∧ w' = w := by
  go_enter Try.func58, Try.ntmps58
  go_wp2
  all_goals
    go_ret
    refine ⟨ret_bool ?_, rfl⟩
    simp_all [sign1]
set_option maxHeartbeats 400000 in
theorem sign2_spec (s : Int) (w : World) : Calls Try.prog 41 #[.int .i64 s] w fun e w' => e = .returned (.bool (sign2 s)) ∧ w' = w := by
  go_enter Try.func41, Try.ntmps41
  go_wp2
  all_goals
    go_ret
    refine ⟨ret_bool ?_, rfl⟩
    simp_all [sign2]
set_option maxHeartbeats 400000 in
theorem one_specBad (s x : Int) (h : sign1 s = false ∨ ok x = false) (w : World) :
    Calls Try.prog 60 #[.int .i64 s, .int .i64 x] w fun e w' => e = .returned (.tuple #[.int .i64 0, .int .i64 1]) ∧ w' = w := by
  by_cases hs : sign1 s = true
  · have hx : ok x = false := by simpa [hs] using h
    clear h
    go_enter Try.func60, Try.ntmps60
    go_wp2_with (first | (go_at_call 58; refine (sign1_spec _ _).mono ?_; rintro e w' ⟨rfl, hw⟩; subst w') | (go_at_call 61; refine (numOk_spec _ _).mono ?_; rintro e w' ⟨rfl, hw⟩; subst w'))
    go_ret2
    exact ⟨rfl, rfl⟩
  · have hs : sign1 s = false := by simpa using hs
    clear h
    go_enter Try.func60, Try.ntmps60
    go_wp2_with (first | (go_at_call 58; refine (sign1_spec _ _).mono ?_; rintro e w' ⟨rfl, hw⟩; subst w') | (go_at_call 61; refine (numOk_spec _ _).mono ?_; rintro e w' ⟨rfl, hw⟩; subst w'))
    go_ret2
    exact ⟨rfl, rfl⟩
set_option maxHeartbeats 400000 in
theorem one_spec43 (x : Int) (h1 : -1000000000000 ≤ x) (h2 : x ≤ 1000000000000) (w : World) :
    Calls Try.prog 60 #[.int .i64 43, .int .i64 x] w fun e w' => e = .returned (.tuple #[.int .i64 (oneV 43 x).1, .int .i64 (oneV 43 x).2]) ∧ w' = w := by
  have hk := ok_mk h1 h2
  have hs : sign1 43 = true := by decide
  go_enter Try.func60, Try.ntmps60
  go_wp2_with (first | (go_at_call 58; refine (sign1_spec _ _).mono ?_; rintro e w' ⟨rfl, hw⟩; subst w') | (go_at_call 61; refine (numOk_spec _ _).mono ?_; rintro e w' ⟨rfl, hw⟩; subst w'))
  go_ret2
  exact ⟨ret_two' (by rw [oneV_43 hk]) (by rw [oneV_43 hk]), rfl⟩
set_option maxHeartbeats 400000 in
theorem one_spec45 (x : Int) (h1 : -1000000000000 ≤ x) (h2 : x ≤ 1000000000000) (w : World) :
    Calls Try.prog 60 #[.int .i64 45, .int .i64 x] w fun e w' => e = .returned (.tuple #[.int .i64 (oneV 45 x).1, .int .i64 (oneV 45 x).2]) ∧ w' = w := by
  have hk := ok_mk h1 h2
  have hs : sign1 45 = true := by decide
  go_enter Try.func60, Try.ntmps60
  go_wp2_with (first | (go_at_call 58; refine (sign1_spec _ _).mono ?_; rintro e w' ⟨rfl, hw⟩; subst w') | (go_at_call 61; refine (numOk_spec _ _).mono ?_; rintro e w' ⟨rfl, hw⟩; subst w'))
  go_ret2
  exact ⟨ret_two' (by rw [oneV_45 hk]) (by rw [oneV_45 hk]), rfl⟩
set_option maxHeartbeats 400000 in
theorem one_spec42 (x : Int) (h1 : -1000000000000 ≤ x) (h2 : x ≤ 1000000000000) (w : World) :
    Calls Try.prog 60 #[.int .i64 42, .int .i64 x] w fun e w' => e = .returned (.tuple #[.int .i64 (oneV 42 x).1, .int .i64 (oneV 42 x).2]) ∧ w' = w := by
  have hk := ok_mk h1 h2
  have hs : sign1 42 = true := by decide
  obtain ⟨p1, p2⟩ := bit_bd (decide (0 < x))
  obtain ⟨q1, q2⟩ := bit_bd (decide (x < 0))
  go_enter Try.func60, Try.ntmps60
  go_wp2_with (first | (go_at_call 58; refine (sign1_spec _ _).mono ?_; rintro e w' ⟨rfl, hw⟩; subst w') | (go_at_call 61; refine (numOk_spec _ _).mono ?_; rintro e w' ⟨rfl, hw⟩; subst w') | (go_at_call 91; refine (bit_spec _ _).mono ?_; rintro e w' ⟨rfl, hw⟩; subst w'))
  go_ret2
  exact ⟨ret_two' (by rw [oneV_42 hk]; exact sgn_bits x) (by rw [oneV_42 hk]), rfl⟩
set_option maxHeartbeats 400000 in
theorem one_spec124 (x : Int) (h1 : -1000000000000 ≤ x) (h2 : x ≤ 1000000000000) (w : World) :
    Calls Try.prog 60 #[.int .i64 124, .int .i64 x] w fun e w' => e = .returned (.tuple #[.int .i64 (oneV 124 x).1, .int .i64 (oneV 124 x).2]) ∧ w' = w := by
  have hk := ok_mk h1 h2
  have hs : sign1 124 = true := by decide
  go_enter Try.func60, Try.ntmps60
  go_wp2_with (first | (go_at_call 58; refine (sign1_spec _ _).mono ?_; rintro e w' ⟨rfl, hw⟩; subst w') | (go_at_call 61; refine (numOk_spec _ _).mono ?_; rintro e w' ⟨rfl, hw⟩; subst w') | (go_at_call 90; refine (max_spec _ _ _).mono ?_; rintro e w' ⟨rfl, hw⟩; subst w'))
  go_ret2
  exact ⟨ret_two' (by rw [oneV_124 hk]; exact mx_mag x) (by rw [oneV_124 hk]), rfl⟩
set_option maxHeartbeats 400000 in
theorem one_spec126 (x : Int) (h1 : -1000000000000 ≤ x) (h2 : x ≤ 1000000000000) (w : World) :
    Calls Try.prog 60 #[.int .i64 126, .int .i64 x] w fun e w' => e = .returned (.tuple #[.int .i64 (oneV 126 x).1, .int .i64 (oneV 126 x).2]) ∧ w' = w := by
  have hk := ok_mk h1 h2
  have hs : sign1 126 = true := by decide
  by_cases p : 0 ≤ x ∧ x ≤ 1
  · have hx : x = 0 ∨ x = 1 := by omega
    have E : Hid (oneV 126 x = (1 - x, 0)) := by show oneV 126 x = _; rw [oneV_126 hk]; simp [invV, invC, hx]
    clear hx
    obtain ⟨p1, p2⟩ := p
    go_enter Try.func60, Try.ntmps60
    go_wp2_with (first | (go_at_call 58; refine (sign1_spec _ _).mono ?_; rintro e w' ⟨rfl, hw⟩; subst w') | (go_at_call 61; refine (numOk_spec _ _).mono ?_; rintro e w' ⟨rfl, hw⟩; subst w') | (go_at_call 86; refine (in_spec _ _ _ _).mono ?_; rintro e w' ⟨rfl, hw⟩; subst w'))
    go_ret2
    exact ⟨ret_two' (by rw [E.out]) (by rw [E.out]), rfl⟩
  · have hx : ¬ (x = 0 ∨ x = 1) := by omega
    have E : Hid (oneV 126 x = (0, 2)) := by show oneV 126 x = _; rw [oneV_126 hk]; simp [invV, invC, hx]
    clear hx
    have q : (decide (0 ≤ x) && decide (x ≤ 1)) = false := by simp; omega
    go_enter Try.func60, Try.ntmps60
    go_wp2_with (first | (go_at_call 58; refine (sign1_spec _ _).mono ?_; rintro e w' ⟨rfl, hw⟩; subst w') | (go_at_call 61; refine (numOk_spec _ _).mono ?_; rintro e w' ⟨rfl, hw⟩; subst w') | (go_at_call 86; refine (in_spec _ _ _ _).mono ?_; rintro e w' ⟨rfl, hw⟩; subst w'; rw [q]))
    go_ret2
    exact ⟨ret_two' (by rw [E.out]) (by rw [E.out]), rfl⟩
/-- The specification's One, whatever it is given. -/
theorem one_spec (s x : Int) (w : World) :
    Calls Try.prog 60 #[.int .i64 s, .int .i64 x] w fun e w' => e = .returned (.tuple #[.int .i64 (oneV s x).1, .int .i64 (oneV s x).2]) ∧ w' = w := by
  by_cases hx : ok x = true
  · obtain ⟨h1, h2⟩ := ok_bd hx
    by_cases hs : sign1 s = true
    · rcases sign1_of hs with rfl | rfl | rfl | rfl | rfl
      · exact one_spec43 x h1 h2 w
      · exact one_spec45 x h1 h2 w
      · exact one_spec42 x h1 h2 w
      · exact one_spec124 x h1 h2 w
      · exact one_spec126 x h1 h2 w
    · have hs : sign1 s = false := by simpa using hs
      rw [oneV_none hs]
      exact one_specBad s x (.inl hs) w
  · have hx : ok x = false := by simpa using hx
    rw [oneV_bad hx]
    exact one_specBad s x (.inr hx) w
end Go.Proofs.Ytckbmbidpppncac
