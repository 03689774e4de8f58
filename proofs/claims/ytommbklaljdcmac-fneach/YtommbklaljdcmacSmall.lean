/-
  Walks: what the functions of Chapter 1 on one number (program and specification) answer, whatever they are given.
-/
import Derived.Test.YtommbklaljdcmacBase
import Derived.Test.YtommbklaljdcmacMath
import Derived.Laws.EntriesVeiled
namespace Go.Proofs.Ytommbklaljdcmac
open Go.RowKit
set_option maxHeartbeats 400000 in
theorem numOk_impl (x : Int) (w : World) : Calls Try.prog 34 #[.int .i64 x] w fun e w' => e = .returned (.bool (ok x)) ∧ w' = w := by
  go_enter Try.func34, Try.ntmps34
  go_wp2
  all_goals
    go_ret
    refine ⟨?_, rfl⟩
    simp_all [ok] <;> omega
set_option maxHeartbeats 400000 in
theorem in_spec (x l h : Int) (w : World) : Calls Try.prog 52 #[.int .i64 x, .int .i64 l, .int .i64 h] w fun e w' => e = .returned (.bool (decide (l ≤ x) && decide (x ≤ h))) ∧ w' = w := by
  go_enter Try.func52, Try.ntmps52
  go_wp2
  all_goals
    go_ret
    refine ⟨?_, rfl⟩
    simp_all <;> omega
set_option maxHeartbeats 400000 in
theorem numOk_spec (x : Int) (w : World) : Calls Try.prog 45 #[.int .i64 x] w fun e w' => e = .returned (.bool (ok x)) ∧ w' = w := by
  go_enter Try.func45, Try.ntmps45
  go_wp2_with (go_at_call 52; refine (in_spec _ _ _ _).mono ?_; rintro e w' ⟨rfl, rfl⟩)
  go_ret
  exact ⟨by simp [ok], rfl⟩
set_option maxHeartbeats 400000 in
theorem bit_spec (b : Bool) (w : World) : Calls Try.prog 57 #[.bool b] w fun e w' => e = .returned (.int .i64 (bit b)) ∧ w' = w := by
  cases b <;> (go_enter Try.func57, Try.ntmps57; go_wp2; go_ret; exact ⟨rfl, rfl⟩)
set_option maxHeartbeats 400000 in
theorem max_spec (a b : Int) (w : World) : Calls Try.prog 56 #[.int .i64 a, .int .i64 b] w fun e w' => e = .returned (.int .i64 (mx a b)) ∧ w' = w := by
  go_enter Try.func56, Try.ntmps56
  go_wp2
  all_goals
    go_ret
    refine ⟨?_, rfl⟩
    simp_all [mx] <;> omega
set_option maxHeartbeats 400000 in
theorem min_spec (a b : Int) (w : World) : Calls Try.prog 55 #[.int .i64 a, .int .i64 b] w fun e w' => e = .returned (.int .i64 (mn a b)) ∧ w' = w := by
  go_enter Try.func55, Try.ntmps55
  go_wp2
  all_goals
    go_ret
    refine ⟨?_, rfl⟩
    simp_all [mn] <;> omega
set_option maxHeartbeats 400000 in
theorem itself_impl (x : Int) (w : World) : Calls Try.prog 75 #[.int .i64 x] w fun e w' => e = .returned (.tuple #[.int .i64 x, .int .i64 0]) ∧ w' = w := by
  go_enter Try.func75, Try.ntmps75
  go_wp2
  go_ret2
  exact ⟨rfl, rfl⟩
set_option maxHeartbeats 400000 in
theorem negated_impl (x : Int) (h1 : -1000000000000 ≤ x) (h2 : x ≤ 1000000000000) (w : World) : Calls Try.prog 76 #[.int .i64 x] w fun e w' => e = .returned (.tuple #[.int .i64 (-x), .int .i64 0]) ∧ w' = w := by
  go_enter Try.func76, Try.ntmps76
  go_wp2
  go_ret2
  exact ⟨rfl, rfl⟩
set_option maxHeartbeats 400000 in
theorem direction_impl (x : Int) (w : World) : Calls Try.prog 77 #[.int .i64 x] w fun e w' => e = .returned (.tuple #[.int .i64 (sgn x), .int .i64 0]) ∧ w' = w := by
  go_enter Try.func77, Try.ntmps77
  go_wp2
  all_goals
    go_ret2
    refine ⟨?_, rfl⟩
    simp_all [sgn] <;> omega
set_option maxHeartbeats 400000 in
theorem withoutSign_impl (x : Int) (h1 : -1000000000000 ≤ x) (h2 : x ≤ 1000000000000) (w : World) : Calls Try.prog 86 #[.int .i64 x] w fun e w' => e = .returned (.int .i64 (mag x)) ∧ w' = w := by
  go_enter Try.func86, Try.ntmps86
  go_wp2
  all_goals
    go_ret
    refine ⟨?_, rfl⟩
    simp_all [mag] <;> omega
set_option maxHeartbeats 400000 in
theorem magnitude_impl (x : Int) (h1 : -1000000000000 ≤ x) (h2 : x ≤ 1000000000000) (w : World) : Calls Try.prog 78 #[.int .i64 x] w fun e w' => e = .returned (.tuple #[.int .i64 (mag x), .int .i64 0]) ∧ w' = w := by
  go_enter Try.func78, Try.ntmps78
  go_wp2_with (go_at_call 86; refine (withoutSign_impl _ h1 h2 _).mono ?_; rintro e w' ⟨rfl, rfl⟩)
  go_ret2
  exact ⟨rfl, rfl⟩
set_option maxHeartbeats 400000 in
theorem inverted_impl (x : Int) (h1 : -1000000000000 ≤ x) (h2 : x ≤ 1000000000000) (w : World) : Calls Try.prog 79 #[.int .i64 x] w fun e w' => e = .returned (.tuple #[.int .i64 (invV x), .int .i64 (invC x)]) ∧ w' = w := by
  go_enter Try.func79, Try.ntmps79
  go_wp2
  all_goals
    go_ret2
    refine ⟨?_, rfl⟩
    simp_all [invV, invC] <;> omega
end Go.Proofs.Ytommbklaljdcmac
namespace Go.Proofs.Ytommbklaljdcmac
open Go.RowKit
theorem ret_int' {k : IntKind} {a b : Int} (h : a = b) : Ending.returned (.int k a) = .returned (.int k b) := by rw [h]
theorem ret_two' {a b c d : Int} (h : a = b) (h' : c = d) : Ending.returned (.tuple #[.int .i64 a, .int .i64 c]) = .returned (.tuple #[.int .i64 b, .int .i64 d]) := by rw [h, h']
theorem ret_bool {a b : Bool} (h : a = b) : Ending.returned (.bool a) = .returned (.bool b) := by rw [h]
set_option maxHeartbeats 400000 in
theorem sign1_spec (s : Int) (w : World) : Calls Try.prog 42 #[.int .i64 s] w fun e w' => e = .returned (.bool (sign1 s)) ∧ w' = w := by
  go_enter Try.func42, Try.ntmps42
  go_wp2
  all_goals
    go_ret
    refine ⟨ret_bool ?_, rfl⟩
    simp_all [sign1]
set_option maxHeartbeats 400000 in
theorem sign2_spec (s : Int) (w : World) : Calls Try.prog 25 #[.int .i64 s] w fun e w' => e = .returned (.bool (sign2 s)) ∧ w' = w := by
  go_enter Try.func25, Try.ntmps25
  go_wp2
  all_goals
    go_ret
    refine ⟨ret_bool ?_, rfl⟩
    simp_all [sign2]
set_option maxHeartbeats 400000 in
theorem one_specBad (s x : Int) (h : sign1 s = false ∨ ok x = false) (w : World) :
    Calls Try.prog 44 #[.int .i64 s, .int .i64 x] w fun e w' => e = .returned (.tuple #[.int .i64 0, .int .i64 1]) ∧ w' = w := by
  by_cases hs : sign1 s = true
  · have hx : ok x = false := by simpa [hs] using h
    clear h
    go_enter Try.func44, Try.ntmps44
    go_wp2_with (first | (go_at_call 42; refine (sign1_spec _ _).mono ?_; rintro e w' ⟨rfl, hw⟩; subst w') | (go_at_call 45; refine (numOk_spec _ _).mono ?_; rintro e w' ⟨rfl, hw⟩; subst w'))
    go_ret2
    exact ⟨rfl, rfl⟩
  · have hs : sign1 s = false := by simpa using hs
    clear h
    go_enter Try.func44, Try.ntmps44
    go_wp2_with (first | (go_at_call 42; refine (sign1_spec _ _).mono ?_; rintro e w' ⟨rfl, hw⟩; subst w') | (go_at_call 45; refine (numOk_spec _ _).mono ?_; rintro e w' ⟨rfl, hw⟩; subst w'))
    go_ret2
    exact ⟨rfl, rfl⟩
set_option maxHeartbeats 400000 in
theorem one_spec43 (x : Int) (h1 : -1000000000000 ≤ x) (h2 : x ≤ 1000000000000) (w : World) :
    Calls Try.prog 44 #[.int .i64 43, .int .i64 x] w fun e w' => e = .returned (.tuple #[.int .i64 (oneV 43 x).1, .int .i64 (oneV 43 x).2]) ∧ w' = w := by
  have hk := ok_mk h1 h2
  have hs : sign1 43 = true := by decide
  go_enter Try.func44, Try.ntmps44
  go_wp2_with (first | (go_at_call 42; refine (sign1_spec _ _).mono ?_; rintro e w' ⟨rfl, hw⟩; subst w') | (go_at_call 45; refine (numOk_spec _ _).mono ?_; rintro e w' ⟨rfl, hw⟩; subst w'))
  go_ret2
  exact ⟨ret_two' (by rw [oneV_43 hk]) (by rw [oneV_43 hk]), rfl⟩
set_option maxHeartbeats 400000 in
theorem one_spec45 (x : Int) (h1 : -1000000000000 ≤ x) (h2 : x ≤ 1000000000000) (w : World) :
    Calls Try.prog 44 #[.int .i64 45, .int .i64 x] w fun e w' => e = .returned (.tuple #[.int .i64 (oneV 45 x).1, .int .i64 (oneV 45 x).2]) ∧ w' = w := by
  have hk := ok_mk h1 h2
  have hs : sign1 45 = true := by decide
  go_enter Try.func44, Try.ntmps44
  go_wp2_with (first | (go_at_call 42; refine (sign1_spec _ _).mono ?_; rintro e w' ⟨rfl, hw⟩; subst w') | (go_at_call 45; refine (numOk_spec _ _).mono ?_; rintro e w' ⟨rfl, hw⟩; subst w'))
  go_ret2
  exact ⟨ret_two' (by rw [oneV_45 hk]) (by rw [oneV_45 hk]), rfl⟩
set_option maxHeartbeats 400000 in
theorem one_spec42 (x : Int) (h1 : -1000000000000 ≤ x) (h2 : x ≤ 1000000000000) (w : World) :
    Calls Try.prog 44 #[.int .i64 42, .int .i64 x] w fun e w' => e = .returned (.tuple #[.int .i64 (oneV 42 x).1, .int .i64 (oneV 42 x).2]) ∧ w' = w := by
  have hk := ok_mk h1 h2
  have hs : sign1 42 = true := by decide
  obtain ⟨p1, p2⟩ := bit_bd (decide (0 < x))
  obtain ⟨q1, q2⟩ := bit_bd (decide (x < 0))
  go_enter Try.func44, Try.ntmps44
  go_wp2_with (first | (go_at_call 42; refine (sign1_spec _ _).mono ?_; rintro e w' ⟨rfl, hw⟩; subst w') | (go_at_call 45; refine (numOk_spec _ _).mono ?_; rintro e w' ⟨rfl, hw⟩; subst w') | (go_at_call 57; refine (bit_spec _ _).mono ?_; rintro e w' ⟨rfl, hw⟩; subst w'))
  go_ret2
  exact ⟨ret_two' (by rw [oneV_42 hk]; exact sgn_bits x) (by rw [oneV_42 hk]), rfl⟩
set_option maxHeartbeats 400000 in
theorem one_spec124 (x : Int) (h1 : -1000000000000 ≤ x) (h2 : x ≤ 1000000000000) (w : World) :
    Calls Try.prog 44 #[.int .i64 124, .int .i64 x] w fun e w' => e = .returned (.tuple #[.int .i64 (oneV 124 x).1, .int .i64 (oneV 124 x).2]) ∧ w' = w := by
  have hk := ok_mk h1 h2
  have hs : sign1 124 = true := by decide
  go_enter Try.func44, Try.ntmps44
  go_wp2_with (first | (go_at_call 42; refine (sign1_spec _ _).mono ?_; rintro e w' ⟨rfl, hw⟩; subst w') | (go_at_call 45; refine (numOk_spec _ _).mono ?_; rintro e w' ⟨rfl, hw⟩; subst w') | (go_at_call 56; refine (max_spec _ _ _).mono ?_; rintro e w' ⟨rfl, hw⟩; subst w'))
  go_ret2
  exact ⟨ret_two' (by rw [oneV_124 hk]; exact mx_mag x) (by rw [oneV_124 hk]), rfl⟩
set_option maxHeartbeats 400000 in
theorem one_spec126 (x : Int) (h1 : -1000000000000 ≤ x) (h2 : x ≤ 1000000000000) (w : World) :
    Calls Try.prog 44 #[.int .i64 126, .int .i64 x] w fun e w' => e = .returned (.tuple #[.int .i64 (oneV 126 x).1, .int .i64 (oneV 126 x).2]) ∧ w' = w := by
  have hk := ok_mk h1 h2
  have hs : sign1 126 = true := by decide
  by_cases p : 0 ≤ x ∧ x ≤ 1
  · have hx : x = 0 ∨ x = 1 := by omega
    have E : Hid (oneV 126 x = (1 - x, 0)) := by show oneV 126 x = _; rw [oneV_126 hk]; simp [invV, invC, hx]
    clear hx
    obtain ⟨p1, p2⟩ := p
    go_enter Try.func44, Try.ntmps44
    go_wp2_with (first | (go_at_call 42; refine (sign1_spec _ _).mono ?_; rintro e w' ⟨rfl, hw⟩; subst w') | (go_at_call 45; refine (numOk_spec _ _).mono ?_; rintro e w' ⟨rfl, hw⟩; subst w') | (go_at_call 52; refine (in_spec _ _ _ _).mono ?_; rintro e w' ⟨rfl, hw⟩; subst w'))
    go_ret2
    exact ⟨ret_two' (by rw [E.out]) (by rw [E.out]), rfl⟩
  · have hx : ¬ (x = 0 ∨ x = 1) := by omega
    have E : Hid (oneV 126 x = (0, 2)) := by show oneV 126 x = _; rw [oneV_126 hk]; simp [invV, invC, hx]
    clear hx
    have q : (decide (0 ≤ x) && decide (x ≤ 1)) = false := by simp; omega
    go_enter Try.func44, Try.ntmps44
    go_wp2_with (first | (go_at_call 42; refine (sign1_spec _ _).mono ?_; rintro e w' ⟨rfl, hw⟩; subst w') | (go_at_call 45; refine (numOk_spec _ _).mono ?_; rintro e w' ⟨rfl, hw⟩; subst w') | (go_at_call 52; refine (in_spec _ _ _ _).mono ?_; rintro e w' ⟨rfl, hw⟩; subst w'; rw [q]))
    go_ret2
    exact ⟨ret_two' (by rw [E.out]) (by rw [E.out]), rfl⟩
/-- The specification's One, whatever it is given. -/
theorem one_spec (s x : Int) (w : World) :
    Calls Try.prog 44 #[.int .i64 s, .int .i64 x] w fun e w' => e = .returned (.tuple #[.int .i64 (oneV s x).1, .int .i64 (oneV s x).2]) ∧ w' = w := by
  by_cases hx : ok x = true
  · obtain ⟨h1, h2⟩ := ok_bd hx
    by_cases hs : sign1 s = true
    · rcases sign1_of hs with rfl | rfl | rfl | rfl | rfl
      · exact one_spec43 x h1 h2 w
      · exact one_spec45 x h1 h2 w
      · exact one_spec42 x h1 h2 w
      · exact one_spec124 x h1 h2 w
      · exact one_spec126 x h1 h2 w
    · have hs : sign1 s = false := by simpa using hs
      rw [oneV_none hs]
      exact one_specBad s x (.inl hs) w
  · have hx : ok x = false := by simpa using hx
    rw [oneV_bad hx]
    exact one_specBad s x (.inr hx) w
end Go.Proofs.Ytommbklaljdcmac
namespace Go.Proofs.Ytommbklaljdcmac
open Go.RowKit
set_option maxHeartbeats 400000 in
theorem floor_spec (a b : Int) (hb : b ≠ 0) (a1 : -1000000000000 ≤ a) (a2 : a ≤ 1000000000000) (b1 : -1000000000000 ≤ b) (b2 : b ≤ 1000000000000) (w : World) :
    Calls Try.prog 54 #[.int .i64 a, .int .i64 b] w fun e w' => e = .returned (.int .i64 (flo a b)) ∧ w' = w := by
  have HG : Hid (flo a b = if a.tmod b ≠ 0 ∧ (decide (a < 0) != decide (b < 0)) = true then a.tdiv b - 1 else a.tdiv b) := flo_go a b hb
  obtain ⟨t1, t2⟩ := tdiv_bd (b := b) a1 a2
  have _ := b1
  have _ := b2
  go_enter Try.func54, Try.ntmps54
  go_wp2
  all_goals
    go_ret
    refine ⟨ret_int' ?_, rfl⟩
    rw [HG.out]
    simp_all [bne]
set_option maxHeartbeats 400000 in
theorem times_spec0 (a b : Int) (h : a = 0 ∨ b = 0) (w : World) :
    Calls Try.prog 53 #[.int .i64 a, .int .i64 b] w fun e w' => e = .returned (.tuple #[.int .i64 0, .bool true]) ∧ w' = w := by
  by_cases p : a = 0
  · subst p
    go_enter Try.func53, Try.ntmps53
    go_wp2
    go_ret2
    exact ⟨rfl, rfl⟩
  · have q : b = 0 := by omega
    have p' : (a == 0) = false := by simpa using p
    subst q
    clear h
    go_enter Try.func53, Try.ntmps53
    go_wp2
    go_ret2
    exact ⟨rfl, rfl⟩
set_option maxHeartbeats 400000 in
theorem times_spec1 (a b : Int) (a1 : -1000000000000 ≤ a) (a2 : a ≤ 1000000000000) (b1 : -1000000000000 ≤ b) (b2 : b ≤ 1000000000000) (ha : a ≠ 0) (hb : b ≠ 0) (h : ok (a * b) = false) (w : World) :
    Calls Try.prog 53 #[.int .i64 a, .int .i64 b] w fun e w' => e = .returned (.tuple #[.int .i64 0, .bool false]) ∧ w' = w := by
  have ha' : (a == 0) = false := by simpa using ha
  have hb' : (b == 0) = false := by simpa using hb
  have hb0 : 0 < mag b := by unfold mag; split <;> omega
  have hg : 1000000000000 / mag b < mag a := by
    by_cases p : 1000000000000 / mag b < mag a
    · exact p
    · rw [times_small p hb] at h; cases h
  clear h
  go_enter Try.func53, Try.ntmps53
  go_wp2_with (go_at_call 56; refine (max_spec _ _ _).mono ?_; rintro e w' ⟨rfl, hw⟩; subst w'; rw [mx_mag])
  go_ret2
  exact ⟨rfl, rfl⟩
set_option maxHeartbeats 400000 in
theorem times_spec2 (a b : Int) (a1 : -1000000000000 ≤ a) (a2 : a ≤ 1000000000000) (b1 : -1000000000000 ≤ b) (b2 : b ≤ 1000000000000) (ha : a ≠ 0) (hb : b ≠ 0) (h : ok (a * b) = true) (w : World) :
    Calls Try.prog 53 #[.int .i64 a, .int .i64 b] w fun e w' => e = .returned (.tuple #[.int .i64 (a * b), .bool true]) ∧ w' = w := by
  have ha' : (a == 0) = false := by simpa using ha
  have hb' : (b == 0) = false := by simpa using hb
  have hb0 : 0 < mag b := by unfold mag; split <;> omega
  have hg : ¬ 1000000000000 / mag b < mag a := fun p => by rw [times_big p hb] at h; cases h
  obtain ⟨p1, p2⟩ := ok_bd h
  clear h
  go_enter Try.func53, Try.ntmps53
  go_wp2_with (go_at_call 56; refine (max_spec _ _ _).mono ?_; rintro e w' ⟨rfl, hw⟩; subst w'; rw [mx_mag])
  go_ret2
  exact ⟨rfl, rfl⟩
set_option maxHeartbeats 1000000 in
theorem two_specBad (s a b : Int) (h : sign2 s = false ∨ ok a = false ∨ ok b = false) (w : World) :
    Calls Try.prog 28 #[.int .i64 s, .int .i64 a, .int .i64 b] w fun e w' => e = .returned (.tuple #[.int .i64 0, .int .i64 1]) ∧ w' = w := by
  by_cases hs : sign2 s = true
  · by_cases ha : ok a = true
    · have hb : ok b = false := by simpa [hs, ha] using h
      clear h
      go_enter Try.func28, Try.ntmps28
      go_wp2_with (first | (go_at_call 25; refine (sign2_spec _ _).mono ?_; rintro e w' ⟨rfl, hw⟩; subst w') | (go_at_call 45; refine (numOk_spec _ _).mono ?_; rintro e w' ⟨rfl, hw⟩; subst w'))
      go_ret2
      exact ⟨rfl, rfl⟩
    · have ha : ok a = false := by simpa using ha
      clear h
      go_enter Try.func28, Try.ntmps28
      go_wp2_with (first | (go_at_call 25; refine (sign2_spec _ _).mono ?_; rintro e w' ⟨rfl, hw⟩; subst w') | (go_at_call 45; refine (numOk_spec _ _).mono ?_; rintro e w' ⟨rfl, hw⟩; subst w'))
      go_ret2
      exact ⟨rfl, rfl⟩
  · have hs : sign2 s = false := by simpa using hs
    clear h
    go_enter Try.func28, Try.ntmps28
    go_wp2_with (first | (go_at_call 25; refine (sign2_spec _ _).mono ?_; rintro e w' ⟨rfl, hw⟩; subst w') | (go_at_call 45; refine (numOk_spec _ _).mono ?_; rintro e w' ⟨rfl, hw⟩; subst w'))
    go_ret2
    exact ⟨rfl, rfl⟩
set_option maxHeartbeats 1000000 in
theorem two_spec43 (a b : Int) (a1 : -1000000000000 ≤ a) (a2 : a ≤ 1000000000000) (b1 : -1000000000000 ≤ b) (b2 : b ≤ 1000000000000) (w : World) :
    Calls Try.prog 28 #[.int .i64 43, .int .i64 a, .int .i64 b] w fun e w' => e = .returned (.tuple #[.int .i64 (twoV 43 a b).1, .int .i64 (twoV 43 a b).2]) ∧ w' = w := by
  have ka := ok_mk a1 a2
  have kb := ok_mk b1 b2
  have hs : sign2 43 = true := by decide
  by_cases hv : ok (a + b) = true
  · go_enter Try.func28, Try.ntmps28
    go_wp2_with (first | (go_at_call 25; refine (sign2_spec _ _).mono ?_; rintro e w' ⟨rfl, hw⟩; subst w') | (go_at_call 45; refine (numOk_spec _ _).mono ?_; rintro e w' ⟨rfl, hw⟩; subst w'))
    go_ret2
    exact ⟨ret_two' (by rw [twoV_43 ka kb]; exact (lim_yes hv).1.symm) (by rw [twoV_43 ka kb]; exact (lim_yes hv).2.symm), rfl⟩
  · have hv : ok (a + b) = false := by simpa using hv
    go_enter Try.func28, Try.ntmps28
    go_wp2_with (first | (go_at_call 25; refine (sign2_spec _ _).mono ?_; rintro e w' ⟨rfl, hw⟩; subst w') | (go_at_call 45; refine (numOk_spec _ _).mono ?_; rintro e w' ⟨rfl, hw⟩; subst w'))
    go_ret2
    exact ⟨ret_two' (by rw [twoV_43 ka kb]; exact (lim_no hv).1.symm) (by rw [twoV_43 ka kb]; exact (lim_no hv).2.symm), rfl⟩
set_option maxHeartbeats 1000000 in
theorem two_spec45 (a b : Int) (a1 : -1000000000000 ≤ a) (a2 : a ≤ 1000000000000) (b1 : -1000000000000 ≤ b) (b2 : b ≤ 1000000000000) (w : World) :
    Calls Try.prog 28 #[.int .i64 45, .int .i64 a, .int .i64 b] w fun e w' => e = .returned (.tuple #[.int .i64 (twoV 45 a b).1, .int .i64 (twoV 45 a b).2]) ∧ w' = w := by
  have ka := ok_mk a1 a2
  have kb := ok_mk b1 b2
  have hs : sign2 45 = true := by decide
  by_cases hv : ok (a - b) = true
  · go_enter Try.func28, Try.ntmps28
    go_wp2_with (first | (go_at_call 25; refine (sign2_spec _ _).mono ?_; rintro e w' ⟨rfl, hw⟩; subst w') | (go_at_call 45; refine (numOk_spec _ _).mono ?_; rintro e w' ⟨rfl, hw⟩; subst w'))
    go_ret2
    exact ⟨ret_two' (by rw [twoV_45 ka kb]; exact (lim_yes hv).1.symm) (by rw [twoV_45 ka kb]; exact (lim_yes hv).2.symm), rfl⟩
  · have hv : ok (a - b) = false := by simpa using hv
    go_enter Try.func28, Try.ntmps28
    go_wp2_with (first | (go_at_call 25; refine (sign2_spec _ _).mono ?_; rintro e w' ⟨rfl, hw⟩; subst w') | (go_at_call 45; refine (numOk_spec _ _).mono ?_; rintro e w' ⟨rfl, hw⟩; subst w'))
    go_ret2
    exact ⟨ret_two' (by rw [twoV_45 ka kb]; exact (lim_no hv).1.symm) (by rw [twoV_45 ka kb]; exact (lim_no hv).2.symm), rfl⟩
set_option maxHeartbeats 1000000 in
theorem two_spec42z (a b : Int) (a1 : -1000000000000 ≤ a) (a2 : a ≤ 1000000000000) (b1 : -1000000000000 ≤ b) (b2 : b ≤ 1000000000000) (h0 : a = 0 ∨ b = 0) (w : World) :
    Calls Try.prog 28 #[.int .i64 42, .int .i64 a, .int .i64 b] w fun e w' => e = .returned (.tuple #[.int .i64 (twoV 42 a b).1, .int .i64 (twoV 42 a b).2]) ∧ w' = w := by
  have ka := ok_mk a1 a2
  have kb := ok_mk b1 b2
  have hs : sign2 42 = true := by decide
  have hz : a * b = 0 := by rcases h0 with h0 | h0 <;> simp [h0]
  have HZ : Hid (a * b = 0) := hz
  clear hz
  by_cases hv : ok ((0 : Int)) = true
  · go_enter Try.func28, Try.ntmps28
    go_wp2_with (first | (go_at_call 25; refine (sign2_spec _ _).mono ?_; rintro e w' ⟨rfl, hw⟩; subst w') | (go_at_call 53; refine (times_spec0 _ _ h0 _).mono ?_; rintro e w' ⟨rfl, hw⟩; subst w') | (go_at_call 45; refine (numOk_spec _ _).mono ?_; rintro e w' ⟨rfl, hw⟩; subst w'))
    go_ret2
    exact ⟨ret_two' (by rw [twoV_42 ka kb, HZ.out]; exact (lim_yes hv).1.symm) (by rw [twoV_42 ka kb, HZ.out]; exact (lim_yes hv).2.symm), rfl⟩
  · have hv : ok ((0 : Int)) = false := by simpa using hv
    go_enter Try.func28, Try.ntmps28
    go_wp2_with (first | (go_at_call 25; refine (sign2_spec _ _).mono ?_; rintro e w' ⟨rfl, hw⟩; subst w') | (go_at_call 53; refine (times_spec0 _ _ h0 _).mono ?_; rintro e w' ⟨rfl, hw⟩; subst w') | (go_at_call 45; refine (numOk_spec _ _).mono ?_; rintro e w' ⟨rfl, hw⟩; subst w'))
    go_ret2
    exact ⟨ret_two' (by rw [twoV_42 ka kb, HZ.out]; exact (lim_no hv).1.symm) (by rw [twoV_42 ka kb, HZ.out]; exact (lim_no hv).2.symm), rfl⟩
set_option maxHeartbeats 1000000 in
theorem two_spec42n (a b : Int) (a1 : -1000000000000 ≤ a) (a2 : a ≤ 1000000000000) (b1 : -1000000000000 ≤ b) (b2 : b ≤ 1000000000000) (ha : a ≠ 0) (hb : b ≠ 0) (w : World) :
    Calls Try.prog 28 #[.int .i64 42, .int .i64 a, .int .i64 b] w fun e w' => e = .returned (.tuple #[.int .i64 (twoV 42 a b).1, .int .i64 (twoV 42 a b).2]) ∧ w' = w := by
  have ka := ok_mk a1 a2
  have kb := ok_mk b1 b2
  have hs : sign2 42 = true := by decide
  by_cases hv : ok (a * b) = true
  · go_enter Try.func28, Try.ntmps28
    go_wp2_with (first | (go_at_call 25; refine (sign2_spec _ _).mono ?_; rintro e w' ⟨rfl, hw⟩; subst w') | (go_at_call 53; refine (times_spec2 _ _ a1 a2 b1 b2 ha hb hv _).mono ?_; rintro e w' ⟨rfl, hw⟩; subst w') | (go_at_call 45; refine (numOk_spec _ _).mono ?_; rintro e w' ⟨rfl, hw⟩; subst w'))
    go_ret2
    exact ⟨ret_two' (by rw [twoV_42 ka kb]; exact (lim_yes hv).1.symm) (by rw [twoV_42 ka kb]; exact (lim_yes hv).2.symm), rfl⟩
  · have hv : ok (a * b) = false := by simpa using hv
    go_enter Try.func28, Try.ntmps28
    go_wp2_with (first | (go_at_call 25; refine (sign2_spec _ _).mono ?_; rintro e w' ⟨rfl, hw⟩; subst w') | (go_at_call 53; refine (times_spec1 _ _ a1 a2 b1 b2 ha hb hv _).mono ?_; rintro e w' ⟨rfl, hw⟩; subst w') | (go_at_call 45; refine (numOk_spec _ _).mono ?_; rintro e w' ⟨rfl, hw⟩; subst w'))
    go_ret2
    exact ⟨ret_two' (by rw [twoV_42 ka kb]; exact (lim_no hv).1.symm) (by rw [twoV_42 ka kb]; exact (lim_no hv).2.symm), rfl⟩
set_option maxHeartbeats 1000000 in
theorem two_spec37z (a : Int) (a1 : -1000000000000 ≤ a) (a2 : a ≤ 1000000000000) (w : World) :
    Calls Try.prog 28 #[.int .i64 37, .int .i64 a, .int .i64 0] w fun e w' => e = .returned (.tuple #[.int .i64 (twoV 37 a 0).1, .int .i64 (twoV 37 a 0).2]) ∧ w' = w := by
  have ka := ok_mk a1 a2
  have kb : ok 0 = true := by decide
  have hs : sign2 37 = true := by decide
  have E : Hid (twoV 37 a 0 = (0, 2)) := twoV_37n ka kb rfl
  go_enter Try.func28, Try.ntmps28
  go_wp2_with (first | (go_at_call 25; refine (sign2_spec _ _).mono ?_; rintro e w' ⟨rfl, hw⟩; subst w') | (go_at_call 45; refine (numOk_spec _ _).mono ?_; rintro e w' ⟨rfl, hw⟩; subst w'))
  go_ret2
  exact ⟨ret_two' (by rw [E.out]) (by rw [E.out]), rfl⟩
set_option maxHeartbeats 1000000 in
theorem two_spec37n (a b : Int) (a1 : -1000000000000 ≤ a) (a2 : a ≤ 1000000000000) (b1 : -1000000000000 ≤ b) (b2 : b ≤ 1000000000000) (hb : b ≠ 0) (w : World) :
    Calls Try.prog 28 #[.int .i64 37, .int .i64 a, .int .i64 b] w fun e w' => e = .returned (.tuple #[.int .i64 (twoV 37 a b).1, .int .i64 (twoV 37 a b).2]) ∧ w' = w := by
  have ka := ok_mk a1 a2
  have kb := ok_mk b1 b2
  have hs : sign2 37 = true := by decide
  have hb' : (b == 0) = false := by simpa using hb
  by_cases hv : ok (flo a b) = true
  · go_enter Try.func28, Try.ntmps28
    go_wp2_with (first | (go_at_call 25; refine (sign2_spec _ _).mono ?_; rintro e w' ⟨rfl, hw⟩; subst w') | (go_at_call 54; refine (floor_spec _ _ hb a1 a2 b1 b2 _).mono ?_; rintro e w' ⟨rfl, hw⟩; subst w') | (go_at_call 45; refine (numOk_spec _ _).mono ?_; rintro e w' ⟨rfl, hw⟩; subst w'))
    go_ret2
    exact ⟨ret_two' (by rw [twoV_37 ka kb hb]; exact (lim_yes hv).1.symm) (by rw [twoV_37 ka kb hb]; exact (lim_yes hv).2.symm), rfl⟩
  · have hv : ok (flo a b) = false := by simpa using hv
    go_enter Try.func28, Try.ntmps28
    go_wp2_with (first | (go_at_call 25; refine (sign2_spec _ _).mono ?_; rintro e w' ⟨rfl, hw⟩; subst w') | (go_at_call 54; refine (floor_spec _ _ hb a1 a2 b1 b2 _).mono ?_; rintro e w' ⟨rfl, hw⟩; subst w') | (go_at_call 45; refine (numOk_spec _ _).mono ?_; rintro e w' ⟨rfl, hw⟩; subst w'))
    go_ret2
    exact ⟨ret_two' (by rw [twoV_37 ka kb hb]; exact (lim_no hv).1.symm) (by rw [twoV_37 ka kb hb]; exact (lim_no hv).2.symm), rfl⟩
set_option maxHeartbeats 1000000 in
theorem two_spec124z (a b : Int) (a1 : -1000000000000 ≤ a) (a2 : a ≤ 1000000000000) (b1 : -1000000000000 ≤ b) (b2 : b ≤ 1000000000000) (ha : a = 0) (w : World) :
    Calls Try.prog 28 #[.int .i64 124, .int .i64 a, .int .i64 b] w fun e w' => e = .returned (.tuple #[.int .i64 (twoV 124 a b).1, .int .i64 (twoV 124 a b).2]) ∧ w' = w := by
  have ka := ok_mk a1 a2
  have kb := ok_mk b1 b2
  have hs : sign2 124 = true := by decide
  go_enter Try.func28, Try.ntmps28
  go_wp2_with (first | (go_at_call 25; refine (sign2_spec _ _).mono ?_; rintro e w' ⟨rfl, hw⟩; subst w') | (go_at_call 45; refine (numOk_spec _ _).mono ?_; rintro e w' ⟨rfl, hw⟩; subst w'))
  go_ret2
  exact ⟨ret_two' (by rw [twoV_124 ka kb, if_pos ha]; exact (lim_yes kb).1.symm) (by rw [twoV_124 ka kb, if_pos ha]; exact (lim_yes kb).2.symm), rfl⟩
set_option maxHeartbeats 1000000 in
theorem two_spec124n (a b : Int) (a1 : -1000000000000 ≤ a) (a2 : a ≤ 1000000000000) (b1 : -1000000000000 ≤ b) (b2 : b ≤ 1000000000000) (ha : a ≠ 0) (w : World) :
    Calls Try.prog 28 #[.int .i64 124, .int .i64 a, .int .i64 b] w fun e w' => e = .returned (.tuple #[.int .i64 (twoV 124 a b).1, .int .i64 (twoV 124 a b).2]) ∧ w' = w := by
  have ka := ok_mk a1 a2
  have kb := ok_mk b1 b2
  have hs : sign2 124 = true := by decide
  have ha' : (a == 0) = false := by simpa using ha
  have he : Hid (b - a * flo b a = rst b a) := rst_eq b a
  obtain ⟨r1, r2⟩ := rst_bd (a := b) ha a1 a2
  have hv : ok (b - a * flo b a) = true := by rw [he.out]; exact ok_mk r1 r2
  have p1 : -2000000000000 ≤ a * flo b a := by have := he.out; omega
  have p2 : a * flo b a ≤ 2000000000000 := by have := he.out; omega
  clear r1 r2
  go_enter Try.func28, Try.ntmps28
  go_wp2_with (first | (go_at_call 25; refine (sign2_spec _ _).mono ?_; rintro e w' ⟨rfl, hw⟩; subst w') | (go_at_call 54; refine (floor_spec _ _ ha b1 b2 a1 a2 _).mono ?_; rintro e w' ⟨rfl, hw⟩; subst w') | (go_at_call 45; refine (numOk_spec _ _).mono ?_; rintro e w' ⟨rfl, hw⟩; subst w'))
  go_ret2
  exact ⟨ret_two' (by rw [twoV_124 ka kb, if_neg ha, ← he.out]; exact (lim_yes hv).1.symm) (by rw [twoV_124 ka kb, if_neg ha, ← he.out]; exact (lim_yes hv).2.symm), rfl⟩
set_option maxHeartbeats 1000000 in
theorem two_spec38 (a b : Int) (a1 : -1000000000000 ≤ a) (a2 : a ≤ 1000000000000) (b1 : -1000000000000 ≤ b) (b2 : b ≤ 1000000000000) (w : World) :
    Calls Try.prog 28 #[.int .i64 38, .int .i64 a, .int .i64 b] w fun e w' => e = .returned (.tuple #[.int .i64 (twoV 38 a b).1, .int .i64 (twoV 38 a b).2]) ∧ w' = w := by
  have ka := ok_mk a1 a2
  have kb := ok_mk b1 b2
  have hs : sign2 38 = true := by decide
  by_cases hv : ok (mn a b) = true
  · go_enter Try.func28, Try.ntmps28
    go_wp2_with (first | (go_at_call 25; refine (sign2_spec _ _).mono ?_; rintro e w' ⟨rfl, hw⟩; subst w') | (go_at_call 55; refine (min_spec _ _ _).mono ?_; rintro e w' ⟨rfl, hw⟩; subst w') | (go_at_call 45; refine (numOk_spec _ _).mono ?_; rintro e w' ⟨rfl, hw⟩; subst w'))
    go_ret2
    exact ⟨ret_two' (by rw [twoV_38 ka kb]; exact (lim_yes hv).1.symm) (by rw [twoV_38 ka kb]; exact (lim_yes hv).2.symm), rfl⟩
  · have hv : ok (mn a b) = false := by simpa using hv
    go_enter Try.func28, Try.ntmps28
    go_wp2_with (first | (go_at_call 25; refine (sign2_spec _ _).mono ?_; rintro e w' ⟨rfl, hw⟩; subst w') | (go_at_call 55; refine (min_spec _ _ _).mono ?_; rintro e w' ⟨rfl, hw⟩; subst w') | (go_at_call 45; refine (numOk_spec _ _).mono ?_; rintro e w' ⟨rfl, hw⟩; subst w'))
    go_ret2
    exact ⟨ret_two' (by rw [twoV_38 ka kb]; exact (lim_no hv).1.symm) (by rw [twoV_38 ka kb]; exact (lim_no hv).2.symm), rfl⟩
set_option maxHeartbeats 1000000 in
theorem two_spec94 (a b : Int) (a1 : -1000000000000 ≤ a) (a2 : a ≤ 1000000000000) (b1 : -1000000000000 ≤ b) (b2 : b ≤ 1000000000000) (w : World) :
    Calls Try.prog 28 #[.int .i64 94, .int .i64 a, .int .i64 b] w fun e w' => e = .returned (.tuple #[.int .i64 (twoV 94 a b).1, .int .i64 (twoV 94 a b).2]) ∧ w' = w := by
  have ka := ok_mk a1 a2
  have kb := ok_mk b1 b2
  have hs : sign2 94 = true := by decide
  by_cases hv : ok (mx a b) = true
  · go_enter Try.func28, Try.ntmps28
    go_wp2_with (first | (go_at_call 25; refine (sign2_spec _ _).mono ?_; rintro e w' ⟨rfl, hw⟩; subst w') | (go_at_call 56; refine (max_spec _ _ _).mono ?_; rintro e w' ⟨rfl, hw⟩; subst w') | (go_at_call 45; refine (numOk_spec _ _).mono ?_; rintro e w' ⟨rfl, hw⟩; subst w'))
    go_ret2
    exact ⟨ret_two' (by rw [twoV_94 ka kb]; exact (lim_yes hv).1.symm) (by rw [twoV_94 ka kb]; exact (lim_yes hv).2.symm), rfl⟩
  · have hv : ok (mx a b) = false := by simpa using hv
    go_enter Try.func28, Try.ntmps28
    go_wp2_with (first | (go_at_call 25; refine (sign2_spec _ _).mono ?_; rintro e w' ⟨rfl, hw⟩; subst w') | (go_at_call 56; refine (max_spec _ _ _).mono ?_; rintro e w' ⟨rfl, hw⟩; subst w') | (go_at_call 45; refine (numOk_spec _ _).mono ?_; rintro e w' ⟨rfl, hw⟩; subst w'))
    go_ret2
    exact ⟨ret_two' (by rw [twoV_94 ka kb]; exact (lim_no hv).1.symm) (by rw [twoV_94 ka kb]; exact (lim_no hv).2.symm), rfl⟩
set_option maxHeartbeats 1000000 in
theorem two_spec61 (a b : Int) (a1 : -1000000000000 ≤ a) (a2 : a ≤ 1000000000000) (b1 : -1000000000000 ≤ b) (b2 : b ≤ 1000000000000) (w : World) :
    Calls Try.prog 28 #[.int .i64 61, .int .i64 a, .int .i64 b] w fun e w' => e = .returned (.tuple #[.int .i64 (twoV 61 a b).1, .int .i64 (twoV 61 a b).2]) ∧ w' = w := by
  have ka := ok_mk a1 a2
  have kb := ok_mk b1 b2
  have hs : sign2 61 = true := by decide
  by_cases hv : ok (bit (a == b)) = true
  · go_enter Try.func28, Try.ntmps28
    go_wp2_with (first | (go_at_call 25; refine (sign2_spec _ _).mono ?_; rintro e w' ⟨rfl, hw⟩; subst w') | (go_at_call 57; refine (bit_spec _ _).mono ?_; rintro e w' ⟨rfl, hw⟩; subst w') | (go_at_call 45; refine (numOk_spec _ _).mono ?_; rintro e w' ⟨rfl, hw⟩; subst w'))
    go_ret2
    exact ⟨ret_two' (by rw [twoV_61 ka kb]; exact (lim_yes hv).1.symm) (by rw [twoV_61 ka kb]; exact (lim_yes hv).2.symm), rfl⟩
  · have hv : ok (bit (a == b)) = false := by simpa using hv
    go_enter Try.func28, Try.ntmps28
    go_wp2_with (first | (go_at_call 25; refine (sign2_spec _ _).mono ?_; rintro e w' ⟨rfl, hw⟩; subst w') | (go_at_call 57; refine (bit_spec _ _).mono ?_; rintro e w' ⟨rfl, hw⟩; subst w') | (go_at_call 45; refine (numOk_spec _ _).mono ?_; rintro e w' ⟨rfl, hw⟩; subst w'))
    go_ret2
    exact ⟨ret_two' (by rw [twoV_61 ka kb]; exact (lim_no hv).1.symm) (by rw [twoV_61 ka kb]; exact (lim_no hv).2.symm), rfl⟩
set_option maxHeartbeats 1000000 in
theorem two_spec60 (a b : Int) (a1 : -1000000000000 ≤ a) (a2 : a ≤ 1000000000000) (b1 : -1000000000000 ≤ b) (b2 : b ≤ 1000000000000) (w : World) :
    Calls Try.prog 28 #[.int .i64 60, .int .i64 a, .int .i64 b] w fun e w' => e = .returned (.tuple #[.int .i64 (twoV 60 a b).1, .int .i64 (twoV 60 a b).2]) ∧ w' = w := by
  have ka := ok_mk a1 a2
  have kb := ok_mk b1 b2
  have hs : sign2 60 = true := by decide
  by_cases hv : ok (bit (decide (a < b))) = true
  · go_enter Try.func28, Try.ntmps28
    go_wp2_with (first | (go_at_call 25; refine (sign2_spec _ _).mono ?_; rintro e w' ⟨rfl, hw⟩; subst w') | (go_at_call 57; refine (bit_spec _ _).mono ?_; rintro e w' ⟨rfl, hw⟩; subst w') | (go_at_call 45; refine (numOk_spec _ _).mono ?_; rintro e w' ⟨rfl, hw⟩; subst w'))
    go_ret2
    exact ⟨ret_two' (by rw [twoV_60 ka kb]; exact (lim_yes hv).1.symm) (by rw [twoV_60 ka kb]; exact (lim_yes hv).2.symm), rfl⟩
  · have hv : ok (bit (decide (a < b))) = false := by simpa using hv
    go_enter Try.func28, Try.ntmps28
    go_wp2_with (first | (go_at_call 25; refine (sign2_spec _ _).mono ?_; rintro e w' ⟨rfl, hw⟩; subst w') | (go_at_call 57; refine (bit_spec _ _).mono ?_; rintro e w' ⟨rfl, hw⟩; subst w') | (go_at_call 45; refine (numOk_spec _ _).mono ?_; rintro e w' ⟨rfl, hw⟩; subst w'))
    go_ret2
    exact ⟨ret_two' (by rw [twoV_60 ka kb]; exact (lim_no hv).1.symm) (by rw [twoV_60 ka kb]; exact (lim_no hv).2.symm), rfl⟩
set_option maxHeartbeats 1000000 in
theorem two_spec62 (a b : Int) (a1 : -1000000000000 ≤ a) (a2 : a ≤ 1000000000000) (b1 : -1000000000000 ≤ b) (b2 : b ≤ 1000000000000) (w : World) :
    Calls Try.prog 28 #[.int .i64 62, .int .i64 a, .int .i64 b] w fun e w' => e = .returned (.tuple #[.int .i64 (twoV 62 a b).1, .int .i64 (twoV 62 a b).2]) ∧ w' = w := by
  have ka := ok_mk a1 a2
  have kb := ok_mk b1 b2
  have hs : sign2 62 = true := by decide
  by_cases hv : ok (bit (decide (b < a))) = true
  · go_enter Try.func28, Try.ntmps28
    go_wp2_with (first | (go_at_call 25; refine (sign2_spec _ _).mono ?_; rintro e w' ⟨rfl, hw⟩; subst w') | (go_at_call 57; refine (bit_spec _ _).mono ?_; rintro e w' ⟨rfl, hw⟩; subst w') | (go_at_call 45; refine (numOk_spec _ _).mono ?_; rintro e w' ⟨rfl, hw⟩; subst w'))
    go_ret2
    exact ⟨ret_two' (by rw [twoV_62 ka kb]; exact (lim_yes hv).1.symm) (by rw [twoV_62 ka kb]; exact (lim_yes hv).2.symm), rfl⟩
  · have hv : ok (bit (decide (b < a))) = false := by simpa using hv
    go_enter Try.func28, Try.ntmps28
    go_wp2_with (first | (go_at_call 25; refine (sign2_spec _ _).mono ?_; rintro e w' ⟨rfl, hw⟩; subst w') | (go_at_call 57; refine (bit_spec _ _).mono ?_; rintro e w' ⟨rfl, hw⟩; subst w') | (go_at_call 45; refine (numOk_spec _ _).mono ?_; rintro e w' ⟨rfl, hw⟩; subst w'))
    go_ret2
    exact ⟨ret_two' (by rw [twoV_62 ka kb]; exact (lim_no hv).1.symm) (by rw [twoV_62 ka kb]; exact (lim_no hv).2.symm), rfl⟩
/-- The specification's Two, whatever it is given. -/
theorem two_spec (s a b : Int) (w : World) :
    Calls Try.prog 28 #[.int .i64 s, .int .i64 a, .int .i64 b] w fun e w' => e = .returned (.tuple #[.int .i64 (twoV s a b).1, .int .i64 (twoV s a b).2]) ∧ w' = w := by
  by_cases ha : ok a = true
  · by_cases hb : ok b = true
    · obtain ⟨a1, a2⟩ := ok_bd ha
      obtain ⟨b1, b2⟩ := ok_bd hb
      by_cases hs : sign2 s = true
      · rcases sign2_of hs with rfl | rfl | rfl | rfl | rfl | rfl | rfl | rfl | rfl | rfl
        · exact two_spec43 a b a1 a2 b1 b2 w
        · exact two_spec45 a b a1 a2 b1 b2 w
        · by_cases h0 : a = 0 ∨ b = 0
          · exact two_spec42z a b a1 a2 b1 b2 h0 w
          · exact two_spec42n a b a1 a2 b1 b2 (fun e => h0 (.inl e)) (fun e => h0 (.inr e)) w
        · by_cases h0 : b = 0
          · subst h0; exact two_spec37z a a1 a2 w
          · exact two_spec37n a b a1 a2 b1 b2 h0 w
        · by_cases h0 : a = 0
          · exact two_spec124z a b a1 a2 b1 b2 h0 w
          · exact two_spec124n a b a1 a2 b1 b2 h0 w
        · exact two_spec38 a b a1 a2 b1 b2 w
        · exact two_spec94 a b a1 a2 b1 b2 w
        · exact two_spec61 a b a1 a2 b1 b2 w
        · exact two_spec60 a b a1 a2 b1 b2 w
        · exact two_spec62 a b a1 a2 b1 b2 w
      · have hs : sign2 s = false := by simpa using hs
        rw [twoV_none hs]; exact two_specBad s a b (.inl hs) w
    · have hb : ok b = false := by simpa using hb
      rw [twoV_bad (.inr hb)]; exact two_specBad s a b (.inr (.inr hb)) w
  · have ha : ok a = false := by simpa using ha
    rw [twoV_bad (.inl ha)]; exact two_specBad s a b (.inr (.inl ha)) w
end Go.Proofs.Ytommbklaljdcmac
namespace Go.Proofs.Ytommbklaljdcmac
open Go.RowKit
def rulesOne : Value := .agg #[.int .i64 43, .func (.func 75) #[] #[], .int .i64 45, .func (.func 76) #[] #[], .int .i64 42, .func (.func 77) #[] #[], .int .i64 124, .func (.func 78) #[] #[], .int .i64 126, .func (.func 79) #[] #[]]
set_option maxHeartbeats 400000 in
theorem oneRules_impl (w : World) : Calls Try.prog 46 #[] w fun e w' => e = .returned rulesOne ∧ ∃ c : Array Value, w' = w.alloc (.cells c 65) := by
  go_enter Try.func46, Try.ntmps46
  go_wp2
  exact bodyPost_ret (v := rulesOne) (by simp [results, Try.results46, go_sem, rulesOne]) rfl ⟨rfl, _, rfl⟩
theorem ixOne0 (w : World) : (Instr.index 65 rulesOne (.int .i64 0)).run Try.prog w = .ok (.agg #[.int .i64 43, .func (.func 75) #[] #[]]) w := by kernel_rfl
theorem ixOne1 (w : World) : (Instr.index 65 rulesOne (.int .i64 1)).run Try.prog w = .ok (.agg #[.int .i64 45, .func (.func 76) #[] #[]]) w := by kernel_rfl
theorem ixOne2 (w : World) : (Instr.index 65 rulesOne (.int .i64 2)).run Try.prog w = .ok (.agg #[.int .i64 42, .func (.func 77) #[] #[]]) w := by kernel_rfl
theorem ixOne3 (w : World) : (Instr.index 65 rulesOne (.int .i64 3)).run Try.prog w = .ok (.agg #[.int .i64 124, .func (.func 78) #[] #[]]) w := by kernel_rfl
theorem ixOne4 (w : World) : (Instr.index 65 rulesOne (.int .i64 4)).run Try.prog w = .ok (.agg #[.int .i64 126, .func (.func 79) #[] #[]]) w := by kernel_rfl

set_option maxHeartbeats 1000000 in
theorem one_impl0 (x : Int) (h1 : -1000000000000 ≤ x) (h2 : x ≤ 1000000000000) (w : World) : Calls Try.prog 18 #[.int .i64 43, .int .i64 x] w fun e w' => e = .returned (.tuple #[.int .i64 x, .int .i64 0]) ∧ Below w.heap.size w w' := by
  have hk := ok_mk h1 h2
  have i0 := ixOne0
  go_enter Try.func18, Try.ntmps18
  go_wp2_with (first | (go_at_call 34; refine (numOk_impl _ _).mono ?_; rintro e w' ⟨rfl, rfl⟩) | (go_at_call 46; refine (oneRules_impl _).mono ?_; rintro e w' ⟨rfl, c, rfl⟩))
  refine wp_loop_rounds 1 ?_

  rw [rounds_succ]
  go_wp2_with (go_at_call 75; refine (itself_impl _ _).mono ?_; rintro e w' ⟨rfl, rfl⟩)
  go_ret2
  exact ⟨rfl, by repeat (first | exact Below.refl _ _ | apply bAlloc)⟩
set_option maxHeartbeats 1000000 in
theorem one_impl1 (x : Int) (h1 : -1000000000000 ≤ x) (h2 : x ≤ 1000000000000) (w : World) : Calls Try.prog 18 #[.int .i64 45, .int .i64 x] w fun e w' => e = .returned (.tuple #[.int .i64 (-x), .int .i64 0]) ∧ Below w.heap.size w w' := by
  have hk := ok_mk h1 h2
  have i0 := ixOne0
  have i1 := ixOne1
  go_enter Try.func18, Try.ntmps18
  go_wp2_with (first | (go_at_call 34; refine (numOk_impl _ _).mono ?_; rintro e w' ⟨rfl, rfl⟩) | (go_at_call 46; refine (oneRules_impl _).mono ?_; rintro e w' ⟨rfl, c, rfl⟩))
  refine wp_loop_rounds 2 ?_
  rw [rounds_succ]
  go_wp2
  rw [rounds_succ]
  go_wp2_with (go_at_call 76; refine (negated_impl _ h1 h2 _).mono ?_; rintro e w' ⟨rfl, rfl⟩)
  go_ret2
  exact ⟨rfl, by repeat (first | exact Below.refl _ _ | apply bAlloc)⟩
set_option maxHeartbeats 1000000 in
theorem one_impl2 (x : Int) (h1 : -1000000000000 ≤ x) (h2 : x ≤ 1000000000000) (w : World) : Calls Try.prog 18 #[.int .i64 42, .int .i64 x] w fun e w' => e = .returned (.tuple #[.int .i64 (sgn x), .int .i64 0]) ∧ Below w.heap.size w w' := by
  have hk := ok_mk h1 h2
  have i0 := ixOne0
  have i1 := ixOne1
  have i2 := ixOne2
  go_enter Try.func18, Try.ntmps18
  go_wp2_with (first | (go_at_call 34; refine (numOk_impl _ _).mono ?_; rintro e w' ⟨rfl, rfl⟩) | (go_at_call 46; refine (oneRules_impl _).mono ?_; rintro e w' ⟨rfl, c, rfl⟩))
  refine wp_loop_rounds 3 ?_
  rw [rounds_succ]
  go_wp2
  rw [rounds_succ]
  go_wp2
  rw [rounds_succ]
  go_wp2_with (go_at_call 77; refine (direction_impl _ _).mono ?_; rintro e w' ⟨rfl, rfl⟩)
  go_ret2
  exact ⟨rfl, by repeat (first | exact Below.refl _ _ | apply bAlloc)⟩
set_option maxHeartbeats 1000000 in
theorem one_impl3 (x : Int) (h1 : -1000000000000 ≤ x) (h2 : x ≤ 1000000000000) (w : World) : Calls Try.prog 18 #[.int .i64 124, .int .i64 x] w fun e w' => e = .returned (.tuple #[.int .i64 (mag x), .int .i64 0]) ∧ Below w.heap.size w w' := by
  have hk := ok_mk h1 h2
  have i0 := ixOne0
  have i1 := ixOne1
  have i2 := ixOne2
  have i3 := ixOne3
  go_enter Try.func18, Try.ntmps18
  go_wp2_with (first | (go_at_call 34; refine (numOk_impl _ _).mono ?_; rintro e w' ⟨rfl, rfl⟩) | (go_at_call 46; refine (oneRules_impl _).mono ?_; rintro e w' ⟨rfl, c, rfl⟩))
  refine wp_loop_rounds 4 ?_
  rw [rounds_succ]
  go_wp2
  rw [rounds_succ]
  go_wp2
  rw [rounds_succ]
  go_wp2
  rw [rounds_succ]
  go_wp2_with (go_at_call 78; refine (magnitude_impl _ h1 h2 _).mono ?_; rintro e w' ⟨rfl, rfl⟩)
  go_ret2
  exact ⟨rfl, by repeat (first | exact Below.refl _ _ | apply bAlloc)⟩
set_option maxHeartbeats 1000000 in
theorem one_impl4 (x : Int) (h1 : -1000000000000 ≤ x) (h2 : x ≤ 1000000000000) (w : World) : Calls Try.prog 18 #[.int .i64 126, .int .i64 x] w fun e w' => e = .returned (.tuple #[.int .i64 (invV x), .int .i64 (invC x)]) ∧ Below w.heap.size w w' := by
  have hk := ok_mk h1 h2
  have i0 := ixOne0
  have i1 := ixOne1
  have i2 := ixOne2
  have i3 := ixOne3
  have i4 := ixOne4
  go_enter Try.func18, Try.ntmps18
  go_wp2_with (first | (go_at_call 34; refine (numOk_impl _ _).mono ?_; rintro e w' ⟨rfl, rfl⟩) | (go_at_call 46; refine (oneRules_impl _).mono ?_; rintro e w' ⟨rfl, c, rfl⟩))
  refine wp_loop_rounds 5 ?_
  rw [rounds_succ]
  go_wp2
  rw [rounds_succ]
  go_wp2
  rw [rounds_succ]
  go_wp2
  rw [rounds_succ]
  go_wp2
  rw [rounds_succ]
  go_wp2_with (go_at_call 79; refine (inverted_impl _ h1 h2 _).mono ?_; rintro e w' ⟨rfl, rfl⟩)
  go_ret2
  exact ⟨rfl, by repeat (first | exact Below.refl _ _ | apply bAlloc)⟩
set_option maxHeartbeats 1000000 in
theorem one_implNone (s x : Int) (h1 : -1000000000000 ≤ x) (h2 : x ≤ 1000000000000) (n0 : ((43 : Int) == s) = false) (n1 : ((45 : Int) == s) = false) (n2 : ((42 : Int) == s) = false) (n3 : ((124 : Int) == s) = false) (n4 : ((126 : Int) == s) = false) (w : World) :
    Calls Try.prog 18 #[.int .i64 s, .int .i64 x] w fun e w' => e = .returned (.tuple #[.int .i64 0, .int .i64 1]) ∧ Below w.heap.size w w' := by
  have hk := ok_mk h1 h2
  have i0 := ixOne0
  have i1 := ixOne1
  have i2 := ixOne2
  have i3 := ixOne3
  have i4 := ixOne4
  go_enter Try.func18, Try.ntmps18
  go_wp2_with (first | (go_at_call 34; refine (numOk_impl _ _).mono ?_; rintro e w' ⟨rfl, rfl⟩) | (go_at_call 46; refine (oneRules_impl _).mono ?_; rintro e w' ⟨rfl, c, rfl⟩))
  refine wp_loop_rounds 6 ?_
  rw [rounds_succ]
  go_wp2
  rw [rounds_succ]
  go_wp2
  rw [rounds_succ]
  go_wp2
  rw [rounds_succ]
  go_wp2
  rw [rounds_succ]
  go_wp2
  rw [rounds_succ]
  go_wp2
  go_ret2
  exact ⟨rfl, by repeat (first | exact Below.refl _ _ | apply bAlloc)⟩
set_option maxHeartbeats 1000000 in
theorem one_implBad (s x : Int) (h : ok x = false) (w : World) : Calls Try.prog 18 #[.int .i64 s, .int .i64 x] w fun e w' => e = .returned (.tuple #[.int .i64 0, .int .i64 1]) ∧ Below w.heap.size w w' := by
  go_enter Try.func18, Try.ntmps18
  go_wp2_with (go_at_call 34; refine (numOk_impl _ _).mono ?_; rintro e w' ⟨rfl, rfl⟩)
  go_ret2
  exact ⟨rfl, Below.refl _ _⟩
/-- The program's One, whatever it is given. -/
theorem one_impl (s x : Int) (w : World) :
    Calls Try.prog 18 #[.int .i64 s, .int .i64 x] w fun e w' => e = .returned (.tuple #[.int .i64 (oneV s x).1, .int .i64 (oneV s x).2]) ∧ Below w.heap.size w w' := by
  by_cases hx : ok x = true
  · obtain ⟨h1, h2⟩ := ok_bd hx
    by_cases hs : sign1 s = true
    · rcases sign1_of hs with rfl | rfl | rfl | rfl | rfl
      · rw [oneV_43 hx]; exact one_impl0 x h1 h2 w
      · rw [oneV_45 hx]; exact one_impl1 x h1 h2 w
      · rw [oneV_42 hx]; exact one_impl2 x h1 h2 w
      · rw [oneV_124 hx]; exact one_impl3 x h1 h2 w
      · rw [oneV_126 hx]; exact one_impl4 x h1 h2 w
    · have hs : sign1 s = false := by simpa using hs
      rw [oneV_none hs]
      simp [sign1] at hs
      exact one_implNone s x h1 h2 (by simp; omega) (by simp; omega) (by simp; omega) (by simp; omega) (by simp; omega) w
  · have hx : ok x = false := by simpa using hx
    rw [oneV_bad hx]
    exact one_implBad s x hx w
end Go.Proofs.Ytommbklaljdcmac
