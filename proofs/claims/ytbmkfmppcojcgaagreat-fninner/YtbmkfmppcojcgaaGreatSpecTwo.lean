/-
  Walks: the specification's Two, whatever it is given.
-/
import Derived.Test.YtbmkfmppcojcgaaGreatSpecOne
namespace Go.Proofs.YtbmkfmppcojcgaaGreat
open Go.RowKit
set_option maxHeartbeats 400000 in
theorem floor_spec (a b : Int) (hb : b ≠ 0) (a1 : -1000000000000 ≤ a) (a2 : a ≤ 1000000000000) (b1 : -1000000000000 ≤ b) (b2 : b ≤ 1000000000000) (w : World) :
    Calls Tryz.prog 78 #[.int .i64 a, .int .i64 b] w fun e w' => e = .returned (.int .i64 (flo a b)) ∧ w' = w := by
  have HG : Hid (flo a b = if a.tmod b ≠ 0 ∧ (decide (a < 0) != decide (b < 0)) = true then a.tdiv b - 1 else a.tdiv b) := flo_go a b hb
  obtain ⟨t1, t2⟩ := tdiv_bd (b := b) a1 a2
  have _ := b1
  have _ := b2
  go_enter Tryz.func78, Tryz.ntmps78
  go_wp2
  all_goals
    go_ret
    refine ⟨ret_int' ?_, rfl⟩
    rw [HG.out]
    simp_all [bne]
set_option maxHeartbeats 400000 in
theorem times_spec0 (a b : Int) (h : a = 0 ∨ b = 0) (w : World) :
    Calls Tryz.prog 77 #[.int .i64 a, .int .i64 b] w fun e w' => e = .returned (.tuple #[.int .i64 0, .bool true]) ∧ w' = w := by
  by_cases p : a = 0
  · subst p
    go_enter Tryz.func77, Tryz.ntmps77
    go_wp2
    go_ret2
    exact ⟨rfl, rfl⟩
  · have q : b = 0 := by omega
    have p' : (a == 0) = false := by simpa using p
    subst q
    clear h
    go_enter Tryz.func77, Tryz.ntmps77
    go_wp2
    go_ret2
    exact ⟨rfl, rfl⟩
set_option maxHeartbeats 400000 in
theorem times_spec1 (a b : Int) (a1 : -1000000000000 ≤ a) (a2 : a ≤ 1000000000000) (b1 : -1000000000000 ≤ b) (b2 : b ≤ 1000000000000) (ha : a ≠ 0) (hb : b ≠ 0) (h : ok (a * b) = false) (w : World) :
    Calls Tryz.prog 77 #[.int .i64 a, .int .i64 b] w fun e w' => e = .returned (.tuple #[.int .i64 0, .bool false]) ∧ w' = w := by
  have ha' : (a == 0) = false := by simpa using ha
  have hb' : (b == 0) = false := by simpa using hb
  have hb0 : 0 < mag b := by unfold mag; split <;> omega
  have hg : 1000000000000 / mag b < mag a := by
    by_cases p : 1000000000000 / mag b < mag a
    · exact p
    · rw [times_small p hb] at h; cases h
  clear h
  go_enter Tryz.func77, Tryz.ntmps77
  go_wp2_with (go_at_call 80; refine (max_spec _ _ _).mono ?_; rintro e w' ⟨rfl, hw⟩; subst w'; rw [mx_mag])
  go_ret2
  exact ⟨rfl, rfl⟩
set_option maxHeartbeats 400000 in
theorem times_spec2 (a b : Int) (a1 : -1000000000000 ≤ a) (a2 : a ≤ 1000000000000) (b1 : -1000000000000 ≤ b) (b2 : b ≤ 1000000000000) (ha : a ≠ 0) (hb : b ≠ 0) (h : ok (a * b) = true) (w : World) :
    Calls Tryz.prog 77 #[.int .i64 a, .int .i64 b] w fun e w' => e = .returned (.tuple #[.int .i64 (a * b), .bool true]) ∧ w' = w := by
  have ha' : (a == 0) = false := by simpa using ha
  have hb' : (b == 0) = false := by simpa using hb
  have hb0 : 0 < mag b := by unfold mag; split <;> omega
  have hg : ¬ 1000000000000 / mag b < mag a := fun p => by rw [times_big p hb] at h; cases h
  obtain ⟨p1, p2⟩ := ok_bd h
  clear h
  go_enter Tryz.func77, Tryz.ntmps77
  go_wp2_with (go_at_call 80; refine (max_spec _ _ _).mono ?_; rintro e w' ⟨rfl, hw⟩; subst w'; rw [mx_mag])
  go_ret2
  exact ⟨rfl, rfl⟩
set_option maxHeartbeats 1000000 in
theorem two_specBad (s a b : Int) (h : sign2 s = false ∨ ok a = false ∨ ok b = false) (w : World) :
    Calls Tryz.prog 59 #[.int .i64 s, .int .i64 a, .int .i64 b] w fun e w' => e = .returned (.tuple #[.int .i64 0, .int .i64 1]) ∧ w' = w := by
  by_cases hs : sign2 s = true
  · by_cases ha : ok a = true
    · have hb : ok b = false := by simpa [hs, ha] using h
      clear h
      go_enter Tryz.func59, Tryz.ntmps59
      go_wp2_with (first | (go_at_call 29; refine (sign2_spec _ _).mono ?_; rintro e w' ⟨rfl, hw⟩; subst w') | (go_at_call 58; refine (numOk_spec _ _).mono ?_; rintro e w' ⟨rfl, hw⟩; subst w'))
      go_ret2
      exact ⟨rfl, rfl⟩
    · have ha : ok a = false := by simpa using ha
      clear h
      go_enter Tryz.func59, Tryz.ntmps59
      go_wp2_with (first | (go_at_call 29; refine (sign2_spec _ _).mono ?_; rintro e w' ⟨rfl, hw⟩; subst w') | (go_at_call 58; refine (numOk_spec _ _).mono ?_; rintro e w' ⟨rfl, hw⟩; subst w'))
      go_ret2
      exact ⟨rfl, rfl⟩
  · have hs : sign2 s = false := by simpa using hs
    clear h
    go_enter Tryz.func59, Tryz.ntmps59
    go_wp2_with (first | (go_at_call 29; refine (sign2_spec _ _).mono ?_; rintro e w' ⟨rfl, hw⟩; subst w') | (go_at_call 58; refine (numOk_spec _ _).mono ?_; rintro e w' ⟨rfl, hw⟩; subst w'))
    go_ret2
    exact ⟨rfl, rfl⟩
set_option maxHeartbeats 1000000 in
theorem two_spec43 (a b : Int) (a1 : -1000000000000 ≤ a) (a2 : a ≤ 1000000000000) (b1 : -1000000000000 ≤ b) (b2 : b ≤ 1000000000000) (w : World) :
    Calls Tryz.prog 59 #[.int .i64 43, .int .i64 a, .int .i64 b] w fun e w' => e = .returned (.tuple #[.int .i64 (twoV 43 a b).1, .int .i64 (twoV 43 a b).2]) ∧ w' = w := by
  have ka := ok_mk a1 a2
  have kb := ok_mk b1 b2
  have hs : sign2 43 = true := by decide
  by_cases hv : ok (a + b) = true
  · go_enter Tryz.func59, Tryz.ntmps59
    go_wp2_with (first | (go_at_call 29; refine (sign2_spec _ _).mono ?_; rintro e w' ⟨rfl, hw⟩; subst w') | (go_at_call 58; refine (numOk_spec _ _).mono ?_; rintro e w' ⟨rfl, hw⟩; subst w'))
    go_ret2
    exact ⟨ret_two' (by rw [twoV_43 ka kb]; exact (lim_yes hv).1.symm) (by rw [twoV_43 ka kb]; exact (lim_yes hv).2.symm), rfl⟩
  · have hv : ok (a + b) = false := by simpa using hv
    go_enter Tryz.func59, Tryz.ntmps59
    go_wp2_with (first | (go_at_call 29; refine (sign2_spec _ _).mono ?_; rintro e w' ⟨rfl, hw⟩; subst w') | (go_at_call 58; refine (numOk_spec _ _).mono ?_; rintro e w' ⟨rfl, hw⟩; subst w'))
    go_ret2
    exact ⟨ret_two' (by rw [twoV_43 ka kb]; exact (lim_no hv).1.symm) (by rw [twoV_43 ka kb]; exact (lim_no hv).2.symm), rfl⟩
set_option maxHeartbeats 1000000 in
theorem two_spec45 (a b : Int) (a1 : -1000000000000 ≤ a) (a2 : a ≤ 1000000000000) (b1 : -1000000000000 ≤ b) (b2 : b ≤ 1000000000000) (w : World) :
    Calls Tryz.prog 59 #[.int .i64 45, .int .i64 a, .int .i64 b] w fun e w' => e = .returned (.tuple #[.int .i64 (twoV 45 a b).1, .int .i64 (twoV 45 a b).2]) ∧ w' = w := by
  have ka := ok_mk a1 a2
  have kb := ok_mk b1 b2
  have hs : sign2 45 = true := by decide
  by_cases hv : ok (a - b) = true
  · go_enter Tryz.func59, Tryz.ntmps59
    go_wp2_with (first | (go_at_call 29; refine (sign2_spec _ _).mono ?_; rintro e w' ⟨rfl, hw⟩; subst w') | (go_at_call 58; refine (numOk_spec _ _).mono ?_; rintro e w' ⟨rfl, hw⟩; subst w'))
    go_ret2
    exact ⟨ret_two' (by rw [twoV_45 ka kb]; exact (lim_yes hv).1.symm) (by rw [twoV_45 ka kb]; exact (lim_yes hv).2.symm), rfl⟩
  · have hv : ok (a - b) = false := by simpa using hv
    go_enter Tryz.func59, Tryz.ntmps59
    go_wp2_with (first | (go_at_call 29; refine (sign2_spec _ _).mono ?_; rintro e w' ⟨rfl, hw⟩; subst w') | (go_at_call 58; refine (numOk_spec _ _).mono ?_; rintro e w' ⟨rfl, hw⟩; subst w'))
    go_ret2
    exact ⟨ret_two' (by rw [twoV_45 ka kb]; exact (lim_no hv).1.symm) (by rw [twoV_45 ka kb]; exact (lim_no hv).2.symm), rfl⟩
set_option maxHeartbeats 1000000 in
theorem two_spec42z (a b : Int) (a1 : -1000000000000 ≤ a) (a2 : a ≤ 1000000000000) (b1 : -1000000000000 ≤ b) (b2 : b ≤ 1000000000000) (h0 : a = 0 ∨ b = 0) (w : World) :
    Calls Tryz.prog 59 #[.int .i64 42, .int .i64 a, .int .i64 b] w fun e w' => e = .returned (.tuple #[.int .i64 (twoV 42 a b).1, .int .i64 (twoV 42 a b).2]) ∧ w' = w := by
  have ka := ok_mk a1 a2
  have kb := ok_mk b1 b2
  have hs : sign2 42 = true := by decide
  have hz : a * b = 0 := by rcases h0 with h0 | h0 <;> simp [h0]
  have HZ : Hid (a * b = 0) := hz
  clear hz
  by_cases hv : ok ((0 : Int)) = true
  · go_enter Tryz.func59, Tryz.ntmps59
    go_wp2_with (first | (go_at_call 29; refine (sign2_spec _ _).mono ?_; rintro e w' ⟨rfl, hw⟩; subst w') | (go_at_call 77; refine (times_spec0 _ _ h0 _).mono ?_; rintro e w' ⟨rfl, hw⟩; subst w') | (go_at_call 58; refine (numOk_spec _ _).mono ?_; rintro e w' ⟨rfl, hw⟩; subst w'))
    go_ret2
    exact ⟨ret_two' (by rw [twoV_42 ka kb, HZ.out]; exact (lim_yes hv).1.symm) (by rw [twoV_42 ka kb, HZ.out]; exact (lim_yes hv).2.symm), rfl⟩
  · have hv : ok ((0 : Int)) = false := by simpa using hv
    go_enter Tryz.func59, Tryz.ntmps59
    go_wp2_with (first | (go_at_call 29; refine (sign2_spec _ _).mono ?_; rintro e w' ⟨rfl, hw⟩; subst w') | (go_at_call 77; refine (times_spec0 _ _ h0 _).mono ?_; rintro e w' ⟨rfl, hw⟩; subst w') | (go_at_call 58; refine (numOk_spec _ _).mono ?_; rintro e w' ⟨rfl, hw⟩; subst w'))
    go_ret2
    exact ⟨ret_two' (by rw [twoV_42 ka kb, HZ.out]; exact (lim_no hv).1.symm) (by rw [twoV_42 ka kb, HZ.out]; exact (lim_no hv).2.symm), rfl⟩
set_option maxHeartbeats 1000000 in
theorem two_spec42n (a b : Int) (a1 : -1000000000000 ≤ a) (a2 : a ≤ 1000000000000) (b1 : -1000000000000 ≤ b) (b2 : b ≤ 1000000000000) (ha : a ≠ 0) (hb : b ≠ 0) (w : World) :
    Calls Tryz.prog 59 #[.int .i64 42, .int .i64 a, .int .i64 b] w fun e w' => e = .returned (.tuple #[.int .i64 (twoV 42 a b).1, .int .i64 (twoV 42 a b).2]) ∧ w' = w := by
  have ka := ok_mk a1 a2
  have kb := ok_mk b1 b2
  have hs : sign2 42 = true := by decide
  by_cases hv : ok (a * b) = true
  · go_enter Tryz.func59, Tryz.ntmps59
    go_wp2_with (first | (go_at_call 29; refine (sign2_spec _ _).mono ?_; rintro e w' ⟨rfl, hw⟩; subst w') | (go_at_call 77; refine (times_spec2 _ _ a1 a2 b1 b2 ha hb hv _).mono ?_; rintro e w' ⟨rfl, hw⟩; subst w') | (go_at_call 58; refine (numOk_spec _ _).mono ?_; rintro e w' ⟨rfl, hw⟩; subst w'))
    go_ret2
    exact ⟨ret_two' (by rw [twoV_42 ka kb]; exact (lim_yes hv).1.symm) (by rw [twoV_42 ka kb]; exact (lim_yes hv).2.symm), rfl⟩
  · have hv : ok (a * b) = false := by simpa using hv
    go_enter Tryz.func59, Tryz.ntmps59
    go_wp2_with (first | (go_at_call 29; refine (sign2_spec _ _).mono ?_; rintro e w' ⟨rfl, hw⟩; subst w') | (go_at_call 77; refine (times_spec1 _ _ a1 a2 b1 b2 ha hb hv _).mono ?_; rintro e w' ⟨rfl, hw⟩; subst w') | (go_at_call 58; refine (numOk_spec _ _).mono ?_; rintro e w' ⟨rfl, hw⟩; subst w'))
    go_ret2
    exact ⟨ret_two' (by rw [twoV_42 ka kb]; exact (lim_no hv).1.symm) (by rw [twoV_42 ka kb]; exact (lim_no hv).2.symm), rfl⟩
set_option maxHeartbeats 1000000 in
theorem two_spec37z (a : Int) (a1 : -1000000000000 ≤ a) (a2 : a ≤ 1000000000000) (w : World) :
    Calls Tryz.prog 59 #[.int .i64 37, .int .i64 a, .int .i64 0] w fun e w' => e = .returned (.tuple #[.int .i64 (twoV 37 a 0).1, .int .i64 (twoV 37 a 0).2]) ∧ w' = w := by
  have ka := ok_mk a1 a2
  have kb : ok 0 = true := by decide
  have hs : sign2 37 = true := by decide
  have E : Hid (twoV 37 a 0 = (0, 2)) := twoV_37n ka kb rfl
  go_enter Tryz.func59, Tryz.ntmps59
  go_wp2_with (first | (go_at_call 29; refine (sign2_spec _ _).mono ?_; rintro e w' ⟨rfl, hw⟩; subst w') | (go_at_call 58; refine (numOk_spec _ _).mono ?_; rintro e w' ⟨rfl, hw⟩; subst w'))
  go_ret2
  exact ⟨ret_two' (by rw [E.out]) (by rw [E.out]), rfl⟩
set_option maxHeartbeats 1000000 in
theorem two_spec37n (a b : Int) (a1 : -1000000000000 ≤ a) (a2 : a ≤ 1000000000000) (b1 : -1000000000000 ≤ b) (b2 : b ≤ 1000000000000) (hb : b ≠ 0) (w : World) :
    Calls Tryz.prog 59 #[.int .i64 37, .int .i64 a, .int .i64 b] w fun e w' => e = .returned (.tuple #[.int .i64 (twoV 37 a b).1, .int .i64 (twoV 37 a b).2]) ∧ w' = w := by
  have ka := ok_mk a1 a2
  have kb := ok_mk b1 b2
  have hs : sign2 37 = true := by decide
  have hb' : (b == 0) = false := by simpa using hb
  by_cases hv : ok (flo a b) = true
  · go_enter Tryz.func59, Tryz.ntmps59
    go_wp2_with (first | (go_at_call 29; refine (sign2_spec _ _).mono ?_; rintro e w' ⟨rfl, hw⟩; subst w') | (go_at_call 78; refine (floor_spec _ _ hb a1 a2 b1 b2 _).mono ?_; rintro e w' ⟨rfl, hw⟩; subst w') | (go_at_call 58; refine (numOk_spec _ _).mono ?_; rintro e w' ⟨rfl, hw⟩; subst w'))
    go_ret2
    exact ⟨ret_two' (by rw [twoV_37 ka kb hb]; exact (lim_yes hv).1.symm) (by rw [twoV_37 ka kb hb]; exact (lim_yes hv).2.symm), rfl⟩
  · have hv : ok (flo a b) = false := by simpa using hv
    go_enter Tryz.func59, Tryz.ntmps59
    go_wp2_with (first | (go_at_call 29; refine (sign2_spec _ _).mono ?_; rintro e w' ⟨rfl, hw⟩; subst w') | (go_at_call 78; refine (floor_spec _ _ hb a1 a2 b1 b2 _).mono ?_; rintro e w' ⟨rfl, hw⟩; subst w') | (go_at_call 58; refine (numOk_spec _ _).mono ?_; rintro e w' ⟨rfl, hw⟩; subst w'))
    go_ret2
    exact ⟨ret_two' (by rw [twoV_37 ka kb hb]; exact (lim_no hv).1.symm) (by rw [twoV_37 ka kb hb]; exact (lim_no hv).2.symm), rfl⟩
set_option maxHeartbeats 1000000 in
theorem two_spec124z (a b : Int) (a1 : -1000000000000 ≤ a) (a2 : a ≤ 1000000000000) (b1 : -1000000000000 ≤ b) (b2 : b ≤ 1000000000000) (ha : a = 0) (w : World) :
    Calls Tryz.prog 59 #[.int .i64 124, .int .i64 a, .int .i64 b] w fun e w' => e = .returned (.tuple #[.int .i64 (twoV 124 a b).1, .int .i64 (twoV 124 a b).2]) ∧ w' = w := by
  have ka := ok_mk a1 a2
  have kb := ok_mk b1 b2
  have hs : sign2 124 = true := by decide
  go_enter Tryz.func59, Tryz.ntmps59
  go_wp2_with (first | (go_at_call 29; refine (sign2_spec _ _).mono ?_; rintro e w' ⟨rfl, hw⟩; subst w') | (go_at_call 58; refine (numOk_spec _ _).mono ?_; rintro e w' ⟨rfl, hw⟩; subst w'))
  go_ret2
  exact ⟨ret_two' (by rw [twoV_124 ka kb, if_pos ha]; exact (lim_yes kb).1.symm) (by rw [twoV_124 ka kb, if_pos ha]; exact (lim_yes kb).2.symm), rfl⟩
set_option maxHeartbeats 1000000 in
theorem two_spec124n (a b : Int) (a1 : -1000000000000 ≤ a) (a2 : a ≤ 1000000000000) (b1 : -1000000000000 ≤ b) (b2 : b ≤ 1000000000000) (ha : a ≠ 0) (w : World) :
    Calls Tryz.prog 59 #[.int .i64 124, .int .i64 a, .int .i64 b] w fun e w' => e = .returned (.tuple #[.int .i64 (twoV 124 a b).1, .int .i64 (twoV 124 a b).2]) ∧ w' = w := by
  have ka := ok_mk a1 a2
  have kb := ok_mk b1 b2
  have hs : sign2 124 = true := by decide
  have ha' : (a == 0) = false := by simpa using ha
  have he : Hid (b - a * flo b a = rst b a) := rst_eq b a
  obtain ⟨r1, r2⟩ := rst_bd (a := b) ha a1 a2
  have hv : ok (b - a * flo b a) = true := by rw [he.out]; exact ok_mk r1 r2
  have p1 : -2000000000000 ≤ a * flo b a := by have := he.out; omega
  have p2 : a * flo b a ≤ 2000000000000 := by have := he.out; omega
  clear r1 r2
  go_enter Tryz.func59, Tryz.ntmps59
  go_wp2_with (first | (go_at_call 29; refine (sign2_spec _ _).mono ?_; rintro e w' ⟨rfl, hw⟩; subst w') | (go_at_call 78; refine (floor_spec _ _ ha b1 b2 a1 a2 _).mono ?_; rintro e w' ⟨rfl, hw⟩; subst w') | (go_at_call 58; refine (numOk_spec _ _).mono ?_; rintro e w' ⟨rfl, hw⟩; subst w'))
  go_ret2
  exact ⟨ret_two' (by rw [twoV_124 ka kb, if_neg ha, ← he.out]; exact (lim_yes hv).1.symm) (by rw [twoV_124 ka kb, if_neg ha, ← he.out]; exact (lim_yes hv).2.symm), rfl⟩
set_option maxHeartbeats 1000000 in
theorem two_spec38 (a b : Int) (a1 : -1000000000000 ≤ a) (a2 : a ≤ 1000000000000) (b1 : -1000000000000 ≤ b) (b2 : b ≤ 1000000000000) (w : World) :
    Calls Tryz.prog 59 #[.int .i64 38, .int .i64 a, .int .i64 b] w fun e w' => e = .returned (.tuple #[.int .i64 (twoV 38 a b).1, .int .i64 (twoV 38 a b).2]) ∧ w' = w := by
  have ka := ok_mk a1 a2
  have kb := ok_mk b1 b2
  have hs : sign2 38 = true := by decide
  by_cases hv : ok (mn a b) = true
  · go_enter Tryz.func59, Tryz.ntmps59
    go_wp2_with (first | (go_at_call 29; refine (sign2_spec _ _).mono ?_; rintro e w' ⟨rfl, hw⟩; subst w') | (go_at_call 79; refine (min_spec _ _ _).mono ?_; rintro e w' ⟨rfl, hw⟩; subst w') | (go_at_call 58; refine (numOk_spec _ _).mono ?_; rintro e w' ⟨rfl, hw⟩; subst w'))
    go_ret2
    exact ⟨ret_two' (by rw [twoV_38 ka kb]; exact (lim_yes hv).1.symm) (by rw [twoV_38 ka kb]; exact (lim_yes hv).2.symm), rfl⟩
  · have hv : ok (mn a b) = false := by simpa using hv
    go_enter Tryz.func59, Tryz.ntmps59
    go_wp2_with (first | (go_at_call 29; refine (sign2_spec _ _).mono ?_; rintro e w' ⟨rfl, hw⟩; subst w') | (go_at_call 79; refine (min_spec _ _ _).mono ?_; rintro e w' ⟨rfl, hw⟩; subst w') | (go_at_call 58; refine (numOk_spec _ _).mono ?_; rintro e w' ⟨rfl, hw⟩; subst w'))
    go_ret2
    exact ⟨ret_two' (by rw [twoV_38 ka kb]; exact (lim_no hv).1.symm) (by rw [twoV_38 ka kb]; exact (lim_no hv).2.symm), rfl⟩
set_option maxHeartbeats 1000000 in
theorem two_spec94 (a b : Int) (a1 : -1000000000000 ≤ a) (a2 : a ≤ 1000000000000) (b1 : -1000000000000 ≤ b) (b2 : b ≤ 1000000000000) (w : World) :
    Calls Tryz.prog 59 #[.int .i64 94, .int .i64 a, .int .i64 b] w fun e w' => e = .returned (.tuple #[.int .i64 (twoV 94 a b).1, .int .i64 (twoV 94 a b).2]) ∧ w' = w := by
  have ka := ok_mk a1 a2
  have kb := ok_mk b1 b2
  have hs : sign2 94 = true := by decide
  by_cases hv : ok (mx a b) = true
  · go_enter Tryz.func59, Tryz.ntmps59
    go_wp2_with (first | (go_at_call 29; refine (sign2_spec _ _).mono ?_; rintro e w' ⟨rfl, hw⟩; subst w') | (go_at_call 80; refine (max_spec _ _ _).mono ?_; rintro e w' ⟨rfl, hw⟩; subst w') | (go_at_call 58; refine (numOk_spec _ _).mono ?_; rintro e w' ⟨rfl, hw⟩; subst w'))
    go_ret2
    exact ⟨ret_two' (by rw [twoV_94 ka kb]; exact (lim_yes hv).1.symm) (by rw [twoV_94 ka kb]; exact (lim_yes hv).2.symm), rfl⟩
  · have hv : ok (mx a b) = false := by simpa using hv
    go_enter Tryz.func59, Tryz.ntmps59
    go_wp2_with (first | (go_at_call 29; refine (sign2_spec _ _).mono ?_; rintro e w' ⟨rfl, hw⟩; subst w') | (go_at_call 80; refine (max_spec _ _ _).mono ?_; rintro e w' ⟨rfl, hw⟩; subst w') | (go_at_call 58; refine (numOk_spec _ _).mono ?_; rintro e w' ⟨rfl, hw⟩; subst w'))
    go_ret2
    exact ⟨ret_two' (by rw [twoV_94 ka kb]; exact (lim_no hv).1.symm) (by rw [twoV_94 ka kb]; exact (lim_no hv).2.symm), rfl⟩
set_option maxHeartbeats 1000000 in
theorem two_spec61 (a b : Int) (a1 : -1000000000000 ≤ a) (a2 : a ≤ 1000000000000) (b1 : -1000000000000 ≤ b) (b2 : b ≤ 1000000000000) (w : World) :
    Calls Tryz.prog 59 #[.int .i64 61, .int .i64 a, .int .i64 b] w fun e w' => e = .returned (.tuple #[.int .i64 (twoV 61 a b).1, .int .i64 (twoV 61 a b).2]) ∧ w' = w := by
  have ka := ok_mk a1 a2
  have kb := ok_mk b1 b2
  have hs : sign2 61 = true := by decide
  by_cases hv : ok (bit (a == b)) = true
  · go_enter Tryz.func59, Tryz.ntmps59
    go_wp2_with (first | (go_at_call 29; refine (sign2_spec _ _).mono ?_; rintro e w' ⟨rfl, hw⟩; subst w') | (go_at_call 81; refine (bit_spec _ _).mono ?_; rintro e w' ⟨rfl, hw⟩; subst w') | (go_at_call 58; refine (numOk_spec _ _).mono ?_; rintro e w' ⟨rfl, hw⟩; subst w'))
    go_ret2
    exact ⟨ret_two' (by rw [twoV_61 ka kb]; exact (lim_yes hv).1.symm) (by rw [twoV_61 ka kb]; exact (lim_yes hv).2.symm), rfl⟩
  · have hv : ok (bit (a == b)) = false := by simpa using hv
    go_enter Tryz.func59, Tryz.ntmps59
    go_wp2_with (first | (go_at_call 29; refine (sign2_spec _ _).mono ?_; rintro e w' ⟨rfl, hw⟩; subst w') | (go_at_call 81; refine (bit_spec _ _).mono ?_; rintro e w' ⟨rfl, hw⟩; subst w') | (go_at_call 58; refine (numOk_spec _ _).mono ?_; rintro e w' ⟨rfl, hw⟩; subst w'))
    go_ret2
    exact ⟨ret_two' (by rw [twoV_61 ka kb]; exact (lim_no hv).1.symm) (by rw [twoV_61 ka kb]; exact (lim_no hv).2.symm), rfl⟩
set_option maxHeartbeats 1000000 in
theorem two_spec60 (a b : Int) (a1 : -1000000000000 ≤ a) (a2 : a ≤ 1000000000000) (b1 : -1000000000000 ≤ b) (b2 : b ≤ 1000000000000) (w : World) :
    Calls Tryz.prog 59 #[.int .i64 60, .int .i64 a, .int .i64 b] w fun e w' => e = .returned (.tuple #[.int .i64 (twoV 60 a b).1, .int .i64 (twoV 60 a b).2]) ∧ w' = w := by
  have ka := ok_mk a1 a2
  have kb := ok_mk b1 b2
  have hs : sign2 60 = true := by decide
  by_cases hv : ok (bit (decide (a < b))) = true
  · go_enter Tryz.func59, Tryz.ntmps59
    go_wp2_with (first | (go_at_call 29; refine (sign2_spec _ _).mono ?_; rintro e w' ⟨rfl, hw⟩; subst w') | (go_at_call 81; refine (bit_spec _ _).mono ?_; rintro e w' ⟨rfl, hw⟩; subst w') | (go_at_call 58; refine (numOk_spec _ _).mono ?_; rintro e w' ⟨rfl, hw⟩; subst w'))
    go_ret2
    exact ⟨ret_two' (by rw [twoV_60 ka kb]; exact (lim_yes hv).1.symm) (by rw [twoV_60 ka kb]; exact (lim_yes hv).2.symm), rfl⟩
  · have hv : ok (bit (decide (a < b))) = false := by simpa using hv
    go_enter Tryz.func59, Tryz.ntmps59
    go_wp2_with (first | (go_at_call 29; refine (sign2_spec _ _).mono ?_; rintro e w' ⟨rfl, hw⟩; subst w') | (go_at_call 81; refine (bit_spec _ _).mono ?_; rintro e w' ⟨rfl, hw⟩; subst w') | (go_at_call 58; refine (numOk_spec _ _).mono ?_; rintro e w' ⟨rfl, hw⟩; subst w'))
    go_ret2
    exact ⟨ret_two' (by rw [twoV_60 ka kb]; exact (lim_no hv).1.symm) (by rw [twoV_60 ka kb]; exact (lim_no hv).2.symm), rfl⟩
set_option maxHeartbeats 1000000 in
theorem two_spec62 (a b : Int) (a1 : -1000000000000 ≤ a) (a2 : a ≤ 1000000000000) (b1 : -1000000000000 ≤ b) (b2 : b ≤ 1000000000000) (w : World) :
    Calls Tryz.prog 59 #[.int .i64 62, .int .i64 a, .int .i64 b] w fun e w' => e = .returned (.tuple #[.int .i64 (twoV 62 a b).1, .int .i64 (twoV 62 a b).2]) ∧ w' = w := by
  have ka := ok_mk a1 a2
  have kb := ok_mk b1 b2
  have hs : sign2 62 = true := by decide
  by_cases hv : ok (bit (decide (b < a))) = true
  · go_enter Tryz.func59, Tryz.ntmps59
    go_wp2_with (first | (go_at_call 29; refine (sign2_spec _ _).mono ?_; rintro e w' ⟨rfl, hw⟩; subst w') | (go_at_call 81; refine (bit_spec _ _).mono ?_; rintro e w' ⟨rfl, hw⟩; subst w') | (go_at_call 58; refine (numOk_spec _ _).mono ?_; rintro e w' ⟨rfl, hw⟩; subst w'))
    go_ret2
    exact ⟨ret_two' (by rw [twoV_62 ka kb]; exact (lim_yes hv).1.symm) (by rw [twoV_62 ka kb]; exact (lim_yes hv).2.symm), rfl⟩
  · have hv : ok (bit (decide (b < a))) = false := by simpa using hv
    go_enter Tryz.func59, Tryz.ntmps59
    go_wp2_with (first | (go_at_call 29; refine (sign2_spec _ _).mono ?_; rintro e w' ⟨rfl, hw⟩; subst w') | (go_at_call 81; refine (bit_spec _ _).mono ?_; rintro e w' ⟨rfl, hw⟩; subst w') | (go_at_call 58; refine (numOk_spec _ _).mono ?_; rintro e w' ⟨rfl, hw⟩; subst w'))
    go_ret2
    exact ⟨ret_two' (by rw [twoV_62 ka kb]; exact (lim_no hv).1.symm) (by rw [twoV_62 ka kb]; exact (lim_no hv).2.symm), rfl⟩
/-- The specification's Two, whatever it is given. -/
theorem two_spec (s a b : Int) (w : World) :
    Calls Tryz.prog 59 #[.int .i64 s, .int .i64 a, .int .i64 b] w fun e w' => e = .returned (.tuple #[.int .i64 (twoV s a b).1, .int .i64 (twoV s a b).2]) ∧ w' = w := by
  by_cases ha : ok a = true
  · by_cases hb : ok b = true
    · obtain ⟨a1, a2⟩ := ok_bd ha
      obtain ⟨b1, b2⟩ := ok_bd hb
      by_cases hs : sign2 s = true
      · rcases sign2_of hs with rfl | rfl | rfl | rfl | rfl | rfl | rfl | rfl | rfl | rfl
        · exact two_spec43 a b a1 a2 b1 b2 w
        · exact two_spec45 a b a1 a2 b1 b2 w
        · by_cases h0 : a = 0 ∨ b = 0
          · exact two_spec42z a b a1 a2 b1 b2 h0 w
          · exact two_spec42n a b a1 a2 b1 b2 (fun e => h0 (.inl e)) (fun e => h0 (.inr e)) w
        · by_cases h0 : b = 0
          · subst h0; exact two_spec37z a a1 a2 w
          · exact two_spec37n a b a1 a2 b1 b2 h0 w
        · by_cases h0 : a = 0
          · exact two_spec124z a b a1 a2 b1 b2 h0 w
          · exact two_spec124n a b a1 a2 b1 b2 h0 w
        · exact two_spec38 a b a1 a2 b1 b2 w
        · exact two_spec94 a b a1 a2 b1 b2 w
        · exact two_spec61 a b a1 a2 b1 b2 w
        · exact two_spec60 a b a1 a2 b1 b2 w
        · exact two_spec62 a b a1 a2 b1 b2 w
      · have hs : sign2 s = false := by simpa using hs
        rw [twoV_none hs]; exact two_specBad s a b (.inl hs) w
    · have hb : ok b = false := by simpa using hb
      rw [twoV_bad (.inr hb)]; exact two_specBad s a b (.inr (.inr hb)) w
  · have ha : ok a = false := by simpa using ha
    rw [twoV_bad (.inl ha)]; exact two_specBad s a b (.inr (.inl ha)) w
end Go.Proofs.YtbmkfmppcojcgaaGreat
