/-
  Walks: the specification's l8Digit, l8Num, Lex.
-/
import Derived.Test.YtnebjnglcfebeaaDoorLexM
namespace Go.Proofs.YtnebjnglcfebeaaDoor
open Go.RowKit
set_option linter.unusedVariables false
set_option linter.unusedSimpArgs false
set_option maxRecDepth 20000 in
set_option maxHeartbeats 2000000 in
theorem digit_spec (s : ByteArray) (p : Nat) (hs : s.size ≤ 300) (hp : p ≤ 1000) (w : World) :
    Calls Tryd.prog 46 #[.string s, .int .i64 (p : Int)] w fun e w' => e = .returned (.bool (digD s p)) ∧ w' = w := by
  by_cases h1 : p < s.size
  · have h2 : (p : Int) < (s.size : Int) := by omega
    have hb := bt_bd s p
    have he := bt_at s h1
    have hd : digD s p = (decide (48 ≤ bt s p) && decide (bt s p ≤ 57)) := by unfold digD; rw [decide_eq_true h1]; rfl
    rw [he] at hd hb
    rw [hd]
    generalize hz : ((s[p]'h1).toNat : Int) = z at *
    by_cases q1 : 48 ≤ z
    · by_cases q2 : z ≤ 57
      · have e1 : decide (48 ≤ z) = true := by simp [q1]
        have e2 : decide (z ≤ 57) = true := by simp [q2]
        rw [e1, e2]
        go_enter Tryd.func46, Tryd.ntmps46
        go_wp2
        go_ret
        exact ⟨by first | rfl | simp [hz, q1, q2], rfl⟩
      · have e1 : decide (48 ≤ z) = true := by simp [q1]
        have e2 : decide (z ≤ 57) = false := by simp; omega
        rw [e1, e2]
        go_enter Tryd.func46, Tryd.ntmps46
        go_wp2
        go_ret
        exact ⟨by first | rfl | simp [hz, q1, q2], rfl⟩
    · have e1 : decide (48 ≤ z) = false := by simp; omega
      rw [e1]
      go_enter Tryd.func46, Tryd.ntmps46
      go_wp2
      go_ret
      exact ⟨by first | rfl | simp [hz, q1], rfl⟩
  · have h2 : ¬ (p : Int) < (s.size : Int) := by omega
    rw [digD_out s (by omega)]
    go_enter Tryd.func46, Tryd.ntmps46
    go_wp2
    go_ret
    exact ⟨rfl, rfl⟩
set_option maxRecDepth 20000 in
set_option maxHeartbeats 1000000 in
theorem lmin_spec (a b : Int) (w : World) : Calls Tryd.prog 70 #[.int .i64 a, .int .i64 b] w fun e w' => e = .returned (.int .i64 (if a < b then a else b)) ∧ w' = w := by
  by_cases h : a < b
  · rw [if_pos h]
    go_enter Tryd.func70, Tryd.ntmps70
    go_wp2
    go_ret
    exact ⟨rfl, rfl⟩
  · rw [if_neg h]
    go_enter Tryd.func70, Tryd.ntmps70
    go_wp2
    go_ret
    exact ⟨rfl, rfl⟩
-- NUM
set_option maxRecDepth 20000 in
set_option maxHeartbeats 4000000 in
theorem num_specA (s : ByteArray) (p : Nat) (hs : s.size ≤ 300) (hp : p < s.size) (hb95 : ¬ bt s p = 95) (w : World) :
    Calls Tryd.prog 47 #[.string s, .int .i64 (p : Int)] w fun e w' => e = .returned (.tuple #[.int .i64 (numAtS s p).1, .int .i64 ((numAtS s p).2.1 : Int), .int .i64 (numAtS s p).2.2]) ∧ w' = w := by
  have DG : Hid (∀ (k : Nat) (W : World), k ≤ 1000 → Calls Tryd.prog 46 #[.string s, .int .i64 (k : Int)] W fun e w' => e = .returned (.bool (digD s k)) ∧ w' = W) := fun k W hk => digit_spec s k hs hk W
  have h2 : (p : Int) < (s.size : Int) := by omega
  have he := bt_at s hp
  have NA : Hid (numAtS s p = (if nd s (p) = 0 then (0, p, 8) else if 1000000000000 < satTo s (p) (nd s (p)) then (0, p + nd s (p), 6) else (satTo s (p) (nd s (p)), p + nd s (p), 0))) := by
    show _ = _
    unfold numAtS
    dsimp only
    simp only [if_neg hb95]
  have hz : ¬ ((s[p]'hp).toNat : Int) = 95 := by rw [← he]; exact hb95
  have hz2 : (((s[p]'hp).toNat : Int) == 95) = false := by simp; omega
  clear hb95 he
  cases hd : digD s (p)
  · have N0 : nd s (p) = 0 := nd_eq (fun j hj => absurd hj (by omega)) (by rw [Nat.add_zero]; exact hd) (by omega)
    have NR : Hid (numAtS s p = (0, p, 8)) := by show _ = _; rw [NA.out, if_pos N0]
    have D1 := DG.out (p)
    rw [hd] at D1
    rw [NR.out]
    have DQ : Hid (∀ W, Calls Tryd.prog 46 #[.string s, .int .i64 ((p : Int))] W fun e w' => e = .returned (.bool false) ∧ w' = W) := fun W => by have := D1 W (by omega); simpa using this
    clear NA DG N0 NR D1 hd
    go_enter Tryd.func47, Tryd.ntmps47
    go_wp2_with fail
    refine (DQ.out _).mono ?_
    rintro e w1 ⟨rfl, hw⟩
    subst w1
    go_wp2
    go_ret3
    exact ⟨by first | rfl | simp, rfl⟩
  · have HD : Hid (digD s (p) = true) := hd
    have D1 := DG.out (p)
    rw [hd] at D1
    have DQ : Hid (∀ W, Calls Tryd.prog 46 #[.string s, .int .i64 ((p : Int))] W fun e w' => e = .returned (.bool true) ∧ w' = W) := fun W => by have := D1 W (by omega); simpa using this
    clear D1 hd
    go_enter Tryd.func47, Tryd.ntmps47
    go_wp2_with fail
    refine (DQ.out _).mono ?_
    rintro e w1 ⟨rfl, hw⟩
    subst w1
    clear DQ
    go_wp2
    go_loopw [1, 8] (fun a x w' => ∃ n : Nat, (p) + n ≤ s.size ∧ a = .int .i64 (((p) + n : Nat) : Int) ∧ x = .int .i64 (satTo s (p) n) ∧ (∀ j, j < n → digD s ((p) + j) = true) ∧ Hid (w' = w)) (fun a _ _ => s.size - (intOf a).toNat)
    case atStart => exact ⟨0, by omega, by simp, rfl, fun j hj => absurd hj (by omega), (rfl : w = w)⟩
    case round =>
      obtain ⟨n, hn, rfl, rfl, ha, hw⟩ := hrel
      obtain rfl := hw.out
      have HA : Hid (∀ j, j < n → digD s ((p) + j) = true) := ha
      clear ha
      obtain ⟨x0, x1⟩ := satTo_bd s (p) n
      cases hd2 : digD s ((p) + n)
      · have NN : nd s (p) = n := nd_eq HA.out hd2 (by omega)
        have n0 : n ≠ 0 := fun e => by subst e; rw [Nat.add_zero] at hd2; rw [HD.out] at hd2; cases hd2
        have D2 := DG.out ((p) + n) wr (by omega)
        rw [hd2] at D2
        have DX : Hid (Calls Tryd.prog 46 #[.string s, .int .i64 (((p) + n : Nat) : Int)] wr fun e w' => e = .returned (.bool false) ∧ w' = wr) := D2
        have NR : Hid (numAtS s p = if 1000000000000 < satTo s (p) n then (0, p + n, 6) else (satTo s (p) n, p + n, 0)) := by show _ = _; rw [NA.out, NN, if_neg n0]
        clear D2 HA hd2 NN NA DG HD hz
        generalize satTo s (p) n = x at *
        generalize (p) + n = a at *
        have ae : (a : Int) ≤ 1000 := by omega
        by_cases hx : 1000000000000 < x
        · have hok : ok x = false := by unfold ok; simp; omega
          have NK : Hid (Calls Tryd.prog 54 #[.int .i64 x] wr fun e w' => e = .returned (.bool false) ∧ w' = wr) := by have := numOk_spec x wr; rw [hok] at this; exact this
          clear hok
          go_wp2_with fail
          refine DX.out.mono ?_
          rintro e w2 ⟨rfl, hw2⟩
          subst w2
          go_wp2_with fail
          refine NK.out.mono ?_
          rintro e w2 ⟨rfl, hw2⟩
          subst w2
          go_wp2
          go_ret3
          exact ⟨by rw [NR.out, if_pos hx]; first | rfl | simp, rfl⟩
        · have hok : ok x = true := by unfold ok; simp; omega
          have NK : Hid (Calls Tryd.prog 54 #[.int .i64 x] wr fun e w' => e = .returned (.bool true) ∧ w' = wr) := by have := numOk_spec x wr; rw [hok] at this; exact this
          clear hok
          go_wp2_with fail
          refine DX.out.mono ?_
          rintro e w2 ⟨rfl, hw2⟩
          subst w2
          go_wp2_with fail
          refine NK.out.mono ?_
          rintro e w2 ⟨rfl, hw2⟩
          subst w2
          go_wp2
          go_ret3
          exact ⟨by rw [NR.out, if_neg (by omega)]; first | rfl | simp, rfl⟩
      · have L : (p) + n < s.size := by
          rcases Nat.lt_or_ge ((p) + n) s.size with h | h
          · exact h
          · rw [digD_out s h] at hd2; cases hd2
        have D2 := DG.out ((p) + n) wr (by omega)
        rw [hd2] at D2
        have DX : Hid (Calls Tryd.prog 46 #[.string s, .int .i64 (((p) + n : Nat) : Int)] wr fun e w' => e = .returned (.bool true) ∧ w' = wr) := D2
        have hb := bt_at s L
        have hdd : 48 ≤ bt s ((p) + n) ∧ bt s ((p) + n) ≤ 57 := by unfold digD at hd2; simp only [Bool.and_eq_true, decide_eq_true_eq] at hd2; exact hd2.2
        have ST := satTo_succ (s := s) (q := p) (n := n) hdd.1
        have NX : Hid (∀ j, j < n + 1 → digD s ((p) + j) = true) := fun j hj => by
          by_cases e : j = n
          · subst e; exact hd2
          · exact HA.out j (by omega)
        rw [hb] at hdd ST
        have HST : Hid (satTo s (p) (n + 1) = _) := ST
        obtain ⟨d0, d1⟩ := hdd
        clear hb ST D2 HA hd2 NA DG
        have ll : (((p) + n : Nat) : Int) < (s.size : Int) := by omega
        have XN : Hid (((p) + (n + 1) : Nat) = (p) + n + 1) := by show _ = _; omega
        generalize hb8 : ((s[(p) + n]'L).toNat : Int) = z at *
        generalize satTo s (p) n = x at *
        generalize hae : (p) + n = a at *
        go_wp2_with fail
        refine DX.out.mono ?_
        rintro e w2 ⟨rfl, hw2⟩
        subst w2
        go_wp2_with fail
        refine (lmin_spec _ _ _).mono ?_
        rintro e w2 ⟨rfl, hw2⟩
        subst w2
        rw [← HST.out]
        go_wp2
        go_roundw
        case rel => exact ⟨n + 1, by omega, by rw [XN.out]; go_num, rfl, NX.out, by first | exact hw | exact (trivial : True)⟩
        case measure => simp [intOf]; omega
set_option maxRecDepth 20000 in
set_option maxHeartbeats 4000000 in
theorem num_specB (s : ByteArray) (p : Nat) (hs : s.size ≤ 300) (hp : p < s.size) (hb95 : bt s p = 95) (w : World) :
    Calls Tryd.prog 47 #[.string s, .int .i64 (p : Int)] w fun e w' => e = .returned (.tuple #[.int .i64 (numAtS s p).1, .int .i64 ((numAtS s p).2.1 : Int), .int .i64 (numAtS s p).2.2]) ∧ w' = w := by
  have DG : Hid (∀ (k : Nat) (W : World), k ≤ 1000 → Calls Tryd.prog 46 #[.string s, .int .i64 (k : Int)] W fun e w' => e = .returned (.bool (digD s k)) ∧ w' = W) := fun k W hk => digit_spec s k hs hk W
  have h2 : (p : Int) < (s.size : Int) := by omega
  have he := bt_at s hp
  have NA : Hid (numAtS s p = (if nd s (p + 1) = 0 then (0, p + 1, 8) else if 1000000000000 < satTo s (p + 1) (nd s (p + 1)) then (0, p + 1 + nd s (p + 1), 6) else (-(satTo s (p + 1) (nd s (p + 1))), p + 1 + nd s (p + 1), 0))) := by
    show _ = _
    unfold numAtS
    dsimp only
    simp only [if_pos hb95]
  have hz : ((s[p]'hp).toNat : Int) = 95 := by rw [← he]; exact hb95
  have hz2 : (((s[p]'hp).toNat : Int) == 95) = true := by rw [hz]; rfl
  clear hb95 he
  cases hd : digD s (p + 1)
  · have N0 : nd s (p + 1) = 0 := nd_eq (fun j hj => absurd hj (by omega)) (by rw [Nat.add_zero]; exact hd) (by omega)
    have NR : Hid (numAtS s p = (0, p + 1, 8)) := by show _ = _; rw [NA.out, if_pos N0]
    have D1 := DG.out (p + 1)
    rw [hd] at D1
    rw [NR.out]
    have DQ : Hid (∀ W, Calls Tryd.prog 46 #[.string s, .int .i64 ((p : Int) + 1)] W fun e w' => e = .returned (.bool false) ∧ w' = W) := fun W => by have := D1 W (by omega); simpa using this
    clear NA DG N0 NR D1 hd
    go_enter Tryd.func47, Tryd.ntmps47
    go_wp2_with fail
    refine (DQ.out _).mono ?_
    rintro e w1 ⟨rfl, hw⟩
    subst w1
    go_wp2
    go_ret3
    exact ⟨by first | rfl | simp, rfl⟩
  · have HD : Hid (digD s (p + 1) = true) := hd
    have D1 := DG.out (p + 1)
    rw [hd] at D1
    have DQ : Hid (∀ W, Calls Tryd.prog 46 #[.string s, .int .i64 ((p : Int) + 1)] W fun e w' => e = .returned (.bool true) ∧ w' = W) := fun W => by have := D1 W (by omega); simpa using this
    clear D1 hd
    go_enter Tryd.func47, Tryd.ntmps47
    go_wp2_with fail
    refine (DQ.out _).mono ?_
    rintro e w1 ⟨rfl, hw⟩
    subst w1
    clear DQ
    go_wp2
    go_loopw [1, 8] (fun a x w' => ∃ n : Nat, (p + 1) + n ≤ s.size ∧ a = .int .i64 (((p + 1) + n : Nat) : Int) ∧ x = .int .i64 (satTo s (p + 1) n) ∧ (∀ j, j < n → digD s ((p + 1) + j) = true) ∧ Hid (w' = w)) (fun a _ _ => s.size - (intOf a).toNat)
    case atStart => exact ⟨0, by omega, by simp, rfl, fun j hj => absurd hj (by omega), (rfl : w = w)⟩
    case round =>
      obtain ⟨n, hn, rfl, rfl, ha, hw⟩ := hrel
      obtain rfl := hw.out
      have HA : Hid (∀ j, j < n → digD s ((p + 1) + j) = true) := ha
      clear ha
      obtain ⟨x0, x1⟩ := satTo_bd s (p + 1) n
      cases hd2 : digD s ((p + 1) + n)
      · have NN : nd s (p + 1) = n := nd_eq HA.out hd2 (by omega)
        have n0 : n ≠ 0 := fun e => by subst e; rw [Nat.add_zero] at hd2; rw [HD.out] at hd2; cases hd2
        have D2 := DG.out ((p + 1) + n) wr (by omega)
        rw [hd2] at D2
        have DX : Hid (Calls Tryd.prog 46 #[.string s, .int .i64 (((p + 1) + n : Nat) : Int)] wr fun e w' => e = .returned (.bool false) ∧ w' = wr) := D2
        have NR : Hid (numAtS s p = if 1000000000000 < satTo s (p + 1) n then (0, p + 1 + n, 6) else (-(satTo s (p + 1) n), p + 1 + n, 0)) := by show _ = _; rw [NA.out, NN, if_neg n0]
        clear D2 HA hd2 NN NA DG HD hz
        generalize satTo s (p + 1) n = x at *
        generalize (p + 1) + n = a at *
        have ae : (a : Int) ≤ 1000 := by omega
        by_cases hx : 1000000000000 < x
        · have hok : ok x = false := by unfold ok; simp; omega
          have NK : Hid (Calls Tryd.prog 54 #[.int .i64 x] wr fun e w' => e = .returned (.bool false) ∧ w' = wr) := by have := numOk_spec x wr; rw [hok] at this; exact this
          clear hok
          go_wp2_with fail
          refine DX.out.mono ?_
          rintro e w2 ⟨rfl, hw2⟩
          subst w2
          go_wp2_with fail
          refine NK.out.mono ?_
          rintro e w2 ⟨rfl, hw2⟩
          subst w2
          go_wp2
          go_ret3
          exact ⟨by rw [NR.out, if_pos hx]; first | rfl | simp, rfl⟩
        · have hok : ok x = true := by unfold ok; simp; omega
          have NK : Hid (Calls Tryd.prog 54 #[.int .i64 x] wr fun e w' => e = .returned (.bool true) ∧ w' = wr) := by have := numOk_spec x wr; rw [hok] at this; exact this
          clear hok
          go_wp2_with fail
          refine DX.out.mono ?_
          rintro e w2 ⟨rfl, hw2⟩
          subst w2
          go_wp2_with fail
          refine NK.out.mono ?_
          rintro e w2 ⟨rfl, hw2⟩
          subst w2
          go_wp2
          go_ret3
          exact ⟨by rw [NR.out, if_neg (by omega)]; first | rfl | simp, rfl⟩
      · have L : (p + 1) + n < s.size := by
          rcases Nat.lt_or_ge ((p + 1) + n) s.size with h | h
          · exact h
          · rw [digD_out s h] at hd2; cases hd2
        have D2 := DG.out ((p + 1) + n) wr (by omega)
        rw [hd2] at D2
        have DX : Hid (Calls Tryd.prog 46 #[.string s, .int .i64 (((p + 1) + n : Nat) : Int)] wr fun e w' => e = .returned (.bool true) ∧ w' = wr) := D2
        have hb := bt_at s L
        have hdd : 48 ≤ bt s ((p + 1) + n) ∧ bt s ((p + 1) + n) ≤ 57 := by unfold digD at hd2; simp only [Bool.and_eq_true, decide_eq_true_eq] at hd2; exact hd2.2
        have ST := satTo_succ (s := s) (q := p + 1) (n := n) hdd.1
        have NX : Hid (∀ j, j < n + 1 → digD s ((p + 1) + j) = true) := fun j hj => by
          by_cases e : j = n
          · subst e; exact hd2
          · exact HA.out j (by omega)
        rw [hb] at hdd ST
        have HST : Hid (satTo s (p + 1) (n + 1) = _) := ST
        obtain ⟨d0, d1⟩ := hdd
        clear hb ST D2 HA hd2 NA DG
        have ll : (((p + 1) + n : Nat) : Int) < (s.size : Int) := by omega
        have XN : Hid (((p + 1) + (n + 1) : Nat) = (p + 1) + n + 1) := by show _ = _; omega
        generalize hb8 : ((s[(p + 1) + n]'L).toNat : Int) = z at *
        generalize satTo s (p + 1) n = x at *
        generalize hae : (p + 1) + n = a at *
        go_wp2_with fail
        refine DX.out.mono ?_
        rintro e w2 ⟨rfl, hw2⟩
        subst w2
        go_wp2_with fail
        refine (lmin_spec _ _ _).mono ?_
        rintro e w2 ⟨rfl, hw2⟩
        subst w2
        rw [← HST.out]
        go_wp2
        go_roundw
        case rel => exact ⟨n + 1, by omega, by rw [XN.out]; go_num, rfl, NX.out, by first | exact hw | exact (trivial : True)⟩
        case measure => simp [intOf]; omega
/-- l8Num. -/
theorem num_spec (s : ByteArray) (p : Nat) (hs : s.size ≤ 300) (hp : p < s.size) (w : World) :
    Calls Tryd.prog 47 #[.string s, .int .i64 (p : Int)] w fun e w' => e = .returned (.tuple #[.int .i64 (numAtS s p).1, .int .i64 ((numAtS s p).2.1 : Int), .int .i64 (numAtS s p).2.2]) ∧ w' = w := by
  by_cases h : bt s p = 95
  · exact num_specB s p hs hp h w
  · exact num_specA s p hs hp h w
theorem newSp_empty {B : Nat} {w : World} (hB : B ≤ w.heap.size) : NewSp B (w.alloc (.cells #[] 40)) (.slice (some ⟨w.heap.size, 0, none⟩) 0 0) [] := NewSp.start w hB
theorem newSp_empty1 {B : Nat} {w : World} {T : Obj} (hB : B ≤ w.heap.size) : NewSp B ((w.alloc T).alloc (.cells #[] 40)) (.slice (some ⟨w.heap.size + 1, 0, none⟩) 0 0) [] := by
  have e : (w.alloc T).heap.size = w.heap.size + 1 := by simp only [World.alloc, Array.size_push]
  have h := NewSp.start (w.alloc T) (B := B) (by omega)
  rw [e] at h
  exact h
theorem num_bd (s : ByteArray) (p : Nat) : -1000000000001 ≤ (numAtS s p).1 ∧ (numAtS s p).1 ≤ 1000000000001 ∧ 0 ≤ (numAtS s p).2.2 ∧ (numAtS s p).2.2 ≤ 8 := by
  unfold numAtS
  dsimp only
  generalize (if bt s p = 95 then p + 1 else p) = q
  have := satTo_bd s q (nd s q)
  split
  · simp
  · split
    · simp
    · by_cases e : bt s p = 95
      · rw [if_pos e]; simp; omega
      · rw [if_neg e]; simp; omega
set_option maxRecDepth 20000 in
set_option maxHeartbeats 8000000 in
/-- The specification's Lex. -/
theorem lex_spec (s : ByteArray) (hsz : s.size ≤ 1048576) (w : World) :
    Calls Tryd.prog 29 #[.string s] w fun e w' => ∃ v, e = .returned (.tuple #[v, .int .i64 (lexV s).2.1, .int .i64 ((lexV s).2.2 : Int)]) ∧ NewSp w.heap.size w' v (lexV s).1 ∧ Below w.heap.size w w' := by
  by_cases hbig : 300 < s.size
  · have e : lexV s = ([], 6, 0) := by unfold lexV; rw [if_pos hbig]
    have hb2 : (s.size : Int) > 300 := by omega
    rw [e]
    go_enter Tryd.func29, Tryd.ntmps29
    go_wp2
    go_ret3
    exact ⟨_, rfl, newSp_empty (Nat.le_refl _), bAlloc (Below.refl _ _) _⟩
  have hs : s.size ≤ 300 := by omega
  have hb2 : ¬ (s.size : Int) > 300 := by omega
  have E0 : Hid (lexV s = lexR s 0 []) := by show _ = _; unfold lexV; rw [if_neg hbig]
  have DG : Hid (∀ (k : Nat) (W : World), k ≤ 1000 → Calls Tryd.prog 46 #[.string s, .int .i64 (k : Int)] W fun e w' => e = .returned (.bool (digD s k)) ∧ w' = W) := fun k W hk => digit_spec s k hs hk W
  have NM : Hid (∀ (k : Nat) (W : World), k < s.size → Calls Tryd.prog 47 #[.string s, .int .i64 (k : Int)] W fun e w' => e = .returned (.tuple #[.int .i64 (numAtS s k).1, .int .i64 ((numAtS s k).2.1 : Int), .int .i64 (numAtS s k).2.2]) ∧ w' = W) := fun k W hk => num_spec s k hs hk W
  have N0 : Hid (NewSp w.heap.size (w.alloc (.cells #[] 40)) (.slice (some ⟨w.heap.size, 0, none⟩) 0 0) []) := newSp_empty (Nat.le_refl _)
  go_enter Tryd.func29, Tryd.ntmps29
  go_wp2
  go_loopw [5, 6] (fun o a w' => ∃ (p : Nat) (acc : List Spn) (ad : Option Addr) (cd : Nat), p ≤ s.size ∧ a = .int .i64 (p : Int) ∧ o = .slice ad acc.length cd ∧ NewSp w.heap.size w' (.slice ad acc.length cd) acc ∧ Below w.heap.size w w' ∧ Hid (lexV s = lexR s p acc ∧ acc.length ≤ p)) (fun _ a _ => s.size - (intOf a).toNat)
  case atStart => exact ⟨0, [], _, _, by omega, rfl, rfl, N0.out, bAlloc (Below.refl _ _) _, E0.out, by simp⟩
  case round =>
    obtain ⟨p, acc, ad, cd, hp, rfl, rfl, hn, hb, hl⟩ := hrel
    have NK : Hid (NewSp w.heap.size wr (.slice ad acc.length cd) acc) := hn
    have BK : Hid (Below w.heap.size w wr) := hb
    have HL : Hid (lexV s = lexR s p acc ∧ acc.length ≤ p) := hl
    clear hn hb hl N0 E0
    by_cases hlt : (p : Int) < (s.size : Int)
    · have L : p < s.size := by omega
      have hbe := bt_at s L
      obtain ⟨b0, b1⟩ := bt_bd s p
      have CD := DG.out p
      have CN := NM.out p
      have nbd := num_bd s p
      have TK : Hid (tkAt s p = tkAt s p) := rfl
      obtain ⟨z, hz⟩ : ∃ z, z = bt s p := ⟨_, rfl⟩
      have hz1 : ((s[p]'L).toNat : Int) = z := by rw [hz]; exact hbe.symm
      rw [← hz] at b0 b1
      have T0 : Hid (NewSp w.heap.size (wr.alloc (.cells #[.int .i64 0, .int .i64 0] 40)) (.slice ad acc.length cd) acc) := NK.out.keep (bAlloc (Below.refl _ _) _)
      by_cases h32 : z = 32
      · have LN : Hid (lexV s = lexR s (p + 1) acc ∧ acc.length ≤ p + 1) := ⟨HL.out.1.trans (lexR_blank L (hz ▸ h32)), by have := HL.out.2; omega⟩
        clear hbe CD CN nbd TK hz
        go_wp2
        go_roundw
        case rel => exact ⟨p + 1, acc, ad, cd, by omega, by go_num, rfl, T0.out, bAlloc BK.out _, LN.out⟩
        case measure => simp [intOf]; omega
      have h32z : bt s p ≠ 32 := hz ▸ h32
      have hq32 : (z == 32) = false := by simp [h32]
      cases hdg : digD s p
      · have CD2 : Hid (∀ W, Calls Tryd.prog 46 #[.string s, .int .i64 (p : Int)] W fun e w' => e = .returned (.bool false) ∧ w' = W) := fun W => by have := CD W (by omega); rw [hdg] at this; exact this
        by_cases h95 : z = 95
        · have HDU : Hid (digD s p = true ∨ bt s p = 95) := .inr (hz ▸ h95)
          have hq95 : (z == 95) = true := by simp [h95]
          clear CD hdg
          have tk : tkAt s p = (1, (numAtS s p).1, (numAtS s p).2.1, (numAtS s p).2.2) := by unfold tkAt; rw [if_pos HDU.out]
          obtain ⟨n1, n2, n3, n4⟩ := nbd
          by_cases hc : (numAtS s p).2.2 = 0
          · have LN : Hid (lexV s = lexR s (numAtS s p).2.1 (acc ++ [⟨1, (numAtS s p).1⟩]) ∧ p < (numAtS s p).2.1 ∧ (numAtS s p).2.1 ≤ s.size) := by
              have h1 := lexR_tok (acc := acc) L h32z (by rw [tk]; exact hc)
              rw [tk] at h1
              exact ⟨HL.out.1.trans h1, numAtS_next s L HDU.out hc⟩
            rw [hc] at CN
            clear tk hbe TK hz hc n3 n4
            generalize (numAtS s p).1 = x at *
            generalize (numAtS s p).2.1 = q at *
            have CN2 : Hid (∀ W, Calls Tryd.prog 47 #[.string s, .int .i64 (p : Int)] W fun e w' => e = .returned (.tuple #[.int .i64 x, .int .i64 (q : Int), .int .i64 0]) ∧ w' = W) := fun W => CN W L
            clear CN
            obtain ⟨a5, c5, w5, r5, n5, b5⟩ := growS (⟨1, x⟩ : Spn) (NK.out.keep (bAlloc (Below.refl wr.heap.size wr) (.cells #[.int .i64 (1), .int .i64 (x)] 40))) (Nat.le_trans BK.out.size (bAlloc (Below.refl wr.heap.size wr) (.cells #[.int .i64 (1), .int .i64 (x)] 40)).size) (by have := HL.out.2; omega)
            have e5 : (wr.alloc (.cells #[.int .i64 (1), .int .i64 (x)] 40)).heap.size = wr.heap.size + 1 := by simp only [World.alloc, Array.size_push]
            rw [e5] at r5
            have R5 : Hid (∀ ty, (Builtin.append_ #[29, 29] ty #[.slice ad acc.length cd, .slice (some ⟨wr.heap.size + 1, 0, none⟩) 1 1]).run Tryd.prog ((wr.alloc (.cells #[.int .i64 (1), .int .i64 (x)] 40)).alloc (.cells #[.int .i64 (1), .int .i64 (x)] 40)) = .ok (.slice a5 (acc.length + 1) c5) w5) := r5
            have N5 : Hid (NewSp w.heap.size w5 (.slice a5 (acc.length + 1) c5) (acc ++ [⟨1, x⟩])) := n5
            have B5 : Hid (Below w.heap.size w w5) := (bAlloc BK.out _).trans b5
            have LE : Hid ((acc ++ [(⟨1, x⟩ : Spn)]).length = acc.length + 1) := by show _ = _; simp
            clear r5 n5 b5 e5
            go_wp2_with fail
            refine (CD2.out _).mono ?_
            rintro e w2 ⟨rfl, hw2⟩
            subst w2
            go_wp2_with fail
            refine (CN2.out _).mono ?_
            rintro e w2 ⟨rfl, hw2⟩
            subst w2
            go_wp2_with (at_builtin; refine wpList_append_ty rfl _ _ 29 29 rfl _ _ _ rfl rfl (R5.out _) ?_)
            go_roundw
            case rel => exact ⟨q, _, a5, c5, by have := LN.out.2.2; omega, by go_num, by rw [LE.out], by rw [LE.out]; exact N5.out, B5.out, LN.out.1, by rw [LE.out]; have := HL.out.2; have := LN.out.2.1; omega⟩
            case measure => simp [intOf]; have := LN.out.2.1; omega
          · have LB : Hid (lexV s = ([], (numAtS s p).2.2, p)) := by
              have h1 := lexR_bad (acc := acc) L h32z (by rw [tk]; exact hc)
              rw [tk] at h1
              exact HL.out.1.trans h1
            clear tk hbe TK hz
            generalize (numAtS s p).1 = x at *
            generalize (numAtS s p).2.1 = q at *
            generalize (numAtS s p).2.2 = cc at *
            have CN2 : Hid (∀ W, Calls Tryd.prog 47 #[.string s, .int .i64 (p : Int)] W fun e w' => e = .returned (.tuple #[.int .i64 x, .int .i64 (q : Int), .int .i64 cc]) ∧ w' = W) := fun W => CN W L
            clear CN
            go_wp2_with fail
            refine (CD2.out _).mono ?_
            rintro e w2 ⟨rfl, hw2⟩
            subst w2
            go_wp2_with fail
            refine (CN2.out _).mono ?_
            rintro e w2 ⟨rfl, hw2⟩
            subst w2
            go_wp2
            go_ret3
            rw [LB.out]
            exact ⟨_, rfl, newSp_empty1 BK.out.size, bAlloc (bAlloc BK.out _) _⟩
        · have nodig : ¬ (digD s p = true ∨ bt s p = 95) := by rw [hdg]; rintro (h | h); cases h; exact h95 (hz.trans h)
          have hq95 : (z == 95) = false := by simp [h95]
          have tk0 : tkAt s p = (if 65 ≤ z ∧ z ≤ 90 then (2, z - 65, p + 1, 0) else if z = 40 then (4, 0, p + 1, 0) else if z = 41 then (5, 0, p + 1, 0) else if z = 58 then (6, 0, p + 1, 0) else if signB z = true then (3, z, p + 1, 0) else (0, 0, p + 1, 8)) := by unfold tkAt; rw [if_neg nodig, ← hz]
          have OK : Hid (∀ (k v : Int), tkAt s p = (k, v, p + 1, 0) → lexV s = lexR s (p + 1) (acc ++ [⟨k, v⟩]) ∧ p < p + 1 ∧ p + 1 ≤ s.size) := fun k v h => by
            have h1 := lexR_tok (acc := acc) L h32z (by rw [h])
            rw [h] at h1
            exact ⟨HL.out.1.trans h1, by omega, by omega⟩
          have BAD : Hid (tkAt s p = (0, 0, p + 1, 8) → lexV s = ([], 8, p)) := fun h => by
            have h1 := lexR_bad (acc := acc) L h32z (by rw [h]; show (8 : Int) ≠ 0; decide)
            rw [h] at h1
            exact HL.out.1.trans h1
          have CI : Hid (∀ W, Calls Tryd.prog 48 #[.int .i64 z, .int .i64 65, .int .i64 90] W fun e w' => e = .returned (.bool (decide (65 ≤ z) && decide (z ≤ 90))) ∧ w' = W) := fun W => in_spec z 65 90 W
          have CS : Hid (∀ W, Calls Tryd.prog 49 #[.int .i64 z] W fun e w' => e = .returned (.bool (signB z)) ∧ w' = W) := fun W => sign_spec z W
          clear CD hdg nbd CN hbe TK nodig hz
          by_cases hL : 65 ≤ z ∧ z ≤ 90
          · have eL : (decide (65 ≤ z) && decide (z ≤ 90)) = true := by simp [hL]
            rw [eL] at CI
            obtain ⟨l1, l2⟩ := hL
            have LN := OK.out (2) (z - 65) (by rw [tk0]; rw [if_pos ⟨l1, l2⟩])
            have LN : Hid _ := LN
            clear tk0 BAD OK
            skip
            obtain ⟨a5, c5, w5, r5, n5, b5⟩ := growS (⟨2, z - 65⟩ : Spn) (NK.out.keep (bAlloc (Below.refl wr.heap.size wr) (.cells #[.int .i64 (2), .int .i64 (z - 65)] 40))) (Nat.le_trans BK.out.size (bAlloc (Below.refl wr.heap.size wr) (.cells #[.int .i64 (2), .int .i64 (z - 65)] 40)).size) (by have := HL.out.2; omega)
            have e5 : (wr.alloc (.cells #[.int .i64 (2), .int .i64 (z - 65)] 40)).heap.size = wr.heap.size + 1 := by simp only [World.alloc, Array.size_push]
            rw [e5] at r5
            have R5 : Hid (∀ ty, (Builtin.append_ #[29, 29] ty #[.slice ad acc.length cd, .slice (some ⟨wr.heap.size + 1, 0, none⟩) 1 1]).run Tryd.prog ((wr.alloc (.cells #[.int .i64 (2), .int .i64 (z - 65)] 40)).alloc (.cells #[.int .i64 (2), .int .i64 (z - 65)] 40)) = .ok (.slice a5 (acc.length + 1) c5) w5) := r5
            have N5 : Hid (NewSp w.heap.size w5 (.slice a5 (acc.length + 1) c5) (acc ++ [⟨2, z - 65⟩])) := n5
            have B5 : Hid (Below w.heap.size w w5) := (bAlloc BK.out _).trans b5
            have LE : Hid ((acc ++ [(⟨2, z - 65⟩ : Spn)]).length = acc.length + 1) := by show _ = _; simp
            clear r5 n5 b5 e5
            go_wp2_with fail
            refine (CD2.out _).mono ?_
            rintro e w2 ⟨rfl, hw2⟩
            subst w2
            go_wp2_with fail
            refine (CI.out _).mono ?_
            rintro e w2 ⟨rfl, hw2⟩
            subst w2
            go_wp2_with (at_builtin; refine wpList_append_ty rfl _ _ 29 29 rfl _ _ _ rfl rfl (R5.out _) ?_)
            go_roundw
            case rel => exact ⟨p + 1, _, a5, c5, by have := LN.out.2.2; omega, by go_num, by rw [LE.out], by rw [LE.out]; exact N5.out, B5.out, LN.out.1, by rw [LE.out]; have := HL.out.2; have := LN.out.2.1; omega⟩
            case measure => simp [intOf]; have := LN.out.2.1; omega
          · have eL : (decide (65 ≤ z) && decide (z ≤ 90)) = false := by rw [Bool.and_eq_false_iff]; simp; omega
            rw [eL] at CI
            rw [if_neg hL] at tk0
            clear hL
            by_cases h40 : z = 40
            · have e40 : (z == 40) = true := by simp [h40]
              subst h40
              have LN := OK.out (4) (0) (by rw [tk0]; rw [if_pos rfl])
              have LN : Hid _ := LN
              clear tk0 BAD OK
              skip
              obtain ⟨a5, c5, w5, r5, n5, b5⟩ := growS (⟨4, 0⟩ : Spn) (NK.out.keep (bAlloc (Below.refl wr.heap.size wr) (.cells #[.int .i64 (4), .int .i64 (0)] 40))) (Nat.le_trans BK.out.size (bAlloc (Below.refl wr.heap.size wr) (.cells #[.int .i64 (4), .int .i64 (0)] 40)).size) (by have := HL.out.2; omega)
              have e5 : (wr.alloc (.cells #[.int .i64 (4), .int .i64 (0)] 40)).heap.size = wr.heap.size + 1 := by simp only [World.alloc, Array.size_push]
              rw [e5] at r5
              have R5 : Hid (∀ ty, (Builtin.append_ #[29, 29] ty #[.slice ad acc.length cd, .slice (some ⟨wr.heap.size + 1, 0, none⟩) 1 1]).run Tryd.prog ((wr.alloc (.cells #[.int .i64 (4), .int .i64 (0)] 40)).alloc (.cells #[.int .i64 (4), .int .i64 (0)] 40)) = .ok (.slice a5 (acc.length + 1) c5) w5) := r5
              have N5 : Hid (NewSp w.heap.size w5 (.slice a5 (acc.length + 1) c5) (acc ++ [⟨4, 0⟩])) := n5
              have B5 : Hid (Below w.heap.size w w5) := (bAlloc BK.out _).trans b5
              have LE : Hid ((acc ++ [(⟨4, 0⟩ : Spn)]).length = acc.length + 1) := by show _ = _; simp
              clear r5 n5 b5 e5
              go_wp2_with fail
              refine (CD2.out _).mono ?_
              rintro e w2 ⟨rfl, hw2⟩
              subst w2
              go_wp2_with fail
              refine (CI.out _).mono ?_
              rintro e w2 ⟨rfl, hw2⟩
              subst w2
              go_wp2_with (at_builtin; refine wpList_append_ty rfl _ _ 29 29 rfl _ _ _ rfl rfl (R5.out _) ?_)
              go_roundw
              case rel => exact ⟨p + 1, _, a5, c5, by have := LN.out.2.2; omega, by go_num, by rw [LE.out], by rw [LE.out]; exact N5.out, B5.out, LN.out.1, by rw [LE.out]; have := HL.out.2; have := LN.out.2.1; omega⟩
              case measure => simp [intOf]; have := LN.out.2.1; omega
            · have e40 : (z == 40) = false := by simp [h40]
              rw [if_neg h40] at tk0
              by_cases h41 : z = 41
              · have e41 : (z == 41) = true := by simp [h41]
                subst h41
                have LN := OK.out (5) (0) (by rw [tk0]; rw [if_pos rfl])
                have LN : Hid _ := LN
                clear tk0 BAD OK
                skip
                obtain ⟨a5, c5, w5, r5, n5, b5⟩ := growS (⟨5, 0⟩ : Spn) (NK.out.keep (bAlloc (Below.refl wr.heap.size wr) (.cells #[.int .i64 (5), .int .i64 (0)] 40))) (Nat.le_trans BK.out.size (bAlloc (Below.refl wr.heap.size wr) (.cells #[.int .i64 (5), .int .i64 (0)] 40)).size) (by have := HL.out.2; omega)
                have e5 : (wr.alloc (.cells #[.int .i64 (5), .int .i64 (0)] 40)).heap.size = wr.heap.size + 1 := by simp only [World.alloc, Array.size_push]
                rw [e5] at r5
                have R5 : Hid (∀ ty, (Builtin.append_ #[29, 29] ty #[.slice ad acc.length cd, .slice (some ⟨wr.heap.size + 1, 0, none⟩) 1 1]).run Tryd.prog ((wr.alloc (.cells #[.int .i64 (5), .int .i64 (0)] 40)).alloc (.cells #[.int .i64 (5), .int .i64 (0)] 40)) = .ok (.slice a5 (acc.length + 1) c5) w5) := r5
                have N5 : Hid (NewSp w.heap.size w5 (.slice a5 (acc.length + 1) c5) (acc ++ [⟨5, 0⟩])) := n5
                have B5 : Hid (Below w.heap.size w w5) := (bAlloc BK.out _).trans b5
                have LE : Hid ((acc ++ [(⟨5, 0⟩ : Spn)]).length = acc.length + 1) := by show _ = _; simp
                clear r5 n5 b5 e5
                go_wp2_with fail
                refine (CD2.out _).mono ?_
                rintro e w2 ⟨rfl, hw2⟩
                subst w2
                go_wp2_with fail
                refine (CI.out _).mono ?_
                rintro e w2 ⟨rfl, hw2⟩
                subst w2
                go_wp2_with (at_builtin; refine wpList_append_ty rfl _ _ 29 29 rfl _ _ _ rfl rfl (R5.out _) ?_)
                go_roundw
                case rel => exact ⟨p + 1, _, a5, c5, by have := LN.out.2.2; omega, by go_num, by rw [LE.out], by rw [LE.out]; exact N5.out, B5.out, LN.out.1, by rw [LE.out]; have := HL.out.2; have := LN.out.2.1; omega⟩
                case measure => simp [intOf]; have := LN.out.2.1; omega
              · have e41 : (z == 41) = false := by simp [h41]
                rw [if_neg h41] at tk0
                by_cases h58 : z = 58
                · have e58 : (z == 58) = true := by simp [h58]
                  subst h58
                  have LN := OK.out (6) (0) (by rw [tk0]; rw [if_pos rfl])
                  have LN : Hid _ := LN
                  clear tk0 BAD OK
                  skip
                  obtain ⟨a5, c5, w5, r5, n5, b5⟩ := growS (⟨6, 0⟩ : Spn) (NK.out.keep (bAlloc (Below.refl wr.heap.size wr) (.cells #[.int .i64 (6), .int .i64 (0)] 40))) (Nat.le_trans BK.out.size (bAlloc (Below.refl wr.heap.size wr) (.cells #[.int .i64 (6), .int .i64 (0)] 40)).size) (by have := HL.out.2; omega)
                  have e5 : (wr.alloc (.cells #[.int .i64 (6), .int .i64 (0)] 40)).heap.size = wr.heap.size + 1 := by simp only [World.alloc, Array.size_push]
                  rw [e5] at r5
                  have R5 : Hid (∀ ty, (Builtin.append_ #[29, 29] ty #[.slice ad acc.length cd, .slice (some ⟨wr.heap.size + 1, 0, none⟩) 1 1]).run Tryd.prog ((wr.alloc (.cells #[.int .i64 (6), .int .i64 (0)] 40)).alloc (.cells #[.int .i64 (6), .int .i64 (0)] 40)) = .ok (.slice a5 (acc.length + 1) c5) w5) := r5
                  have N5 : Hid (NewSp w.heap.size w5 (.slice a5 (acc.length + 1) c5) (acc ++ [⟨6, 0⟩])) := n5
                  have B5 : Hid (Below w.heap.size w w5) := (bAlloc BK.out _).trans b5
                  have LE : Hid ((acc ++ [(⟨6, 0⟩ : Spn)]).length = acc.length + 1) := by show _ = _; simp
                  clear r5 n5 b5 e5
                  go_wp2_with fail
                  refine (CD2.out _).mono ?_
                  rintro e w2 ⟨rfl, hw2⟩
                  subst w2
                  go_wp2_with fail
                  refine (CI.out _).mono ?_
                  rintro e w2 ⟨rfl, hw2⟩
                  subst w2
                  go_wp2_with (at_builtin; refine wpList_append_ty rfl _ _ 29 29 rfl _ _ _ rfl rfl (R5.out _) ?_)
                  go_roundw
                  case rel => exact ⟨p + 1, _, a5, c5, by have := LN.out.2.2; omega, by go_num, by rw [LE.out], by rw [LE.out]; exact N5.out, B5.out, LN.out.1, by rw [LE.out]; have := HL.out.2; have := LN.out.2.1; omega⟩
                  case measure => simp [intOf]; have := LN.out.2.1; omega
                · have e58 : (z == 58) = false := by simp [h58]
                  rw [if_neg h58] at tk0
                  cases hsg : signB z
                  · have LB := BAD.out (by rw [tk0, if_neg (by rw [hsg]; decide)])
                    have LB : Hid _ := LB
                    rw [hsg] at CS
                    clear tk0 OK BAD hsg
                    go_wp2_with fail
                    refine (CD2.out _).mono ?_
                    rintro e w2 ⟨rfl, hw2⟩
                    subst w2
                    go_wp2_with fail
                    refine (CI.out _).mono ?_
                    rintro e w2 ⟨rfl, hw2⟩
                    subst w2
                    go_wp2_with fail
                    refine (CS.out _).mono ?_
                    rintro e w2 ⟨rfl, hw2⟩
                    subst w2
                    go_wp2
                    go_ret3
                    rw [LB.out]
                    exact ⟨_, rfl, newSp_empty1 BK.out.size, bAlloc (bAlloc BK.out _) _⟩
                  · rw [hsg] at CS
                    have LN := OK.out (3) (z) (by rw [tk0]; rw [if_pos hsg])
                    have LN : Hid _ := LN
                    clear tk0 BAD OK
                    clear hsg
                    obtain ⟨a5, c5, w5, r5, n5, b5⟩ := growS (⟨3, z⟩ : Spn) (NK.out.keep (bAlloc (Below.refl wr.heap.size wr) (.cells #[.int .i64 (3), .int .i64 (z)] 40))) (Nat.le_trans BK.out.size (bAlloc (Below.refl wr.heap.size wr) (.cells #[.int .i64 (3), .int .i64 (z)] 40)).size) (by have := HL.out.2; omega)
                    have e5 : (wr.alloc (.cells #[.int .i64 (3), .int .i64 (z)] 40)).heap.size = wr.heap.size + 1 := by simp only [World.alloc, Array.size_push]
                    rw [e5] at r5
                    have R5 : Hid (∀ ty, (Builtin.append_ #[29, 29] ty #[.slice ad acc.length cd, .slice (some ⟨wr.heap.size + 1, 0, none⟩) 1 1]).run Tryd.prog ((wr.alloc (.cells #[.int .i64 (3), .int .i64 (z)] 40)).alloc (.cells #[.int .i64 (3), .int .i64 (z)] 40)) = .ok (.slice a5 (acc.length + 1) c5) w5) := r5
                    have N5 : Hid (NewSp w.heap.size w5 (.slice a5 (acc.length + 1) c5) (acc ++ [⟨3, z⟩])) := n5
                    have B5 : Hid (Below w.heap.size w w5) := (bAlloc BK.out _).trans b5
                    have LE : Hid ((acc ++ [(⟨3, z⟩ : Spn)]).length = acc.length + 1) := by show _ = _; simp
                    clear r5 n5 b5 e5
                    go_wp2_with fail
                    refine (CD2.out _).mono ?_
                    rintro e w2 ⟨rfl, hw2⟩
                    subst w2
                    go_wp2_with fail
                    refine (CI.out _).mono ?_
                    rintro e w2 ⟨rfl, hw2⟩
                    subst w2
                    go_wp2_with fail
                    refine (CS.out _).mono ?_
                    rintro e w2 ⟨rfl, hw2⟩
                    subst w2
                    go_wp2_with (at_builtin; refine wpList_append_ty rfl _ _ 29 29 rfl _ _ _ rfl rfl (R5.out _) ?_)
                    go_roundw
                    case rel => exact ⟨p + 1, _, a5, c5, by have := LN.out.2.2; omega, by go_num, by rw [LE.out], by rw [LE.out]; exact N5.out, B5.out, LN.out.1, by rw [LE.out]; have := HL.out.2; have := LN.out.2.1; omega⟩
                    case measure => simp [intOf]; have := LN.out.2.1; omega
      · have CD2 : Hid (∀ W, Calls Tryd.prog 46 #[.string s, .int .i64 (p : Int)] W fun e w' => e = .returned (.bool true) ∧ w' = W) := fun W => by have := CD W (by omega); rw [hdg] at this; exact this
        have HDU : Hid (digD s p = true ∨ bt s p = 95) := .inl hdg
        clear CD hdg
        have tk : tkAt s p = (1, (numAtS s p).1, (numAtS s p).2.1, (numAtS s p).2.2) := by unfold tkAt; rw [if_pos HDU.out]
        obtain ⟨n1, n2, n3, n4⟩ := nbd
        by_cases hc : (numAtS s p).2.2 = 0
        · have LN : Hid (lexV s = lexR s (numAtS s p).2.1 (acc ++ [⟨1, (numAtS s p).1⟩]) ∧ p < (numAtS s p).2.1 ∧ (numAtS s p).2.1 ≤ s.size) := by
            have h1 := lexR_tok (acc := acc) L h32z (by rw [tk]; exact hc)
            rw [tk] at h1
            exact ⟨HL.out.1.trans h1, numAtS_next s L HDU.out hc⟩
          rw [hc] at CN
          clear tk hbe TK hz hc n3 n4
          generalize (numAtS s p).1 = x at *
          generalize (numAtS s p).2.1 = q at *
          have CN2 : Hid (∀ W, Calls Tryd.prog 47 #[.string s, .int .i64 (p : Int)] W fun e w' => e = .returned (.tuple #[.int .i64 x, .int .i64 (q : Int), .int .i64 0]) ∧ w' = W) := fun W => CN W L
          clear CN
          obtain ⟨a5, c5, w5, r5, n5, b5⟩ := growS (⟨1, x⟩ : Spn) (NK.out.keep (bAlloc (Below.refl wr.heap.size wr) (.cells #[.int .i64 (1), .int .i64 (x)] 40))) (Nat.le_trans BK.out.size (bAlloc (Below.refl wr.heap.size wr) (.cells #[.int .i64 (1), .int .i64 (x)] 40)).size) (by have := HL.out.2; omega)
          have e5 : (wr.alloc (.cells #[.int .i64 (1), .int .i64 (x)] 40)).heap.size = wr.heap.size + 1 := by simp only [World.alloc, Array.size_push]
          rw [e5] at r5
          have R5 : Hid (∀ ty, (Builtin.append_ #[29, 29] ty #[.slice ad acc.length cd, .slice (some ⟨wr.heap.size + 1, 0, none⟩) 1 1]).run Tryd.prog ((wr.alloc (.cells #[.int .i64 (1), .int .i64 (x)] 40)).alloc (.cells #[.int .i64 (1), .int .i64 (x)] 40)) = .ok (.slice a5 (acc.length + 1) c5) w5) := r5
          have N5 : Hid (NewSp w.heap.size w5 (.slice a5 (acc.length + 1) c5) (acc ++ [⟨1, x⟩])) := n5
          have B5 : Hid (Below w.heap.size w w5) := (bAlloc BK.out _).trans b5
          have LE : Hid ((acc ++ [(⟨1, x⟩ : Spn)]).length = acc.length + 1) := by show _ = _; simp
          clear r5 n5 b5 e5
          go_wp2_with fail
          refine (CD2.out _).mono ?_
          rintro e w2 ⟨rfl, hw2⟩
          subst w2
          go_wp2_with fail
          refine (CN2.out _).mono ?_
          rintro e w2 ⟨rfl, hw2⟩
          subst w2
          go_wp2_with (at_builtin; refine wpList_append_ty rfl _ _ 29 29 rfl _ _ _ rfl rfl (R5.out _) ?_)
          go_roundw
          case rel => exact ⟨q, _, a5, c5, by have := LN.out.2.2; omega, by go_num, by rw [LE.out], by rw [LE.out]; exact N5.out, B5.out, LN.out.1, by rw [LE.out]; have := HL.out.2; have := LN.out.2.1; omega⟩
          case measure => simp [intOf]; have := LN.out.2.1; omega
        · have LB : Hid (lexV s = ([], (numAtS s p).2.2, p)) := by
            have h1 := lexR_bad (acc := acc) L h32z (by rw [tk]; exact hc)
            rw [tk] at h1
            exact HL.out.1.trans h1
          clear tk hbe TK hz
          generalize (numAtS s p).1 = x at *
          generalize (numAtS s p).2.1 = q at *
          generalize (numAtS s p).2.2 = cc at *
          have CN2 : Hid (∀ W, Calls Tryd.prog 47 #[.string s, .int .i64 (p : Int)] W fun e w' => e = .returned (.tuple #[.int .i64 x, .int .i64 (q : Int), .int .i64 cc]) ∧ w' = W) := fun W => CN W L
          clear CN
          go_wp2_with fail
          refine (CD2.out _).mono ?_
          rintro e w2 ⟨rfl, hw2⟩
          subst w2
          go_wp2_with fail
          refine (CN2.out _).mono ?_
          rintro e w2 ⟨rfl, hw2⟩
          subst w2
          go_wp2
          go_ret3
          rw [LB.out]
          exact ⟨_, rfl, newSp_empty1 BK.out.size, bAlloc (bAlloc BK.out _) _⟩
    · obtain rfl : p = s.size := by omega
      have LE : Hid (lexV s = (acc, 0, s.size)) := HL.out.1.trans (lexR_end (Nat.le_refl _))
      go_wp2
      go_ret3
      rw [LE.out]
      exact ⟨_, rfl, NK.out, BK.out⟩
end Go.Proofs.YtnebjnglcfebeaaDoor
