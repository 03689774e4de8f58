
/-
  Walks: the program's VarsOk; lists of letters held against each other.
-/
import Derived.Test.YtkhcphkdcjimiaaGreatVarsQ
namespace Go.Proofs.YtkhcphkdcjimiaaGreat
open Go.RowKit Go.Shelf
set_option linter.unusedVariables false
set_option linter.unusedSimpArgs false
set_option maxRecDepth 20000 in
set_option maxHeartbeats 4000000 in
/-- varWrong. -/
theorem varWrong_impl {b : Bool} {s d : List Int} {w : World} {xa ya : Option Addr} {xc yc : Nat} (h : ArrI w (.agg #[.slice xa s.length xc, .slice ya d.length yc]) s d) (hs : s.length ≤ 1048576) (hd : d.length ≤ 1048576) :
    Calls Tryz.prog 17 #[.agg #[.bool b, .slice xa s.length xc, .slice ya d.length yc]] w fun e w' => e = .returned (.bool (!varB b s d)) ∧ Below w.heap.size w w' := by
  have H : Hid (ArrI w (.agg #[.slice xa s.length xc, .slice ya d.length yc]) s d) := h
  have HD : Hid (d.length ≤ 1048576) := hd
  clear h
  cases b
  · have EV : varB false s d = decide (s.length + d.length = 0) := rfl
    by_cases h1 : s.length = 0
    · have n1 : ¬ (0 : Int) < (s.length : Int) := by omega
      have ms : ¬ 0 < s.length := by omega
      have es : decide (0 < s.length) = false := decide_eq_false (by omega)
      have gs : decide ((0 : Int) < (s.length : Int)) = false := decide_eq_false (by omega)
      by_cases h2 : d.length = 0
      · have n2 : ¬ (0 : Int) < (d.length : Int) := by omega
        have md : ¬ 0 < d.length := by omega
        have ed : decide (0 < d.length) = false := decide_eq_false (by omega)
        have gd : decide ((0 : Int) < (d.length : Int)) = false := decide_eq_false (by omega)
        rw [EV, decide_eq_true (by omega)]
        have HZ : Hid (d.length = 0) := h2
        clear EV h1 h2
        go_enter Tryz.func17, Tryz.ntmps17
        go_wp2
        go_ret
        exact ⟨by first | rfl | simp [HZ.out], bAlloc (Below.refl _ _) _⟩
      · have n2 : (0 : Int) < (d.length : Int) := by omega
        have md : 0 < d.length := by omega
        have ed : decide (0 < d.length) = true := decide_eq_true (by omega)
        have gd : decide ((0 : Int) < (d.length : Int)) = true := decide_eq_true (by omega)
        rw [EV, decide_eq_false (by omega)]
        have HZ : Hid (0 < d.length) := by show _ < _; omega
        clear EV h1 h2
        go_enter Tryz.func17, Tryz.ntmps17
        go_wp2
        go_ret
        exact ⟨by first | rfl | simp [HZ.out], bAlloc (Below.refl _ _) _⟩
    · have n1 : (0 : Int) < (s.length : Int) := by omega
      have ms : 0 < s.length := by omega
      have es : decide (0 < s.length) = true := decide_eq_true (by omega)
      have gs : decide ((0 : Int) < (s.length : Int)) = true := decide_eq_true (by omega)
      rw [EV, decide_eq_false (by omega)]
      have HZ : Hid (0 < s.length) := by show _ < _; omega
      clear EV h1
      go_enter Tryz.func17, Tryz.ntmps17
      go_wp2
      go_ret
      exact ⟨by first | rfl | simp [HZ.out], bAlloc (Below.refl _ _) _⟩
  · have EV : varB true s d = arrOk s d := rfl
    rw [EV]
    clear EV
    have CO : Hid (∀ W, Below w.heap.size w W → Calls Tryz.prog 28 #[.agg #[.slice xa s.length xc, .slice ya d.length yc]] W fun e w' => e = .returned (.bool (arrOk s d)) ∧ Below W.heap.size W w') := fun W hb => arrOk_impl (H.out.keep hb) HD.out
    generalize arrOk s d = q at *
    go_enter Tryz.func17, Tryz.ntmps17
    go_wp2_with fail
    refine (CO.out _ (bAlloc (Below.refl _ _) _)).mono ?_
    rintro r w2 ⟨rfl, hb⟩
    have B2 : Hid (Below w.heap.size w w2) := bTrans (bAlloc (Below.refl _ _) _) hb
    clear hb
    go_wp2
    go_ret
    exact ⟨rfl, B2.out⟩
set_option maxRecDepth 20000 in
set_option maxHeartbeats 4000000 in
/-- slices.IndexFunc over varWrong. -/
theorem indexWrong_impl {w : World} {v : Value} {B : Nat → Bool} {S D : Nat → List Int} (h : VarsI w v 26 B S D) (hl : ∀ i, (S i).length ≤ 1048576 ∧ (D i).length ≤ 1048576) :
    Calls Tryz.prog 27 #[v, .func (.func 17) #[] #[]] w fun r w' => ∃ x : Int, r = .returned (.int .i64 x) ∧ (decide (0 ≤ x) = !varsB 26 B S D) ∧ Below w.heap.size w w' := by
  have H : Hid (VarsI w v 26 B S D) := h
  have HL : Hid (∀ i, (S i).length ≤ 1048576 ∧ (D i).length ≤ 1048576) := hl
  have hE : ∀ (args : Array Value) (w : World), (callFunc 17 args).run Tryz.prog w = .ok (.enter 17 args) w := enters_of Tryz.func17 (by kernel_rfl) rfl
  have GD : Hid ((∀ i, i < 26 → varB (B i) (S i) (D i) = true) → varsB 26 B S D = true) := varsB_good
  have BD : Hid (∀ i, i < 26 → varB (B i) (S i) (D i) = false → varsB 26 B S D = false) := fun i hi h => varsB_bad hi h
  generalize varsB 26 B S D = Q at *
  obtain ⟨a, c, rfl, _⟩ := h
  clear hl
  go_enter Tryz.func27, Tryz.ntmps27
  go_wp2
  go_loopw [8] (fun i w' => ∃ k : Nat, k ≤ 26 ∧ i = .int .i64 (k : Int) ∧ (∀ i, i < k → varB (B i) (S i) (D i) = true) ∧ Below w.heap.size w w') (fun i _ => 26 - (intOf i).toNat)
  case atStart => exact ⟨0, by omega, rfl, fun i hi => absurd hi (by omega), Below.refl _ _⟩
  case round =>
    obtain ⟨k, hk, rfl, hA, hb⟩ := hrel
    have HA : Hid (∀ i, i < k → varB (B i) (S i) (D i) = true) := hA
    have HB : Hid (Below w.heap.size w wr) := hb
    clear hA hb
    by_cases hlt : (k : Int) < 26
    · have L : k < 26 := by omega
      obtain ⟨o, off, xa, xc, ya, yc, rfl, ho, p0, p1, p2, ar⟩ := (H.out.keep HB.out).at L
      have AR : Hid (ArrI wr (.agg #[.slice xa (S k).length xc, .slice ya (D k).length yc]) (S k) (D k)) := ar
      have LL : Hid ((S k).length ≤ 1048576 ∧ (D k).length ≤ 1048576) := HL.out k
      have NX : Hid (varB (B k) (S k) (D k) = true → ∀ i, i < k + 1 → varB (B i) (S i) (D i) = true) := fun h i hi => by
        by_cases e : i = k
        · rw [e]; exact h
        · exact HA.out i (by omega)
      have BX : Hid (varB (B k) (S k) (D k) = false → Q = false) := BD.out k L
      clear ar ho
      generalize S k = s at *
      generalize D k = d at *
      generalize B k = b at *
      have CW : Hid (Calls Tryz.prog 17 #[.agg #[.bool b, .slice xa s.length xc, .slice ya d.length yc]] wr fun e w' => e = .returned (.bool (!varB b s d)) ∧ Below wr.heap.size wr w') := varWrong_impl AR.out LL.out.1 LL.out.2
      generalize varB b s d = q at *
      cases q
      · have QF : Hid (Q = false) := BX.out rfl
        clear NX BX
        go_wp2_with fail
        go_at_fn 17
        refine CW.out.mono ?_
        rintro r w2 ⟨rfl, hb⟩
        have B2 : Hid (Below w.heap.size w w2) := bTrans HB.out hb
        clear hb
        go_wp2
        go_ret
        exact ⟨_, rfl, by rw [QF.out]; simp, B2.out⟩
      · have NY : Hid (∀ i, i < k + 1 → varB (B i) (S i) (D i) = true) := NX.out rfl
        clear NX BX
        go_wp2_with fail
        go_at_fn 17
        refine CW.out.mono ?_
        rintro r w2 ⟨rfl, hb⟩
        have B2 : Hid (Below w.heap.size w w2) := bTrans HB.out hb
        clear hb
        go_wp2
        go_roundw
        case rel => exact ⟨k + 1, by omega, by go_num, NY.out, B2.out⟩
        case measure => simp [intOf]; omega
    · obtain rfl : k = 26 := by omega
      have QT : Hid (Q = true) := GD.out HA.out
      go_wp2
      go_ret
      exact ⟨_, rfl, by rw [QT.out]; rfl, HB.out⟩
set_option maxRecDepth 20000 in
set_option maxHeartbeats 4000000 in
/-- The program's VarsOk. -/
theorem varsOk_impl {w : World} {v : Value} {n : Nat} {B : Nat → Bool} {S D : Nat → List Int} (h : VarsI w v n B S D) (hl : ∀ i, (S i).length ≤ 1048576 ∧ (D i).length ≤ 1048576) (hn : n ≤ 1048576) :
    Calls Tryz.prog 8 #[v] w fun e w' => e = .returned (.bool (varsB n B S D)) ∧ Below w.heap.size w w' := by
  have H : Hid (VarsI w v n B S D) := h
  obtain ⟨a, c, rfl, _⟩ := h
  by_cases h26 : n = 26
  · subst h26
    have HX : Hid (Calls Tryz.prog 27 #[.slice a 26 c, .func (.func 17) #[] #[]] w fun r w' => ∃ x : Int, r = .returned (.int .i64 x) ∧ (decide (0 ≤ x) = !varsB 26 B S D) ∧ Below w.heap.size w w') := indexWrong_impl H.out hl
    generalize varsB 26 B S D = Q at *
    clear hl
    have HC : Hid (Calls Tryz.prog 16 #[.slice a 26 c, .func (.func 17) #[] #[]] w fun r w' => r = .returned (.bool (!Q)) ∧ Below w.heap.size w w') := by
      go_enter Tryz.func16, Tryz.ntmps16
      go_wp2_with fail
      refine HX.out.mono ?_
      rintro r w1 ⟨x, rfl, hx, hb⟩
      have B1 : Hid (Below w.heap.size w w1) := hb
      have E : Hid (decide (0 ≤ x) = !Q) := hx
      clear hx hb
      go_wp2
      go_ret
      exact ⟨by rw [← E.out]; rfl, B1.out⟩
    go_enter Tryz.func8, Tryz.ntmps8
    go_wp2_with fail
    refine HC.out.mono ?_
    rintro r w1 ⟨rfl, hb⟩
    have B1 : Hid (Below w.heap.size w w1) := hb
    clear hb
    go_wp2
    go_ret
    exact ⟨by simp, B1.out⟩
  · rw [varsB_long h26]
    have n1 : ((n : Int) == 26) = false := by simp; omega
    clear h26
    go_enter Tryz.func8, Tryz.ntmps8
    go_wp2
    go_ret
    exact ⟨rfl, Below.refl _ _⟩
end Go.Proofs.YtkhcphkdcjimiaaGreat
