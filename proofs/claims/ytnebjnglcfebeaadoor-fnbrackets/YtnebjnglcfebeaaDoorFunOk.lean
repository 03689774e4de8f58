
/-
  Walks: FunOne and FunTwo, the specification's and the program's, whatever they are given; toFun.
-/
import Derived.Test.YtnebjnglcfebeaaDoorTokOk
import Derived.Test.YtnebjnglcfebeaaDoorFunM
import Derived.Test.YtnebjnglcfebeaaDoorSpecOne
import Derived.Test.YtnebjnglcfebeaaDoorOnes
import Derived.Test.YtnebjnglcfebeaaDoorTwo
namespace Go.Proofs.YtnebjnglcfebeaaDoor
open Go.RowKit
set_option linter.unusedVariables false
set_option linter.unusedSimpArgs false
theorem known1' (g : Int) : ((oneV g 0).2 != 1) = sign1 g := by
  by_cases h : sign1 g = true
  · rcases sign1_of h with rfl | rfl | rfl | rfl | rfl <;> decide
  · have h : sign1 g = false := by simpa using h
    rw [oneV_none h, h]; rfl
theorem known2' (g : Int) : ((twoV g 0 0).2 != 1) = sign2 g := by
  by_cases h : sign2 g = true
  · rcases sign2_of h with rfl | rfl | rfl | rfl | rfl | rfl | rfl | rfl | rfl | rfl <;> decide
  · have h : sign2 g = false := by simpa using h
    rw [twoV_none h, h]; rfl
set_option maxHeartbeats 1000000 in
/-- knownToOne. -/
theorem knows1_impl (g : Int) (w : World) :
    Calls Tryd.prog 75 #[.int .i64 g] w fun r w' => r = .returned (.bool (sign1 g)) ∧ Below w.heap.size w w' := by
  have K : Hid (((oneV g 0).2 != 1) = sign1 g) := known1' g
  have HV : Hid (∀ W, Calls Tryd.prog 80 #[.int .i64 g, .int .i64 0] W fun e w' => e = .returned (.tuple #[.int .i64 (oneV g 0).1, .int .i64 (oneV g 0).2]) ∧ Below W.heap.size W w') := fun W => one_impl g 0 W
  generalize (oneV g 0).1 = x at *
  generalize (oneV g 0).2 = y at *
  go_enter Tryd.func75, Tryd.ntmps75
  go_wp2_with fail
  refine (HV.out _).mono ?_
  rintro r w1 ⟨rfl, hb⟩
  have HB : Hid (Below w.heap.size w w1) := hb
  clear hb
  go_wp2
  go_ret
  exact ⟨by rw [← K.out]; rfl, HB.out⟩
set_option maxHeartbeats 1000000 in
/-- knownToTwo. -/
theorem knows2_impl (g : Int) (w : World) :
    Calls Tryd.prog 76 #[.int .i64 g] w fun r w' => r = .returned (.bool (sign2 g)) ∧ Below w.heap.size w w' := by
  have K : Hid (((twoV g 0 0).2 != 1) = sign2 g) := known2' g
  have HV : Hid (∀ W, Calls Tryd.prog 81 #[.int .i64 g, .int .i64 0, .int .i64 0] W fun e w' => e = .returned (.tuple #[.int .i64 (twoV g 0 0).1, .int .i64 (twoV g 0 0).2]) ∧ Below W.heap.size W w') := fun W => two_impl g 0 0 W
  generalize (twoV g 0 0).1 = x at *
  generalize (twoV g 0 0).2 = y at *
  go_enter Tryd.func76, Tryd.ntmps76
  go_wp2_with fail
  refine (HV.out _).mono ?_
  rintro r w1 ⟨rfl, hb⟩
  have HB : Hid (Below w.heap.size w w1) := hb
  clear hb
  go_wp2
  go_ret
  exact ⟨by rw [← K.out]; rfl, HB.out⟩
theorem oneL_are : Among ⟨#[105, 35, 44, 114, 122, 103]⟩ oneL := by
  refine ⟨rfl, ?_, ?_⟩
  · intro k h
    have : ∀ k : Fin 6, (((⟨#[105, 35, 44, 114, 122, 103]⟩ : ByteArray)[k.1]'k.2).toNat : Int) = oneL.getD k.1 0 := by decide
    exact this ⟨k, h⟩
  · intro k h
    have : ∀ k : Fin 6, (((⟨#[105, 35, 44, 114, 122, 103]⟩ : ByteArray)[k.1]'k.2).toNat) < 128 := by decide
    exact this ⟨k, h⟩
theorem twoL_are : Among ⟨#[35, 44, 116, 100, 114, 64, 63, 36, 101]⟩ twoL := by
  refine ⟨rfl, ?_, ?_⟩
  · intro k h
    have : ∀ k : Fin 9, (((⟨#[35, 44, 116, 100, 114, 64, 63, 36, 101]⟩ : ByteArray)[k.1]'k.2).toNat : Int) = twoL.getD k.1 0 := by decide
    exact this ⟨k, h⟩
  · intro k h
    have : ∀ k : Fin 9, (((⟨#[35, 44, 116, 100, 114, 64, 63, 36, 101]⟩ : ByteArray)[k.1]'k.2).toNat) < 128 := by decide
    exact this ⟨k, h⟩
set_option maxRecDepth 20000 in
set_option maxHeartbeats 4000000 in
/-- The specification's FunOne. -/
theorem funOne_spec (g o h : Int) (w : World) : Calls Tryd.prog 36 #[.agg #[.int .i64 g, .int .i64 o, .int .i64 h]] w fun e w' => e = .returned (.bool (funOneB g o h)) ∧ Below w.heap.size w w' := by
  go_enter Tryd.func36, Tryd.ntmps36
  go_wp2_with (first | (go_at_call 57; refine (sign1_spec _ _).mono ?_; rintro r w1 ⟨rfl, hw⟩; subst w1) | (go_at_call 56; refine (sign2_spec _ _).mono ?_; rintro r w1 ⟨rfl, hw⟩; subst w1))
  all_goals
    go_ret
    refine ⟨ret_bool ?_, bAlloc (Below.refl _ _) _⟩
    first
    | (simp_all [funOneB, oneSig, oneL]; done)
    | (simp_all [funOneB, oneSig, oneL]; rw [Bool.eq_iff_iff]; simp; omega)
set_option maxRecDepth 20000 in
set_option maxHeartbeats 4000000 in
/-- The specification's FunTwo. -/
theorem funTwo_spec (g o h : Int) (w : World) : Calls Tryd.prog 39 #[.agg #[.int .i64 g, .int .i64 o, .int .i64 h]] w fun e w' => e = .returned (.bool (funTwoB g o h)) ∧ Below w.heap.size w w' := by
  go_enter Tryd.func39, Tryd.ntmps39
  go_wp2_with (go_at_call 56; refine (sign2_spec _ _).mono ?_; rintro r w1 ⟨rfl, hw⟩; subst w1)
  all_goals
    go_ret
    refine ⟨ret_bool ?_, bAlloc (Below.refl _ _) _⟩
    first
    | (simp_all [funTwoB, twoSig, twoL]; done)
    | (simp_all [funTwoB, twoSig, twoL]; rw [Bool.eq_iff_iff]; simp; omega)
theorem cell3a (w : World) (x y z : Value) (t : TypeId) {w' : World} (hb : Below (w.alloc (.cells #[x, y, z] t)).heap.size (w.alloc (.cells #[x, y, z] t)) w') {k : Nat} {v : Value} (h : #[x, y, z][k]? = some v) : w'.cell? ⟨w.heap.size, k, none⟩ = some v := by
  rw [hb.cell (p := ⟨w.heap.size, k, none⟩) (by simp)]
  exact cell_newT _ _ _ h
set_option maxRecDepth 20000 in
set_option maxHeartbeats 4000000 in
/-- The program's FunOne. -/
theorem funOne_impl (g o h : Int) (w : World) : Calls Tryd.prog 65 #[.agg #[.int .i64 g, .int .i64 o, .int .i64 h]] w fun e w' => e = .returned (.bool (funOneB g o h)) ∧ Below w.heap.size w w' := by
  obtain ⟨q, hq⟩ : ∃ q, q = funOneB g o h := ⟨_, rfl⟩
  rw [← hq]
  have HA : Hid (∀ W, Calls Tryd.prog 74 #[.string ⟨#[105, 35, 44, 114, 122, 103]⟩, .int .i64 g] W fun e w' => e = .returned (.bool (oneL.contains g)) ∧ Below W.heap.size W w') := fun W => among_impl oneL_are (by decide) g W
  generalize hL : oneL.contains g = L at *
  by_cases hh : h = 0
  · subst hh
    rcases opers o with rfl | rfl | rfl | hz
    · cases hs : sign1 g with
      | true =>
        have HQ : Hid (q = true) := by show _ = _; rw [hq]; simp [funOneB, oneSig, hs]
        clear hq
        go_enter Tryd.func65, Tryd.ntmps65
        go_wp2_with fail
        refine (knows1_impl _ _).mono ?_
        rintro r w1 ⟨rfl, hb⟩
        have HB : Hid (Below w.heap.size w w1) := bTrans (bAlloc (Below.refl _ _) _) hb
        rw [hs]
        clear hb hs
        go_wp2
        go_ret
        exact ⟨by rw [HQ.out]; rfl, HB.out⟩
      | false =>
        have HQ : Hid (q = L) := by show _ = _; rw [hq]; simp [funOneB, oneSig, hs, ← hL]
        clear hq
        go_enter Tryd.func65, Tryd.ntmps65
        go_wp2_with fail
        refine (knows1_impl _ _).mono ?_
        rintro r w1 ⟨rfl, hb⟩
        have HB : Hid (Below w.heap.size w w1) := bTrans (bAlloc (Below.refl _ _) _) hb
        have c0 : w1.cell? ⟨w.heap.size, 0, none⟩ = some (.int .i64 g) := cell3a _ _ _ _ _ hb rfl
        rw [hs]
        clear hb hs
        go_wp2_with fail
        refine (HA.out _).mono ?_
        rintro r w2 ⟨rfl, hb⟩
        have HB2 : Hid (Below w.heap.size w w2) := bTrans HB.out hb
        clear hb
        go_wp2
        go_ret
        exact ⟨by rw [HQ.out]; rfl, HB2.out⟩
    iterate 2
      · have HQ : Hid (q = sign2 g) := by show _ = _; rw [hq]; simp [funOneB]
        clear hq
        go_enter Tryd.func65, Tryd.ntmps65
        go_wp2_with fail
        refine (knows2_impl _ _).mono ?_
        rintro r w1 ⟨rfl, hb⟩
        have HB : Hid (Below w.heap.size w w1) := bTrans (bAlloc (Below.refl _ _) _) hb
        rw [← HQ.out]
        clear hb
        go_wp2
        go_ret
        exact ⟨rfl, HB.out⟩
    · have h1 : (o == 0) = false ∧ (o == 47) = false ∧ (o == 92) = false := by rcases hz with rfl | rfl | h <;> simp_all
      obtain ⟨h1, h2, h3⟩ := h1
      have HQ : Hid (q = false) := by show _ = _; rw [hq]; unfold funOneB; simp at h1 h2 h3; simp [h1, h2, h3]
      clear hq hz
      go_enter Tryd.func65, Tryd.ntmps65
      go_wp2
      go_ret
      exact ⟨by rw [HQ.out]; rfl, bAlloc (Below.refl _ _) _⟩
  · have HQ : Hid (q = false) := by show _ = _; rw [hq]; simp [funOneB, hh]
    have h1 : (h != 0) = true := by simpa using hh
    clear hq hh
    go_enter Tryd.func65, Tryd.ntmps65
    go_wp2
    go_ret
    exact ⟨by rw [HQ.out]; rfl, bAlloc (Below.refl _ _) _⟩
set_option maxRecDepth 20000 in
set_option maxHeartbeats 4000000 in
/-- The program's FunTwo. -/
theorem funTwo_impl (g o h : Int) (w : World) : Calls Tryd.prog 67 #[.agg #[.int .i64 g, .int .i64 o, .int .i64 h]] w fun e w' => e = .returned (.bool (funTwoB g o h)) ∧ Below w.heap.size w w' := by
  obtain ⟨q, hq⟩ : ∃ q, q = funTwoB g o h := ⟨_, rfl⟩
  rw [← hq]
  have HA : Hid (∀ W, Calls Tryd.prog 74 #[.string ⟨#[35, 44, 116, 100, 114, 64, 63, 36, 101]⟩, .int .i64 g] W fun e w' => e = .returned (.bool (twoL.contains g)) ∧ Below W.heap.size W w') := fun W => among_impl twoL_are (by decide) g W
  generalize hL : twoL.contains g = L at *
  by_cases ho : o = 46
  · subst ho
    cases hs : sign2 g with
    | false =>
      have HQ : Hid (q = false) := by show _ = _; rw [hq]; simp [funTwoB, hs]
      clear hq
      go_enter Tryd.func67, Tryd.ntmps67
      go_wp2_with fail
      refine (knows2_impl _ _).mono ?_
      rintro r w1 ⟨rfl, hb⟩
      have HB : Hid (Below w.heap.size w w1) := bTrans (bAlloc (Below.refl _ _) _) hb
      rw [hs]
      clear hb hs
      go_wp2
      go_ret
      exact ⟨by rw [HQ.out]; rfl, HB.out⟩
    | true =>
      have HQ : Hid (q = sign2 h) := by show _ = _; rw [hq]; simp [funTwoB, hs]
      clear hq
      go_enter Tryd.func67, Tryd.ntmps67
      go_wp2_with fail
      refine (knows2_impl _ _).mono ?_
      rintro r w1 ⟨rfl, hb⟩
      have HB : Hid (Below w.heap.size w w1) := bTrans (bAlloc (Below.refl _ _) _) hb
      have c0 : w1.cell? ⟨w.heap.size, 2, none⟩ = some (.int .i64 h) := cell3a _ _ _ _ _ hb rfl
      rw [hs]
      clear hb hs
      go_wp2_with fail
      refine (knows2_impl _ _).mono ?_
      rintro r w2 ⟨rfl, hb⟩
      have HB2 : Hid (Below w.heap.size w w2) := bTrans HB.out hb
      rw [← HQ.out]
      clear hb
      go_wp2
      go_ret
      exact ⟨rfl, HB2.out⟩
  · have ho2 : (o == 46) = false := by simpa using ho
    by_cases hh : h = 0
    · subst hh
      by_cases h0 : o = 0
      · subst h0
        cases hs : sign2 g with
        | true =>
          have HQ : Hid (q = true) := by show _ = _; rw [hq]; simp [funTwoB, twoSig, hs]
          clear hq
          go_enter Tryd.func67, Tryd.ntmps67
          go_wp2_with fail
          refine (knows2_impl _ _).mono ?_
          rintro r w1 ⟨rfl, hb⟩
          have HB : Hid (Below w.heap.size w w1) := bTrans (bAlloc (Below.refl _ _) _) hb
          rw [hs]
          clear hb hs
          go_wp2
          go_ret
          exact ⟨by rw [HQ.out]; rfl, HB.out⟩
        | false =>
          have HQ : Hid (q = L) := by show _ = _; rw [hq]; simp [funTwoB, twoSig, hs, ← hL]
          clear hq
          go_enter Tryd.func67, Tryd.ntmps67
          go_wp2_with fail
          refine (knows2_impl _ _).mono ?_
          rintro r w1 ⟨rfl, hb⟩
          have HB : Hid (Below w.heap.size w w1) := bTrans (bAlloc (Below.refl _ _) _) hb
          have c0 : w1.cell? ⟨w.heap.size, 0, none⟩ = some (.int .i64 g) := cell3a _ _ _ _ _ hb rfl
          rw [hs]
          clear hb hs
          go_wp2_with fail
          refine (HA.out _).mono ?_
          rintro r w2 ⟨rfl, hb⟩
          have HB2 : Hid (Below w.heap.size w w2) := bTrans HB.out hb
          clear hb
          go_wp2
          go_ret
          exact ⟨by rw [HQ.out]; rfl, HB2.out⟩
      · by_cases h1 : o = 111
        · subst h1
          have HQ : Hid (q = sign2 g) := by show _ = _; rw [hq]; simp [funTwoB]
          clear hq
          go_enter Tryd.func67, Tryd.ntmps67
          go_wp2_with fail
          refine (knows2_impl _ _).mono ?_
          rintro r w1 ⟨rfl, hb⟩
          have HB : Hid (Below w.heap.size w w1) := bTrans (bAlloc (Below.refl _ _) _) hb
          rw [← HQ.out]
          clear hb
          go_wp2
          go_ret
          exact ⟨rfl, HB.out⟩
        · have HQ : Hid (q = false) := by show _ = _; rw [hq]; simp [funTwoB, ho, h0, h1]
          have e0 : (o == 0) = false := by simpa using h0
          have e1 : (o == 111) = false := by simpa using h1
          clear hq ho h0 h1
          go_enter Tryd.func67, Tryd.ntmps67
          go_wp2
          go_ret
          exact ⟨by rw [HQ.out]; rfl, bAlloc (Below.refl _ _) _⟩
    · have HQ : Hid (q = false) := by show _ = _; rw [hq]; simp [funTwoB, hh, ho]
      have h1 : (h != 0) = true := by simpa using hh
      clear hq hh ho
      go_enter Tryd.func67, Tryd.ntmps67
      go_wp2
      go_ret
      exact ⟨by rw [HQ.out]; rfl, bAlloc (Below.refl _ _) _⟩
end Go.Proofs.YtnebjnglcfebeaaDoor
