/-
  Walks: the program's ArraySame.
-/
import Derived.Test.YtdafoccncnfcbabImplArr3
import Derived.Test.YtdafoccncnfcbabImplSame
namespace Go.Proofs.Ytdafoccncnfcbab
open Go.RowKit
set_option linter.unusedVariables false
set_option linter.unusedSimpArgs false
set_option maxRecDepth 20000 in
set_option maxHeartbeats 2000000 in
/-- ArraySame. -/
theorem arrSame_impl {s d s' d' : List Int} {w : World} {v u : Value} (h : ArrI w v s d) (k : ArrI w u s' d') (hs : s.length ≤ 1048576) (hs' : s'.length ≤ 1048576) (hd : d.length ≤ 1048576) (hd' : d'.length ≤ 1048576) :
    Calls Try.prog 31 #[v, u] w fun e w' => e = .returned (.bool (arrOk s d && (decide (s = s') && decide (d = d')))) ∧ Below w.heap.size w w' := by
  have H : Hid (ArrI w v s d) := h
  have K : Hid (ArrI w u s' d') := k
  obtain ⟨a, c, b, e, rfl, h1, h2, _, _⟩ := h
  obtain ⟨a', c', b', e', rfl, k1, k2, _, _⟩ := k
  have H1 : Hid (Ints w a s) := h1
  have H2 : Hid (Ints w b d) := h2
  have K1 : Hid (Ints w a' s') := k1
  have K2 : Hid (Ints w b' d') := k2
  have HD : Hid (d.length ≤ 4611686018427387904) := by show _ ≤ _; omega
  have HE : Hid (s = s' → d = d' → arrOk s' d' = arrOk s d) := by rintro rfl rfl; rfl
  clear h1 h2 k1 k2
  have HD1 : Hid (d.length ≤ 1048576) := hd
  have HD2 : Hid (d'.length ≤ 1048576) := hd'
  have HZ : Hid (arrOk s d = true → 0 ≤ sizeV s) := arrOk_shape
  clear hd hd' hs hs'
  generalize ho : arrOk s d = o
  generalize ho' : arrOk s' d' = o'
  generalize hp : decide (s = s') = p
  generalize hq : decide (d = d') = q
  have HO : Hid (arrOk s d = o) := ho
  have HO' : Hid (arrOk s' d' = o') := ho'
  have HP : Hid (decide (s = s') = p) := hp
  have HQ : Hid (decide (d = d') = q) := hq
  clear ho ho' hp hq
  go_enter Try.func31, Try.ntmps31
  go_wp2_with fail
  refine (arrOk_impl (H.out.keep (bAlloc (bAlloc (Below.refl _ _) _) _)) HD1.out).mono ?_
  rintro r w1 ⟨rfl, hb⟩
  have HB : Hid (Below w.heap.size w w1) := bTrans (bAlloc (bAlloc (Below.refl _ _) _) _) hb
  have X1 : Hid (Box w1 w.heap.size (.slice a s.length c) (.slice b d.length e) 43) := ((box_new w _ _ _).keep (bAlloc (Below.refl _ _) _)).keep hb
  have Y1 : Hid (Box w1 (w.heap.size + 1) (.slice a' s'.length c') (.slice b' d'.length e') 43) := (box_new2 w _ _ _ _).keep hb
  have x0 := X1.out.c0
  have x1 := X1.out.c1
  have y0 := Y1.out.c0
  have y1 := Y1.out.c1
  clear hb
  rw [HO.out]
  cases o
  · go_wp2
    go_ret
    exact ⟨rfl, HB.out⟩
  go_wp2_with fail
  refine (arrOk_impl (K.out.keep HB.out) HD2.out).mono ?_
  rintro r w2 ⟨rfl, hb⟩
  have HB2 : Hid (Below w.heap.size w w2) := bTrans HB.out hb
  have X2 : Hid (Box w2 w.heap.size (.slice a s.length c) (.slice b d.length e) 43) := X1.out.keep hb
  have Y2 : Hid (Box w2 (w.heap.size + 1) (.slice a' s'.length c') (.slice b' d'.length e') 43) := Y1.out.keep hb
  clear hb x0 x1 y0 y1 X1 Y1
  have x0 := X2.out.c0
  have x1 := X2.out.c1
  have y0 := Y2.out.c0
  have y1 := Y2.out.c1
  rw [HO'.out]
  cases o'
  · have HN : Hid ((p && q) = false) := by
      show _ = _
      rw [← HP.out, ← HQ.out]
      by_cases e1 : s = s'
      · by_cases e2 : d = d'
        · have q := HE.out e1 e2; rw [HO.out, HO'.out] at q; cases q
        · simp [e2]
      · simp [e1]
    go_wp2
    go_ret
    exact ⟨by rw [Bool.true_and, HN.out]; rfl, HB2.out⟩
  have HZ' : Hid (decide (0 ≤ sizeV s) = true) := by show _ = _; simpa using HZ.out HO.out
  go_wp2_with fail
  refine (same_impl c c' (H1.out.keep HB2.out) (K1.out.keep HB2.out)).mono ?_
  rintro r w3 ⟨rfl, hb⟩
  have HB3 : Hid (Below w.heap.size w w3) := bTrans HB2.out hb
  have X3 : Hid (Box w3 w.heap.size (.slice a s.length c) (.slice b d.length e) 43) := X2.out.keep hb
  have Y3 : Hid (Box w3 (w.heap.size + 1) (.slice a' s'.length c') (.slice b' d'.length e') 43) := Y2.out.keep hb
  clear hb x0 x1 y0 y1 X2 Y2
  have x0 := X3.out.c0
  have x1 := X3.out.c1
  have y0 := Y3.out.c0
  have y1 := Y3.out.c1
  rw [HZ'.out, HP.out, Bool.true_and]
  cases p
  · go_wp2
    go_ret
    exact ⟨rfl, HB3.out⟩
  go_wp2_with fail
  refine (equal_impl e e' HD.out (H2.out.keep HB3.out) (K2.out.keep HB3.out)).mono ?_
  rintro r w4 ⟨rfl, j2, hw⟩
  have HB4 : Hid (Below w.heap.size w w4) := by rw [hw]; exact bDrewN HB3.out j2
  clear hw
  rw [HQ.out]
  go_wp2
  go_ret
  exact ⟨by simp, HB4.out⟩
end Go.Proofs.Ytdafoccncnfcbab
