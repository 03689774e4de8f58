/-
  Walks: the program's NumAt.
-/
import Derived.Test.YtdafoccncnfcbabImplArr3
import Derived.Test.YtdafoccncnfcbabImplPlaceOf
namespace Go.Proofs.Ytdafoccncnfcbab
open Go.RowKit
set_option linter.unusedVariables false
set_option linter.unusedSimpArgs false
set_option maxRecDepth 20000 in
set_option maxHeartbeats 2000000 in
/-- NumAt. -/
theorem numAt_impl {s d i : List Int} {w : World} {v u : Value} (h : ArrI w v s d) (k : IntsI w u i) (hs : s.length ≤ 1048576) (hd : d.length ≤ 1048576) (hi : i.length ≤ 1048576) :
    Calls Try.prog 33 #[v, u] w fun e w' => e = .returned (.tuple #[.int .i64 (numAtV s d i), .bool (numAtOk s d i)]) ∧ Below w.heap.size w w' := by
  have H : Hid (ArrI w v s d) := h
  obtain ⟨x, cx, rfl, gx, k⟩ := k
  obtain ⟨a, c, b, e, rfl, h1, h2, _, _⟩ := h
  have H1 : Hid (Ints w a s) := h1
  have H2 : Hid (Ints w b d) := h2
  have K : Hid (Ints w x i) := k
  have HD : Hid (d.length ≤ 1048576) := hd
  have HL : Hid (0 ≤ placeV s i → placeV s i < sizeV s) := placeV_lt
  have HP : Hid (∀ W, Ints W a s → Ints W x i → Calls Try.prog 23 #[.slice a s.length c, .slice x i.length cx] W fun e w' => e = .returned (.int .i64 (placeV s i)) ∧ Below W.heap.size W w') := fun W p q => place_impl c cx p q
  clear h1 h2 k hd hs hi gx
  by_cases ho : arrOk s d = true
  · by_cases hp : 0 ≤ placeV s i
    · have HO : Hid (arrOk s d = true) := ho
      have HV : Hid (numAtV s d i = d.getD (placeV s i).toNat 0) := numAt_good (by simp [numAtOk, ho, hp])
      have HW : Hid (numAtOk s d i = true) := by show _ = _; simp [numAtOk, ho, hp]
      obtain ⟨n, hn⟩ : ∃ n : Nat, placeV s i = n := ⟨(placeV s i).toNat, by omega⟩
      have L : n < d.length := by have := HL.out hp; have := arrOk_size ho; omega
      rw [hn] at HP HV
      rw [Int.toNat_natCast] at HV
      obtain ⟨b1, o1, rfl, hb1, c1⟩ := H2.out.at L
      have lq : (n : Int) < (d.length : Int) := by omega
      generalize d.getD n 0 = y at c1 HV
      clear hn hp ho HL
      go_enter Try.func33, Try.ntmps33
      go_wp2_with fail
      refine (arrOk_impl (H.out.keep (bAlloc (Below.refl _ _) _)) HD.out).mono ?_
      rintro r w1 ⟨rfl, hb⟩
      have HB : Hid (Below w.heap.size w w1) := bTrans (bAlloc (Below.refl _ _) _) hb
      have X : Hid (Box w1 w.heap.size (.slice a s.length c) (.slice (some ⟨b1, o1, none⟩) d.length e) 43) := (box_new w _ _ _).keep hb
      have x0 := X.out.c0
      have x1 := X.out.c1
      clear hb
      rw [HO.out]
      go_wp2_with fail
      refine (HP.out _ (H1.out.keep HB.out) (K.out.keep HB.out)).mono ?_
      rintro r w2 ⟨rfl, hb⟩
      have HB2 : Hid (Below w.heap.size w w2) := bTrans HB.out hb
      have X2 : Hid (Box w2 w.heap.size (.slice a s.length c) (.slice (some ⟨b1, o1, none⟩) d.length e) 43) := X.out.keep hb
      clear hb x0 x1
      have x0 := X2.out.c0
      have x1 := X2.out.c1
      have q1 : w2.cell? ⟨b1, o1 + n, none⟩ = some (.int .i64 y) := by rw [HB2.out.cell (p := ⟨b1, o1 + n, none⟩) hb1]; exact c1
      go_wp2
      go_ret2
      exact ⟨by rw [HV.out, HW.out]; rfl, HB2.out⟩
    · have HO : Hid (arrOk s d = true) := ho
      have HW : Hid (numAtOk s d i = false) := by show _ = _; simp [numAtOk, hp]
      have HV : Hid (numAtV s d i = 0) := numAt_bad HW.out
      have hp' : placeV s i < 0 := by omega
      clear HL hp
      generalize placeV s i = z at *
      go_enter Try.func33, Try.ntmps33
      go_wp2_with fail
      refine (arrOk_impl (H.out.keep (bAlloc (Below.refl _ _) _)) HD.out).mono ?_
      rintro r w1 ⟨rfl, hb⟩
      have HB : Hid (Below w.heap.size w w1) := bTrans (bAlloc (Below.refl _ _) _) hb
      have X : Hid (Box w1 w.heap.size (.slice a s.length c) (.slice b d.length e) 43) := (box_new w _ _ _).keep hb
      have x0 := X.out.c0
      have x1 := X.out.c1
      clear hb
      rw [HO.out]
      go_wp2_with fail
      refine (HP.out _ (H1.out.keep HB.out) (K.out.keep HB.out)).mono ?_
      rintro r w2 ⟨rfl, hb⟩
      have HB2 : Hid (Below w.heap.size w w2) := bTrans HB.out hb
      clear hb x0 x1
      go_wp2
      go_ret2
      exact ⟨by rw [HV.out, HW.out]; rfl, HB2.out⟩
  · have HO : Hid (arrOk s d = false) := by show _ = _; simpa using ho
    have HW : Hid (numAtOk s d i = false) := by show _ = _; simp [numAtOk, HO.out]
    have HV : Hid (numAtV s d i = 0) := numAt_bad HW.out
    clear HL ho HP
    go_enter Try.func33, Try.ntmps33
    go_wp2_with fail
    refine (arrOk_impl (H.out.keep (bAlloc (Below.refl _ _) _)) HD.out).mono ?_
    rintro r w1 ⟨rfl, hb⟩
    have HB : Hid (Below w.heap.size w w1) := bTrans (bAlloc (Below.refl _ _) _) hb
    clear hb
    rw [HO.out]
    go_wp2
    go_ret2
    exact ⟨by rw [HV.out, HW.out]; rfl, HB.out⟩
end Go.Proofs.Ytdafoccncnfcbab
