
/-
  Walks: the program's ArrayOk, ArraySame, ScalarOf, VectorOf.
-/
import Derived.Test.YtcaidhmolnnikaaDoorImplArr1
import Derived.Test.YtcaidhmolnnikaaDoorImplArr2
import Derived.Test.YtcaidhmolnnikaaDoorImplShape
import Derived.Test.YtcaidhmolnnikaaDoorSpecArr2
namespace Go.Proofs.YtcaidhmolnnikaaDoor
open Go.RowKit
set_option linter.unusedVariables false
set_option linter.unusedSimpArgs false
set_option maxRecDepth 20000 in
set_option maxHeartbeats 4000000 in
/-- ArrayOk. -/
theorem arrOk_impl {s d : List Int} {w : World} {v : Value} (h : ArrI w v s d) (hd : d.length ≤ 1048576) :
    Calls Tryd.prog 33 #[v] w fun e w' => e = .returned (.bool (arrOk s d)) ∧ Below w.heap.size w w' := by
  obtain ⟨a, c, b, e, rfl, h1, h2, _, _⟩ := h
  have H1 : Hid (Ints w a s) := h1
  have H2 : Hid (Ints w b d) := h2
  have HD : Hid (d.length ≤ 1048576) := hd
  clear h1 h2 hd
  have HSZ : Hid (∀ W, Ints W a s → Calls Tryd.prog 65 #[.slice a s.length c] W fun e w' => e = .returned (.int .i64 (sizeV s)) ∧ Below W.heap.size W w') := fun W h => size_impl c h
  have HAR : Hid (∀ W, Ints W b d → Calls Tryd.prog 41 #[.slice b d.length e] W fun e w' => e = .returned (.bool (d.all ok)) ∧ w' = W) := fun W h => allRight_impl e h HD.out
  by_cases hs : sizeV s = d.length
  · have HV : Hid (arrOk s d = d.all ok) := by show _ = _; simp [arrOk, hs]
    rw [hs] at HSZ
    clear hs
    generalize d.all ok = q at *
    go_enter Tryd.func33, Tryd.ntmps33
    go_wp2
    generalize hW : w.alloc (.cells #[.slice a s.length c, .slice b d.length e] 27) = W
    have HB : Hid (Below w.heap.size w W) := by rw [← hW]; exact bAlloc (Below.refl _ _) _
    have X : Hid (Box W w.heap.size (.slice a s.length c) (.slice b d.length e) 27) := by rw [← hW]; exact box_new w _ _ _
    have x0 := X.out.c0
    have x1 := X.out.c1
    clear hW
    go_region_held3 (fun w' => w'.cell? ⟨w.heap.size, 0, none⟩ = some (.slice a s.length c) ∧ w'.cell? ⟨w.heap.size, 1, none⟩ = some (.slice b d.length e))
      (first | exact ⟨z0, z1⟩ | exact ⟨y0, y1⟩ | exact ⟨x0, x1⟩)
      (first
        | (go_at_call 65; refine (HSZ.out _ (H1.out.keep (bTrans HB.out ((Below.refl W.heap.size W).drew)))).mono ?_; rintro r w1 ⟨rfl, hb⟩; have HB1 : Hid (Below W.heap.size W w1) := bTrans ((Below.refl W.heap.size W).drew) hb; have y0 := (X.out.keep HB1.out).c0; have y1 := (X.out.keep HB1.out).c1; clear hb)
        | (go_at_call 41; refine (HAR.out _ (H2.out.keep (bTrans HB.out HB1.out))).mono ?_; rintro r w2 ⟨rfl, hw⟩; subst w2))
    go_wp2
    go_ret
    exact ⟨by rw [HV.out]; rfl, bTrans HB.out HB1.out⟩
  · have HV : Hid (arrOk s d = false) := by show _ = _; simp [arrOk, hs]
    have hne : ((d.length : Int) == sizeV s) = false := by simp; exact fun e => hs e.symm
    generalize sizeV s = z at *
    clear hs
    go_enter Tryd.func33, Tryd.ntmps33
    go_wp2
    generalize hW : w.alloc (.cells #[.slice a s.length c, .slice b d.length e] 27) = W
    have HB : Hid (Below w.heap.size w W) := by rw [← hW]; exact bAlloc (Below.refl _ _) _
    have X : Hid (Box W w.heap.size (.slice a s.length c) (.slice b d.length e) 27) := by rw [← hW]; exact box_new w _ _ _
    have x0 := X.out.c0
    have x1 := X.out.c1
    clear hW
    first
      | go_region_with (go_at_call 65; refine (HSZ.out _ (H1.out.keep (bTrans HB.out ((Below.refl W.heap.size W).drew)))).mono ?_; rintro r w1 ⟨rfl, hb⟩; have HB1 : Hid (Below W.heap.size W w1) := bTrans ((Below.refl W.heap.size W).drew) hb; have y0 := (X.out.keep HB1.out).c0; have y1 := (X.out.keep HB1.out).c1; clear hb)
      | fail "no"
    all_goals
      go_wp2
      go_ret
      exact ⟨by rw [HV.out]; rfl, bTrans HB.out HB1.out⟩
theorem arrOk_one (x : Int) : arrOk [] [x] = ok x := by simp [arrOk, sizeV_0']
end Go.Proofs.YtcaidhmolnnikaaDoor
