/-
  Walks: the specification's ArrayOk, ArraySame, ScalarOf, VectorOf and NumAt.
-/
import Derived.Test.YtcaidhmolnnikaaDoorArrM
import Derived.Test.YtcaidhmolnnikaaDoorArr
import Derived.Test.YtcaidhmolnnikaaDoorSpecPlace
namespace Go.Proofs.YtcaidhmolnnikaaDoor
open Go.RowKit
set_option linter.unusedVariables false
set_option linter.unusedSimpArgs false
set_option maxRecDepth 20000 in
set_option maxHeartbeats 2000000 in
/-- ArrayOk. -/
theorem arrOk_spec {s d : List Int} {w : World} {v : Value} (h : ArrI w v s d) (hd : d.length ≤ 1048576) :
    Calls Tryd.prog 15 #[v] w fun e w' => e = .returned (.bool (arrOk s d)) ∧ Below w.heap.size w w' := by
  obtain ⟨a, c, b, e, rfl, h1, h2, _, _⟩ := h
  have H1 : Hid (Ints w a s) := h1
  have H2 : Hid (Ints w b d) := h2
  clear h1 h2
  obtain ⟨z1, z2⟩ := sizeV_bd s
  go_enter Tryd.func15, Tryd.ntmps15
  go_wp2
  generalize hW : World.alloc w (.cells #[.slice a s.length c, .slice b d.length e] 27) = W
  have HB : Hid (Below w.heap.size w W) := by rw [← hW]; exact bAlloc (Below.refl _ _) _
  have r0 : W.cell? ⟨w.heap.size, 0, none⟩ = some (.slice a s.length c) := by rw [← hW]; exact cell_newA _ _ _ rfl
  have r1 : W.cell? ⟨w.heap.size, 1, none⟩ = some (.slice b d.length e) := by rw [← hW]; exact cell_newA _ _ _ rfl
  have HI : Hid (Ints W a s) := H1.out.keep HB.out
  have HJ : Hid (Ints W b d) := H2.out.keep HB.out
  clear hW
  by_cases hs : sizeV s = d.length
  · have HV : Hid (arrOk s d = d.all ok) := by show _ = _; simp [arrOk, hs]
    have HC : Hid (∀ W, Ints W a s → Calls Tryd.prog 39 #[.slice a s.length c] W fun e w' => e = .returned (.int .i64 d.length) ∧ w' = W) := fun W h => hs ▸ size_spec c h
    clear hs
    go_quiet ((go_at_call 39; exact Calls.quiet_of_same (HC.out _ HI.out)))
    go_wp2
    go_loopw [3] (fun i w' => ∃ k : Nat, k ≤ d.length ∧ i = .int .i64 k ∧ (d.take k).all ok = true ∧ ∃ j, w' = W.drewN j) (fun i _ => d.length - (intOf i).toNat)
    case atStart => exact ⟨0, by omega, rfl, by simp, _, rfl⟩
    case round =>
      obtain ⟨k, hk, rfl, ht, j, hw⟩ := hrel
      have HW : Hid (∃ j, wr = W.drewN j) := ⟨j, hw⟩
      have HT : Hid ((d.take k).all ok = true) := ht
      have t1 : wr.cell? ⟨w.heap.size, 1, none⟩ = some (.slice b d.length e) := by rw [hw]; exact r1
      clear ht
      by_cases hlt : (k : Int) < (d.length : Int)
      · have L : k < d.length := by omega
        obtain ⟨b1, o1, rfl, _, c1⟩ := HJ.out.at L
        have d1 : wr.cell? ⟨b1, o1 + k, none⟩ = some (.int .i64 (d.getD k 0)) := by rw [hw]; exact c1
        have Q : Hid ((d.take (k + 1)).all ok = ((d.take k).all ok && ok (d.getD k 0))) := by show _ = _; rw [take_snoc L, all_snocN]
        have QB : Hid (ok (d.getD k 0) = false → d.all ok = false) := fun h => by
          rw [List.all_eq_false]
          exact ⟨d.getD k 0, by simp [L], by rw [h]; decide⟩
        clear c1 L hw
        generalize d.getD k 0 = x at d1 Q QB
        by_cases hx : ok x = true
        · have HT' : Hid ((d.take (k + 1)).all ok = true) := by show _ = _; rw [Q.out, HT.out, hx]; rfl
          clear Q QB
          go_wp2_with fail
          refine (numOk_spec x _).mono ?_
          rintro r w' ⟨rfl, hw⟩
          subst w'
          go_wp2
          go_roundw
          case rel => exact ⟨k + 1, by omega, by go_num, HT'.out, HW.out⟩
          case measure => simp [intOf]; omega
        · have hx : ok x = false := by simpa using hx
          have HV' : Hid (arrOk s d = false) := by show _ = _; rw [HV.out, QB.out hx]
          clear Q QB
          go_wp2_with fail
          refine (numOk_spec x _).mono ?_
          rintro r w' ⟨rfl, hw⟩
          subst w'
          go_wp2
          go_ret
          obtain ⟨j, hj⟩ := HW.out
          exact ⟨by rw [HV'.out]; rfl, by rw [hj]; exact bDrewN HB.out j⟩
      · have HV' : Hid (arrOk s d = true) := by
          have h := HT.out
          show _ = _
          rw [List.take_of_length_le (by omega)] at h
          rw [HV.out, h]
        clear hw
        go_wp2
        go_ret
        obtain ⟨j, hj⟩ := HW.out
        exact ⟨by rw [HV'.out]; rfl, by rw [hj]; exact bDrewN HB.out j⟩
  · have HV : Hid (arrOk s d = false) := by show _ = _; simp [arrOk, hs]
    have hne : (sizeV s != (d.length : Int)) = true := by simpa using hs
    have HC : Hid (∀ W, Ints W a s → Calls Tryd.prog 39 #[.slice a s.length c] W fun e w' => e = .returned (.int .i64 (sizeV s)) ∧ w' = W) := fun W h => size_spec c h
    generalize sizeV s = z at *
    clear hs
    go_quiet ((go_at_call 39; exact Calls.quiet_of_same (HC.out _ HI.out)))
    go_wp2
    go_ret
    exact ⟨by rw [HV.out]; rfl, bDrewN HB.out _⟩
end Go.Proofs.YtcaidhmolnnikaaDoor
