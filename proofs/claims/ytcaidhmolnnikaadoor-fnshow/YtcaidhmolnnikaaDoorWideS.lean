/-
  Walks: the specification's l16Nums, ShowWide.
-/
import Derived.Test.YtcaidhmolnnikaaDoorDigS
import Derived.Test.YtcaidhmolnnikaaDoorImplArr1
namespace Go.Proofs.YtcaidhmolnnikaaDoor
open Go.RowKit
set_option linter.unusedVariables false
set_option linter.unusedSimpArgs false
/-- How many bytes the longest of the first k has. -/
def wideN (l : List Int) : Nat → Nat
  | 0 => 0
  | k + 1 => max (wideN l k) (digB (l.getD k 0)).size
def wideV (l : List Int) : Int := if l.all ok = true then (wideN l l.length : Int) else -1
theorem ok_at {l : List Int} (h : l.all ok = true) {k : Nat} (hk : k < l.length) : ok (l.getD k 0) = true := by
  have e : l.getD k 0 = l[k] := by simp [List.getD_eq_getElem?_getD, hk]
  rw [e]
  exact List.all_eq_true.1 h _ (List.getElem_mem hk)
theorem wideN_le {l : List Int} (h : l.all ok = true) : ∀ {k : Nat}, k ≤ l.length → wideN l k ≤ 22
  | 0, _ => by simp [wideN]
  | k + 1, hk => by
    have h1 := wideN_le h (k := k) (by omega)
    have h2 := digB_size (ok_at h (k := k) (by omega))
    simp only [wideN]
    omega
set_option maxRecDepth 20000 in
set_option maxHeartbeats 1000000 in
/-- l16Nums. -/
theorem nums_spec {d : List Int} {b : Option Addr} {w : World} (e : Nat) (h : Ints w b d) (hd : d.length ≤ 1048576) :
    Calls Tryd.prog 60 #[.slice b d.length e] w fun e w' => e = .returned (.bool (d.all ok)) ∧ w' = w := by
  have HJ : Hid (Ints w b d) := h
  clear h
  go_enter Tryd.func60, Tryd.ntmps60
  go_wp2
  go_loopw [3] (fun i w' => ∃ k : Nat, k ≤ d.length ∧ i = .int .i64 k ∧ (d.take k).all ok = true ∧ w' = w) (fun i _ => d.length - (intOf i).toNat)
  case atStart => exact ⟨0, by omega, rfl, by simp, rfl⟩
  case round =>
    obtain ⟨k, hk, rfl, ht, rfl⟩ := hrel
    have HT : Hid ((d.take k).all ok = true) := ht
    clear ht
    by_cases hlt : (k : Int) < (d.length : Int)
    · have L : k < d.length := by omega
      obtain ⟨b1, o1, rfl, _, c1⟩ := HJ.out.at L
      have Q : Hid ((d.take (k + 1)).all ok = ((d.take k).all ok && ok (d.getD k 0))) := by show _ = _; rw [take_snoc L, all_snocN]
      have QB : Hid (ok (d.getD k 0) = false → d.all ok = false) := fun h => by
        rw [List.all_eq_false]
        exact ⟨d.getD k 0, by simp [L], by rw [h]; decide⟩
      clear L
      generalize d.getD k 0 = x at c1 Q QB
      by_cases hx : ok x = true
      · have HT' : Hid ((d.take (k + 1)).all ok = true) := by show _ = _; rw [Q.out, HT.out, hx]; rfl
        clear Q QB
        go_wp2_with fail
        refine (numOk_spec x _).mono ?_
        rintro r w' ⟨rfl, hw⟩
        subst w'
        go_wp2
        go_roundw
        case rel => exact ⟨k + 1, by omega, by go_num, HT'.out, by first | trivial | rfl⟩
        case measure => simp [intOf]; omega
      · have hx : ok x = false := by simpa using hx
        have HV' : Hid (d.all ok = false) := QB.out hx
        clear Q QB
        go_wp2_with fail
        refine (numOk_spec x _).mono ?_
        rintro r w' ⟨rfl, hw⟩
        subst w'
        go_wp2
        go_ret
        exact ⟨by rw [HV'.out]; rfl, rfl⟩
    · have HV' : Hid (d.all ok = true) := by
        have h := HT.out
        show _ = _
        rw [List.take_of_length_le (by omega)] at h
        exact h
      go_wp2
      go_ret
      exact ⟨by rw [HV'.out]; rfl, rfl⟩
set_option maxRecDepth 20000 in
set_option maxHeartbeats 2000000 in
/-- The specification's ShowWide. -/
theorem showWide_spec {d : List Int} {b : Option Addr} {w : World} (e : Nat) (h : Ints w b d) (hd : d.length ≤ 1048576) :
    Calls Tryd.prog 31 #[.slice b d.length e] w fun e w' => e = .returned (.int .i64 (wideV d)) ∧ Below w.heap.size w w' := by
  have HJ : Hid (Ints w b d) := h
  have CN : Hid (Calls Tryd.prog 60 #[.slice b d.length e] w fun e w' => e = .returned (.bool (d.all ok)) ∧ w' = w) := nums_spec e h hd
  unfold wideV
  clear h
  cases hall : d.all ok
  · rw [hall] at CN
    rw [if_neg (by decide)]
    clear hall
    go_enter Tryd.func31, Tryd.ntmps31
    go_wp2_with fail
    refine CN.out.mono ?_
    rintro r w' ⟨rfl, hw⟩
    subst w'
    go_wp2
    go_ret
    exact ⟨rfl, Below.refl _ _⟩
  · have HA : Hid (d.all ok = true) := hall
    rw [hall] at CN
    rw [if_pos rfl]
    clear hall
    obtain ⟨WV, hWV⟩ : ∃ WV, WV = wideN d d.length := ⟨_, rfl⟩
    have HW : Hid (WV = wideN d d.length) := hWV
    rw [← hWV]
    clear hWV
    go_enter Tryd.func31, Tryd.ntmps31
    go_wp2_with fail
    refine CN.out.mono ?_
    rintro r w' ⟨rfl, hw⟩
    subst w'
    go_wp2
    go_loopw [3, 4] (fun n i w' => ∃ k : Nat, k ≤ d.length ∧ i = .int .i64 (k : Int) ∧ n = .int .i64 (wideN d k : Int) ∧ Below w.heap.size w w') (fun _ i _ => d.length - (intOf i).toNat)
    case atStart => exact ⟨0, by omega, rfl, rfl, Below.refl _ _⟩
    case round =>
      obtain ⟨k, hk, rfl, rfl, hb⟩ := hrel
      have BK : Hid (Below w.heap.size w wr) := hb
      clear hb
      by_cases hlt : (k : Int) < (d.length : Int)
      · have L : k < d.length := by omega
        obtain ⟨b1, o1, rfl, _, c1⟩ := (HJ.out.keep BK.out).at L
        have okx := ok_at HA.out L
        have CD : Hid (Calls Tryd.prog 61 #[.int .i64 (d.getD k 0)] wr fun e w' => e = .returned (.string (digB (d.getD k 0))) ∧ Below wr.heap.size wr w') := l8Digits_spec okx wr
        have EW : Hid (mx (wideN d k : Int) ((digB (d.getD k 0)).size : Int) = (wideN d (k + 1) : Int)) := by show _ = _; simp only [wideN, mx]; split <;> omega
        have sz := digB_size okx
        have wz := wideN_le HA.out hk
        generalize d.getD k 0 = x at *
        generalize digB x = s at *
        generalize wideN d k = n at *
        clear L okx
        go_wp2_with fail
        refine CD.out.mono ?_
        rintro r w2 ⟨rfl, hb⟩
        have B2 : Hid (Below w.heap.size w w2) := bTrans BK.out hb
        clear hb CD c1
        go_wp2_with (go_at_call 64; refine (max_spec _ _ _).mono ?_; rintro r w3 ⟨rfl, hw⟩; subst w3; rw [EW.out])
        go_roundw
        case rel => exact ⟨k + 1, by omega, by go_num, rfl, B2.out⟩
        case measure => simp [intOf]; omega
      · obtain rfl : k = d.length := by omega
        rw [← HW.out]
        go_wp2
        go_ret
        exact ⟨rfl, BK.out⟩
end Go.Proofs.YtcaidhmolnnikaaDoor
