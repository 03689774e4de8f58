/-
  Walks: the specification's ShowRow.
-/
import Derived.Test.YtcaidhmolnnikaaDoorWideS
namespace Go.Proofs.YtcaidhmolnnikaaDoor
open Go.RowKit
set_option linter.unusedVariables false
set_option linter.unusedSimpArgs false
/-- The first k numbers in a row. -/
def rowB (l : List Int) : Nat → ByteArray
  | 0 => ⟨#[]⟩
  | k + 1 => (if k = 0 then rowB l k else rowB l k ++ ⟨#[32]⟩) ++ digB (l.getD k 0)
def rowV (l : List Int) : ByteArray := if l.all ok = true then rowB l l.length else ⟨#[]⟩
theorem rowB_le {l : List Int} (h : l.all ok = true) : ∀ {k : Nat}, k ≤ l.length → (rowB l k).size ≤ 23 * k
  | 0, _ => by simp [rowB, ByteArray.size]
  | k + 1, hk => by
    have h1 := rowB_le h (k := k) (by omega)
    have h2 := digB_size (ok_at h (k := k) (by omega))
    have e : ByteArray.size ⟨#[32]⟩ = 1 := rfl
    simp only [rowB]
    split
    · rw [str_len]; omega
    · rw [str_len, str_len]; omega
set_option maxRecDepth 20000 in
set_option maxHeartbeats 2000000 in
/-- The specification's ShowRow. -/
theorem showRow_spec {d : List Int} {b : Option Addr} {w : World} (e : Nat) (h : Ints w b d) (hd : d.length ≤ 1048576) :
    Calls Tryd.prog 29 #[.slice b d.length e] w fun e w' => e = .returned (.string (rowV d)) ∧ Below w.heap.size w w' := by
  have HJ : Hid (Ints w b d) := h
  have CN : Hid (∀ W, Below w.heap.size w W → Calls Tryd.prog 60 #[.slice b d.length e] W fun e w' => e = .returned (.bool (d.all ok)) ∧ w' = W) := fun W hb => nums_spec e (h.keep hb) hd
  unfold rowV
  clear h
  cases hall : d.all ok
  · rw [hall] at CN
    rw [if_neg (by decide)]
    have h0 : (0 : Int) < (d.length : Int) := by
      have : d ≠ [] := fun e => by rw [e] at hall; cases hall
      have := List.length_pos_iff.2 this
      omega
    clear hall
    generalize d.length = n at *
    go_enter Tryd.func29, Tryd.ntmps29
    go_wp2
    go_loopw [3, 4] (fun s i w' => s = .string ⟨#[]⟩ ∧ i = .int .i64 0 ∧ w' = w) (fun _ _ _ => 0)
    case atStart => exact ⟨rfl, rfl, rfl⟩
    case round =>
      obtain ⟨rfl, rfl, rfl⟩ := hrel
      go_wp2_with fail
      refine (CN.out _ (Below.refl _ _)).mono ?_
      rintro r w' ⟨rfl, hw⟩
      subst w'
      go_wp2
      go_ret
      exact ⟨rfl, Below.refl _ _⟩
  · have HA : Hid (d.all ok = true) := hall
    rw [hall] at CN
    rw [if_pos rfl]
    clear hall
    obtain ⟨WV, hWV⟩ : ∃ WV, WV = rowB d d.length := ⟨_, rfl⟩
    have HW : Hid (WV = rowB d d.length) := hWV
    rw [← hWV]
    clear hWV
    go_enter Tryd.func29, Tryd.ntmps29
    go_wp2
    go_loopw [3, 4] (fun s i w' => ∃ k : Nat, k ≤ d.length ∧ i = .int .i64 (k : Int) ∧ s = .string (rowB d k) ∧ Below w.heap.size w w') (fun _ i _ => d.length - (intOf i).toNat)
    case atStart => exact ⟨0, by omega, rfl, rfl, Below.refl _ _⟩
    case round =>
      obtain ⟨k, hk, rfl, rfl, hb⟩ := hrel
      have BK : Hid (Below w.heap.size w wr) := hb
      clear hb
      by_cases hlt : (k : Int) < (d.length : Int)
      · have L : k < d.length := by omega
        obtain ⟨b1, o1, rfl, _, c1⟩ := (HJ.out.keep BK.out).at L
        have okx := ok_at HA.out L
        have CD : Hid (Calls Tryd.prog 61 #[.int .i64 (d.getD k 0)] wr fun e w' => e = .returned (.string (digB (d.getD k 0))) ∧ Below wr.heap.size wr w') := l8Digits_spec okx wr
        have EW : Hid ((if k = 0 then rowB d k else rowB d k ++ ⟨#[32]⟩) ++ digB (d.getD k 0) = rowB d (k + 1)) := rfl
        have sz := digB_size okx
        have wz := rowB_le HA.out hk
        have e1 : ByteArray.size ⟨#[32]⟩ = 1 := rfl
        generalize d.getD k 0 = x at *
        generalize digB x = s at *
        generalize rowB d k = t at *
        have z1 : t.size + ByteArray.size ⟨#[32]⟩ ≤ 9223372036854775807 := by omega
        have z2 : (t ++ ⟨#[32]⟩).size + s.size ≤ 9223372036854775807 := by rw [str_len]; omega
        have z3 : t.size + s.size ≤ 9223372036854775807 := by omega
        clear L okx e1
        go_wp2_with fail
        refine (CN.out _ BK.out).mono ?_
        rintro r w' ⟨rfl, hw⟩
        subst w'
        by_cases k0 : k = 0
        · have kk : ¬ (k : Int) > 0 := by omega
          have EQ : Hid (t ++ s = rowB d (k + 1)) := by rw [if_pos k0] at EW; exact EW
          clear EW z1 z2 k0
          go_wp2_with fail
          refine CD.out.mono ?_
          rintro r w2 ⟨rfl, hb⟩
          have B2 : Hid (Below w.heap.size w w2) := bTrans BK.out hb
          clear hb CD c1
          go_wp2
          go_roundw
          case rel => exact ⟨k + 1, by omega, by go_num, by rw [EQ.out], B2.out⟩
          case measure => simp [intOf]; omega
        · have kk : (k : Int) > 0 := by omega
          have EQ : Hid (t ++ ⟨#[32]⟩ ++ s = rowB d (k + 1)) := by rw [if_neg k0] at EW; exact EW
          clear EW z3 k0
          go_wp2_with fail
          refine CD.out.mono ?_
          rintro r w2 ⟨rfl, hb⟩
          have B2 : Hid (Below w.heap.size w w2) := bTrans BK.out hb
          clear hb CD c1
          go_wp2
          go_roundw
          case rel => exact ⟨k + 1, by omega, by go_num, by rw [EQ.out], B2.out⟩
          case measure => simp [intOf]; omega
      · obtain rfl : k = d.length := by omega
        rw [← HW.out]
        go_wp2
        go_ret
        exact ⟨rfl, BK.out⟩
end Go.Proofs.YtcaidhmolnnikaaDoor
