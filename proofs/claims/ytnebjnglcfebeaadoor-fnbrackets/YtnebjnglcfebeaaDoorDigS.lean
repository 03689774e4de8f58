
/-
  Walks: the specification's l8Digits: a number as it is written.
-/
import Derived.Test.YtnebjnglcfebeaaDoorNumOk
import Derived.Test.YtnebjnglcfebeaaDoorArr
import Derived.Laws.BytesArg
import Derived.Lib.ItoaNum
import Derived.Lib.ItoaLen
namespace Go.Proofs.YtnebjnglcfebeaaDoor
open Go.RowKit
set_option linter.unusedVariables false
set_option linter.unusedSimpArgs false
/-- The decimal digits of a number. -/
def dgs (n : Nat) : ByteArray := ⟨(Lib.decDigits n).toArray⟩
theorem u8_dig {n : Nat} (h : n < 10) : UInt8.ofNat (48 + n) = UInt8.ofNat (48 + (n : Int)).toNat := by
  congr 1
theorem dgs_small {n : Nat} (h : n < 10) : dgs n = strOfNums [48 + (n : Int)] := by
  unfold dgs strOfNums
  rw [Lib.decDigits_one h, u8_dig h]
  rfl
theorem dgs_step {n : Nat} (h : ¬ n < 10) : dgs n = dgs (n / 10) ++ strOfNums [48 + ((n % 10 : Nat) : Int)] := by
  unfold dgs strOfNums
  rw [Lib.decDigits, dif_neg h, u8_dig (Nat.mod_lt _ (by decide))]
  apply ByteArray.ext
  simp [ByteArray.data_append]
theorem str_assoc (a b c : ByteArray) : a ++ b ++ c = a ++ (b ++ c) := by
  apply ByteArray.ext
  simp [ByteArray.data_append]
theorem dgs_size {N : Nat} (h : (N : Int) ≤ 1000000000000) : (dgs N).size ≤ 21 := by
  have := Lib.itoa_length_le (N : Int) (by omega) (by omega)
  unfold Lib.itoa at this
  rw [if_neg (by omega), Int.toNat_natCast] at this
  unfold dgs ByteArray.size
  simpa using this
theorem str_len (a b : ByteArray) : (a ++ b).size = a.size + b.size := ByteArray.size_append
/-- What the loop knows: n is still to be written ahead of s. -/
def DigTo (N n : Nat) (s : ByteArray) : Prop := (n = 0 ∧ s = dgs N) ∨ (0 < n ∧ dgs n ++ s = dgs N)
theorem DigTo.le {N n : Nat} {s : ByteArray} (h : DigTo N n s) (hN : (N : Int) ≤ 1000000000000) : s.size ≤ 21 := by
  have hs := dgs_size hN
  rcases h with ⟨_, rfl⟩ | ⟨_, h⟩
  · exact hs
  · rw [← h, str_len] at hs
    omega
theorem DigTo.next {N n : Nat} {s : ByteArray} (h : DigTo N n s) (h0 : 0 < n) : DigTo N (n / 10) (strOfNums [48 + ((n % 10 : Nat) : Int)] ++ s) := by
  rcases h with ⟨h, _⟩ | ⟨_, h⟩
  · omega
  · by_cases h9 : n < 10
    · refine .inl ⟨by omega, ?_⟩
      rw [← h, dgs_small h9, show n % 10 = n by omega]
    · refine .inr ⟨by omega, ?_⟩
      rw [← str_assoc, ← dgs_step h9, h]
set_option maxRecDepth 20000 in
set_option maxHeartbeats 4000000 in
theorem l8Digits_pos (N : Nat) (h0 : 0 < N) (h1 : (N : Int) ≤ 1000000000000) (w : World) :
    Calls Tryd.prog 78 #[.int .i64 (N : Int)] w fun e w' => e = .returned (.string (dgs N)) ∧ Below w.heap.size w w' := by
  have D0 : Hid (DigTo N N ⟨#[]⟩) := .inr ⟨h0, by apply ByteArray.ext; simp [ByteArray.data_append]⟩
  go_enter Tryd.func78, Tryd.ntmps78
  go_wp2_with fail
  go_loopw [0, 3] (fun nv ov w' => ∃ (n : Nat) (s : ByteArray), n ≤ N ∧ nv = .int .i64 (n : Int) ∧ ov = .string s ∧ DigTo N n s ∧ Below w.heap.size w w') (fun nv _ _ => (intOf nv).toNat)
  case atStart => exact ⟨N, _, Nat.le_refl _, rfl, rfl, D0.out, Below.refl _ _⟩
  case round =>
    obtain ⟨n, s, hn, rfl, rfl, hd, hb⟩ := hrel
    have DN : Hid (DigTo N n s) := hd
    have BN : Hid (Below w.heap.size w wr) := hb
    clear hd hb D0
    by_cases hz : (n : Int) > 0
    · have DX : Hid (DigTo N (n / 10) (strOfNums [48 + ((n % 10 : Nat) : Int)] ++ s)) := DN.out.next (by omega)
      obtain ⟨r, hr⟩ : ∃ r, r = n % 10 := ⟨_, rfl⟩
      rw [← hr] at DX
      have hr9 : r < 10 := by omega
      have et : (n : Int).tmod 10 = (r : Int) := by rw [Int.tmod_eq_emod_of_nonneg (by omega)]; omega
      have ed : (n : Int).tdiv 10 = ((n / 10 : Nat) : Int) := by rw [Int.tdiv_eq_ediv_of_nonneg (by omega)]; omega
      have ed2 : (n : Int) / 10 = ((n / 10 : Nat) : Int) := by omega
      have w8 : IntKind.u8.wrap (48 + (r : Int)) = 48 + (r : Int) := by rw [IntKind.wrap_u8]; omega
      have CV : (convert 36 9 (.slice (some ⟨wr.heap.size, 0, none⟩) 1 1)).run Tryd.prog (wr.alloc (.cells #[.int .u8 (48 + (r : Int))] 5)) = .ok (.string (strOfNums [48 + (r : Int)])) (wr.alloc (.cells #[.int .u8 (48 + (r : Int))] 5)) :=
        run_convert_bytes_arg _ _ _ Tryd.underlying36 Tryd.underlying5 wr.heap.size 0 1 1 [48 + (r : Int)] rfl (fun i hi => by
          obtain rfl : i = 0 := by omega
          exact cell_at (heap_alloc_new wr _) rfl) _ Tryd.underlying9
      have nd : n / 10 < n := Nat.div_lt_self (by omega) (by decide)
      have nd2 : n / 10 ≤ N := by omega
      have sz : (strOfNums [48 + (r : Int)]).size + s.size ≤ 9223372036854775807 := by
        have := DN.out.le h1
        rw [strOfNums_size]
        simp; omega
      generalize strOfNums [48 + (r : Int)] = d at *
      generalize n / 10 = m at *
      clear hr
      go_wp2
      go_roundw
      case rel => exact ⟨m, d ++ s, nd2, rfl, rfl, DX.out, bAlloc BN.out _⟩
      case measure => simp [intOf]; omega
    · have ES : Hid (s = dgs N) := by
        rcases DN.out with ⟨_, h⟩ | ⟨h, _⟩
        · exact h
        · exact absurd h (by omega)
      go_wp2
      go_ret
      exact ⟨by rw [ES.out]; rfl, BN.out⟩
/-- A number as it is written. -/
def digB (x : Int) : ByteArray := if x < 0 then ⟨#[95]⟩ ++ dgs (-x).toNat else dgs x.toNat
theorem dgs_zero : dgs 0 = ⟨#[48]⟩ := by
  unfold dgs
  rw [Lib.decDigits_one (by decide)]
  rfl
theorem digB_neg {N : Nat} (h : 0 < N) : digB (-(N : Int)) = ⟨#[95]⟩ ++ dgs N := by
  unfold digB
  rw [if_pos (by omega)]
  congr 2
  omega
theorem digB_nat (N : Nat) : digB (N : Int) = dgs N := by
  unfold digB
  rw [if_neg (by omega), Int.toNat_natCast]
theorem digB_size {x : Int} (h : ok x = true) : (digB x).size ≤ 22 := by
  have hb : -1000000000000 ≤ x ∧ x ≤ 1000000000000 := by simpa [ok] using h
  unfold digB
  split
  · have := dgs_size (N := (-x).toNat) (by omega)
    rw [str_len]
    have e : ByteArray.size ⟨#[95]⟩ = 1 := rfl
    omega
  · have := dgs_size (N := x.toNat) (by omega)
    omega
set_option maxRecDepth 20000 in
set_option maxHeartbeats 4000000 in
/-- The specification's l8Digits at right numbers. -/
theorem l8Digits_spec {x : Int} (h : ok x = true) (w : World) :
    Calls Tryd.prog 78 #[.int .i64 x] w fun e w' => e = .returned (.string (digB x)) ∧ Below w.heap.size w w' := by
  have hb : -1000000000000 ≤ x ∧ x ≤ 1000000000000 := by simpa [ok] using h
  by_cases h0 : x < 0
  · obtain ⟨N, rfl⟩ : ∃ N : Nat, x = -(N : Int) := ⟨(-x).toNat, by omega⟩
    rw [digB_neg (by omega)]
    have C : Hid (Calls Tryd.prog 78 #[.int .i64 (N : Int)] w fun e w' => e = .returned (.string (dgs N)) ∧ Below w.heap.size w w') := l8Digits_pos N (by omega) (by omega) w
    have sz : ByteArray.size ⟨#[95]⟩ + (dgs N).size ≤ 9223372036854775807 := by
      have := dgs_size (N := N) (by omega)
      have e : ByteArray.size ⟨#[95]⟩ = 1 := rfl
      omega
    generalize dgs N = d at *
    clear h
    go_enter Tryd.func78, Tryd.ntmps78
    go_wp2_with fail
    refine C.out.mono ?_
    rintro r w1 ⟨rfl, hb1⟩
    have B1 : Hid (Below w.heap.size w w1) := hb1
    clear hb1 C
    go_wp2
    go_ret
    exact ⟨rfl, B1.out⟩
  · obtain ⟨N, rfl⟩ : ∃ N : Nat, x = (N : Int) := ⟨x.toNat, by omega⟩
    rw [digB_nat]
    by_cases hz : N = 0
    · subst hz
      rw [dgs_zero]
      clear h hb h0
      show Calls Tryd.prog _ #[.int .i64 0] w _
      go_enter Tryd.func78, Tryd.ntmps78
      go_wp2
      go_ret
      exact ⟨rfl, Below.refl _ _⟩
    · exact l8Digits_pos N (by omega) (by omega) w
/-- What ShowNum answers. -/
def shN (x : Int) : ByteArray := if ok x = true then digB x else ⟨#[]⟩
end Go.Proofs.YtnebjnglcfebeaaDoor
