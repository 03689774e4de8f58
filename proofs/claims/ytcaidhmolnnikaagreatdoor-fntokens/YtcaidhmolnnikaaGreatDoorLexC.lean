/-
  strings.HasPrefix, strings.CutPrefix of "_", strconv.Atoi of digits: out of the library's contracts.
-/
import Derived.Test.YtcaidhmolnnikaaGreatDoorLexI
import Derived.Test.YtcaidhmolnnikaaGreatDoorLaysL
namespace Go.Proofs.YtcaidhmolnnikaaGreatDoor
open Go.RowKit
set_option linter.unusedVariables false
set_option linter.unusedSimpArgs false
theorem bt_list (s : ByteArray) (k : Nat) (c : UInt8) (h : s.data.toList[k]? = some c) : bt s k = (c.toNat : Int) := by
  have hk : k < s.data.toList.length := (List.getElem?_eq_some_iff.1 h).1
  have h2 : k < s.size := by rw [Lib.size_eq]; exact hk
  rw [bt_at s h2]
  have e : s.data.toList[k] = c := (List.getElem?_eq_some_iff.1 h).2
  rw [← e]
  rfl
theorem pre_bt (s : ByteArray) : Lib.hasPrefix s.data.toList (⟨#[95]⟩ : ByteArray).data.toList = decide (bt s 0 = 95) := by
  have e0 : (⟨#[95]⟩ : ByteArray).data.toList = [95] := rfl
  rw [e0]
  cases hl : s.data.toList with
  | nil =>
    have : bt s 0 = 0 := by unfold bt; rw [dif_neg]; rw [Lib.size_eq, hl]; simp
    rw [this]
    rfl
  | cons c r =>
    have h := bt_list s 0 c (by rw [hl]; rfl)
    rw [h]
    have e : Lib.hasPrefix (c :: r) [95] = (95 == c) := by simp [Lib.hasPrefix, List.isPrefixOf]
    rw [e, Bool.eq_iff_iff]
    simp only [beq_iff_eq, decide_eq_true_eq]
    constructor
    · intro h; rw [← h]; rfl
    · intro h
      apply UInt8.toNat_inj.1
      have : c.toNat = 95 := by omega
      rw [this]; rfl
theorem pre95 : Pre95 := fun s w hs => by
  have h := Any.strings_HasPrefix Tryz.laysHasPrefix s ⟨#[95]⟩ w
  rw [pre_bt] at h
  exact h
theorem cut95 : Cut95 := fun s w hs => by
  have h := Any.strings_CutPrefix Tryz.laysCutPrefix s ⟨#[95]⟩ w
  refine h.mono ?_
  rintro e w' ⟨rfl, rfl⟩
  refine ⟨?_, Below.refl _ _⟩
  have hp := pre_bt s
  rw [hp]
  by_cases hb : bt s 0 = 95
  · rw [if_pos hb]
    rw [decide_eq_true hb] at hp
    have hr := Lib.hasPrefix_raw s ⟨#[95]⟩
    rw [hp] at hr
    simp only [Bool.and_eq_true, decide_eq_true_eq] at hr
    rw [Lib.trimPrefix_hit s ⟨#[95]⟩ hr.1 hr.2]
    rfl
  · rw [if_neg hb]
    rw [decide_eq_false hb] at hp
    have hr := Lib.hasPrefix_raw s ⟨#[95]⟩
    rw [hp] at hr
    rw [Lib.trimPrefix_miss s ⟨#[95]⟩ hr]
/-- Digits as a number, the digit that stands last first counted. -/
def accTo (s : ByteArray) (a q : Nat) : Nat → Nat
  | 0 => a
  | n + 1 => 10 * accTo s a q n + (bt s (q + n) - 48).toNat
theorem accTo_step (s : ByteArray) (a q : Nat) : ∀ n, accTo s a q (n + 1) = accTo s (10 * a + (bt s q - 48).toNat) (q + 1) n
  | 0 => by simp [accTo]
  | n + 1 => by
    have h := accTo_step s a q n
    show 10 * accTo s a q (n + 1) + (bt s (q + (n + 1)) - 48).toNat = 10 * accTo s (10 * a + (bt s q - 48).toNat) (q + 1) n + (bt s (q + 1 + n) - 48).toNat
    rw [h, show q + (n + 1) = q + 1 + n by omega]
theorem accTo_zero (s : ByteArray) (q : Nat) : ∀ n, accTo s 0 q n = numTo s q n
  | 0 => rfl
  | n + 1 => by simp only [accTo, numTo]; rw [accTo_zero s q n]
theorem accTo_le (s : ByteArray) (a q : Nat) : ∀ n, a ≤ accTo s a q n
  | 0 => Nat.le_refl _
  | n + 1 => by have := accTo_le s a q n; simp only [accTo]; omega
/-- What the library's reader of digits says of them. -/
theorem parse_digits (s : ByteArray) : ∀ (n q a : Nat) (l : List UInt8), l.length = n → (∀ j, j < n → l[j]? = s.data.toList[q + j]? ∧ digD s (q + j) = true) → a < 18446744073709551616 →
    Lib.parseUint10 a l = if accTo s a q n < 18446744073709551616 then .ok (accTo s a q n) else .range
  | 0, q, a, l, hl, hd, ha => by
    obtain rfl : l = [] := List.length_eq_zero_iff.1 hl
    have e : accTo s a q 0 = a := rfl
    rw [e, if_pos ha]
    rfl
  | n + 1, q, a, l, hl, hd, ha => by
    cases l with
    | nil => cases hl
    | cons c r =>
      obtain ⟨h0, h1⟩ := hd 0 (by omega)
      rw [Nat.add_zero] at h0 h1
      have hb := bt_list s q c (by rw [← h0]; rfl)
      unfold digD at h1
      simp only [Bool.and_eq_true, decide_eq_true_eq] at h1
      rw [hb] at h1
      have hc : 48 ≤ c.toNat ∧ c.toNat ≤ 57 := by omega
      have ev : (bt s q - 48).toNat = c.toNat - 48 := by rw [hb]; omega
      have hst := accTo_step s a q n
      have hle := accTo_le s (10 * a + (bt s q - 48).toNat) (q + 1) n
      simp only [Lib.parseUint10]
      rw [if_pos hc]
      by_cases g1 : 1844674407370955162 ≤ a
      · rw [if_pos g1, if_neg (by omega)]
      · rw [if_neg g1]
        by_cases g2 : 18446744073709551616 ≤ a * 10 + (c.toNat - 48)
        · rw [if_pos g2, if_neg (by omega)]
        · rw [if_neg g2, parse_digits s n (q + 1) (a * 10 + (c.toNat - 48)) r (by simpa using hl) (fun j hj => by
            have := hd (j + 1) (by omega)
            rw [show q + (j + 1) = q + 1 + j by omega] at this
            exact this) (by omega)]
          rw [hst, ev, Nat.mul_comm 10 a]
theorem ext_list (s : ByteArray) (n : Nat) (h : n ≤ s.size) : (s.extract 0 n).data.toList.length = n ∧ ∀ j, j < n → (s.extract 0 n).data.toList[j]? = s.data.toList[0 + j]? := by
  have e : (s.extract 0 n).data.toList = s.data.toList.take n := by simp [ByteArray.data_extract]
  rw [e]
  refine ⟨by rw [List.length_take, ← Lib.size_eq]; omega, fun j hj => ?_⟩
  rw [List.getElem?_take_of_lt hj, Nat.zero_add]
theorem atoi_digits (s : ByteArray) (n : Nat) (h0 : 0 < n) (h : n ≤ s.size) (hd : ∀ j, j < n → digD s (0 + j) = true) :
    Lib.atoiAll (s.extract 0 n).data.toList = if numTo s 0 n < 9223372036854775808 then .ok (numTo s 0 n : Int) else .range := by
  obtain ⟨hl, hj⟩ := ext_list s n h
  cases e : (s.extract 0 n).data.toList with
  | nil => rw [e] at hl; simp at hl; omega
  | cons c r =>
    rw [e] at hl hj
    have hb := bt_list s 0 c (by have := hj 0 h0; rw [Nat.add_zero] at this; rw [← this]; rfl)
    have h1 := hd 0 h0
    unfold digD at h1
    simp only [Bool.and_eq_true, decide_eq_true_eq, Nat.add_zero] at h1
    rw [hb] at h1
    rw [Lib.atoiAll_plain c r (by omega) (by omega)]
    have hp := parse_digits s n 0 0 (c :: r) hl (fun j hjn => ⟨hj j hjn, hd j hjn⟩) (by omega)
    rw [accTo_zero] at hp
    unfold Lib.parseMag
    rw [if_neg (by simp), hp]
    by_cases g : numTo s 0 n < 18446744073709551616
    · rw [if_pos g]
      show (if 9223372036854775808 ≤ numTo s 0 n then Lib.NumEnd.range else Lib.NumEnd.ok ((numTo s 0 n : Nat) : Int)) = _
      by_cases g2 : numTo s 0 n < 9223372036854775808
      · rw [if_pos g2, if_neg (by omega)]
      · rw [if_neg g2, if_pos (by omega)]
    · rw [if_neg g, if_neg (by omega)]
      rfl
theorem atoiD : AtoiD := fun s n w h0 hn hs hd he => by
  have ha := atoi_digits s n h0 hn hd
  have hz := ext_size s n hn
  by_cases g : numTo s 0 n < 9223372036854775808
  · rw [if_pos g] at ha
    have h := Any.strconv_Atoi_ok Tryz.laysAtoi (s.extract 0 n) (by omega) _ ha w
    refine h.mono ?_
    rintro e w' ⟨rfl, hw⟩
    refine ⟨_, _, rfl, .inl ⟨rfl, rfl, by omega⟩, ?_⟩
    rcases hw with rfl | ⟨t, rfl⟩
    · exact Below.refl _ _
    · exact Lib.bytesWorld_below _ _ _
  · rw [if_neg g] at ha
    obtain ⟨ev, hv, hev⟩ := he
    have h := Any.strconv_Atoi_range Tryz.laysAtoi (s.extract 0 n) (by omega) ha ev w hv hev
    refine h.mono ?_
    rintro e w' ⟨N, rfl, h1, h2, h3⟩
    exact ⟨_, _, rfl, .inr ⟨⟨_, _, rfl⟩, by omega⟩, h3⟩
end Go.Proofs.YtcaidhmolnnikaaGreatDoor
