/-
  Walks: the program's numberWord, ShowNum, over strconv.Itoa's contract.
-/
import Derived.Test.YtdcemlghnoecnaaDoorDigS
import Derived.Test.YtdcemlghnoecnaaDoorLaysI
import Derived.Lib.AppendIntMem
namespace Go.Proofs.YtdcemlghnoecnaaDoor
open Go.RowKit
set_option linter.unusedVariables false
set_option linter.unusedSimpArgs false
/-- The library's table of powers of ten stands, whatever is done from here on. -/
def TabW (w : World) : Prop := Lib.TabBelow Tryd.prog w.heap.size w "internal/strconv.uint64pow10" .u64 Lib.pow10Tab
theorem TabW.on {w w' : World} (h : TabW w) (hb : Below w.heap.size w w') : TabW w' := fun x hx => h x (hb.trans (hx.mono hb.size))
theorem itoa_impl (N : Nat) (h : (N : Int) ≤ 1000000000000) {w : World} (ht : TabW w) :
    Calls Tryd.prog 45 #[.int .i64 (N : Int)] w fun e w' => e = .returned (.string (dgs N)) ∧ Below w.heap.size w w' := by
  refine (Any.strconv_Itoa Tryd.laysItoa (N : Int) (by omega) (by omega) w ht.here).mono ?_
  rintro e w' ⟨rfl, k, os, rfl⟩
  refine ⟨?_, Lib.below_grow _ w (Nat.le_refl _) k os⟩
  unfold Lib.itoa dgs
  rw [if_neg (by omega), Int.toNat_natCast]
set_option maxRecDepth 20000 in
set_option maxHeartbeats 4000000 in
/-- numberWord of right numbers. -/
theorem numberWord_impl {x : Int} (h : ok x = true) {w : World} (ht : TabW w) :
    Calls Tryd.prog 29 #[.int .i64 x] w fun e w' => e = .returned (.string (digB x)) ∧ Below w.heap.size w w' := by
  have hb : -1000000000000 ≤ x ∧ x ≤ 1000000000000 := by simpa [ok] using h
  by_cases h0 : x < 0
  · obtain ⟨N, rfl⟩ : ∃ N : Nat, x = -(N : Int) := ⟨(-x).toNat, by omega⟩
    rw [digB_neg (by omega)]
    have C : Hid (Calls Tryd.prog 45 #[.int .i64 (N : Int)] w fun e w' => e = .returned (.string (dgs N)) ∧ Below w.heap.size w w') := itoa_impl N (by omega) ht
    have sz : ByteArray.size ⟨#[95]⟩ + (dgs N).size ≤ 9223372036854775807 := by
      have := dgs_size (N := N) (by omega)
      have e : ByteArray.size ⟨#[95]⟩ = 1 := rfl
      omega
    generalize dgs N = d at *
    clear h ht
    go_enter Tryd.func29, Tryd.ntmps29
    go_wp2_with fail
    refine C.out.mono ?_
    rintro r w1 ⟨rfl, hb1⟩
    have B1 : Hid (Below w.heap.size w w1) := hb1
    clear hb1 C
    go_wp2
    go_ret
    exact ⟨rfl, B1.out⟩
  · obtain ⟨N, rfl⟩ : ∃ N : Nat, x = (N : Int) := ⟨x.toNat, by omega⟩
    rw [digB_nat]
    have C : Hid (Calls Tryd.prog 45 #[.int .i64 (N : Int)] w fun e w' => e = .returned (.string (dgs N)) ∧ Below w.heap.size w w') := itoa_impl N (by omega) ht
    generalize dgs N = d at *
    clear h ht
    go_enter Tryd.func29, Tryd.ntmps29
    go_wp2_with fail
    refine C.out.mono ?_
    rintro r w1 ⟨rfl, hb1⟩
    have B1 : Hid (Below w.heap.size w w1) := hb1
    clear hb1 C
    go_wp2
    go_ret
    exact ⟨rfl, B1.out⟩
set_option maxRecDepth 20000 in
set_option maxHeartbeats 4000000 in
/-- The program's ShowNum. -/
theorem showNum_impl (x : Int) {w : World} (ht : TabW w) :
    Calls Tryd.prog 10 #[.int .i64 x] w fun e w' => e = .returned (.string (shN x)) ∧ Below w.heap.size w w' := by
  have CN : Hid (Calls Tryd.prog 28 #[.int .i64 x] w fun e w' => e = .returned (.bool (ok x)) ∧ w' = w) := numOk_impl x w
  unfold shN
  cases h : ok x
  · rw [h] at CN
    rw [if_neg (by decide)]
    clear h ht
    go_enter Tryd.func10, Tryd.ntmps10
    go_wp2_with fail
    refine CN.out.mono ?_
    rintro r w1 ⟨rfl, hw⟩
    subst w1
    go_wp2
    go_ret
    exact ⟨rfl, Below.refl _ _⟩
  · have CD : Hid (Calls Tryd.prog 29 #[.int .i64 x] w fun e w' => e = .returned (.string (digB x)) ∧ Below w.heap.size w w') := numberWord_impl h ht
    rw [h] at CN
    rw [if_pos rfl]
    clear h ht
    generalize digB x = d at *
    go_enter Tryd.func10, Tryd.ntmps10
    go_wp2_with fail
    refine CN.out.mono ?_
    rintro r w1 ⟨rfl, hw⟩
    subst w1
    go_wp2_with fail
    refine CD.out.mono ?_
    rintro r w1 ⟨rfl, hb⟩
    have B1 : Hid (Below w.heap.size w w1) := hb
    clear hb
    go_wp2
    go_ret
    exact ⟨rfl, B1.out⟩
end Go.Proofs.YtdcemlghnoecnaaDoor
