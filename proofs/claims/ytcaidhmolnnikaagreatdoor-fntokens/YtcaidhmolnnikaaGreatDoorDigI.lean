
/-
  Walks: the program's numberWord, ShowNum, over strconv.Itoa's contract.
-/
import Derived.Test.YtcaidhmolnnikaaGreatDoorDigS
import Derived.Test.YtcaidhmolnnikaaGreatDoorLaysI
import Derived.Lib.AppendIntMem
namespace Go.Proofs.YtcaidhmolnnikaaGreatDoor
open Go.RowKit
set_option linter.unusedVariables false
set_option linter.unusedSimpArgs false
/-- The library's table of powers of ten stands, whatever is done from here on. -/
def TabW (w : World) : Prop := Lib.TabBelow Tryz.prog w.heap.size w "internal/strconv.uint64pow10" .u64 Lib.pow10Tab
theorem TabW.on {w w' : World} (h : TabW w) (hb : Below w.heap.size w w') : TabW w' := fun x hx => h x (hb.trans (hx.mono hb.size))
theorem itoa_impl (N : Nat) (h : (N : Int) ≤ 1000000000000) {w : World} (ht : TabW w) :
    Calls Tryz.prog 51 #[.int .i64 (N : Int)] w fun e w' => e = .returned (.string (dgs N)) ∧ Below w.heap.size w w' := by
  refine (Any.strconv_Itoa Tryz.laysItoa (N : Int) (by omega) (by omega) w ht.here).mono ?_
  rintro e w' ⟨rfl, k, os, rfl⟩
  refine ⟨?_, Lib.below_grow _ w (Nat.le_refl _) k os⟩
  unfold Lib.itoa dgs
  rw [if_neg (by omega), Int.toNat_natCast]
set_option maxRecDepth 20000 in
set_option maxHeartbeats 4000000 in
/-- numberWord of right numbers. -/
theorem numberWord_impl {x : Int} (h : ok x = true) {w : World} (ht : TabW w) :
    Calls Tryz.prog 34 #[.int .i64 x] w fun e w' => e = .returned (.string (digB x)) ∧ Below w.heap.size w w' := by
  have hb : -1000000000000 ≤ x ∧ x ≤ 1000000000000 := by simpa [ok] using h
  by_cases h0 : x < 0
  · obtain ⟨N, rfl⟩ : ∃ N : Nat, x = -(N : Int) := ⟨(-x).toNat, by omega⟩
    rw [digB_neg (by omega)]
    have C : Hid (Calls Tryz.prog 51 #[.int .i64 (N : Int)] w fun e w' => e = .returned (.string (dgs N)) ∧ Below w.heap.size w w') := itoa_impl N (by omega) ht
    have sz : ByteArray.size ⟨#[95]⟩ + (dgs N).size ≤ 9223372036854775807 := by
      have := dgs_size (N := N) (by omega)
      have e : ByteArray.size ⟨#[95]⟩ = 1 := rfl
      omega
    generalize dgs N = d at *
    clear h ht
    go_enter Tryz.func34, Tryz.ntmps34
    go_wp2_with fail
    refine C.out.mono ?_
    rintro r w1 ⟨rfl, hb1⟩
    have B1 : Hid (Below w.heap.size w w1) := hb1
    clear hb1 C
    go_wp2
    go_ret
    exact ⟨rfl, B1.out⟩
  · obtain ⟨N, rfl⟩ : ∃ N : Nat, x = (N : Int) := ⟨x.toNat, by omega⟩
    rw [digB_nat]
    have C : Hid (Calls Tryz.prog 51 #[.int .i64 (N : Int)] w fun e w' => e = .returned (.string (dgs N)) ∧ Below w.heap.size w w') := itoa_impl N (by omega) ht
    generalize dgs N = d at *
    clear h ht
    go_enter Tryz.func34, Tryz.ntmps34
    go_wp2_with fail
    refine C.out.mono ?_
    rintro r w1 ⟨rfl, hb1⟩
    have B1 : Hid (Below w.heap.size w w1) := hb1
    clear hb1 C
    go_wp2
    go_ret
    exact ⟨rfl, B1.out⟩
end Go.Proofs.YtcaidhmolnnikaaGreatDoor
