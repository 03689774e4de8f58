/-
  Walks: what the functions of Chapter 1 on two numbers (the program's) answer, whatever they are given.
-/
import Derived.Test.YtnebjnglcfebeaaDoorSmall
import Derived.Laws.Tables
namespace Go.Proofs.YtnebjnglcfebeaaDoor
open Go.RowKit
theorem ret_int {k : IntKind} {a b : Int} (h : a = b) : Ending.returned (.int k a) = .returned (.int k b) := by rw [h]
theorem ret_two {a b c d : Int} (h : a = b) (h' : c = d) : Ending.returned (.tuple #[.int .i64 a, .int .i64 c]) = .returned (.tuple #[.int .i64 b, .int .i64 d]) := by rw [h, h']

set_option maxHeartbeats 400000 in
theorem roundedDown_impl (a b : Int) (hb : b ≠ 0) (a1 : -1000000000000 ≤ a) (a2 : a ≤ 1000000000000) (b1 : -1000000000000 ≤ b) (b2 : b ≤ 1000000000000) (w : World) :
    Calls Tryd.prog 103 #[.int .i64 a, .int .i64 b] w fun e w' => e = .returned (.int .i64 (flo a b)) ∧ w' = w := by
  have ht := tdiv_bd (b := b) a1 a2
  have _ := b1
  have _ := b2
  have hg := flo_go a b hb
  have HG : Hid (flo a b = if a.tmod b ≠ 0 ∧ (decide (a < 0) != decide (b < 0)) = true then a.tdiv b - 1 else a.tdiv b) := hg
  clear hg
  obtain ⟨t1, t2⟩ := ht
  go_enter Tryd.func103, Tryd.ntmps103
  go_wp2
  all_goals
    go_ret
    refine ⟨ret_int ?_, rfl⟩
    rw [HG.out]
    simp_all [bne]
set_option maxHeartbeats 400000 in
theorem digits_impl (x : Int) (h1 : -1000000000000 ≤ x) (h2 : x ≤ 1000000000000) (w : World) :
    Calls Tryd.prog 102 #[.int .i64 x] w fun e w' => e = .returned (.int .i64 (bits x.natAbs)) ∧ w' = w := by
  have hm := mag_bd h1 h2
  go_enter Tryd.func102, Tryd.ntmps102
  go_wp2_with (go_at_call 101; refine (withoutSign_impl _ h1 h2 _).mono ?_; rintro e w' ⟨rfl, rfl⟩)
  go_loop [3, 4] (fun n r => ∃ (k m : Nat), k + bits m = bits x.natAbs ∧ m ≤ 1000000000000 ∧ n = .int .i64 k ∧ r = .int .i64 m) (fun _ r => (intOf r).toNat)
  case atStart => exact ⟨0, x.natAbs, by omega, by omega, rfl, by rw [mag_abs]⟩
  case round =>
    obtain ⟨k, m, hk, hmm, rfl, rfl⟩ := hrel
    have hs := bits_small hmm
    have hx := bits_small (show x.natAbs ≤ 1000000000000 by omega)
    by_cases hp : 0 < m
    · have hb := bits_pos hp
      have HB : Hid (bits m = bits (m / 2) + 1) := hb
      have HK : Hid (k + bits m = bits x.natAbs) := hk
      have hkb : k ≤ 40 := by omega
      clear hb hk
      go_wp2
      go_round
      case rel => exact ⟨k + 1, m / 2, by have := HB.out; have := HK.out; omega, by omega, by go_num, by go_num⟩
      case measure => simp [intOf]; omega
    · obtain rfl : m = 0 := by omega
      go_wp2
      go_ret
      exact ⟨ret_int (by rw [bits_zero] at hk; omega), rfl⟩
theorem digits_top (w : World) : Calls Tryd.prog 102 #[.int .i64 1000000000000] w fun e w' => e = .returned (.int .i64 40) ∧ w' = w := by
  refine (digits_impl 1000000000000 (by decide) (by decide) w).mono ?_
  rintro e w' ⟨rfl, rfl⟩
  refine ⟨ret_int ?_, rfl⟩
  have : (1000000000000 : Int).natAbs = 1000000000000 := rfl
  rw [this, bits_top]; rfl
set_option maxHeartbeats 400000 in
theorem oneIf_impl (b : Bool) (w : World) : Calls Tryd.prog 104 #[.bool b] w fun e w' => e = .returned (.int .i64 (bit b)) ∧ w' = w := by
  cases b <;> (go_enter Tryd.func104, Tryd.ntmps104; go_wp2; go_ret; exact ⟨rfl, rfl⟩)
set_option maxHeartbeats 400000 in
theorem rol_impl (x : Int) (w : World) : Calls Tryd.prog 85 #[.int .i64 x, .int .i64 0] w fun e w' => e = .returned (.tuple #[.int .i64 (limV x), .int .i64 (limC x)]) ∧ w' = w := by
  by_cases h : ok x = true
  · go_enter Tryd.func85, Tryd.ntmps85
    go_wp2_with (go_at_call 58; refine (numOk_impl _ _).mono ?_; rintro e w' ⟨rfl, rfl⟩)
    go_ret2
    exact ⟨ret_two (lim_yes h).1.symm (lim_yes h).2.symm, rfl⟩
  · have h : ok x = false := by simpa using h
    go_enter Tryd.func85, Tryd.ntmps85
    go_wp2_with (go_at_call 58; refine (numOk_impl _ _).mono ?_; rintro e w' ⟨rfl, rfl⟩)
    go_ret2
    exact ⟨ret_two (lim_no h).1.symm (lim_no h).2.symm, rfl⟩
set_option maxHeartbeats 400000 in
theorem rol_code (x c : Int) (hc : (c == 0) = false) (w : World) : Calls Tryd.prog 85 #[.int .i64 x, .int .i64 c] w fun e w' => e = .returned (.tuple #[.int .i64 0, .int .i64 c]) ∧ w' = w := by
  go_enter Tryd.func85, Tryd.ntmps85
  go_wp2
  go_ret2
  exact ⟨rfl, rfl⟩
set_option maxHeartbeats 400000 in
theorem sum_impl (a b : Int) (a1 : -1000000000000 ≤ a) (a2 : a ≤ 1000000000000) (b1 : -1000000000000 ≤ b) (b2 : b ≤ 1000000000000) (w : World) : Calls Tryd.prog 91 #[.int .i64 a, .int .i64 b] w fun e w' => e = .returned (.tuple #[.int .i64 (a + b), .int .i64 0]) ∧ w' = w := by
  go_enter Tryd.func91, Tryd.ntmps91
  go_wp2
  go_ret2
  exact ⟨rfl, rfl⟩
set_option maxHeartbeats 400000 in
theorem difference_impl (a b : Int) (a1 : -1000000000000 ≤ a) (a2 : a ≤ 1000000000000) (b1 : -1000000000000 ≤ b) (b2 : b ≤ 1000000000000) (w : World) : Calls Tryd.prog 92 #[.int .i64 a, .int .i64 b] w fun e w' => e = .returned (.tuple #[.int .i64 (a - b), .int .i64 0]) ∧ w' = w := by
  go_enter Tryd.func92, Tryd.ntmps92
  go_wp2
  go_ret2
  exact ⟨rfl, rfl⟩
set_option maxHeartbeats 400000 in
theorem isEqual_impl (a b : Int) (w : World) : Calls Tryd.prog 98 #[.int .i64 a, .int .i64 b] w fun e w' => e = .returned (.tuple #[.int .i64 (bit (a == b)), .int .i64 0]) ∧ w' = w := by
  go_enter Tryd.func98, Tryd.ntmps98
  go_wp2_with (go_at_call 104; refine (oneIf_impl _ _).mono ?_; rintro e w' ⟨rfl, rfl⟩)
  go_ret2
  exact ⟨rfl, rfl⟩
set_option maxHeartbeats 400000 in
theorem isBelow_impl (a b : Int) (w : World) : Calls Tryd.prog 99 #[.int .i64 a, .int .i64 b] w fun e w' => e = .returned (.tuple #[.int .i64 (bit (decide (a < b))), .int .i64 0]) ∧ w' = w := by
  go_enter Tryd.func99, Tryd.ntmps99
  go_wp2_with (go_at_call 104; refine (oneIf_impl _ _).mono ?_; rintro e w' ⟨rfl, rfl⟩)
  go_ret2
  exact ⟨rfl, rfl⟩
set_option maxHeartbeats 400000 in
theorem isAbove_impl (a b : Int) (w : World) : Calls Tryd.prog 100 #[.int .i64 a, .int .i64 b] w fun e w' => e = .returned (.tuple #[.int .i64 (bit (decide (b < a))), .int .i64 0]) ∧ w' = w := by
  go_enter Tryd.func100, Tryd.ntmps100
  go_wp2_with (go_at_call 104; refine (oneIf_impl _ _).mono ?_; rintro e w' ⟨rfl, rfl⟩)
  go_ret2
  exact ⟨rfl, rfl⟩
set_option maxHeartbeats 400000 in
theorem lesser_impl (a b : Int) (w : World) : Calls Tryd.prog 96 #[.int .i64 a, .int .i64 b] w fun e w' => e = .returned (.tuple #[.int .i64 (mn a b), .int .i64 0]) ∧ w' = w := by
  go_enter Tryd.func96, Tryd.ntmps96
  go_wp2
  all_goals
    go_ret2
    exact ⟨ret_two (by unfold mn; split <;> omega) rfl, rfl⟩
set_option maxHeartbeats 400000 in
theorem greater_impl (a b : Int) (w : World) : Calls Tryd.prog 97 #[.int .i64 a, .int .i64 b] w fun e w' => e = .returned (.tuple #[.int .i64 (mx a b), .int .i64 0]) ∧ w' = w := by
  go_enter Tryd.func97, Tryd.ntmps97
  go_wp2
  all_goals
    go_ret2
    exact ⟨ret_two (by unfold mx; split <;> omega) rfl, rfl⟩
set_option maxHeartbeats 400000 in
theorem quotient_impl0 (a : Int) (w : World) : Calls Tryd.prog 94 #[.int .i64 a, .int .i64 0] w fun e w' => e = .returned (.tuple #[.int .i64 0, .int .i64 2]) ∧ w' = w := by
  go_enter Tryd.func94, Tryd.ntmps94
  go_wp2
  go_ret2
  exact ⟨rfl, rfl⟩
set_option maxHeartbeats 400000 in
theorem quotient_impl (a b : Int) (hb : b ≠ 0) (a1 : -1000000000000 ≤ a) (a2 : a ≤ 1000000000000) (b1 : -1000000000000 ≤ b) (b2 : b ≤ 1000000000000) (w : World) : Calls Tryd.prog 94 #[.int .i64 a, .int .i64 b] w fun e w' => e = .returned (.tuple #[.int .i64 (flo a b), .int .i64 0]) ∧ w' = w := by
  have hb' : (b == 0) = false := by simpa using hb
  go_enter Tryd.func94, Tryd.ntmps94
  go_wp2_with (go_at_call 103; refine (roundedDown_impl _ _ hb a1 a2 b1 b2 _).mono ?_; rintro e w' ⟨rfl, rfl⟩)
  go_ret2
  exact ⟨rfl, rfl⟩
set_option maxHeartbeats 400000 in
theorem remainder_impl0 (b : Int) (w : World) : Calls Tryd.prog 95 #[.int .i64 0, .int .i64 b] w fun e w' => e = .returned (.tuple #[.int .i64 b, .int .i64 0]) ∧ w' = w := by
  go_enter Tryd.func95, Tryd.ntmps95
  go_wp2
  go_ret2
  exact ⟨rfl, rfl⟩
set_option maxHeartbeats 400000 in
theorem remainder_impl (a b : Int) (ha : a ≠ 0) (a1 : -1000000000000 ≤ a) (a2 : a ≤ 1000000000000) (b1 : -1000000000000 ≤ b) (b2 : b ≤ 1000000000000) (w : World) : Calls Tryd.prog 95 #[.int .i64 a, .int .i64 b] w fun e w' => e = .returned (.tuple #[.int .i64 (rst b a), .int .i64 0]) ∧ w' = w := by
  have ha' : (a == 0) = false := by simpa using ha
  have he : Hid (b - a * flo b a = rst b a) := rst_eq b a
  have hr := rst_bd (a := b) ha a1 a2
  have p1 : -2000000000000 ≤ a * flo b a := by have := he.out; omega
  have p2 : a * flo b a ≤ 2000000000000 := by have := he.out; omega
  clear hr
  go_enter Tryd.func95, Tryd.ntmps95
  go_wp2_with (go_at_call 103; refine (roundedDown_impl _ _ ha b1 b2 a1 a2 _).mono ?_; rintro e w' ⟨rfl, rfl⟩)
  go_ret2
  exact ⟨ret_two he.out rfl, rfl⟩
set_option maxHeartbeats 400000 in
theorem product_impl1 (a b : Int) (a1 : -1000000000000 ≤ a) (a2 : a ≤ 1000000000000) (b1 : -1000000000000 ≤ b) (b2 : b ≤ 1000000000000) (h : 41 < bits a.natAbs + bits b.natAbs) (w : World) : Calls Tryd.prog 93 #[.int .i64 a, .int .i64 b] w fun e w' => e = .returned (.tuple #[.int .i64 0, .int .i64 6]) ∧ w' = w := by
  have A1 := bits_small (show a.natAbs ≤ 1000000000000 by omega)
  have A2 := bits_small (show b.natAbs ≤ 1000000000000 by omega)
  have h' : (40 : Int) < (bits a.natAbs : Int) + (bits b.natAbs : Int) - 1 := by omega
  go_enter Tryd.func93, Tryd.ntmps93
  go_wp2_with fail
  refine (digits_impl a a1 a2 _).mono ?_
  rintro e w' ⟨rfl, rfl⟩
  go_wp2_with fail
  refine (digits_impl b b1 b2 _).mono ?_
  rintro e w' ⟨rfl, rfl⟩
  go_wp2_with fail
  refine (digits_top _).mono ?_
  rintro e w' ⟨rfl, rfl⟩
  go_wp2
  go_ret2
  exact ⟨rfl, rfl⟩
set_option maxHeartbeats 400000 in
theorem product_impl2 (a b : Int) (a1 : -1000000000000 ≤ a) (a2 : a ≤ 1000000000000) (b1 : -1000000000000 ≤ b) (b2 : b ≤ 1000000000000) (h : bits a.natAbs + bits b.natAbs ≤ 41) (w : World) : Calls Tryd.prog 93 #[.int .i64 a, .int .i64 b] w fun e w' => e = .returned (.tuple #[.int .i64 (a * b), .int .i64 0]) ∧ w' = w := by
  have A1 := bits_small (show a.natAbs ≤ 1000000000000 by omega)
  have A2 := bits_small (show b.natAbs ≤ 1000000000000 by omega)
  have h' : ¬ (40 : Int) < (bits a.natAbs : Int) + (bits b.natAbs : Int) - 1 := by omega
  obtain ⟨p1, p2⟩ := prod_small h
  go_enter Tryd.func93, Tryd.ntmps93
  go_wp2_with fail
  refine (digits_impl a a1 a2 _).mono ?_
  rintro e w' ⟨rfl, rfl⟩
  go_wp2_with fail
  refine (digits_impl b b1 b2 _).mono ?_
  rintro e w' ⟨rfl, rfl⟩
  go_wp2_with fail
  refine (digits_top _).mono ?_
  rintro e w' ⟨rfl, rfl⟩
  go_wp2
  go_ret2
  exact ⟨rfl, rfl⟩

def cellsTwo : Array Value := #[.int .i64 43, .func (.func 91) #[] #[], .int .i64 45, .func (.func 92) #[] #[], .int .i64 42, .func (.func 93) #[] #[], .int .i64 37, .func (.func 94) #[] #[], .int .i64 124, .func (.func 95) #[] #[], .int .i64 38, .func (.func 96) #[] #[], .int .i64 94, .func (.func 97) #[] #[], .int .i64 61, .func (.func 98) #[] #[], .int .i64 60, .func (.func 99) #[] #[], .int .i64 62, .func (.func 100) #[] #[]]
def zerosTwo : Array Value := #[.int .i64 0, .nilFunc, .int .i64 0, .nilFunc, .int .i64 0, .nilFunc, .int .i64 0, .nilFunc, .int .i64 0, .nilFunc, .int .i64 0, .nilFunc, .int .i64 0, .nilFunc, .int .i64 0, .nilFunc, .int .i64 0, .nilFunc, .int .i64 0, .nilFunc]
def rulesTwo : Value := .agg cellsTwo
theorem cellsTwo_one : cellsTwo.all (·.oneCell') = true := by kernel_rfl
theorem modify_push {α : Type} (xs : Array α) (o p : α) (f : α → α) (hf : f o = p) : (xs.push o).modify xs.size f = xs.push p := by
  apply Array.ext
  · simp
  · intro i h1 h2
    rw [Array.getElem_modify]
    simp only [Array.getElem_push]
    by_cases e : i < xs.size
    · simp [e, show ¬ xs.size = i by omega]
    · have : xs.size = i := by simp at h2; omega
      simp [this, hf]
theorem setRow_alloc (w : World) (old cs : Array Value) (t : TypeId) : (w.alloc (.cells old t)).setRow w.heap.size cs = w.alloc (.cells cs t) := by
  unfold World.setRow
  rw [show (w.alloc (.cells old t)).heap = w.heap.push (.cells old t) from rfl, modify_push _ _ (.cells cs t) _ rfl]
  rfl
set_option maxHeartbeats 400000 in
theorem twoRules_impl (w : World) : Calls Tryd.prog 84 #[] w fun e w' => e = .returned rulesTwo ∧ ∃ c : Array Value, w' = w.alloc (.cells c 115) := by
  have hg : (w.alloc (.cells zerosTwo 115)).heap[w.heap.size]? = some (.cells zerosTwo 115 (0, 0)) := heap_alloc_new w _
  go_enter Tryd.func84, Tryd.ntmps84
  go_wp2_with (refine wpList_store_row rfl 115 _ _ rfl w.heap.size cellsTwo rfl rfl 115 zerosTwo hg (by kernel_rfl) rfl cellsTwo_one ?_)
  refine bodyPost_ret (v := rulesTwo) ?_ rfl ⟨rfl, cellsTwo, setRow_alloc _ _ _ _⟩
  exact results_cell_row Tryd.results84 _ _ w.heap.size 115 cellsTwo (0, 0) _ rfl (setRow_heap _ _ zerosTwo _ _ _ hg) Tryd.underlying115 rfl (by kernel_rfl)
theorem ixTwo0 (w : World) : (Instr.index 115 rulesTwo (.int .i64 0)).run Tryd.prog w = .ok (.agg #[.int .i64 43, .func (.func 91) #[] #[]]) w := by kernel_rfl
theorem ixTwo1 (w : World) : (Instr.index 115 rulesTwo (.int .i64 1)).run Tryd.prog w = .ok (.agg #[.int .i64 45, .func (.func 92) #[] #[]]) w := by kernel_rfl
theorem ixTwo2 (w : World) : (Instr.index 115 rulesTwo (.int .i64 2)).run Tryd.prog w = .ok (.agg #[.int .i64 42, .func (.func 93) #[] #[]]) w := by kernel_rfl
theorem ixTwo3 (w : World) : (Instr.index 115 rulesTwo (.int .i64 3)).run Tryd.prog w = .ok (.agg #[.int .i64 37, .func (.func 94) #[] #[]]) w := by kernel_rfl
theorem ixTwo4 (w : World) : (Instr.index 115 rulesTwo (.int .i64 4)).run Tryd.prog w = .ok (.agg #[.int .i64 124, .func (.func 95) #[] #[]]) w := by kernel_rfl
theorem ixTwo5 (w : World) : (Instr.index 115 rulesTwo (.int .i64 5)).run Tryd.prog w = .ok (.agg #[.int .i64 38, .func (.func 96) #[] #[]]) w := by kernel_rfl
theorem ixTwo6 (w : World) : (Instr.index 115 rulesTwo (.int .i64 6)).run Tryd.prog w = .ok (.agg #[.int .i64 94, .func (.func 97) #[] #[]]) w := by kernel_rfl
theorem ixTwo7 (w : World) : (Instr.index 115 rulesTwo (.int .i64 7)).run Tryd.prog w = .ok (.agg #[.int .i64 61, .func (.func 98) #[] #[]]) w := by kernel_rfl
theorem ixTwo8 (w : World) : (Instr.index 115 rulesTwo (.int .i64 8)).run Tryd.prog w = .ok (.agg #[.int .i64 60, .func (.func 99) #[] #[]]) w := by kernel_rfl
theorem ixTwo9 (w : World) : (Instr.index 115 rulesTwo (.int .i64 9)).run Tryd.prog w = .ok (.agg #[.int .i64 62, .func (.func 100) #[] #[]]) w := by kernel_rfl
end Go.Proofs.YtnebjnglcfebeaaDoor
