/-
  Walks: the program's withCount and withNums.
-/
import Derived.Test.YtonkiipdobpfgaaPackM
import Derived.Test.YtonkiipdobpfgaaBytK
namespace Go.Proofs.Ytonkiipdobpfgaa
open Go.RowKit
set_option linter.unusedVariables false
set_option linter.unusedSimpArgs false
set_option maxRecDepth 20000 in
set_option maxHeartbeats 4000000 in
theorem withCount_impl {B : Nat} {w : World} {a : Option Addr} {c : Nat} {l : List Int} (h : NewB B w (.slice a l.length c) l) (hB : B ≤ w.heap.size) (hl : l.length ≤ 1000000) (n : Nat) (hn : n ≤ 1048576) :
    Calls Try.prog 27 #[.slice a l.length c, .int .i64 (n : Int)] w fun r w' => ∃ a' c', r = .returned (.slice a' (l.length + 2) c') ∧ NewB B w' (.slice a' (l.length + 2) c') (l ++ [(n : Int) % 256, (n : Int) / 256 % 256]) ∧ Gr (.slice a l.length c) w (.slice a' (l.length + 2) c') w' := by
  obtain ⟨a5, c5, w5, hr, h5, hb5⟩ := growBs [(n : Int) % 256, (n : Int) / 256 % 256] h hB (by simp; omega)
  have R5 : Hid ((Builtin.append_ #[26, 26] 26 #[.slice a l.length c, .slice (some ⟨w.heap.size, 0, none⟩) 2 2]).run Try.prog (w.alloc (.cells #[.int .u8 ((n : Int) % 256), .int .u8 ((n : Int) / 256 % 256)] 5)) = .ok (.slice a5 (l.length + 2) c5) w5) := by show _ = _; simpa [bvals] using hr
  have N5 : Hid (NewB B w5 (.slice a5 (l.length + 2) c5) (l ++ [(n : Int) % 256, (n : Int) / 256 % 256])) := by show NewB _ _ _ _; simpa using h5
  have B5 : Hid (Gr (.slice a l.length c) w (.slice a5 (l.length + 2) c5) w5) := by show Gr _ _ _ _; simpa using hb5
  clear hr h5 hb5 h
  go_enter Try.func27, Try.ntmps27
  go_wp2_with (at_builtin; refine wpList_append_ty rfl _ _ 26 26 rfl _ _ _ rfl rfl R5.out ?_)
  go_ret
  exact ⟨_, _, rfl, N5.out, B5.out⟩
theorem num8_next (n : Int) (h : 0 ≤ n) (j : Nat) : n / 256 ^ j / 256 = n / 256 ^ (j + 1) := by
  rw [Int.ediv_ediv_of_nonneg (by exact Int.pow_nonneg (by decide)), Int.pow_succ]
set_option maxRecDepth 20000 in
set_option maxHeartbeats 8000000 in
theorem withNums_impl {B : Nat} {w : World} {a b : Option Addr} {c d : Nat} {l m : List Int} (h : NewB B w (.slice a l.length c) l) (hm : ∀ W, Below B w W → Ints W b m) (hB : B ≤ w.heap.size) (hl : l.length + 8 * m.length ≤ 1000000) (hk : m.all ok = true) :
    Calls Try.prog 28 #[.slice a l.length c, .slice b m.length d] w fun r w' => ∃ a' c', r = .returned (.slice a' (l ++ numsBy m).length c') ∧ NewB B w' (.slice a' (l ++ numsBy m).length c') (l ++ numsBy m) ∧ Gr (.slice a l.length c) w (.slice a' (l ++ numsBy m).length c') w' := by
  have H : Hid (NewB B w (.slice a l.length c) l) := h
  have HM : Hid (∀ W, Below B w W → Ints W b m) := hm
  have HL : Hid (l.length + 8 * m.length ≤ 1000000) := hl
  have HK : Hid (m.all ok = true) := hk
  have HB : Hid (B ≤ w.heap.size) := hB
  have hml : m.length ≤ 1000000 := by omega
  clear h hm hl hk hB
  go_enter Try.func28, Try.ntmps28
  go_wp2
  go_loopw [0, 10] (fun u i w' => ∃ (k : Nat) (a1 : Option Addr) (c1 : Nat), k ≤ m.length ∧ u = .slice a1 (l ++ numsBy (m.take k)).length c1 ∧ i = .int .i64 (k : Int) ∧ NewB B w' (.slice a1 (l ++ numsBy (m.take k)).length c1) (l ++ numsBy (m.take k)) ∧ Gr (.slice a l.length c) w u w') (fun _ i _ => m.length - (intOf i).toNat)
  case atStart => exact ⟨0, a, c, by omega, by simp [numsBy], rfl, by simpa [numsBy] using H.out, Gr.refl _ _⟩
  case round =>
    obtain ⟨k, a1, c1, hk, rfl, rfl, hN, hb⟩ := hrel
    have NK : Hid (NewB B wr (.slice a1 (l ++ numsBy (m.take k)).length c1) (l ++ numsBy (m.take k))) := hN
    have BK : Hid (Gr (.slice a l.length c) w (.slice a1 (l ++ numsBy (m.take k)).length c1) wr) := hb
    have BL : Hid (Below B w wr) := hb.below H.out.row HB.out
    clear hN hb
    by_cases hlt : (k : Int) < (m.length : Int)
    · have L : k < m.length := by omega
      obtain ⟨b1, o1, rfl, _, cx⟩ := (HM.out _ BL.out).at L
      have ET : Hid (l ++ numsBy (m.take (k + 1)) = (l ++ numsBy (m.take k)) ++ num8 (m.getD k 0 + 1000000000000)) := by show _ = _; rw [numsBy_take L, List.append_assoc]
      have LA : Hid ((l ++ numsBy (m.take k)).length + 8 ≤ 1000000) := by
        have := HL.out
        show _ ≤ _
        rw [List.length_append, numsBy_len, List.length_take]
        omega
      have OK : ok (m.getD k 0) = true := by
        have := List.all_eq_true.1 HK.out (m.getD k 0) (by simp [L])
        exact this
      obtain ⟨F', hF'⟩ : ∃ F', F' = l ++ numsBy (m.take (k + 1)) := ⟨_, rfl⟩
      have HF' : Hid (F' = l ++ numsBy (m.take (k + 1))) := hF'
      rw [← hF'] at ET
      clear hF' L
      generalize l ++ numsBy (m.take k) = A at *
      generalize m.getD k 0 = x at *
      have x0 : -1000000000000 ≤ x ∧ x ≤ 1000000000000 := by unfold ok at OK; simpa using OK
      clear OK
      obtain ⟨y, hy⟩ : ∃ y, y = x + 1000000000000 := ⟨_, rfl⟩
      have y0 : 0 ≤ y := by omega
      have y1 : y ≤ 2000000000000 := by omega
      rw [← hy] at ET
      have HY : Hid (x + 1000000000000 = y) := hy.symm
      clear hy
      go_wp2_with fail
      go_loopw [0, 7, 16] (fun u r i w' => ∃ (j : Nat) (a2 : Option Addr) (c2 : Nat), j ≤ 8 ∧ u = .slice a2 (A ++ (num8 y).take j).length c2 ∧ r = .int .i64 (y / 256 ^ j) ∧ i = .int .i64 (j : Int) ∧ NewB B w' (.slice a2 (A ++ (num8 y).take j).length c2) (A ++ (num8 y).take j) ∧ Gr (.slice a l.length c) w u w') (fun _ _ i _ => 8 - (intOf i).toNat)
      case atStart => exact ⟨0, a1, c1, by omega, by simp, by rw [HY.out]; simp, rfl, by simpa using NK.out, by simpa using BK.out⟩
      case round =>
        obtain ⟨j, a2, c2, hj, rfl, rfl, rfl, hN, hb⟩ := hrel
        have NJ : Hid (NewB B wr (.slice a2 (A ++ (num8 y).take j).length c2) (A ++ (num8 y).take j)) := hN
        have BJ : Hid (Gr (.slice a l.length c) w (.slice a2 (A ++ (num8 y).take j).length c2) wr) := hb
        clear hN hb
        by_cases hjt : (j : Int) < 8
        · have LJ : j < 8 := by omega
          have EJ : A ++ (num8 y).take (j + 1) = (A ++ (num8 y).take j) ++ [y / 256 ^ j % 256] := by rw [num8_take y LJ, List.append_assoc]
          have EN : Hid (y / 256 ^ j / 256 = y / 256 ^ (j + 1)) := num8_next y y0 j
          have LJ2 : (A ++ (num8 y).take j).length ≤ 1000000 := by have := LA.out; rw [List.length_append, List.length_take, num8_len]; omega
          obtain ⟨G', hG'⟩ : ∃ G', G' = A ++ (num8 y).take (j + 1) := ⟨_, rfl⟩
          have HG' : Hid (G' = A ++ (num8 y).take (j + 1)) := hG'
          rw [← hG'] at EJ
          clear hG'
          have z0 : 0 ≤ y / 256 ^ j := Int.ediv_nonneg y0 (Int.pow_nonneg (by decide))
          have z1 : y / 256 ^ j ≤ y := Int.ediv_le_self _ y0
          generalize y / 256 ^ j = z at *
          generalize A ++ (num8 y).take j = G at *
          obtain ⟨a5, c5, w5, hr, h5, hb5⟩ := growBs [z % 256] NJ.out (Nat.le_trans HB.out BJ.out.size) (by simp; omega)
          rw [← EJ] at hr h5
          have LG : Hid (G'.length = G.length + 1) := by show _ = _; rw [EJ]; simp
          rw [LG.out] at hr h5
          rw [show (G ++ [z % 256]).length = G.length + 1 by simp] at hb5
          have R5 : Hid ((Builtin.append_ #[26, 26] 26 #[.slice a2 G.length c2, .slice (some ⟨wr.heap.size, 0, none⟩) 1 1]).run Try.prog (wr.alloc (.cells #[.int .u8 (z % 256)] 5)) = .ok (.slice a5 (G.length + 1) c5) w5) := by show _ = _; simpa [bvals] using hr
          have N5 : Hid (NewB B w5 (.slice a5 (G.length + 1) c5) G') := h5
          have B5 : Hid (Gr (.slice a l.length c) w (.slice a5 (G.length + 1) c5) w5) := BJ.out.trans hb5
          clear hr h5 hb5 EJ
          go_wp2_with (at_builtin; refine wpList_append_ty rfl _ _ 26 26 rfl _ _ _ rfl rfl R5.out ?_)
          go_roundw
          case rel => exact ⟨j + 1, a5, c5, by omega, by rw [← HG'.out, LG.out], by rw [← EN.out], by go_num, by rw [← HG'.out, LG.out]; exact N5.out, B5.out⟩
          case measure => simp [intOf]; omega
        · obtain rfl : j = 8 := by omega
          have E8 : Hid (A ++ (num8 y).take 8 = F') := by show _ = _; rw [ET.out, List.take_of_length_le (by rw [num8_len]; omega)]
          rw [E8.out] at NJ BJ ⊢
          go_wp2
          go_roundw
          case rel => exact ⟨k + 1, a2, c2, by omega, by rw [← HF'.out], by go_num, by rw [← HF'.out]; exact NJ.out, BJ.out⟩
          case measure => simp [intOf]; omega
    · obtain rfl : k = m.length := by omega
      have E8 : m.take m.length = m := List.take_length
      rw [E8] at NK BK ⊢
      go_wp2
      go_ret
      exact ⟨_, _, rfl, by have := NK.out; rwa [List.length_append] at this, by have := BK.out; rwa [List.length_append] at this⟩
end Go.Proofs.Ytonkiipdobpfgaa
