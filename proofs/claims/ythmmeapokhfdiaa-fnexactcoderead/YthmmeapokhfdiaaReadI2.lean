/-
  Walks: the program's firstNums, firstInstr.
-/
import Derived.Test.YthmmeapokhfdiaaReadI
import Derived.Test.YthmmeapokhfdiaaCodeK
import Derived.Deep.RegionHeld3
namespace Go.Proofs.Ythmmeapokhfdiaa
open Go.RowKit
set_option linter.unusedVariables false
set_option linter.unusedSimpArgs false
/-- Bytes from one place on, and up to one. -/
theorem run_fromB {g off n c M : Nat} (hM : M ≤ n) (hc : n ≤ c) (W : World) : (Instr.slice 24 (.slice (some ⟨g, off, none⟩) n c) (some (.int .i64 (M : Int))) none none).run Try.prog W = .ok (.slice (some ⟨g, if c - M = 0 then off else off + M, none⟩) (n - M) (c - M)) W := by
  have hs : (sizeOf 5).run Try.prog W = .ok 1 W := by kernel_rfl
  have he : Try.prog.elem 24 = 5 := by kernel_rfl
  rw [run_slice_l (P := Try.prog) (w := W) 24 (some ⟨g, off, none⟩) n c (by rw [he]; exact Try.underlying24) .i64 (M : Int) (by omega) (by omega), he, hs]
  have e : (c = M) = (c - M = 0) := by apply propext; omega
  by_cases h : c - M = 0 <;> simp [Result.andThen, sliced, e, h, Addr.add]
theorem run_uptoB {g off n c M : Nat} (hM : M ≤ c) (hc : n ≤ c) (W : World) : (Instr.slice 24 (.slice (some ⟨g, off, none⟩) n c) none (some (.int .i64 (M : Int))) none).run Try.prog W = .ok (.slice (some ⟨g, off, none⟩) M c) W := by
  have hs : (sizeOf 5).run Try.prog W = .ok 1 W := by kernel_rfl
  have he : Try.prog.elem 24 = 5 := by kernel_rfl
  rw [run_slice_h (P := Try.prog) (w := W) 24 (some ⟨g, off, none⟩) n c (by rw [he]; exact Try.underlying24) .i64 (M : Int) (by omega) (by omega), he, hs]
  simp [Result.andThen, sliced, Addr.add]
/-- The count that bytes begin with. -/
def cn2 (l : List Int) : Nat := (l.getD 0 0 + 256 * l.getD 1 0).toNat
theorem countOf_at {l : List Int} {g off n c : Nat} {w : World} (h : Bys w (some ⟨g, off, none⟩) l) (hb : isB l) (hn : l.length = n) (h2 : 2 ≤ n) (hm : n ≤ 1048576) :
    Calls Try.prog 45 #[.slice (some ⟨g, off, none⟩) n c] w.drew fun e w' => e = .returned (.int .i64 (cn2 l : Int)) ∧ Below w.heap.size w w' := by
  have g0 := isB_getD hb 0
  have g1 := isB_getD hb 1
  refine (countOf_impl (w := w.drew) h hb hn h2 hm).mono ?_
  rintro e w' ⟨rfl, k, rfl⟩
  exact ⟨ret_numA (by unfold cn2; omega), bDrewN ((Below.refl _ _).drew) k⟩
set_option maxRecDepth 20000 in
set_option maxHeartbeats 8000000 in
theorem firstNums_bad {l : List Int} {g off n c : Nat} {w : World} (h : Bys w (some ⟨g, off, none⟩) l) (hb : isB l) (hn : l.length = n) (hc : n ≤ c) (hm : n ≤ 1048576) (hcm : c ≤ 9223372036854775807) (hq : n < 2 ∨ n < 2 + 8 * cn2 l) :
    Calls Try.prog 38 #[.slice (some ⟨g, off, none⟩) n c] w fun r w' => r = .returned (.tuple #[.slice none 0 0, .slice none 0 0, .bool false]) ∧ Below w.heap.size w w' := by
  by_cases h2 : n < 2
  · have i2 : (n : Int) < 2 := by omega
    clear h hb hn hq
    go_enter Try.func38, Try.ntmps38
    go_wp2
    refine bodyPost_ret (v := .tuple #[.slice none 0 0, .slice none 0 0, .bool false]) (by simp [results, Try.results38, go_sem]) rfl ⟨rfl, Below.refl _ _⟩
  · have i2 : ¬ (n : Int) < 2 := by omega
    have g0 := isB_getD hb 0
    have g1 := isB_getD hb 1
    have hq2 : cn2 l ≤ 65535 := by unfold cn2; omega
    have CC : Hid (Calls Try.prog 45 #[.slice (some ⟨g, off, none⟩) n c] w.drew fun e w' => e = .returned (.int .i64 (cn2 l : Int)) ∧ Below w.heap.size w w') := countOf_at h hb hn (by omega) hm
    have hl : ((n - 2 : Nat) : Int) < (cn2 l : Int) * 8 := by omega
    generalize cn2 l = q at *
    clear g0 g1 h hb hn hq
    have s2 : decide ((2 : Int) ≤ (n : Int)) = true := decide_eq_true (by omega)
    have t2 : (2 : Int) ≤ (n : Int) := by omega
    have u2 : 2 ≤ n := by omega
    have hl2 : (n : Int) - 2 < (q : Int) * 8 := by omega
    by_cases hz : c - 2 = 0
    all_goals
      go_enter Try.func38, Try.ntmps38
      go_wp2_with fail
      go_region_held3 (fun w' => True) (exact trivial) ((go_at_call 45; refine CC.out.mono ?_; rintro r w2 ⟨rfl, hw2⟩; have HW2 : Hid (Below w.heap.size w w2) := hw2; clear hw2))
      go_wp2
      refine bodyPost_ret (v := .tuple #[.slice none 0 0, .slice none 0 0, .bool false]) (by simp [results, Try.results38, go_sem]) rfl ⟨rfl, HW2.out⟩
/-- What firstNums answers of bytes that begin with a count and have as many numbers. -/
def NumsPost (w : World) (g n c : Nat) (l : List Int) (r : Ending) (w' : World) : Prop :=
  ∃ xa xc off' c', r = .returned (.tuple #[.slice xa (cn2 l) xc, .slice (some ⟨g, off', none⟩) (n - 2 - 8 * cn2 l) c', .bool true]) ∧ n - 2 - 8 * cn2 l ≤ c' ∧ c' ≤ c ∧ Bys w' (some ⟨g, off', none⟩) (l.drop (2 + 8 * cn2 l)) ∧ Piece w.heap.size w'.heap.size w' (.slice xa (cn2 l) xc) (numsW (l.drop 2) (cn2 l)) ∧ Below w.heap.size w w'
set_option maxRecDepth 20000 in
set_option maxHeartbeats 8000000 in
theorem firstNums_good {l : List Int} {g off n c : Nat} {w : World} (h : Bys w (some ⟨g, off, none⟩) l) (hb : isB l) (hn : l.length = n) (hc : n ≤ c) (hm : n ≤ 1048576) (hcm : c ≤ 9223372036854775807) (h2 : 2 ≤ n) (hq : 2 + 8 * cn2 l ≤ n) :
    Calls Try.prog 38 #[.slice (some ⟨g, off, none⟩) n c] w fun r w' => NumsPost w g n c l r w' := by
  have i2 : ¬ (n : Int) < 2 := by omega
  have H : Hid (Bys w (some ⟨g, off, none⟩) l) := h
  have HB : Hid (isB l) := hb
  have HN : Hid (l.length = n) := hn
  have CC : Hid (Calls Try.prog 45 #[.slice (some ⟨g, off, none⟩) n c] w.drew fun e w' => e = .returned (.int .i64 (cn2 l : Int)) ∧ Below w.heap.size w w') := countOf_at h hb hn h2 hm
  have CN : Hid (∀ (W : World) (o2 c' : Nat), Below w.heap.size w W → Bys w (some ⟨g, o2, none⟩) (l.drop 2) → 8 * cn2 l ≤ c' → c' ≤ 9223372036854775807 → Calls Try.prog 46 #[.slice (some ⟨g, o2, none⟩) (cn2 l * 8) c'] W fun e w' => e = .returned (.slice (some ⟨W.heap.size, 0, none⟩) (cn2 l) (cn2 l)) ∧ Piece W.heap.size w'.heap.size w' (.slice (some ⟨W.heap.size, 0, none⟩) (cn2 l) (cn2 l)) (numsW (l.drop 2) (cn2 l)) ∧ Below W.heap.size W w') := fun W o2 c' hW hB2 h1 h3 => by
    have e : numsW ((l.drop 2).take (8 * cn2 l)) (cn2 l) = numsW (l.drop 2) (cn2 l) := by
      unfold numsW
      apply List.map_congr_left
      intro k hk
      rw [List.mem_range] at hk
      unfold numW
      rw [List.drop_take, List.take_take, show min 8 (8 * cn2 l - 8 * k) = 8 by omega]
    have := numsOf_impl ((hB2.keep hW).take (8 * cn2 l)) (isB_take (isB_drop HB.out 2) _) (by rw [List.length_take, List.length_drop, HN.out]; omega) h1 (by omega) h3
    rw [e] at this
    rw [Nat.mul_comm (cn2 l) 8]
    exact this
  have B2 : Hid (Bys w (some ⟨g, off + 2, none⟩) (l.drop 2)) := h.drop 2
  have B3 : Hid (Bys w (some ⟨g, off + 2 + cn2 l * 8, none⟩) (l.drop (2 + 8 * cn2 l))) := by
    have := (h.drop 2).drop (cn2 l * 8)
    rw [List.drop_drop, Nat.mul_comm (cn2 l) 8] at this
    rw [Nat.mul_comm (cn2 l) 8]
    exact this
  have EZ : Hid (∀ (o : Nat) (W : World), n - 2 - 8 * cn2 l = 0 → Bys W (some ⟨g, o, none⟩) (l.drop (2 + 8 * cn2 l))) := fun o W h => .inl (List.drop_eq_nil_of_le (by rw [hn]; omega))
  have EY : Hid (∀ (o : Nat) (W : World), n - 2 = 0 → Bys W (some ⟨g, o, none⟩) (l.drop 2)) := fun o W h => .inl (List.drop_eq_nil_of_le (by rw [hn]; omega))
  unfold NumsPost
  clear h hb hn
  generalize numsW (l.drop 2) (cn2 l) = NL at *
  generalize cn2 l = q at *
  have hl : ¬ ((n - 2 : Nat) : Int) < (q : Int) * 8 := by omega
  have t2 : (2 : Int) ≤ (n : Int) := by omega
  have hl2 : ¬ (n : Int) - 2 < (q : Int) * 8 := by omega
  have q8 : (q : Int) * 8 ≤ (n : Int) - 2 := by omega
  have q9 : q * 8 ≤ n - 2 := by omega
  have q7 : ((q * 8 : Nat) : Int) = (q : Int) * 8 := by omega
  have HS : ∀ W, (Instr.slice 24 (.slice (some ⟨g, off, none⟩) n c) (some (.int .i64 2)) none none).run Try.prog W = .ok (.slice (some ⟨g, if c - 2 = 0 then off else off + 2, none⟩) (n - 2) (c - 2)) W := fun W => run_fromB (M := 2) h2 hc W
  obtain ⟨o2, ho2⟩ : ∃ o2, o2 = if c - 2 = 0 then off else off + 2 := ⟨_, rfl⟩
  rw [← ho2] at HS
  have B2' : Hid (Bys w (some ⟨g, o2, none⟩) (l.drop 2)) := by
    show Bys _ _ _
    rw [ho2]
    split
    · exact EY.out _ _ (by omega)
    · exact B2.out
  have HS1 : ∀ W, (Instr.slice 24 (.slice (some ⟨g, o2, none⟩) (n - 2) (c - 2)) none (some (.int .i64 ((q : Int) * 8))) none).run Try.prog W = .ok (.slice (some ⟨g, o2, none⟩) (q * 8) (c - 2)) W := fun W => by rw [← q7]; exact run_uptoB (by omega) (by omega) W
  have HS2 : ∀ W, (Instr.slice 24 (.slice (some ⟨g, o2, none⟩) (n - 2) (c - 2)) (some (.int .i64 ((q : Int) * 8))) none none).run Try.prog W = .ok (.slice (some ⟨g, if c - 2 - q * 8 = 0 then o2 else o2 + q * 8, none⟩) (n - 2 - q * 8) (c - 2 - q * 8)) W := fun W => by rw [← q7]; exact run_fromB (by omega) (by omega) W
  obtain ⟨o3, ho3⟩ : ∃ o3, o3 = if c - 2 - q * 8 = 0 then o2 else o2 + q * 8 := ⟨_, rfl⟩
  rw [← ho3] at HS2
  have B3' : Hid (Bys w (some ⟨g, o3, none⟩) (l.drop (2 + 8 * q))) := by
    show Bys _ _ _
    rw [ho3]
    split
    · exact EZ.out _ _ (by omega)
    · rename_i hne
      rw [ho2, if_neg (by omega)]
      exact B3.out
  clear ho2 ho3 B2 B3 EZ EY H HB HN
  obtain ⟨nm, hnm⟩ : ∃ nm, nm = n - 2 := ⟨_, rfl⟩
  obtain ⟨cm, hcm2⟩ : ∃ cm, cm = c - 2 := ⟨_, rfl⟩
  have NM : Hid (nm = n - 2 ∧ cm = c - 2 ∧ 2 + 8 * q ≤ n ∧ n ≤ c ∧ c ≤ 9223372036854775807) := ⟨hnm, hcm2, hq, hc, hcm⟩
  rw [← hnm, ← hcm2] at HS HS1 HS2
  have hl3 : ¬ (nm : Int) < (q : Int) * 8 := by omega
  have hq3 : q ≤ 131072 := by omega
  have hnm3 : nm ≤ 1048576 := by omega
  have hwr : IntKind.i64.wrap ((q : Int) * 8) = (q : Int) * 8 := by rw [IntKind.wrap_i64]; omega
  clear hl hl2 q8 q9 hq hc hcm hnm hcm2 t2
  go_enter Try.func38, Try.ntmps38
  go_wp2_with fail
  go_region_held3 (fun w' => True) (exact trivial) ((go_at_call 45; refine CC.out.mono ?_; rintro r w2 ⟨rfl, hw2⟩; have HW2 : Hid (Below w.heap.size w w2) := hw2; clear hw2))
  go_wp2_with fail
  go_region_held3 (fun w' => True) (exact trivial) ((go_at_call 46; refine (CN.out _ _ _ (HW2.out.drew) B2'.out (by have := NM.out; omega) (by have := NM.out; omega)).mono ?_; rintro r w3 ⟨rfl, hp, hw3⟩; have HW3 : Hid (Below w.heap.size w w3) := bTrans HW2.out.drew hw3; have PP : Hid (Piece w.heap.size w3.heap.size w3 (.slice (some ⟨w2.heap.size, 0, none⟩) q q) NL) := hp.mono HW2.out.size (Nat.le_refl _); clear hp hw3))
  all_goals
    go_wp2
    obtain ⟨e1, e2, e3, e4, e5⟩ := NM.out
    exact bodyPost_ret (v := .tuple #[.slice (some ⟨w2.heap.size, 0, none⟩) q q, .slice (some ⟨g, o3, none⟩) (nm - q * 8) (cm - q * 8), .bool true]) (by simp [results, Try.results38, go_sem]) rfl ⟨_, _, o3, cm - q * 8, by rw [Nat.mul_comm 8 q, e1], by omega, by omega, B3'.out.keep HW3.out, PP.out, HW3.out⟩
end Go.Proofs.Ythmmeapokhfdiaa
