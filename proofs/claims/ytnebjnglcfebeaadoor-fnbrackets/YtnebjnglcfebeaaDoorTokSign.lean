/-
  Walks: which bytes are signs, the specification's l8Sign and the program's isSign.
-/
import Derived.Test.YtnebjnglcfebeaaDoorBase
import Derived.Test.YtnebjnglcfebeaaDoorTokM
import Derived.Lib.OthersKept
namespace Go.Proofs.YtnebjnglcfebeaaDoor
open Go.RowKit
set_option linter.unusedVariables false
set_option maxRecDepth 20000 in
set_option maxHeartbeats 1000000 in
/-- l8Sign. -/
theorem sign_spec (x : Int) (w : World) : Calls Tryd.prog 49 #[.int .i64 x] w fun e w' => e = .returned (.bool (signB x)) ∧ w' = w := by
  have HG : Hid (Signs ⟨#[43, 45, 42, 37, 124, 38, 94, 61, 60, 62, 126, 105, 35, 44, 116, 100, 114, 122, 64, 63, 103, 36, 101, 47, 92, 46, 111]⟩) := signs_are
  go_enter Tryd.func49, Tryd.ntmps49
  go_wp2
  generalize (ByteArray.mk #[43, 45, 42, 37, 124, 38, 94, 61, 60, 62, 126, 105, 35, 44, 116, 100, 114, 122, 64, 63, 103, 36, 101, 47, 92, 46, 111]) = s at *
  have HZ : Hid (s.size = 27) := HG.out.size
  have hz : s.size ≤ 27 := by have := HG.out.size; omega
  go_loop [4] (fun i => ∃ k : Nat, k ≤ 27 ∧ i = .int .i64 (k : Int) ∧ (signL.take k).contains x = false) (fun i => 27 - (intOf i).toNat)
  case atStart => exact ⟨0, by omega, rfl, rfl⟩
  case round =>
    obtain ⟨k, hk, rfl, hn⟩ := hrel
    have HN : Hid ((signL.take k).contains x = false) := hn
    clear hn
    by_cases hlt : k < s.size
    · have HA : Hid (((s[k]'hlt).toNat : Int) = signL.getD k 0) := HG.out.at' k hlt
      have hlo := HG.out.low k hlt
      have L : k < 27 := by have := HZ.out; omega
      by_cases he : ((s[k]'hlt).toNat : Int) = x
      · have HV : Hid (signB x = true) := signHas L (HA.out.symm.trans he)
        go_wp2
        go_ret
        exact ⟨by rw [HV.out]; rfl, rfl⟩
      · have HT : Hid ((signL.take (k + 1)).contains x = false) := by
          show _ = _
          rw [signTake L, HN.out, ← HA.out]
          simpa using he
        go_wp2
        go_round
        case rel => exact ⟨k + 1, by omega, by go_num, HT.out⟩
        case measure => simp [intOf]; omega
    · have HV : Hid (signB x = false) := signNone (by have := HN.out; have q := HZ.out; rwa [show k = 27 by omega] at this)
      go_wp2
      go_ret
      exact ⟨by rw [HV.out]; rfl, rfl⟩
/-- What is known of a text: its bytes are those numbers, all below 128. -/
structure Among (s : ByteArray) (L : List Int) : Prop where
  size : s.size = L.length
  at' : ∀ k (h : k < s.size), ((s[k]'h).toNat : Int) = L.getD k 0
  low : ∀ k (h : k < s.size), (s[k]'h).toNat < 128
theorem amongHas {L : List Int} {k : Nat} (h : k < L.length) {x : Int} (e : L.getD k 0 = x) : L.contains x = true := by
  rw [List.contains_eq_mem]
  simp only [decide_eq_true_eq]
  rw [← e, List.getD_eq_getElem?_getD, List.getElem?_eq_getElem h]
  exact List.getElem_mem _
theorem Signs.among {s : ByteArray} (h : Signs s) : Among s signL := ⟨by rw [h.size, signL_len], h.at', h.low⟩
set_option maxRecDepth 20000 in
set_option maxHeartbeats 1000000 in
/-- isAmong. -/
theorem among_impl {s : ByteArray} {L : List Int} (hg : Among s L) (hL : L.length ≤ 100) (x : Int) (w : World) : Calls Tryd.prog 74 #[.string s, .int .i64 x] w fun e w' => e = .returned (.bool (L.contains x)) ∧ Below w.heap.size w w' := by
  have HG : Hid (Among s L) := hg
  have HZ : Hid (s.size = L.length) := hg.size
  have hz : s.size ≤ 100 := by have := hg.size; omega
  clear hg hL
  go_enter Tryd.func74, Tryd.ntmps74
  go_wp2
  go_loopw [] (fun wr => ∃ k : Nat, k ≤ s.size ∧ wr.heap[w.heap.size]? = some (.stringIter s k) ∧ (L.take k).contains x = false ∧ Below w.heap.size w wr) (fun wr => s.size - wr.iterPos w.heap.size)
  case atStart =>
    refine ⟨0, by omega, ?_, rfl, (Below.refl _ _).alloc (Nat.le_refl _) _⟩
    have := World.iter_heap w s 0
    simpa using this
  case round =>
    obtain ⟨k, hk, hit, hn, hb⟩ := hrel
    have HN : Hid ((L.take k).contains x = false) := hn
    have HB : Hid (Below w.heap.size w wr) := hb
    have HI : Hid (wr.heap[w.heap.size]? = some (.stringIter s k)) := hit
    clear hn hb
    by_cases hlt : k < s.size
    · have HA : Hid (((s[k]'hlt).toNat : Int) = L.getD k 0) := HG.out.at' k hlt
      have hlo := HG.out.low k hlt
      have hnx : ∀ ty, (Instr.next (.pointer (some ⟨w.heap.size, 0, none⟩)) true ty).run Tryd.prog wr = _ := fun ty => Lib.run_next_ascii_at wr w.heap.size s k ty hit hlt hlo
      have HB2 : Hid (Below w.heap.size w (wr.iterAt w.heap.size s (k + 1))) := Lib.below_iterAt HB.out (Nat.le_refl _) s (k + 1)
      have HI2 : Hid ((wr.iterAt w.heap.size s (k + 1)).heap[w.heap.size]? = some (.stringIter s (k + 1))) := Lib.iterAt_heap wr w.heap.size s k (k + 1) hit
      have L1 : Hid (k < L.length) := by have := HZ.out; show _ < _; omega
      clear hit
      by_cases he : ((s[k]'hlt).toNat : Int) = x
      · have HV : Hid (L.contains x = true) := amongHas L1.out (HA.out.symm.trans he)
        go_wp2
        go_ret
        exact ⟨by rw [HV.out]; rfl, HB2.out⟩
      · have HT : Hid ((L.take (k + 1)).contains x = false) := by
          show _ = _
          rw [take_has L1.out, HN.out, ← HA.out]
          simpa using he
        go_wp2
        go_roundw
        case rel => exact ⟨k + 1, by omega, HI2.out, HT.out, HB2.out⟩
        case measure => simp only [World.iterPos, HI2.out, HI.out]; omega
    · have HV : Hid (L.contains x = false) := by
        have := HN.out; have q := HZ.out
        rw [show k = L.length by omega, List.take_length] at this
        exact this
      have hnx : ∀ ty, (Instr.next (.pointer (some ⟨w.heap.size, 0, none⟩)) true ty).run Tryd.prog wr = _ := fun ty => Lib.run_next_end_at wr w.heap.size s k ty hit hlt
      clear hit
      go_wp2
      go_ret
      exact ⟨by rw [HV.out]; rfl, HB.out⟩
set_option maxRecDepth 20000 in
set_option maxHeartbeats 1000000 in
/-- isSign. -/
theorem sign_impl (x : Int) (w : World) : Calls Tryd.prog 60 #[.int .i64 x] w fun e w' => e = .returned (.bool (signB x)) ∧ Below w.heap.size w w' := by
  have HA : Hid (∀ W, Calls Tryd.prog 74 #[.string ⟨#[43, 45, 42, 37, 124, 38, 94, 61, 60, 62, 126, 105, 35, 44, 116, 100, 114, 122, 64, 63, 103, 36, 101, 47, 92, 46, 111]⟩, .int .i64 x] W fun e w' => e = .returned (.bool (signB x)) ∧ Below W.heap.size W w') := fun W => among_impl signs_are.among (by rw [signL_len]; omega) x W
  go_enter Tryd.func60, Tryd.ntmps60
  go_wp2_with fail
  refine (HA.out _).mono ?_
  rintro r w1 ⟨rfl, hb⟩
  have HB : Hid (Below w.heap.size w w1) := hb
  clear hb
  go_wp2
  go_ret
  exact ⟨rfl, HB.out⟩
set_option maxHeartbeats 1000000 in
/-- isLetter. -/
theorem letter_impl (x : Int) (w : World) : Calls Tryd.prog 59 #[.int .i64 x] w fun e w' => e = .returned (.bool (decide (0 ≤ x) && decide (x ≤ 25))) ∧ w' = w := by
  obtain ⟨q, hq⟩ : ∃ q, q = (decide (0 ≤ x) && decide (x ≤ 25)) := ⟨_, rfl⟩
  rw [← hq]
  by_cases h0 : 0 ≤ x
  · by_cases h1 : x < 26
    · have HQ : Hid (q = true) := by show _ = _; rw [hq]; simp; omega
      clear hq
      go_enter Tryd.func59, Tryd.ntmps59
      go_wp2
      go_ret
      exact ⟨by rw [HQ.out]; rfl, rfl⟩
    · have HQ : Hid (q = false) := by show _ = _; rw [hq]; simp; omega
      clear hq
      go_enter Tryd.func59, Tryd.ntmps59
      go_wp2
      go_ret
      exact ⟨by rw [HQ.out]; rfl, rfl⟩
  · have HQ : Hid (q = false) := by show _ = _; rw [hq]; simp; omega
    clear hq
    go_enter Tryd.func59, Tryd.ntmps59
    go_wp2
    go_ret
    exact ⟨by rw [HQ.out]; rfl, rfl⟩
end Go.Proofs.YtnebjnglcfebeaaDoor
