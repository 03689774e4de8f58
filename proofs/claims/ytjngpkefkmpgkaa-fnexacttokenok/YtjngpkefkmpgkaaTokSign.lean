/-
  Walks: which bytes are signs, the specification's l8Sign and the program's isSign.
-/
import Derived.Test.YtjngpkefkmpgkaaBase
import Derived.Test.YtjngpkefkmpgkaaTokM
import Derived.Lib.OthersKept
namespace Go.Proofs.Ytjngpkefkmpgkaa
open Go.RowKit
set_option linter.unusedVariables false
set_option maxRecDepth 20000 in
set_option maxHeartbeats 1000000 in
/-- l8Sign. -/
theorem sign_spec (x : Int) (w : World) : Calls Try.prog 9 #[.int .i64 x] w fun e w' => e = .returned (.bool (signB x)) ∧ w' = w := by
  have HG : Hid (Signs ⟨#[43, 45, 42, 37, 124, 38, 94, 61, 60, 62, 126, 105, 35, 44, 116, 100, 114, 122, 64, 63, 103, 36, 101, 47, 92, 46, 111]⟩) := signs_are
  go_enter Try.func9, Try.ntmps9
  go_wp2
  generalize (ByteArray.mk #[43, 45, 42, 37, 124, 38, 94, 61, 60, 62, 126, 105, 35, 44, 116, 100, 114, 122, 64, 63, 103, 36, 101, 47, 92, 46, 111]) = s at *
  have HZ : Hid (s.size = 27) := HG.out.size
  have hz : s.size ≤ 27 := by have := HG.out.size; omega
  go_loop [4] (fun i => ∃ k : Nat, k ≤ 27 ∧ i = .int .i64 (k : Int) ∧ (signL.take k).contains x = false) (fun i => 27 - (intOf i).toNat)
  case atStart => exact ⟨0, by omega, rfl, rfl⟩
  case round =>
    obtain ⟨k, hk, rfl, hn⟩ := hrel
    have HN : Hid ((signL.take k).contains x = false) := hn
    clear hn
    by_cases hlt : k < s.size
    · have HA : Hid (((s[k]'hlt).toNat : Int) = signL.getD k 0) := HG.out.at' k hlt
      have hlo := HG.out.low k hlt
      have L : k < 27 := by have := HZ.out; omega
      by_cases he : ((s[k]'hlt).toNat : Int) = x
      · have HV : Hid (signB x = true) := signHas L (HA.out.symm.trans he)
        go_wp2
        go_ret
        exact ⟨by rw [HV.out]; rfl, rfl⟩
      · have HT : Hid ((signL.take (k + 1)).contains x = false) := by
          show _ = _
          rw [signTake L, HN.out, ← HA.out]
          simpa using he
        go_wp2
        go_round
        case rel => exact ⟨k + 1, by omega, by go_num, HT.out⟩
        case measure => simp [intOf]; omega
    · have HV : Hid (signB x = false) := signNone (by have := HN.out; have q := HZ.out; rwa [show k = 27 by omega] at this)
      go_wp2
      go_ret
      exact ⟨by rw [HV.out]; rfl, rfl⟩
set_option maxRecDepth 20000 in
set_option maxHeartbeats 1000000 in
/-- isSign. -/
theorem sign_impl (x : Int) (w : World) : Calls Try.prog 11 #[.int .i64 x] w fun e w' => e = .returned (.bool (signB x)) ∧ Below w.heap.size w w' := by
  have HG : Hid (Signs ⟨#[43, 45, 42, 37, 124, 38, 94, 61, 60, 62, 126, 105, 35, 44, 116, 100, 114, 122, 64, 63, 103, 36, 101, 47, 92, 46, 111]⟩) := signs_are
  go_enter Try.func11, Try.ntmps11
  go_wp2
  generalize (ByteArray.mk #[43, 45, 42, 37, 124, 38, 94, 61, 60, 62, 126, 105, 35, 44, 116, 100, 114, 122, 64, 63, 103, 36, 101, 47, 92, 46, 111]) = s at *
  have HZ : Hid (s.size = 27) := HG.out.size
  have hz : s.size ≤ 27 := by have := HG.out.size; omega
  go_loopw [] (fun wr => ∃ k : Nat, k ≤ 27 ∧ wr.heap[w.heap.size]? = some (.stringIter s k) ∧ (signL.take k).contains x = false ∧ Below w.heap.size w wr) (fun wr => 27 - wr.iterPos w.heap.size)
  case atStart =>
    refine ⟨0, by omega, ?_, rfl, (Below.refl _ _).alloc (Nat.le_refl _) _⟩
    have := World.iter_heap w s 0
    simpa using this
  case round =>
    obtain ⟨k, hk, hit, hn, hb⟩ := hrel
    have HN : Hid ((signL.take k).contains x = false) := hn
    have HB : Hid (Below w.heap.size w wr) := hb
    have HI : Hid (wr.heap[w.heap.size]? = some (.stringIter s k)) := hit
    clear hn hb
    by_cases hlt : k < s.size
    · have HA : Hid (((s[k]'hlt).toNat : Int) = signL.getD k 0) := HG.out.at' k hlt
      have hlo := HG.out.low k hlt
      have hnx : ∀ ty, (Instr.next (.pointer (some ⟨w.heap.size, 0, none⟩)) true ty).run Try.prog wr = _ := fun ty => Lib.run_next_ascii_at wr w.heap.size s k ty hit hlt hlo
      have HB2 : Hid (Below w.heap.size w (wr.iterAt w.heap.size s (k + 1))) := Lib.below_iterAt HB.out (Nat.le_refl _) s (k + 1)
      have HI2 : Hid ((wr.iterAt w.heap.size s (k + 1)).heap[w.heap.size]? = some (.stringIter s (k + 1))) := Lib.iterAt_heap wr w.heap.size s k (k + 1) hit
      have L : k < 27 := by have := HZ.out; omega
      clear hit
      by_cases he : ((s[k]'hlt).toNat : Int) = x
      · have HV : Hid (signB x = true) := signHas L (HA.out.symm.trans he)
        go_wp2
        go_ret
        exact ⟨by rw [HV.out]; rfl, HB2.out⟩
      · have HT : Hid ((signL.take (k + 1)).contains x = false) := by
          show _ = _
          rw [signTake L, HN.out, ← HA.out]
          simpa using he
        go_wp2
        go_roundw
        case rel => exact ⟨k + 1, by omega, HI2.out, HT.out, HB2.out⟩
        case measure => simp only [World.iterPos, HI2.out, HI.out]; omega
    · have HV : Hid (signB x = false) := signNone (by have := HN.out; have q := HZ.out; rwa [show k = 27 by omega] at this)
      have hnx : ∀ ty, (Instr.next (.pointer (some ⟨w.heap.size, 0, none⟩)) true ty).run Try.prog wr = _ := fun ty => Lib.run_next_end_at wr w.heap.size s k ty hit hlt
      clear hit
      go_wp2
      go_ret
      exact ⟨by rw [HV.out]; rfl, HB.out⟩
end Go.Proofs.Ytjngpkefkmpgkaa
