/-
  Walks: the program's shapeAhead.
-/
import Derived.Test.YtonkiipdobpfgaaSubB
import Derived.Test.YtonkiipdobpfgaaArdM
import Derived.Test.YtonkiipdobpfgaaLaw3
namespace Go.Proofs.Ytonkiipdobpfgaa
open Go.RowKit
set_option linter.unusedVariables false
set_option linter.unusedSimpArgs false
/-- The first k of q numbers, told by f, lie in block o. -/
def RowN (w0 : World) (o q k : Nat) (W : World) (f : Nat → Int) : Prop :=
  ∃ A : Array Value, W.heap[o]? = some (.cells A 3 (0, 0)) ∧ A.size = q ∧ (∀ i, i < k → A[i]? = some (.int .i64 (f i))) ∧ Below o w0 W
theorem RowN.put {w0 W W' : World} {o q k : Nat} {f : Nat → Int} (h : RowN w0 o q k W f) (hb : Below W.heap.size W W') (hk : k < q) : RowN w0 o q (k + 1) (W'.setCell ⟨o, k, none⟩ (.int .i64 (f k))) f := by
  obtain ⟨A, h1, h2, h3, h4⟩ := h
  have h1' : W'.heap[o]? = some (.cells A 3 (0, 0)) := by rw [hb.block o (lt_of_heapA h1)]; exact h1
  refine ⟨_, heap_setCell_same W' o k _ _ _ h1', by simpa using h2, fun i hi => ?_, below_setCell (h4.trans (hb.mono (Nat.le_of_lt (lt_of_heapA h1)))) (Nat.le_refl _) _ _⟩
  rw [Array.getElem?_setIfInBounds]
  by_cases e : i = k
  · subst e; rw [if_pos rfl, if_pos (by omega)]
  · rw [if_neg (by omega)]; exact h3 i (by omega)
theorem RowN.cell {w0 W W' : World} {o q k : Nat} {f : Nat → Int} (h : RowN w0 o q k W f) (hb : Below W.heap.size W W') (hk : k < q) : (∃ u, W'.cell? ⟨o, k, none⟩ = some u) ∧ W'.frozen? ⟨o, k, none⟩ = false := by
  obtain ⟨A, h1, h2, h3, h4⟩ := h
  have h1' : W'.heap[o]? = some (.cells A 3 (0, 0)) := by rw [hb.block o (lt_of_heapA h1)]; exact h1
  exact ⟨⟨A[k]'(by omega), cell_at h1' (Array.getElem?_eq_getElem (by omega))⟩, free_at h1' _⟩
theorem RowN.piece {w0 W : World} {o q : Nat} {f : Nat → Int} (h : RowN w0 o q q W f) : Piece o W.heap.size W (.slice (some ⟨o, 0, none⟩) q q) ((List.range q).map f) := by
  obtain ⟨A, h1, h2, h3, h4⟩ := h
  refine ⟨_, q, by simp, by simp, .inr ⟨o, 0, A, _, rfl, Nat.le_refl _, lt_of_heapA h1, h1, fun k hk => ?_⟩⟩
  simp at hk
  rw [Nat.zero_add, h3 k hk]
  simp [hk]
set_option maxRecDepth 20000 in
set_option maxHeartbeats 8000000 in
theorem shapeAhead_bad {b : List Int} {a : Option Addr} {n c : Nat} {w : World} (h : Bys w a b) (hb : isB b) (hn : b.length = n) (hc : n ≤ c) (hm : n ≤ 1048576) (hcm : c ≤ 9223372036854775807) (hq : n < offB b) :
    Calls Try.prog 32 #[.slice a n c] w fun r w' => r = .returned (.tuple #[.slice none 0 0, .slice none 0 0, .bool false]) ∧ Below w.heap.size w w' := by
  by_cases h0 : n = 0
  · subst h0
    clear h hb hn hq
    go_enter Try.func32, Try.ntmps32
    go_wp2
    refine bodyPost_ret (v := .tuple #[.slice none 0 0, .slice none 0 0, .bool false]) (by simp [results, Try.results32, go_sem]) rfl ⟨rfl, Below.refl _ _⟩
  · obtain ⟨g, off, rfl, hg, c0⟩ := h.at (k := 0) (by omega)
    rw [Nat.add_zero] at c0
    have b0 := isB_getD hb 0
    obtain ⟨q, hqe⟩ : ∃ q, q = rkB b := ⟨_, rfl⟩
    have en : b.getD 0 0 = (q : Int) := by unfold rkB at hqe; omega
    have q255 : q ≤ 255 := by omega
    have EO : offB b = 1 + 2 * q := by rw [hqe]; rfl
    rw [EO] at hq
    rw [en] at c0
    have HS : ∀ W, (Instr.slice 26 (.slice (some ⟨g, off, none⟩) n c) (some (.int .i64 1)) none none).run Try.prog W = .ok (.slice (some ⟨g, if c - 1 = 0 then off else off + 1, none⟩) (n - 1) (c - 1)) W := fun W => run_fromB (M := 1) (by omega) hc W
    obtain ⟨o2, ho2⟩ : ∃ o2, o2 = if c - 1 = 0 then off else off + 1 := ⟨_, rfl⟩
    rw [← ho2] at HS
    have SK : Hid (∀ W, Below w.heap.size w W → W.cell? ⟨g, off, none⟩ = some (.int .u8 (q : Int))) := fun W hb => (hb.cell (p := ⟨g, off, none⟩) hg).trans c0
    obtain ⟨w1, hw1⟩ : ∃ w1, w1 = w.drew.alloc (.cells (vals (List.replicate q 0)) 3) := ⟨_, rfl⟩
    have r1 : (Instr.makeSlice 22 (.int .i64 (q : Int)) (.int .i64 (q : Int))).run Try.prog w.drew = .ok (.slice (some ⟨w.heap.size, 0, none⟩) q q) w1 := by rw [hw1]; exact make_ints q (by omega) w.drew
    have T1 : Hid (Below w.heap.size w w1) := by rw [hw1]; exact bAlloc ((Below.refl _ _).drew) _
    have i0 : ¬ ((n : Int) = 0) := by omega
    have i1 : ((n : Int) == 0) = false := by simpa using i0
    have k0 : 0 < n := by omega
    have j1 : (1 : Int) ≤ (n : Int) := by omega
    have wn : IntKind.i64.wrap (q : Int) = (q : Int) := by rw [IntKind.wrap_i64]; omega
    have lt9 : (n : Int) - 1 < (q : Int) * 2 := by omega
    have lt8 : ((n - 1 : Nat) : Int) < (q : Int) * 2 := by omega
    clear h hb hn en c0 hg ho2 hqe EO hw1 b0
    go_enter Try.func32, Try.ntmps32
    go_wp2_with fail
    go_region_held3 (fun w' => w'.cell? ⟨g, off, none⟩ = some (.int .u8 (q : Int)))
      ((refine SK.out _ ?_; first | with_reducible exact T1.out | with_reducible exact Below.refl _ _ | with_reducible exact (Below.refl _ _).drew))
      (fail)
    all_goals
      clear SK HS r1 wn
      go_wp2
      refine bodyPost_ret (v := .tuple #[.slice none 0 0, .slice none 0 0, .bool false]) (by simp [results, Try.results32, go_sem]) rfl ⟨rfl, T1.out⟩
/-- What shapeAhead answers of bytes that have as many as their rank tells. -/
def ShPost (w : World) (g n c : Nat) (b : List Int) (r : Ending) (w' : World) : Prop :=
  ∃ o' c', r = .returned (.tuple #[.slice (some ⟨w.heap.size, 0, none⟩) (rkB b) (rkB b), .slice (some ⟨g, o', none⟩) (n - offB b) c', .bool true]) ∧ n - offB b ≤ c' ∧ c' ≤ c ∧ Bys w (some ⟨g, o', none⟩) (b.drop (offB b)) ∧ Piece w.heap.size w'.heap.size w' (.slice (some ⟨w.heap.size, 0, none⟩) (rkB b) (rkB b)) (shB b) ∧ Below w.heap.size w w'
set_option maxRecDepth 20000 in
set_option maxHeartbeats 8000000 in
theorem shapeAhead_good {b : List Int} {g off n c : Nat} {w : World} (h : Bys w (some ⟨g, off, none⟩) b) (hb : isB b) (hn : b.length = n) (hc : n ≤ c) (hm : n ≤ 1048576) (hcm : c ≤ 9223372036854775807) (hq : offB b ≤ n) :
    Calls Try.prog 32 #[.slice (some ⟨g, off, none⟩) n c] w fun r w' => ShPost w g n c b r w' := by
  have h0 : 0 < n := by unfold offB at hq; omega
  obtain ⟨_, _, e, hg, c0⟩ := h.at (k := 0) (by omega)
  cases e
  rw [Nat.add_zero] at c0
  have b0 := isB_getD hb 0
  obtain ⟨q, hqe⟩ : ∃ q, q = rkB b := ⟨_, rfl⟩
  have en : b.getD 0 0 = (q : Int) := by unfold rkB at hqe; omega
  have q255 : q ≤ 255 := by omega
  have EO : offB b = 1 + 2 * q := by rw [hqe]; rfl
  have ES : shB b = (List.range q).map (dimB b) := by rw [hqe]; rfl
  unfold ShPost
  rw [EO, ES, ← hqe]
  rw [EO] at hq
  rw [en] at c0
  have H : Hid (Bys w (some ⟨g, off, none⟩) b) := h
  have HB : Hid (isB b) := hb
  have HN : Hid (b.length = n) := hn
  have HS : ∀ W, (Instr.slice 26 (.slice (some ⟨g, off, none⟩) n c) (some (.int .i64 1)) none none).run Try.prog W = .ok (.slice (some ⟨g, if c - 1 = 0 then off else off + 1, none⟩) (n - 1) (c - 1)) W := fun W => run_fromB (M := 1) (by omega) hc W
  obtain ⟨o2, ho2⟩ : ∃ o2, o2 = if c - 1 = 0 then off else off + 1 := ⟨_, rfl⟩
  rw [← ho2] at HS
  have B2 : Hid (Bys w (some ⟨g, o2, none⟩) (b.drop (1 + 2 * 0))) := by
    show Bys _ _ _
    rw [ho2]
    split
    · exact .inl (List.drop_eq_nil_of_le (by omega))
    · exact h.drop 1
  have SK : Hid (∀ W, Below w.heap.size w W → W.cell? ⟨g, off, none⟩ = some (.int .u8 (q : Int))) := fun W hb => (hb.cell (p := ⟨g, off, none⟩) hg).trans c0
  obtain ⟨w1, hw1⟩ : ∃ w1, w1 = w.drew.alloc (.cells (vals (List.replicate q 0)) 3) := ⟨_, rfl⟩
  have r1 : (Instr.makeSlice 22 (.int .i64 (q : Int)) (.int .i64 (q : Int))).run Try.prog w.drew = .ok (.slice (some ⟨w.heap.size, 0, none⟩) q q) w1 := by rw [hw1]; exact make_ints q (by omega) w.drew
  have T1 : Hid (RowN w w.heap.size q 0 w1 (dimB b)) := by rw [hw1]; exact ⟨_, heap_alloc_new w.drew _, by simp [vals], fun i hi => absurd hi (by omega), bAlloc ((Below.refl _ _).drew) _⟩
  have T2 : Hid (Below w.heap.size w w1) := by rw [hw1]; exact bAlloc ((Below.refl _ _).drew) _
  have i0 : ¬ ((n : Int) = 0) := by omega
  have i1 : ((n : Int) == 0) = false := by simpa using i0
  have j1 : (1 : Int) ≤ (n : Int) := by omega
  have wn : IntKind.i64.wrap (q : Int) = (q : Int) := by rw [IntKind.wrap_i64]; omega
  have lt9 : ¬ (n : Int) - 1 < (q : Int) * 2 := by omega
  have lt8 : ¬ ((n - 1 : Nat) : Int) < (q : Int) * 2 := by omega
  clear h hb hn en c0 hg ho2 hqe EO ES hw1 b0
  go_enter Try.func32, Try.ntmps32
  go_wp2_with fail
  go_region_held3 (fun w' => w'.cell? ⟨g, off, none⟩ = some (.int .u8 (q : Int)))
    ((refine SK.out _ ?_; first | with_reducible exact T2.out | with_reducible exact Below.refl _ _ | with_reducible exact (Below.refl _ _).drew))
    (fail)
  all_goals
    clear SK HS r1 wn
    go_wp2
    go_loopw [6, 26] (fun u i w' => ∃ (k o' c' : Nat), k ≤ q ∧ i = .int .i64 (k : Int) ∧ u = .slice (some ⟨g, o', none⟩) (n - (1 + 2 * k)) c' ∧ n - (1 + 2 * k) ≤ c' ∧ c' ≤ c ∧ Bys w (some ⟨g, o', none⟩) (b.drop (1 + 2 * k)) ∧ RowN w w.heap.size q k w' (dimB b)) (fun _ i _ => q - (intOf i).toNat)
    case atStart => exact ⟨0, o2, c - 1, by omega, rfl, rfl, by omega, by omega, B2.out, T1.out⟩
    case round =>
      obtain ⟨k, o', c', hk, rfl, rfl, hc1, hc2, hBy, hT⟩ := hrel
      have BY : Hid (Bys w (some ⟨g, o', none⟩) (b.drop (1 + 2 * k))) := hBy
      have TK : Hid (RowN w w.heap.size q k wr (dimB b)) := hT
      clear hBy hT T1 T2 B2
      by_cases hlt : (k : Int) < (q : Int)
      · have L : k < q := by omega
        have BW : Below w.heap.size w wr := by obtain ⟨_, _, _, _, x⟩ := TK.out; exact x
        have CO : Hid (Calls Try.prog 46 #[.slice (some ⟨g, o', none⟩) (n - (1 + 2 * k)) c'] wr fun e w' => e = .returned (.int .i64 (dimB b k)) ∧ Below wr.heap.size wr w') := by
          refine (countOf_impl (BY.out.keep BW) (isB_drop HB.out _) (by rw [List.length_drop, HN.out]) (by omega) (by omega)).mono ?_
          rintro e w' ⟨rfl, j, rfl⟩
          exact ⟨ret_numA (dimB_drop b k), bDrewN (Below.refl _ _) j⟩
        have PUT : Hid (∀ W, Below wr.heap.size wr W → RowN w w.heap.size q (k + 1) (W.setCell ⟨w.heap.size, k, none⟩ (.int .i64 (dimB b k))) (dimB b)) := fun W hW => TK.out.put hW L
        have EM : Hid (n - (1 + 2 * k) - 2 = n - (1 + 2 * (k + 1)) ∧ n - (1 + 2 * (k + 1)) ≤ c' - 2 ∧ c' - 2 ≤ c) := ⟨by omega, by omega, by omega⟩
        have HS2 : ∀ W, (Instr.slice 26 (.slice (some ⟨g, o', none⟩) (n - (1 + 2 * k)) c') (some (.int .i64 2)) none none).run Try.prog W = .ok (.slice (some ⟨g, if c' - 2 = 0 then o' else o' + 2, none⟩) (n - (1 + 2 * k) - 2) (c' - 2)) W := fun W => run_fromB (M := 2) (by omega) hc1 W
        obtain ⟨o3, ho3⟩ : ∃ o3, o3 = if c' - 2 = 0 then o' else o' + 2 := ⟨_, rfl⟩
        rw [← ho3] at HS2
        have B3 : Hid (Bys w (some ⟨g, o3, none⟩) (b.drop (1 + 2 * (k + 1)))) := by
          show Bys _ _ _
          rw [ho3]
          split
          · exact .inl (List.drop_eq_nil_of_le (by rw [HN.out]; omega))
          · have := BY.out.drop 2
            rw [List.drop_drop] at this
            exact this
        have m2 : (2 : Int) ≤ ((n - (1 + 2 * k) : Nat) : Int) := by omega
        have m3 : 2 ≤ n - (1 + 2 * k) := by omega
        clear ho3 BW
        generalize dimB b k = x at *
        generalize n - (1 + 2 * k) = m at *
        go_wp2_with fail
        refine CO.out.mono ?_
        rintro r w2 ⟨rfl, hb2⟩
        have PW : Hid (RowN w w.heap.size q (k + 1) (w2.setCell ⟨w.heap.size, k, none⟩ (.int .i64 x)) (dimB b)) := PUT.out _ hb2
        obtain ⟨⟨u0, d0⟩, f0⟩ := TK.out.cell hb2 L
        clear CO hb2 PUT
        go_wp2
        go_roundw
        case rel => exact ⟨k + 1, o3, c' - 2, by omega, by go_num, by rw [← EM.out.1], EM.out.2.1, EM.out.2.2, B3.out, PW.out⟩
        case measure => simp [intOf]; omega
      · obtain rfl : k = q := by omega
        have PP : Hid (Piece w.heap.size wr.heap.size wr (.slice (some ⟨w.heap.size, 0, none⟩) k k) ((List.range k).map (dimB b))) := TK.out.piece
        have BW : Hid (Below w.heap.size w wr) := by obtain ⟨_, _, _, _, x⟩ := TK.out; exact x
        have EM : Hid (n - (1 + 2 * k) ≤ c' ∧ c' ≤ c) := ⟨hc1, hc2⟩
        generalize hme : n - (1 + 2 * k) = m at *
        have HM : Hid (n - (1 + 2 * k) = m) := hme
        clear hme
        go_wp2
        exact bodyPost_ret (v := .tuple #[.slice (some ⟨w.heap.size, 0, none⟩) k k, .slice (some ⟨g, o', none⟩) m c', .bool true]) (by simp [results, Try.results32, go_sem]) rfl ⟨o', c', by rw [HM.out], by have := HM.out; have := EM.out.1; omega, EM.out.2, BY.out, PP.out, BW.out⟩
end Go.Proofs.Ytonkiipdobpfgaa
