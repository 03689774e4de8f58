/-
  Walks: bytes copied into memory of their own.
-/
import Derived.Test.YtonkiipdobpfgaaBytP
import Derived.Test.YtonkiipdobpfgaaReadM
import Derived.Test.YtonkiipdobpfgaaFrame
namespace Go.Proofs.Ytonkiipdobpfgaa
open Go.RowKit
set_option linter.unusedVariables false
set_option linter.unusedSimpArgs false
/-- The first k of n bytes are copied into block o. -/
def ToB (w0 : World) (o n k : Nat) (W : World) (l : List Int) : Prop :=
  ∃ A : Array Value, W.heap[o]? = some (.cells A 5 (0, 0)) ∧ A.size = n ∧ (∀ i, i < k → A[i]? = some (.int .u8 (l.getD i 0))) ∧ Below o w0 W
theorem ToB.put {w0 W : World} {o n k : Nat} {l : List Int} (h : ToB w0 o n k W l) (hk : k < n) : ToB w0 o n (k + 1) (W.setCell ⟨o, k, none⟩ (.int .u8 (l.getD k 0))) l := by
  obtain ⟨A, h1, h2, h3, h4⟩ := h
  refine ⟨_, heap_setCell_same W o k _ _ _ h1, by simpa using h2, fun i hi => ?_, below_setCell h4 (Nat.le_refl _) _ _⟩
  rw [Array.getElem?_setIfInBounds]
  by_cases e : i = k
  · subst e; rw [if_pos rfl, if_pos (by omega)]
  · rw [if_neg (by omega)]; exact h3 i (by omega)
theorem ToB.cell {w0 W : World} {o n k : Nat} {l : List Int} (h : ToB w0 o n k W l) (hk : k < n) : (∃ u, W.cell? ⟨o, k, none⟩ = some u) ∧ W.frozen? ⟨o, k, none⟩ = false := by
  obtain ⟨A, h1, h2, h3, h4⟩ := h
  exact ⟨⟨A[k]'(by omega), cell_at h1 (Array.getElem?_eq_getElem (by omega))⟩, free_at h1 _⟩
theorem make_bytes (n : Nat) (hn : n ≤ 1048576) (w : World) (l : List Int) : ∃ w', (Instr.makeSlice 26 (.int .i64 (n : Int)) (.int .i64 (n : Int))).run Try.prog w = .ok (.slice (some ⟨w.heap.size, 0, none⟩) n n) w' ∧ ToB w w.heap.size n 0 w' l := by
  have hi := info_u8
  cases hq : Try.prog.info? 5 with
  | none => rw [hq] at hi; cases hi
  | some i =>
    rw [hq] at hi
    simp at hi
    obtain ⟨z1, z2, z3⟩ := hi
    have q := run_make (P := Try.prog) w 26 5 i _ Try.underlying26 hq z1 .i64 .i64 (n : Int) (n : Int) (by omega) (by omega) (by rw [z3]; omega) (by omega)
    rw [z2, Int.toNat_natCast] at q
    exact ⟨_, q, _, heap_alloc_new w _, by rw [size_madeCells, Nat.mul_one], fun i hi => absurd hi (by omega), bAlloc (Below.refl _ _) _⟩
set_option maxRecDepth 20000 in
set_option maxHeartbeats 4000000 in
theorem toByteS_own {l : List Int} {a : Option Addr} {n c : Nat} {w : World} (h : Bys w a l) (hn : l.length = n) (hm : n ≤ 1048576) :
    Calls Try.prog 16 #[.slice a n c] w fun e w' => e = .returned (.slice (some ⟨w.heap.size, 0, none⟩) n n) ∧ BPiece w.heap.size w'.heap.size w' (.slice (some ⟨w.heap.size, 0, none⟩) n n) l ∧ Below w.heap.size w w' := by
  have H : Hid (Bys w a l) := h
  have HN : Hid (l.length = n) := hn
  obtain ⟨w1, r1, t1⟩ := make_bytes n hm w l
  have T1 : Hid (ToB w w.heap.size n 0 w1 l) := t1
  clear h hn t1
  go_enter Try.func16, Try.ntmps16
  go_wp2
  clear r1
  go_loopw [4] (fun i w' => ∃ k : Nat, k ≤ n ∧ i = .int .i64 (k : Int) ∧ ToB w w.heap.size n k w' l) (fun i _ => n - (intOf i).toNat)
  case atStart => exact ⟨0, by omega, rfl, T1.out⟩
  case round =>
    obtain ⟨k, hk, rfl, hT⟩ := hrel
    have TK : Hid (ToB w w.heap.size n k wr l) := hT
    clear hT T1
    by_cases hlt : (k : Int) < (n : Int)
    · have L : k < n := by omega
      have BW : Below w.heap.size w wr := by obtain ⟨_, _, _, _, q⟩ := TK.out; exact q
      obtain ⟨g, o, rfl, _, cx⟩ := (H.out.keep BW).at (k := k) (by rw [HN.out]; exact L)
      have PUT : Hid (ToB w w.heap.size n (k + 1) (wr.setCell ⟨w.heap.size, k, none⟩ (.int .u8 (l.getD k 0))) l) := TK.out.put L
      obtain ⟨⟨u0, c0⟩, f0⟩ := TK.out.cell L
      generalize l.getD k 0 = x at *
      clear BW
      go_wp2
      go_roundw
      case rel => exact ⟨k + 1, by omega, by go_num, PUT.out⟩
      case measure => simp [intOf]; omega
    · obtain rfl : k = n := by omega
      have PP : Hid (BPiece w.heap.size wr.heap.size wr (.slice (some ⟨w.heap.size, 0, none⟩) k k) l ∧ Below w.heap.size w wr) := by
        obtain ⟨A, h1, h2, h3, h4⟩ := TK.out
        refine ⟨⟨_, k, by rw [HN.out], .inr ⟨w.heap.size, 0, A, _, rfl, Nat.le_refl _, lt_of_heapA h1, h1, fun i hi => ?_⟩⟩, h4⟩
        rw [Nat.zero_add]; exact h3 i (by rw [← HN.out]; exact hi)
      go_wp2
      go_ret
      exact ⟨rfl, PP.out.1, PP.out.2⟩
/-- The bytes of a row that was handed in. -/
theorem bys_of_row {w : World} {a : Option Addr} {len cap : Nat} {zs : List Int} (h : IsRow .u8 w a len cap zs) : ∃ l, l.length = len ∧ isB l ∧ Bys w a l := by
  rcases h with ⟨rfl, rfl, rfl, rfl⟩ | ⟨⟨b, off, spot⟩, rfl, hl, hm, hz, hcell, hwz⟩
  · exact ⟨[], rfl, fun x hx => by simp at hx, .inl rfl⟩
  · refine ⟨zs.take len, by rw [List.length_take]; omega, fun x hx => ?_, ?_⟩
    · have hw := hwz x (List.mem_of_mem_take hx)
      simp [Lit.wf, IntKind.min, IntKind.max, IntKind.signed, IntKind.bits] at hw
      omega
    · by_cases h0 : len = 0
      · exact .inl (by rw [h0]; rfl)
      · have hc := hcell 0 (by omega)
        have hspot : spot = none := by simpa [Addr.add] using World.cell?_spot hc
        subst hspot
        refine .inr ⟨b, off, rfl, ?_, fun k hk => ?_⟩
        · by_cases hb : b < w.heap.size
          · exact hb
          · have : w.heap[b]? = none := Array.getElem?_eq_none (by omega)
            simp [Addr.add, World.cell?, this] at hc
        · rw [List.length_take] at hk
          have hadd : (⟨b, off, none⟩ : Addr).add k = ⟨b, off + k, none⟩ := by unfold Addr.add; split <;> simp_all
          rw [← hadd, hcell k (by omega)]
          simp [List.getD_eq_getElem?_getD, List.getElem?_take, show k < len by omega]
theorem bys_of_piece {P Q : Nat} {w : World} {a : Option Addr} {n c : Nat} {l : List Int} (h : BPiece P Q w (.slice a n c) l) (hn : l.length = n) : Bys w a l := by
  obtain ⟨a', c', e, hy⟩ := h.bys
  cases e
  exact hy
end Go.Proofs.Ytonkiipdobpfgaa
