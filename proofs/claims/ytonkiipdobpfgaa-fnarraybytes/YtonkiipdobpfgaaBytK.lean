/-
  Lists of bytes, marked and looked at.
-/
import Derived.Test.YtonkiipdobpfgaaByt
import Derived.Test.YtonkiipdobpfgaaPiece
namespace Go.Proofs.Ytonkiipdobpfgaa
open Go.RowKit
set_option linter.unusedVariables false
set_option linter.unusedSimpArgs false
/-- What marks leave: the numbers from k on, as bytes. -/
def upB (k : Int) (n : Nat) : List Int := (List.range n).map fun (i : Nat) => IntKind.u8.wrap (k + (i : Int))
theorem upB_length (k : Int) (n : Nat) : (upB k n).length = n := by simp [upB]
theorem upB_at {k : Int} {n i : Nat} (h : i < n) : (upB k n).getD i 0 = IntKind.u8.wrap (k + (i : Int)) := by simp [upB, h]
set_option maxRecDepth 20000 in
set_option maxHeartbeats 1000000 in
theorem markB_at (cur0 : Array Value) (t : TypeId) (g off n c : Nat) (k0 : Int) (w : World) (hn : n ≤ 1048576) (p1 : 0 ≤ k0) (p2 : k0 ≤ 1099511627776) (h1 : w.heap[g]? = some (.cells cur0 t (0, 0))) (hs : off + n ≤ cur0.size) :
    Calls Try.prog 13 #[.slice (some ⟨g, off, none⟩) n c, .int .i64 k0] w fun e w' => e = .returned (.int .i64 (k0 + n)) ∧ (∃ A : Array Value, w'.heap[g]? = some (.cells A t (0, 0)) ∧ (∀ i, i < n → A[off + i]? = some (.int .u8 (IntKind.u8.wrap (k0 + i)))) ∧ ∀ i, (i < off ∨ off + n ≤ i) → A[i]? = cur0[i]?) ∧ But g w w' ∧ w'.heap.size = w.heap.size := by
  have H1 : Hid (w.heap[g]? = some (.cells cur0 t (0, 0))) := h1
  have HS : Hid (off + n ≤ cur0.size) := hs
  clear h1 hs
  go_enter Try.func13, Try.ntmps13
  go_wp2
  go_loopw [1, 5] (fun q i w' => ∃ (k : Nat) (A : Array Value), k ≤ n ∧ i = .int .i64 k ∧ q = .int .i64 (k0 + k) ∧ w'.heap[g]? = some (.cells A t (0, 0)) ∧ (A.size = cur0.size ∧ (∀ i, i < k → A[off + i]? = some (.int .u8 (IntKind.u8.wrap (k0 + i)))) ∧ ∀ i, (i < off ∨ off + n ≤ i) → A[i]? = cur0[i]?) ∧ But g w w' ∧ w'.heap.size = w.heap.size) (fun _ i _ => n - (intOf i).toNat)
  case atStart => exact ⟨0, cur0, by omega, rfl, by simp, H1.out, ⟨rfl, fun i hi => by omega, fun _ _ => rfl⟩, But.refl _ _, rfl⟩
  case round =>
    obtain ⟨k, A, hk, rfl, rfl, hg, hA, hb, hz⟩ := hrel
    have HG : Hid (wr.heap[g]? = some (.cells A t (0, 0))) := hg
    have HA : Hid (A.size = cur0.size ∧ (∀ i, i < k → A[off + i]? = some (.int .u8 (IntKind.u8.wrap (k0 + i)))) ∧ ∀ i, (i < off ∨ off + n ≤ i) → A[i]? = cur0[i]?) := hA
    have HB : Hid (But g w wr ∧ wr.heap.size = w.heap.size) := ⟨hb, hz⟩
    by_cases hlt : (k : Int) < (n : Int)
    · have L2 : off + k < A.size := by have := hA.1; have := HS.out; omega
      obtain ⟨z, hz'⟩ : ∃ z, wr.cell? ⟨g, off + k, none⟩ = some z := ⟨A[off + k], by simp [World.cell?, hg, L2]⟩
      have fz : wr.frozen? ⟨g, off + k, none⟩ = false := by simp [World.frozen?, hg]
      have HN : Hid ((wr.setCell ⟨g, off + k, none⟩ (.int .u8 (IntKind.u8.wrap (k0 + k)))).heap[g]? = some (.cells (A.setIfInBounds (off + k) (.int .u8 (IntKind.u8.wrap (k0 + k)))) t (0, 0))) := heap_setCell_same wr g (off + k) _ _ (.int .u8 (IntKind.u8.wrap (k0 + k))) hg
      have HA' : Hid ((A.setIfInBounds (off + k) (.int .u8 (IntKind.u8.wrap (k0 + k)))).size = cur0.size ∧ (∀ i, i < k + 1 → (A.setIfInBounds (off + k) (.int .u8 (IntKind.u8.wrap (k0 + k))))[off + i]? = some (.int .u8 (IntKind.u8.wrap (k0 + i)))) ∧ ∀ i, (i < off ∨ off + n ≤ i) → (A.setIfInBounds (off + k) (.int .u8 (IntKind.u8.wrap (k0 + k))))[i]? = cur0[i]?) := by
        refine ⟨by rw [Array.size_setIfInBounds]; exact hA.1, fun i hi => ?_, fun i hi => ?_⟩
        · rw [Array.getElem?_setIfInBounds]
          by_cases e : i = k
          · subst e; simp [L2]
          · rw [if_neg (by omega)]; exact hA.2.1 i (by omega)
        · rw [Array.getElem?_setIfInBounds, if_neg (by omega)]; exact hA.2.2 i hi
      have HZ : Hid ((wr.setCell ⟨g, off + k, none⟩ (.int .u8 (IntKind.u8.wrap (k0 + k)))).heap.size = w.heap.size) := by show _ = _; rw [← hz]; simp [World.setCell]
      clear hg hA hb L2 hz
      go_wp2
      go_roundw
      case rel => exact ⟨k + 1, A.setIfInBounds (off + k) (.int .u8 (IntKind.u8.wrap (k0 + k))), by omega, by go_num, by go_num, HN.out, HA'.out, HB.out.1.setCell (off + k) _, HZ.out⟩
      case measure => simp [intOf]; omega
    · have e : k = n := by omega
      subst e
      clear hg hA hb hz
      go_wp2
      go_ret
      exact ⟨rfl, ⟨A, HG.out, HA.out.2⟩, HB.out.1, HB.out.2⟩
set_option maxHeartbeats 2000000 in
theorem heldB_walk (l : List Int) (a : Option Addr) (n c : Nat) (k0 : Int) (w : World) (hn : n ≤ 1048576) (p1 : 0 ≤ k0) (p2 : k0 ≤ 1099511627776) (h1 : Bys w a l) (e1 : l.length = n) (he : l = upB k0 n) :
    Calls Try.prog 14 #[.slice a n c, .int .i64 k0] w fun e w' => e = .returned (.int .i64 (k0 + n)) ∧ w' = w := by
  have H1 : Hid (Bys w a l) := h1
  have E1 : Hid (l.length = n) := e1
  have HE : Hid (l = upB k0 n) := he
  clear h1 e1 he
  go_enter Try.func14, Try.ntmps14
  go_wp2
  go_loop [1, 5] (fun q i => ∃ k : Nat, k ≤ n ∧ i = .int .i64 k ∧ q = .int .i64 (k0 + k)) (fun _ i => n - (intOf i).toNat)
  case atStart => exact ⟨0, by omega, rfl, by simp⟩
  case round =>
    obtain ⟨k, hk, rfl, rfl⟩ := hrel
    by_cases hlt : (k : Int) < (n : Int)
    · have L1 : k < l.length := by have := E1.out; omega
      obtain ⟨b1, o1, rfl, hb1, c1⟩ := H1.out.at L1
      have eq : l.getD k 0 = IntKind.u8.wrap (k0 + (k : Int)) := by rw [HE.out]; exact upB_at (by omega)
      rw [eq] at c1
      clear L1 eq
      go_wp2
      go_round
      case rel => exact ⟨k + 1, by omega, by go_num, by go_num⟩
      case measure => simp [intOf]; omega
    · have e : k = n := by omega
      subst e
      go_wp2
      go_ret
      exact ⟨rfl, rfl⟩
theorem markB_nil (a : Option Addr) (c : Nat) (k0 : Int) (w : World) :
    Calls Try.prog 13 #[.slice a 0 c, .int .i64 k0] w fun e w' => e = .returned (.int .i64 k0) ∧ w' = w := by
  go_enter Try.func13, Try.ntmps13
  go_wp2
  refine wp_loop_rounds 1 ?_
  rw [rounds_succ]
  go_wp2
  go_ret
  exact ⟨rfl, rfl⟩
end Go.Proofs.Ytonkiipdobpfgaa
