/-
  Walks: a list of the call's own is marked, and what is marked is held.
-/
import Derived.Test.YtmlncpplkhlnfaaOwn
namespace Go.Proofs.Ytmlncpplkhlnfaa
open Go.RowKit
set_option linter.unusedVariables false
set_option linter.unusedSimpArgs false
theorem set_take (A : Array Value) (k : Nat) (v : Value) (h : k < A.size) : (A.setIfInBounds k v).toList.take (k + 1) = A.toList.take k ++ [v] := by
  apply List.ext_getElem?
  intro i
  by_cases e : i < k
  · rw [List.getElem?_take_of_lt (by omega), List.getElem?_append_left (by simp; omega), List.getElem?_take_of_lt e]
    simp [Array.getElem?_setIfInBounds, show ¬ k = i by omega]
  · by_cases e2 : i = k
    · subst e2
      rw [List.getElem?_take_of_lt (by omega), List.getElem?_append_right (by simp; omega)]
      simp [h, show min i A.size = i by omega]
    · rw [List.getElem?_eq_none (by simp; omega), List.getElem?_eq_none (by simp; omega)]
theorem upFrom_snoc (k0 : Int) (k : Nat) : (upFrom k0 (k + 1)).map (Value.int .i64) = (upFrom k0 k).map (Value.int .i64) ++ [.int .i64 (k0 + k)] := by
  simp [upFrom, List.range_succ]
set_option maxRecDepth 20000 in
set_option maxHeartbeats 1000000 in
theorem mark_block (A0 : Array Value) (g n c cap : Nat) (k0 : Int) (w : World) (hn : n ≤ 1048576) (hc : n ≤ cap) (p1 : 0 ≤ k0) (p2 : k0 ≤ 1099511627776) (h1 : w.heap[g]? = some (.cells A0 3 (0, 0))) (hs : A0.size = cap) :
    Calls Try.prog 20 #[.slice (some ⟨g, 0, none⟩) n c, .int .i64 k0] w fun e w' => e = .returned (.int .i64 (k0 + n)) ∧ (∃ A : Array Value, w'.heap[g]? = some (.cells A 3 (0, 0)) ∧ A.size = cap ∧ A.toList.take n = (upFrom k0 n).map (Value.int .i64)) ∧ But g w w' := by
  have H1 : Hid (w.heap[g]? = some (.cells A0 3 (0, 0))) := h1
  have HS : Hid (A0.size = cap) := hs
  clear h1 hs
  go_enter Try.func20, Try.ntmps20
  go_wp2
  go_loopw [1, 5] (fun q i w' => ∃ (k : Nat) (A : Array Value), k ≤ n ∧ i = .int .i64 k ∧ q = .int .i64 (k0 + k) ∧ w'.heap[g]? = some (.cells A 3 (0, 0)) ∧ A.size = cap ∧ A.toList.take k = (upFrom k0 k).map (Value.int .i64) ∧ But g w w') (fun _ i _ => n - (intOf i).toNat)
  case atStart => exact ⟨0, A0, by omega, rfl, by simp, H1.out, HS.out, by simp [upFrom], But.refl _ _⟩
  case round =>
    obtain ⟨k, A, hk, rfl, rfl, hg, hz, ht, hb⟩ := hrel
    have HG : Hid (wr.heap[g]? = some (.cells A 3 (0, 0))) := hg
    have HZ : Hid (A.size = cap) := hz
    have HT : Hid (A.toList.take k = (upFrom k0 k).map (Value.int .i64)) := ht
    have HB : Hid (But g w wr) := hb
    by_cases hlt : (k : Int) < (n : Int)
    · have L2 : k < A.size := by omega
      obtain ⟨z, hz'⟩ : ∃ z, wr.cell? ⟨g, k, none⟩ = some z := ⟨A[k], by simp [World.cell?, hg, L2]⟩
      have fz : wr.frozen? ⟨g, k, none⟩ = false := by simp [World.frozen?, hg]
      have HN : Hid ((wr.setCell ⟨g, k, none⟩ (.int .i64 (k0 + k))).heap[g]? = some (.cells (A.setIfInBounds k (.int .i64 (k0 + k))) 3 (0, 0))) := heap_setCell_same wr g k _ _ (.int .i64 (k0 + k)) hg
      have HT' : Hid ((A.setIfInBounds k (.int .i64 (k0 + k))).toList.take (k + 1) = (upFrom k0 (k + 1)).map (Value.int .i64)) := by
        show _ = _
        rw [set_take A k _ L2, upFrom_snoc, ht]
      clear hg hz ht hb L2
      go_wp2
      go_roundw
      case rel => exact ⟨k + 1, A.setIfInBounds k (.int .i64 (k0 + k)), by omega, by go_num, by go_num, HN.out, by rw [Array.size_setIfInBounds]; exact HZ.out, HT'.out, HB.out.setCell k _⟩
      case measure => simp [intOf]; omega
    · have e : k = n := by omega
      subst e
      clear hg hz ht hb
      go_wp2
      go_ret
      exact ⟨rfl, ⟨A, HG.out, HZ.out, HT.out⟩, HB.out⟩
set_option maxRecDepth 20000 in
set_option maxHeartbeats 1000000 in
theorem mark_none (k0 : Int) (w : World) :
    Calls Try.prog 20 #[.slice none 0 0, .int .i64 k0] w fun e w' => e = .returned (.int .i64 k0) ∧ w' = w := by
  go_enter Try.func20, Try.ntmps20
  go_wp2
  refine wp_loop_rounds 1 ?_
  rw [rounds_succ]
  go_wp2
  go_ret
  exact ⟨rfl, rfl⟩
/-- A list from block B on is marked: what lies below B stays. -/
theorem mark_new {B : Nat} {w : World} {v : Value} {l : List Int} (h : NewInts B w v l) (hn : l.length ≤ 1048576) (k0 : Int) (p1 : 0 ≤ k0) (p2 : k0 ≤ 1099511627776) (hB : B ≤ w.heap.size) :
    Calls Try.prog 20 #[v, .int .i64 k0] w fun e w' => e = .returned (.int .i64 (k0 + l.length)) ∧ NewInts B w' v (upFrom k0 l.length) ∧ Below B w w' := by
  obtain ⟨h1, h2⟩ := h
  rcases h2 with ⟨rfl, h0⟩ | ⟨g, cap, cur, rfl, hB', hg, hc, hm, hs, ht⟩
  · refine (mark_none k0 w).mono ?_
    rintro e w' ⟨rfl, rfl⟩
    refine ⟨by simp [h0], ⟨by simp, .inl ⟨rfl, by simp [upFrom_length, h0]⟩⟩, Below.refl _ _⟩
  · refine (mark_block cur g l.length cap cap k0 w hn hc p1 p2 hg (by omega)).mono ?_
    rintro e w' ⟨rfl, ⟨A, hA, hz, hT⟩, hb⟩
    refine ⟨rfl, ⟨by simp, .inr ⟨g, cap, A, by rw [upFrom_length], hB', hA, by rw [upFrom_length]; exact hc, hm, by omega, by rw [upFrom_length, Nat.mul_one]; exact hT⟩⟩, hb.below hB' hB⟩
/-- What is marked is held. -/
theorem held_new {B : Nat} {w : World} {v : Value} {n : Nat} (k0 : Int) (h : NewInts B w v (upFrom k0 n)) (hn : n ≤ 1048576) (p1 : 0 ≤ k0) (p2 : k0 ≤ 1099511627776) :
    Calls Try.prog 21 #[v, .int .i64 k0] w fun e w' => e = .returned (.int .i64 (k0 + n)) ∧ w' = w := by
  obtain ⟨a, c, rfl, hi⟩ := h.ints
  rw [upFrom_length]
  exact held_walk (upFrom k0 n) a n c k0 w hn p1 p2 hi (upFrom_length _ _) rfl
theorem NewInts.keep {B : Nat} {w w' : World} {v : Value} {l : List Int} (h : NewInts B w v l) (hb : Below w.heap.size w w') : NewInts B w' v l := by
  obtain ⟨h1, h2⟩ := h
  refine ⟨h1, ?_⟩
  rcases h2 with h2 | ⟨k, cap, cur, e, hk, hh, r⟩
  · exact .inl h2
  · exact .inr ⟨k, cap, cur, e, hk, by rw [hb.block k (Array.getElem?_eq_some_iff.1 hh).1]; exact hh, r⟩
theorem OwnInts.keepB {B g : Nat} {w w' : World} {l : List Int} (h : OwnInts w g l) (hb : Below B w w') (hg : g < B) : OwnInts w' g l := by
  unfold OwnInts at *
  rw [hb.block g hg]; exact h
theorem OwnInts.lt {g : Nat} {w : World} {l : List Int} (h : OwnInts w g l) : g < w.heap.size := (Array.getElem?_eq_some_iff.1 h).1
theorem OwnInts.keep {g : Nat} {w w' : World} {l : List Int} (h : OwnInts w g l) (hb : Below w.heap.size w w') : OwnInts w' g l := h.keepB hb h.lt
theorem OwnInts.but {g g' : Nat} {w w' : World} {l : List Int} (h : OwnInts w g l) (hb : But g' w w') (hn : g ≠ g') : OwnInts w' g l := by
  have hl := h.lt
  unfold OwnInts at *
  rw [hb.block g hl hn]; exact h
end Go.Proofs.Ytmlncpplkhlnfaa
