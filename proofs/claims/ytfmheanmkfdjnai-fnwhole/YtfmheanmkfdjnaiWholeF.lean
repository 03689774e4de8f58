/-
  Plain: all rows picked in order are the array, in the other order it is turned.
-/
import Derived.Test.YtfmheanmkfdjnaiTurnF
import Derived.Test.YtfmheanmkfdjnaiPickL
namespace Go.Proofs.Ytfmheanmkfdjnai
set_option linter.unusedVariables false
def upTo (n : Nat) : List Int := (List.range n).map (fun (i : Nat) => (i : Int))
theorem upTo_len (n : Nat) : (upTo n).length = n := by simp [upTo]
theorem upTo_at {n i : Nat} (h : i < n) : (upTo n).getD i 0 = (i : Int) := by simp [upTo, h]
theorem vec_ok6 {n : Nat} {l : List Int} (hn : n ≤ 300) (hl : l.length = n) (hx : ∀ i, i < n → ok (l.getD i 0) = true) : arrOk [(n : Int)] l = true := by
  have hz : sizeV [(n : Int)] = (n : Int) := by
    unfold sizeV
    have : prodV [(n : Int)] = (n : Int) := by rw [prodV_cons5]; simp [prodV]
    rw [if_neg (by simp), if_pos (by simp [dimOk]; omega), this, if_neg (by omega)]
  unfold arrOk
  rw [Bool.and_eq_true, hz, hl]
  refine ⟨by simp, ?_⟩
  rw [List.all_eq_true]
  intro y hy
  obtain ⟨j, hj, rfl⟩ := List.getElem_of_mem hy
  have := hx j (by omega)
  rw [List.getD_eq_getElem?_getD, List.getElem?_eq_getElem hj] at this
  simpa using this
theorem turn_up {n : Nat} (hn : n ≤ 300) : turnD [(n : Int)] (upTo n) = (List.range n).map (fun i => ((n - 1 - i : Nat) : Int)) := by
  unfold turnD
  rw [if_neg (by simp), show rowsN [(n : Int)] = n by simp [rowsN], List.map_eq_flatMap]
  refine flat_ext (fun i hi => ?_)
  unfold rowAt
  have e : rowN [(n : Int)] = 1 := by simp [rowN, sizeV, prodV]
  rw [e, Nat.mul_one]
  have hl : n - 1 - i < (upTo n).length := by rw [upTo_len]; omega
  rw [List.drop_eq_getElem_cons hl]
  simp [upTo]
/-- What comes of picking by a list of row numbers. -/
theorem pick_by {s d : List Int} (ho : arrOk s d = true) (hs : s ≠ []) {l : List Int} (σ : Nat → Nat) (hl : l.length = rowsN s) (hx : ∀ i, i < rowsN s → l.getD i 0 = ((σ i : Nat) : Int) ∧ σ i < rowsN s) :
    pickR [(rowsN s : Int)] l s d = (0, s, (List.range (rowsN s)).flatMap (fun i => rowAt s d (σ i))) := by
  obtain ⟨e1, e2⟩ := rowsN5 ho
  have hs3 := (sizeV_ok (arrOk_shape ho)).1
  have hv : arrOk [(rowsN s : Int)] l = true := vec_ok6 e1 hl (fun i hi => by
    obtain ⟨q1, q2⟩ := hx i hi
    rw [q1]; simp [ok]; omega)
  have hS : pickS [(rowsN s : Int)] s = s := by
    unfold pickS
    rw [List.singleton_append, ← e2]
    cases s with
    | nil => exact absurd rfl hs
    | cons y s => rfl
  have hno : ∀ i, i < rowsN s → noRow (rowsN s : Int) (l.getD i 0) = false := fun i hi => by
    obtain ⟨q1, q2⟩ := hx i hi
    rw [q1]; exact noRow_false.2 ⟨by omega, by omega⟩
  rw [pickR_told hv ho, if_neg (show ¬ (s = [] ∨ 4 < [(rowsN s : Int)].length + s.length) from fun q => q.elim hs (fun q => by simp at q; omega)), e2, if_neg (by rw [any_none.2 (fun j hj => hno j (by omega))]; decide), hS, if_neg (by have := arrOk_shape ho; omega)]
  congr 2
  unfold pickD
  rw [hl, e2]
  refine flat_ext (fun i hi => ?_)
  obtain ⟨q1, q2⟩ := hx i hi
  have := (rowNo_bd (hno i hi)).2
  rw [q1, if_neg (by omega)] at this
  rw [q1]
  congr 1
  omega
theorem whole_ok {s d : List Int} (ho : arrOk s d = true) (hs : s ≠ []) :
    iotaR [] [s.getD 0 0] = (0, [s.getD 0 0], upTo (rowsN s)) ∧ turnR [s.getD 0 0] (upTo (rowsN s)) = (0, [s.getD 0 0], turnD [s.getD 0 0] (upTo (rowsN s))) ∧
    pickR [s.getD 0 0] (upTo (rowsN s)) s d = (0, s, d) ∧ pickR [s.getD 0 0] (turnD [s.getD 0 0] (upTo (rowsN s))) s d = (0, s, turnD s d) ∧ turnR s d = (0, s, turnD s d) := by
  obtain ⟨e1, e2⟩ := rowsN5 ho
  rw [e2]
  have hu : arrOk [(rowsN s : Int)] (upTo (rowsN s)) = true := vec_ok6 e1 (upTo_len _) (fun i hi => by rw [upTo_at hi]; simp [ok]; omega)
  have h1 : arrOk [] [(rowsN s : Int)] = true := by
    have : ok (rowsN s : Int) = true := by simp [ok]; omega
    simp [arrOk, sizeV, prodV, this]
  refine ⟨?_, ?_, ?_, ?_, ?_⟩
  · unfold iotaR iotaC
    rw [if_pos h1, if_neg (by simp), show ([(rowsN s : Int)]).getD 0 0 = (rowsN s : Int) from rfl, if_neg (by omega), if_neg (by omega), mkR_good, Int.toNat_natCast]
    rfl
  · unfold turnR okC; rw [if_pos hu]; rfl
  · rw [pick_by ho hs (fun i => i) (upTo_len _) (fun i hi => ⟨upTo_at hi, hi⟩), all_rows ho hs]
  · rw [turn_up e1, pick_by ho hs (fun i => rowsN s - 1 - i) (by simp) (fun i hi => ⟨by simp [hi], by omega⟩)]
    congr 2
    unfold turnD
    rw [if_neg hs]
  · unfold turnR okC; rw [if_pos ho]; rfl
end Go.Proofs.Ytfmheanmkfdjnai
