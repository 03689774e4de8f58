/-
  Several walks, one behind the other: RotF, FlipM, TurnF, LookQ, PickL, WholeF, GradedF, BoolI, SpecOne, SpecEach1, SpecGrade, Lays, OutB, OutQ, MapI, OutQ2, LookM, ImplArr1, ImplArr2, ImplPlace, ImplShape, ImplArr3, ImplRows1, ImplBack, InHeld, ImplLook1, ImplPlaces, LookL, ImplPlac2, RavelF, FoundF, GradeF, ImplAsc, ImplGrade, SortI, ImplMake1, ImplMake3.
-/
import Derived.Test.YthjjjnapcbkhjaaSpecMake6
import Derived.Test.YthjjjnapcbkhjaaRowsF
import Derived.Test.YthjjjnapcbkhjaaMakeP
import Derived.Test.YthjjjnapcbkhjaaMakeM
import Derived.Test.YthjjjnapcbkhjaaGradeR
import Derived.Test.YthjjjnapcbkhjaaLaw3
import Derived.Test.YthjjjnapcbkhjaaSmall
import Derived.Test.YthjjjnapcbkhjaaEachP
import Derived.Test.YthjjjnapcbkhjaaSpecCopy
import Derived.Test.YthjjjnapcbkhjaaSpecArr
import Derived.Test.YthjjjnapcbkhjaaSpecArr2
import Derived.Test.YthjjjnapcbkhjaaGrow
import Derived.Test.YthjjjnapcbkhjaaSpecMake1
import Derived.Shelf.Sort.Plain
import Derived.Test.YthjjjnapcbkhjaaProg
import Derived.Test.YthjjjnapcbkhjaaArrs
import Derived.Maps.OwnSet
import Derived.Maps.Views
import Derived.Test.YthjjjnapcbkhjaaArrM
import Derived.Test.YthjjjnapcbkhjaaArr
import Derived.Test.YthjjjnapcbkhjaaNumOk
import Derived.Test.YthjjjnapcbkhjaaImplShape0
import Derived.Test.YthjjjnapcbkhjaaAppend
import Derived.Laws.StructEq
import Derived.RangeFuncNested
import Derived.RangeFuncBound
import Derived.RangeFuncCalls
import Derived.RangeFuncLeaves
import Derived.Shelf.Abstract
import Derived.Shelf.RegionOpen
import Derived.WalkKit
import Derived.OwnWalkIn
import Derived.TacticsInMore
import Derived.LoopNIn
import Derived.LoopIn
import Derived.Test.YthjjjnapcbkhjaaRowsI
import Derived.Deep.RegionHeld3
import Derived.Test.YthjjjnapcbkhjaaEachM
import Derived.Test.YthjjjnapcbkhjaaCutI
import Derived.Maps.RangeWalk
import Derived.Sort.OwnSortedInts
namespace Go.Proofs.Ythjjjnapcbkhjaa
set_option linter.unusedVariables false
theorem flat_at {N : Nat} {g : Nat → List Int} (k : Nat) : ∀ n, k < n → (∀ i, i < n → (g i).length = N) → (((List.range n).flatMap g).drop (k * N)).take N = g k ∧ ((List.range n).flatMap g).length = n * N := by
  intro n
  induction n with
  | zero => intro h; omega
  | succ n ih =>
    intro hk hg
    have hl : ∀ m, m ≤ n + 1 → ((List.range m).flatMap g).length = m * N := by
      intro m
      induction m with
      | zero => intro _; simp
      | succ m im => intro hm; rw [List.range_succ, List.flatMap_append, List.length_append, im (by omega), Nat.add_mul, Nat.one_mul]; simp [hg m (by omega)]
    refine ⟨?_, hl _ (Nat.le_refl _)⟩
    rw [List.range_succ, List.flatMap_append]
    have e : List.flatMap g [n] = g n := by simp
    rw [e]
    have h1 := hl n (by omega)
    by_cases hkn : k < n
    · obtain ⟨q, _⟩ := ih hkn (fun i hi => hg i (by omega))
      have hle : k * N + N ≤ n * N := by
        have : (k + 1) * N ≤ n * N := Nat.mul_le_mul_right N (by omega)
        rw [Nat.add_mul, Nat.one_mul] at this; exact this
      rw [List.drop_append_of_le_length (by omega), List.take_append_of_le_length (by rw [List.length_drop]; omega)]
      exact q
    · obtain rfl : k = n := by omega
      rw [← h1, List.drop_left, List.take_of_length_le (by rw [hg k (by omega)]; exact Nat.le_refl _)]
theorem rot_code {s d t f : List Int} (h : (rotateR s d t f).1 = 0) : (arrOk s d = true ∧ arrOk t f = true) ∧ d.length = 1 ∧ (rotateR s d t f).2.1 = t ∧ (rotateR s d t f).2.2 = rotateD (d.getD 0 0) t f := by
  unfold rotateR at h ⊢
  rw [mkR_code] at h
  rw [h, mkR_good]
  unfold oneC at h
  by_cases q : arrOk s d = true ∧ arrOk t f = true
  · rw [if_pos q] at h
    by_cases l : d.length ≠ 1
    · rw [if_pos l] at h; cases h
    · exact ⟨q, by simpa using l, rfl, rfl⟩
  · rw [if_neg q] at h; cases h
theorem rot_bad {s d t f : List Int} (h : (rotateR s d t f).1 ≠ 0) : (rotateR s d t f).2.2.length = 0 := by
  unfold rotateR at h ⊢
  rw [mkR_code] at h
  rw [mkR_bad h]; rfl
theorem rot_none {t f : List Int} {x : Int} (h : t = [] ∨ t.getD 0 0 = 0) : rotateD x t f = f := by unfold rotateD; rw [if_pos h]
theorem rowAt_len {t f : List Int} (ho : arrOk t f = true) (ht : t ≠ []) {i : Nat} (hi : i < rowsN t) : (rowAt t f i).length = rowN t := by
  have h := rows5 ho ht
  have : (i + 1) * rowN t ≤ rowsN t * rowN t := Nat.mul_le_mul_right _ (by omega)
  rw [Nat.add_mul, Nat.one_mul] at this
  unfold rowAt
  simp
  omega
theorem rot_rows {t f : List Int} (x : Int) (ho : arrOk t f = true) (hn : ¬ (t = [] ∨ t.getD 0 0 = 0)) :
    ∃ n : Nat, t.getD 0 0 = (n : Int) ∧ 0 < n ∧ n ≤ 300 ∧ (rowsF t f).length = 2 * n ∧ (rowsF t (rotateD x t f)).length = 2 * n ∧
      (Int.tmod (Int.tmod x n + n) n) = ((rotateBy x n : Nat) : Int) ∧ rotateBy x n < n ∧ (-(n : Int) < Int.tmod x n ∧ Int.tmod x n < n) ∧
      ∀ k, k < n → (rowsF t (rotateD x t f)).getD (2 * k) [] = (rowsF t f).getD (2 * ((k + rotateBy x n) % n)) [] ∧ (rowsF t (rotateD x t f)).getD (2 * k + 1) [] = (rowsF t f).getD (2 * ((k + rotateBy x n) % n) + 1) [] := by
  have ht : t ≠ [] := fun h => hn (.inl h)
  have h0 : t.getD 0 0 ≠ 0 := fun h => hn (.inr h)
  have hb := head_bd ho
  have hr : t.getD 0 0 = (rowsN t : Int) := by unfold rowsN; omega
  have hp : 0 < rowsN t := by omega
  have hlen : ∀ i, i < rowsN t → (rowAt t f ((i + rotateBy x (rowsN t)) % rowsN t)).length = rowN t := fun i _ => rowAt_len ho ht (Nat.mod_lt _ hp)
  have hD : rotateD x t f = (List.range (rowsN t)).flatMap (fun i => rowAt t f ((i + rotateBy x (rowsN t)) % rowsN t)) := by unfold rotateD; rw [if_neg hn]
  have hoD : arrOk t (rotateD x t f) = true := by
    have hz := arrOk_size ho
    have hl := (flat_at 0 (rowsN t) hp hlen).2
    rw [← hD, rows5 ho ht] at hl
    have hf : f.all ok = true := by unfold arrOk at ho; rw [Bool.and_eq_true] at ho; exact ho.2
    unfold arrOk
    rw [Bool.and_eq_true, hl]
    refine ⟨by simpa using hz, ?_⟩
    rw [List.all_eq_true] at hf ⊢
    intro y hy
    rw [hD, List.mem_flatMap] at hy
    obtain ⟨i, _, hy⟩ := hy
    exact hf y (List.mem_of_mem_drop (List.mem_of_mem_take hy))
  obtain ⟨q1, q2, q3⟩ := turn_num (x := x) hp
  have hF : ∀ e, arrOk t e = true → rowsF t e = (List.range (rowsN t)).flatMap (fun i => [t.drop 1, rowAt t e i]) := by
    intro e he
    unfold rowsF
    rw [if_pos ⟨he, ht⟩]; rfl
  refine ⟨rowsN t, hr, hp, by omega, ?_, ?_, q1, q2, q3, fun k hk => ?_⟩
  · rw [rowsF_length, if_pos ⟨ho, ht⟩]; rfl
  · rw [rowsF_length, if_pos ⟨hoD, ht⟩]; rfl
  · have a1 := flat2_at (rowsN t) k (fun _ => t.drop 1) (fun i => rowAt t (rotateD x t f) i) hk
    have a2 := flat2_at (rowsN t) ((k + rotateBy x (rowsN t)) % rowsN t) (fun _ => t.drop 1) (fun i => rowAt t f i) (Nat.mod_lt _ hp)
    rw [hF _ hoD, hF _ ho]
    rw [a1.1, a1.2, a2.1, a2.2]
    refine ⟨rfl, ?_⟩
    have := (flat_at k (rowsN t) hk hlen).1
    rw [← hD] at this
    exact this
end Go.Proofs.Ythjjjnapcbkhjaa
namespace Go.Proofs.Ythjjjnapcbkhjaa
set_option linter.unusedVariables false
theorem prod_rev {s : List Int} (h : s.length ≤ 3) : prodV s.reverse = prodV s := by
  rcases len3 h with rfl | ⟨x, rfl⟩ | ⟨x, y, rfl⟩ | ⟨x, y, z, rfl⟩
  · rfl
  · rfl
  · show prodV [y, x] = _
    rw [prod2, prod2, Int.mul_comm]
  · show prodV [z, y, x] = _
    rw [prod3, prod3, Int.mul_comm (z * y) x, Int.mul_comm z y, Int.mul_assoc]
theorem size_rev {s : List Int} (h : 0 ≤ sizeV s) : sizeV s.reverse = sizeV s := by
  obtain ⟨k1, _, _, _⟩ := sizeV_ok h
  unfold sizeV
  rw [List.length_reverse, List.all_reverse, prod_rev k1]
theorem zip_rev {s m : List Int} (h : s.length ≤ 3) (e : m.length = s.length) : s.zip m.reverse = (s.reverse.zip m).reverse := by
  rcases len3 h with rfl | ⟨x, rfl⟩ | ⟨x, y, rfl⟩ | ⟨x, y, z, rfl⟩
  · simp
  · match m, e with
    | [a], _ => rfl
  · match m, e with
    | [a, b], _ => rfl
  · match m, e with
    | [a, b, c], _ => rfl
theorem flip_place {s d : List Int} (ho : arrOk s d = true) (i : Nat) (hi : i < d.length) :
    0 ≤ placeV s (indexV s.reverse (i : Int)).reverse ∧ placeV s (indexV s.reverse (i : Int)).reverse < (d.length : Int) ∧ (indexV s.reverse (i : Int)).length ≤ 1000 := by
  have hs := arrOk_shape ho
  have z := arrOk_size ho
  have r := size_rev hs
  obtain ⟨k1, k2, k3, k4⟩ := sizeV_ok hs
  obtain ⟨q1, q2⟩ := place_of_index (s := s.reverse) (p := (i : Int)) (by omega) (by omega) (by omega)
  have hl := indexV_len s.reverse (i : Int)
  generalize indexV s.reverse (i : Int) = m at *
  rw [List.length_reverse] at q1
  have hin : inOk (s.reverse.zip m) = true := by
    unfold placeV at q2
    by_cases h1 : sizeV s.reverse < 0 ∨ m.length ≠ s.reverse.length
    · rw [if_pos h1] at q2; omega
    · rw [if_neg h1] at q2
      by_cases h2 : inOk (s.reverse.zip m) = true
      · exact h2
      · rw [if_neg h2] at q2; omega
  have hin2 : inOk (s.zip m.reverse) = true := by
    rw [zip_rev k1 q1]
    unfold inOk at hin ⊢
    rw [List.all_reverse]
    exact hin
  have e : placeV s m.reverse = hor (s.zip m.reverse) := by
    unfold placeV
    rw [if_neg (by rw [List.length_reverse]; omega), if_pos hin2]
  obtain ⟨p1, p2⟩ := hor_lt _ hin2
  have ef : (s.zip m.reverse).map Prod.fst = s := by
    rw [List.map_fst_zip]
    rw [List.length_reverse]; omega
  rw [ef] at p2
  rw [e]
  omega
end Go.Proofs.Ythjjjnapcbkhjaa
namespace Go.Proofs.Ythjjjnapcbkhjaa
set_option linter.unusedVariables false
theorem rows_join (d : List Int) (N : Nat) : ∀ n, (List.range n).flatMap (fun i => (d.drop (i * N)).take N) = d.take (n * N) := by
  intro n
  induction n with
  | zero => simp
  | succ n ih =>
    rw [List.range_succ, List.flatMap_append, ih, Nat.add_mul, Nat.one_mul, List.take_add]
    simp
theorem all_rows {s d : List Int} (ho : arrOk s d = true) (hs : s ≠ []) : (List.range (rowsN s)).flatMap (fun i => rowAt s d i) = d := by
  have h := rows_join d (rowN s) (rowsN s)
  rw [rows5 ho hs, List.take_length] at h
  exact h
/-- Rows chosen by a rule: what comes is right, and its rows are those. -/
theorem chosen_rows {s d : List Int} (ho : arrOk s d = true) (hs : s ≠ []) (σ : Nat → Nat) (hσ : ∀ i, i < rowsN s → σ i < rowsN s) :
    arrOk s ((List.range (rowsN s)).flatMap (fun i => rowAt s d (σ i))) = true ∧ ∀ k, k < rowsN s → rowAt s ((List.range (rowsN s)).flatMap (fun i => rowAt s d (σ i))) k = rowAt s d (σ k) := by
  have hl : ∀ i, i < rowsN s → (rowAt s d (σ i)).length = rowN s := fun i hi => rowAt_len ho hs (hσ i hi)
  constructor
  · have hz := arrOk_size ho
    have hd : d.all ok = true := by unfold arrOk at ho; rw [Bool.and_eq_true] at ho; exact ho.2
    have hlen : ((List.range (rowsN s)).flatMap (fun i => rowAt s d (σ i))).length = d.length := by
      by_cases h0 : rowsN s = 0
      · have := rows5 ho hs
        rw [h0] at this ⊢
        simp at this ⊢
        omega
      · rw [← rows5 ho hs]; exact (flat_at 0 (rowsN s) (by omega) hl).2
    unfold arrOk
    rw [Bool.and_eq_true, hlen]
    refine ⟨by simpa using hz, ?_⟩
    rw [List.all_eq_true] at hd ⊢
    intro y hy
    rw [List.mem_flatMap] at hy
    obtain ⟨i, _, hy⟩ := hy
    exact hd y (List.mem_of_mem_drop (List.mem_of_mem_take hy))
  · intro k hk
    exact (flat_at k (rowsN s) hk hl).1
theorem flat_ext {n : Nat} {f g : Nat → List Int} (h : ∀ i, i < n → f i = g i) : (List.range n).flatMap f = (List.range n).flatMap g := by
  induction n with
  | zero => rfl
  | succ n ih => rw [List.range_succ, List.flatMap_append, List.flatMap_append, ih (fun i hi => h i (by omega))]; simp [h n (by omega)]
theorem turn_ok {s d : List Int} (ho : arrOk s d = true) : arrOk s (turnD s d) = true ∧ turnD s (turnD s d) = d := by
  by_cases hs : s = []
  · unfold turnD; rw [if_pos hs, if_pos hs]; exact ⟨ho, rfl⟩
  · have e : ∀ x, turnD s x = (List.range (rowsN s)).flatMap (fun i => rowAt s x (rowsN s - 1 - i)) := fun x => by unfold turnD; rw [if_neg hs]
    obtain ⟨q1, q2⟩ := chosen_rows ho hs (fun i => rowsN s - 1 - i) (fun i hi => by omega)
    rw [← e d] at q1 q2
    refine ⟨q1, ?_⟩
    rw [e (turnD s d), flat_ext (g := fun i => rowAt s d i) (fun i hi => by rw [q2 _ (by omega)]; congr 1; omega)]
    exact all_rows ho hs
theorem rot_ok {t f : List Int} (x : Int) (ho : arrOk t f = true) : arrOk t (rotateD x t f) = true ∧ rotateD (0 - x) t (rotateD x t f) = f := by
  by_cases hn : t = [] ∨ t.getD 0 0 = 0
  · rw [rot_none hn, rot_none hn]; exact ⟨ho, rfl⟩
  · have hs : t ≠ [] := fun h => hn (.inl h)
    have hb := head_bd ho
    have h0 : t.getD 0 0 ≠ 0 := fun h => hn (.inr h)
    have hp : 0 < rowsN t := by unfold rowsN; omega
    have e : ∀ x f, rotateD x t f = (List.range (rowsN t)).flatMap (fun i => rowAt t f ((i + rotateBy x (rowsN t)) % rowsN t)) := fun x f => by unfold rotateD; rw [if_neg hn]
    obtain ⟨q1, q2⟩ := chosen_rows ho hs (fun i => (i + rotateBy x (rowsN t)) % rowsN t) (fun i hi => Nat.mod_lt _ hp)
    rw [← e x f] at q1 q2
    refine ⟨q1, ?_⟩
    rw [e (0 - x) (rotateD x t f), flat_ext (g := fun i => rowAt t f i) (fun i hi => by
      rw [q2 _ (Nat.mod_lt _ hp)]
      congr 1
      unfold rotateBy
      generalize rowsN t = n at *
      have a1 := Int.emod_nonneg x (b := (n : Int)) (by omega)
      have a2 := Int.emod_nonneg (0 - x) (b := (n : Int)) (by omega)
      have e1 : ((x % (n : Int)).toNat : Int) = x % (n : Int) := Int.toNat_of_nonneg a1
      have e2 : (((0 - x) % (n : Int)).toNat : Int) = (0 - x) % (n : Int) := Int.toNat_of_nonneg a2
      have key : (((((i + ((0 - x) % (n : Int)).toNat) % n + (x % (n : Int)).toNat) % n : Nat)) : Int) = (i : Int) := by
        push_cast
        rw [e1, e2]
        rw [Int.emod_add_emod, Int.add_emod_emod]
        rw [show (i : Int) + (0 - x) % (n : Int) + x = (i + x) + (0 - x) % (n : Int) by omega, Int.add_emod_emod]
        rw [show (i : Int) + x + (0 - x) = (i : Int) by omega]
        exact Int.emod_eq_of_lt (by omega) (by omega)
      omega)]
    exact all_rows ho hs
theorem flip_ok {s d : List Int} (ho : arrOk s d = true) : arrOk s.reverse (flipD s d) = true ∧ flipD s.reverse (flipD s d) = d := by
  have hz := arrOk_size ho
  have hsh := arrOk_shape ho
  have hr := size_rev hsh
  have hd : d.all ok = true := by unfold arrOk at ho; rw [Bool.and_eq_true] at ho; exact ho.2
  have hlen : (flipD s d).length = d.length := by simp [flipD]
  have hq : arrOk s.reverse (flipD s d) = true := by
    unfold arrOk
    rw [Bool.and_eq_true, hlen, hr]
    refine ⟨by simpa using hz, ?_⟩
    rw [List.all_eq_true] at hd ⊢
    intro y hy
    unfold flipD at hy
    rw [List.mem_map] at hy
    obtain ⟨i, hi, rfl⟩ := hy
    rw [List.mem_range] at hi
    obtain ⟨p0, p1, _⟩ := flip_place ho i hi
    have hlt : (placeV s (indexV s.reverse (i : Int)).reverse).toNat < d.length := by omega
    rw [List.getD_eq_getElem?_getD, List.getElem?_eq_getElem hlt]
    exact hd _ (List.getElem_mem hlt)
  refine ⟨hq, ?_⟩
  apply List.ext_getElem
  · simp [flipD]
  · intro i h1 h2
    have hi : i < (flipD s d).length := by rw [hlen]; exact h2
    obtain ⟨p0, p1, _⟩ := flip_place hq i hi
    rw [List.reverse_reverse] at p0 p1
    obtain ⟨P, hP⟩ : ∃ P : Nat, placeV s.reverse (indexV s (i : Int)).reverse = (P : Int) := ⟨(placeV s.reverse (indexV s (i : Int)).reverse).toNat, by omega⟩
    have hPl : P < d.length := by rw [hlen] at p1; omega
    have e1 : (flipD s.reverse (flipD s d))[i] = (flipD s d).getD P 0 := by
      simp only [flipD, List.getElem_map, List.getElem_range, List.reverse_reverse, hP, Int.toNat_natCast]
    have e2 : (flipD s d).getD P 0 = d.getD (placeV s (indexV s.reverse (P : Int)).reverse).toNat 0 := by
      simp [flipD, hPl]
    have e3 : indexV s.reverse (P : Int) = (indexV s (i : Int)).reverse := by
      rw [← hP]
      exact index_of_place (by omega)
    have e4 := (place_of_index (s := s) (p := (i : Int)) hsh (by omega) (by omega)).2
    rw [e1, e2, e3, List.reverse_reverse, e4, Int.toNat_natCast, List.getD_eq_getElem?_getD, List.getElem?_eq_getElem h2]
    rfl
end Go.Proofs.Ythjjjnapcbkhjaa
namespace Go.Proofs.Ythjjjnapcbkhjaa
set_option linter.unusedVariables false
/-- The number of a row, counted from the end where it is below nought. -/
def rowNo (n x : Int) : Nat := ((x + n) % n).toNat
def noRow (n x : Int) : Bool := decide (x < -n) || decide (n ≤ x)
def pickS (s t : List Int) : List Int := s ++ t.drop 1
def pickC (s d t e : List Int) : Int := if arrOk s d = true ∧ arrOk t e = true then (if t = [] ∨ 4 < s.length + t.length then 4 else if d.any (noRow (t.getD 0 0)) = true then 5 else if sizeV (pickS s t) < 0 then 6 else 0) else 1
def pickD (d t e : List Int) : List Int := (List.range d.length).flatMap (fun i => rowAt t e (rowNo (t.getD 0 0) (d.getD i 0)))
def pickR (s d t e : List Int) : Int × List Int × List Int := mkR (pickC s d t e) (pickS s t) (pickD d t e)
theorem pickR_bad {s d t e : List Int} (h : ¬ (arrOk s d = true ∧ arrOk t e = true)) : pickR s d t e = (1, [], []) := by
  unfold pickR; rw [show pickC s d t e = 1 from by unfold pickC; rw [if_neg h]]; rfl
theorem pickR_told {s d t e : List Int} (h1 : arrOk s d = true) (h2 : arrOk t e = true) :
    pickR s d t e = if t = [] ∨ 4 < s.length + t.length then (4, [], []) else if d.any (noRow (t.getD 0 0)) = true then (5, [], []) else if sizeV (pickS s t) < 0 then (6, [], []) else (0, pickS s t, pickD d t e) := by
  unfold pickR pickC
  rw [if_pos ⟨h1, h2⟩]
  split
  · rfl
  · split
    · rfl
    · split <;> rfl
theorem noRow_false {n x : Int} : noRow n x = false ↔ -n ≤ x ∧ x < n := by
  unfold noRow; simp
/-- Where the row is there: its number, by either end. -/
theorem rowNo_bd {n x : Int} (h : noRow n x = false) : rowNo n x < n.toNat ∧ (rowNo n x : Int) = if x < 0 then n + x else x := by
  obtain ⟨h1, h2⟩ := noRow_false.1 h
  unfold rowNo
  by_cases hx : x < 0
  · rw [if_pos hx, Int.emod_eq_of_lt (by omega) (by omega)]
    omega
  · rw [if_neg hx, Int.add_emod_right, Int.emod_eq_of_lt (by omega) h2]
    omega
/-- Go's remainder at such a number. -/
theorem rowNo_tmod {n x : Int} (h : noRow n x = false) : Int.tmod (x + n) n = (rowNo n x : Int) := by
  obtain ⟨h1, h2⟩ := noRow_false.1 h
  unfold rowNo
  rw [Int.tmod_eq_emod_of_nonneg (by omega), Int.toNat_of_nonneg (Int.emod_nonneg _ (by omega))]
end Go.Proofs.Ythjjjnapcbkhjaa
namespace Go.Proofs.Ythjjjnapcbkhjaa
set_option linter.unusedVariables false
theorem prodV_app (s u : List Int) : prodV (s ++ u) = prodV s * prodV u := by
  induction s with
  | nil => rw [List.nil_append, show prodV [] = 1 from rfl, Int.one_mul]
  | cons x s ih => rw [List.cons_append, prodV_cons5, prodV_cons5, ih, Int.mul_assoc]
theorem pick_size {s d t e : List Int} (h1 : arrOk s d = true) (h2 : arrOk t e = true) (hz : 0 ≤ sizeV (pickS s t)) : 0 ≤ sizeV ((d.length : Int) :: t.drop 1) := by
  obtain ⟨k1, k2, k3, k4⟩ := sizeV_ok hz
  have e1 := arrOk_size h1
  have e2 := (sizeV_ok (arrOk_shape h1)).2.2.2
  have e3 := arrOk_len h1
  have e4 := (sizeV_ok (arrOk_shape h2)).1
  unfold pickS at k2 k3
  rw [prodV_app] at k3
  rw [List.all_append, Bool.and_eq_true] at k2
  have hp : prodV ((d.length : Int) :: t.drop 1) = prodV s * prodV (t.drop 1) := by rw [prodV_cons5, ← e2, e1]
  have p0 := (prodV_bd (t.drop 1) k2.2).1
  have q0 := (prodV_bd s (sizeV_ok (arrOk_shape h1)).2.1).1
  have hm := Int.mul_nonneg q0 p0
  unfold sizeV
  rw [if_neg (by simp; omega), if_pos (by rw [List.all_cons, Bool.and_eq_true]; exact ⟨by simp [dimOk]; omega, k2.2⟩), hp, if_neg (by omega)]
  exact hm
theorem pick_chosen {d t e : List Int} (h2 : arrOk t e = true) (ht : t ≠ []) (h : ∀ j, j < d.length → noRow (t.getD 0 0) (d.getD j 0) = false) : chosenD t e (fun k => (rowNo (t.getD 0 0) (d.getD k 0) : Int)) d.length = pickD d t e := by
  unfold chosenD pickD
  rw [List.flatMap_def, List.flatMap_def]
  congr 1
  apply List.map_congr_left
  intro i hi
  have hi' : i < d.length := by simpa using hi
  dsimp only
  have q := (rowNo_bd (h i hi')).1
  have hd := (head_bd h2).1
  unfold chosenRow
  rw [if_pos ⟨by omega, by omega⟩, Int.toNat_natCast]
theorem any_none {d : List Int} {φ : Int → Bool} : d.any φ = false ↔ ∀ j, j < d.length → φ (d.getD j 0) = false := by
  constructor
  · intro h j hj
    rw [List.any_eq_false] at h
    have := h (d.getD j 0) (by simp [hj])
    simpa using this
  · intro h
    rw [List.any_eq_false]
    intro y hy
    obtain ⟨j, hj, rfl⟩ := List.getElem_of_mem hy
    have := h j hj
    rw [List.getD_eq_getElem?_getD, List.getElem?_eq_getElem hj] at this
    simpa using this
theorem pickC_zero {s d t e : List Int} (h : pickC s d t e = 0) : arrOk s d = true ∧ arrOk t e = true ∧ t ≠ [] ∧ s.length + t.length ≤ 4 ∧ (∀ j, j < d.length → noRow (t.getD 0 0) (d.getD j 0) = false) ∧ 0 ≤ sizeV (pickS s t) := by
  unfold pickC at h
  by_cases q : arrOk s d = true ∧ arrOk t e = true
  · rw [if_pos q] at h
    by_cases q2 : t = [] ∨ 4 < s.length + t.length
    · rw [if_pos q2] at h; cases h
    · rw [if_neg q2] at h
      by_cases q3 : d.any (noRow (t.getD 0 0)) = true
      · rw [if_pos q3] at h; cases h
      · rw [if_neg q3] at h
        by_cases q4 : sizeV (pickS s t) < 0
        · rw [if_pos q4] at h; cases h
        · exact ⟨q.1, q.2, fun k => q2 (.inl k), by omega, any_none.1 (by simpa using q3), by omega⟩
  · rw [if_neg q] at h; cases h
theorem flat_le (n m : Nat) (f : Nat → List Int) (h : ∀ i, (f i).length ≤ m) : ((List.range n).flatMap f).length ≤ n * m := by
  induction n with
  | zero => simp
  | succ n ih =>
    have e : [n].flatMap f = f n := by simp
    rw [List.range_succ, List.flatMap_append, List.length_append, Nat.succ_mul, e]
    have := h n
    omega
theorem pick_len {s d t e : List Int} (h : pickC s d t e = 0) : (pickS s t).length ≤ 1048576 ∧ (pickD d t e).length ≤ 1048576 := by
  obtain ⟨h1, h2, h3, h4, _, _⟩ := pickC_zero h
  have e1 := arrOk_len h1
  have e2 := arrOk_len h2
  constructor
  · unfold pickS; rw [List.length_append, List.length_drop]; omega
  · unfold pickD
    have := flat_le d.length 300 (fun i => rowAt t e (rowNo (t.getD 0 0) (d.getD i 0))) (fun i => by unfold rowAt; rw [List.length_take, List.length_drop]; omega)
    have h3 : d.length * 300 ≤ 300 * 300 := Nat.mul_le_mul_right _ (by omega)
    omega
end Go.Proofs.Ythjjjnapcbkhjaa
namespace Go.Proofs.Ythjjjnapcbkhjaa
set_option linter.unusedVariables false
def upTo (n : Nat) : List Int := (List.range n).map (fun (i : Nat) => (i : Int))
theorem upTo_len (n : Nat) : (upTo n).length = n := by simp [upTo]
theorem upTo_at {n i : Nat} (h : i < n) : (upTo n).getD i 0 = (i : Int) := by simp [upTo, h]
theorem vec_ok6 {n : Nat} {l : List Int} (hn : n ≤ 300) (hl : l.length = n) (hx : ∀ i, i < n → ok (l.getD i 0) = true) : arrOk [(n : Int)] l = true := by
  have hz : sizeV [(n : Int)] = (n : Int) := by
    unfold sizeV
    have : prodV [(n : Int)] = (n : Int) := by rw [prodV_cons5]; simp [prodV]
    rw [if_neg (by simp), if_pos (by simp [dimOk]; omega), this, if_neg (by omega)]
  unfold arrOk
  rw [Bool.and_eq_true, hz, hl]
  refine ⟨by simp, ?_⟩
  rw [List.all_eq_true]
  intro y hy
  obtain ⟨j, hj, rfl⟩ := List.getElem_of_mem hy
  have := hx j (by omega)
  rw [List.getD_eq_getElem?_getD, List.getElem?_eq_getElem hj] at this
  simpa using this
theorem turn_up {n : Nat} (hn : n ≤ 300) : turnD [(n : Int)] (upTo n) = (List.range n).map (fun i => ((n - 1 - i : Nat) : Int)) := by
  unfold turnD
  rw [if_neg (by simp), show rowsN [(n : Int)] = n by simp [rowsN], List.map_eq_flatMap]
  refine flat_ext (fun i hi => ?_)
  unfold rowAt
  have e : rowN [(n : Int)] = 1 := by simp [rowN, sizeV, prodV]
  rw [e, Nat.mul_one]
  have hl : n - 1 - i < (upTo n).length := by rw [upTo_len]; omega
  rw [List.drop_eq_getElem_cons hl]
  simp [upTo]
/-- What comes of picking by a list of row numbers. -/
theorem pick_by {s d : List Int} (ho : arrOk s d = true) (hs : s ≠ []) {l : List Int} (σ : Nat → Nat) (hl : l.length = rowsN s) (hx : ∀ i, i < rowsN s → l.getD i 0 = ((σ i : Nat) : Int) ∧ σ i < rowsN s) :
    pickR [(rowsN s : Int)] l s d = (0, s, (List.range (rowsN s)).flatMap (fun i => rowAt s d (σ i))) := by
  obtain ⟨e1, e2⟩ := rowsN5 ho
  have hs3 := (sizeV_ok (arrOk_shape ho)).1
  have hv : arrOk [(rowsN s : Int)] l = true := vec_ok6 e1 hl (fun i hi => by
    obtain ⟨q1, q2⟩ := hx i hi
    rw [q1]; simp [ok]; omega)
  have hS : pickS [(rowsN s : Int)] s = s := by
    unfold pickS
    rw [List.singleton_append, ← e2]
    cases s with
    | nil => exact absurd rfl hs
    | cons y s => rfl
  have hno : ∀ i, i < rowsN s → noRow (rowsN s : Int) (l.getD i 0) = false := fun i hi => by
    obtain ⟨q1, q2⟩ := hx i hi
    rw [q1]; exact noRow_false.2 ⟨by omega, by omega⟩
  rw [pickR_told hv ho, if_neg (show ¬ (s = [] ∨ 4 < [(rowsN s : Int)].length + s.length) from fun q => q.elim hs (fun q => by simp at q; omega)), e2, if_neg (by rw [any_none.2 (fun j hj => hno j (by omega))]; decide), hS, if_neg (by have := arrOk_shape ho; omega)]
  congr 2
  unfold pickD
  rw [hl, e2]
  refine flat_ext (fun i hi => ?_)
  obtain ⟨q1, q2⟩ := hx i hi
  have := (rowNo_bd (hno i hi)).2
  rw [q1, if_neg (by omega)] at this
  rw [q1]
  congr 1
  omega
theorem whole_ok {s d : List Int} (ho : arrOk s d = true) (hs : s ≠ []) :
    iotaR [] [s.getD 0 0] = (0, [s.getD 0 0], upTo (rowsN s)) ∧ turnR [s.getD 0 0] (upTo (rowsN s)) = (0, [s.getD 0 0], turnD [s.getD 0 0] (upTo (rowsN s))) ∧
    pickR [s.getD 0 0] (upTo (rowsN s)) s d = (0, s, d) ∧ pickR [s.getD 0 0] (turnD [s.getD 0 0] (upTo (rowsN s))) s d = (0, s, turnD s d) ∧ turnR s d = (0, s, turnD s d) := by
  obtain ⟨e1, e2⟩ := rowsN5 ho
  rw [e2]
  have hu : arrOk [(rowsN s : Int)] (upTo (rowsN s)) = true := vec_ok6 e1 (upTo_len _) (fun i hi => by rw [upTo_at hi]; simp [ok]; omega)
  have h1 : arrOk [] [(rowsN s : Int)] = true := by
    have : ok (rowsN s : Int) = true := by simp [ok]; omega
    simp [arrOk, sizeV, prodV, this]
  refine ⟨?_, ?_, ?_, ?_, ?_⟩
  · unfold iotaR iotaC
    rw [if_pos h1, if_neg (by simp), show ([(rowsN s : Int)]).getD 0 0 = (rowsN s : Int) from rfl, if_neg (by omega), if_neg (by omega), mkR_good, Int.toNat_natCast]
    rfl
  · unfold turnR okC; rw [if_pos hu]; rfl
  · rw [pick_by ho hs (fun i => i) (upTo_len _) (fun i hi => ⟨upTo_at hi, hi⟩), all_rows ho hs]
  · rw [turn_up e1, pick_by ho hs (fun i => rowsN s - 1 - i) (by simp) (fun i hi => ⟨by simp [hi], by omega⟩)]
    congr 2
    unfold turnD
    rw [if_neg hs]
  · unfold turnR okC; rw [if_pos ho]; rfl
end Go.Proofs.Ythjjjnapcbkhjaa
namespace Go.Proofs.Ythjjjnapcbkhjaa
set_option linter.unusedVariables false
theorem grade_bad {s d : List Int} (h : (gradeR s d).1 ≠ 0) : (gradeR s d).2.2 = [] := by
  unfold gradeR at h ⊢
  rw [mkR_code] at h
  rw [mkR_bad h]
theorem row_vec {s d : List Int} (ho : arrOk s d = true) (h1 : s.length = 1) : s ≠ [] ∧ rowsN s = d.length ∧ rowN s = 1 ∧ s = [(d.length : Int)] := by
  cases s with
  | nil => cases h1
  | cons x t =>
    cases t with
    | nil =>
      have e1 : rowN [x] = 1 := by simp [rowN, sizeV, prodV]
      have e2 := rows5 ho (by simp)
      rw [e1, Nat.mul_one] at e2
      have e3 := (rowsN5 ho).2
      have e4 : ([x] : List Int).getD 0 0 = x := rfl
      exact ⟨by simp, e2, e1, by rw [e4] at e3; rw [e3, e2]⟩
    | cons y t => simp at h1
theorem row_one {d : List Int} {r : Nat} (h : r < d.length) : (d.drop r).take 1 = [d.getD r 0] := by
  rw [List.drop_eq_getElem_cons h, List.take_succ_cons, List.take_zero, List.getD_eq_getElem?_getD, List.getElem?_eq_getElem h]
  rfl
theorem graded_good {s d : List Int} (h : (gradeR s d).1 = 0) : arrOk s d = true ∧ (gradeR s d).2.1 = [(d.length : Int)] ∧ (gradeR s d).2.2 = natI (gradeTo d d.length) ∧
    ∃ SP P, pickR [(d.length : Int)] (natI (gradeTo d d.length)) s d = (0, SP, P) ∧ SP.length = 1 ∧ P.length = d.length ∧ ∀ i, i < d.length → P.getD i 0 = d.getD ((gradeTo d d.length).getD i 0) 0 := by
  unfold gradeR at h
  rw [mkR_code] at h
  have h' := h
  unfold gradeC at h'
  by_cases q : arrOk s d = true
  · rw [if_pos q] at h'
    by_cases q2 : s.length = 1
    · obtain ⟨r1, r2, r3, r4⟩ := row_vec q q2
      refine ⟨q, ?_, ?_, ?_⟩
      · unfold gradeR; rw [h, mkR_good]
      · unfold gradeR; rw [h, mkR_good]
      · have hp := pick_by q r1 (l := natI (gradeTo d d.length)) (fun i => (gradeTo d d.length).getD i 0) (by rw [natI_len, gradeTo_len, r2]) (fun i hi => ⟨natI_at (by rw [gradeTo_len]; omega), by rw [r2] at hi ⊢; exact gradeTo_lt hi⟩)
        rw [r2] at hp
        have e : (List.range d.length).flatMap (fun i => rowAt s d ((gradeTo d d.length).getD i 0)) = (List.range d.length).map (fun i => d.getD ((gradeTo d d.length).getD i 0) 0) := by
          rw [List.map_eq_flatMap]
          refine flat_ext (fun i hi => ?_)
          unfold rowAt
          have hl := gradeTo_lt (d := d) hi
          rw [r3, Nat.mul_one]
          exact row_one hl
        rw [e] at hp
        refine ⟨s, _, hp, q2, by simp, fun i hi => by simp [hi]⟩
    · rw [if_neg q2] at h'; cases h'
  · rw [if_neg q] at h'; cases h'
/-- Which places have been seen. -/
def seenB (L : List Nat) (n i : Nat) : List Bool := (List.range n).map (fun j => (L.take i).contains j)
theorem seenB_zero (L : List Nat) (n : Nat) : seenB L n 0 = List.replicate n false := by
  unfold seenB
  apply List.ext_getElem
  · simp
  · intro i h1 h2; simp
theorem seenB_len (L : List Nat) (n i : Nat) : (seenB L n i).length = n := by simp [seenB]
theorem nodup_ahead {d : List Int} {L : List Nat} (h : L.Pairwise (ahead d)) : L.Nodup := List.Pairwise.imp (fun {a b} q e => by subst e; exact ahead_irr q) h
theorem seenB_not {L : List Nat} (hn : L.Nodup) {n i : Nat} (hi : i < L.length) (hx : L.getD i 0 < n) : (seenB L n i)[L.getD i 0]? = some false := by
  unfold seenB
  rw [List.getElem?_map, List.getElem?_range hx]
  simp only [Option.map_some]
  congr 1
  rw [List.contains_eq_mem, decide_eq_false_iff_not]
  intro hm
  rw [getN hi] at hm
  obtain ⟨j, hj, e⟩ := List.getElem_of_mem hm
  have hj' := hj
  rw [List.length_take] at hj'
  rw [List.getElem_take] at e
  exact List.pairwise_iff_getElem.1 hn j i (by omega) hi (by omega) e
theorem seenB_at {L : List Nat} {n i j : Nat} (h : j < n) : (seenB L n i)[j]? = some ((L.take i).contains j) := by
  unfold seenB
  rw [List.getElem?_map, List.getElem?_range h]
  rfl
theorem seenB_set {L : List Nat} {n i : Nat} (hi : i < L.length) : (seenB L n i).set (L.getD i 0) true = seenB L n (i + 1) := by
  apply List.ext_getElem?
  intro j
  rw [List.getElem?_set]
  by_cases hj : j < n
  · have e9 : (seenB L n (i + 1))[j]? = some ((L.take i ++ [L.getD i 0]).contains j) := by rw [seenB_at hj, take_snocN hi]
    rw [e9]
    by_cases e : L.getD i 0 = j
    · rw [if_pos e, if_pos (by rw [seenB_len]; omega), e]
      congr 1
      rw [List.contains_eq_mem]
      simp
    · rw [if_neg e, seenB_at hj]
      congr 1
      rw [List.contains_eq_mem, List.contains_eq_mem, Bool.eq_iff_iff]
      simp only [decide_eq_true_eq, List.mem_append, List.mem_singleton]
      exact ⟨fun q => .inl q, fun q => q.elim id (fun q => absurd q.symm e)⟩
  · have h1 : (seenB L n (i + 1))[j]? = none := List.getElem?_eq_none (by rw [seenB_len]; omega)
    have h2 : (seenB L n i)[j]? = none := List.getElem?_eq_none (by rw [seenB_len]; omega)
    rw [h1, h2]
    by_cases e : L.getD i 0 = j
    · rw [if_pos e, if_neg (by rw [seenB_len]; omega)]
    · rw [if_neg e]
theorem ahead_next {d : List Int} {n m : Nat} (h : m + 1 < n) : ahead d ((gradeTo d n).getD m 0) ((gradeTo d n).getD (m + 1) 0) := by
  obtain ⟨g1, g2⟩ := gradeTo_is d n
  have hl := gradeTo_len d n
  rw [getN (by omega), getN (by omega)]
  exact List.pairwise_iff_getElem.1 g1 m (m + 1) (by omega) (by omega) (by omega)
end Go.Proofs.Ythjjjnapcbkhjaa
namespace Go.Proofs.Ythjjjnapcbkhjaa
open Go.RowKit
set_option linter.unusedVariables false
def bvals (B : List Bool) : Array Value := (B.map Value.bool).toArray
theorem info_bool : (Try.prog.info? 4).map (fun i => (i.zero, i.size, i.bytes)) = some (some (.bool false), 1, 1) := by kernel_rfl
theorem made_false (n : Nat) : madeCells (Value.bool false).cells n = bvals (List.replicate n false) := by
  apply Array.ext
  · simp [size_madeCells, bvals]
  · intro i h1 h2
    simp [madeCells, bvals, Value.cells]
    rw [Nat.mod_one]
    rfl
theorem make_bools (n : Nat) (hn : n ≤ 1073741824) (w : World) :
    (Instr.makeSlice 32 (.int .i64 (n : Int)) (.int .i64 (n : Int))).run Try.prog w = .ok (.slice (some ⟨w.heap.size, 0, none⟩) n n) (w.alloc (.cells (bvals (List.replicate n false)) 4)) := by
  have hi := info_bool
  cases hq : Try.prog.info? 4 with
  | none => rw [hq] at hi; cases hi
  | some i =>
    rw [hq] at hi
    simp at hi
    obtain ⟨z1, z2, z3⟩ := hi
    have := run_make (P := Try.prog) w 32 4 i (.bool false) Try.underlying32 hq z1 .i64 .i64 n n (by omega) (by omega) (by rw [z3]; omega) (by omega)
    rw [z2, Int.toNat_natCast, Nat.mul_one, made_false] at this
    exact this
def OwnBools (w : World) (g : Nat) (B : List Bool) : Prop := w.heap[g]? = some (.cells (bvals B) 4 (0, 0))
theorem OwnBools.cell {w : World} {g : Nat} {B : List Bool} (h : OwnBools w g B) {k : Nat} {x : Bool} (hx : B[k]? = some x) : w.cell? ⟨g, k, none⟩ = some (.bool x) := cell_at h (by simp [bvals, hx])
theorem OwnBools.free {w : World} {g : Nat} {B : List Bool} (h : OwnBools w g B) (k : Nat) : w.frozen? ⟨g, k, none⟩ = false := by simp [World.frozen?, show w.heap[g]? = _ from h]
theorem OwnBools.set {w : World} {g : Nat} {B : List Bool} (h : OwnBools w g B) (k : Nat) (x : Bool) : OwnBools (w.setCell ⟨g, k, none⟩ (.bool x)) g (B.set k x) := by
  have e := heap_setCell_same w g k _ _ (.bool x) (show w.heap[g]? = some (.cells (bvals B) 4 (0, 0)) from h)
  unfold OwnBools
  rw [e]
  simp [bvals, List.map_set]
end Go.Proofs.Ythjjjnapcbkhjaa
namespace Go.Proofs.Ythjjjnapcbkhjaa
open Go.RowKit
theorem ret_int' {k : IntKind} {a b : Int} (h : a = b) : Ending.returned (.int k a) = .returned (.int k b) := by rw [h]
theorem ret_two' {a b c d : Int} (h : a = b) (h' : c = d) : Ending.returned (.tuple #[.int .i64 a, .int .i64 c]) = .returned (.tuple #[.int .i64 b, .int .i64 d]) := by rw [h, h']
theorem ret_bool {a b : Bool} (h : a = b) : Ending.returned (.bool a) = .returned (.bool b) := by rw [h]
end Go.Proofs.Ythjjjnapcbkhjaa
namespace Go.Proofs.Ythjjjnapcbkhjaa
open Go.RowKit
set_option linter.unusedVariables false
set_option linter.unusedSimpArgs false
theorem eachOne_bad {g : Int} {s d : List Int} (h : eachOneC g s d ≠ 0) : eachOneS g s d = [] ∧ eachOneD g s d = [] := by
  unfold eachOneS eachOneD; rw [if_neg h, if_neg h]; exact ⟨rfl, rfl⟩
theorem eachOne_good {g : Int} {s d : List Int} (h : eachOneC g s d = 0) : eachOneS g s d = s ∧ eachOneD g s d = (List.range d.length).map (fun i => (oneV g (d.getD i 0)).1) := by
  unfold eachOneS eachOneD; rw [if_pos h, if_pos h]; exact ⟨rfl, rfl⟩
theorem below_of_win {B : Nat} {w a b : World} (h : Below w.heap.size w a) (k : Win B B a b) : Below w.heap.size w b := by
  exact h.trans ⟨k.os, k.tape, k.output, k.size, fun i hi => k.block i (Nat.lt_of_lt_of_le hi h.size) (by omega)⟩
end Go.Proofs.Ythjjjnapcbkhjaa
namespace Go.Proofs.Ythjjjnapcbkhjaa
open Go.RowKit
set_option linter.unusedVariables false
set_option linter.unusedSimpArgs false
theorem newInts_down {B B' : Nat} {w : World} {v : Value} {l : List Int} (h : NewInts B w v l) (hB : B' ≤ B) : NewInts B' w v l := by
  obtain ⟨h1, h2⟩ := h
  refine ⟨h1, ?_⟩
  rcases h2 with h2 | ⟨g, cap, cur, e, hg, r⟩
  · exact .inl h2
  · exact .inr ⟨g, cap, cur, e, Nat.le_trans hB hg, r⟩
set_option maxRecDepth 20000 in
set_option maxHeartbeats 8000000 in
/-- Grade. -/
theorem grade_spec {s d : List Int} {w : World} {v : Value} (h : ArrI w v s d) (hs : s.length ≤ 1048576) (hd : d.length ≤ 1048576) :
    Calls Try.prog 16 #[v] w fun r w' => ∃ v', r = .returned (.tuple #[v', .int .i64 (gradeR s d).1]) ∧ Arr w.heap.size w'.heap.size w' v' (gradeR s d).2.1 (gradeR s d).2.2 ∧ Below w.heap.size w w' := by
  have H : Hid (ArrI w v s d) := h
  obtain ⟨a, c, b, f, rfl, h1, h2, _, _⟩ := h
  have H2 : Hid (Ints w b d) := h2
  have HD : Hid (d.length ≤ 1048576) := hd
  clear h1 h2
  have q1 := heap_alloc2_old w (.cells #[.slice a s.length c, .slice b d.length f] 26) (.cells #[.slice none 0 0, .slice none 0 0] 26)
  have q2 := heap_alloc2_new w (.cells #[.slice a s.length c, .slice b d.length f] 26) (.cells #[.slice none 0 0, .slice none 0 0] 26)
  have QX : Hid (Box ((w.alloc (.cells #[.slice a s.length c, .slice b d.length f] 26)).alloc (.cells #[.slice none 0 0, .slice none 0 0] 26)) w.heap.size (.slice a s.length c) (.slice b d.length f) 26) := q1
  have QR : Hid (Box ((w.alloc (.cells #[.slice a s.length c, .slice b d.length f] 26)).alloc (.cells #[.slice none 0 0, .slice none 0 0] 26)) (w.heap.size + 1) (.slice none 0 0) (.slice none 0 0) 26) := q2
  clear q1 q2
  by_cases ho : arrOk s d = true
  · have HO : Hid (arrOk s d = true) := ho
    by_cases hl : s.length = 1
    · have ER : gradeR s d = (0, [(d.length : Int)], natI (gradeTo d d.length)) := by unfold gradeR gradeC; rw [if_pos ho, if_pos hl]; rfl
      have hlb : ((s.length : Int) != 1) = false := by rw [hl]; rfl
      have L3 : Hid (d.length ≤ 300) := arrOk_len ho
      rw [ER]
      clear ER ho hl
      go_enter Try.func16, Try.ntmps16
      go_wp2_with fail
      refine (arrOk_spec (H.out.keep (bAlloc (bAlloc (Below.refl _ _) _) _)) HD.out).mono ?_
      rintro r w1 ⟨rfl, hb⟩
      have HB1 : Hid (Below w.heap.size w w1) := bTrans (bAlloc (bAlloc (Below.refl _ _) _) _) hb
      have X1 : Hid (Box w1 w.heap.size (.slice a s.length c) (.slice b d.length f) 26) := QX.out.keep hb
      have R1 : Hid (Box w1 (w.heap.size + 1) (.slice none 0 0) (.slice none 0 0) 26) := QR.out.keep hb
      clear hb QX QR
      rw [HO.out]
      have x0 := X1.out.c0
      have x1 := X1.out.c1
      go_wp2_with fail
      have D1 : Hid (Ints w1 b d) := H2.out.keep HB1.out
      generalize hW : w1.alloc (.cells #[] 3) = WL
      have BL : Hid (Below w1.heap.size w1 WL) := by rw [← hW]; exact bAlloc (Below.refl _ _) _
      have N0 : Hid (NewInts w1.heap.size WL (.slice (some ⟨w1.heap.size, 0, none⟩) 0 0) []) := by rw [← hW]; exact newInts_alloc w1 [] (Nat.le_refl _) (by simp)
      clear hW x0 x1
      go_loopw [4, 5] (fun q i w' => ∃ k : Nat, k ≤ d.length ∧ i = .int .i64 (k : Int) ∧ NewInts w1.heap.size w' q (natI (gradeTo d k)) ∧ Below w1.heap.size w1 w') (fun _ i _ => d.length - (intOf i).toNat)
      case atStart => exact ⟨0, by omega, rfl, N0.out, BL.out⟩
      case round =>
        obtain ⟨k, hk, rfl, hN, hB⟩ := hrel
        have HN : Hid (NewInts w1.heap.size wr u4 (natI (gradeTo d k))) := hN
        have HB : Hid (Below w1.heap.size w1 wr) := hB
        have X : Hid (Box wr w.heap.size (.slice a s.length c) (.slice b d.length f) 26) := X1.out.keep hB
        have hk3 : k ≤ 300 := by have := L3.out; omega
        have ZL : Hid ((natI (gradeTo d k)).length = k) := by show _ = _; rw [natI_len, gradeTo_len]
        have y1 := X.out.c1
        obtain ⟨ao, co, ev, io⟩ := hN.ints
        rw [ZL.out] at ev
        subst ev
        have IO : Hid (Ints wr ao (natI (gradeTo d k))) := io
        clear hN hB io
        by_cases hlt : (k : Int) < (d.length : Int)
        · have L : k < d.length := by omega
          have DR : Hid (Ints wr b d) := D1.out.keep HB.out
          have SIX : Hid (w1.heap.size ≤ wr.heap.size) := HB.out.size
          go_wp2_with fail
          generalize hW2 : wr.alloc (.cells #[] 3) = W2
          have B2 : Hid (Below wr.heap.size wr W2) := by rw [← hW2]; exact bAlloc (Below.refl _ _) _
          have M0 : Hid (NewInts wr.heap.size W2 (.slice (some ⟨wr.heap.size, 0, none⟩) 0 0) []) := by rw [← hW2]; exact newInts_alloc wr [] (Nat.le_refl _) (by simp)
          clear hW2 y1
          have WO : Hid (NewInts w1.heap.size wr (.slice ao k co) (natI (gradeTo d k))) := HN.out
          clear HN
          obtain ⟨L0, hL0⟩ : ∃ x, x = gradeTo d k := ⟨_, rfl⟩
          have HL0 : Hid (L0 = gradeTo d k) := hL0
          rw [← hL0] at IO ZL WO
          have L0L : Hid (L0.length = k) := by show _ = _; rw [hL0, gradeTo_len]
          have L0B : Hid (∀ j, j < k → L0.getD j 0 < d.length) := fun j hj => by rw [hL0]; have := gradeTo_lt (d := d) hj; omega
          clear hL0
          generalize hwo : wr = wo at *
          clear hwo
          go_loopw [6, 7, 8] (fun q pt j w' => ∃ m : Nat, m ≤ k ∧ j = .int .i64 (m : Int) ∧ pt = .bool (insTo d k L0 m).1 ∧ NewInts wo.heap.size w' q (natI (insTo d k L0 m).2) ∧ Below wo.heap.size wo w') (fun _ _ j _ => k - (intOf j).toNat)
          case atStart => exact ⟨0, by omega, rfl, rfl, M0.out, B2.out⟩
          case round =>
            obtain ⟨m, hm, rfl, rfl, hN, hB⟩ := hrel
            have HN : Hid (NewInts wo.heap.size wr u6 (natI (insTo d k L0 m).2)) := hN
            have HBI : Hid (Below wo.heap.size wo wr) := hB
            have XI : Hid (Box wr w.heap.size (.slice a s.length c) (.slice b d.length f) 26) := X.out.keep hB
            have NL : Hid ((natI (insTo d k L0 m).2).length ≤ 600) := by have := insTo_len d k L0 m; show _ ≤ _; rw [natI_len]; omega
            clear hN hB
            have y1 := XI.out.c1
            by_cases hlm : (m : Int) < (k : Int)
            · have Lm : m < k := by omega
              obtain ⟨p1, o1, e1, hp1, t1⟩ := (DR.out.keep HBI.out).at L
              subst e1
              obtain ⟨x, hx⟩ : ∃ x : Nat, x = L0.getD m 0 := ⟨_, rfl⟩
              have hxd : x < d.length := by rw [hx]; exact L0B.out m Lm
              obtain ⟨_, _, e2, hp2, t2⟩ := (DR.out.keep HBI.out).at hxd
              cases e2
              obtain ⟨p3, o3, e3, hp3, t3⟩ := (IO.out.keep HBI.out).at (k := m) (by rw [ZL.out]; exact Lm)
              subst e3
              rw [natI_at (by rw [L0L.out]; exact Lm), ← hx] at t3
              have hxi : (x : Int) < (d.length : Int) := by omega
              have HX : Hid (x = L0.getD m 0) := hx
              have T3 : Hid (wr.cell? ⟨p3, o3 + m, none⟩ = some (.int .i64 (x : Int))) := t3
              have HP3 : Hid (p3 < wo.heap.size) := by
                obtain ⟨_, _, e4, hp4, _⟩ := IO.out.at (k := m) (by rw [ZL.out]; exact Lm)
                cases e4
                exact hp4
              clear hx hp1 hp2 hp3
              cases hp : (insTo d k L0 m).1
              · by_cases hq : d.getD k 0 < d.getD x 0
                · have EI : Hid (insTo d k L0 (m + 1) = (true, (insTo d k L0 m).2 ++ [k] ++ [x])) := by show _ = _; rw [HX.out] at hq ⊢; exact insTo_put hp hq
                  have hdec : decide (d.getD k 0 < d.getD x 0) = true := by simpa using hq
                  clear hp
                  generalize d.getD k 0 = dk at *
                  generalize d.getD x 0 = dx at *
                  generalize hIL : (insTo d k L0 m).2 = IL at *
                  clear hIL
                  go_wp2_with fail
                  go_quiet (fail)
                  obtain ⟨a', c', w5, hr1, n1, b1⟩ := grow1 (k : Int) (HN.out.keep (bDrewN (Below.refl _ _) nq)) (Nat.le_trans HBI.out.size (by simp)) (by have := NL.out; omega)
                  have R1' : Hid (_ = _) := hr1
                  have B5 : Hid (Below wo.heap.size wr w5) := (bDrewN (Below.refl _ _) nq : Below wr.heap.size wr _).mono HBI.out.size |>.trans b1
                  have t5 : w5.cell? ⟨p3, o3 + m, none⟩ = some (.int .i64 (x : Int)) := (B5.out.cell (p := ⟨p3, o3 + m, none⟩) HP3.out).trans T3.out
                  obtain ⟨a6, c6, w6, hr2, n2, b2⟩ := grow1 (x : Int) n1 (Nat.le_trans HBI.out.size B5.out.size) (by have := NL.out; simp; omega)
                  have R2' : Hid (_ = _) := hr2
                  have N2 : Hid (NewInts wo.heap.size w6 (.slice a6 ((natI IL ++ [(k : Int)]).length + 1) c6) (natI IL ++ [(k : Int)] ++ [(x : Int)])) := n2
                  have B6 : Hid (Below wo.heap.size wr w6) := B5.out.trans b2
                  clear hr1 hr2 n1 n2 b1 b2
                  generalize (natI IL).length + 1 = LL1 at *
                  generalize (natI IL ++ [(k : Int)]).length + 1 = LL2 at *
                  go_wp2_with (at_builtin; first | (refine wpList_append_ty rfl _ _ 24 24 rfl _ _ _ rfl rfl R1'.out ?_) | (refine wpList_append_ty rfl _ _ 24 24 rfl _ _ _ rfl rfl R2'.out ?_))
                  go_roundw
                  case rel => exact ⟨m + 1, by omega, by go_num, by rw [EI.out], by rw [EI.out]; show NewInts _ _ _ (natI (IL ++ [k] ++ [x])); rw [natI_app, natI_app]; exact N2.out, HBI.out.trans B6.out⟩
                  case measure => simp [intOf]; omega
                · have EI : Hid (insTo d k L0 (m + 1) = (false, (insTo d k L0 m).2 ++ [x])) := by show _ = _; rw [HX.out] at hq ⊢; rw [insTo_on (fun q => hq q.2), hp]
                  have hdec : decide (d.getD k 0 < d.getD x 0) = false := by simpa using hq
                  clear hp
                  generalize d.getD k 0 = dk at *
                  generalize d.getD x 0 = dx at *
                  generalize hIL : (insTo d k L0 m).2 = IL at *
                  clear hIL
                  go_wp2_with fail
                  go_quiet (fail)
                  obtain ⟨a', c', w5, hr1, n1, b1⟩ := grow1 (x : Int) (HN.out.keep (bDrewN (Below.refl _ _) nq)) (Nat.le_trans HBI.out.size (by simp)) (by have := NL.out; omega)
                  have R1' : Hid (_ = _) := hr1
                  have N1 : Hid (NewInts wo.heap.size w5 (.slice a' ((natI IL).length + 1) c') (natI IL ++ [(x : Int)])) := n1
                  have B5 : Hid (Below wo.heap.size wr w5) := (bDrewN (Below.refl _ _) nq : Below wr.heap.size wr _).mono HBI.out.size |>.trans b1
                  clear hr1 n1 b1
                  generalize (natI IL).length + 1 = LL1 at *
                  go_wp2_with (at_builtin; refine wpList_append_ty rfl _ _ 24 24 rfl _ _ _ rfl rfl R1'.out ?_)
                  go_roundw
                  case rel => exact ⟨m + 1, by omega, by go_num, by rw [EI.out], by rw [EI.out]; show NewInts _ _ _ (natI (IL ++ [x])); rw [natI_app]; exact N1.out, HBI.out.trans B5.out⟩
                  case measure => simp [intOf]; omega
              · have EI : Hid (insTo d k L0 (m + 1) = (true, (insTo d k L0 m).2 ++ [x])) := by show _ = _; rw [HX.out, insTo_on (fun q => by rw [hp] at q; cases q.1), hp]
                clear hp
                generalize hIL : (insTo d k L0 m).2 = IL at *
                clear hIL
                go_wp2_with fail
                go_quiet (fail)
                obtain ⟨a', c', w5, hr1, n1, b1⟩ := grow1 (x : Int) (HN.out.keep (bDrewN (Below.refl _ _) nq)) (Nat.le_trans HBI.out.size (by simp)) (by have := NL.out; omega)
                have R1' : Hid (_ = _) := hr1
                have N1 : Hid (NewInts wo.heap.size w5 (.slice a' ((natI IL).length + 1) c') (natI IL ++ [(x : Int)])) := n1
                have B5 : Hid (Below wo.heap.size wr w5) := (bDrewN (Below.refl _ _) nq : Below wr.heap.size wr _).mono HBI.out.size |>.trans b1
                clear hr1 n1 b1
                generalize (natI IL).length + 1 = LL1 at *
                go_wp2_with (at_builtin; refine wpList_append_ty rfl _ _ 24 24 rfl _ _ _ rfl rfl R1'.out ?_)
                go_roundw
                case rel => exact ⟨m + 1, by omega, by go_num, by rw [EI.out], by rw [EI.out]; show NewInts _ _ _ (natI (IL ++ [x])); rw [natI_app]; exact N1.out, HBI.out.trans B5.out⟩
                case measure => simp [intOf]; omega
            · obtain rfl : m = k := by omega
              have hkI : (m : Int) ≤ 300 := by omega
              cases hp : (insTo d m L0 m).1
              · have EA : Hid (gradeTo d (m + 1) = (insTo d m L0 m).2 ++ [m]) := by
                  show insAll d m (gradeTo d m) = _
                  rw [← HL0.out]
                  unfold insAll
                  rw [L0L.out, if_pos hp]
                clear hp
                generalize hIL : (insTo d m L0 m).2 = IL at *
                clear hIL
                obtain ⟨a', c', w5, hr1, n1, b1⟩ := grow1 (m : Int) HN.out HBI.out.size (by have := NL.out; omega)
                have R1' : Hid (_ = _) := hr1
                have N1 : Hid (NewInts wo.heap.size w5 (.slice a' ((natI IL).length + 1) c') (natI IL ++ [(m : Int)])) := n1
                have B5 : Hid (Below wo.heap.size wo w5) := HBI.out.trans b1
                clear hr1 n1 b1
                generalize (natI IL).length + 1 = LL1 at *
                go_wp2_with (at_builtin; refine wpList_append_ty rfl _ _ 24 24 rfl _ _ _ rfl rfl R1'.out ?_)
                go_roundw
                case rel => exact ⟨m + 1, by omega, by go_num, by rw [EA.out, natI_app]; exact newInts_down N1.out SIX.out, HB.out.trans (B5.out.mono SIX.out)⟩
                case measure => simp [intOf]; omega
              · have EA : Hid (gradeTo d (m + 1) = (insTo d m L0 m).2) := by
                  show insAll d m (gradeTo d m) = _
                  rw [← HL0.out]
                  unfold insAll
                  rw [L0L.out, if_neg (by rw [hp]; simp)]
                clear hp
                go_wp2
                go_roundw
                case rel => exact ⟨m + 1, by omega, by go_num, by rw [EA.out]; exact newInts_down HN.out SIX.out, HB.out.trans (HBI.out.mono SIX.out)⟩
                case measure => simp [intOf]; omega
        · obtain rfl : k = d.length := by omega
          have R : Hid (Box wr (w.heap.size + 1) (.slice none 0 0) (.slice none 0 0) 26) := R1.out.keep HB.out
          have HV : Hid (Calls Try.prog 40 #[.slice ao d.length co] wr fun e w' => ∃ v, e = .returned v ∧ Arr wr.heap.size w'.heap.size w' v [(d.length : Int)] (natI (gradeTo d d.length)) ∧ Below wr.heap.size wr w') := by
            have q := vector_spec co IO.out (by rw [ZL.out]; omega)
            rw [ZL.out] at q
            exact q
          go_wp2_with fail
          refine HV.out.mono ?_
          rintro r w3 ⟨v3, rfl, hA, hb⟩
          obtain ⟨va, vc, vb, ve, rfl, _, _, _, _⟩ := hA.arrI
          rw [ZL.out]
          have A3 : Hid (Arr wr.heap.size w3.heap.size w3 (.agg #[.slice va 1 vc, .slice vb d.length ve]) [(d.length : Int)] (natI (gradeTo d d.length))) := by rw [ZL.out] at hA; exact hA
          have R3 : Hid (Box w3 (w.heap.size + 1) (.slice none 0 0) (.slice none 0 0) 26) := R.out.keep hb
          have B3 : Hid (Below w.heap.size w w3) := bTrans (bTrans HB1.out HB.out) hb
          have LR : Hid (w.heap.size + 1 < wr.heap.size) := R.out.lt
          have S3 : Hid (wr.heap.size ≤ w3.heap.size) := hb.size
          have HR : Hid (((w3.setCell ⟨w.heap.size + 1, 0, none⟩ (.slice va 1 vc)).setCell ⟨w.heap.size + 1, 1, none⟩ (.slice vb d.length ve)).heap[w.heap.size + 1]? = some (.cells #[.slice va 1 vc, .slice vb d.length ve] 26 (0, 0))) := arr_stored R3.out
          have r0 := R3.out.c0
          have r1 := R3.out.c1
          have f0 : w3.frozen? ⟨w.heap.size + 1, 0, none⟩ = false := free_at R3.out 0
          have f1 : w3.frozen? ⟨w.heap.size + 1, 1, none⟩ = false := free_at R3.out 1
          clear hA hb
          go_wp2
          refine bodyPost_ret (results_arr_tmp Try.results16 _ _ (w.heap.size + 1) _ _ rfl HR.out) rfl ?_
          refine ⟨_, rfl, ?_, below_setCell (below_setCell B3.out (by omega) _ _) (by omega) _ _⟩
          have l1 := LR.out
          have l2 := S3.out
          exact ((A3.out.setCell (by omega) _ _).setCell (by omega) _ _).mono (by omega) (by simp only [size_setCell]; omega)
    · have ER : gradeR s d = (4, [], []) := by unfold gradeR gradeC; rw [if_pos ho, if_neg hl]; exact mkR_bad (by decide) _ _
      have hlb : ((s.length : Int) != 1) = true := by simp; omega
      rw [ER]
      clear ER ho hl
      go_enter Try.func16, Try.ntmps16
      go_wp2_with fail
      refine (arrOk_spec (H.out.keep (bAlloc (bAlloc (Below.refl _ _) _) _)) HD.out).mono ?_
      rintro r w1 ⟨rfl, hb⟩
      have HB1 : Hid (Below w.heap.size w w1) := bTrans (bAlloc (bAlloc (Below.refl _ _) _) _) hb
      have X1 : Hid (Box w1 w.heap.size (.slice a s.length c) (.slice b d.length f) 26) := QX.out.keep hb
      have R1 : Hid (Box w1 (w.heap.size + 1) (.slice none 0 0) (.slice none 0 0) 26) := QR.out.keep hb
      rw [HO.out]
      have x0 := X1.out.c0
      have x1 := X1.out.c1
      clear hb QX QR
      have HR : Hid (((w1.setCell ⟨w.heap.size + 1, 0, none⟩ (.slice none 0 0)).setCell ⟨w.heap.size + 1, 1, none⟩ (.slice none 0 0)).heap[w.heap.size + 1]? = some (.cells #[.slice none 0 0, .slice none 0 0] 26 (0, 0))) := arr_stored R1.out
      have r0 := R1.out.c0
      have r1 := R1.out.c1
      have f0 : w1.frozen? ⟨w.heap.size + 1, 0, none⟩ = false := free_at R1.out 0
      have f1 : w1.frozen? ⟨w.heap.size + 1, 1, none⟩ = false := free_at R1.out 1
      go_wp2
      refine bodyPost_ret (results_arr_tmp Try.results16 _ _ (w.heap.size + 1) _ _ rfl HR.out) rfl ?_
      exact ⟨_, rfl, arr_zero _ _ _, below_setCell (below_setCell HB1.out (by omega) _ _) (by omega) _ _⟩
  · have HO : Hid (arrOk s d = false) := by show _ = _; simpa using ho
    have ER : gradeR s d = (1, [], []) := by unfold gradeR gradeC; rw [if_neg ho]; exact mkR_bad (by decide) _ _
    rw [ER]
    clear ER ho
    go_enter Try.func16, Try.ntmps16
    go_wp2_with fail
    refine (arrOk_spec (H.out.keep (bAlloc (bAlloc (Below.refl _ _) _) _)) HD.out).mono ?_
    rintro r w1 ⟨rfl, hb⟩
    have HB1 : Hid (Below w.heap.size w w1) := bTrans (bAlloc (bAlloc (Below.refl _ _) _) _) hb
    have R1 : Hid (Box w1 (w.heap.size + 1) (.slice none 0 0) (.slice none 0 0) 26) := QR.out.keep hb
    rw [HO.out]
    clear hb QX QR
    have HR : Hid (((w1.setCell ⟨w.heap.size + 1, 0, none⟩ (.slice none 0 0)).setCell ⟨w.heap.size + 1, 1, none⟩ (.slice none 0 0)).heap[w.heap.size + 1]? = some (.cells #[.slice none 0 0, .slice none 0 0] 26 (0, 0))) := arr_stored R1.out
    have r0 := R1.out.c0
    have r1 := R1.out.c1
    have f0 : w1.frozen? ⟨w.heap.size + 1, 0, none⟩ = false := free_at R1.out 0
    have f1 : w1.frozen? ⟨w.heap.size + 1, 1, none⟩ = false := free_at R1.out 1
    go_wp2
    refine bodyPost_ret (results_arr_tmp Try.results16 _ _ (w.heap.size + 1) _ _ rfl HR.out) rfl ?_
    exact ⟨_, rfl, arr_zero _ _ _, below_setCell (below_setCell HB1.out (by omega) _ _) (by omega) _ _⟩
end Go.Proofs.Ythjjjnapcbkhjaa
namespace Go.Proofs
open Go.Shelf
def Try.lays189_ren : Go.Shelf.Ren := ⟨fun | 189 => 86 | 125 => 100 | 257 => 99 | 128 => 112 | 129 => 113 | 294 => 103 | 295 => 104 | 296 => 105 | 297 => 106 | 298 => 107 | 299 => 108 | 216 => 109 | 300 => 110 | 301 => 111 | 328 => 114 | 329 => 115 | 330 => 116 | 331 => 117 | 332 => 118 | 215 => 119 | 343 => 120 | n => n, fun | 28 => 24 | 3 => 3 | 46 => 99 | 0 => 0 | 51 => 112 | 53 => 114 | 4 => 4 | 183 => 106 | 182 => 105 | 131 => 76 | 5 => 5 | 9 => 9 | 218 => 115 | 222 => 119 | 228 => 121 | 229 => 46 | n => n, fun | n => n⟩
theorem Try.lays189 : Go.Proofs.Lays.n189 Try.prog Try.lays189_ren := {
  mixed := by kernel_rfl
  f125 := Try.func100.trans (congrArg some (by kernel_rfl))
  f128 := Try.func112.trans (congrArg some (by kernel_rfl))
  f129 := Try.func113.trans (congrArg some (by kernel_rfl))
  f189 := Try.func86.trans (congrArg some (by kernel_rfl))
  f215 := Try.func119.trans (congrArg some (by kernel_rfl))
  f216 := Try.func109.trans (congrArg some (by kernel_rfl))
  f257 := Try.func99.trans (congrArg some (by kernel_rfl))
  f294 := Try.func103.trans (congrArg some (by kernel_rfl))
  f295 := Try.func104.trans (congrArg some (by kernel_rfl))
  f296 := Try.func105.trans (congrArg some (by kernel_rfl))
  f297 := Try.func106.trans (congrArg some (by kernel_rfl))
  f298 := Try.func107.trans (congrArg some (by kernel_rfl))
  f299 := Try.func108.trans (congrArg some (by kernel_rfl))
  f300 := Try.func110.trans (congrArg some (by kernel_rfl))
  f301 := Try.func111.trans (congrArg some (by kernel_rfl))
  f328 := Try.func114.trans (congrArg some (by kernel_rfl))
  f329 := Try.func115.trans (congrArg some (by kernel_rfl))
  f330 := Try.func116.trans (congrArg some (by kernel_rfl))
  f331 := Try.func117.trans (congrArg some (by kernel_rfl))
  f332 := Try.func118.trans (congrArg some (by kernel_rfl))
  f343 := Try.func120.trans (congrArg some (by kernel_rfl))
  t0 := Try.underlying0
  a0 := Try.isAgg0
  z0 := Try.sizeOf0
  v0 := Try.zeroValue0
  t3 := Try.underlying3
  a3 := Try.isAgg3
  z3 := Try.sizeOf3
  v3 := Try.zeroValue3
  t4 := Try.underlying4
  a4 := Try.isAgg4
  z4 := Try.sizeOf4
  v4 := Try.zeroValue4
  t5 := Try.underlying5
  a5 := Try.isAgg5
  z5 := Try.sizeOf5
  v5 := Try.zeroValue5
  t9 := Try.underlying9
  a9 := Try.isAgg9
  z9 := Try.sizeOf9
  v9 := Try.zeroValue9
  t28 := Try.underlying24
  a28 := Try.isAgg24
  z28 := Try.sizeOf24
  v28 := Try.zeroValue24
  t46 := Try.underlying99
  a46 := Try.isAgg99
  z46 := Try.sizeOf99
  v46 := Try.zeroValue99
  t51 := Try.underlying112
  a51 := Try.isAgg112
  z51 := Try.sizeOf112
  v51 := Try.zeroValue112
  t53 := Try.underlying114
  a53 := Try.isAgg114
  z53 := Try.sizeOf114
  v53 := Try.zeroValue114
  t131 := Try.underlying76
  a131 := Try.isAgg76
  z131 := Try.sizeOf76
  v131 := Try.zeroValue76
  t182 := Try.underlying105
  a182 := Try.isAgg105
  z182 := Try.sizeOf105
  v182 := Try.zeroValue105
  t183 := Try.underlying106
  a183 := Try.isAgg106
  z183 := Try.sizeOf106
  v183 := Try.zeroValue106
  t218 := Try.underlying115
  a218 := Try.isAgg115
  z218 := Try.sizeOf115
  v218 := Try.zeroValue115
  t222 := Try.underlying119
  a222 := Try.isAgg119
  z222 := Try.sizeOf119
  v222 := Try.zeroValue119
  t228 := Try.underlying121
  a228 := Try.isAgg121
  z228 := Try.sizeOf121
  v228 := Try.zeroValue121
  t229 := Try.underlying46
  a229 := Try.isAgg46
  z229 := Try.sizeOf46
  v229 := Try.zeroValue46 }
end Go.Proofs
namespace Go.Proofs.Ythjjjnapcbkhjaa
open Go.RowKit
set_option linter.unusedVariables false
structure OutB (g : Nat) (W0 wr : World) (sv : Value) (ad : Option Addr) (cd k : Nat) (m : List Int) : Prop where
  box : Box wr g sv (.slice ad k cd) 26
  row : NewInts W0.heap.size wr (.slice ad k cd) m
  win : Win g (g + 1) W0 wr
  lt : g < W0.heap.size
  len : m.length = k
theorem outB_new {W : World} {g : Nat} {sv : Value} (h : Box W g sv (.slice none 0 0) 26) : OutB g W W sv none 0 0 [] :=
  ⟨h, NewInts.nil _ _, ⟨rfl, rfl, rfl, Nat.le_refl _, fun _ _ _ => rfl⟩, h.lt, rfl⟩
theorem OutB.keep {g cd k : Nat} {W0 wr w' : World} {sv : Value} {ad : Option Addr} {m : List Int} (h : OutB g W0 wr sv ad cd k m) (hb : Below wr.heap.size wr w') : OutB g W0 w' sv ad cd k m :=
  ⟨h.box.keep hb, h.row.keep hb, ⟨hb.os.trans h.win.os, hb.tape.trans h.win.tape, hb.output.trans h.win.output, Nat.le_trans h.win.size hb.size, fun k h1 h2 => (hb.block k (Nat.lt_of_lt_of_le h1 h.win.size)).trans (h.win.block k h1 h2)⟩, h.lt, h.len⟩
theorem OutB.cells {g cd k : Nat} {W0 wr : World} {sv : Value} {ad : Option Addr} {m : List Int} (h : OutB g W0 wr sv ad cd k m) : wr.cell? ⟨g, 0, none⟩ = some sv ∧ wr.cell? ⟨g, 1, none⟩ = some (.slice ad k cd) ∧ wr.frozen? ⟨g, 0, none⟩ = false ∧ wr.frozen? ⟨g, 1, none⟩ = false :=
  ⟨h.box.c0, h.box.c1, free_at h.box 0, free_at h.box 1⟩
/-- A list more. -/
theorem OutB.growL {g cd k : Nat} {W0 wr : World} {sv : Value} {ad : Option Addr} {m l : List Int} {a : Option Addr} (h : OutB g W0 wr sv ad cd k m) (hi : Ints wr a l) (hk : k + l.length ≤ 1048576) (c : Nat) :
    ∃ a' c' w', (Builtin.append_ #[24, 24] 24 #[.slice ad k cd, .slice a l.length c]).run Try.prog wr = .ok (.slice a' (k + l.length) c') w' ∧ Box w' g sv (.slice ad k cd) 26 ∧ OutB g W0 (w'.setCell ⟨g, 1, none⟩ (.slice a' (k + l.length) c')) sv a' c' (k + l.length) (m ++ l) := by
  obtain ⟨a', c', w', hr, hn, hb⟩ := Go.Proofs.Ythjjjnapcbkhjaa.growL h.row hi h.win.size (by rw [h.len]; exact hk) c
  rw [List.length_append, h.len] at hr hn
  have hl := h.lt
  have hx : Box w' g sv (.slice ad k cd) 26 := by
    unfold Box; rw [hb.block g hl]; exact h.box
  refine ⟨a', c', w', hr, hx, ?_, ?_, ?_, hl, by simp [h.len]⟩
  · have := heap_setCell_same w' g 1 _ _ (.slice a' (k + l.length) c') hx
    unfold Box; simpa using this
  · exact hn.but ((But.refl g w').setCell 1 (.slice a' (k + l.length) c')) (by omega)
  · have s1 := win_setCell w' g 1 (.slice a' (k + l.length) c')
    have hz := h.win.size
    have hb2 := hb.size
    refine ⟨s1.os.trans (hb.os.trans h.win.os), s1.tape.trans (hb.tape.trans h.win.tape), s1.output.trans (hb.output.trans h.win.output), Nat.le_trans hz (Nat.le_trans hb2 s1.size), fun o h1 h2 => ?_⟩
    exact (s1.block o (by omega) h2).trans ((hb.block o h1).trans (h.win.block o h1 h2))
/-- One number more. -/
theorem OutB.grow1 {g cd k : Nat} {W0 wr : World} {sv : Value} {ad : Option Addr} {m : List Int} (h : OutB g W0 wr sv ad cd k m) (hk : k < 1048576) (x : Int) :
    ∃ a' c' w', (Builtin.append_ #[24, 24] 24 #[.slice ad k cd, .slice (some ⟨wr.heap.size, 0, none⟩) 1 1]).run Try.prog (wr.alloc (.cells #[.int .i64 x] 3)) = .ok (.slice a' (k + 1) c') w' ∧ Box w' g sv (.slice ad k cd) 26 ∧ OutB g W0 (w'.setCell ⟨g, 1, none⟩ (.slice a' (k + 1) c')) sv a' c' (k + 1) (m ++ [x]) := by
  obtain ⟨a', c', w', hr, hn, hb⟩ := Go.Proofs.Ythjjjnapcbkhjaa.grow1 x h.row h.win.size (by rw [h.len]; exact hk)
  rw [h.len] at hr hn
  have hl := h.lt
  have hx : Box w' g sv (.slice ad k cd) 26 := by
    unfold Box; rw [hb.block g hl]; exact h.box
  refine ⟨a', c', w', hr, hx, ?_, ?_, ?_, hl, by simp [h.len]⟩
  · have := heap_setCell_same w' g 1 _ _ (.slice a' (k + 1) c') hx
    unfold Box; simpa using this
  · exact hn.but ((But.refl g w').setCell 1 (.slice a' (k + 1) c')) (by omega)
  · have s1 := win_setCell w' g 1 (.slice a' (k + 1) c')
    have hz := h.win.size
    have hb2 := hb.size
    refine ⟨s1.os.trans (hb.os.trans h.win.os), s1.tape.trans (hb.tape.trans h.win.tape), s1.output.trans (hb.output.trans h.win.output), Nat.le_trans hz (Nat.le_trans hb2 s1.size), fun o h1 h2 => ?_⟩
    exact (s1.block o (by omega) h2).trans ((hb.block o h1).trans (h.win.block o h1 h2))
/-- The array that was made: its shape lies elsewhere. -/
theorem OutB.arr {g cd k B E : Nat} {W0 wr : World} {a : Option Addr} {c : Nat} {ad : Option Addr} {m S : List Int} (h : OutB g W0 wr (.slice a S.length c) ad cd k m) (hS : Piece B E W0 (.slice a S.length c) S) (hE : E ≤ W0.heap.size) (hB : B ≤ W0.heap.size) (hg : E ≤ g ∨ g + 1 ≤ B) : Arr B wr.heap.size wr (.agg #[.slice a S.length c, .slice ad k cd]) S m := by
  have p1 : Piece B E wr (.slice a S.length c) S := hS.win h.win hg
  have p2 := h.row.piece
  have hz := h.win.size
  exact ⟨_, _, rfl, p1.mono (Nat.le_refl _) (by omega), p2.mono hB (Nat.le_refl _), p1.apart p2 (.inl hE)⟩
/-- Growing by a list: what else stands, and where the list lies then. -/
theorem growX {B : Nat} {w : World} {v : Value} {l m : List Int} {a : Option Addr} (h : NewInts B w v l) (hm : Ints w a m) (hB : B ≤ w.heap.size) (hl : l.length + m.length ≤ 1048576) (c : Nat) :
    ∃ a' c' w', (Builtin.append_ #[24, 24] 24 #[v, .slice a m.length c]).run Try.prog w = .ok (.slice a' (l ++ m).length c') w' ∧ NewInts B w' (.slice a' (l ++ m).length c') (l ++ m) ∧ Below B w w' ∧ (∀ o, o < w.heap.size → v.ownBlock ≠ some o → w'.heap[o]? = w.heap[o]?) ∧ ((Value.slice a' (l ++ m).length c').ownBlock = v.ownBlock ∨ (Value.slice a' (l ++ m).length c').ownBlock = some w.heap.size) := by
  obtain ⟨i, hq, z1, z2, z3⟩ : ∃ i, Try.prog.info? 3 = some i ∧ i.zero = some (.int .i64 0) ∧ i.size = 1 ∧ i.bytes = 8 := by
    have hi := info_int
    cases hq : Try.prog.info? 3 with
    | none => rw [hq] at hi; cases hi
    | some i => rw [hq] at hi; simp at hi; exact ⟨i, rfl, hi.1, hi.2.1, hi.2.2⟩
  cases a with
  | none =>
    obtain rfl : m = [] := by
      rcases hm with h | ⟨b, off, e, _⟩
      · exact h
      · cases e
    obtain ⟨base, cap, rfl, hle⟩ : ∃ base cap, v = .slice base l.length cap ∧ l.length ≤ cap := by
      rcases h.2 with ⟨e, h0⟩ | ⟨g, cap, cur, e, _, _, hle, _⟩
      · exact ⟨none, 0, by rw [e, h0], by omega⟩
      · exact ⟨_, cap, e, hle⟩
    refine ⟨base, cap, w, ?_, by simpa using h, Below.refl _ _, fun _ _ _ => rfl, .inl (by simp)⟩
    have := run_append_nothing (P := Try.prog) w 24 24 24 3 i Try.underlying24 hq base l.length cap hle (.slice none 0 c) (by rw [z2]; exact Src.ofNil w Try.underlying24 c)
    simpa using this
  | some ad =>
    have hn : ∀ (j : Nat) (u : Value), (m.map (Value.int .i64))[j]? = some u → w.cell? (ad.add j) = some u := by
      rcases hm with rfl | ⟨b, off, e, _, hc⟩
      · intro j u hu; simp at hu
      · cases e; exact ints_news hc
    obtain ⟨v', w', hr, h2, h3, _, h5⟩ := run_append_own_at (P := Try.prog) w B 24 24 3 i (.int .i64 0) 1 8 Try.underlying24 hq z1 z2 z3 rfl (by decide) v l.length (l.map (Value.int .i64)) h ad m.length c (m.map (Value.int .i64)) (by simp) hn (by intro u hu; obtain ⟨x, _, rfl⟩ := List.mem_map.1 hu; rfl) (by unfold maxLen; omega) (by omega) hB
    have h2' : NewInts B w' v' (l ++ m) := by
      show World.ownsRow _ _ _ _ _ _ _
      simpa using h2
    obtain ⟨a', c', rfl, _⟩ := h2'.ints
    exact ⟨a', c', w', hr, h2', grown_below h3 h.row hB, fun o ho hne => h3.block o ho (fun e => hne e.symm), h5⟩
/-- A list of numbers does not lie in a box of two lists. -/
theorem Piece.notBox {B C g : Nat} {w : World} {v : Value} {l : List Int} {a b : Option Addr} {n c n' c' : Nat} {T : TypeId} (h : Piece B C w v l) (hb : Box w g (.slice a n c) (.slice b n' c') T) : NotAt g v := by
  obtain ⟨a0, c0, rfl, hle, h⟩ := h
  intro off m cc e
  cases l with
  | nil => cases e; rfl
  | cons x l =>
    rcases h with h | ⟨o, of, cur, t, rfl, _, _, hg, hr⟩
    · cases h
    · exfalso
      cases e
      unfold Box at hb
      rw [hb] at hg
      cases hg
      have := hr 0 (by simp)
      rw [Nat.add_zero] at this
      match off, this with
      | 0, h => simp at h
      | 1, h => simp at h
      | k + 2, h => simp at h
theorem Piece.winB {B C g : Nat} {w w' : World} {v : Value} {l : List Int} (h : Piece B C w v l) (hw : Win g (g + 1) w w') (hn : NotAt g v) (hC : C ≤ w.heap.size) : Piece B C w' v l := by
  obtain ⟨a, c, rfl, hle, h⟩ := h
  refine ⟨a, c, rfl, hle, ?_⟩
  rcases h with rfl | ⟨o, off, cur, t, rfl, h1, h2, hg, r⟩
  · exact .inl rfl
  · by_cases e : o = g
    · subst e
      have := hn _ _ _ rfl
      exact .inl (List.eq_nil_of_length_eq_zero this)
    · exact .inr ⟨o, off, cur, t, rfl, h1, h2, by rw [hw.block o (by omega) (by omega)]; exact hg, r⟩
/-- The array that was made, its shape anywhere but in its own box. -/
theorem OutB.arrN {g cd k B E : Nat} {W0 wr : World} {a : Option Addr} {c : Nat} {ad : Option Addr} {m S : List Int} (h : OutB g W0 wr (.slice a S.length c) ad cd k m) (hS : Piece B E W0 (.slice a S.length c) S) (hE : E ≤ W0.heap.size) (hB : B ≤ W0.heap.size) (hn : NotAt g (.slice a S.length c)) : Arr B wr.heap.size wr (.agg #[.slice a S.length c, .slice ad k cd]) S m := by
  have p1 : Piece B E wr (.slice a S.length c) S := hS.winB h.win hn hE
  have p2 := h.row.piece
  have hz := h.win.size
  exact ⟨_, _, rfl, p1.mono (Nat.le_refl _) (by omega), p2.mono hB (Nat.le_refl _), p1.apart p2 (.inl hE)⟩
/-- A list of numbers of one's own does not lie in a box of an array. -/
theorem newInts_notBox {B g : Nat} {w : World} {v x y : Value} {l : List Int} (h : NewInts B w v l) (hb : Box w g x y 26) : v.ownBlock ≠ some g := by
  rcases h.2 with ⟨rfl, _⟩ | ⟨o, cap, cur, rfl, _, hg, _⟩
  · simp [Value.ownBlock]
  · intro e
    simp only [Value.ownBlock, Option.some.injEq] at e
    subst e
    unfold Box at hb
    rw [hb] at hg
    injection hg with hg
    injection hg with _ h2 _
    exact absurd h2 (by decide)
theorem notAt_own {g : Nat} {v : Value} (h : v.ownBlock ≠ some g) : NotAt g v := by
  intro off n c e
  subst e
  exact absurd rfl h
theorem newInts_setBox {B g i : Nat} {w : World} {v x y u : Value} {l : List Int} (h : NewInts B w v l) (hb : Box w g x y 26) : NewInts B (w.setCell ⟨g, i, none⟩ u) v l := by
  have hn := newInts_notBox h hb
  obtain ⟨h1, h2⟩ := h
  refine ⟨h1, ?_⟩
  rcases h2 with h2 | ⟨o, cap, cur, rfl, hB, hg, r⟩
  · exact .inl h2
  · refine .inr ⟨o, cap, cur, rfl, hB, ?_, r⟩
    rw [heap_setCell_other _ _ _ _ (by show o ≠ g; intro e; subst e; exact hn rfl)]
    exact hg
/-- Growing by a list: boxes of arrays stand. -/
theorem growK {B : Nat} {w : World} {v : Value} {l m : List Int} {a : Option Addr} (h : NewInts B w v l) (hm : Ints w a m) (hB : B ≤ w.heap.size) (hl : l.length + m.length ≤ 1048576) (c : Nat) :
    ∃ a' c' w', (Builtin.append_ #[24, 24] 24 #[v, .slice a m.length c]).run Try.prog w = .ok (.slice a' (l ++ m).length c') w' ∧ NewInts B w' (.slice a' (l ++ m).length c') (l ++ m) ∧ Below B w w' ∧ (∀ g x y, Box w g x y 26 → Box w' g x y 26) := by
  obtain ⟨a', c', w', r, n, b, k, _⟩ := growX h hm hB hl c
  refine ⟨a', c', w', r, n, b, fun g x y hb => ?_⟩
  unfold Box
  rw [k g hb.lt (newInts_notBox h hb)]
  exact hb
theorem shape_put {w V : World} {q : Nat} {v x0 y0 : Value} {l : List Int} (hb : Below w.heap.size w V) (hq : w.heap.size ≤ q) (bq : Box V q x0 y0 26) (n : NewInts w.heap.size V v l) :
    Box ((V.setCell ⟨q, 0, none⟩ v).setCell ⟨q, 1, none⟩ (.slice none 0 0)) q v (.slice none 0 0) 26 ∧ NewInts w.heap.size ((V.setCell ⟨q, 0, none⟩ v).setCell ⟨q, 1, none⟩ (.slice none 0 0)) v l ∧ Below w.heap.size w ((V.setCell ⟨q, 0, none⟩ v).setCell ⟨q, 1, none⟩ (.slice none 0 0)) := by
  have b1 : Box (V.setCell ⟨q, 0, none⟩ v) q v y0 26 := by
    have := heap_setCell_same V q 0 _ _ v bq
    unfold Box; simpa using this
  exact ⟨arr_stored bq, newInts_setBox (newInts_setBox n bq) b1, below_setCell (below_setCell hb hq _ _) hq _ _⟩
theorem shape_new {w V : World} {v : Value} {l : List Int} (hb : Below w.heap.size w V) (n : NewInts w.heap.size V v l) :
    Box (V.alloc (.cells #[v, .slice none 0 0] 26)) V.heap.size v (.slice none 0 0) 26 ∧ NewInts w.heap.size (V.alloc (.cells #[v, .slice none 0 0] 26)) v l ∧ Below w.heap.size w (V.alloc (.cells #[v, .slice none 0 0] 26)) :=
  ⟨box_new V _ _ _, n.keep (bAlloc (Below.refl _ _) _), bAlloc hb _⟩
/-- Two lists one behind the other, in whatever order the box of the answer is laid among the steps: the four ways. -/
theorem shape_ways {w : World} {a b : Option Addr} {l m : List Int} (ha : Ints w a l) (hb : Ints w b m) (hl : l.length + m.length ≤ 1048576) (c c' : Nat) (E N : Obj) (hE : E = .cells #[] 3) (hN : N = .cells #[.slice none 0 0, .slice none 0 0] 26) :
    ∃ aA cA wA aB cB wB aC cC wC aD cD wD aE cE wE aF cF wF aG cG wG,
      ((Builtin.append_ #[24, 24] 24 #[.slice (some ⟨w.heap.size, 0, none⟩) 0 0, .slice a l.length c]).run Try.prog (World.drew (w.alloc E)) = .ok (.slice aA l.length cA) wA ∧
       (Builtin.append_ #[24, 24] 24 #[.slice (some ⟨w.heap.size + 1, 0, none⟩) 0 0, .slice a l.length c]).run Try.prog (World.drew ((w.alloc N).alloc E)) = .ok (.slice aB l.length cB) wB ∧
       (Builtin.append_ #[24, 24] 24 #[.slice (some ⟨w.heap.size, 0, none⟩) 0 0, .slice a l.length c]).run Try.prog (World.drew ((w.alloc E).alloc N)) = .ok (.slice aC l.length cC) wC ∧
       (Builtin.append_ #[24, 24] 24 #[.slice aA l.length cA, .slice b m.length c']).run Try.prog wA = .ok (.slice aD (l.length + m.length) cD) wD ∧
       (Builtin.append_ #[24, 24] 24 #[.slice aA l.length cA, .slice b m.length c']).run Try.prog (wA.alloc N) = .ok (.slice aE (l.length + m.length) cE) wE ∧
       (Builtin.append_ #[24, 24] 24 #[.slice aB l.length cB, .slice b m.length c']).run Try.prog wB = .ok (.slice aF (l.length + m.length) cF) wF ∧
       (Builtin.append_ #[24, 24] 24 #[.slice aC l.length cC, .slice b m.length c']).run Try.prog wC = .ok (.slice aG (l.length + m.length) cG) wG) ∧
      (Below w.heap.size w wA ∧ Below w.heap.size w wB ∧ Below w.heap.size w wC ∧ Below w.heap.size w wD ∧ Below w.heap.size w wE ∧ Below w.heap.size w wF ∧ Below w.heap.size w wG) ∧
      (NewInts w.heap.size wD (.slice aD (l ++ m).length cD) (l ++ m) ∧ NewInts w.heap.size wE (.slice aE (l ++ m).length cE) (l ++ m) ∧ NewInts w.heap.size wF (.slice aF (l ++ m).length cF) (l ++ m) ∧ NewInts w.heap.size wG (.slice aG (l ++ m).length cG) (l ++ m)) ∧
      (Box wE wA.heap.size (.slice none 0 0) (.slice none 0 0) 26 ∧ Box wB w.heap.size (.slice none 0 0) (.slice none 0 0) 26 ∧ Box wF w.heap.size (.slice none 0 0) (.slice none 0 0) 26 ∧ Box wC (w.heap.size + 1) (.slice none 0 0) (.slice none 0 0) 26 ∧ Box wG (w.heap.size + 1) (.slice none 0 0) (.slice none 0 0) 26) := by
  have s1 : (w.alloc N).heap.size = w.heap.size + 1 := by simp
  have BA : Below w.heap.size w (World.drew (w.alloc E)) := (bAlloc (Below.refl _ _) _).drew
  have BB : Below w.heap.size w (World.drew ((w.alloc N).alloc E)) := (bAlloc (bAlloc (Below.refl _ _) _) _).drew
  have BC : Below w.heap.size w (World.drew ((w.alloc E).alloc N)) := (bAlloc (bAlloc (Below.refl _ _) _) _).drew
  have NA0 : NewInts w.heap.size (w.alloc E) (.slice (some ⟨w.heap.size, 0, none⟩) 0 0) [] := by rw [hE]; exact newInts_alloc w [] (Nat.le_refl _) (by simp)
  have NA : NewInts w.heap.size (World.drew (w.alloc E)) (.slice (some ⟨w.heap.size, 0, none⟩) 0 0) [] := NA0.keep ((Below.refl _ _).drew)
  have NB : NewInts w.heap.size (World.drew ((w.alloc N).alloc E)) (.slice (some ⟨w.heap.size + 1, 0, none⟩) 0 0) [] := by
    have q : NewInts w.heap.size ((w.alloc N).alloc E) (.slice (some ⟨(w.alloc N).heap.size, 0, none⟩) 0 0) [] := by rw [hE]; exact newInts_alloc (w.alloc N) [] (by omega) (by simp)
    rw [s1] at q
    exact q.keep ((Below.refl _ _).drew)
  have NC : NewInts w.heap.size (World.drew ((w.alloc E).alloc N)) (.slice (some ⟨w.heap.size, 0, none⟩) 0 0) [] := NA0.keep ((bAlloc (Below.refl _ _) N).drew)
  obtain ⟨aA, cA, wA, rA, nA, bA, kA⟩ := growK NA (ha.keep BA) BA.size (by simp; omega) c
  obtain ⟨aB, cB, wB, rB, nB, bB, kB⟩ := growK NB (ha.keep BB) BB.size (by simp; omega) c
  obtain ⟨aC, cC, wC, rC, nC, bC, kC⟩ := growK NC (ha.keep BC) BC.size (by simp; omega) c
  rw [List.nil_append] at rA rB rC nA nB nC
  have bA := BA.trans bA
  have bB := BB.trans bB
  have bC := BC.trans bC
  have bAN : Below w.heap.size w (wA.alloc N) := bAlloc bA _
  obtain ⟨aD, cD, wD, rD, nD, bD, kD⟩ := growK nA (hb.keep bA) bA.size hl c'
  obtain ⟨aE, cE, wE, rE, nE, bE, kE⟩ := growK (nA.keep (bAlloc (Below.refl _ _) N)) (hb.keep bAN) bAN.size hl c'
  obtain ⟨aF, cF, wF, rF, nF, bF, kF⟩ := growK nB (hb.keep bB) bB.size hl c'
  obtain ⟨aG, cG, wG, rG, nG, bG, kG⟩ := growK nC (hb.keep bC) bC.size hl c'
  have xB : Box (World.drew ((w.alloc N).alloc E)) w.heap.size (.slice none 0 0) (.slice none 0 0) 26 := by rw [hN]; exact heap_alloc2_old w _ _
  have xC : Box (World.drew ((w.alloc E).alloc N)) (w.heap.size + 1) (.slice none 0 0) (.slice none 0 0) 26 := by rw [hN]; exact heap_alloc2_new w _ _
  have xE : Box (wA.alloc N) wA.heap.size (.slice none 0 0) (.slice none 0 0) 26 := by rw [hN]; exact box_new wA _ _ _
  have eL : (l ++ m).length = l.length + m.length := List.length_append
  refine ⟨aA, cA, wA, aB, cB, wB, aC, cC, wC, aD, cD, wD, aE, cE, wE, aF, cF, wF, aG, cG, wG, ⟨rA, rB, rC, ?_, ?_, ?_, ?_⟩, ⟨bA, bB, bC, bA.trans bD, bAN.trans bE, bB.trans bF, bC.trans bG⟩, ⟨nD, nE, nF, nG⟩, ⟨kE _ _ _ xE, kB _ _ _ xB, kF _ _ _ (kB _ _ _ xB), kC _ _ _ xC, kG _ _ _ (kC _ _ _ xC)⟩⟩
  · rw [← eL]; exact rD
  · rw [← eL]; exact rE
  · rw [← eL]; exact rF
  · rw [← eL]; exact rG
end Go.Proofs.Ythjjjnapcbkhjaa
namespace Go.Proofs.Ythjjjnapcbkhjaa
open Go.RowKit
set_option linter.unusedVariables false
/-- Begun in block b0; since the world wR nothing has turned but that block and what is newer. -/
structure OutQ (b0 : Nat) (wR w : World) (v : Value) (l : List Int) : Prop where
  row : NewInts b0 w v l
  own : v.ownBlock = some b0 ∨ ∃ o, v.ownBlock = some o ∧ wR.heap.size ≤ o
  win : Win b0 (b0 + 1) wR w
  lt : b0 < wR.heap.size
theorem OutQ.grow {b0 : Nat} {wR w : World} {v : Value} {l m : List Int} {a : Option Addr} (h : OutQ b0 wR w v l) (hm : Ints w a m) (hl : l.length + m.length ≤ 1048576) (c : Nat) :
    ∃ a' c' w', (Builtin.append_ #[24, 24] 24 #[v, .slice a m.length c]).run Try.prog w = .ok (.slice a' (l ++ m).length c') w' ∧ OutQ b0 wR w' (.slice a' (l ++ m).length c') (l ++ m) := by
  have hs := h.win.size
  have hl0 := h.lt
  obtain ⟨a', c', w', r, n, b, k, e⟩ := growX h.row hm (by omega) hl c
  refine ⟨a', c', w', r, n, ?_, ?_, hl0⟩
  · rcases e with e | e
    · rw [e]; exact h.own
    · exact .inr ⟨_, e, hs⟩
  · refine ⟨b.os.trans h.win.os, b.tape.trans h.win.tape, b.output.trans h.win.output, Nat.le_trans hs b.size, fun o ho hd => ?_⟩
    rw [k o (by omega) (fun eq => ?_), h.win.block o ho hd]
    rcases h.own with q | ⟨o', q, hq'⟩
    · rw [q] at eq; cases eq; omega
    · rw [q] at eq; cases eq; omega
theorem OutQ.drewN {b0 : Nat} {wR w : World} {v : Value} {l : List Int} (h : OutQ b0 wR w v l) (n : Nat) : OutQ b0 wR (w.drewN n) v l :=
  ⟨h.row.keep (bDrewN (Below.refl _ _) n), h.own, ⟨h.win.os, h.win.tape, h.win.output, h.win.size, h.win.block⟩, h.lt⟩
theorem OutQ.start {w WL wR : World} (hW : WL = w.alloc (.cells #[] 3)) (hb : Below WL.heap.size WL wR) : OutQ w.heap.size wR wR (.slice (some ⟨w.heap.size, 0, none⟩) 0 0) [] := by
  have hs := hb.size
  have hz : WL.heap.size = w.heap.size + 1 := by rw [hW]; simp
  refine ⟨?_, .inl rfl, Win.refl _ _ _, by omega⟩
  have n0 : NewInts w.heap.size WL (.slice (some ⟨w.heap.size, 0, none⟩) 0 0) [] := by rw [hW]; exact newInts_alloc w [] (Nat.le_refl _) (by simp)
  exact n0.keep hb
end Go.Proofs.Ythjjjnapcbkhjaa
namespace Go.Proofs.Ythjjjnapcbkhjaa
open Go.RowKit
set_option linter.unusedVariables false
set_option linter.unusedSimpArgs false
theorem keyed_int : Maps.Keyed Try.prog 3 := Maps.int_keyed Try.underlying3
/-- Block b is a map of at most n entries that tells M. -/
def MapAt (w : World) (b n : Nat) (M : Int → Option Int) : Prop :=
  ∃ D : DataW Unit, w.ownsMap Try.prog 3 (plainElem Try.prog 3) b n D ∧
    ∀ x : Int, (Lit.int .i64 x).wf = true → Maps.has D (.int .i64 x) = (M x).isSome ∧ ∀ z : Int, D.atKey (.int .i64 x) (.lit (.int .i64 z)) = .lit (.int .i64 ((M x).getD z))
theorem zero_i64 (w : World) : (zeroValue 3).run Try.prog w = .ok (.int .i64 0) w := by
  have hi := info_int
  cases hq : Try.prog.info? 3 with
  | none => rw [hq] at hi; cases hi
  | some i =>
    rw [hq] at hi
    simp at hi
    simp [zeroValue, typeInfo, hq, hi.1]
theorem mapAt_new (w : World) : MapAt (w.alloc (.map #[] 0)) w.heap.size 0 (fun _ => none) :=
  ⟨.map [], World.ownsMap_made w _ _ _, fun x _ => ⟨rfl, fun z => rfl⟩⟩
theorem MapAt.look {w : World} {b n : Nat} {M : Int → Option Int} (h : MapAt w b n M) {x : Int} (hx : (Lit.int .i64 x).wf = true) :
    (Instr.lookup 49 (.map (some b)) (.int .i64 x) true).run Try.prog w = .ok (.tuple #[.int .i64 ((M x).getD 0), .bool (M x).isSome]) w := by
  obtain ⟨D, ho, hD⟩ := h
  obtain ⟨h1, h2⟩ := hD x hx
  obtain ⟨v, ps, hrun, hv⟩ := ho.look_ok keyed_int Try.underlying49 (zero_i64 w) (plainElem_int Try.underlying3 (by decide)) (Maps.keyOf_int_mk Try.underlying3 hx)
  obtain ⟨c, rfl, hc, hwc⟩ := plainElem_int_inv Try.underlying3 hv
  have e := congrArg Prod.fst hc
  dsimp only at e
  rewrite [h2 0] at e
  have e2 : (M x).getD 0 = c := (Lit.int.inj (DataW.lit.inj e)).2
  rw [hrun, h1, ← e2]
theorem MapAt.store {w : World} {b n : Nat} {M : Int → Option Int} (h : MapAt w b n M) (hn : n ≤ 1000) {x p : Int} (hx : (Lit.int .i64 x).wf = true) (hp : (Lit.int .i64 p).wf = true) :
    ∃ w', (Instr.mapUpdate 49 (.map (some b)) (.int .i64 x) (.int .i64 p)).run Try.prog w = .ok () w' ∧ MapAt w' b (n + 1) (fun y => if y = x then some p else M y) ∧ w.grownBy w' (some b) := by
  obtain ⟨D, ho, hD⟩ := h
  obtain ⟨w', hrun, ho', hg⟩ := ho.update keyed_int Try.underlying49 (by unfold maxLen; omega) (Maps.keyOf_int_mk Try.underlying3 hx) (plainElem_int Try.underlying3 hp)
  refine ⟨w', hrun, ⟨_, ho', fun y hy => ?_⟩, hg⟩
  dsimp only
  by_cases e : y = x
  · subst e
    rw [if_pos rfl]
    exact ⟨Maps.has_put_same ho.isMap (by trivial) _, fun z => Maps.atKey_put_same ho.isMap (by trivial) _ _⟩
  · rw [if_neg e]
    have hne : (Lit.int .i64 y) ≠ (Lit.int .i64 x) := fun q => e (by injection q)
    obtain ⟨q1, q2⟩ := hD y hy
    exact ⟨(Maps.has_put_other hne _).trans q1, fun z => (Maps.atKey_put_other hne _ _).trans (q2 z)⟩
theorem MapAt.lt {w : World} {b n : Nat} {M : Int → Option Int} (h : MapAt w b n M) : b < w.heap.size := by obtain ⟨D, ho, _⟩ := h; exact ho.lt
theorem MapAt.kept {w w' : World} {b n : Nat} {M : Int → Option Int} {row : Option Nat} (h : MapAt w b n M) (hg : w.grownBy w' row) (hne : some b ≠ row) : MapAt w' b n M := by
  obtain ⟨D, ho, hD⟩ := h
  exact ⟨D, ho.kept hg hne, hD⟩
theorem MapAt.keep {w w' : World} {b n : Nat} {M : Int → Option Int} (h : MapAt w b n M) (hb : Below w.heap.size w w') : MapAt w' b n M :=
  h.kept (row := none) ⟨hb.os, hb.tape, hb.output, hb.size, fun k hk _ => hb.block k hk⟩ (by simp)
theorem MapAt.setCell {w : World} {b n : Nat} {M : Int → Option Int} (h : MapAt w b n M) {a : Addr} (ha : b ≠ a.block) (u : Value) : MapAt (w.setCell a u) b n M := by
  obtain ⟨D, ho, hD⟩ := h
  exact ⟨D, ho.setCell ha u, hD⟩
end Go.Proofs.Ythjjjnapcbkhjaa
namespace Go.Proofs.Ythjjjnapcbkhjaa
open Go.RowKit
set_option linter.unusedVariables false
theorem OutQ.alloc {b0 : Nat} {wR w : World} {v : Value} {l : List Int} (h : OutQ b0 wR w v l) (o : Obj) : OutQ b0 wR (w.alloc o) v l :=
  ⟨h.row.keep (bAlloc (Below.refl _ _) o), h.own, ⟨h.win.os, h.win.tape, h.win.output, by have := h.win.size; simp; omega, fun k hk hd => by
    rw [Below.heap_alloc _ _ _ (by have := h.win.size; omega)]
    exact h.win.block k hk hd⟩, h.lt⟩
theorem OutQ.grow1 {b0 : Nat} {wR w : World} {v : Value} {l : List Int} (h : OutQ b0 wR w v l) (x : Int) (hl : l.length < 1048576) :
    ∃ a' c' w', (Builtin.append_ #[24, 24] 24 #[v, .slice (some ⟨w.heap.size, 0, none⟩) 1 1]).run Try.prog (w.alloc (.cells #[.int .i64 x] 3)) = .ok (.slice a' (l.length + 1) c') w' ∧ OutQ b0 wR w' (.slice a' (l.length + 1) c') (l ++ [x]) := by
  obtain ⟨a', c', w', hr, h2⟩ := (h.alloc (.cells #[.int .i64 x] 3)).grow (ints_new w [x] 3) (by simp; omega) 1
  exact ⟨a', c', w', by simpa using hr, by simpa using h2⟩
theorem OutQ.grown {b0 : Nat} {wR w : World} {v : Value} {l : List Int} (h : OutQ b0 wR w v l) : wR.grownBy w (some b0) :=
  ⟨h.win.os, h.win.tape, h.win.output, h.win.size, fun k hk hne => h.win.block k hk (by
    have : k ≠ b0 := fun e => hne (by rw [e])
    omega)⟩
end Go.Proofs.Ythjjjnapcbkhjaa
namespace Go.Proofs.Ythjjjnapcbkhjaa
set_option linter.unusedVariables false
/-- The first place of a number in a list; how many there are, where it is none. -/
def placeIn (l : List Int) (x : Int) : Nat := l.findIdx (fun y => y == x)
theorem placeIn_le (l : List Int) (x : Int) : placeIn l x ≤ l.length := List.findIdx_le_length
theorem placeIn_here {l : List Int} {x : Int} {k : Nat} (hk : k < l.length) (he : l.getD k 0 = x) (hn : ∀ j, j < k → l.getD j 0 ≠ x) : placeIn l x = k := by
  unfold placeIn
  rw [List.findIdx_eq hk]
  rw [List.getD_eq_getElem?_getD, List.getElem?_eq_getElem hk] at he
  refine ⟨by simpa using he, fun j hj => ?_⟩
  have := hn j hj
  rw [List.getD_eq_getElem?_getD, List.getElem?_eq_getElem (by omega)] at this
  simpa using this
theorem placeIn_none {l : List Int} {x : Int} (hn : ∀ j, j < l.length → l.getD j 0 ≠ x) : placeIn l x = l.length := by
  unfold placeIn
  rw [List.findIdx_eq_length]
  intro y hy
  obtain ⟨j, hj, rfl⟩ := List.getElem_of_mem hy
  have := hn j hj
  rw [List.getD_eq_getElem?_getD, List.getElem?_eq_getElem hj] at this
  simpa using this
def findC (s d t e : List Int) : Int := if arrOk s d = true ∧ arrOk t e = true then (if s.length ≠ 1 then 4 else 0) else 1
def findR (s d t e : List Int) : Int × List Int × List Int := mkR (findC s d t e) t ((List.range e.length).map (fun i => ((placeIn d (e.getD i 0) : Nat) : Int)))
def withinC (s d t e : List Int) : Int := if arrOk s d = true ∧ arrOk t e = true then 0 else 1
def withinR (s d t e : List Int) : Int × List Int × List Int := mkR (withinC s d t e) s ((List.range d.length).map (fun i => if placeIn e (d.getD i 0) < e.length then 1 else 0))
end Go.Proofs.Ythjjjnapcbkhjaa
namespace Go.Proofs.Ythjjjnapcbkhjaa
open Go.RowKit
set_option linter.unusedVariables false
set_option linter.unusedSimpArgs false
set_option maxRecDepth 20000 in
set_option maxHeartbeats 1000000 in
/-- allRight. -/
theorem allRight_impl {d : List Int} {b : Option Addr} {w : World} (e : Nat) (h : Ints w b d) (hd : d.length ≤ 1048576) :
    Calls Try.prog 62 #[.slice b d.length e] w fun e w' => e = .returned (.bool (d.all ok)) ∧ w' = w := by
  have HJ : Hid (Ints w b d) := h
  clear h
  go_enter Try.func62, Try.ntmps62
  go_wp2
  go_loopw [7] (fun i w' => ∃ k : Nat, k ≤ d.length ∧ i = .int .i64 k ∧ (d.take k).all ok = true ∧ w' = w) (fun i _ => d.length - (intOf i).toNat)
  case atStart => exact ⟨0, by omega, rfl, by simp, rfl⟩
  case round =>
    obtain ⟨k, hk, rfl, ht, rfl⟩ := hrel
    have HT : Hid ((d.take k).all ok = true) := ht
    clear ht
    by_cases hlt : (k : Int) < (d.length : Int)
    · have L : k < d.length := by omega
      obtain ⟨b1, o1, rfl, _, c1⟩ := HJ.out.at L
      have Q : Hid ((d.take (k + 1)).all ok = ((d.take k).all ok && ok (d.getD k 0))) := by show _ = _; rw [take_snoc L, all_snocN]
      have QB : Hid (ok (d.getD k 0) = false → d.all ok = false) := fun h => by
        rw [List.all_eq_false]
        exact ⟨d.getD k 0, by simp [L], by rw [h]; decide⟩
      clear L
      generalize d.getD k 0 = x at c1 Q QB
      by_cases hx : ok x = true
      · have HT' : Hid ((d.take (k + 1)).all ok = true) := by show _ = _; rw [Q.out, HT.out, hx]; rfl
        clear Q QB
        go_wp2_with fail
        refine (numOk_impl x _).mono ?_
        rintro r w' ⟨rfl, hw⟩
        subst w'
        go_wp2
        go_roundw
        case rel => exact ⟨k + 1, by omega, by go_num, HT'.out, by first | trivial | rfl⟩
        case measure => simp [intOf]; omega
      · have hx : ok x = false := by simpa using hx
        have HV' : Hid (d.all ok = false) := QB.out hx
        clear Q QB
        go_wp2_with fail
        refine (numOk_impl x _).mono ?_
        rintro r w' ⟨rfl, hw⟩
        subst w'
        go_wp2
        go_ret
        exact ⟨by rw [HV'.out]; rfl, rfl⟩
    · have HV' : Hid (d.all ok = true) := by
        have h := HT.out
        show _ = _
        rw [List.take_of_length_le (by omega)] at h
        exact h
      go_wp2
      go_ret
      exact ⟨by rw [HV'.out]; rfl, rfl⟩
end Go.Proofs.Ythjjjnapcbkhjaa
namespace Go.Proofs.Ythjjjnapcbkhjaa
open Go.RowKit
set_option linter.unusedVariables false
set_option linter.unusedSimpArgs false
set_option maxRecDepth 20000 in
/-- Out of a list into a new one of its length. -/
theorem copy_all {w : World} {a : Option Addr} {l : List Int} (h1 : Ints w a l) (ty : TypeId) (d : Nat) (Z : Array Value) (hZ : Z.size = l.length) :
    (Builtin.copy_ #[24, 24] ty #[.slice (some ⟨w.heap.size, 0, none⟩) l.length l.length, .slice a l.length d]).run Try.prog (w.alloc (.cells Z 3)) =
      .ok (.int .i64 l.length) (w.alloc (.cells (vals l) 3)) := by
  by_cases h0 : l.length = 0
  · obtain rfl : l = [] := List.eq_nil_of_length_eq_zero h0
    have e : Z = vals [] := by simp at hZ; simp [vals, hZ]
    rw [e]
    exact run_copy_none (P := Try.prog) _ 24 24 ty 3 _ _ _ _ _ _ Try.underlying24 int_size rfl
  · rcases h1 with rfl | ⟨b, off, rfl, hb, hc⟩
    · exact absurd rfl h0
    · have hg : (w.alloc (.cells Z 3)).heap[w.heap.size]? = some (.cells Z 3 (0, 0)) := heap_alloc_new _ _
      have hc' : ∀ k, k < l.length → (w.alloc (.cells Z 3)).cell? ⟨b, off + k, none⟩ = some (.int .i64 (l.getD k 0)) := by
        intro k hk
        rw [(bAlloc (Below.refl w.heap.size w) _).cell (p := ⟨b, off + k, none⟩) hb]
        exact hc k hk
      have q := run_copy_row Try.prog (w.alloc (.cells Z 3)) 24 24 ty 3 w.heap.size 0 l.length l.length ⟨b, off, none⟩ l.length d Z 3 (l.map (Value.int .i64)) Try.underlying24 int_size hg (by rw [List.length_map]; simp) (ints_src hc') (by simp; omega) (by intro v hv; obtain ⟨x, _, rfl⟩ := List.mem_map.1 hv; rfl)
      rw [q, setRow_last, List.length_map]
      congr 3
      simp [vals, hZ]
set_option maxHeartbeats 1000000 in
/-- copiedList: a copy in new memory. -/
theorem copied_impl {l : List Int} {a : Option Addr} {w : World} (c : Nat) (h1 : Ints w a l) (hl : l.length ≤ 1048576) :
    Calls Try.prog 66 #[.slice a l.length c] w fun e w' => e = .returned (.slice (some ⟨w.heap.size, 0, none⟩) l.length l.length) ∧ w' = w.alloc (.cells (vals l) 3) := by
  have hmk : ∀ w, (Instr.makeSlice 24 (.int .i64 (l.length : Int)) (.int .i64 (l.length : Int))).run Try.prog w = .ok (.slice (some ⟨w.heap.size, 0, none⟩) l.length l.length) (w.alloc (.cells (vals (List.replicate l.length 0)) 3)) := fun w => make_ints l.length (by omega) w
  have hcp : (Builtin.copy_ #[24, 24] 3 #[.slice (some ⟨w.heap.size, 0, none⟩) l.length l.length, .slice a l.length c]).run Try.prog (w.alloc (.cells (vals (List.replicate l.length 0)) 3)) = .ok (.int .i64 l.length) (w.alloc (.cells (vals l) 3)) := copy_all h1 _ c _ (by simp [vals])
  clear h1
  go_enter Try.func66, Try.ntmps66
  go_wp2
  go_ret
  exact ⟨rfl, rfl⟩
/-- copiedList, as a contract on values. -/
theorem copied_new {l : List Int} {w : World} {v : Value} (h : IntsI w v l) (hl : l.length ≤ 1048576) :
    Calls Try.prog 66 #[v] w fun e w' => ∃ a' c', e = .returned (.slice a' l.length c') ∧ Piece w.heap.size w'.heap.size w' (.slice a' l.length c') l ∧ Below w.heap.size w w' := by
  obtain ⟨a, c, rfl, _, i⟩ := h
  refine (copied_impl c i hl).mono ?_
  rintro e w' ⟨rfl, rfl⟩
  exact ⟨_, _, rfl, OwnInts.piece (ownInts_new w l) (Nat.le_refl _) (by simp) _, bAlloc (Below.refl _ _) _⟩
set_option maxRecDepth 20000 in
set_option maxHeartbeats 4000000 in
/-- copyOf. -/
theorem copyOf_impl {s d : List Int} {w : World} {v : Value} (h : ArrI w v s d) (hs : s.length ≤ 1048576) (hd : d.length ≤ 1048576) :
    Calls Try.prog 60 #[v] w fun e w' => ∃ v', e = .returned v' ∧ Arr w.heap.size w'.heap.size w' v' s d ∧ Below w.heap.size w w' := by
  obtain ⟨a, c, b, e, rfl, h1, h2, g1, g2⟩ := h
  have H1 : Hid (IntsI w (.slice a s.length c) s) := ⟨a, c, rfl, g1, h1⟩
  have H2 : Hid (IntsI w (.slice b d.length e) d) := ⟨b, e, rfl, g2, h2⟩
  have HS : Hid (s.length ≤ 1048576) := hs
  have HD : Hid (d.length ≤ 1048576) := hd
  clear h1 h2 g1 g2 hs hd
  go_enter Try.func60, Try.ntmps60
  go_wp2
  generalize hW : (w.alloc (.cells #[.slice a s.length c, .slice b d.length e] 26)).alloc (.cells #[.slice none 0 0, .slice none 0 0] 26) = W
  have HBW : Hid (Below w.heap.size w W) := by rw [← hW]; exact bAlloc (bAlloc (Below.refl _ _) _) _
  have X : Hid (Box W w.heap.size (.slice a s.length c) (.slice b d.length e) 26) := by rw [← hW]; exact heap_alloc2_old w _ _
  have Y : Hid (Box W (w.heap.size + 1) (.slice none 0 0) (.slice none 0 0) 26) := by rw [← hW]; exact heap_alloc2_new w _ _
  have LW : Hid (w.heap.size + 1 < W.heap.size) := Y.out.lt
  clear hW
  have x0 := X.out.c0
  have x1 := X.out.c1
  go_region_held3 (fun w' => w'.cell? ⟨w.heap.size, 0, none⟩ = some (.slice a s.length c) ∧ w'.cell? ⟨w.heap.size, 1, none⟩ = some (.slice b d.length e))
    (first | exact ⟨z0 _ _, z1 _ _⟩ | exact ⟨y0, y1⟩ | exact ⟨v0, v1⟩ | exact ⟨x0, x1⟩)
    (first
      | (go_at_call_of 66 (Value.slice a s.length c); refine (copied_new (H1.out.keep (bTrans HBW.out ((Below.refl W.heap.size W).drew))) HS.out).mono ?_; rintro r w1 ⟨ax, cx, rfl, ha, hb⟩; have PX : Hid (Piece W.heap.size w1.heap.size w1 (.slice ax s.length cx) s) := ha; have HB1 : Hid (Below W.heap.size W w1) := bTrans ((Below.refl W.heap.size W).drew) hb; have v0 := (X.out.keep HB1.out).c0; have v1 := (X.out.keep HB1.out).c1; clear ha hb)
      | (go_at_call_of 66 (Value.slice b d.length e); refine (copied_new (H2.out.keep (bTrans HBW.out HB1.out)) HD.out).mono ?_; rintro r w2 ⟨ay, cy, rfl, ha, hb⟩; have PY : Hid (Piece w1.heap.size w2.heap.size w2 (.slice ay d.length cy) d) := ha; have PX2 : Hid (Piece W.heap.size w1.heap.size w2 (.slice ax s.length cx) s) := PX.out.keep hb; have S12 : Hid (w1.heap.size ≤ w2.heap.size) := hb.size; have HB2 : Hid (Below W.heap.size W w2) := bTrans HB1.out hb; have y0 := (X.out.keep HB2.out).c0; have y1 := (X.out.keep HB2.out).c1; have q0 := (Y.out.keep HB2.out).c0; have q1 := (Y.out.keep HB2.out).c1; have f0 : w2.frozen? ⟨w.heap.size + 1, 0, none⟩ = false := free_at (Y.out.keep HB2.out) 0; have f1 : w2.frozen? ⟨w.heap.size + 1, 1, none⟩ = false := free_at (Y.out.keep HB2.out) 1; have z : ∀ u v, Box ((w2.setCell ⟨w.heap.size + 1, 0, none⟩ u).setCell ⟨w.heap.size + 1, 1, none⟩ v) w.heap.size (.slice a s.length c) (.slice b d.length e) 26 := (fun u v => ((X.out.keep HB2.out).win (win_setCell _ _ _ _) (.inl (Nat.lt_succ_self _))).win (win_setCell _ _ _ _) (.inl (Nat.lt_succ_self _))); have z0 := (fun u v => (z u v).c0); have z1 := (fun u v => (z u v).c1); have HR : Hid (((w2.setCell ⟨w.heap.size + 1, 0, none⟩ (.slice ax s.length cx)).setCell ⟨w.heap.size + 1, 1, none⟩ (.slice ay d.length cy)).heap[w.heap.size + 1]? = some (.cells #[.slice ax s.length cx, .slice ay d.length cy] 26 (0, 0))) := arr_stored (Y.out.keep HB2.out); clear ha hb z))
  go_wp2
  refine bodyPost_ret (v := .agg #[.slice ax s.length cx, .slice ay d.length cy]) (results_arr rfl _ _ (w.heap.size + 1) _ _ rfl HR.out) rfl ?_
  refine ⟨_, rfl, ?_, below_setCell (below_setCell (bTrans HBW.out HB2.out) (by omega) _ _) (by omega) _ _⟩
  have S1 := HB1.out.size
  have S2 := S12.out
  have S3 := LW.out
  have A : Arr W.heap.size w2.heap.size w2 (.agg #[.slice ax s.length cx, .slice ay d.length cy]) s d := ⟨_, _, rfl, PX2.out.mono (Nat.le_refl _) S12.out, PY.out.mono S1 (Nat.le_refl _), PX2.out.apart PY.out (.inl (Nat.le_refl _))⟩
  exact ((A.setCell S3 _ _).setCell S3 _ _).mono (by omega) (by simp [size_setCell])
end Go.Proofs.Ythjjjnapcbkhjaa
namespace Go.Proofs.Ythjjjnapcbkhjaa
open Go.RowKit
set_option linter.unusedVariables false
/-- Arrays of three numbers, compared as a whole. -/
theorem eq_axes (w : World) (i j k i' j' k' : Int) : (Op.equalIn 10000 91 (.agg #[.int .i64 i, .int .i64 j, .int .i64 k]) (.agg #[.int .i64 i', .int .i64 j', .int .i64 k'])).run Try.prog w = .ok (i == i' && (j == j' && k == k')) w := by
  have hs : (sizeOf 3).run Try.prog w = .ok 1 w := by kernel_rfl
  have p0 : ∀ a b c : Int, (part 3 #[.int .i64 a, .int .i64 b, .int .i64 c] 0).run Try.prog w = .ok (.int .i64 a) w := fun a b c => by kernel_rfl
  have p1 : ∀ a b c : Int, (part 3 #[.int .i64 a, .int .i64 b, .int .i64 c] 1).run Try.prog w = .ok (.int .i64 b) w := fun a b c => by kernel_rfl
  have p2 : ∀ a b c : Int, (part 3 #[.int .i64 a, .int .i64 b, .int .i64 c] 2).run Try.prog w = .ok (.int .i64 c) w := fun a b c => by kernel_rfl
  have ei : ∀ a b : Int, (Op.equalIn (9998 + 1) 3 (.int .i64 a) (.int .i64 b)).run Try.prog w = .ok (a == b) w := fun a b => run_equalIn_int w 9998 3 .i64 .i64 a b Try.underlying3
  show (Op.equalIn (9998 + 1 + 1) 91 _ _).run Try.prog w = _
  rw [Op.equalIn]
  generalize 9998 + 1 = d at ei ⊢
  simp only [Sem.run_bind, run_underlying Try.underlying91, Result.andThen_ok, hs]
  simp only [Std.Legacy.Range.forIn_eq_forIn_range', Std.Legacy.Range.size, List.range', Nat.sub_zero, Nat.add_sub_cancel, Nat.div_one, List.forIn_cons, List.forIn_nil, Sem.run_bind]
  cases h0 : i == i' <;> cases h1 : j == j' <;> cases h2 : k == k' <;> simp [p0, p1, p2, ei, h0, h1, h2]
theorem newInts_2 (w : World) (A : Obj) (l : List Int) {B : Nat} (hB : B ≤ w.heap.size) (hl : l.length ≤ 1073741824) : NewInts B ((w.alloc A).alloc (.cells (vals l) 3)) (.slice (some ⟨w.heap.size + 1, 0, none⟩) l.length l.length) l := by
  have e : (w.alloc A).heap.size = w.heap.size + 1 := by simp
  rw [← e]
  exact newInts_alloc (w.alloc A) l (by omega) hl
end Go.Proofs.Ythjjjnapcbkhjaa
namespace Go.Proofs.Ythjjjnapcbkhjaa
open Go.RowKit
set_option linter.unusedVariables false
theorem sizeV_0 : sizeV [] = 1 := by simp [sizeV, prodV]
theorem sizeV_1 (x : Int) : sizeV [x] = if 0 ≤ x ∧ x ≤ 300 then (if 300 < x then -1 else x) else -1 := by simp [sizeV, dimOk, prodV]
theorem sizeV_2 (x y : Int) : sizeV [x, y] = if (0 ≤ x ∧ x ≤ 300) ∧ 0 ≤ y ∧ y ≤ 300 then (if 300 < x * y then -1 else x * y) else -1 := by simp [sizeV, dimOk, prodV]
theorem sizeV_3 (x y z : Int) : sizeV [x, y, z] = if (0 ≤ x ∧ x ≤ 300) ∧ (0 ≤ y ∧ y ≤ 300) ∧ 0 ≤ z ∧ z ≤ 300 then (if 300 < x * y * z then -1 else x * y * z) else -1 := by simp [sizeV, dimOk, prodV]
theorem dim3 (x : Int) : x < 0 ∨ (0 ≤ x ∧ 300 < x) ∨ (0 ≤ x ∧ x ≤ 300) := by omega
/-- The numbers of a shape by value. -/
def Ext (l : List Int) (n : Nat) (x y z : Int) : Prop := n = l.length ∧ x = l.getD 0 0 ∧ y = l.getD 1 0 ∧ z = l.getD 2 0
theorem ext_bad {l : List Int} {a : Option Addr} {w : World} {c : Nat} (hs : sizeV l < 0)
    (h : Calls Try.prog 93 #[.slice a l.length c] w fun e w' => e = .returned (.tuple #[.agg #[.int .i64 0, .int .i64 0, .int .i64 0, .int .i64 0], .bool false]) ∧ Below w.heap.size w w') :
    Calls Try.prog 93 #[.slice a l.length c] w fun e w' => ∃ (n : Nat) (x y z : Int), e = .returned (.tuple #[.agg #[.int .i64 n, .int .i64 x, .int .i64 y, .int .i64 z], .bool (decide (0 ≤ sizeV l))]) ∧ (0 ≤ sizeV l → Ext l n x y z) ∧ Below w.heap.size w w' := by
  refine h.mono ?_
  rintro e w' ⟨rfl, hb⟩
  exact ⟨0, 0, 0, 0, by rw [show decide (0 ≤ sizeV l) = false by simp; omega]; rfl, fun h => by omega, hb⟩
theorem ext_good {l : List Int} {a : Option Addr} {w : World} {c n : Nat} {x y z : Int} (hs : 0 ≤ sizeV l) (he : Ext l n x y z)
    (h : Calls Try.prog 93 #[.slice a l.length c] w fun e w' => e = .returned (.tuple #[.agg #[.int .i64 n, .int .i64 x, .int .i64 y, .int .i64 z], .bool true]) ∧ Below w.heap.size w w') :
    Calls Try.prog 93 #[.slice a l.length c] w fun e w' => ∃ (n : Nat) (x y z : Int), e = .returned (.tuple #[.agg #[.int .i64 n, .int .i64 x, .int .i64 y, .int .i64 z], .bool (decide (0 ≤ sizeV l))]) ∧ (0 ≤ sizeV l → Ext l n x y z) ∧ Below w.heap.size w w' := by
  refine h.mono ?_
  rintro e w' ⟨rfl, hb⟩
  exact ⟨n, x, y, z, by rw [show decide (0 ≤ sizeV l) = true by simpa using hs], fun _ => he, hb⟩
/-- A list as a shape by value. -/
theorem ext_impl {l : List Int} {a : Option Addr} {w : World} (c : Nat) (h1 : Ints w a l) :
    Calls Try.prog 93 #[.slice a l.length c] w fun e w' => ∃ (n : Nat) (x y z : Int), e = .returned (.tuple #[.agg #[.int .i64 n, .int .i64 x, .int .i64 y, .int .i64 z], .bool (decide (0 ≤ sizeV l))]) ∧ (0 ≤ sizeV l → Ext l n x y z) ∧ Below w.heap.size w w' := by
  by_cases hl : 3 < l.length
  · exact ext_bad (by unfold sizeV; rw [if_pos hl]; decide) (ext_long l a c w hl)
  · rcases len3 (by omega : l.length ≤ 3) with rfl | ⟨x, rfl⟩ | ⟨x, y, rfl⟩ | ⟨x, y, z, rfl⟩
    · exact ext_good (n := 0) (x := 0) (y := 0) (z := 0) (by rw [sizeV_0]; decide) ⟨rfl, rfl, rfl, rfl⟩ (ext_0_ok a c w h1)
    · rcases dim3 x with hb | ⟨hb0, hb⟩ | ⟨x0, x1⟩
      · exact ext_bad (by rw [sizeV_1, if_neg (by omega)]; decide) (ext_1_neg0 x a c w h1  hb)
      · exact ext_bad (by rw [sizeV_1, if_neg (by omega)]; decide) (ext_1_great0 x a c w h1  hb0 hb)
      exact ext_good (n := 1) (x := x) (y := 0) (z := 0) (by rw [sizeV_1, if_pos (by omega), if_neg (by omega)]; exact x0) ⟨rfl, rfl, rfl, rfl⟩ (ext_1_ok x a c w h1 x0 x1)
    · rcases dim3 x with hb | ⟨hb0, hb⟩ | ⟨x0, x1⟩
      · exact ext_bad (by rw [sizeV_2, if_neg (by omega)]; decide) (ext_2_neg0 x y a c w h1  hb)
      · exact ext_bad (by rw [sizeV_2, if_neg (by omega)]; decide) (ext_2_great0 x y a c w h1  hb0 hb)
      rcases dim3 y with hb | ⟨hb0, hb⟩ | ⟨y0, y1⟩
      · exact ext_bad (by rw [sizeV_2, if_neg (by omega)]; decide) (ext_2_neg1 x y a c w h1 x0 x1 hb)
      · exact ext_bad (by rw [sizeV_2, if_neg (by omega)]; decide) (ext_2_great1 x y a c w h1 x0 x1 hb0 hb)
      by_cases hp : 300 < x * y
      · exact ext_bad (by rw [sizeV_2, if_pos (by omega), if_pos hp]; decide) (ext_2_much x y a c w h1 x0 x1 y0 y1 hp)
      exact ext_good (n := 2) (x := x) (y := y) (z := 0) (by rw [sizeV_2, if_pos (by omega), if_neg (by omega)]; exact Int.mul_nonneg x0 y0) ⟨rfl, rfl, rfl, rfl⟩ (ext_2_ok x y a c w h1 x0 x1 y0 y1 (by omega))
    · rcases dim3 x with hb | ⟨hb0, hb⟩ | ⟨x0, x1⟩
      · exact ext_bad (by rw [sizeV_3, if_neg (by omega)]; decide) (ext_3_neg0 x y z a c w h1  hb)
      · exact ext_bad (by rw [sizeV_3, if_neg (by omega)]; decide) (ext_3_great0 x y z a c w h1  hb0 hb)
      rcases dim3 y with hb | ⟨hb0, hb⟩ | ⟨y0, y1⟩
      · exact ext_bad (by rw [sizeV_3, if_neg (by omega)]; decide) (ext_3_neg1 x y z a c w h1 x0 x1 hb)
      · exact ext_bad (by rw [sizeV_3, if_neg (by omega)]; decide) (ext_3_great1 x y z a c w h1 x0 x1 hb0 hb)
      rcases dim3 z with hb | ⟨hb0, hb⟩ | ⟨z0, z1⟩
      · exact ext_bad (by rw [sizeV_3, if_neg (by omega)]; decide) (ext_3_neg2 x y z a c w h1 x0 x1 y0 y1 hb)
      · exact ext_bad (by rw [sizeV_3, if_neg (by omega)]; decide) (ext_3_great2 x y z a c w h1 x0 x1 y0 y1 hb0 hb)
      by_cases hp : 300 < x * y * z
      · exact ext_bad (by rw [sizeV_3, if_pos (by omega), if_pos hp]; decide) (ext_3_much x y z a c w h1 x0 x1 y0 y1 z0 z1 hp)
      exact ext_good (n := 3) (x := x) (y := y) (z := z) (by rw [sizeV_3, if_pos (by omega), if_neg (by omega)]; exact Int.mul_nonneg (Int.mul_nonneg x0 y0) z0) ⟨rfl, rfl, rfl, rfl⟩ (ext_3_ok x y z a c w h1 x0 x1 y0 y1 z0 z1 (by omega))
/-- Its size. -/
theorem size_ext {l : List Int} {n : Nat} {x y z : Int} (hs : 0 ≤ sizeV l) (he : Ext l n x y z) (w : World) :
    Calls Try.prog 95 #[.agg #[.int .i64 n, .int .i64 x, .int .i64 y, .int .i64 z]] w fun e w' => e = .returned (.int .i64 (sizeV l)) ∧ ∃ o, w' = w.alloc o := by
  obtain ⟨rfl, rfl, rfl, rfl⟩ := he
  obtain ⟨k1, k2, k3, k4⟩ := sizeV_ok hs
  rw [k4]
  rcases len3 k1 with rfl | ⟨x, rfl⟩ | ⟨x, y, rfl⟩ | ⟨x, y, z, rfl⟩
  · exact (size_0_ext w).mono fun e w' h => ⟨h.1, _, h.2⟩
  · simp only [List.all_cons, List.all_nil, Bool.and_true] at k2
    have dx := dimOk_bd k2
    rw [prod1]
    exact (size_1_ext x w dx.1 dx.2).mono fun e w' h => ⟨h.1, _, h.2⟩
  · simp only [List.all_cons, List.all_nil, Bool.and_true, Bool.and_eq_true] at k2
    have dx := dimOk_bd k2.1
    have dy := dimOk_bd k2.2
    rw [prod2]
    exact (size_2_ext x y w dx.1 dx.2 dy.1 dy.2).mono fun e w' h => ⟨h.1, _, h.2⟩
  · simp only [List.all_cons, List.all_nil, Bool.and_true, Bool.and_eq_true] at k2
    have dx := dimOk_bd k2.1
    have dy := dimOk_bd k2.2.1
    have dz := dimOk_bd k2.2.2
    rw [prod3]
    exact (size_3_ext x y z w dx.1 dx.2 dy.1 dy.2 dz.1 dz.2).mono fun e w' h => ⟨h.1, _, h.2⟩
theorem sizeV_neg {l : List Int} (h : ¬ 0 ≤ sizeV l) : sizeV l = -1 := by have := sizeV_bd l; omega
set_option maxRecDepth 20000 in
set_option maxHeartbeats 1000000 in
/-- SizeOf. -/
theorem size_impl {l : List Int} {a : Option Addr} {w : World} (c : Nat) (h1 : Ints w a l) :
    Calls Try.prog 61 #[.slice a l.length c] w fun e w' => e = .returned (.int .i64 (sizeV l)) ∧ Below w.heap.size w w' := by
  have H1 : Hid (Ints w a l) := h1
  clear h1
  by_cases hs : 0 ≤ sizeV l
  · have hs' : decide (0 ≤ sizeV l) = true := by simpa using hs
    have HS : Hid (0 ≤ sizeV l) := hs
    clear hs
    go_enter Try.func61, Try.ntmps61
    go_wp2_with fail
    refine (ext_impl _ H1.out).mono ?_
    rintro e w1 ⟨n, x, y, z, rfl, he, hb⟩
    have HE : Hid (Ext l n x y z) := he HS.out
    have HB : Hid (Below w.heap.size w w1) := hb
    clear he hb
    go_wp2_with fail
    refine (size_ext HS.out HE.out _).mono ?_
    rintro e w2 ⟨rfl, o, hw⟩
    subst w2
    go_wp2
    go_ret
    exact ⟨rfl, bAlloc (bAlloc HB.out _) _⟩
  · have hs' : decide (0 ≤ sizeV l) = false := by simpa using hs
    have HV : Hid (sizeV l = -1) := sizeV_neg hs
    clear hs
    go_enter Try.func61, Try.ntmps61
    go_wp2_with fail
    refine (ext_impl _ H1.out).mono ?_
    rintro e w1 ⟨n, x, y, z, rfl, he, hb⟩
    have HB : Hid (Below w.heap.size w w1) := hb
    clear he hb
    go_wp2
    go_ret
    exact ⟨ret_num HV.out.symm, bAlloc HB.out _⟩
set_option maxRecDepth 20000 in
set_option maxHeartbeats 1000000 in
/-- ShapeOk. -/
theorem ok_impl {l : List Int} {a : Option Addr} {w : World} (c : Nat) (h1 : Ints w a l) :
    Calls Try.prog 50 #[.slice a l.length c] w fun e w' => e = .returned (.bool (decide (0 ≤ sizeV l))) ∧ Below w.heap.size w w' := by
  have H1 : Hid (Ints w a l) := h1
  clear h1
  generalize hq : decide (0 ≤ sizeV l) = q
  have HQ : Hid (decide (0 ≤ sizeV l) = q) := hq
  clear hq
  go_enter Try.func50, Try.ntmps50
  go_wp2_with fail
  refine (ext_impl _ H1.out).mono ?_
  rintro e w1 ⟨n, x, y, z, rfl, he, hb⟩
  have HB : Hid (Below w.heap.size w w1) := hb
  clear he hb
  rw [HQ.out]
  go_wp2
  go_ret
  exact ⟨rfl, bAlloc HB.out _⟩
theorem newInts_nil (B : Nat) (w : World) : NewInts B w (.slice none 0 0) [] := ⟨rfl, .inl ⟨rfl, rfl⟩⟩
end Go.Proofs.Ythjjjnapcbkhjaa
namespace Go.Proofs.Ythjjjnapcbkhjaa
open Go.RowKit
set_option linter.unusedVariables false
set_option linter.unusedSimpArgs false
set_option maxRecDepth 20000 in
set_option maxHeartbeats 4000000 in
/-- ArrayOk. -/
theorem arrOk_impl {s d : List Int} {w : World} {v : Value} (h : ArrI w v s d) (hd : d.length ≤ 1048576) :
    Calls Try.prog 22 #[v] w fun e w' => e = .returned (.bool (arrOk s d)) ∧ Below w.heap.size w w' := by
  obtain ⟨a, c, b, e, rfl, h1, h2, _, _⟩ := h
  have H1 : Hid (Ints w a s) := h1
  have H2 : Hid (Ints w b d) := h2
  have HD : Hid (d.length ≤ 1048576) := hd
  clear h1 h2 hd
  have HSZ : Hid (∀ W, Ints W a s → Calls Try.prog 61 #[.slice a s.length c] W fun e w' => e = .returned (.int .i64 (sizeV s)) ∧ Below W.heap.size W w') := fun W h => size_impl c h
  have HAR : Hid (∀ W, Ints W b d → Calls Try.prog 62 #[.slice b d.length e] W fun e w' => e = .returned (.bool (d.all ok)) ∧ w' = W) := fun W h => allRight_impl e h HD.out
  by_cases hs : sizeV s = d.length
  · have HV : Hid (arrOk s d = d.all ok) := by show _ = _; simp [arrOk, hs]
    rw [hs] at HSZ
    clear hs
    generalize d.all ok = q at *
    go_enter Try.func22, Try.ntmps22
    go_wp2
    generalize hW : w.alloc (.cells #[.slice a s.length c, .slice b d.length e] 26) = W
    have HB : Hid (Below w.heap.size w W) := by rw [← hW]; exact bAlloc (Below.refl _ _) _
    have X : Hid (Box W w.heap.size (.slice a s.length c) (.slice b d.length e) 26) := by rw [← hW]; exact box_new w _ _ _
    have x0 := X.out.c0
    have x1 := X.out.c1
    clear hW
    go_region_held3 (fun w' => w'.cell? ⟨w.heap.size, 0, none⟩ = some (.slice a s.length c) ∧ w'.cell? ⟨w.heap.size, 1, none⟩ = some (.slice b d.length e))
      (first | exact ⟨z0, z1⟩ | exact ⟨y0, y1⟩ | exact ⟨x0, x1⟩)
      (first
        | (go_at_call 61; refine (HSZ.out _ (H1.out.keep (bTrans HB.out ((Below.refl W.heap.size W).drew)))).mono ?_; rintro r w1 ⟨rfl, hb⟩; have HB1 : Hid (Below W.heap.size W w1) := bTrans ((Below.refl W.heap.size W).drew) hb; have y0 := (X.out.keep HB1.out).c0; have y1 := (X.out.keep HB1.out).c1; clear hb)
        | (go_at_call 62; refine (HAR.out _ (H2.out.keep (bTrans HB.out HB1.out))).mono ?_; rintro r w2 ⟨rfl, hw⟩; subst w2))
    go_wp2
    go_ret
    exact ⟨by rw [HV.out]; rfl, bTrans HB.out HB1.out⟩
  · have HV : Hid (arrOk s d = false) := by show _ = _; simp [arrOk, hs]
    have hne : ((d.length : Int) == sizeV s) = false := by simp; exact fun e => hs e.symm
    generalize sizeV s = z at *
    clear hs
    go_enter Try.func22, Try.ntmps22
    go_wp2
    generalize hW : w.alloc (.cells #[.slice a s.length c, .slice b d.length e] 26) = W
    have HB : Hid (Below w.heap.size w W) := by rw [← hW]; exact bAlloc (Below.refl _ _) _
    have X : Hid (Box W w.heap.size (.slice a s.length c) (.slice b d.length e) 26) := by rw [← hW]; exact box_new w _ _ _
    have x0 := X.out.c0
    have x1 := X.out.c1
    clear hW
    first
      | go_region_with (go_at_call 61; refine (HSZ.out _ (H1.out.keep (bTrans HB.out ((Below.refl W.heap.size W).drew)))).mono ?_; rintro r w1 ⟨rfl, hb⟩; have HB1 : Hid (Below W.heap.size W w1) := bTrans ((Below.refl W.heap.size W).drew) hb; have y0 := (X.out.keep HB1.out).c0; have y1 := (X.out.keep HB1.out).c1; clear hb)
      | fail "no"
    all_goals
      go_wp2
      go_ret
      exact ⟨by rw [HV.out]; rfl, bTrans HB.out HB1.out⟩
set_option maxRecDepth 20000 in
set_option maxHeartbeats 2000000 in
/-- copyIfOk. -/
theorem copyIfOk_impl {s d : List Int} {w : World} {v : Value} (h : ArrI w v s d) (hs : s.length ≤ 1048576) (hd : d.length ≤ 1048576) :
    Calls Try.prog 78 #[v] w fun e w' => ∃ v', e = .returned (.tuple #[v', .bool (arrOk s d)]) ∧ Arr w.heap.size w'.heap.size w' v' (if arrOk s d = true then s else []) (if arrOk s d = true then d else []) ∧ Below w.heap.size w w' := by
  have H : Hid (ArrI w v s d) := h
  obtain ⟨a, c, b, e, rfl, _, _, _, _⟩ := h
  have HS : Hid (s.length ≤ 1048576) := hs
  have HD : Hid (d.length ≤ 1048576) := hd
  clear hs hd
  cases ho : arrOk s d
  all_goals
    have HO : Hid (arrOk s d = _) := ho
    clear ho
    go_enter Try.func78, Try.ntmps78
    go_wp2_with fail
    refine (arrOk_impl (H.out.keep (bAlloc (bAlloc (Below.refl _ _) _) _)) HD.out).mono ?_
    rintro r w1 ⟨rfl, hb⟩
    have HB : Hid (Below w.heap.size w w1) := bTrans (bAlloc (bAlloc (Below.refl _ _) _) _) hb
    have X : Hid (Box w1 w.heap.size (.slice a s.length c) (.slice b d.length e) 26) := ((box_new w _ _ _).keep (bAlloc (Below.refl _ _) _)).keep hb
    have Y : Hid (Box w1 (w.heap.size + 1) (.slice none 0 0) (.slice none 0 0) 26) := (box_new2 w _ _ _ _).keep hb
    have x0 := X.out.c0
    have x1 := X.out.c1
    have y0 := Y.out.c0
    have y1 := Y.out.c1
    have f0 : w1.frozen? ⟨w.heap.size + 1, 0, none⟩ = false := free_at Y.out 0
    have f1 : w1.frozen? ⟨w.heap.size + 1, 1, none⟩ = false := free_at Y.out 1
    clear hb
    rw [HO.out]
  · have HR : Hid (((w1.setCell ⟨w.heap.size + 1, 0, none⟩ (.slice none 0 0)).setCell ⟨w.heap.size + 1, 1, none⟩ (.slice none 0 0)).heap[w.heap.size + 1]? = some (.cells #[.slice none 0 0, .slice none 0 0] 26 (0, 0))) := arr_stored Y.out
    go_wp2
    refine bodyPost_ret (results_arr_tmp Try.results78 _ _ (w.heap.size + 1) _ _ rfl HR.out) rfl ?_
    exact ⟨_, rfl, arr_zero _ _ _, below_setCell (below_setCell HB.out (by omega) _ _) (by omega) _ _⟩
  · go_wp2_with fail
    refine (copyOf_impl (H.out.keep HB.out) HS.out HD.out).mono ?_
    rintro r w2 ⟨v', rfl, ha, hb⟩
    obtain ⟨a', c', b', e', rfl, _, _, _, _⟩ := ha.arrI
    have HA : Hid (Arr w1.heap.size w2.heap.size w2 (.agg #[.slice a' s.length c', .slice b' d.length e']) s d) := ha
    have HB2 : Hid (Below w.heap.size w w2) := bTrans HB.out hb
    have Y2 : Hid (Box w2 (w.heap.size + 1) (.slice none 0 0) (.slice none 0 0) 26) := Y.out.keep hb
    have LT : Hid (w.heap.size + 1 < w1.heap.size) := Y.out.lt
    clear ha hb x0 x1 y0 y1 f0 f1
    have y0 := Y2.out.c0
    have y1 := Y2.out.c1
    have f0 : w2.frozen? ⟨w.heap.size + 1, 0, none⟩ = false := free_at Y2.out 0
    have f1 : w2.frozen? ⟨w.heap.size + 1, 1, none⟩ = false := free_at Y2.out 1
    have HR : Hid (((w2.setCell ⟨w.heap.size + 1, 0, none⟩ (.slice a' s.length c')).setCell ⟨w.heap.size + 1, 1, none⟩ (.slice b' d.length e')).heap[w.heap.size + 1]? = some (.cells #[.slice a' s.length c', .slice b' d.length e'] 26 (0, 0))) := arr_stored Y2.out
    go_wp2
    refine bodyPost_ret (results_arr_tmp Try.results78 _ _ (w.heap.size + 1) _ _ rfl HR.out) rfl ?_
    refine ⟨_, rfl, ?_, below_setCell (below_setCell HB2.out (by omega) _ _) (by omega) _ _⟩
    have L := LT.out
    exact ((HA.out.setCell L _ _).setCell L _ _).mono (by omega) (by simp [size_setCell])
theorem arrOk_one (x : Int) : arrOk [] [x] = ok x := by simp [arrOk, sizeV_0']
set_option maxRecDepth 20000 in
set_option maxHeartbeats 2000000 in
/-- ScalarOf. -/
theorem scalarOf_impl (x : Int) (w : World) :
    Calls Try.prog 30 #[.int .i64 x] w fun e w' => ∃ v, e = .returned (.tuple #[v, .bool (ok x)]) ∧ Arr w.heap.size w'.heap.size w' v [] (if ok x = true then [x] else []) ∧ Below w.heap.size w w' := by
  obtain ⟨D, hD⟩ : ∃ D, D = (if ok x = true then [x] else []) := ⟨_, rfl⟩
  rw [← hD]
  have HC : Hid (∀ W u, ArrI W u [] [x] → Calls Try.prog 78 #[u] W fun e w' => ∃ v', e = .returned (.tuple #[v', .bool (ok x)]) ∧ Arr W.heap.size w'.heap.size w' v' [] D ∧ Below W.heap.size W w') := by
    intro W u hu
    have q := copyIfOk_impl hu (by simp) (by simp)
    rw [arrOk_one, ← hD] at q
    refine q.mono ?_
    rintro e w' ⟨v', rfl, ha, hb⟩
    exact ⟨v', rfl, by simpa using ha, hb⟩
  clear hD
  go_enter Try.func30, Try.ntmps30
  go_wp2_with fail
  refine (HC.out _ _ ⟨none, 0, _, 1, rfl, .inl rfl, (by simpa [vals] using ints_new (w.alloc (.cells #[.slice none 0 0, .slice none 0 0] 26)) [x] 3), by simp, by simp⟩).mono ?_
  rintro r w1 ⟨v', rfl, ha, hb⟩
  obtain ⟨a', c', b', e', rfl, _, _, _, _⟩ := ha.arrI
  have HA : Hid (Arr (w.heap.size + 2) w1.heap.size w1 (.agg #[.slice a' 0 c', .slice b' D.length e']) [] D) := by show Arr _ _ _ _ _ _; simpa using ha
  have HB : Hid (Below w.heap.size w w1) := bTrans (bAlloc (bAlloc (Below.refl _ _) _) _) hb
  have Y : Hid (Box w1 w.heap.size (.slice none 0 0) (.slice none 0 0) 26) := ((box_new w _ _ _).keep (bAlloc (Below.refl _ _) _)).keep hb
  clear ha hb
  have y0 := Y.out.c0
  have y1 := Y.out.c1
  have f0 : w1.frozen? ⟨w.heap.size, 0, none⟩ = false := free_at Y.out 0
  have f1 : w1.frozen? ⟨w.heap.size, 1, none⟩ = false := free_at Y.out 1
  have HR : Hid (((w1.setCell ⟨w.heap.size, 0, none⟩ (.slice a' 0 c')).setCell ⟨w.heap.size, 1, none⟩ (.slice b' D.length e')).heap[w.heap.size]? = some (.cells #[.slice a' 0 c', .slice b' D.length e'] 26 (0, 0))) := arr_stored Y.out
  simp only [List.length_nil]
  go_wp2
  refine bodyPost_ret (results_arr_tmp Try.results30 _ _ w.heap.size _ _ rfl HR.out) rfl ?_
  refine ⟨_, rfl, ?_, below_setCell (below_setCell HB.out (Nat.le_refl _) _ _) (Nat.le_refl _) _ _⟩
  exact ((HA.out.setCell (by omega) _ _).setCell (by omega) _ _).mono (by omega) (by simp [size_setCell])
end Go.Proofs.Ythjjjnapcbkhjaa
namespace Go.Proofs.Ythjjjnapcbkhjaa
open Go.RowKit Go.Shelf
set_option linter.unusedVariables false
set_option linter.unusedSimpArgs false
attribute [local go_sem] Oper.semAt_some
theorem wrapJ {a : Int} (h0 : 0 ≤ a) (h1 : a ≤ 1099511627776) : IntKind.i64.wrap a = a := by rw [IntKind.wrap_i64]; omega
/-- The first k numbers. -/
def upto (cnt k : Nat) : List (Fin cnt) := (List.finRange cnt).take k
theorem upto_succ {cnt k : Nat} (h : k < cnt) : upto cnt (k + 1) = upto cnt k ++ [⟨k, h⟩] := by
  unfold upto
  rw [List.take_succ_eq_append_getElem (by simpa using h)]
  simp
theorem upto_length {cnt k : Nat} (h : k ≤ cnt) : (upto cnt k).length = k := by simp [upto, h]
theorem upto_all (cnt : Nat) : upto cnt cnt = List.finRange cnt := by unfold upto; exact List.take_of_length_le (by simp)
/-- What a round keeps: the box of the array that is cut. -/
def KeepsBox (q : Nat) (W W' : World) : Prop := W'.heap[q]? = W.heap[q]?
theorem keepsBox_t {q : Nat} {A B C : World} (h : KeepsBox q A B) (k : KeepsBox q B C) : KeepsBox q A C := Eq.trans k h
theorem keepsBox_b {q : Nat} {w : World} (hq : q < w.heap.size) (W : World) (l : Nat) (o o' : Obj) (hl : w.heap.size ≤ l) (_ : W.heap[l]? = some o) (_ : o.isCells = false) (_ : o.isWalk = false) : KeepsBox q W (W.putObj l o') :=
  World.putObj_heap_other (by omega)
set_option maxRecDepth 100000 in
set_option maxHeartbeats 4000000 in
theorem cut_in (n l q cnt N r b1 o1 c dl e ct : Nat) (tl b : Option Addr) (ad : Nat → Option Addr) (cd : Nat → Nat) (hn : 1 ≤ n) (hc : cnt ≤ 300) (hN : N ≤ 300) (hr : r ≤ 3)
    (hq : 0 < cnt → (dl : Int) / (cnt : Int) = N)
    (hs1 : ∀ W, (Instr.slice 24 (.slice (some ⟨b1, o1, none⟩) (r + 1) c) (some (.int .i64 1)) (some (.int .i64 ((r : Int) + 1))) (some (.int .i64 ((r : Int) + 1)))).run Try.prog W = .ok (.slice tl r ct) W)
    (hs2 : ∀ (k M R : Nat) W, k < cnt → k * N = M → (k + 1) * N = R → (Instr.slice 24 (.slice b dl e) (some (.int .i64 (M : Int))) (some (.int .i64 (R : Int))) (some (.int .i64 (R : Int)))).run Try.prog W = .ok (.slice (ad k) N (cd k)) W)
    (J Jx : List (Fin cnt) → World → Prop)
    (hY : ∀ pre x W, J pre W → pre.length < cnt → YieldAt Fence.wide (n - 1) Try.prog l #[.agg #[.slice tl r ct, .slice (ad x.1) N (cd x.1)]] W fun e W' =>
      (e = .returned (.bool true) ∧ J (pre ++ [x]) W' ∧ KeepsBox q W W') ∨ (e = .returned (.bool false) ∧ Jx (pre ++ [x]) W'))
    (W : World) (hJ : AbidesFrom W.heap.size J) (hB : Box W q (.slice (some ⟨b1, o1, none⟩) (r + 1) c) (.slice b dl e) 26) (h0 : W.cell? ⟨b1, o1, none⟩ = some (.int .i64 (cnt : Int))) (hj : J [] W) :
    CallsIn Fence.wide n Try.prog 94 #[.func (.yield l) #[] #[], .pointer (some ⟨q, 0, none⟩)] W fun e W' => (∃ v, e = .returned v) ∧
      ((∃ ys, ys = List.finRange cnt ∧ J ys W') ∨ (∃ pre, True ∧ Jx pre W')) := by
  have HB : Hid (Box W q (.slice (some ⟨b1, o1, none⟩) (r + 1) c) (.slice b dl e) 26) := hB
  have x0 := hB.c0
  have x1 := hB.c1
  clear hB
  refine callsIn_of_wp Try.func94 rfl trivial ?_ rfl
  simp only [Try.ntmps94, List.size_toArray, List.length_cons, List.length_nil, Nat.reduceAdd, Nat.reduceSub, Array.replicate_succ, Array.replicate_zero, List.push_toArray, List.append_toArray, List.nil_append, List.cons_append]
  gi_wp2
  gi_region
  gi_wp2
  have HQ : Hid (0 < cnt → (dl : Int) / (cnt : Int) = N) := hq
  have HS2 : Hid (∀ (k M R : Nat) W, k < cnt → k * N = M → (k + 1) * N = R → (Instr.slice 24 (.slice b dl e) (some (.int .i64 (M : Int))) (some (.int .i64 (R : Int))) (some (.int .i64 (R : Int)))).run Try.prog W = .ok (.slice (ad k) N (cd k)) W) := hs2
  have HJ : Hid (AbidesFrom W.heap.size J) := hJ
  clear hq hs2 x0 x1 hJ
  gi_loopw [18] (fun i wr => ∃ k : Nat, k ≤ cnt ∧ i = .int .i64 k ∧ J (upto cnt k) wr ∧ KeepsBox q W wr)
    (fun i _ => cnt - (intOf i).toNat)
  case atStart => exact ⟨0, by omega, rfl, HJ.out _ _ _ none hj ⟨rfl, rfl, rfl, Nat.le_refl _, fun _ _ _ => rfl⟩ (fun r e => by cases e), rfl⟩
  case round =>
    obtain ⟨k, hk, rfl, hJs, hnx⟩ := hrel
    have X : Hid (Box wr q (.slice (some ⟨b1, o1, none⟩) (r + 1) c) (.slice b dl e) 26) := by
      have := HB.out; unfold Box at this; show wr.heap[q]? = _; rw [show wr.heap[q]? = W.heap[q]? from hnx]; exact this
    by_cases hlt : (k : Int) < (cnt : Int)
    · obtain ⟨M, hM⟩ : ∃ M : Nat, k * N = M := ⟨_, rfl⟩
      obtain ⟨R, hR⟩ : ∃ R : Nat, (k + 1) * N = R := ⟨_, rfl⟩
      have hs2 := fun W => HS2.out k M R W (by omega) hM hR
      have hR1 : R ≤ 90000 := by
        have h1 : (k + 1) * N ≤ 300 * 300 := Nat.mul_le_mul (by omega) hN
        omega
      have hM1 : M ≤ 90000 := by
        have h1 : k * N ≤ 300 * 300 := Nat.mul_le_mul (by omega) hN
        omega
      have eM : (k : Int) * (N : Int) = (M : Int) := by rw [← hM]; simp
      have eR : ((k : Int) + 1) * (N : Int) = (R : Int) := by rw [← hR]; simp
      have hwM : IntKind.i64.wrap (M : Int) = (M : Int) := wrapJ (by omega) (by omega)
      have hwR : IntKind.i64.wrap (R : Int) = (R : Int) := wrapJ (by omega) (by omega)
      have hdv : (dl : Int) / (cnt : Int) = N := HQ.out (by omega)
      have hpos : (0 : Int) < (cnt : Int) := by omega
      have HL : Hid (k < cnt) := by show _ < _; omega
      have x0 := X.out.c0
      have x1 := X.out.c1
      have HJS : Hid (J (upto cnt k) wr) := hJs
      have HNX : Hid (KeepsBox q W wr) := hnx
      clear hM hR hJs hnx
      have d0 : ∀ O : Obj, (wr.alloc O).drew.cell? ⟨q, 0, none⟩ = some (.slice (some ⟨b1, o1, none⟩) (r + 1) c) := fun O => (X.out.keep (bAlloc (Below.refl _ _) O)).c0
      have d1 : ∀ O : Obj, (wr.alloc O).drew.cell? ⟨q, 1, none⟩ = some (.slice b dl e) := fun O => (X.out.keep (bAlloc (Below.refl _ _) O)).c1
      gi_wp2
      gi_region
      generalize hW3 : (wr.alloc (.cells #[.slice tl r ct, .slice (ad k) N (cd k)] 26)).drew = W3
      have hJ3 : J (upto cnt k) W3 := by
        rw [← hW3]
        exact HJ.out _ _ _ none HJS.out ⟨rfl, rfl, rfl, by show wr.heap.size ≤ (wr.alloc _).heap.size; simp, fun j hj _ => Below.heap_alloc _ _ _ hj⟩ (fun r e => by cases e)
      have y0 : W3.cell? ⟨wr.heap.size, 0, none⟩ = some (.slice tl r ct) := by rw [← hW3]; exact cell_newA _ _ _ rfl
      have y1 : W3.cell? ⟨wr.heap.size, 1, none⟩ = some (.slice (ad k) N (cd k)) := by rw [← hW3]; exact cell_newA _ _ _ rfl
      have HK3 : Hid (KeepsBox q W W3) := keepsBox_t HNX.out (by rw [← hW3]; exact Below.heap_alloc _ _ _ X.out.lt)
      clear hW3 d0 d1
      obtain ⟨fn, tmps, assign, body, hy, hRd⟩ := hY (upto cnt k) ⟨k, HL.out⟩ W3 hJ3 (by rw [upto_length hk]; exact HL.out)
      dsimp only at hy
      clear hY
      gi_wp2
      refine hRd.mono ?_
      rintro e' W4 (⟨rfl, hJ4, hk4⟩ | ⟨rfl, hJx4⟩)
      · have HJ4 : Hid (J (upto cnt (k + 1)) W4) := by show J _ _; rw [upto_succ HL.out]; exact hJ4
        have HK4 : Hid (KeepsBox q W W4) := keepsBox_t HK3.out hk4
        clear hJ4 hk4
        gi_wp2
        go_roundw
        case rel => exact ⟨k + 1, by have := HL.out; omega, by go_num, HJ4.out, HK4.out⟩
        case measure => simp [intOf]; omega
      · gi_wp2
        refine bodyPost_ret (results_none rfl _ _ _) rfl ?_
        exact ⟨⟨_, rfl⟩, .inr ⟨_, trivial, hJx4⟩⟩
    · obtain rfl : k = cnt := by omega
      rw [upto_all] at hJs
      gi_wp2
      go_end0
      first
        | exact ⟨⟨_, rfl⟩, .inl ⟨_, rfl, hJs⟩⟩
        | exact ⟨⟨_, rfl⟩, .inl hJs⟩
/-- cutRows: the array is boxed; the function value captures the box. -/
theorem cutRows_in (n : Nat) (x y : Value) (w : World) (hx : x.oneCell' = true) (hy : y.oneCell' = true) :
    CallsIn Fence.wide n Try.prog 59 #[.agg #[x, y]] w fun e w' => e = .returned (.func (.func 94) #[] #[.pointer (some ⟨w.heap.size, 0, none⟩)]) ∧ w' = w.alloc (.cells #[x, y] 26) := by
  refine callsIn_of_wp Try.func59 rfl trivial ?_ rfl
  simp only [Try.ntmps59, List.size_toArray, List.length_cons, List.length_nil, Nat.reduceAdd, Nat.reduceSub, Array.replicate_succ, Array.replicate_zero, List.push_toArray, List.append_toArray, List.nil_append, List.cons_append]
  gi_wp2
  go_ret
  exact ⟨rfl, rfl⟩
/-- The value that cutRows hands back tells the rows in order. -/
theorem cut_stops (n q cnt N r b1 o1 c dl e ct : Nat) (tl b : Option Addr) (ad : Nat → Option Addr) (cd : Nat → Nat) (hn : 1 ≤ n) (hc : cnt ≤ 300) (hN : N ≤ 300) (hr : r ≤ 3)
    (hq : 0 < cnt → (dl : Int) / (cnt : Int) = N)
    (hs1 : ∀ W, (Instr.slice 24 (.slice (some ⟨b1, o1, none⟩) (r + 1) c) (some (.int .i64 1)) (some (.int .i64 ((r : Int) + 1))) (some (.int .i64 ((r : Int) + 1)))).run Try.prog W = .ok (.slice tl r ct) W)
    (hs2 : ∀ (k M R : Nat) W, k < cnt → k * N = M → (k + 1) * N = R → (Instr.slice 24 (.slice b dl e) (some (.int .i64 (M : Int))) (some (.int .i64 (R : Int))) (some (.int .i64 (R : Int)))).run Try.prog W = .ok (.slice (ad k) N (cd k)) W)
    (w : World) (hb1 : b1 < w.heap.size) (hB : Box w q (.slice (some ⟨b1, o1, none⟩) (r + 1) c) (.slice b dl e) 26) (h0 : w.cell? ⟨b1, o1, none⟩ = some (.int .i64 (cnt : Int))) :
    SeqStopsK Fence.wide n Try.prog 94 #[.pointer (some ⟨q, 0, none⟩)] (fun x : Fin cnt => #[.agg #[.slice tl r ct, .slice (ad x.1) N (cd x.1)]]) (KeepsBox q) (fun ys => ys = List.finRange cnt) (fun _ => True) cnt w := fun l J Jx W hW hJ _ hY hj =>
  cut_in n l q cnt N r b1 o1 c dl e ct tl b ad cd hn hc hN hr hq hs1 hs2 J Jx hY W hJ (hB.keep hW) ((hW.cell (p := ⟨b1, o1, none⟩) hb1).trans h0) hj
end Go.Proofs.Ythjjjnapcbkhjaa
namespace Go.Proofs.Ythjjjnapcbkhjaa
open Go.RowKit Go.Shelf
set_option linter.unusedVariables false
set_option linter.unusedSimpArgs false
attribute [local go_sem] Oper.semAt_some
/-- What a round keeps: the box of the list, and the list. -/
def KeepsTwo (q b : Nat) (W W' : World) : Prop := W'.heap[q]? = W.heap[q]? ∧ W'.heap[b]? = W.heap[b]?
theorem keepsTwo_t {q b : Nat} {A B C : World} (h : KeepsTwo q b A B) (k : KeepsTwo q b B C) : KeepsTwo q b A C := ⟨k.1.trans h.1, k.2.trans h.2⟩
theorem keepsTwo_b {q b : Nat} {w : World} (hq : q < w.heap.size) (hb : b < w.heap.size) (W : World) (l : Nat) (o o' : Obj) (hl : w.heap.size ≤ l) (_ : W.heap[l]? = some o) (_ : o.isCells = false) (_ : o.isWalk = false) : KeepsTwo q b W (W.putObj l o') :=
  ⟨World.putObj_heap_other (by omega), World.putObj_heap_other (by omega)⟩
theorem cell_same {W W' : World} {b o : Nat} (h : W'.heap[b]? = W.heap[b]?) : W'.cell? ⟨b, o, none⟩ = W.cell? ⟨b, o, none⟩ := World.cell?_of_block (w := W) (w' := W') (a := ⟨b, o, none⟩) h
set_option maxRecDepth 100000 in
set_option maxHeartbeats 4000000 in
theorem back_in (n l q b1 o1 c : Nat) (a : Option Addr) (d : List Int) (hn : 1 ≤ n) (hc : d.length ≤ 300) (ha : 0 < d.length → a = some ⟨b1, o1, none⟩)
    (J Jx : List (Fin d.length) → World → Prop)
    (hY : ∀ pre x W, J pre W → pre.length < d.length → YieldAt Fence.wide (n - 1) Try.prog l #[.int .i64 ((d.length - 1 - x.1 : Nat) : Int), .int .i64 (d.getD (d.length - 1 - x.1) 0)] W fun e W' =>
      (e = .returned (.bool true) ∧ J (pre ++ [x]) W' ∧ KeepsTwo q b1 W W') ∨ (e = .returned (.bool false) ∧ Jx (pre ++ [x]) W'))
    (W : World) (hJ : AbidesFrom W.heap.size J) (hB : W.cell? ⟨q, 0, none⟩ = some (.slice a d.length c)) (h0 : ∀ j, j < d.length → W.cell? ⟨b1, o1 + j, none⟩ = some (.int .i64 (d.getD j 0))) (hj : J [] W) :
    CallsIn Fence.wide n Try.prog 98 #[.func (.yield l) #[] #[], .pointer (some ⟨q, 0, none⟩)] W fun e W' => (∃ v, e = .returned v) ∧
      ((∃ ys, ys = List.finRange d.length ∧ J ys W') ∨ (∃ pre, True ∧ Jx pre W')) := by
  have HB : Hid (W.cell? ⟨q, 0, none⟩ = some (.slice a d.length c)) := hB
  have HA : Hid (0 < d.length → a = some ⟨b1, o1, none⟩) := ha
  have H0 : Hid (∀ j, j < d.length → W.cell? ⟨b1, o1 + j, none⟩ = some (.int .i64 (d.getD j 0))) := h0
  have HJ : Hid (AbidesFrom W.heap.size J) := hJ
  clear h0 hJ ha
  refine callsIn_of_wp Try.func98 rfl trivial ?_ rfl
  simp only [Try.ntmps98, List.size_toArray, List.length_cons, List.length_nil, Nat.reduceAdd, Nat.reduceSub, Array.replicate_succ, Array.replicate_zero, List.push_toArray, List.append_toArray, List.nil_append, List.cons_append]
  gi_wp2
  clear hB
  gi_loopw [3] (fun i wr => ∃ k : Nat, k ≤ d.length ∧ i = .int .i64 ((d.length : Int) - 1 - (k : Int)) ∧ J (upto d.length k) wr ∧ KeepsTwo q b1 W wr)
    (fun i _ => (intOf i + 1).toNat)
  case atStart => exact ⟨0, by omega, by simp, HJ.out _ _ _ none hj ⟨rfl, rfl, rfl, Nat.le_refl _, fun _ _ _ => rfl⟩ (fun r e => by cases e), rfl, rfl⟩
  case round =>
    obtain ⟨k, hk, rfl, hJs, hnx⟩ := hrel
    have x0 : wr.cell? ⟨q, 0, none⟩ = some (.slice a d.length c) := (cell_same hnx.1).trans HB.out
    by_cases hlt : (k : Int) < (d.length : Int)
    · rw [HA.out (by omega)] at x0
      obtain ⟨M, hM⟩ : ∃ M : Nat, M = d.length - 1 - k := ⟨_, rfl⟩
      have eM : (d.length : Int) - 1 - (k : Int) = (M : Int) := by omega
      have hMl : (M : Int) < (d.length : Int) := by omega
      have c1 : wr.cell? ⟨b1, o1 + M, none⟩ = some (.int .i64 (d.getD M 0)) := (cell_same hnx.2).trans (H0.out M (by omega))
      have HL : Hid (k < d.length) := by show _ < _; omega
      have HJS : Hid (J (upto d.length k) wr) := hJs
      have HNX : Hid (KeepsTwo q b1 W wr) := hnx
      have hY' := hY (upto d.length k) ⟨k, HL.out⟩
      rw [← hM] at hY'
      have HM : Hid (M = d.length - 1 - k) := hM
      rw [eM]
      generalize d.getD M 0 = y at *
      clear hM hJs hnx hY
      obtain ⟨fn, tmps, assign, body, hy, hRd⟩ := hY' wr HJS.out (by rw [upto_length hk]; exact HL.out)
      try dsimp only at hy
      clear hY'
      gi_wp2
      refine hRd.mono ?_
      rintro e' W4 (⟨rfl, hJ4, hk4⟩ | ⟨rfl, hJx4⟩)
      · have HJ4 : Hid (J (upto d.length (k + 1)) W4) := by show J _ _; rw [upto_succ HL.out]; exact hJ4
        have HK4 : Hid (KeepsTwo q b1 W W4) := keepsTwo_t HNX.out hk4
        clear hJ4 hk4
        gi_wp2
        go_roundw
        case rel => exact ⟨k + 1, by have := HL.out; omega, by first | go_num | (congr 1; omega) | (simp; omega), HJ4.out, HK4.out⟩
        case measure => simp [intOf]
      · gi_wp2
        refine bodyPost_ret (results_none rfl _ _ _) rfl ?_
        exact ⟨⟨_, rfl⟩, .inr ⟨_, trivial, hJx4⟩⟩
    · obtain rfl : k = d.length := by omega
      rw [upto_all] at hJs
      have e0 : (d.length : Int) - 1 - (d.length : Int) = -1 := by omega
      rw [e0]
      gi_wp2
      go_end0
      first
        | exact ⟨⟨_, rfl⟩, .inl ⟨_, rfl, hJs⟩⟩
        | exact ⟨⟨_, rfl⟩, .inl hJs⟩
/-- slices.Backward: the list is boxed; the function value captures the box. -/
theorem backward_in (n : Nat) (v : Value) (w : World) (hv : v.oneCell' = true) :
    CallsIn Fence.wide n Try.prog 85 #[v] w fun e w' => e = .returned (.func (.func 98) #[] #[.pointer (some ⟨w.heap.size, 0, none⟩)]) ∧ w' = w.alloc (.cells #[v] 24) := by
  refine callsIn_of_wp Try.func85 rfl trivial ?_ rfl
  simp only [Try.ntmps85, List.size_toArray, List.length_cons, List.length_nil, Nat.reduceAdd, Nat.reduceSub, Array.replicate_succ, Array.replicate_zero, List.push_toArray, List.append_toArray, List.nil_append, List.cons_append]
  gi_wp2
  go_ret
  exact ⟨rfl, rfl⟩
/-- The value that slices.Backward hands back tells the numbers from the end. -/
theorem back_stops (n q b1 o1 c : Nat) (a : Option Addr) (d : List Int) (hn : 1 ≤ n) (hc : d.length ≤ 300) (ha : 0 < d.length → a = some ⟨b1, o1, none⟩) (w : World) (hq : q < w.heap.size) (hb1 : b1 < w.heap.size) (hB : w.cell? ⟨q, 0, none⟩ = some (.slice a d.length c)) (h0 : ∀ j, j < d.length → w.cell? ⟨b1, o1 + j, none⟩ = some (.int .i64 (d.getD j 0))) :
    SeqStopsK Fence.wide n Try.prog 98 #[.pointer (some ⟨q, 0, none⟩)] (fun x : Fin d.length => #[.int .i64 ((d.length - 1 - x.1 : Nat) : Int), .int .i64 (d.getD (d.length - 1 - x.1) 0)]) (KeepsTwo q b1) (fun ys => ys = List.finRange d.length) (fun _ => True) d.length w := fun l J Jx W hW hJ _ hY hj =>
  back_in n l q b1 o1 c a d hn hc ha J Jx hY W hJ ((hW.cell (p := ⟨q, 0, none⟩) hq).trans hB) (fun j hj => (hW.cell (p := ⟨b1, o1 + j, none⟩) hb1).trans (h0 j hj)) hj
end Go.Proofs.Ythjjjnapcbkhjaa
namespace Go.Proofs.Ythjjjnapcbkhjaa
open Go.RowKit Go.Shelf
set_option linter.unusedVariables false
set_option linter.unusedSimpArgs false
theorem op_in {P : Program} {ops : Array Oper} {Q : Exit → Act → World → Prop} {l n i : Nat} (hQ : ¬ LetsOut Q) (hd : ∀ (i : Nat) (o : Oper), ops[i]? = some o → ∀ c, o.op ≠ Op.defer c) {K K' : Act → World → Prop} (hK : ∀ a w, K a w → K' a w) {a : Act} {w : World} (h : wpOp P ops Q i K a w) :
    wpOpIn (Fence.wide.inRound l) n P ops Q i K' a w := by
  unfold wpOp at h
  unfold wpOpIn
  cases hi : ops[i]? with
  | none => rw [hi] at h; exact hK _ _ h
  | some o =>
    rw [hi] at h
    dsimp only at h ⊢
    by_cases hw : Region.wanted o (yielded ops a.tmps) = true
    · rw [if_pos hw] at h ⊢
      rcases h with h | ⟨_, h⟩
      · refine ⟨fun _ _ => trivial, ?_⟩
        rw [show (Fence.wide.inRound l).round = some l from rfl, Oper.semAt_some l _ _ (hd i o hi)]
        unfold Oper.wp at h
        generalize (execOp a.eval o).run P w = r at h ⊢
        cases r with
        | ok x w' =>
          cases x with
          | value v => exact hK _ _ h
          | skip => exact hK _ _ h
          | defer d => exact hK _ _ h
          | enter f args =>
            refine And.intro (fun q => (by cases q)) (CallsIn.inRound l (callsIn_wide.2 (Calls.mono h ?_)))
            intro e w'' he
            cases e with
            | returned v => exact hK _ _ he
            | panicked c => exact he
            | outgrown => exact he
          | row row args =>
            refine And.intro (fun q => (by cases q)) (fun c cs _ => ?_)
            obtain ⟨v, w3, q, s⟩ := h c cs
            exact ⟨v, w3, hK _ _ q, stepsIn_wide.2 s⟩
          | _ => exact False.elim h
        | halt x w' =>
          cases x <;> exact h
      · exact absurd h hQ
    · rw [if_neg hw] at h ⊢
      exact ⟨fun _ _ => trivial, hK _ _ h⟩
theorem any_in {P : Program} {md : Region.Mode} {ops : Array Oper} {Q : Exit → Act → World → Prop} {l n : Nat} (hQ : ¬ LetsOut Q) (hd : ∀ (i : Nat) (o : Oper), ops[i]? = some o → ∀ c, o.op ≠ Op.defer c) :
    ∀ (fuel : Nat) (listed : Array Bool) (a : Act) (w : World), wpAny P md ops Q fuel listed a w → wpAnyIn (Fence.wide.inRound l) n P md ops Q fuel listed a w := by
  intro fuel
  induction fuel with
  | zero => intro listed a w h; exact h
  | succ fuel ih =>
    intro listed a w h
    exact ⟨h.1, fun i hi => op_in hQ hd (fun a w q => ih _ a w q) (h.2 i hi)⟩
/-- The beginning of such a region, under a condition that holds throughout. -/
theorem region_in {P : Program} {ops : Array Oper} {Q : Exit → Act → World → Prop} {S : World → Prop} {l n id : Nat} {a : Act} {w : World} (hQ : ¬ LetsOut Q) (hd : ∀ (i : Nat) (o : Oper), ops[i]? = some o → ∀ c, o.op ≠ Op.defer c) (hm : P.follows .mixedOrders = true) (hS : S w.drew)
    (h : S w.drew → wpAnyH P .any ops Q S ops.size (Array.replicate ops.size false) a w.drew) : (Code.region id ops true).wpIn (Fence.wide.inRound l) n P Q a w :=
  wpIn_region_any hm (any_in hQ hd _ _ _ _ (wpAny_of_held _ _ _ _ (h hS)))
def noDefer (o : Oper) : Bool := match o.op with | .defer _ => false | _ => true
theorem noDefer_spec {ops : Array Oper} (h : ops.all noDefer = true) : ∀ (i : Nat) (o : Oper), ops[i]? = some o → ∀ c, o.op ≠ Op.defer c := by
  intro i o hi c e
  have hm : o ∈ ops := Array.mem_of_getElem? hi
  have := (Array.all_eq_true_iff_forall_mem.1 h) o hm
  unfold noDefer at this
  rw [e] at this
  cases this
end Go.Proofs.Ythjjjnapcbkhjaa
namespace Go.Proofs.Ythjjjnapcbkhjaa
open Go.RowKit
set_option linter.unusedVariables false
set_option linter.unusedSimpArgs false
theorem wf_i64 {x : Int} (h1 : -1000000000000 ≤ x) (h2 : x ≤ 1000000000000) : (Lit.int .i64 x).wf = true := by
  have e1 : IntKind.i64.min = -9223372036854775808 := by decide
  have e2 : IntKind.i64.max = 9223372036854775807 := by decide
  simp [Lit.wf, e1, e2]
  omega
set_option maxHeartbeats 1000000 in
/-- placeOr. -/
theorem placeOr_impl {w : World} {b n : Nat} {M : Int → Option Int} (h : MapAt w b n M) {x : Int} (hx : (Lit.int .i64 x).wf = true) (z : Int) :
    Calls Try.prog 64 #[.int .i64 z, .map (some b), .int .i64 x] w fun r w' => r = .returned (.int .i64 ((M x).getD z)) ∧ w' = w := by
  have hl := h.look hx
  cases hM : M x with
  | none =>
    rw [hM] at hl
    simp only [Option.getD_none, Option.isSome_none] at hl
    go_enter Try.func64, Try.ntmps64
    go_wp2
    go_ret
    exact ⟨rfl, rfl⟩
  | some p =>
    rw [hM] at hl
    simp only [Option.getD_some, Option.isSome_some] at hl
    go_enter Try.func64, Try.ntmps64
    go_wp2
    go_ret
    exact ⟨rfl, rfl⟩
set_option maxHeartbeats 1000000 in
theorem oneIf6_impl (p : Bool) (w : World) : Calls Try.prog 70 #[.bool p] w fun r w' => r = .returned (.int .i64 (if p = true then 1 else 0)) ∧ w' = w := by
  cases p
  · go_enter Try.func70, Try.ntmps70
    go_wp2
    go_ret
    exact ⟨rfl, rfl⟩
  · go_enter Try.func70, Try.ntmps70
    go_wp2
    go_ret
    exact ⟨rfl, rfl⟩
set_option maxRecDepth 20000 in
set_option maxHeartbeats 1000000 in
/-- Within's closure. -/
theorem within1_impl {W : World} {b n o A : Nat} {M : Int → Option Int} (h : MapAt W b n M) (hc : W.cell? ⟨o, 0, none⟩ = some (.map (some b))) {x : Int} (hx : (Lit.int .i64 x).wf = true) (ha : W.cell? ⟨A, 0, none⟩ = some (.int .i64 x)) :
    Calls Try.prog 69 #[.slice (some ⟨A, 0, none⟩) 1 1, .pointer (some ⟨o, 0, none⟩)] W fun r W' => r = .returned (.tuple #[.int .i64 (if (M x).isSome = true then 1 else 0), .int .i64 0]) ∧ Below W.heap.size W W' := by
  have hl : ∀ W', W' = W.drew → (Instr.lookup 49 (.map (some b)) (.int .i64 x) true).run Try.prog W' = .ok (.tuple #[.int .i64 ((M x).getD 0), .bool (M x).isSome]) W' := fun W' e => by rw [e]; exact (h.keep ((Below.refl _ _).drew)).look hx
  have hl' := hl _ rfl
  have hl0 := h.look hx
  generalize (M x).getD 0 = y at *
  generalize (M x).isSome = p at *
  clear h hl
  go_enter Try.func69, Try.ntmps69
  go_wp2_with fail
  go_region
  all_goals
    go_wp2_with (go_at_call 70; refine (oneIf6_impl _ _).mono ?_; rintro r w2 ⟨rfl, rfl⟩)
    all_goals
      go_ret2
      exact ⟨rfl, (Below.refl _ _).drew⟩
end Go.Proofs.Ythjjjnapcbkhjaa
namespace Go.Proofs.Ythjjjnapcbkhjaa
open Go.RowKit Go.Shelf
set_option linter.unusedVariables false
set_option linter.unusedSimpArgs false
attribute [local go_sem] Oper.semAt_some
/-- The first place, among the last k numbers of a list. -/
def firstM (d : List Int) : Nat → Int → Option Int
  | 0, _ => none
  | k + 1, y => if y = d.getD (d.length - 1 - k) 0 then some ((d.length - 1 - k : Nat) : Int) else firstM d k y
/-- The same, by the list of those that were told. -/
def firstL (d : List Int) (pre : List (Fin d.length)) : Int → Option Int := pre.foldl (fun M x y => if y = d.getD (d.length - 1 - x.1) 0 then some ((d.length - 1 - x.1 : Nat) : Int) else M y) (fun _ => none)
theorem firstL_snoc (d : List Int) (pre : List (Fin d.length)) (x : Fin d.length) : firstL d (pre ++ [x]) = fun y => if y = d.getD (d.length - 1 - x.1) 0 then some ((d.length - 1 - x.1 : Nat) : Int) else firstL d pre y := by
  unfold firstL
  rw [List.foldl_append]
  rfl
theorem firstL_upto (d : List Int) : ∀ k, k ≤ d.length → firstL d (upto d.length k) = firstM d k := by
  intro k
  induction k with
  | zero => intro _; funext y; simp [upto, firstL, firstM]
  | succ k ih =>
    intro h
    rw [upto_succ (by omega), firstL_snoc, ih (by omega)]
    rfl
/-- What the loop keeps: three boxes, the map, the list that is filled, the box of the list that is told. -/
structure PlI (w : World) (d : List Int) (v : Value) (N k : Nat) (M : Int → Option Int) (W : World) : Prop where
  b0 : W.heap[N]? = some (.cells #[v] 24 (0, 0))
  b1 : W.heap[N + 1]? = some (.cells #[.map (some (N + 3))] 49 (0, 0))
  b2 : W.heap[N + 2]? = some (.cells #[.slice (some ⟨N + 4, 0, none⟩) d.length d.length] 24 (0, 0))
  map : MapAt W (N + 3) k M
  own : ∃ A : List Int, A.length = d.length ∧ OwnInts W (N + 4) A
  b5 : W.heap[N + 5]? = some (.cells #[v] 24 (0, 0))
  bel : Below N w W
  size : N + 6 ≤ W.heap.size
theorem PlI.kept {w : World} {d : List Int} {v : Value} {N k : Nat} {M : Int → Option Int} {X Y : World} {row : Option Nat} (h : PlI w d v N k M X) (hg : X.grownBy Y row) (hr : ∀ r, row = some r → N + 6 ≤ r) : PlI w d v N k M Y := by
  have hs := h.size
  have hz := hg.size
  have hb : ∀ j, j < N + 6 → Y.heap[j]? = X.heap[j]? := fun j hj => hg.block j (by omega) (fun e => by have := hr j e.symm; omega)
  obtain ⟨A, hA, hO⟩ := h.own
  refine ⟨by rw [hb _ (by omega)]; exact h.b0, by rw [hb _ (by omega)]; exact h.b1, by rw [hb _ (by omega)]; exact h.b2, h.map.kept hg (fun e => by have := hr _ e.symm; omega), ⟨A, hA, by show Y.heap[_]? = _; rw [hb _ (by omega)]; exact hO⟩, by rw [hb _ (by omega)]; exact h.b5, ?_, by omega⟩
  exact ⟨hg.os.trans h.bel.os, hg.tape.trans h.bel.tape, hg.output.trans h.bel.output, Nat.le_trans h.bel.size hz, fun j hj => (hb j (by omega)).trans (h.bel.block j hj)⟩
/-- Behind a round. -/
theorem PlI.next {w : World} {d : List Int} {v : Value} {N k i : Nat} {M : Int → Option Int} {X : World} {y q : Int} (h : PlI w d v N k M X) (hk : k ≤ 1000) (hi : i < d.length) (hc : d.length ≤ 300) (hwf : (Lit.int .i64 y).wf = true) :
    ∃ W', (Instr.mapUpdate 49 (.map (some (N + 3))) (.int .i64 y) (.int .i64 (i : Int))).run Try.prog (X.drew.setCell ⟨N + 4, i, none⟩ (.int .i64 q)) = .ok () W' ∧ PlI w d v N (k + 1) (fun z => if z = y then some (i : Int) else M z) W' ∧ KeepsFrom (N + 6) X W' ∧ ∀ j, j < N + 3 ∨ j = N + 5 → W'.heap[j]? = X.heap[j]? := by
  obtain ⟨A, hA, hO⟩ := h.own
  have hs := h.size
  have M1 : MapAt (X.drew.setCell ⟨N + 4, i, none⟩ (.int .i64 q)) (N + 3) k M := (h.map.keep ((Below.refl _ _).drew)).setCell (by show N + 3 ≠ N + 4; omega) _
  obtain ⟨W', hr, hm, hg⟩ := M1.store hk hwf (p := (i : Int)) (wf_i64 (by omega) (by omega))
  have hsz : (X.drew.setCell ⟨N + 4, i, none⟩ (.int .i64 q)).heap.size = X.heap.size := by simp only [size_setCell]; rfl
  have hz := hg.size
  have hb : ∀ j, j < X.heap.size → j ≠ N + 3 → j ≠ N + 4 → W'.heap[j]? = X.heap[j]? := fun j h1 h2 h3 => by
    rw [hg.block j (by rw [hsz]; exact h1) (fun e => h2 (by injection e)), heap_setCell_other _ _ _ _ (by show j ≠ N + 4; exact h3)]
    rfl
  have hO' : OwnInts (X.drew.setCell ⟨N + 4, i, none⟩ (.int .i64 q)) (N + 4) (A.set i q) := by
    have e := heap_setCell_same X.drew (N + 4) i _ _ (.int .i64 q) (show X.drew.heap[N + 4]? = some (.cells (vals A) 3 (0, 0)) from hO)
    unfold OwnInts
    rw [e]
    simp [vals, List.map_set]
  refine ⟨W', hr, ?_, ?_, ?_⟩
  · refine ⟨by rw [hb _ (by omega) (by omega) (by omega)]; exact h.b0, by rw [hb _ (by omega) (by omega) (by omega)]; exact h.b1, by rw [hb _ (by omega) (by omega) (by omega)]; exact h.b2, hm, ⟨A.set i q, by simpa using hA, ?_⟩, by rw [hb _ (by omega) (by omega) (by omega)]; exact h.b5, ?_, by omega⟩
    · show W'.heap[N + 4]? = _
      rw [hg.block (N + 4) (by rw [hsz]; omega) (fun e => by injection e; omega)]
      exact hO'
    · exact ⟨hg.os.trans h.bel.os, hg.tape.trans h.bel.tape, hg.output.trans h.bel.output, by have := h.bel.size; omega, fun j hj => (hb j (by omega) (by omega) (by omega)).trans (h.bel.block j hj)⟩
  · exact ⟨by omega, fun j o h1 h2 _ => by rw [hb j (Array.getElem?_eq_some_iff.1 h2).1 (by omega) (by omega)]; exact h2⟩
  · intro j hj
    exact hb j (by omega) (by omega) (by omega)
theorem results_map_ints {fn : Func} {p q : Tmp} (h : fn.results = #[.cell p 49, .cell q 24]) (tmps : Array Value) (w : World) (g k : Nat) (x y : Value) (hp : tmps.getD p undef = .pointer (some ⟨g, 0, none⟩)) (hq : tmps.getD q undef = .pointer (some ⟨k, 0, none⟩))
    (hg : w.cell? ⟨g, 0, none⟩ = some x) (hk : w.cell? ⟨k, 0, none⟩ = some y) : (results fn tmps).run Try.prog w = .ok (.tuple #[x, y]) w := by
  have e : (asAddr (.pointer (some ⟨g, 0, none⟩))).run Try.prog w = .ok ⟨g, 0, none⟩ w := by simp [asAddr]
  have e' : (asAddr (.pointer (some ⟨k, 0, none⟩))).run Try.prog w = .ok ⟨k, 0, none⟩ w := by simp [asAddr]
  have l : (loadVar 49 ⟨g, 0, none⟩).run Try.prog w = .ok x w := by simp [loadVar, go_sem, hg]
  have l' : (loadVar 24 ⟨k, 0, none⟩).run Try.prog w = .ok y w := by simp [loadVar, go_sem, hk]
  have hp' : tmps[p]?.getD undef = .pointer (some ⟨g, 0, none⟩) := by simpa using hp
  have hq' : tmps[q]?.getD undef = .pointer (some ⟨k, 0, none⟩) := by simpa using hq
  simp [results, h, hp', hq', e, e', l, l', Sem.run_bind, Result.andThen]
/-- Behind the loop: what the two stores of the answer leave. -/
theorem PlI.last {w : World} {d : List Int} {v : Value} {N k D' : Nat} {M : Int → Option Int} {W : World} (h : PlI w d v N k M W) (hD : N + 6 ≤ D') (hK : W.heap[D']? = some (.deferred (some []))) :
    ∃ V, V = ((W.setCell ⟨N + 1, 0, none⟩ (.map (some (N + 3)))).setCell ⟨N + 1 + 1, 0, none⟩ (.slice (some ⟨N + 4, 0, none⟩) d.length d.length)).drew ∧ V.heap[D']? = some (.deferred (some [])) ∧
      (V.putObj D' (.deferred none)).cell? ⟨N + 1, 0, none⟩ = some (.map (some (N + 3))) ∧ (V.putObj D' (.deferred none)).cell? ⟨N + 1 + 1, 0, none⟩ = some (.slice (some ⟨N + 4, 0, none⟩) d.length d.length) ∧ MapAt (V.putObj D' (.deferred none)) (N + 3) k M ∧ Below N w (V.putObj D' (.deferred none)) := by
  have hs := h.size
  obtain ⟨x, hx⟩ : ∃ x, x = Value.map (some (N + 3)) := ⟨_, rfl⟩
  obtain ⟨y, hy⟩ : ∃ y, y = Value.slice (some ⟨N + 4, 0, none⟩) d.length d.length := ⟨_, rfl⟩
  have hb1 := h.b1
  have hb2 := h.b2
  rw [← hx] at hb1
  rw [← hy] at hb2
  rw [← hx, ← hy]
  obtain ⟨V, hV⟩ : ∃ V, V = ((W.setCell ⟨N + 1, 0, none⟩ x).setCell ⟨N + 1 + 1, 0, none⟩ y).drew := ⟨_, rfl⟩
  have e1 : V.heap[N + 1]? = some (.cells #[x] 49 (0, 0)) := by
    have q := heap_setCell_same W (N + 1) 0 _ _ x hb1
    rw [hV]
    show ((W.setCell ⟨N + 1, 0, none⟩ x).setCell ⟨N + 1 + 1, 0, none⟩ y).heap[N + 1]? = _
    rw [heap_setCell_other _ _ _ _ (by show N + 1 ≠ N + 1 + 1; omega), q]
    simp
  have e2 : V.heap[N + 1 + 1]? = some (.cells #[y] 24 (0, 0)) := by
    have q0 : (W.setCell ⟨N + 1, 0, none⟩ x).heap[N + 1 + 1]? = some (.cells #[y] 24 (0, 0)) := by rw [heap_setCell_other _ _ _ _ (by show N + 1 + 1 ≠ N + 1; omega)]; exact hb2
    have q := heap_setCell_same _ (N + 1 + 1) 0 _ _ y q0
    rw [hV]
    show ((W.setCell ⟨N + 1, 0, none⟩ x).setCell ⟨N + 1 + 1, 0, none⟩ y).heap[N + 1 + 1]? = _
    rw [q]
    simp
  have e3 : V.heap[D']? = some (.deferred (some [])) := by
    rw [hV]
    show ((W.setCell ⟨N + 1, 0, none⟩ x).setCell ⟨N + 1 + 1, 0, none⟩ y).heap[D']? = _
    rw [heap_setCell_other _ _ _ _ (by show D' ≠ N + 1 + 1; omega), heap_setCell_other _ _ _ _ (by show D' ≠ N + 1; omega)]
    exact hK
  have m1 : MapAt V (N + 3) k M := by
    rw [hV]
    exact ((h.map.setCell (a := ⟨N + 1, 0, none⟩) (by show N + 3 ≠ N + 1; omega) x).setCell (a := ⟨N + 1 + 1, 0, none⟩) (by show N + 3 ≠ N + 1 + 1; omega) y).keep ((Below.refl _ _).drew)
  have bl : Below N w V := by
    rw [hV]
    exact (below_setCell (below_setCell h.bel (by omega) _ _) (by omega) _ _).drew
  have hg := grownBy_putObj' V D' (.deferred none)
  refine ⟨V, hV, e3, ?_, ?_, m1.kept hg (fun e => by injection e; omega), ?_⟩
  · exact cell_at (by rw [World.putObj_heap_other (by omega)]; exact e1) rfl
  · exact cell_at (by rw [World.putObj_heap_other (by omega)]; exact e2) rfl
  · exact ⟨hg.os.trans bl.os, hg.tape.trans bl.tape, hg.output.trans bl.output, Nat.le_trans bl.size hg.size, fun j hj => (World.putObj_heap_other (by omega)).trans (bl.block j hj)⟩
theorem blocks6 (w : World) (A B C D E F : Obj) :
    ((((((w.alloc A).alloc B).alloc C).alloc D).alloc E).alloc F).heap[w.heap.size]? = some A ∧ ((((((w.alloc A).alloc B).alloc C).alloc D).alloc E).alloc F).heap[w.heap.size + 1]? = some B ∧
    ((((((w.alloc A).alloc B).alloc C).alloc D).alloc E).alloc F).heap[w.heap.size + 2]? = some C ∧ ((((((w.alloc A).alloc B).alloc C).alloc D).alloc E).alloc F).heap[w.heap.size + 4]? = some E ∧
    ((((((w.alloc A).alloc B).alloc C).alloc D).alloc E).alloc F).heap[w.heap.size + 5]? = some F := by
  have s1 : (w.alloc A).heap.size = w.heap.size + 1 := by simp
  have s2 : ((w.alloc A).alloc B).heap.size = w.heap.size + 2 := by simp
  have s4 : ((((w.alloc A).alloc B).alloc C).alloc D).heap.size = w.heap.size + 4 := by simp
  have s5 : (((((w.alloc A).alloc B).alloc C).alloc D).alloc E).heap.size = w.heap.size + 5 := by simp
  refine ⟨?_, ?_, ?_, ?_, ?_⟩
  · exact ((bAlloc (bAlloc (bAlloc (bAlloc (bAlloc (Below.refl _ (w.alloc A)) _) _) _) _) _).block w.heap.size (by omega)).trans (heap_alloc_new w A)
  · have := ((bAlloc (bAlloc (bAlloc (bAlloc (Below.refl _ ((w.alloc A).alloc B)) C) D) E) F).block (w.alloc A).heap.size (by omega)).trans (heap_alloc_new (w.alloc A) B)
    rw [s1] at this; exact this
  · have := ((bAlloc (bAlloc (bAlloc (Below.refl _ (((w.alloc A).alloc B).alloc C)) D) E) F).block ((w.alloc A).alloc B).heap.size (by simp)).trans (heap_alloc_new ((w.alloc A).alloc B) C)
    rw [s2] at this; exact this
  · have := ((bAlloc (Below.refl _ (((((w.alloc A).alloc B).alloc C).alloc D).alloc E)) F).block ((((w.alloc A).alloc B).alloc C).alloc D).heap.size (by simp)).trans (heap_alloc_new ((((w.alloc A).alloc B).alloc C).alloc D) E)
    rw [s4] at this; exact this
  · have := heap_alloc_new (((((w.alloc A).alloc B).alloc C).alloc D).alloc E) F
    rw [s5] at this; exact this
set_option maxRecDepth 100000 in
set_option maxHeartbeats 4000000 in
theorem places_walk {d : List Int} {a : Option Addr} {c b1 o1 : Nat} {w : World} (hi : ∀ j, j < d.length → w.cell? ⟨b1, o1 + j, none⟩ = some (.int .i64 (d.getD j 0))) (ha : 0 < d.length → a = some ⟨b1, o1, none⟩) (hb1 : b1 < w.heap.size) (hc : d.length ≤ 300) (hok : ∀ j, j < d.length → (Lit.int .i64 (d.getD j 0)).wf = true) :
    Calls Try.prog 41 #[.slice a d.length c] w fun r w' => ∃ b g, r = .returned (.tuple #[.map (some b), .slice (some ⟨g, 0, none⟩) d.length d.length]) ∧ MapAt w' b d.length (firstM d d.length) ∧ w.heap.size ≤ b ∧ Below w.heap.size w w' := by
  have hmk : ∀ w, (Instr.makeSlice 24 (.int .i64 (d.length : Int)) (.int .i64 (d.length : Int))).run Try.prog w = .ok (.slice (some ⟨w.heap.size, 0, none⟩) d.length d.length) (w.alloc (.cells (vals (List.replicate d.length 0)) 3)) := fun w => make_ints d.length (by omega) w
  have hmm : ∀ w, (Instr.makeMap 49 (some (.int .i64 (d.length : Int)))).run Try.prog w = .ok (.map (some w.heap.size)) (w.alloc (.map #[] 0)) := fun w => by
    simp [Instr.makeMap, asInt, asIntOf]
  obtain ⟨v, hv⟩ : ∃ v, v = Value.slice a d.length c := ⟨_, rfl⟩
  refine (callsIn_wide (n := 6)).1 ?_
  refine callsIn_of_wp_marks Try.func41 rfl trivial ?_ rfl
  simp only [Try.ntmps41, List.size_toArray, List.length_cons, List.length_nil, Nat.reduceAdd, Nat.reduceSub, Array.replicate_succ, Array.replicate_zero, List.push_toArray, List.append_toArray, List.nil_append, List.cons_append]
  gi_wp2_with fail
  refine ⟨trivial, (backward_in _ _ _ rfl).mono ?_⟩
  rintro rr w2 ⟨rfl, hw⟩
  have hsz : w2.heap.size = w.heap.size + 6 := by rw [hw]; simp
  have P0 : Hid (PlI w d v w.heap.size 0 (firstL d []) w2) := by
    have q := blocks6 w (.cells #[Value.slice a d.length c] 24) (.cells #[Value.map (some (w.heap.size + 1 + 1 + 1))] 49) (.cells #[Value.slice (some ⟨w.heap.size + 1 + 1 + 1 + 1, 0, none⟩) d.length d.length] 24) (.map #[] 0) (.cells (vals (List.replicate d.length 0)) 3) (.cells #[Value.slice a d.length c] 24)
    have m := (mapAt_new (((w.alloc (.cells #[Value.slice a d.length c] 24)).alloc (.cells #[Value.map (some (w.heap.size + 1 + 1 + 1))] 49)).alloc (.cells #[Value.slice (some ⟨w.heap.size + 1 + 1 + 1 + 1, 0, none⟩) d.length d.length] 24))).keep (bAlloc (bAlloc (Below.refl _ _) (.cells (vals (List.replicate d.length 0)) 3)) (.cells #[Value.slice a d.length c] 24))
    rw [show (((w.alloc (.cells #[Value.slice a d.length c] 24)).alloc (.cells #[Value.map (some (w.heap.size + 1 + 1 + 1))] 49)).alloc (.cells #[Value.slice (some ⟨w.heap.size + 1 + 1 + 1 + 1, 0, none⟩) d.length d.length] 24)).heap.size = w.heap.size + 3 by simp] at m
    rw [← hw] at q m
    obtain ⟨q0, q1, q2, q4, q5⟩ := q
    exact ⟨by rw [hv]; exact q0, q1, q2, m, ⟨List.replicate d.length 0, by simp, q4⟩, by rw [hv]; exact q5, by rw [hw]; exact bAlloc (bAlloc (bAlloc (bAlloc (bAlloc (bAlloc (Below.refl _ _) _) _) _) _) _) _, by omega⟩
  have B2 : Hid (Below w.heap.size w w2) := P0.out.bel
  have hqc : w2.cell? ⟨w.heap.size + 5, 0, none⟩ = some (.slice a d.length c) := by rw [← hv]; exact cell_at P0.out.b5 rfl
  have hi2 : ∀ j, j < d.length → w2.cell? ⟨b1, o1 + j, none⟩ = some (.int .i64 (d.getD j 0)) := fun j hj => (B2.out.cell (p := ⟨b1, o1 + j, none⟩) hb1).trans (hi j hj)
  clear hw hmk hmm
  gi_wp2_with fail
  refine wpIn_rangeFunc_ownH rfl (by decide) (gf := 98) (lb := #[.pointer (some ⟨w.heap.size + 1 + 1 + 1 + 1 + 1, 0, none⟩)]) rfl trivial (enters_of Try.func98 (by kernel_rfl) rfl)
    (back_stops 5 (w.heap.size + 5) b1 o1 c a d (by decide) hc ha w2 (by omega) (by omega) hqc hi2) keepsTwo_t (keepsTwo_b (by omega) (by omega)) (Below.refl _ _) (fun _ => rfl)
    (fun pre W => PlI w d v w.heap.size pre.length (firstL d pre) W)
    (fun _ _ _ => False)
    ?hI (fun _ _ _ _ _ hs _ _ => hs)
    P0.out
    (fun x a' W => a' = { tmps := #[.slice a d.length c, .pointer (some ⟨w.heap.size, 0, none⟩), .pointer (some ⟨w.heap.size + 1, 0, none⟩), .pointer (some ⟨w.heap.size + 1 + 1, 0, none⟩), .int .i64 ((d.length - 1 - x.1 : Nat) : Int), .int .i64 (d.getD (d.length - 1 - x.1) 0), .slice a d.length c, .int .i64 (d.length : Int), .map (some (w.heap.size + 1 + 1 + 1)), .slice a d.length c, .int .i64 (d.length : Int), .slice (some ⟨w.heap.size + 1 + 1 + 1 + 1, 0, none⟩) d.length d.length, .slice a d.length c, .func (.func 98) #[] #[.pointer (some ⟨w.heap.size + 1 + 1 + 1 + 1 + 1, 0, none⟩)], .int .i64 ((d.length - 1 - x.1 : Nat) : Int), .int .i64 (d.getD (d.length - 1 - x.1) 0), undef, undef, undef, undef, undef, undef, undef, undef, undef, undef, undef, undef, undef], defers := [] })
    ?hAx ?assign ?body ?done ?stop
  case hI =>
    rintro pre X Y row h hg hrow
    exact h.kept hg (fun r e => by have := (hrow r e).1; omega)
  case hAx =>
    rintro x a' _ X Y row h hg hr'
    exact h
  case assign =>
    rintro l pre x W K h hK
    gi_wp2
    exact hK _ _ ((KeepsOthers.refl _).from _) ⟨rfl, rfl⟩ h rfl
  case body =>
    rintro l pre x a' W hl _ h rfl hlt
    have PI : Hid (PlI w d v w.heap.size pre.length (firstL d pre) W) := h
    obtain ⟨i, hi0⟩ : ∃ i, i = d.length - 1 - x.1 := ⟨_, rfl⟩
    have hil : i < d.length := by have := x.2; omega
    obtain ⟨y, hy⟩ : ∃ y, y = d.getD i 0 := ⟨_, rfl⟩
    have hwf : (Lit.int .i64 y).wf = true := by rw [hy]; exact hok i hil
    obtain ⟨q, hq⟩ : ∃ q, q = (firstL d pre y).getD (d.length : Int) := ⟨_, rfl⟩
    obtain ⟨W', hr, hP, hK, hS⟩ := h.next (y := y) (q := q) (by omega) hil hc hwf
    have ES : Hid (firstL d (pre ++ [x]) = fun z => if z = y then some (i : Int) else firstL d pre z) := by show _ = _; rw [firstL_snoc, ← hi0, ← hy]
    have c0 : W.cell? ⟨w.heap.size, 0, none⟩ = some (.slice a d.length c) := by rw [← hv]; exact cell_at h.b0 rfl
    have c1 : W.cell? ⟨w.heap.size + 1, 0, none⟩ = some (.map (some (w.heap.size + 3))) := cell_at h.b1 rfl
    have c2 : W.cell? ⟨w.heap.size + 1 + 1, 0, none⟩ = some (.slice (some ⟨w.heap.size + 4, 0, none⟩) d.length d.length) := cell_at h.b2 rfl
    have HPO : Hid (Calls Try.prog 64 #[.int .i64 (d.length : Int), .map (some (w.heap.size + 3)), .int .i64 y] W.drew fun r w' => r = .returned (.int .i64 q) ∧ w' = W.drew) := by rw [hq]; exact placeOr_impl (h.map.keep ((Below.refl _ _).drew)) hwf _
    obtain ⟨A, hA, hO⟩ := h.own
    have hcell : ∃ z, W.drew.cell? ⟨w.heap.size + 4, i, none⟩ = some z := by
      have L2 : i < (vals A).size := by simp [vals, hA]; omega
      exact ⟨(vals A)[i], by rw [show W.drew.cell? ⟨w.heap.size + 4, i, none⟩ = W.cell? ⟨w.heap.size + 4, i, none⟩ from rfl]; exact cell_at hO (by simp [L2])⟩
    obtain ⟨z, hz⟩ := hcell
    have hfz : W.drew.frozen? ⟨w.heap.size + 4, i, none⟩ = false := by
      rw [show W.drew.frozen? ⟨w.heap.size + 4, i, none⟩ = W.frozen? ⟨w.heap.size + 4, i, none⟩ from rfl]
      simp [World.frozen?, show W.heap[w.heap.size + 4]? = _ from hO]
    have hii : (i : Int) < (d.length : Int) := by omega
    have HR : Hid ((Instr.mapUpdate 49 (.map (some (w.heap.size + 3))) (.int .i64 y) (.int .i64 (i : Int))).run Try.prog (W.drew.setCell ⟨w.heap.size + 4, i, none⟩ (.int .i64 q)) = .ok () W') := hr
    have HE : Hid (KeepsFrom w2.heap.size W W' ∧ KeepsTwo (w.heap.size + 5) b1 W W' ∧ PlI w d v w.heap.size (pre ++ [x]).length (firstL d (pre ++ [x])) W') := ⟨by rw [hsz]; exact hK, ⟨hS _ (.inr rfl), hS _ (.inl (by omega))⟩, by rw [ES.out]; simpa using hP⟩
    rw [← hi0, ← hy]
    clear hi0 hy hq hP hK hS hr h hA hO ES
    have s0 : (W.drew.setCell ⟨w.heap.size + 4, i, none⟩ (.int .i64 q)).cell? ⟨w.heap.size, 0, none⟩ = some (.slice a d.length c) := by rw [World.cell?_setCell_far _ _ _ _ (by show w.heap.size + 4 ≠ w.heap.size; omega)]; exact c0
    have s1 : (W.drew.setCell ⟨w.heap.size + 4, i, none⟩ (.int .i64 q)).cell? ⟨w.heap.size + 1, 0, none⟩ = some (.map (some (w.heap.size + 3))) := by rw [World.cell?_setCell_far _ _ _ _ (by show w.heap.size + 4 ≠ w.heap.size + 1; omega)]; exact c1
    have s2 : (W.drew.setCell ⟨w.heap.size + 4, i, none⟩ (.int .i64 q)).cell? ⟨w.heap.size + 1 + 1, 0, none⟩ = some (.slice (some ⟨w.heap.size + 4, 0, none⟩) d.length d.length) := by rw [World.cell?_setCell_far _ _ _ _ (by show w.heap.size + 4 ≠ w.heap.size + 1 + 1; omega)]; exact c2
    have hr := HR.out
    have hr2 : (Instr.mapUpdate 49 (.map (some (w.heap.size + 3))) (.int .i64 y) (.int .i64 (i : Int))).run Try.prog (World.drew (W.setCell ⟨w.heap.size + 4, i, none⟩ (.int .i64 q))) = .ok () W' := HR.out
    gi_wp2_with fail
    refine region_in (S := (fun w' => w'.cell? ⟨w.heap.size, 0, none⟩ = some (.slice a d.length c) ∧ w'.cell? ⟨w.heap.size + 1, 0, none⟩ = some (.map (some (w.heap.size + 3))) ∧ w'.cell? ⟨w.heap.size + 1 + 1, 0, none⟩ = some (.slice (some ⟨w.heap.size + 4, 0, none⟩) d.length d.length))) (fun ⟨_, _, h⟩ => h) (noDefer_spec (by kernel_rfl)) (by kernel_rfl) ?_ (fun hHeld0 => ?_)
    · (try dsimp only); (first | exact ⟨s0, s1, s2⟩ | exact ⟨c0, c1, c2⟩)
    refine wpAnyH_take (i := 0) (oi := _) (v := ?_) rfl (by kernel_rfl) (by kernel_rfl) (by kernel_rfl) (fun _ _ _ h => h) (Or.inl ⟨by rfl, ?_⟩) (by assumption) ?_
    rotate_left
    · intro wS hSw; (try dsimp only at hSw); go_simp; (try with_reducible rfl)
    try simp only [Act.put, List.setIfInBounds_toArray, List.set_cons_zero, List.set_cons_succ]
    refine wpAnyH_take (i := 1) (oi := _) (v := ?_) rfl (by kernel_rfl) (by kernel_rfl) (by kernel_rfl) (fun _ _ _ h => h) (Or.inl ⟨by rfl, ?_⟩) (by assumption) ?_
    rotate_left
    · intro wS hSw; (try dsimp only at hSw); go_simp; (try with_reducible rfl)
    try simp only [Act.put, List.setIfInBounds_toArray, List.set_cons_zero, List.set_cons_succ]
    refine wpAnyH_take (i := 2) (oi := _) (v := ?_) rfl (by kernel_rfl) (by kernel_rfl) (by kernel_rfl) (fun _ _ _ h => h) (Or.inl ⟨by rfl, ?_⟩) (by assumption) ?_
    rotate_left
    · intro wS hSw; (try dsimp only at hSw); go_simp; (try with_reducible rfl)
    try simp only [Act.put, List.setIfInBounds_toArray, List.set_cons_zero, List.set_cons_succ]
    refine wpAnyH_take (i := 3) (oi := _) (v := ?_) rfl (by kernel_rfl) (by kernel_rfl) (by kernel_rfl) (fun _ _ _ h => h) (Or.inl ⟨by rfl, ?_⟩) (by assumption) ?_
    rotate_left
    · intro wS hSw; (try dsimp only at hSw); go_simp; (try with_reducible rfl)
    try simp only [Act.put, List.setIfInBounds_toArray, List.set_cons_zero, List.set_cons_succ]
    refine wpAnyH_take (i := 4) (oi := _) (v := ?_) rfl (by kernel_rfl) (by kernel_rfl) (by kernel_rfl) (fun _ _ _ h => h) (Or.inl ⟨by rfl, ?_⟩) (by assumption) ?_
    rotate_left
    · intro wS hSw; (try dsimp only at hSw); go_simp; (try with_reducible rfl)
    try simp only [Act.put, List.setIfInBounds_toArray, List.set_cons_zero, List.set_cons_succ]
    refine wpAnyH_take (i := 5) (oi := _) (v := ?_) rfl (by kernel_rfl) (by kernel_rfl) (by kernel_rfl) (fun _ _ _ h => h) (Or.inl ⟨by rfl, ?_⟩) (by assumption) ?_
    rotate_left
    · intro wS hSw; (try dsimp only at hSw); go_simp; (try with_reducible rfl)
    try simp only [Act.put, List.setIfInBounds_toArray, List.set_cons_zero, List.set_cons_succ]
    refine wpAnyH_ready (rs := [6]) (by kernel_rfl) (by simp) ?_
    refine AllReadyH.cons (o := _) rfl (fun K hK => ?_) AllReadyH.nil
    go_simp
    (go_at_call 64; refine (HPO.out).mono ?_; rintro r w3 ⟨rfl, hw3⟩; subst hw3)
    try go_wp2_with fail
    refine hK.out _ _ ?_ (fun hHeld1 => ?_)
    · (try dsimp only); (first | exact ⟨s0, s1, s2⟩ | exact ⟨c0, c1, c2⟩)
    clear hK K hHeld0
    try simp only [Act.put, List.setIfInBounds_toArray, List.set_cons_zero, List.set_cons_succ]
    refine wpAnyH_take (i := 7) (oi := _) (v := ?_) rfl (by kernel_rfl) (by kernel_rfl) (by kernel_rfl) (fun _ _ _ h => h) (Or.inl ⟨by rfl, ?_⟩) (by assumption) ?_
    rotate_left
    · intro wS hSw; (try dsimp only at hSw); go_simp; (try with_reducible rfl)
    try simp only [Act.put, List.setIfInBounds_toArray, List.set_cons_zero, List.set_cons_succ]
    refine wpAnyH_ready (rs := [8]) (by kernel_rfl) (by simp) ?_
    refine AllReadyH.cons (o := _) rfl (fun K hK => ?_) AllReadyH.nil
    go_simp
    refine hK.out _ _ ?_ (fun hHeld2 => ?_)
    · (try dsimp only); (first | exact ⟨s0, s1, s2⟩ | exact ⟨c0, c1, c2⟩)
    clear hK K hHeld1
    try simp only [Act.put, List.setIfInBounds_toArray, List.set_cons_zero, List.set_cons_succ]
    refine wpAnyH_done (by kernel_rfl) ?_ _
    gi_wp2
    exact HE.out
  case done =>
    rintro D' zs W hD rfl h hK
    have PI : Hid (PlI w d v w.heap.size d.length (firstM d d.length) W) := by
      have q := h
      rw [← upto_all, firstL_upto d _ (Nat.le_refl _), upto_length (Nat.le_refl _)] at q
      exact q
    have c1 : W.cell? ⟨w.heap.size + 1, 0, none⟩ = some (.map (some (w.heap.size + 3))) := cell_at h.b1 rfl
    have c2 : W.cell? ⟨w.heap.size + 1 + 1, 0, none⟩ = some (.slice (some ⟨w.heap.size + 4, 0, none⟩) d.length d.length) := cell_at h.b2 rfl
    have f1 : W.frozen? ⟨w.heap.size + 1, 0, none⟩ = false := by simp [World.frozen?, h.b1]
    have f2 : W.frozen? ⟨w.heap.size + 1 + 1, 0, none⟩ = false := by simp [World.frozen?, show W.heap[w.heap.size + 1 + 1]? = _ from h.b2]
    clear h
    gi_wp2_with fail
    gi_region
    all_goals
      gi_wp2
      obtain ⟨V, hV, k1, k2, k3, k4, k5⟩ := PI.out.last (by omega) hK
      rw [← hV]
      refine ⟨by simp, .inl ⟨_, _, rfl, run_takeDeferred k1, ?_⟩⟩
      exact ⟨_, results_map_ints rfl _ _ (w.heap.size + 1) (w.heap.size + 1 + 1) _ _ rfl rfl k2 k3, _, _, rfl, k4, by omega, k5⟩
  case stop =>
    rintro D' c' pre W _ _ h _
    exact h.elim
end Go.Proofs.Ythjjjnapcbkhjaa
namespace Go.Proofs.Ythjjjnapcbkhjaa
set_option linter.unusedVariables false
theorem placeIn_cons (x y : Int) (l : List Int) : placeIn (x :: l) y = if y = x then 0 else placeIn l y + 1 := by
  unfold placeIn
  rw [List.findIdx_cons]
  by_cases h : y = x
  · subst h; simp
  · have h' : (x == y) = false := by simp; omega
    rw [h', if_neg h]
    rfl
theorem firstM_at (d : List Int) (y : Int) : ∀ k, k ≤ d.length → firstM d k y = if placeIn (d.drop (d.length - k)) y < k then some (((d.length - k) + placeIn (d.drop (d.length - k)) y : Nat) : Int) else none := by
  intro k
  induction k with
  | zero => intro _; simp [firstM]
  | succ k ih =>
    intro h
    have e : d.drop (d.length - (k + 1)) = d.getD (d.length - 1 - k) 0 :: d.drop (d.length - k) := by
      have hl : d.length - (k + 1) < d.length := by omega
      rw [List.drop_eq_getElem_cons hl]
      congr 1
      · rw [List.getD_eq_getElem?_getD, List.getElem?_eq_getElem (by omega)]
        simp [Nat.sub_sub, Nat.add_comm]
      · congr 1; omega
    show (if y = d.getD (d.length - 1 - k) 0 then some ((d.length - 1 - k : Nat) : Int) else firstM d k y) = _
    rw [e, placeIn_cons]
    by_cases hy : y = d.getD (d.length - 1 - k) 0
    · rw [if_pos hy, if_pos hy, if_pos (by omega)]
      congr 2
      omega
    · rw [if_neg hy, if_neg hy, ih (by omega)]
      by_cases hp : placeIn (d.drop (d.length - k)) y < k
      · rw [if_pos hp, if_pos (by omega)]
        congr 2
        omega
      · rw [if_neg hp, if_neg (by omega)]
theorem firstM_all (d : List Int) (y : Int) : firstM d d.length y = if placeIn d y < d.length then some ((placeIn d y : Nat) : Int) else none := by
  have h := firstM_at d y d.length (Nat.le_refl _)
  rw [Nat.sub_self, List.drop_zero] at h
  rw [h]
  simp
theorem firstM_some (d : List Int) (y : Int) : (firstM d d.length y).isSome = decide (placeIn d y < d.length) := by
  rw [firstM_all]
  split <;> simp_all
theorem firstM_getD (d : List Int) (y : Int) : (firstM d d.length y).getD (d.length : Int) = ((placeIn d y : Nat) : Int) := by
  rw [firstM_all]
  have := placeIn_le d y
  split
  · rfl
  · show (d.length : Int) = _
    omega
end Go.Proofs.Ythjjjnapcbkhjaa
namespace Go.Proofs.Ythjjjnapcbkhjaa
open Go.RowKit Go.Shelf
set_option linter.unusedVariables false
set_option linter.unusedSimpArgs false
attribute [local go_sem] Oper.semAt_some
/-- The next places, by the list of those that were told. -/
def agS (d : List Int) (st : (Int → Option Int) × List Int) (x : Fin d.length) : (Int → Option Int) × List Int :=
  ((fun y => if y = d.getD (d.length - 1 - x.1) 0 then some ((d.length - 1 - x.1 : Nat) : Int) else st.1 y), st.2.set (d.length - 1 - x.1) ((st.1 (d.getD (d.length - 1 - x.1) 0)).getD (d.length : Int)))
def agP (d : List Int) (pre : List (Fin d.length)) : (Int → Option Int) × List Int := pre.foldl (agS d) ((fun _ => none), List.replicate d.length 0)
def agL (d : List Int) (pre : List (Fin d.length)) : List Int := (agP d pre).2
theorem agP_snoc (d : List Int) (pre : List (Fin d.length)) (x : Fin d.length) : agP d (pre ++ [x]) = agS d (agP d pre) x := by
  unfold agP
  rw [List.foldl_append]
  rfl
theorem agP_first (d : List Int) : ∀ (n : Nat) (pre : List (Fin d.length)), pre.length = n → (agP d pre).1 = firstL d pre := by
  intro n
  induction n with
  | zero => intro pre h; rw [List.eq_nil_of_length_eq_zero h]; rfl
  | succ n ih =>
    intro pre h
    have hne : pre ≠ [] := fun e => by rw [e] at h; cases h
    rw [← List.dropLast_concat_getLast hne, agP_snoc, firstL_snoc, ← ih pre.dropLast (by rw [List.length_dropLast]; omega)]
    rfl
theorem agL_snoc (d : List Int) (pre : List (Fin d.length)) (x : Fin d.length) : agL d (pre ++ [x]) = (agL d pre).set (d.length - 1 - x.1) ((firstL d pre (d.getD (d.length - 1 - x.1) 0)).getD (d.length : Int)) := by
  unfold agL
  rw [agP_snoc, ← agP_first d _ pre rfl]
  rfl
theorem agL_len (d : List Int) : ∀ pre : List (Fin d.length), (agL d pre).length = d.length := by
  have : ∀ (n : Nat) (pre : List (Fin d.length)), pre.length = n → (agL d pre).length = d.length := by
    intro n
    induction n with
    | zero => intro pre h; rw [List.eq_nil_of_length_eq_zero h]; simp [agL, agP]
    | succ n ih =>
      intro pre h
      have hne : pre ≠ [] := fun e => by rw [e] at h; cases h
      rw [← List.dropLast_concat_getLast hne, agL_snoc, List.length_set, ih pre.dropLast (by rw [List.length_dropLast]; omega)]
  exact fun pre => this _ pre rfl
def agM (d : List Int) : Nat → List Int
  | 0 => List.replicate d.length 0
  | k + 1 => (agM d k).set (d.length - 1 - k) ((firstM d k (d.getD (d.length - 1 - k) 0)).getD (d.length : Int))
def agD (d : List Int) : List Int := agM d d.length
theorem agL_upto (d : List Int) : ∀ k, k ≤ d.length → agL d (upto d.length k) = agM d k := by
  intro k
  induction k with
  | zero => intro _; simp [upto, agL, agP, agM]
  | succ k ih =>
    intro h
    rw [upto_succ (by omega), agL_snoc, ih (by omega), firstL_upto d k (by omega)]
    rfl
/-- Behind a round. -/
theorem PlI.next2 {w : World} {d A : List Int} {v : Value} {N k i : Nat} {M : Int → Option Int} {X : World} {y q : Int} (h : PlI w d v N k M X) (hA : A.length = d.length) (hO : OwnInts X (N + 4) A) (hk : k ≤ 1000) (hi : i < d.length) (hc : d.length ≤ 300) (hwf : (Lit.int .i64 y).wf = true) :
    ∃ W', (Instr.mapUpdate 49 (.map (some (N + 3))) (.int .i64 y) (.int .i64 (i : Int))).run Try.prog (X.drew.setCell ⟨N + 4, i, none⟩ (.int .i64 q)) = .ok () W' ∧ PlI w d v N (k + 1) (fun z => if z = y then some (i : Int) else M z) W' ∧ OwnInts W' (N + 4) (A.set i q) ∧ KeepsFrom (N + 6) X W' ∧ ∀ j, j < N + 3 ∨ j = N + 5 → W'.heap[j]? = X.heap[j]? := by
  have hs := h.size
  have M1 : MapAt (X.drew.setCell ⟨N + 4, i, none⟩ (.int .i64 q)) (N + 3) k M := (h.map.keep ((Below.refl _ _).drew)).setCell (by show N + 3 ≠ N + 4; omega) _
  obtain ⟨W', hr, hm, hg⟩ := M1.store hk hwf (p := (i : Int)) (wf_i64 (by omega) (by omega))
  have hsz : (X.drew.setCell ⟨N + 4, i, none⟩ (.int .i64 q)).heap.size = X.heap.size := by simp only [size_setCell]; rfl
  have hz := hg.size
  have hb : ∀ j, j < X.heap.size → j ≠ N + 3 → j ≠ N + 4 → W'.heap[j]? = X.heap[j]? := fun j h1 h2 h3 => by
    rw [hg.block j (by rw [hsz]; exact h1) (fun e => h2 (by injection e)), heap_setCell_other _ _ _ _ (by show j ≠ N + 4; exact h3)]
    rfl
  have hO' : OwnInts (X.drew.setCell ⟨N + 4, i, none⟩ (.int .i64 q)) (N + 4) (A.set i q) := by
    have e := heap_setCell_same X.drew (N + 4) i _ _ (.int .i64 q) (show X.drew.heap[N + 4]? = some (.cells (vals A) 3 (0, 0)) from hO)
    unfold OwnInts
    rw [e]
    simp [vals, List.map_set]
  have hO2 : OwnInts W' (N + 4) (A.set i q) := by
    show W'.heap[N + 4]? = _
    rw [hg.block (N + 4) (by rw [hsz]; omega) (fun e => by injection e; omega)]
    exact hO'
  refine ⟨W', hr, ?_, hO2, ?_, ?_⟩
  · refine ⟨by rw [hb _ (by omega) (by omega) (by omega)]; exact h.b0, by rw [hb _ (by omega) (by omega) (by omega)]; exact h.b1, by rw [hb _ (by omega) (by omega) (by omega)]; exact h.b2, hm, ⟨A.set i q, by simpa using hA, ?_⟩, by rw [hb _ (by omega) (by omega) (by omega)]; exact h.b5, ?_, by omega⟩
    · show W'.heap[N + 4]? = _
      rw [hg.block (N + 4) (by rw [hsz]; omega) (fun e => by injection e; omega)]
      exact hO'
    · exact ⟨hg.os.trans h.bel.os, hg.tape.trans h.bel.tape, hg.output.trans h.bel.output, by have := h.bel.size; omega, fun j hj => (hb j (by omega) (by omega) (by omega)).trans (h.bel.block j hj)⟩
  · exact ⟨by omega, fun j o h1 h2 _ => by rw [hb j (Array.getElem?_eq_some_iff.1 h2).1 (by omega) (by omega)]; exact h2⟩
  · intro j hj
    exact hb j (by omega) (by omega) (by omega)
/-- Behind the loop: what the two stores of the answer leave. -/
theorem PlI.last2 {w : World} {d A : List Int} {v : Value} {N k D' : Nat} {M : Int → Option Int} {W : World} (h : PlI w d v N k M W) (hD : N + 6 ≤ D') (hK : W.heap[D']? = some (.deferred (some []))) (hO : OwnInts W (N + 4) A) :
    ∃ V, V = ((W.setCell ⟨N + 1, 0, none⟩ (.map (some (N + 3)))).setCell ⟨N + 1 + 1, 0, none⟩ (.slice (some ⟨N + 4, 0, none⟩) d.length d.length)).drew ∧ V.heap[D']? = some (.deferred (some [])) ∧
      (V.putObj D' (.deferred none)).cell? ⟨N + 1, 0, none⟩ = some (.map (some (N + 3))) ∧ (V.putObj D' (.deferred none)).cell? ⟨N + 1 + 1, 0, none⟩ = some (.slice (some ⟨N + 4, 0, none⟩) d.length d.length) ∧ MapAt (V.putObj D' (.deferred none)) (N + 3) k M ∧ OwnInts (V.putObj D' (.deferred none)) (N + 4) A ∧ Below N w (V.putObj D' (.deferred none)) := by
  have hs := h.size
  obtain ⟨x, hx⟩ : ∃ x, x = Value.map (some (N + 3)) := ⟨_, rfl⟩
  obtain ⟨y, hy⟩ : ∃ y, y = Value.slice (some ⟨N + 4, 0, none⟩) d.length d.length := ⟨_, rfl⟩
  have hb1 := h.b1
  have hb2 := h.b2
  rw [← hx] at hb1
  rw [← hy] at hb2
  rw [← hx, ← hy]
  obtain ⟨V, hV⟩ : ∃ V, V = ((W.setCell ⟨N + 1, 0, none⟩ x).setCell ⟨N + 1 + 1, 0, none⟩ y).drew := ⟨_, rfl⟩
  have e1 : V.heap[N + 1]? = some (.cells #[x] 49 (0, 0)) := by
    have q := heap_setCell_same W (N + 1) 0 _ _ x hb1
    rw [hV]
    show ((W.setCell ⟨N + 1, 0, none⟩ x).setCell ⟨N + 1 + 1, 0, none⟩ y).heap[N + 1]? = _
    rw [heap_setCell_other _ _ _ _ (by show N + 1 ≠ N + 1 + 1; omega), q]
    simp
  have e2 : V.heap[N + 1 + 1]? = some (.cells #[y] 24 (0, 0)) := by
    have q0 : (W.setCell ⟨N + 1, 0, none⟩ x).heap[N + 1 + 1]? = some (.cells #[y] 24 (0, 0)) := by rw [heap_setCell_other _ _ _ _ (by show N + 1 + 1 ≠ N + 1; omega)]; exact hb2
    have q := heap_setCell_same _ (N + 1 + 1) 0 _ _ y q0
    rw [hV]
    show ((W.setCell ⟨N + 1, 0, none⟩ x).setCell ⟨N + 1 + 1, 0, none⟩ y).heap[N + 1 + 1]? = _
    rw [q]
    simp
  have e3 : V.heap[D']? = some (.deferred (some [])) := by
    rw [hV]
    show ((W.setCell ⟨N + 1, 0, none⟩ x).setCell ⟨N + 1 + 1, 0, none⟩ y).heap[D']? = _
    rw [heap_setCell_other _ _ _ _ (by show D' ≠ N + 1 + 1; omega), heap_setCell_other _ _ _ _ (by show D' ≠ N + 1; omega)]
    exact hK
  have m1 : MapAt V (N + 3) k M := by
    rw [hV]
    exact ((h.map.setCell (a := ⟨N + 1, 0, none⟩) (by show N + 3 ≠ N + 1; omega) x).setCell (a := ⟨N + 1 + 1, 0, none⟩) (by show N + 3 ≠ N + 1 + 1; omega) y).keep ((Below.refl _ _).drew)
  have bl : Below N w V := by
    rw [hV]
    exact (below_setCell (below_setCell h.bel (by omega) _ _) (by omega) _ _).drew
  have hg := grownBy_putObj' V D' (.deferred none)
  have o1 : OwnInts (V.putObj D' (.deferred none)) (N + 4) A := by
    show (V.putObj D' (.deferred none)).heap[N + 4]? = _
    rw [World.putObj_heap_other (by omega), hV]
    show ((W.setCell ⟨N + 1, 0, none⟩ x).setCell ⟨N + 1 + 1, 0, none⟩ y).heap[N + 4]? = _
    rw [heap_setCell_other _ _ _ _ (by show N + 4 ≠ N + 1 + 1; omega), heap_setCell_other _ _ _ _ (by show N + 4 ≠ N + 1; omega)]
    exact hO
  refine ⟨V, hV, e3, ?_, ?_, m1.kept hg (fun e => by injection e; omega), o1, ?_⟩
  · exact cell_at (by rw [World.putObj_heap_other (by omega)]; exact e1) rfl
  · exact cell_at (by rw [World.putObj_heap_other (by omega)]; exact e2) rfl
  · exact ⟨hg.os.trans bl.os, hg.tape.trans bl.tape, hg.output.trans bl.output, Nat.le_trans bl.size hg.size, fun j hj => (World.putObj_heap_other (by omega)).trans (bl.block j hj)⟩
set_option maxRecDepth 100000 in
set_option maxHeartbeats 4000000 in
theorem places2_walk {d : List Int} {a : Option Addr} {c b1 o1 : Nat} {w : World} (hi : ∀ j, j < d.length → w.cell? ⟨b1, o1 + j, none⟩ = some (.int .i64 (d.getD j 0))) (ha : 0 < d.length → a = some ⟨b1, o1, none⟩) (hb1 : b1 < w.heap.size) (hc : d.length ≤ 300) (hok : ∀ j, j < d.length → (Lit.int .i64 (d.getD j 0)).wf = true) :
    Calls Try.prog 41 #[.slice a d.length c] w fun r w' => ∃ b g, r = .returned (.tuple #[.map (some b), .slice (some ⟨g, 0, none⟩) d.length d.length]) ∧ MapAt w' b d.length (firstM d d.length) ∧ OwnInts w' g (agD d) ∧ w.heap.size ≤ b ∧ w.heap.size ≤ g ∧ b ≠ g ∧ Below w.heap.size w w' := by
  have hmk : ∀ w, (Instr.makeSlice 24 (.int .i64 (d.length : Int)) (.int .i64 (d.length : Int))).run Try.prog w = .ok (.slice (some ⟨w.heap.size, 0, none⟩) d.length d.length) (w.alloc (.cells (vals (List.replicate d.length 0)) 3)) := fun w => make_ints d.length (by omega) w
  have hmm : ∀ w, (Instr.makeMap 49 (some (.int .i64 (d.length : Int)))).run Try.prog w = .ok (.map (some w.heap.size)) (w.alloc (.map #[] 0)) := fun w => by
    simp [Instr.makeMap, asInt, asIntOf]
  obtain ⟨v, hv⟩ : ∃ v, v = Value.slice a d.length c := ⟨_, rfl⟩
  refine (callsIn_wide (n := 6)).1 ?_
  refine callsIn_of_wp_marks Try.func41 rfl trivial ?_ rfl
  simp only [Try.ntmps41, List.size_toArray, List.length_cons, List.length_nil, Nat.reduceAdd, Nat.reduceSub, Array.replicate_succ, Array.replicate_zero, List.push_toArray, List.append_toArray, List.nil_append, List.cons_append]
  gi_wp2_with fail
  refine ⟨trivial, (backward_in _ _ _ rfl).mono ?_⟩
  rintro rr w2 ⟨rfl, hw⟩
  have hsz : w2.heap.size = w.heap.size + 6 := by rw [hw]; simp
  have P00 : PlI w d v w.heap.size 0 (firstL d []) w2 ∧ OwnInts w2 (w.heap.size + 4) (agL d []) := by
    have q := blocks6 w (.cells #[Value.slice a d.length c] 24) (.cells #[Value.map (some (w.heap.size + 1 + 1 + 1))] 49) (.cells #[Value.slice (some ⟨w.heap.size + 1 + 1 + 1 + 1, 0, none⟩) d.length d.length] 24) (.map #[] 0) (.cells (vals (List.replicate d.length 0)) 3) (.cells #[Value.slice a d.length c] 24)
    have m := (mapAt_new (((w.alloc (.cells #[Value.slice a d.length c] 24)).alloc (.cells #[Value.map (some (w.heap.size + 1 + 1 + 1))] 49)).alloc (.cells #[Value.slice (some ⟨w.heap.size + 1 + 1 + 1 + 1, 0, none⟩) d.length d.length] 24))).keep (bAlloc (bAlloc (Below.refl _ _) (.cells (vals (List.replicate d.length 0)) 3)) (.cells #[Value.slice a d.length c] 24))
    rw [show (((w.alloc (.cells #[Value.slice a d.length c] 24)).alloc (.cells #[Value.map (some (w.heap.size + 1 + 1 + 1))] 49)).alloc (.cells #[Value.slice (some ⟨w.heap.size + 1 + 1 + 1 + 1, 0, none⟩) d.length d.length] 24)).heap.size = w.heap.size + 3 by simp] at m
    rw [← hw] at q m
    obtain ⟨q0, q1, q2, q4, q5⟩ := q
    exact ⟨⟨by rw [hv]; exact q0, q1, q2, m, ⟨List.replicate d.length 0, by simp, q4⟩, by rw [hv]; exact q5, by rw [hw]; exact bAlloc (bAlloc (bAlloc (bAlloc (bAlloc (bAlloc (Below.refl _ _) _) _) _) _) _) _, by omega⟩, q4⟩
  have P0 : Hid (PlI w d v w.heap.size 0 (firstL d []) w2) := P00.1
  have PO : Hid (OwnInts w2 (w.heap.size + 4) (agL d [])) := P00.2
  clear P00
  have B2 : Hid (Below w.heap.size w w2) := P0.out.bel
  have hqc : w2.cell? ⟨w.heap.size + 5, 0, none⟩ = some (.slice a d.length c) := by rw [← hv]; exact cell_at P0.out.b5 rfl
  have hi2 : ∀ j, j < d.length → w2.cell? ⟨b1, o1 + j, none⟩ = some (.int .i64 (d.getD j 0)) := fun j hj => (B2.out.cell (p := ⟨b1, o1 + j, none⟩) hb1).trans (hi j hj)
  clear hw hmk hmm
  gi_wp2_with fail
  refine wpIn_rangeFunc_ownH rfl (by decide) (gf := 98) (lb := #[.pointer (some ⟨w.heap.size + 1 + 1 + 1 + 1 + 1, 0, none⟩)]) rfl trivial (enters_of Try.func98 (by kernel_rfl) rfl)
    (back_stops 5 (w.heap.size + 5) b1 o1 c a d (by decide) hc ha w2 (by omega) (by omega) hqc hi2) keepsTwo_t (keepsTwo_b (by omega) (by omega)) (Below.refl _ _) (fun _ => rfl)
    (fun pre W => PlI w d v w.heap.size pre.length (firstL d pre) W ∧ OwnInts W (w.heap.size + 4) (agL d pre))
    (fun _ _ _ => False)
    ?hI (fun _ _ _ _ _ hs _ _ => hs)
    ⟨P0.out, PO.out⟩
    (fun x a' W => a' = { tmps := #[.slice a d.length c, .pointer (some ⟨w.heap.size, 0, none⟩), .pointer (some ⟨w.heap.size + 1, 0, none⟩), .pointer (some ⟨w.heap.size + 1 + 1, 0, none⟩), .int .i64 ((d.length - 1 - x.1 : Nat) : Int), .int .i64 (d.getD (d.length - 1 - x.1) 0), .slice a d.length c, .int .i64 (d.length : Int), .map (some (w.heap.size + 1 + 1 + 1)), .slice a d.length c, .int .i64 (d.length : Int), .slice (some ⟨w.heap.size + 1 + 1 + 1 + 1, 0, none⟩) d.length d.length, .slice a d.length c, .func (.func 98) #[] #[.pointer (some ⟨w.heap.size + 1 + 1 + 1 + 1 + 1, 0, none⟩)], .int .i64 ((d.length - 1 - x.1 : Nat) : Int), .int .i64 (d.getD (d.length - 1 - x.1) 0), undef, undef, undef, undef, undef, undef, undef, undef, undef, undef, undef, undef, undef], defers := [] })
    ?hAx ?assign ?body ?done ?stop
  case hI =>
    rintro pre X Y row h hg hrow
    exact ⟨h.1.kept hg (fun r e => by have := (hrow r e).1; omega), by
      show Y.heap[_]? = _
      rw [hg.block (w.heap.size + 4) (by have := h.1.size; omega) (fun e => by have := (hrow _ e.symm).1; omega)]
      exact h.2⟩
  case hAx =>
    rintro x a' _ X Y row h hg hr'
    exact h
  case assign =>
    rintro l pre x W K h hK
    gi_wp2
    exact hK _ _ ((KeepsOthers.refl _).from _) ⟨rfl, rfl⟩ h rfl
  case body =>
    rintro l pre x a' W hl _ h rfl hlt
    obtain ⟨h, hOA⟩ := h
    have PI : Hid (PlI w d v w.heap.size pre.length (firstL d pre) W) := h
    obtain ⟨i, hi0⟩ : ∃ i, i = d.length - 1 - x.1 := ⟨_, rfl⟩
    have hil : i < d.length := by have := x.2; omega
    obtain ⟨y, hy⟩ : ∃ y, y = d.getD i 0 := ⟨_, rfl⟩
    have hwf : (Lit.int .i64 y).wf = true := by rw [hy]; exact hok i hil
    obtain ⟨q, hq⟩ : ∃ q, q = (firstL d pre y).getD (d.length : Int) := ⟨_, rfl⟩
    obtain ⟨W', hr, hP, hOB, hK, hS⟩ := h.next2 (y := y) (q := q) (agL_len d pre) hOA (by omega) hil hc hwf
    have AS : Hid (agL d (pre ++ [x]) = (agL d pre).set i q) := by show _ = _; rw [agL_snoc, ← hi0, ← hy, ← hq]
    have ES : Hid (firstL d (pre ++ [x]) = fun z => if z = y then some (i : Int) else firstL d pre z) := by show _ = _; rw [firstL_snoc, ← hi0, ← hy]
    have c0 : W.cell? ⟨w.heap.size, 0, none⟩ = some (.slice a d.length c) := by rw [← hv]; exact cell_at h.b0 rfl
    have c1 : W.cell? ⟨w.heap.size + 1, 0, none⟩ = some (.map (some (w.heap.size + 3))) := cell_at h.b1 rfl
    have c2 : W.cell? ⟨w.heap.size + 1 + 1, 0, none⟩ = some (.slice (some ⟨w.heap.size + 4, 0, none⟩) d.length d.length) := cell_at h.b2 rfl
    have HPO : Hid (Calls Try.prog 64 #[.int .i64 (d.length : Int), .map (some (w.heap.size + 3)), .int .i64 y] W.drew fun r w' => r = .returned (.int .i64 q) ∧ w' = W.drew) := by rw [hq]; exact placeOr_impl (h.map.keep ((Below.refl _ _).drew)) hwf _
    obtain ⟨A, hA, hO⟩ := h.own
    have hcell : ∃ z, W.drew.cell? ⟨w.heap.size + 4, i, none⟩ = some z := by
      have L2 : i < (vals A).size := by simp [vals, hA]; omega
      exact ⟨(vals A)[i], by rw [show W.drew.cell? ⟨w.heap.size + 4, i, none⟩ = W.cell? ⟨w.heap.size + 4, i, none⟩ from rfl]; exact cell_at hO (by simp [L2])⟩
    obtain ⟨z, hz⟩ := hcell
    have hfz : W.drew.frozen? ⟨w.heap.size + 4, i, none⟩ = false := by
      rw [show W.drew.frozen? ⟨w.heap.size + 4, i, none⟩ = W.frozen? ⟨w.heap.size + 4, i, none⟩ from rfl]
      simp [World.frozen?, show W.heap[w.heap.size + 4]? = _ from hO]
    have hii : (i : Int) < (d.length : Int) := by omega
    have HR : Hid ((Instr.mapUpdate 49 (.map (some (w.heap.size + 3))) (.int .i64 y) (.int .i64 (i : Int))).run Try.prog (W.drew.setCell ⟨w.heap.size + 4, i, none⟩ (.int .i64 q)) = .ok () W') := hr
    have HE : Hid (KeepsFrom w2.heap.size W W' ∧ KeepsTwo (w.heap.size + 5) b1 W W' ∧ (PlI w d v w.heap.size (pre ++ [x]).length (firstL d (pre ++ [x])) W' ∧ OwnInts W' (w.heap.size + 4) (agL d (pre ++ [x])))) := ⟨by rw [hsz]; exact hK, ⟨hS _ (.inr rfl), hS _ (.inl (by omega))⟩, ⟨by rw [ES.out]; simpa using hP, by rw [AS.out]; exact hOB⟩⟩
    rw [← hi0, ← hy]
    clear hi0 hy hq hP hK hS hr h hA hO ES AS hOA hOB
    have s0 : (W.drew.setCell ⟨w.heap.size + 4, i, none⟩ (.int .i64 q)).cell? ⟨w.heap.size, 0, none⟩ = some (.slice a d.length c) := by rw [World.cell?_setCell_far _ _ _ _ (by show w.heap.size + 4 ≠ w.heap.size; omega)]; exact c0
    have s1 : (W.drew.setCell ⟨w.heap.size + 4, i, none⟩ (.int .i64 q)).cell? ⟨w.heap.size + 1, 0, none⟩ = some (.map (some (w.heap.size + 3))) := by rw [World.cell?_setCell_far _ _ _ _ (by show w.heap.size + 4 ≠ w.heap.size + 1; omega)]; exact c1
    have s2 : (W.drew.setCell ⟨w.heap.size + 4, i, none⟩ (.int .i64 q)).cell? ⟨w.heap.size + 1 + 1, 0, none⟩ = some (.slice (some ⟨w.heap.size + 4, 0, none⟩) d.length d.length) := by rw [World.cell?_setCell_far _ _ _ _ (by show w.heap.size + 4 ≠ w.heap.size + 1 + 1; omega)]; exact c2
    have hr := HR.out
    have hr2 : (Instr.mapUpdate 49 (.map (some (w.heap.size + 3))) (.int .i64 y) (.int .i64 (i : Int))).run Try.prog (World.drew (W.setCell ⟨w.heap.size + 4, i, none⟩ (.int .i64 q))) = .ok () W' := HR.out
    gi_wp2_with fail
    refine region_in (S := (fun w' => w'.cell? ⟨w.heap.size, 0, none⟩ = some (.slice a d.length c) ∧ w'.cell? ⟨w.heap.size + 1, 0, none⟩ = some (.map (some (w.heap.size + 3))) ∧ w'.cell? ⟨w.heap.size + 1 + 1, 0, none⟩ = some (.slice (some ⟨w.heap.size + 4, 0, none⟩) d.length d.length))) (fun ⟨_, _, h⟩ => h) (noDefer_spec (by kernel_rfl)) (by kernel_rfl) ?_ (fun hHeld0 => ?_)
    · (try dsimp only); (first | exact ⟨s0, s1, s2⟩ | exact ⟨c0, c1, c2⟩)
    refine wpAnyH_take (i := 0) (oi := _) (v := ?_) rfl (by kernel_rfl) (by kernel_rfl) (by kernel_rfl) (fun _ _ _ h => h) (Or.inl ⟨by rfl, ?_⟩) (by assumption) ?_
    rotate_left
    · intro wS hSw; (try dsimp only at hSw); go_simp; (try with_reducible rfl)
    try simp only [Act.put, List.setIfInBounds_toArray, List.set_cons_zero, List.set_cons_succ]
    refine wpAnyH_take (i := 1) (oi := _) (v := ?_) rfl (by kernel_rfl) (by kernel_rfl) (by kernel_rfl) (fun _ _ _ h => h) (Or.inl ⟨by rfl, ?_⟩) (by assumption) ?_
    rotate_left
    · intro wS hSw; (try dsimp only at hSw); go_simp; (try with_reducible rfl)
    try simp only [Act.put, List.setIfInBounds_toArray, List.set_cons_zero, List.set_cons_succ]
    refine wpAnyH_take (i := 2) (oi := _) (v := ?_) rfl (by kernel_rfl) (by kernel_rfl) (by kernel_rfl) (fun _ _ _ h => h) (Or.inl ⟨by rfl, ?_⟩) (by assumption) ?_
    rotate_left
    · intro wS hSw; (try dsimp only at hSw); go_simp; (try with_reducible rfl)
    try simp only [Act.put, List.setIfInBounds_toArray, List.set_cons_zero, List.set_cons_succ]
    refine wpAnyH_take (i := 3) (oi := _) (v := ?_) rfl (by kernel_rfl) (by kernel_rfl) (by kernel_rfl) (fun _ _ _ h => h) (Or.inl ⟨by rfl, ?_⟩) (by assumption) ?_
    rotate_left
    · intro wS hSw; (try dsimp only at hSw); go_simp; (try with_reducible rfl)
    try simp only [Act.put, List.setIfInBounds_toArray, List.set_cons_zero, List.set_cons_succ]
    refine wpAnyH_take (i := 4) (oi := _) (v := ?_) rfl (by kernel_rfl) (by kernel_rfl) (by kernel_rfl) (fun _ _ _ h => h) (Or.inl ⟨by rfl, ?_⟩) (by assumption) ?_
    rotate_left
    · intro wS hSw; (try dsimp only at hSw); go_simp; (try with_reducible rfl)
    try simp only [Act.put, List.setIfInBounds_toArray, List.set_cons_zero, List.set_cons_succ]
    refine wpAnyH_take (i := 5) (oi := _) (v := ?_) rfl (by kernel_rfl) (by kernel_rfl) (by kernel_rfl) (fun _ _ _ h => h) (Or.inl ⟨by rfl, ?_⟩) (by assumption) ?_
    rotate_left
    · intro wS hSw; (try dsimp only at hSw); go_simp; (try with_reducible rfl)
    try simp only [Act.put, List.setIfInBounds_toArray, List.set_cons_zero, List.set_cons_succ]
    refine wpAnyH_ready (rs := [6]) (by kernel_rfl) (by simp) ?_
    refine AllReadyH.cons (o := _) rfl (fun K hK => ?_) AllReadyH.nil
    go_simp
    (go_at_call 64; refine (HPO.out).mono ?_; rintro r w3 ⟨rfl, hw3⟩; subst hw3)
    try go_wp2_with fail
    refine hK.out _ _ ?_ (fun hHeld1 => ?_)
    · (try dsimp only); (first | exact ⟨s0, s1, s2⟩ | exact ⟨c0, c1, c2⟩)
    clear hK K hHeld0
    try simp only [Act.put, List.setIfInBounds_toArray, List.set_cons_zero, List.set_cons_succ]
    refine wpAnyH_take (i := 7) (oi := _) (v := ?_) rfl (by kernel_rfl) (by kernel_rfl) (by kernel_rfl) (fun _ _ _ h => h) (Or.inl ⟨by rfl, ?_⟩) (by assumption) ?_
    rotate_left
    · intro wS hSw; (try dsimp only at hSw); go_simp; (try with_reducible rfl)
    try simp only [Act.put, List.setIfInBounds_toArray, List.set_cons_zero, List.set_cons_succ]
    refine wpAnyH_ready (rs := [8]) (by kernel_rfl) (by simp) ?_
    refine AllReadyH.cons (o := _) rfl (fun K hK => ?_) AllReadyH.nil
    go_simp
    refine hK.out _ _ ?_ (fun hHeld2 => ?_)
    · (try dsimp only); (first | exact ⟨s0, s1, s2⟩ | exact ⟨c0, c1, c2⟩)
    clear hK K hHeld1
    try simp only [Act.put, List.setIfInBounds_toArray, List.set_cons_zero, List.set_cons_succ]
    refine wpAnyH_done (by kernel_rfl) ?_ _
    gi_wp2
    exact HE.out
  case done =>
    rintro D' zs W hD rfl ⟨h, hOA⟩ hK
    have POA : Hid (OwnInts W (w.heap.size + 4) (agD d)) := by
      have q := hOA
      rw [← upto_all, agL_upto d _ (Nat.le_refl _)] at q
      exact q
    clear hOA
    have PI : Hid (PlI w d v w.heap.size d.length (firstM d d.length) W) := by
      have q := h
      rw [← upto_all, firstL_upto d _ (Nat.le_refl _), upto_length (Nat.le_refl _)] at q
      exact q
    have c1 : W.cell? ⟨w.heap.size + 1, 0, none⟩ = some (.map (some (w.heap.size + 3))) := cell_at h.b1 rfl
    have c2 : W.cell? ⟨w.heap.size + 1 + 1, 0, none⟩ = some (.slice (some ⟨w.heap.size + 4, 0, none⟩) d.length d.length) := cell_at h.b2 rfl
    have f1 : W.frozen? ⟨w.heap.size + 1, 0, none⟩ = false := by simp [World.frozen?, h.b1]
    have f2 : W.frozen? ⟨w.heap.size + 1 + 1, 0, none⟩ = false := by simp [World.frozen?, show W.heap[w.heap.size + 1 + 1]? = _ from h.b2]
    clear h
    gi_wp2_with fail
    gi_region
    all_goals
      gi_wp2
      obtain ⟨V, hV, k1, k2, k3, k4, k6, k5⟩ := PI.out.last2 (by omega) hK POA.out
      rw [← hV]
      refine ⟨by simp, .inl ⟨_, _, rfl, run_takeDeferred k1, ?_⟩⟩
      exact ⟨_, results_map_ints rfl _ _ (w.heap.size + 1) (w.heap.size + 1 + 1) _ _ rfl rfl k2 k3, _, _, rfl, k4, k6, by omega, by omega, by omega, k5⟩
  case stop =>
    rintro D' c' pre W _ _ h _
    exact h.elim
end Go.Proofs.Ythjjjnapcbkhjaa
namespace Go.Proofs.Ythjjjnapcbkhjaa
set_option linter.unusedVariables false
theorem vec_size {n : Nat} (h : n ≤ 300) : sizeV [(n : Int)] = (n : Int) := by
  simp [sizeV, dimOk, prodV]
  omega
theorem again_self (d : List Int) : againD d d.length = d := by
  unfold againD
  apply List.ext_getElem
  · simp
  · intro i h1 h2
    have hd : d ≠ [] := by intro e; subst e; simp at h2
    simp [hd, Nat.mod_eq_of_lt h2, h2]
theorem dims_ok {s : List Int} (h : 0 ≤ sizeV s) : s.all ok = true ∧ (s.any fun x => decide (x < 0)) = false ∧ s.length ≤ 3 := by
  obtain ⟨k1, k2, k3, k4⟩ := sizeV_ok h
  rw [List.all_eq_true] at k2
  refine ⟨?_, ?_, k1⟩
  · rw [List.all_eq_true]
    intro x hx
    have := k2 x hx
    simp [dimOk] at this
    simp [ok]
    omega
  · rw [List.any_eq_false]
    intro x hx
    have := k2 x hx
    simp [dimOk] at this
    simp
    omega
theorem vec_arr {l : List Int} (h : l.all ok = true) (hl : l.length ≤ 300) : arrOk [(l.length : Int)] l = true := by
  unfold arrOk
  rw [h, vec_size hl]
  simp
theorem ravel_back {s d : List Int} (ho : arrOk s d = true) : reshapeR [(s.length : Int)] s [(d.length : Int)] d = (0, s, d) := by
  have hz := arrOk_size ho
  obtain ⟨d1, d2, d3⟩ := dims_ok (arrOk_shape ho)
  have hd : d.all ok = true := by unfold arrOk at ho; rw [Bool.and_eq_true] at ho; exact ho.2
  unfold reshapeR reshapeC
  rw [if_pos ⟨vec_arr d1 (by omega), vec_arr hd (arrOk_len ho)⟩, if_neg (by simp), if_neg (by rw [d2]; simp), if_neg (by omega), mkR_good, hz, Int.toNat_natCast, again_self]
end Go.Proofs.Ythjjjnapcbkhjaa
namespace Go.Proofs.Ythjjjnapcbkhjaa
set_option linter.unusedVariables false
theorem placeIn_at {l : List Int} {x : Int} (h : placeIn l x < l.length) : l.getD (placeIn l x) 0 = x := by
  have q := List.findIdx_getElem (p := fun y => y == x) (xs := l) (w := h)
  rw [List.getD_eq_getElem?_getD, List.getElem?_eq_getElem h]
  exact eq_of_beq q
theorem placeIn_before {l : List Int} {x : Int} {j : Nat} (h : j < placeIn l x) : l.getD j 0 ≠ x := by
  have q := List.not_of_lt_findIdx (p := fun y => y == x) (xs := l) h
  have hl : j < l.length := Nat.lt_of_lt_of_le h (placeIn_le l x)
  rw [List.getD_eq_getElem?_getD, List.getElem?_eq_getElem hl]
  simpa using q
theorem placeIn_mem {l : List Int} {x : Int} {i : Nat} (hi : i < l.length) (he : l.getD i 0 = x) : placeIn l x ≤ i := by
  rcases Nat.lt_or_ge i (placeIn l x) with h | h
  · exact absurd he (placeIn_before h)
  · exact h
theorem within_zero {s d t e : List Int} (h : (withinR s d t e).1 = 0) : arrOk s d = true ∧ arrOk t e = true ∧ withinC s d t e = 0 := by
  unfold withinR at h
  rw [mkR_code] at h
  refine ⟨?_, ?_, h⟩ <;>
  · unfold withinC at h
    by_cases q : arrOk s d = true ∧ arrOk t e = true
    · first | exact q.1 | exact q.2
    · rw [if_neg q] at h; cases h
theorem find_zero {s d t e : List Int} (h : (findR s d t e).1 = 0) : arrOk s d = true ∧ arrOk t e = true ∧ s.length = 1 ∧ findC s d t e = 0 := by
  unfold findR at h
  rw [mkR_code] at h
  have h' := h
  unfold findC at h'
  by_cases q : arrOk s d = true ∧ arrOk t e = true
  · rw [if_pos q] at h'
    by_cases r : s.length ≠ 1
    · rw [if_pos r] at h'; cases h'
    · exact ⟨q.1, q.2, by omega, h⟩
  · rw [if_neg q] at h'; cases h'
theorem within_bad {s d t e : List Int} (h : (withinR s d t e).1 ≠ 0) : (withinR s d t e).2.2 = [] := by
  unfold withinR at h ⊢
  rw [mkR_code] at h
  rw [mkR_bad h]
theorem find_bad {s d t e : List Int} (h : (findR s d t e).1 ≠ 0) : (findR s d t e).2.2 = [] := by
  unfold findR at h ⊢
  rw [mkR_code] at h
  rw [mkR_bad h]
theorem within_good {s d t e : List Int} (h : (withinR s d t e).1 = 0) : (withinR s d t e).2.1 = s ∧ (withinR s d t e).2.2.length = d.length ∧ ∀ i, i < d.length → (withinR s d t e).2.2.getD i 0 = if placeIn e (d.getD i 0) < e.length then 1 else 0 := by
  obtain ⟨_, _, q⟩ := within_zero h
  unfold withinR
  rw [q, mkR_good]
  refine ⟨rfl, by simp, fun i hi => ?_⟩
  dsimp only
  rw [List.getD_eq_getElem?_getD, List.getElem?_map, List.getElem?_range hi]
  rfl
theorem find_good {s d t e : List Int} (h : (findR s d t e).1 = 0) : (findR s d t e).2.1 = t ∧ (findR s d t e).2.2.length = e.length ∧ ∀ i, i < e.length → (findR s d t e).2.2.getD i 0 = ((placeIn d (e.getD i 0) : Nat) : Int) := by
  obtain ⟨_, _, _, q⟩ := find_zero h
  unfold findR
  rw [q, mkR_good]
  refine ⟨rfl, by simp, fun i hi => ?_⟩
  dsimp only
  rw [List.getD_eq_getElem?_getD, List.getElem?_map, List.getElem?_range hi]
  rfl
theorem itself_good {s d : List Int} (h : (withinR s d s d).1 = 0) :
    ravelR s d = (0, [(d.length : Int)], d) ∧ (findR [(d.length : Int)] d [(d.length : Int)] d).1 = 0 ∧ (withinR s d s d).2.1 = s ∧ (withinR s d s d).2.2.length = d.length ∧ (findR [(d.length : Int)] d [(d.length : Int)] d).2.2.length = d.length ∧
    ∀ i, i < d.length → (withinR s d s d).2.2.getD i 0 = 1 ∧ ∃ k : Nat, k ≤ i ∧ (findR [(d.length : Int)] d [(d.length : Int)] d).2.2.getD i 0 = (k : Int) ∧ d.getD k 0 = d.getD i 0 := by
  obtain ⟨ho, _, _⟩ := within_zero h
  obtain ⟨g1, g2, g3⟩ := within_good h
  have hd : d.all ok = true := by unfold arrOk at ho; rw [Bool.and_eq_true] at ho; exact ho.2
  have hv := vec_arr hd (arrOk_len ho)
  have hf : (findR [(d.length : Int)] d [(d.length : Int)] d).1 = 0 := by
    unfold findR
    rw [mkR_code]
    unfold findC
    rw [if_pos ⟨hv, hv⟩, if_neg (by simp)]
  obtain ⟨f1, f2, f3⟩ := find_good hf
  refine ⟨?_, hf, g1, g2, f2, fun i hi => ?_⟩
  · unfold ravelR okC
    rw [if_pos ho]
    rfl
  · have hm := placeIn_mem hi rfl
    have hl : placeIn d (d.getD i 0) < d.length := by omega
    exact ⟨by rw [g3 i hi, if_pos hl], _, hm, f3 i hi, placeIn_at hl⟩
end Go.Proofs.Ythjjjnapcbkhjaa
namespace Go.Proofs.Ythjjjnapcbkhjaa
set_option linter.unusedVariables false
set_option linter.unusedSimpArgs false
theorem agM_len (d : List Int) (k : Nat) : (agM d k).length = d.length := by
  induction k with
  | zero => simp [agM]
  | succ k ih => unfold agM; rw [List.length_set, ih]
theorem agM_at (d : List Int) {p : Nat} (hp : p < d.length) : ∀ k, k ≤ d.length → (agM d k).getD p 0 = if d.length - 1 - p < k then (firstM d (d.length - 1 - p) (d.getD p 0)).getD (d.length : Int) else 0 := by
  intro k
  induction k with
  | zero => intro _; simp [agM, hp]
  | succ k ih =>
    intro hk
    unfold agM
    rw [List.getD_eq_getElem?_getD, List.getElem?_set]
    by_cases e : d.length - 1 - k = p
    · have e2 : d.length - 1 - p = k := by omega
      rw [if_pos e, if_pos (by rw [agM_len]; omega), e2, if_pos (by omega), e]
      rfl
    · rw [if_neg e, ← List.getD_eq_getElem?_getD, ih (by omega)]
      by_cases q : d.length - 1 - p < k
      · rw [if_pos q, if_pos (by omega)]
      · rw [if_neg q, if_neg (by omega)]
theorem agD_at (d : List Int) {p : Nat} (hp : p < d.length) : (agD d).getD p 0 = ((p + 1 + placeIn (d.drop (p + 1)) (d.getD p 0) : Nat) : Int) := by
  unfold agD
  rw [agM_at d hp _ (Nat.le_refl _), if_pos (by omega), firstM_at d _ _ (by omega), show d.length - (d.length - 1 - p) = p + 1 by omega]
  have hl := placeIn_le (d.drop (p + 1)) (d.getD p 0)
  rw [List.length_drop] at hl
  by_cases q : placeIn (d.drop (p + 1)) (d.getD p 0) < d.length - 1 - p
  · rw [if_pos q]; rfl
  · rw [if_neg q]
    show (d.length : Int) = _
    omega
def upPl (d : List Int) (x : Int) (p : Nat) : List Nat := (List.range p).filter (fun j => d.getD j 0 == x)
theorem upPl_all (d : List Int) (x : Int) : upPl d x d.length = placesAt d x := rfl
theorem upPl_snoc {d : List Int} {x : Int} {p : Nat} (h : d.getD p 0 = x) : upPl d x (p + 1) = upPl d x p ++ [p] := by
  unfold upPl
  rw [List.range_succ, List.filter_append]
  simp only [List.filter_cons, h, beq_self_eq_true, if_true, List.filter_nil]
theorem upPl_same {d : List Int} {x : Int} {p : Nat} : ∀ {q : Nat}, p ≤ q → (∀ j, p ≤ j → j < q → d.getD j 0 ≠ x) → upPl d x q = upPl d x p := by
  intro q
  induction q with
  | zero => intro h _; rw [show p = 0 by omega]
  | succ q ih =>
    intro h hno
    by_cases e : p = q + 1
    · rw [e]
    · have hq := hno q (by omega) (by omega)
      unfold upPl at ih ⊢
      rw [List.range_succ, List.filter_append, ih (by omega) (fun j h1 h2 => hno j h1 (by omega))]
      have hb : (d.getD q 0 == x) = false := by simpa using hq
      simp only [List.filter_cons, hb, List.filter_nil, List.append_nil]
      simp
theorem drop_getD (d : List Int) (a b : Nat) : (d.drop a).getD b 0 = d.getD (a + b) 0 := by
  rw [List.getD_eq_getElem?_getD, List.getElem?_drop, List.getD_eq_getElem?_getD]
/-- From one place of x to the next. -/
theorem chain_step {d : List Int} {x : Int} {p : Nat} (hp : p < d.length) (hx : d.getD p 0 = x) :
    ∃ q : Nat, (agD d).getD p 0 = (q : Int) ∧ p < q ∧ q ≤ d.length ∧ (q < d.length → d.getD q 0 = x) ∧ upPl d x q = upPl d x p ++ [p] := by
  have hl := placeIn_le (d.drop (p + 1)) x
  rw [List.length_drop] at hl
  refine ⟨p + 1 + placeIn (d.drop (p + 1)) x, by rw [agD_at d hp, hx], by omega, by omega, fun h => ?_, ?_⟩
  · have := placeIn_at (l := d.drop (p + 1)) (x := x) (by rw [List.length_drop]; omega)
    rw [drop_getD] at this
    exact this
  · rw [← upPl_snoc hx]
    refine upPl_same (by omega) (fun j h1 h2 => ?_)
    have := placeIn_before (l := d.drop (p + 1)) (x := x) (j := j - (p + 1)) (by omega)
    rw [drop_getD, show p + 1 + (j - (p + 1)) = j by omega] at this
    exact this
/-- The first place of x. -/
theorem chain_start (d : List Int) (x : Int) : placeIn d x ≤ d.length ∧ (placeIn d x < d.length → d.getD (placeIn d x) 0 = x) ∧ upPl d x (placeIn d x) = [] := by
  refine ⟨placeIn_le d x, fun h => placeIn_at h, ?_⟩
  rw [upPl_same (p := 0) (Nat.zero_le _) (fun j _ h => placeIn_before h)]
  rfl
theorem gradeBy_snoc (d xs : List Int) {k : Nat} (h : k < xs.length) : gradeBy d (xs.take (k + 1)) = gradeBy d (xs.take k) ++ placesAt d (xs.getD k 0) := by
  unfold gradeBy
  rw [List.take_succ_eq_append_getElem h, List.flatMap_append, List.getD_eq_getElem?_getD, List.getElem?_eq_getElem h]
  simp
theorem placeIn_mem2 {d : List Int} {x : Int} (h : x ∈ d) : placeIn d x < d.length := by
  obtain ⟨i, hi, rfl⟩ := List.getElem_of_mem h
  have := placeIn_mem (l := d) (x := d[i]) hi (by rw [List.getD_eq_getElem?_getD, List.getElem?_eq_getElem hi]; rfl)
  omega
theorem firstM_mem {d : List Int} {x : Int} : (firstM d d.length x).isSome = true ↔ x ∈ d := by
  rw [firstM_some]
  constructor
  · intro h
    have h' : placeIn d x < d.length := by simpa using h
    have := placeIn_at h'
    rw [← this]
    simp [h']
  · intro h
    simpa using placeIn_mem2 h
theorem filter_le {α : Type} (p : α → Bool) (l : List α) : (l.filter p).length ≤ l.length := List.length_filter_le _ _
end Go.Proofs.Ythjjjnapcbkhjaa
namespace Go.Proofs.Ythjjjnapcbkhjaa
open Go.RowKit Go.Maps Go.Sort
set_option linter.unusedVariables false
set_option linter.unusedSimpArgs false
/-- What slices.Sort does to a list of numbers. -/
def SortsInts : Prop := ∀ (blk cap : Nat) (zs : List Int) (w : World), Holds (Value.int .i64) w blk 0 zs.toArray → blk < w.heap.size → zs.length < 4611686018427387904 →
  Calls Try.prog 86 #[.slice (some ⟨blk, 0, none⟩) zs.length cap] w fun e w' => e = .returned (.tuple #[]) ∧ ∃ n os, w' = grow (putRow (Value.int .i64) (Sort.ahead w n) blk 0 (zs.mergeSort fun x y => decide (x ≤ y)).toArray) os
/-- The keys met so far. -/
def CollI (D0 : DataW Unit) (left : Lit → Bool) (ss : List Int) : Prop := ss.Nodup ∧ (∀ x ∈ ss, (Lit.int .i64 x).wf = true) ∧ ∀ x, x ∈ ss ↔ (Maps.has D0 (.int .i64 x) = true ∧ left (.int .i64 x) = false)
theorem CollI.start (D0 : DataW Unit) : CollI D0 (Maps.has D0) [] := ⟨List.nodup_nil, fun x h => (by cases h), fun x => by cases Maps.has D0 (.int .i64 x) <;> simp⟩
theorem CollI.step {D0 : DataW Unit} {left : Lit → Bool} {ss : List Int} (h : CollI D0 left ss) {x : Int} {y : DataW Unit} (hwx : (Lit.int .i64 x).wf = true) (hlk : left (.int .i64 x) = true) (hat : ∀ zd, D0.atKey (.int .i64 x) zd = y) : CollI D0 (fun z => left z && !z.sameKey (.int .i64 x)) (ss ++ [x]) := by
  obtain ⟨h1, h2, h3⟩ := h
  have hh : Maps.has D0 (.int .i64 x) = true := Maps.has_true_of_atKey hat
  have hn : x ∉ ss := fun q => by have := ((h3 x).1 q).2; rw [hlk] at this; cases this
  refine ⟨?_, ?_, ?_⟩
  · rw [List.nodup_append]
    exact ⟨h1, by simp, fun a ha b hb => by rw [List.mem_singleton] at hb; subst hb; exact fun e => hn (e ▸ ha)⟩
  · intro z hz
    rw [List.mem_append, List.mem_singleton] at hz
    rcases hz with hz | rfl
    · exact h2 z hz
    · exact hwx
  · intro z
    rw [List.mem_append, List.mem_singleton]
    by_cases e : z = x
    · subst e
      simp [hh, Lit.sameKey]
    · have hs : (Lit.int .i64 z).sameKey (.int .i64 x) = false := by simp [Lit.sameKey, e]
      dsimp only
      rw [h3 z, hs]
      simp [e]
theorem sort_strict {ss : List Int} (h : ss.Nodup) : (ss.mergeSort fun x y => decide (x ≤ y)).Pairwise (· < ·) := by
  have hp : (ss.mergeSort fun x y => decide (x ≤ y)).Pairwise (fun a b => (decide (a ≤ b)) = true) := List.pairwise_mergeSort (fun a b c h1 h2 => by simp at *; omega) (fun a b => by simp; omega) ss
  have hn : (ss.mergeSort fun x y => decide (x ≤ y)).Nodup := (List.mergeSort_perm ss _).nodup_iff.2 h
  refine List.Pairwise.imp₂ (fun a b h1 h2 => ?_) hp hn
  simp at h1
  omega
theorem sort_mem {ss : List Int} {x : Int} : x ∈ (ss.mergeSort fun x y => decide (x ≤ y)) ↔ x ∈ ss := (List.mergeSort_perm ss _).mem_iff
theorem make1_ints (n : Nat) (hn : n ≤ 1073741824) (w : World) :
    ∃ w', (Instr.makeSlice 24 (.int .i64 0) (.int .i64 (n : Int))).run Try.prog w = .ok (.slice (some ⟨w.heap.size, 0, none⟩) 0 n) w' ∧ NewInts w.heap.size w' (.slice (some ⟨w.heap.size, 0, none⟩) 0 n) [] ∧ Below w.heap.size w w' ∧ w'.heap.size = w.heap.size + 1 := by
  have hi := info_int
  cases hq : Try.prog.info? 3 with
  | none => rw [hq] at hi; cases hi
  | some i =>
    rw [hq] at hi
    simp at hi
    obtain ⟨z1, z2, z3⟩ := hi
    have := run_make (P := Try.prog) w 24 3 i (.int .i64 0) Try.underlying24 hq z1 .i64 .i64 0 n (by omega) (by omega) (by rw [z3]; omega) (by omega)
    rw [z2, Int.toNat_natCast, Nat.mul_one] at this
    refine ⟨_, this, ⟨rfl, .inr ⟨w.heap.size, n, _, rfl, Nat.le_refl _, heap_alloc_new w _, Nat.zero_le _, by unfold maxLen; omega, ?_, by simp⟩⟩, bAlloc (Below.refl _ _) _, by simp⟩
    rw [made_zero]
    simp [vals]
set_option maxRecDepth 100000 in
set_option maxHeartbeats 4000000 in
/-- ascending. -/
theorem asc_impl (hS : SortsInts) {w : World} {b n : Nat} {M : Int → Option Int} (h : MapAt w b n M) (hn : n ≤ 1000) :
    Calls Try.prog 42 #[.map (some b)] w fun r w' => ∃ (v : Value) (ss : List Int), r = .returned v ∧ NewInts w.heap.size w' v ss ∧ ss.Pairwise (· < ·) ∧ (∀ x ∈ ss, (Lit.int .i64 x).wf = true) ∧ (∀ x, (Lit.int .i64 x).wf = true → (x ∈ ss ↔ (M x).isSome = true)) ∧ ss.length ≤ n ∧ Below w.heap.size w w' := by
  have hbl := h.lt
  obtain ⟨D0, hown, hD⟩ := h
  have HDD : Hid (∀ x : Int, (Lit.int .i64 x).wf = true → Maps.has D0 (.int .i64 x) = (M x).isSome) := fun x hx => (hD x hx).1
  have hsize : Maps.size D0 ≤ 1000 := Nat.le_trans hown.size_le hn
  obtain ⟨w1, r1, n1, b1, s1⟩ := make1_ints (Maps.size D0) (by omega) w
  have hown1 : w1.ownsMap Try.prog 3 (plainElem Try.prog 3) b n D0 := hown.kept (row := none) ⟨b1.os, b1.tape, b1.output, b1.size, fun k hk _ => b1.block k hk⟩ (by simp)
  have HN1 : Hid (NewInts w.heap.size w1 (.slice (some ⟨w.heap.size, 0, none⟩) 0 (Maps.size D0)) []) := n1
  have HB1 : Hid (Below w.heap.size w w1) := b1
  have HS1 : Hid (w1.heap.size = w.heap.size + 1) := s1
  have HSORT : Hid SortsInts := hS
  have HSL : Hid (Maps.size D0 ≤ n) := hown.size_le
  clear hD n1 b1 s1 hS
  go_enter Try.func42, Try.ntmps42
  go_wp2_with (first
    | (at_len; refine wpList_len_own _ rfl _ 49 rfl 3 3 Try.underlying49 _ b n D0 rfl hown ?_)
    | (at_range; refine wpList_range_own _ rfl _ 49 rfl 3 3 keyed_int Try.underlying49 _ b n D0 rfl hown1 ?_; intro w2 hrg0 hg0 hs0)
    | go_in)
  go_frame
  have HBW : Hid (b < w.heap.size) := hbl
  clear r1 hown1 hown
  go_loopw [3] (fun v wr => ∃ (left : Lit → Bool) (cnt : Nat) (ks : List Int), wr.ranges Try.prog 3 (plainElem Try.prog 3) b w1.heap.size n D0 left cnt ∧ NewInts w.heap.size wr v ks ∧ Hid (ks = [] → v = .slice (some ⟨w.heap.size, 0, none⟩) 0 (Maps.size D0)) ∧ Hid (CollI D0 left ks) ∧ ks.length + cnt ≤ Maps.size D0 ∧ Hid (Below w.heap.size w wr)) (fun _ wr => wr.rangeLeft b w1.heap.size)
  case atStart =>
    have bb : Below w1.heap.size w1 w2 := ⟨hg0.os, hg0.tape, hg0.output, hg0.size, fun k hk => hg0.block k hk (by simp)⟩
    exact ⟨_, _, [], hrg0, HN1.out.keep bb, (fun _ => rfl), CollI.start _, by simp, bTrans HB1.out bb⟩
  case round =>
    obtain ⟨left, cnt, ks, hrg, hN, HE, HC, hlen, HB⟩ := hrel
    go_wp2_with (first
      | (at_next; refine wpList_next_ranges_ii _ rfl _ rfl 3 3 .i64 .i64 keyed_int Try.underlying3 Try.underlying3 b w1.heap.size n _ _ _ rfl hrg ?_ ?_)
      | go_in)
    · intro hc0 hl0
      obtain ⟨g, cap, cur, hv, hbase, hb, h1, h2, h3, h4⟩ : ∃ g cap cur, u3 = .slice (some ⟨g, 0, none⟩) ks.length cap ∧ w.heap.size ≤ g ∧ wr.heap[g]? = some (.cells cur 3 (0, 0)) ∧ ks.length ≤ cap ∧ cap ≤ maxLen ∧ cur.size = cap * 1 ∧ cur.toList.take (ks.length * 1) = ks.map (Value.int .i64) := by
        rcases hN.2 with ⟨hnil, hk0⟩ | ⟨g, cap, cur, hv, hbase, hb, h1, h2, h3, h4⟩
        · have hk : ks = [] := List.eq_nil_of_length_eq_zero hk0
          have := HE.out hk
          rw [hnil] at this
          cases this
        · exact ⟨g, cap, cur, hv, hbase, hb, h1, h2, h3, h4⟩
      subst hv
      have hH : Holds (Value.int .i64) wr g 0 ks.toArray := holds_of_blockI hb (by simpa using h4)
      have hgl : g < wr.heap.size := (Array.getElem?_eq_some_iff.1 hb).1
      have hsort := HSORT.out g cap ks wr hH hgl (by omega)
      have hl2 : (ks.mergeSort fun x y => decide (x ≤ y)).length = ks.length := List.length_mergeSort ks
      have QP : Hid (((ks.mergeSort fun x y => decide (x ≤ y)).Pairwise (· < ·)) ∧ (∀ x ∈ (ks.mergeSort fun x y => decide (x ≤ y)), (Lit.int .i64 x).wf = true) ∧ (∀ x, (Lit.int .i64 x).wf = true → (x ∈ (ks.mergeSort fun x y => decide (x ≤ y)) ↔ (M x).isSome = true))) := by
        obtain ⟨c1, c2, c3⟩ := HC.out
        refine ⟨sort_strict c1, fun x hx => c2 x (sort_mem.1 hx), fun x hx => ?_⟩
        rw [sort_mem, c3 x, ← HDD.out x hx]
        simp [hl0]
      have QH : Hid (Below w.heap.size w wr) := HB.out
      have QL : Hid ((ks.mergeSort fun x y => decide (x ≤ y)).length ≤ n) := by have := HSL.out; show _ ≤ _; rw [hl2]; omega
      clear hrg hH hlen hc0 hl0 HE HC HB hN h4
      go_wp2_with fail
      refine hsort.mono ?_
      rintro e w' ⟨rfl, nn, os, rfl⟩
      have hg := grownBy_sortedI (w := wr) (g := g) (n := nn) (os := os) (ks.mergeSort fun x y => decide (x ≤ y)).toArray
      have hro := ownsRow_sortedI (n := nn) (os := os) (ts := ks.mergeSort fun x y => decide (x ≤ y)) hl2 hbase hb h1 h2 h3
      have NR : Hid (NewInts w.heap.size (grow (putRow (Value.int .i64) (Sort.ahead wr nn) g 0 (ks.mergeSort fun x y => decide (x ≤ y)).toArray) os) (.slice (some ⟨g, 0, none⟩) ks.length cap) (ks.mergeSort fun x y => decide (x ≤ y))) := by
        show World.ownsRow _ _ _ _ _ _ _
        rw [hl2]
        exact hro
      have BR : Hid (Below w.heap.size w (grow (putRow (Value.int .i64) (Sort.ahead wr nn) g 0 (ks.mergeSort fun x y => decide (x ≤ y)).toArray) os)) := by
        have hs := QH.out.size
        exact ⟨hg.os.trans QH.out.os, hg.tape.trans QH.out.tape, hg.output.trans QH.out.output, Nat.le_trans hs hg.size, fun k hk => (hg.block k (by omega) (by simp; omega)).trans (QH.out.block k hk)⟩
      clear hg hro hsort
      generalize (ks.mergeSort fun x y => decide (x ≤ y)) = ts at *
      generalize grow (putRow (Value.int .i64) (Sort.ahead wr nn) g 0 ts.toArray) os = wz at *
      go_wp2
      go_ret
      exact ⟨_, ts, rfl, NR.out, QP.out.1, QP.out.2.1, QP.out.2.2, QL.out, BR.out⟩
    · intro x c w3 cnt1 hwx hwc hlx hat hrg1 hlt hg1 hs1 hen
      have hm0 : wr.rangeLeft b w1.heap.size = cnt := hrg.left_eq
      have hN3 : NewInts w.heap.size w3 u3 ks := hN.kept hg1 (by
        cases hob : u3.ownBlock with
        | none => exact Or.inl rfl
        | some g => exact Or.inr (fun e => row_ne_iter hN hrg (by rw [hob]; exact e.symm)))
      have hri : some w1.heap.size ≠ u3.ownBlock := row_ne_iter hN3 hrg1
      have hB3 : Below w.heap.size w w3 := by
        have hs := HB.out.size
        have hs1' := HS1.out
        exact ⟨hg1.os.trans HB.out.os, hg1.tape.trans HB.out.tape, hg1.output.trans HB.out.output, Nat.le_trans hs hg1.size, fun k hk => (hg1.block k (by omega) (by simp; omega)).trans (HB.out.block k hk)⟩
      have hks : ks.length < 1048576 := by omega
      obtain ⟨a', c', w4, hr, hn4, hb4, hk4, _⟩ := growX (hN3.keep (bAlloc (Below.refl _ _) (.cells #[.int .i64 x] 3))) (ints_new w3 [x] 3) (by have := hB3.size; simp; omega) (by simp; omega) 1
      have hg4 : (w3.alloc (.cells #[.int .i64 x] 3)).grownBy w4 u3.ownBlock := ⟨hb4.os, hb4.tape, hb4.output, hb4.size, fun k hk hne => hk4 k hk (fun e => hne e.symm)⟩
      have hrow := hN3.row
      have hrg4 := (hrg1.alloc (.cells #[.int .i64 x] 3)).kept hg4 (fun e => by have := hrow b e.symm; have := HBW.out; omega) hri
      have HRG4 : Hid (w4.ranges Try.prog 3 (plainElem Try.prog 3) b w1.heap.size n D0 (fun z => left z && !z.sameKey (.int .i64 x)) cnt1) := hrg4
      have RUN : Hid ((Builtin.append_ #[24, 24] 24 #[u3, .slice (some ⟨w3.heap.size, 0, none⟩) 1 1]).run Try.prog (w3.alloc (.cells #[.int .i64 x] 3)) = .ok (.slice a' (ks ++ [x]).length c') w4) := hr
      have HN4 : Hid (NewInts w.heap.size w4 (.slice a' (ks ++ [x]).length c') (ks ++ [x])) := hn4
      have HB4 : Hid (Below w.heap.size w w4) := (bAlloc hB3 (.cells #[.int .i64 x] 3)).trans hb4
      have HC4 : Hid (CollI D0 (fun z => left z && !z.sameKey (.int .i64 x)) (ks ++ [x])) := HC.out.step hwx hlx hat
      have HL4 : Hid (ks.length + 1 + cnt1 ≤ Maps.size D0) := by show _ ≤ _; omega
      have HM0 : Hid (wr.rangeLeft b w1.heap.size = cnt ∧ cnt1 < cnt) := ⟨hm0, hlt⟩
      clear hrg hN HE HC hlen HB hrg1 hg1 hs1 hN3 hri hB3 hr hn4 hb4 hk4 hg4 hrow hrg4 hm0 hlt
      generalize (ks ++ [x]).length = LL at *
      go_wp2_with (at_builtin; refine wpList_append_ty rfl _ _ 24 24 rfl _ _ _ rfl rfl RUN.out ?_)
      go_roundw
      case rel => exact ⟨_, cnt1, ks ++ [x], HRG4.out, HN4.out, fun e => by simp at e, HC4.out, by have := HL4.out; simp; omega, HB4.out⟩
      case measure => rw [HRG4.out.left_eq, HM0.out.1]; exact HM0.out.2
end Go.Proofs.Ythjjjnapcbkhjaa
namespace Go.Proofs.Ythjjjnapcbkhjaa
open Go.RowKit
set_option linter.unusedVariables false
set_option linter.unusedSimpArgs false
theorem MapAt.look1 {w : World} {b n : Nat} {M : Int → Option Int} (h : MapAt w b n M) {x : Int} (hx : (Lit.int .i64 x).wf = true) :
    (Instr.lookup 49 (.map (some b)) (.int .i64 x) false).run Try.prog w = .ok (.int .i64 ((M x).getD 0)) w := by
  obtain ⟨D, ho, hD⟩ := h
  obtain ⟨h1, h2⟩ := hD x hx
  obtain ⟨v, ps, hrun, hv⟩ := ho.lookup keyed_int Try.underlying49 (zero_i64 w) (plainElem_int Try.underlying3 (by decide)) (Maps.keyOf_int_mk Try.underlying3 hx)
  obtain ⟨c, rfl, hc, hwc⟩ := plainElem_int_inv Try.underlying3 hv
  have e := congrArg Prod.fst hc
  dsimp only at e
  rewrite [h2 0] at e
  have e2 : (M x).getD 0 = c := (Lit.int.inj (DataW.lit.inj e)).2
  rw [hrun, ← e2]
theorem wf_ok {x : Int} (h : ok x = true) : (Lit.int .i64 x).wf = true := wf_i64 (ok_bd h).1 (ok_bd h).2
theorem places2_impl {s d : List Int} {w : World} {b : Option Addr} {f : Nat} (h : Ints w b d) (ho : arrOk s d = true) (hw : 0 < w.heap.size) :
    Calls Try.prog 41 #[.slice b d.length f] w fun r w' => ∃ bm g, r = .returned (.tuple #[.map (some bm), .slice (some ⟨g, 0, none⟩) d.length d.length]) ∧ MapAt w' bm d.length (firstM d d.length) ∧ OwnInts w' g (agD d) ∧ w.heap.size ≤ bm ∧ w.heap.size ≤ g ∧ bm ≠ g ∧ Below w.heap.size w w' := by
  have hc := arrOk_len ho
  have hall : ∀ j, j < d.length → (Lit.int .i64 (d.getD j 0)).wf = true := fun j hj => by
    unfold arrOk at ho
    rw [Bool.and_eq_true, List.all_eq_true] at ho
    exact wf_ok (ho.2 _ (by simp [hj]))
  rcases h with rfl | ⟨b1, o1, rfl, hb1, hcell⟩
  · exact places2_walk (b1 := 0) (o1 := 0) (fun j hj => by simp at hj) (fun q => by simp at q) hw hc (fun j hj => by simp at hj)
  · exact places2_walk hcell (fun _ => rfl) hb1 hc hall
theorem gradeBy_len (d xs : List Int) : (gradeBy d xs).length ≤ xs.length * d.length := by
  induction xs with
  | nil => simp [gradeBy]
  | cons x xs ih =>
    show (placesAt d x ++ gradeBy d xs).length ≤ _
    have h2 : (placesAt d x).length ≤ d.length := by have := List.length_filter_le (fun j => d.getD j 0 == x) (List.range d.length); rw [List.length_range] at this; exact this
    rw [List.length_append, List.length_cons, Nat.add_mul, Nat.one_mul]
    omega
set_option maxRecDepth 100000 in
set_option maxHeartbeats 8000000 in
/-- Grade. -/
theorem grade_impl (hS : SortsInts) {s d : List Int} {w : World} {v : Value} (h : ArrI w v s d) (hs : s.length ≤ 1048576) (hd : d.length ≤ 1048576) :
    Calls Try.prog 13 #[v] w fun r w' => ∃ v', r = .returned (.tuple #[v', .int .i64 (gradeR s d).1]) ∧ Arr w.heap.size w'.heap.size w' v' (gradeR s d).2.1 (gradeR s d).2.2 ∧ Below w.heap.size w w' := by
  have H : Hid (ArrI w v s d) := h
  have HSORT : Hid SortsInts := hS
  obtain ⟨a, c, b, f, rfl, h1, h2, _, _⟩ := h
  have H2 : Hid (Ints w b d) := h2
  have HD : Hid (d.length ≤ 1048576) := hd
  clear h1 h2 hS
  have q1 := heap_alloc2_old w (.cells #[.slice a s.length c, .slice b d.length f] 26) (.cells #[.slice none 0 0, .slice none 0 0] 26)
  have q2 := heap_alloc2_new w (.cells #[.slice a s.length c, .slice b d.length f] 26) (.cells #[.slice none 0 0, .slice none 0 0] 26)
  have QX : Hid (Box ((w.alloc (.cells #[.slice a s.length c, .slice b d.length f] 26)).alloc (.cells #[.slice none 0 0, .slice none 0 0] 26)) w.heap.size (.slice a s.length c) (.slice b d.length f) 26) := q1
  have QR : Hid (Box ((w.alloc (.cells #[.slice a s.length c, .slice b d.length f] 26)).alloc (.cells #[.slice none 0 0, .slice none 0 0] 26)) (w.heap.size + 1) (.slice none 0 0) (.slice none 0 0) 26) := q2
  clear q1 q2
  by_cases ho : arrOk s d = true
  · have HO : Hid (arrOk s d = true) := ho
    by_cases hl : s.length = 1
    · have ER : gradeR s d = (0, [(d.length : Int)], natI (gradeTo d d.length)) := by unfold gradeR gradeC; rw [if_pos ho, if_pos hl]; rfl
      have hlb : ((s.length : Int) != 1) = false := by rw [hl]; rfl
      have L3 : Hid (d.length ≤ 300) := arrOk_len ho
      rw [ER]
      clear ER ho hl
      go_enter Try.func13, Try.ntmps13
      go_wp2_with fail
      refine (arrOk_impl (H.out.keep (bAlloc (bAlloc (Below.refl _ _) _) _)) HD.out).mono ?_
      rintro r w1 ⟨rfl, hb⟩
      have HB1 : Hid (Below w.heap.size w w1) := bTrans (bAlloc (bAlloc (Below.refl _ _) _) _) hb
      have X1 : Hid (Box w1 w.heap.size (.slice a s.length c) (.slice b d.length f) 26) := QX.out.keep hb
      have R1 : Hid (Box w1 (w.heap.size + 1) (.slice none 0 0) (.slice none 0 0) 26) := QR.out.keep hb
      clear hb QX QR
      rw [HO.out]
      have x0 := X1.out.c0
      have x1 := X1.out.c1
      go_wp2_with fail
      refine (places2_impl (H2.out.keep HB1.out) HO.out (by have := X1.out.lt; omega)).mono ?_
      rintro r w2 ⟨bm, g, rfl, hm, hag, hbm, hg, hne, hb⟩
      have LT1 : Hid (w.heap.size + 1 < w1.heap.size) := R1.out.lt
      have X2 : Hid (Box w2 w.heap.size (.slice a s.length c) (.slice b d.length f) 26) := X1.out.keep hb
      have R2 : Hid (Box w2 (w.heap.size + 1) (.slice none 0 0) (.slice none 0 0) 26) := R1.out.keep hb
      have HB2 : Hid (Below w.heap.size w w2) := bTrans HB1.out hb
      obtain ⟨w3, r3, n3, b3, s3⟩ := make1_ints d.length (by have := L3.out; omega) w2
      have M3 : Hid (MapAt w3 bm d.length (firstM d d.length)) := hm.keep b3
      have GL : Hid (g < w2.heap.size) := (Array.getElem?_eq_some_iff.1 hag).1
      have A3 : Hid (OwnInts w3 g (agD d)) := by show w3.heap[g]? = _; rw [b3.block g GL.out]; exact hag
      have ML : Hid (bm < w2.heap.size) := hm.lt
      have N3 : Hid (NewInts w2.heap.size w3 (.slice (some ⟨w2.heap.size, 0, none⟩) 0 d.length) []) := n3
      have B3 : Hid (Below w2.heap.size w2 w3) := b3
      have S3 : Hid (w3.heap.size = w2.heap.size + 1) := s3
      have X3 : Hid (Box w3 w.heap.size (.slice a s.length c) (.slice b d.length f) 26) := X2.out.keep b3
      have R3 : Hid (Box w3 (w.heap.size + 1) (.slice none 0 0) (.slice none 0 0) 26) := R2.out.keep b3
      have y1 := X2.out.c1
      clear hm hag hbm hg hne hb n3 b3 s3 x0 x1
      go_wp2_with fail
      clear r3 y1
      refine (asc_impl HSORT.out M3.out (by have := L3.out; omega)).mono ?_
      rintro r w4 ⟨vs, ss, rfl, hns, hps, hws, hms, hsl, hb⟩
      have XS : Hid (gradeBy d ss = gradeTo d d.length) := grade_same hps (fun x => by
        constructor
        · intro hx
          exact firstM_mem.1 ((hms x (hws x hx)).1 hx)
        · intro hx
          refine (hms x ?_).2 (firstM_mem.2 hx)
          obtain ⟨i, hi, rfl⟩ := List.getElem_of_mem hx
          have ho := HO.out
          unfold arrOk at ho
          rw [Bool.and_eq_true, List.all_eq_true] at ho
          exact wf_ok (ho.2 _ (List.getElem_mem hi)))
      have WS : Hid (∀ k, k < ss.length → (Lit.int .i64 (ss.getD k 0)).wf = true ∧ ss.getD k 0 ∈ d) := fun k hk => by
        have hx : ss.getD k 0 ∈ ss := by simp [hk]
        exact ⟨hws _ hx, firstM_mem.1 ((hms _ (hws _ hx)).1 hx)⟩
      have LS : Hid (ss.length ≤ 300) := by have := L3.out; show _ ≤ _; omega
      obtain ⟨va, vc, rfl, _⟩ := hns.ints
      have P4 : Hid (Piece w3.heap.size w4.heap.size w4 (.slice va ss.length vc) ss) := hns.piece
      have B4 : Hid (Below w3.heap.size w3 w4) := hb
      have X4 : Hid (Box w4 w.heap.size (.slice a s.length c) (.slice b d.length f) 26) := X3.out.keep hb
      have R4 : Hid (Box w4 (w.heap.size + 1) (.slice none 0 0) (.slice none 0 0) 26) := R3.out.keep hb
      have M4 : Hid (MapAt w4 bm d.length (firstM d d.length)) := M3.out.keep hb
      have A4 : Hid (OwnInts w4 g (agD d)) := by show w4.heap[g]? = _; rw [hb.block g (by have := GL.out; have := S3.out; omega)]; exact A3.out
      have O4 : Hid (OutQ w2.heap.size w4 w4 (.slice (some ⟨w2.heap.size, 0, none⟩) 0 d.length) []) := ⟨N3.out.keep hb, .inl rfl, Win.refl _ _ _, by have := hb.size; have := S3.out; omega⟩
      have D4 : Hid (Ints w4 b d) := H2.out.keep (bTrans (bTrans HB2.out B3.out) hb)
      have HB4 : Hid (Below w.heap.size w w2) := HB2.out
      have BB4 : Hid (Below w2.heap.size w2 w4) := bTrans B3.out hb
      clear hns hps hws hms hsl hb X3 R3 M3 A3 N3 X1 R1
      go_wp2
      go_loopw [6, 34] (fun q i w' => ∃ k : Nat, k ≤ ss.length ∧ i = .int .i64 (k : Int) ∧ OutQ w2.heap.size w4 w' q (natI (gradeBy d (ss.take k)))) (fun _ i _ => ss.length - (intOf i).toNat)
      case atStart => exact ⟨0, by omega, rfl, O4.out⟩
      case round =>
        obtain ⟨k, hk, rfl, hO⟩ := hrel
        have HQ : Hid (OutQ w2.heap.size w4 wr u6 (natI (gradeBy d (ss.take k)))) := hO
        have hkb : k ≤ 300 := by have := LS.out; omega
        by_cases hlt : (k : Int) < (ss.length : Int)
        · have L : k < ss.length := by omega
          obtain ⟨x, hx⟩ : ∃ x, x = ss.getD k 0 := ⟨_, rfl⟩
          obtain ⟨hwx, hxd⟩ := WS.out k L
          rw [← hx] at hwx hxd
          obtain ⟨_, _, ev, ii⟩ := (P4.out.win hO.win (.inr (by have := S3.out; omega))).ints
          cases ev
          obtain ⟨p1, o1, rfl, hp1, t1⟩ := ii.at L
          rw [← hx] at t1
          have hlook := (M4.out.kept hO.grown (by have := ML.out; simp; omega)).look1 hwx
          have hpl : (firstM d d.length x).getD 0 = ((placeIn d x : Nat) : Int) := by rw [firstM_all, if_pos (placeIn_mem2 hxd)]; rfl
          rw [hpl] at hlook
          obtain ⟨c1, c2, c3⟩ := chain_start d x
          have GS : Hid (gradeBy d (ss.take (k + 1)) = gradeBy d (ss.take k) ++ placesAt d x) := by show _ = _; rw [gradeBy_snoc d ss L, hx]
          have C1 : Hid (placeIn d x ≤ d.length ∧ (placeIn d x < d.length → d.getD (placeIn d x) 0 = x) ∧ upPl d x (placeIn d x) = []) := ⟨c1, c2, c3⟩
          clear hO hx ii hpl c1 c2 c3
          have HTL : Hid ((gradeBy d (ss.take k)).length ≤ 90000) := by
            have h1 := gradeBy_len d (ss.take k)
            have h2 : (ss.take k).length * d.length ≤ 300 * 300 := Nat.mul_le_mul (by rw [List.length_take]; omega) L3.out
            show _ ≤ _
            omega
          generalize hTK : gradeBy d (ss.take k) = TK at *
          clear hTK
          generalize hP0 : placeIn d x = p0 at *
          clear hP0
          go_wp2
          clear hlook t1
          go_loopw [6, 9] (fun q j w' => ∃ p : Nat, p ≤ d.length ∧ j = .int .i64 (p : Int) ∧ (p < d.length → d.getD p 0 = x) ∧ OutQ w2.heap.size w4 w' q (natI (TK ++ upPl d x p))) (fun _ j _ => d.length - (intOf j).toNat)
          case atStart => exact ⟨p0, C1.out.1, rfl, C1.out.2.1, by rw [C1.out.2.2, List.append_nil]; exact HQ.out⟩
          case round =>
            obtain ⟨p, hp, rfl, hpx, hO⟩ := hrel
            have HQ2 : Hid (OutQ w2.heap.size w4 wr u6 (natI (TK ++ upPl d x p))) := hO
            have z1 := (X4.out.win hO.win (.inl (by have := LT1.out; have := HB2.out.size; have := R2.out.lt; omega))).c1
            have hpb : p ≤ 300 := by have := L3.out; omega
            by_cases hlp : (p : Int) < (d.length : Int)
            · have Lp : p < d.length := by omega
              obtain ⟨q, cq1, cq2, cq3, cq4, cq5⟩ := chain_step Lp (hpx Lp)
              have C5 : Hid (upPl d x q = upPl d x p ++ [p] ∧ p < q ∧ q ≤ d.length ∧ (q < d.length → d.getD q 0 = x)) := ⟨cq5, cq2, cq3, cq4⟩
              have LN : Hid ((natI (TK ++ upPl d x p)).length ≤ 1000000) := by
                have h1 := HTL.out
                have h2 : (upPl d x p).length ≤ p := by have := List.length_filter_le (fun j => d.getD j 0 == x) (List.range p); rw [List.length_range] at this; exact this
                show _ ≤ _
                rw [natI_len, List.length_append]
                omega
              obtain ⟨a', c', w5, hr1, hO2⟩ := hO.grow1 (p : Int) (by have := LN.out; omega)
              have RUN : Hid ((Builtin.append_ #[24, 24] 24 #[u6, .slice (some ⟨wr.heap.size, 0, none⟩) 1 1]).run Try.prog (wr.alloc (.cells #[.int .i64 (p : Int)] 3)) = .ok (.slice a' ((natI (TK ++ upPl d x p)).length + 1) c') w5) := hr1
              have HO2 : Hid (OutQ w2.heap.size w4 w5 (.slice a' ((natI (TK ++ upPl d x p)).length + 1) c') (natI (TK ++ upPl d x p) ++ [(p : Int)])) := hO2
              have hag : w5.cell? ⟨g, p, none⟩ = some (.int .i64 (q : Int)) := by
                have e : w5.heap[g]? = some (.cells (vals (agD d)) 3 (0, 0)) := by rw [hO2.win.block g (by have := GL.out; have := BB4.out.size; omega) (.inl GL.out)]; exact A4.out
                have := cell_at e (vals_at (l := agD d) (k := p) (by unfold agD; rw [agM_len]; exact Lp))
                rw [cq1] at this
                exact this
              clear hO hr1 hO2 cq1 cq2 cq3 cq4 cq5 hpx
              generalize (natI (TK ++ upPl d x p)).length + 1 = LL at *
              go_wp2_with (at_builtin; refine wpList_append_ty rfl _ _ 24 24 rfl _ _ _ rfl rfl RUN.out ?_)
              go_roundw
              case rel => exact ⟨q, C5.out.2.2.1, rfl, C5.out.2.2.2, by rw [C5.out.1, ← List.append_assoc, natI_app]; exact HO2.out⟩
              case measure => have := C5.out; simp [intOf]; omega
            · obtain rfl : p = d.length := by omega
              clear hO hpx
              go_wp2
              go_roundw
              case rel => exact ⟨k + 1, by omega, by go_num, by rw [GS.out, ← upPl_all]; exact HQ2.out⟩
              case measure => simp [intOf]; omega
        · obtain rfl : k = ss.length := by omega
          have GL9 : (natI (gradeBy d (ss.take ss.length))).length = d.length := by rw [List.take_length, XS.out, natI_len, gradeTo_len]
          obtain ⟨ga, gc, ev, _⟩ := hO.row.ints
          rw [GL9] at ev
          subst ev
          have NG : Hid (NewInts w2.heap.size wr (.slice ga d.length gc) (natI (gradeTo d d.length))) := by
            have q := hO.row
            rw [List.take_length, XS.out] at q
            exact q
          have R : Hid (Box wr (w.heap.size + 1) (.slice none 0 0) (.slice none 0 0) 26) := R4.out.win hO.win (.inl R2.out.lt)
          have BW : Hid (Below w.heap.size w wr) := bTrans HB4.out (BB4.out.trans (hO.win.below (Nat.le_refl _) BB4.out.size))
          have SW : Hid (w2.heap.size ≤ wr.heap.size) := by have := hO.win.size; have := BB4.out.size; show _ ≤ _; omega
          obtain ⟨W5, hW5⟩ : ∃ y, y = wr.alloc (.cells #[.int .i64 (d.length : Int)] 3) := ⟨_, rfl⟩
          have B5 : Hid (Below wr.heap.size wr W5) := by rw [hW5]; exact bAlloc (Below.refl _ _) _
          have S5 : Hid (W5.heap.size = wr.heap.size + 1) := by show _ = _; rw [hW5]; simp
          have R5 : Hid (Box W5 (w.heap.size + 1) (.slice none 0 0) (.slice none 0 0) 26) := R.out.keep B5.out
          have A5 : Hid (Arr w2.heap.size W5.heap.size W5 (.agg #[.slice (some ⟨wr.heap.size, 0, none⟩) 1 1, .slice ga d.length gc]) [(d.length : Int)] (natI (gradeTo d d.length))) := by
            have e1 := SW.out
            have e2 := S5.out
            have PS : Piece wr.heap.size W5.heap.size W5 (.slice (some ⟨wr.heap.size, 0, none⟩) 1 1) [(d.length : Int)] := by
              rw [hW5]
              exact OwnInts.piece (ownInts_new wr [(d.length : Int)]) (Nat.le_refl _) (by simp) 1
            have PD : Piece w2.heap.size wr.heap.size W5 (.slice ga d.length gc) (natI (gradeTo d d.length)) := NG.out.piece.keep B5.out
            exact ⟨_, _, rfl, PS.mono e1 (Nat.le_refl _), PD.mono (Nat.le_refl _) (by omega), PS.apart PD (.inr (Nat.le_refl _))⟩
          have HR : Hid (((W5.setCell ⟨w.heap.size + 1, 0, none⟩ (.slice (some ⟨wr.heap.size, 0, none⟩) 1 1)).setCell ⟨w.heap.size + 1, 1, none⟩ (.slice ga d.length gc)).heap[w.heap.size + 1]? = some (.cells #[.slice (some ⟨wr.heap.size, 0, none⟩) 1 1, .slice ga d.length gc] 26 (0, 0))) := arr_stored R5.out
          have r0 : (wr.alloc (.cells #[.int .i64 (d.length : Int)] 3)).cell? ⟨w.heap.size + 1, 0, none⟩ = some (.slice none 0 0) := by rw [← hW5]; exact R5.out.c0
          have r1 : (wr.alloc (.cells #[.int .i64 (d.length : Int)] 3)).cell? ⟨w.heap.size + 1, 1, none⟩ = some (.slice none 0 0) := by rw [← hW5]; exact R5.out.c1
          have f0 : (wr.alloc (.cells #[.int .i64 (d.length : Int)] 3)).frozen? ⟨w.heap.size + 1, 0, none⟩ = false := by rw [← hW5]; exact free_at R5.out 0
          have f1 : (wr.alloc (.cells #[.int .i64 (d.length : Int)] 3)).frozen? ⟨w.heap.size + 1, 1, none⟩ = false := by rw [← hW5]; exact free_at R5.out 1
          clear hO GL9
          go_wp2
          rw [← hW5]
          refine bodyPost_ret (results_arr_tmp Try.results13 _ _ (w.heap.size + 1) _ _ rfl HR.out) rfl ?_
          refine ⟨_, rfl, ?_, below_setCell (below_setCell (bTrans BW.out B5.out) (by omega) _ _) (by omega) _ _⟩
          have l1 := R2.out.lt
          exact ((A5.out.setCell (by omega) _ _).setCell (by omega) _ _).mono (by omega) (by simp only [size_setCell]; omega)
    · have ER : gradeR s d = (4, [], []) := by unfold gradeR gradeC; rw [if_pos ho, if_neg hl]; exact mkR_bad (by decide) _ _
      have hlb : ((s.length : Int) != 1) = true := by simp; omega
      rw [ER]
      clear ER ho hl
      go_enter Try.func13, Try.ntmps13
      go_wp2_with fail
      refine (arrOk_impl (H.out.keep (bAlloc (bAlloc (Below.refl _ _) _) _)) HD.out).mono ?_
      rintro r w1 ⟨rfl, hb⟩
      have HB1 : Hid (Below w.heap.size w w1) := bTrans (bAlloc (bAlloc (Below.refl _ _) _) _) hb
      have X1 : Hid (Box w1 w.heap.size (.slice a s.length c) (.slice b d.length f) 26) := QX.out.keep hb
      have R1 : Hid (Box w1 (w.heap.size + 1) (.slice none 0 0) (.slice none 0 0) 26) := QR.out.keep hb
      rw [HO.out]
      have x0 := X1.out.c0
      have x1 := X1.out.c1
      clear hb QX QR
      have HR : Hid (((w1.setCell ⟨w.heap.size + 1, 0, none⟩ (.slice none 0 0)).setCell ⟨w.heap.size + 1, 1, none⟩ (.slice none 0 0)).heap[w.heap.size + 1]? = some (.cells #[.slice none 0 0, .slice none 0 0] 26 (0, 0))) := arr_stored R1.out
      have r0 := R1.out.c0
      have r1 := R1.out.c1
      have f0 : w1.frozen? ⟨w.heap.size + 1, 0, none⟩ = false := free_at R1.out 0
      have f1 : w1.frozen? ⟨w.heap.size + 1, 1, none⟩ = false := free_at R1.out 1
      go_wp2
      refine bodyPost_ret (results_arr_tmp Try.results13 _ _ (w.heap.size + 1) _ _ rfl HR.out) rfl ?_
      exact ⟨_, rfl, arr_zero _ _ _, below_setCell (below_setCell HB1.out (by omega) _ _) (by omega) _ _⟩
  · have HO : Hid (arrOk s d = false) := by show _ = _; simpa using ho
    have ER : gradeR s d = (1, [], []) := by unfold gradeR gradeC; rw [if_neg ho]; exact mkR_bad (by decide) _ _
    rw [ER]
    clear ER ho
    go_enter Try.func13, Try.ntmps13
    go_wp2_with fail
    refine (arrOk_impl (H.out.keep (bAlloc (bAlloc (Below.refl _ _) _) _)) HD.out).mono ?_
    rintro r w1 ⟨rfl, hb⟩
    have HB1 : Hid (Below w.heap.size w w1) := bTrans (bAlloc (bAlloc (Below.refl _ _) _) _) hb
    have R1 : Hid (Box w1 (w.heap.size + 1) (.slice none 0 0) (.slice none 0 0) 26) := QR.out.keep hb
    rw [HO.out]
    clear hb QX QR
    have HR : Hid (((w1.setCell ⟨w.heap.size + 1, 0, none⟩ (.slice none 0 0)).setCell ⟨w.heap.size + 1, 1, none⟩ (.slice none 0 0)).heap[w.heap.size + 1]? = some (.cells #[.slice none 0 0, .slice none 0 0] 26 (0, 0))) := arr_stored R1.out
    have r0 := R1.out.c0
    have r1 := R1.out.c1
    have f0 : w1.frozen? ⟨w.heap.size + 1, 0, none⟩ = false := free_at R1.out 0
    have f1 : w1.frozen? ⟨w.heap.size + 1, 1, none⟩ = false := free_at R1.out 1
    go_wp2
    refine bodyPost_ret (results_arr_tmp Try.results13 _ _ (w.heap.size + 1) _ _ rfl HR.out) rfl ?_
    exact ⟨_, rfl, arr_zero _ _ _, below_setCell (below_setCell HB1.out (by omega) _ _) (by omega) _ _⟩
end Go.Proofs.Ythjjjnapcbkhjaa
namespace Go.Proofs.Ythjjjnapcbkhjaa
open Go.RowKit Go.Sort
theorem sorts_ints : SortsInts := fun blk cap zs w hH hb hl => Any.slices_Sort_int Try.lays189 blk 0 cap zs w hH hb hl
end Go.Proofs.Ythjjjnapcbkhjaa
namespace Go.Proofs.Ythjjjnapcbkhjaa
open Go.RowKit
set_option linter.unusedVariables false
set_option linter.unusedSimpArgs false
/-- Are all arrays of a list right? -/
def allOkV (F : List (List Int)) (m : Nat) : Bool := (List.range m).all fun i => arrOk (F.getD (2 * i) []) (F.getD (2 * i + 1) [])
theorem allOkV_succ (F : List (List Int)) (m : Nat) : allOkV F (m + 1) = (allOkV F m && arrOk (F.getD (2 * m) []) (F.getD (2 * m + 1) [])) := by
  unfold allOkV; rw [List.range_succ, List.all_append]; simp
theorem allOkV_no {F : List (List Int)} {m k : Nat} (hk : k < m) (h : arrOk (F.getD (2 * k) []) (F.getD (2 * k + 1) []) = false) : allOkV F m = false := by
  unfold allOkV
  rw [List.all_eq_false]
  exact ⟨k, by simpa using hk, by rw [h]; decide⟩
set_option maxRecDepth 20000 in
set_option maxHeartbeats 1000000 in
/-- allOk. -/
theorem allOk_impl {F : List (List Int)} {w : World} {m ca : Nat} {aa : Option Addr} (hA : ArrsI w (.slice aa m ca) F) (hm : m ≤ 2) (hL : ∀ j, (F.getD j []).length ≤ 1048576) :
    Calls Try.prog 46 #[.slice aa m ca] w fun r w' => r = .returned (.bool (allOkV F m)) ∧ Below w.heap.size w w' := by
  have HA : Hid (ArrsI w (.slice aa m ca) F) := hA
  have HL : Hid (∀ j, (F.getD j []).length ≤ 1048576) := hL
  clear hA hL
  go_enter Try.func46, Try.ntmps46
  go_wp2
  go_loopw [7] (fun i w' => ∃ k : Nat, k ≤ m ∧ i = .int .i64 (k : Int) ∧ allOkV F k = true ∧ Below w.heap.size w w') (fun i _ => m - (intOf i).toNat)
  case atStart => exact ⟨0, by omega, rfl, rfl, Below.refl _ _⟩
  case round =>
    obtain ⟨j, hk, rfl, ht, hb⟩ := hrel
    have HT : Hid (allOkV F j = true) := ht
    have HB : Hid (Below w.heap.size w wr) := hb
    clear ht hb
    by_cases hlt : (j : Int) < (m : Int)
    · obtain ⟨o, off, sx, sy, rfl, ho, p0, p1, i0, i1⟩ := (HA.out.keep HB.out).at (k := j) (by omega)
      obtain ⟨ax, cx, rfl, gix, ix⟩ := i0
      obtain ⟨ay, cy, rfl, giy, iy⟩ := i1
      have A1 : Hid (ArrI wr (.agg #[.slice ax (F.getD (2 * j) []).length cx, .slice ay (F.getD (2 * j + 1) []).length cy]) (F.getD (2 * j) []) (F.getD (2 * j + 1) [])) := ⟨_, _, _, _, rfl, ix, iy, gix, giy⟩
      have HC : Hid (∀ W, Below wr.heap.size wr W → Calls Try.prog 22 #[.agg #[.slice ax (F.getD (2 * j) []).length cx, .slice ay (F.getD (2 * j + 1) []).length cy]] W fun e w' => e = .returned (.bool (arrOk (F.getD (2 * j) []) (F.getD (2 * j + 1) []))) ∧ Below W.heap.size W w') := fun W h => arrOk_impl (A1.out.keep h) (HL.out _)
      have HY : Hid (arrOk (F.getD (2 * j) []) (F.getD (2 * j + 1) []) = true → allOkV F (j + 1) = true) := fun h => by rw [allOkV_succ, HT.out, h]; rfl
      have HN : Hid (arrOk (F.getD (2 * j) []) (F.getD (2 * j + 1) []) = false → allOkV F m = false) := fun h => allOkV_no (by omega) h
      clear ix iy gix giy A1
      generalize (F.getD (2 * j) []).length = ls at *
      generalize (F.getD (2 * j + 1) []).length = ld at *
      generalize arrOk (F.getD (2 * j) []) (F.getD (2 * j + 1) []) = q at *
      cases q
      · have HN' : Hid (allOkV F m = false) := HN.out rfl
        clear HN HY
        go_wp2_with fail
        refine (HC.out _ (bAlloc (Below.refl _ _) _)).mono ?_
        rintro r w2 ⟨rfl, hb⟩
        have HB2 : Hid (Below w.heap.size w w2) := bTrans HB.out (bTrans (bAlloc (Below.refl _ _) _) hb)
        clear hb
        go_wp2
        go_ret
        exact ⟨by rw [HN'.out]; rfl, HB2.out⟩
      · have HY' : Hid (allOkV F (j + 1) = true) := HY.out rfl
        clear HN HY
        go_wp2_with fail
        refine (HC.out _ (bAlloc (Below.refl _ _) _)).mono ?_
        rintro r w2 ⟨rfl, hb⟩
        have HB2 : Hid (Below w.heap.size w w2) := bTrans HB.out (bTrans (bAlloc (Below.refl _ _) _) hb)
        clear hb
        go_wp2
        go_roundw
        case rel => exact ⟨j + 1, by omega, by go_num, HY'.out, HB2.out⟩
        case measure => simp [intOf]; omega
    · obtain rfl : j = m := by omega
      go_wp2
      go_ret
      exact ⟨by rw [HT.out]; rfl, HB.out⟩
set_option maxRecDepth 20000 in
set_option maxHeartbeats 1000000 in
/-- vectorCopy. -/
theorem vecCopy_impl {l : List Int} {w : World} {v : Value} (h : IntsI w v l) (hl : l.length ≤ 1048576) :
    Calls Try.prog 83 #[v] w fun r w' => ∃ v', r = .returned v' ∧ Arr w.heap.size w'.heap.size w' v' [(l.length : Int)] l ∧ Below w.heap.size w w' := by
  obtain ⟨a, c, rfl, g, i⟩ := h
  have HI : Hid (IntsI w (.slice a l.length c) l) := ⟨a, c, rfl, g, i⟩
  have HC : Hid (∀ W, Below w.heap.size w W → Calls Try.prog 66 #[.slice a l.length c] W fun e w' => ∃ a' c', e = .returned (.slice a' l.length c') ∧ Piece W.heap.size w'.heap.size w' (.slice a' l.length c') l ∧ Below W.heap.size W w') := fun W h => copied_new (HI.out.keep h) hl
  clear g i
  go_enter Try.func83, Try.ntmps83
  go_wp2_with fail
  refine (HC.out _ (bAlloc (bAlloc (Below.refl _ _) _) _)).mono ?_
  rintro r w1 ⟨a2, c2, rfl, hp, hb⟩
  have HP : Hid (Piece (w.heap.size + 2) w1.heap.size w1 (.slice a2 l.length c2) l) := by show Piece _ _ _ _ _; simpa using hp
  have HB : Hid (Below w.heap.size w w1) := bTrans (bAlloc (bAlloc (Below.refl _ _) _) _) hb
  have Y : Hid (Box w1 w.heap.size (.slice none 0 0) (.slice none 0 0) 26) := ((box_new w _ _ _).keep (bAlloc (Below.refl _ _) _)).keep hb
  have PS : Hid (Piece (w.heap.size + 1) (w.heap.size + 2) w1 (.slice (some ⟨w.heap.size + 1, 0, none⟩) 1 1) [(l.length : Int)]) := by
    have p := OwnInts.piece (ownInts_new (w.alloc (.cells #[.slice none 0 0, .slice none 0 0] 26)) [(l.length : Int)]) (B := w.heap.size + 1) (C := w.heap.size + 2) (by simp) (by simp) 1
    have p' : Piece (w.heap.size + 1) (w.heap.size + 2) ((w.alloc (.cells #[.slice none 0 0, .slice none 0 0] 26)).alloc (.cells #[.int .i64 (l.length : Int)] 3)) (.slice (some ⟨w.heap.size + 1, 0, none⟩) 1 1) [(l.length : Int)] := by simpa [vals] using p
    exact p'.keep hb
  have LT : Hid (w.heap.size + 2 ≤ w1.heap.size) := by have := hb.size; show _ ≤ _; simpa using this
  clear hp hb
  have y0 := Y.out.c0
  have y1 := Y.out.c1
  have f0 : w1.frozen? ⟨w.heap.size, 0, none⟩ = false := free_at Y.out 0
  have f1 : w1.frozen? ⟨w.heap.size, 1, none⟩ = false := free_at Y.out 1
  have HR : Hid (((w1.setCell ⟨w.heap.size, 0, none⟩ (.slice (some ⟨w.heap.size + 1, 0, none⟩) 1 1)).setCell ⟨w.heap.size, 1, none⟩ (.slice a2 l.length c2)).heap[w.heap.size]? = some (.cells #[.slice (some ⟨w.heap.size + 1, 0, none⟩) 1 1, .slice a2 l.length c2] 26 (0, 0))) := arr_stored Y.out
  go_wp2
  refine bodyPost_ret (v := .agg #[.slice (some ⟨w.heap.size + 1, 0, none⟩) 1 1, .slice a2 l.length c2]) (results_arr rfl _ _ w.heap.size _ _ rfl HR.out) rfl ?_
  refine ⟨_, rfl, ?_, below_setCell (below_setCell HB.out (Nat.le_refl _) _ _) (Nat.le_refl _) _ _⟩
  have L := LT.out
  have p1' := (PS.out.win (win_setCell w1 w.heap.size 0 (.slice (some ⟨w.heap.size + 1, 0, none⟩) 1 1)) (.inr (by omega))).win (win_setCell _ w.heap.size 1 (.slice a2 l.length c2)) (.inr (by omega))
  have p2' := (HP.out.win (win_setCell w1 w.heap.size 0 (.slice (some ⟨w.heap.size + 1, 0, none⟩) 1 1)) (.inr (by omega))).win (win_setCell _ w.heap.size 1 (.slice a2 l.length c2)) (.inr (by omega))
  exact ⟨_, _, rfl, p1'.mono (by omega) (by simp only [size_setCell]; omega), p2'.mono (by omega) (by simp only [size_setCell]; omega), p1'.apart p2' (.inl (by omega))⟩
/-- What soleNumber tells: a code, and the number beside it. -/
def soleC (s d : List Int) (q : Bool) : Int := if arrOk s d = true ∧ q = true then (if d.length ≠ 1 then 3 else 0) else 1
def soleV (s d : List Int) (q : Bool) : Int := if soleC s d q = 0 then d.getD 0 0 else 0
set_option maxRecDepth 20000 in
set_option maxHeartbeats 2000000 in
/-- soleNumber. -/
theorem sole_impl {s d : List Int} {F : List (List Int)} {w : World} {v : Value} {m ca : Nat} {aa : Option Addr} (h : ArrI w v s d) (hd : d.length ≤ 1048576) (hA : ArrsI w (.slice aa m ca) F) (hm : m ≤ 2) (hL : ∀ j, (F.getD j []).length ≤ 1048576) :
    Calls Try.prog 39 #[v, .slice aa m ca] w fun r w' => r = .returned (.tuple #[.int .i64 (soleV s d (allOkV F m)), .int .i64 (soleC s d (allOkV F m))]) ∧ Below w.heap.size w w' := by
  have H : Hid (ArrI w v s d) := h
  have HC : Hid (∀ W, Below w.heap.size w W → Calls Try.prog 46 #[.slice aa m ca] W fun r w' => r = .returned (.bool (allOkV F m)) ∧ Below W.heap.size W w') := fun W h => allOk_impl (hA.keep h) hm hL
  have HD : Hid (∀ W, Below w.heap.size w W → Calls Try.prog 22 #[v] W fun r w' => r = .returned (.bool (arrOk s d)) ∧ Below W.heap.size W w') := fun W hb => arrOk_impl (h.keep hb) hd
  obtain ⟨a, c, b, e, rfl, _, ib, _, _⟩ := h
  have HI : Hid (Ints w b d) := ib
  clear hA hm hL hd ib
  generalize allOkV F m = q at *
  obtain ⟨x, hx⟩ : ∃ x, x = soleV s d q := ⟨_, rfl⟩
  obtain ⟨y, hy⟩ : ∃ y, y = soleC s d q := ⟨_, rfl⟩
  rw [← hx, ← hy]
  have E1 : Hid (arrOk s d = false → y = 1 ∧ x = 0) := fun h => by
    have : soleC s d q = 1 := by unfold soleC; rw [if_neg (by rw [h]; simp)]
    rw [hy, hx]; unfold soleV; rw [this]; exact ⟨rfl, rfl⟩
  have E2 : Hid (q = false → y = 1 ∧ x = 0) := fun h => by
    have : soleC s d q = 1 := by unfold soleC; rw [if_neg (by rw [h]; simp)]
    rw [hy, hx]; unfold soleV; rw [this]; exact ⟨rfl, rfl⟩
  have E3 : Hid (arrOk s d = true → q = true → d.length ≠ 1 → y = 3 ∧ x = 0) := fun h1 h2 h3 => by
    have : soleC s d q = 3 := by unfold soleC; rw [if_pos ⟨h1, h2⟩, if_pos h3]
    rw [hy, hx]; unfold soleV; rw [this]; exact ⟨rfl, rfl⟩
  have E4 : Hid (arrOk s d = true → q = true → d.length = 1 → y = 0 ∧ x = d.getD 0 0) := fun h1 h2 h3 => by
    have : soleC s d q = 0 := by unfold soleC; rw [if_pos ⟨h1, h2⟩, if_neg (by simpa using h3)]
    rw [hy, hx]; unfold soleV; rw [this]; exact ⟨rfl, rfl⟩
  clear hx hy
  generalize arrOk s d = z at *
  go_enter Try.func39, Try.ntmps39
  go_wp2_with fail
  refine (HD.out _ (bAlloc (Below.refl _ _) _)).mono ?_
  rintro r w1 ⟨rfl, hb⟩
  have HB : Hid (Below w.heap.size w w1) := bTrans (bAlloc (Below.refl _ _) _) hb
  have X : Hid (Box w1 w.heap.size (.slice a s.length c) (.slice b d.length e) 26) := (box_new w _ _ _).keep hb
  clear hb
  cases z
  · obtain ⟨rfl, rfl⟩ := E1.out rfl
    clear E1 E2 E3 E4
    go_wp2
    go_ret2
    exact ⟨rfl, HB.out⟩
  · go_wp2_with fail
    refine (HC.out _ HB.out).mono ?_
    rintro r w2 ⟨rfl, hb⟩
    have HB2 : Hid (Below w.heap.size w w2) := bTrans HB.out hb
    have X2 : Hid (Box w2 w.heap.size (.slice a s.length c) (.slice b d.length e) 26) := X.out.keep hb
    clear hb
    cases q
    · obtain ⟨rfl, rfl⟩ := E2.out (by trivial)
      clear E1 E2 E3 E4
      go_wp2
      go_ret2
      exact ⟨rfl, HB2.out⟩
    · have x1 := X2.out.c1
      by_cases hl : d.length = 1
      · obtain ⟨rfl, hx⟩ := E4.out (by trivial) (by trivial) hl
        clear E1 E2 E3 E4
        obtain ⟨b1, o1, rfl, _, c1⟩ := (HI.out.keep HB2.out).at (k := 0) (by omega)
        rw [Nat.add_zero, ← hx] at c1
        rw [hl] at x1
        clear hl hx
        go_wp2
        go_ret2
        exact ⟨rfl, HB2.out⟩
      · obtain ⟨rfl, rfl⟩ := E3.out (by trivial) (by trivial) hl
        clear E1 E2 E3 E4
        have hne : ((d.length : Int) != 1) = true := by simp; omega
        generalize d.length = n at *
        clear hl
        go_wp2
        go_ret2
        exact ⟨rfl, HB2.out⟩
/-- The shape as withRows has it. -/
def rowsS (s : List Int) : List Int := if s = [] then [1] else s
set_option maxRecDepth 20000 in
set_option maxHeartbeats 2000000 in
/-- ofRows. -/
theorem ofRows_impl {s : List Int} {w : World} {v : Value} (x : Int) (h : IntsI w v s) (hs : s.length ≤ 1048576) (h0 : s ≠ []) :
    Calls Try.prog 74 #[v, .int .i64 x] w fun r w' => ∃ a' c', r = .returned (.slice a' (x :: s.drop 1).length c') ∧ Piece w.heap.size w'.heap.size w' (.slice a' (x :: s.drop 1).length c') (x :: s.drop 1) ∧ Below w.heap.size w w' := by
  obtain ⟨a, c, rfl, g, i⟩ := h
  have HC : Hid (Calls Try.prog 66 #[.slice a s.length c] w fun e w' => e = .returned (.slice (some ⟨w.heap.size, 0, none⟩) s.length s.length) ∧ w' = w.alloc (.cells (vals s) 3)) := copied_impl c i hs
  have hp : 0 < s.length := by cases s with | nil => exact absurd rfl h0 | cons _ _ => simp
  have hp' : (0 : Int) < (s.length : Int) := by omega
  have EL : Hid ((x :: s.drop 1).length = s.length) := by show _ = _; simp; omega
  have ES : Hid (s.set 0 x = x :: s.drop 1) := by cases s with | nil => exact absurd rfl h0 | cons _ _ => rfl
  have HL : Hid (s.length ≤ 1048576) := hs
  rw [EL.out]
  clear i g hs h0
  go_enter Try.func74, Try.ntmps74
  go_wp2_with fail
  refine HC.out.mono ?_
  rintro r w1 ⟨rfl, hw⟩
  have HB : Hid (Below w.heap.size w w1) := by rw [hw]; exact bAlloc (Below.refl _ _) _
  have HP : Hid (Piece w.heap.size (w.heap.size + 1) w1 (.slice (some ⟨w.heap.size, 0, none⟩) s.length s.length) s) := by
    rw [hw]; exact OwnInts.piece (ownInts_new w s) (Nat.le_refl _) (by simp) _
  have LT : Hid (w.heap.size + 1 ≤ w1.heap.size) := by rw [hw]; show _ ≤ _; simp
  clear hw HC
  obtain ⟨t1, t2, _, _, _⟩ := HP.out.cellAt (k := 0) hp
  rw [Nat.zero_add] at t1 t2
  generalize s.getD 0 0 = z at t1
  go_wp2
  go_ret
  refine ⟨_, _, rfl, ?_, below_setCell HB.out (Nat.le_refl _) _ _⟩
  have q := HP.out.set hp x
  rw [ES.out] at q
  exact q.mono (Nat.le_refl _) (by rw [size_setCell]; exact LT.out)
end Go.Proofs.Ythjjjnapcbkhjaa
namespace Go.Proofs.Ythjjjnapcbkhjaa
open Go.RowKit
set_option linter.unusedVariables false
set_option linter.unusedSimpArgs false
/-- The first k of n places are filled, again and again. -/
def againTo (e : List Int) (n k : Nat) : List Int := (List.range n).map fun i => if i < k then e.getD (i % e.length) 0 else 0
theorem againTo_zero (e : List Int) (n : Nat) : againTo e n 0 = List.replicate n 0 := by
  unfold againTo
  apply List.ext_getElem
  · simp
  · intro i h1 h2; simp
theorem againTo_all {e : List Int} (h : e ≠ []) (n : Nat) : againTo e n n = againD e n := by
  unfold againTo againD
  apply List.map_congr_left
  intro i hi
  rw [if_pos (by simpa using hi), if_neg h]
theorem againD_nil (n : Nat) : againD [] n = List.replicate n 0 := by
  unfold againD
  apply List.ext_getElem
  · simp
  · intro i h1 h2; simp
theorem againTo_length (e : List Int) (n k : Nat) : (againTo e n k).length = n := by simp [againTo]
theorem againTo_at (e : List Int) {n k i : Nat} (hi : i < n) : (againTo e n k).getD i 0 = if i < k then e.getD (i % e.length) 0 else 0 := by
  unfold againTo
  simp [hi]
theorem paste_again {e : List Int} {n k m : Nat} (hk : k % e.length = 0) (hm : m ≤ e.length) (hn : k + m ≤ n) : paste (againTo e n k) k e m = againTo e n (k + m) := by
  apply List.ext_getElem
  · rw [paste_length (by rw [againTo_length]; exact hn) hm, againTo_length, againTo_length]
  · intro i h1 h2
    have hi : i < n := by rwa [againTo_length] at h2
    have q := paste_at (l := againTo e n k) (e := e) (k := k) (m := m) (by rw [againTo_length]; exact hn) hm i
    rw [againTo_at e hi] at q
    have r := againTo_at e (k := k + m) hi
    simp only [List.getD_eq_getElem?_getD] at q r
    rw [List.getElem?_eq_getElem h1] at q
    rw [List.getElem?_eq_getElem h2] at r
    simp only [Option.getD_some] at q r
    rw [q, r]
    by_cases c1 : i < k
    · rw [if_pos c1, if_pos c1, if_pos (by omega)]
    · rw [if_neg c1, if_neg c1]
      by_cases c2 : i < k + m
      · rw [if_pos c2, if_pos c2]
        have : i % e.length = i - k := by
          have e1 : i = k + (i - k) := by omega
          conv => lhs; rw [e1]
          rw [Nat.add_mod, hk, Nat.zero_add, Nat.mod_mod, Nat.mod_eq_of_lt (by omega)]
        rw [this]
      · rw [if_neg c2, if_neg c2]
set_option maxRecDepth 20000 in
set_option maxHeartbeats 2000000 in
/-- againAndAgain. -/
theorem again_impl {e : List Int} {a : Option Addr} {w : World} {n c : Nat} (h : Ints w a e) (he : e.length ≤ 1048576) (hn : n ≤ 1048576) :
    Calls Try.prog 72 #[.slice a e.length c, .int .i64 (n : Int)] w fun r w' => r = .returned (.slice (some ⟨w.heap.size, 0, none⟩) n n) ∧ OwnInts w' w.heap.size (againD e n) ∧ Below w.heap.size w w' := by
  have hmk : ∀ w, (Instr.makeSlice 24 (.int .i64 (n : Int)) (.int .i64 (n : Int))).run Try.prog w = .ok (.slice (some ⟨w.heap.size, 0, none⟩) n n) (w.alloc (.cells (vals (List.replicate n 0)) 3)) := fun w => make_ints n (by omega) w
  obtain ⟨D, hD⟩ : ∃ D, D = againD e n := ⟨_, rfl⟩
  rw [← hD]
  by_cases h0 : e = []
  · have ED : Hid (D = List.replicate n 0) := by show _ = _; rw [hD, h0, againD_nil]
    subst h0
    clear hD
    simp only [List.length_nil]
    go_enter Try.func72, Try.ntmps72
    go_wp2
    go_ret
    refine ⟨rfl, ?_, bAlloc (Below.refl _ _) _⟩
    rw [ED.out]
    exact ownInts_new _ _
  · have ED : Hid (D = againTo e n n) := by show _ = _; rw [hD, againTo_all h0]
    have hl : 0 < e.length := by cases e with | nil => exact absurd rfl h0 | cons _ _ => simp
    have hne : ((e.length : Int) == 0) = false := by simp; exact h0
    have HI : Hid (Ints w a e) := h
    have HP : Hid (∀ k m, k % e.length = 0 → m ≤ e.length → k + m ≤ n → paste (againTo e n k) k e m = againTo e n (k + m)) := fun k m a b c => paste_again a b c
    have HCP : Hid (∀ W g l k r dC, Below w.heap.size w W → OwnInts W g l → k + min e.length r ≤ l.length → (Builtin.copy_ #[24, 24] 3 #[.slice (some ⟨g, k, none⟩) r dC, .slice a e.length c]).run Try.prog W = .ok (.int .i64 ((min e.length r : Nat) : Int)) (W.setRow g (vals (paste l k e (min e.length r))))) := fun W g l k r dC hb ho hf => copy_paste ho (HI.out.keep hb) hf _ dC c
    clear hD h0 h he
    generalize e.length = p at *
    go_enter Try.func72, Try.ntmps72
    go_wp2
    go_loopw [6] (fun i w' => ∃ (k r : Nat) (A : Option Addr), k + r = n ∧ i = .slice A r r ∧ (0 < r → A = some ⟨w.heap.size, k, none⟩ ∧ k % p = 0) ∧ OwnInts w' w.heap.size (againTo e n k) ∧ Below w.heap.size w w') (fun i _ => match i with | .slice _ r _ => r | _ => 0)
    case atStart => exact ⟨0, n, _, by omega, rfl, fun _ => ⟨rfl, by simp⟩, by rw [againTo_zero]; exact ownInts_new _ _, bAlloc (Below.refl _ _) _⟩
    case round =>
      obtain ⟨k, r, A, hkr, rfl, hA, hO, hb⟩ := hrel
      have HK : Hid (k + r = n) := hkr
      have HO : Hid (OwnInts wr w.heap.size (againTo e n k)) := hO
      have HB : Hid (Below w.heap.size w wr) := hb
      by_cases hlt : (0 : Int) < (r : Int)
      · obtain ⟨rfl, hk⟩ := hA (by omega)
        have hcp := HCP.out wr w.heap.size (againTo e n k) k r r hb hO (by rw [againTo_length]; omega)
        rw [HP.out k (min p r) hk (by omega) (by omega)] at hcp
        have HM : Hid (min p r ≤ r ∧ 0 < min p r ∧ (0 < r - min p r → (k + min p r) % p = 0)) := ⟨by omega, by omega, fun h => by
          have : min p r = p := by omega
          rw [this, Nat.add_mod_right, hk]⟩
        generalize min p r = m at *
        have hsl := fun W => run_from (a := some ⟨w.heap.size, k, none⟩) (n := r) (c := r) (M := m) HM.out.1 (Nat.le_refl _) W
        have HO' : Hid (OwnInts (wr.setRow w.heap.size (vals (againTo e n (k + m)))) w.heap.size (againTo e n (k + m))) := hO.setRow _
        have HB' : Hid (Below w.heap.size w (wr.setRow w.heap.size (vals (againTo e n (k + m))))) := below_setRow hb (Nat.le_refl _) _
        clear hA hO hb hkr hk
        generalize hW : wr.setRow w.heap.size (vals (againTo e n (k + m))) = W at *
        clear hW
        go_wp2
        go_roundw
        case rel => exact ⟨k + m, r - m, _, by have := HK.out; have := HM.out; omega, rfl, fun h => ⟨by rw [if_neg (by omega)]; first | done | simp [Addr.add], HM.out.2.2 h⟩, HO'.out, HB'.out⟩
        case measure => have := HM.out; show r - m < r; omega
      · obtain rfl : r = 0 := by omega
        obtain rfl : k = n := by omega
        clear hA hO hb hkr
        go_wp2
        go_ret
        exact ⟨rfl, by rw [ED.out]; exact HO.out, HB.out⟩
/-- belowNought. -/
theorem belowN_impl (x : Int) (w : World) : Calls Try.prog 71 #[.int .i64 x] w fun r w' => r = .returned (.bool (decide (x < 0))) ∧ w' = w := by
  by_cases h : x < 0
  all_goals
    go_enter Try.func71, Try.ntmps71
    go_wp2
    go_ret
    exact ⟨by simp [h], rfl⟩
set_option maxRecDepth 20000 in
set_option maxHeartbeats 2000000 in
/-- slices.IndexFunc over belowNought: where there is one below nought. -/
theorem indexBelow_impl {l : List Int} {a : Option Addr} {w : World} {c : Nat} (h : Ints w a l) (hl : l.length ≤ 1048576) :
    Calls Try.prog 92 #[.slice a l.length c, .func (.func 71) #[] #[]] w fun r w' => ∃ x : Int, r = .returned (.int .i64 x) ∧ (decide (0 ≤ x) = l.any fun x => decide (x < 0)) ∧ w' = w := by
  have HI : Hid (Ints w a l) := h
  have hE : ∀ (args : Array Value) (w : World), (callFunc 71 args).run Try.prog w = .ok (.enter 71 args) w := enters_of Try.func71 (by kernel_rfl) rfl
  clear h
  go_enter Try.func92, Try.ntmps92
  go_wp2
  go_loopw [8] (fun i w' => ∃ k : Nat, k ≤ l.length ∧ i = .int .i64 (k : Int) ∧ ((l.take k).any fun x => decide (x < 0)) = false ∧ w' = w) (fun i _ => l.length - (intOf i).toNat)
  case atStart => exact ⟨0, by omega, rfl, by simp, rfl⟩
  case round =>
    obtain ⟨k, hk, rfl, ht, rfl⟩ := hrel
    have HT : Hid (((l.take k).any fun x => decide (x < 0)) = false) := ht
    clear ht
    by_cases hlt : (k : Int) < (l.length : Int)
    · have L : k < l.length := by omega
      obtain ⟨b1, o1, rfl, _, c1⟩ := HI.out.at L
      have Q : Hid (((l.take (k + 1)).any fun x => decide (x < 0)) = (((l.take k).any fun x => decide (x < 0)) || decide (l.getD k 0 < 0))) := by show _ = _; rw [take_snoc L]; simp
      have QB : Hid (l.getD k 0 < 0 → (l.any fun x => decide (x < 0)) = true) := fun h => by
        rw [List.any_eq_true]
        exact ⟨l.getD k 0, by simp [L], by simpa using h⟩
      clear L
      generalize l.getD k 0 = x at c1 Q QB
      by_cases hx : x < 0
      · have QB' : Hid ((l.any fun x => decide (x < 0)) = true) := QB.out hx
        clear Q QB
        have hd : decide (x < 0) = true := by simp [hx]
        go_wp2_with (go_at_fn 71; refine (belowN_impl x _).mono ?_; rintro r w2 ⟨rfl, hw⟩; subst w2; rw [hd])
        go_ret
        exact ⟨_, rfl, by rw [QB'.out]; simp, rfl⟩
      · have HT' : Hid (((l.take (k + 1)).any fun x => decide (x < 0)) = false) := by show _ = _; rw [Q.out, HT.out]; simpa using hx
        clear Q QB
        have hd : decide (x < 0) = false := by simpa using hx
        go_wp2_with (go_at_fn 71; refine (belowN_impl x _).mono ?_; rintro r w2 ⟨rfl, hw⟩; subst w2; rw [hd])
        go_roundw
        case rel => exact ⟨k + 1, by omega, by go_num, HT'.out, by first | trivial | rfl⟩
        case measure => simp [intOf]; omega
    · have HV : Hid ((l.any fun x => decide (x < 0)) = false) := by
        have h := HT.out
        show _ = _
        rw [List.take_of_length_le (by omega)] at h
        exact h
      go_wp2
      go_ret
      exact ⟨_, rfl, by rw [HV.out]; rfl, rfl⟩
set_option maxRecDepth 20000 in
set_option maxHeartbeats 2000000 in
/-- slices.ContainsFunc over belowNought. -/
theorem containsBelow_impl {l : List Int} {a : Option Addr} {w : World} {c : Nat} (h : Ints w a l) (hl : l.length ≤ 1048576) :
    Calls Try.prog 49 #[.slice a l.length c, .func (.func 71) #[] #[]] w fun r w' => r = .returned (.bool (l.any fun x => decide (x < 0))) ∧ w' = w := by
  have HC : Hid (Calls Try.prog 92 #[.slice a l.length c, .func (.func 71) #[] #[]] w fun r w' => ∃ x : Int, r = .returned (.int .i64 x) ∧ (decide (0 ≤ x) = l.any fun x => decide (x < 0)) ∧ w' = w) := indexBelow_impl h hl
  clear h
  generalize (l.any fun x => decide (x < 0)) = q at *
  go_enter Try.func49, Try.ntmps49
  go_wp2_with fail
  refine HC.out.mono ?_
  rintro r w1 ⟨x, rfl, hx, rfl⟩
  clear HC
  by_cases h0 : (0 : Int) ≤ x
  · have E : Hid (q = true) := by show _ = _; rw [← hx]; simpa using h0
    clear hx
    go_wp2
    go_ret
    exact ⟨by rw [E.out]; simp [h0], rfl⟩
  · have E : Hid (q = false) := by show _ = _; rw [← hx]; simpa using h0
    clear hx
    go_wp2
    go_ret
    exact ⟨by rw [E.out]; simp [h0], rfl⟩
end Go.Proofs.Ythjjjnapcbkhjaa
