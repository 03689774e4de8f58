/-
  Several walks, one behind the other: RavelF, FoundF, GradeF, CutI, ImplAsc, ImplGrade, SortI.
-/
import Derived.Test.YthjjjnapcbkhjabMakeM
import Derived.Test.YthjjjnapcbkhjabEachM
import Derived.Test.YthjjjnapcbkhjabLookM
import Derived.Test.YthjjjnapcbkhjabLookL
import Derived.Test.YthjjjnapcbkhjabImplPlac2
import Derived.Test.YthjjjnapcbkhjabGradeR
import Derived.Test.YthjjjnapcbkhjabLaw3
import Derived.Test.YthjjjnapcbkhjabEachP
import Derived.Test.YthjjjnapcbkhjabAppend
import Derived.Test.YthjjjnapcbkhjabImplShape0
import Derived.Laws.CopyOwn
import Derived.Test.YthjjjnapcbkhjabMapI
import Derived.Test.YthjjjnapcbkhjabOutB
import Derived.Maps.RangeWalk
import Derived.Sort.OwnSortedInts
import Derived.Test.YthjjjnapcbkhjabOutQ2
import Derived.Test.YthjjjnapcbkhjabImplArr3
import Derived.Test.YthjjjnapcbkhjabLays
namespace Go.Proofs.Ythjjjnapcbkhjab
set_option linter.unusedVariables false
theorem vec_size {n : Nat} (h : n ≤ 300) : sizeV [(n : Int)] = (n : Int) := by
  simp [sizeV, dimOk, prodV]
  omega
theorem again_self (d : List Int) : againD d d.length = d := by
  unfold againD
  apply List.ext_getElem
  · simp
  · intro i h1 h2
    have hd : d ≠ [] := by intro e; subst e; simp at h2
    simp [hd, Nat.mod_eq_of_lt h2, h2]
theorem dims_ok {s : List Int} (h : 0 ≤ sizeV s) : s.all ok = true ∧ (s.any fun x => decide (x < 0)) = false ∧ s.length ≤ 3 := by
  obtain ⟨k1, k2, k3, k4⟩ := sizeV_ok h
  rw [List.all_eq_true] at k2
  refine ⟨?_, ?_, k1⟩
  · rw [List.all_eq_true]
    intro x hx
    have := k2 x hx
    simp [dimOk] at this
    simp [ok]
    omega
  · rw [List.any_eq_false]
    intro x hx
    have := k2 x hx
    simp [dimOk] at this
    simp
    omega
theorem vec_arr {l : List Int} (h : l.all ok = true) (hl : l.length ≤ 300) : arrOk [(l.length : Int)] l = true := by
  unfold arrOk
  rw [h, vec_size hl]
  simp
theorem ravel_back {s d : List Int} (ho : arrOk s d = true) : reshapeR [(s.length : Int)] s [(d.length : Int)] d = (0, s, d) := by
  have hz := arrOk_size ho
  obtain ⟨d1, d2, d3⟩ := dims_ok (arrOk_shape ho)
  have hd : d.all ok = true := by unfold arrOk at ho; rw [Bool.and_eq_true] at ho; exact ho.2
  unfold reshapeR reshapeC
  rw [if_pos ⟨vec_arr d1 (by omega), vec_arr hd (arrOk_len ho)⟩, if_neg (by simp), if_neg (by rw [d2]; simp), if_neg (by omega), mkR_good, hz, Int.toNat_natCast, again_self]
end Go.Proofs.Ythjjjnapcbkhjab
namespace Go.Proofs.Ythjjjnapcbkhjab
set_option linter.unusedVariables false
theorem placeIn_at {l : List Int} {x : Int} (h : placeIn l x < l.length) : l.getD (placeIn l x) 0 = x := by
  have q := List.findIdx_getElem (p := fun y => y == x) (xs := l) (w := h)
  rw [List.getD_eq_getElem?_getD, List.getElem?_eq_getElem h]
  exact eq_of_beq q
theorem placeIn_before {l : List Int} {x : Int} {j : Nat} (h : j < placeIn l x) : l.getD j 0 ≠ x := by
  have q := List.not_of_lt_findIdx (p := fun y => y == x) (xs := l) h
  have hl : j < l.length := Nat.lt_of_lt_of_le h (placeIn_le l x)
  rw [List.getD_eq_getElem?_getD, List.getElem?_eq_getElem hl]
  simpa using q
theorem placeIn_mem {l : List Int} {x : Int} {i : Nat} (hi : i < l.length) (he : l.getD i 0 = x) : placeIn l x ≤ i := by
  rcases Nat.lt_or_ge i (placeIn l x) with h | h
  · exact absurd he (placeIn_before h)
  · exact h
theorem within_zero {s d t e : List Int} (h : (withinR s d t e).1 = 0) : arrOk s d = true ∧ arrOk t e = true ∧ withinC s d t e = 0 := by
  unfold withinR at h
  rw [mkR_code] at h
  refine ⟨?_, ?_, h⟩ <;>
  · unfold withinC at h
    by_cases q : arrOk s d = true ∧ arrOk t e = true
    · first | exact q.1 | exact q.2
    · rw [if_neg q] at h; cases h
theorem find_zero {s d t e : List Int} (h : (findR s d t e).1 = 0) : arrOk s d = true ∧ arrOk t e = true ∧ s.length = 1 ∧ findC s d t e = 0 := by
  unfold findR at h
  rw [mkR_code] at h
  have h' := h
  unfold findC at h'
  by_cases q : arrOk s d = true ∧ arrOk t e = true
  · rw [if_pos q] at h'
    by_cases r : s.length ≠ 1
    · rw [if_pos r] at h'; cases h'
    · exact ⟨q.1, q.2, by omega, h⟩
  · rw [if_neg q] at h'; cases h'
theorem within_bad {s d t e : List Int} (h : (withinR s d t e).1 ≠ 0) : (withinR s d t e).2.2 = [] := by
  unfold withinR at h ⊢
  rw [mkR_code] at h
  rw [mkR_bad h]
theorem find_bad {s d t e : List Int} (h : (findR s d t e).1 ≠ 0) : (findR s d t e).2.2 = [] := by
  unfold findR at h ⊢
  rw [mkR_code] at h
  rw [mkR_bad h]
theorem within_good {s d t e : List Int} (h : (withinR s d t e).1 = 0) : (withinR s d t e).2.1 = s ∧ (withinR s d t e).2.2.length = d.length ∧ ∀ i, i < d.length → (withinR s d t e).2.2.getD i 0 = if placeIn e (d.getD i 0) < e.length then 1 else 0 := by
  obtain ⟨_, _, q⟩ := within_zero h
  unfold withinR
  rw [q, mkR_good]
  refine ⟨rfl, by simp, fun i hi => ?_⟩
  dsimp only
  rw [List.getD_eq_getElem?_getD, List.getElem?_map, List.getElem?_range hi]
  rfl
theorem find_good {s d t e : List Int} (h : (findR s d t e).1 = 0) : (findR s d t e).2.1 = t ∧ (findR s d t e).2.2.length = e.length ∧ ∀ i, i < e.length → (findR s d t e).2.2.getD i 0 = ((placeIn d (e.getD i 0) : Nat) : Int) := by
  obtain ⟨_, _, _, q⟩ := find_zero h
  unfold findR
  rw [q, mkR_good]
  refine ⟨rfl, by simp, fun i hi => ?_⟩
  dsimp only
  rw [List.getD_eq_getElem?_getD, List.getElem?_map, List.getElem?_range hi]
  rfl
theorem itself_good {s d : List Int} (h : (withinR s d s d).1 = 0) :
    ravelR s d = (0, [(d.length : Int)], d) ∧ (findR [(d.length : Int)] d [(d.length : Int)] d).1 = 0 ∧ (withinR s d s d).2.1 = s ∧ (withinR s d s d).2.2.length = d.length ∧ (findR [(d.length : Int)] d [(d.length : Int)] d).2.2.length = d.length ∧
    ∀ i, i < d.length → (withinR s d s d).2.2.getD i 0 = 1 ∧ ∃ k : Nat, k ≤ i ∧ (findR [(d.length : Int)] d [(d.length : Int)] d).2.2.getD i 0 = (k : Int) ∧ d.getD k 0 = d.getD i 0 := by
  obtain ⟨ho, _, _⟩ := within_zero h
  obtain ⟨g1, g2, g3⟩ := within_good h
  have hd : d.all ok = true := by unfold arrOk at ho; rw [Bool.and_eq_true] at ho; exact ho.2
  have hv := vec_arr hd (arrOk_len ho)
  have hf : (findR [(d.length : Int)] d [(d.length : Int)] d).1 = 0 := by
    unfold findR
    rw [mkR_code]
    unfold findC
    rw [if_pos ⟨hv, hv⟩, if_neg (by simp)]
  obtain ⟨f1, f2, f3⟩ := find_good hf
  refine ⟨?_, hf, g1, g2, f2, fun i hi => ?_⟩
  · unfold ravelR okC
    rw [if_pos ho]
    rfl
  · have hm := placeIn_mem hi rfl
    have hl : placeIn d (d.getD i 0) < d.length := by omega
    exact ⟨by rw [g3 i hi, if_pos hl], _, hm, f3 i hi, placeIn_at hl⟩
end Go.Proofs.Ythjjjnapcbkhjab
namespace Go.Proofs.Ythjjjnapcbkhjab
set_option linter.unusedVariables false
set_option linter.unusedSimpArgs false
theorem agM_len (d : List Int) (k : Nat) : (agM d k).length = d.length := by
  induction k with
  | zero => simp [agM]
  | succ k ih => unfold agM; rw [List.length_set, ih]
theorem agM_at (d : List Int) {p : Nat} (hp : p < d.length) : ∀ k, k ≤ d.length → (agM d k).getD p 0 = if d.length - 1 - p < k then (firstM d (d.length - 1 - p) (d.getD p 0)).getD (d.length : Int) else 0 := by
  intro k
  induction k with
  | zero => intro _; simp [agM, hp]
  | succ k ih =>
    intro hk
    unfold agM
    rw [List.getD_eq_getElem?_getD, List.getElem?_set]
    by_cases e : d.length - 1 - k = p
    · have e2 : d.length - 1 - p = k := by omega
      rw [if_pos e, if_pos (by rw [agM_len]; omega), e2, if_pos (by omega), e]
      rfl
    · rw [if_neg e, ← List.getD_eq_getElem?_getD, ih (by omega)]
      by_cases q : d.length - 1 - p < k
      · rw [if_pos q, if_pos (by omega)]
      · rw [if_neg q, if_neg (by omega)]
theorem agD_at (d : List Int) {p : Nat} (hp : p < d.length) : (agD d).getD p 0 = ((p + 1 + placeIn (d.drop (p + 1)) (d.getD p 0) : Nat) : Int) := by
  unfold agD
  rw [agM_at d hp _ (Nat.le_refl _), if_pos (by omega), firstM_at d _ _ (by omega), show d.length - (d.length - 1 - p) = p + 1 by omega]
  have hl := placeIn_le (d.drop (p + 1)) (d.getD p 0)
  rw [List.length_drop] at hl
  by_cases q : placeIn (d.drop (p + 1)) (d.getD p 0) < d.length - 1 - p
  · rw [if_pos q]; rfl
  · rw [if_neg q]
    show (d.length : Int) = _
    omega
def upPl (d : List Int) (x : Int) (p : Nat) : List Nat := (List.range p).filter (fun j => d.getD j 0 == x)
theorem upPl_all (d : List Int) (x : Int) : upPl d x d.length = placesAt d x := rfl
theorem upPl_snoc {d : List Int} {x : Int} {p : Nat} (h : d.getD p 0 = x) : upPl d x (p + 1) = upPl d x p ++ [p] := by
  unfold upPl
  rw [List.range_succ, List.filter_append]
  simp only [List.filter_cons, h, beq_self_eq_true, if_true, List.filter_nil]
theorem upPl_same {d : List Int} {x : Int} {p : Nat} : ∀ {q : Nat}, p ≤ q → (∀ j, p ≤ j → j < q → d.getD j 0 ≠ x) → upPl d x q = upPl d x p := by
  intro q
  induction q with
  | zero => intro h _; rw [show p = 0 by omega]
  | succ q ih =>
    intro h hno
    by_cases e : p = q + 1
    · rw [e]
    · have hq := hno q (by omega) (by omega)
      unfold upPl at ih ⊢
      rw [List.range_succ, List.filter_append, ih (by omega) (fun j h1 h2 => hno j h1 (by omega))]
      have hb : (d.getD q 0 == x) = false := by simpa using hq
      simp only [List.filter_cons, hb, List.filter_nil, List.append_nil]
      simp
theorem drop_getD (d : List Int) (a b : Nat) : (d.drop a).getD b 0 = d.getD (a + b) 0 := by
  rw [List.getD_eq_getElem?_getD, List.getElem?_drop, List.getD_eq_getElem?_getD]
/-- From one place of x to the next. -/
theorem chain_step {d : List Int} {x : Int} {p : Nat} (hp : p < d.length) (hx : d.getD p 0 = x) :
    ∃ q : Nat, (agD d).getD p 0 = (q : Int) ∧ p < q ∧ q ≤ d.length ∧ (q < d.length → d.getD q 0 = x) ∧ upPl d x q = upPl d x p ++ [p] := by
  have hl := placeIn_le (d.drop (p + 1)) x
  rw [List.length_drop] at hl
  refine ⟨p + 1 + placeIn (d.drop (p + 1)) x, by rw [agD_at d hp, hx], by omega, by omega, fun h => ?_, ?_⟩
  · have := placeIn_at (l := d.drop (p + 1)) (x := x) (by rw [List.length_drop]; omega)
    rw [drop_getD] at this
    exact this
  · rw [← upPl_snoc hx]
    refine upPl_same (by omega) (fun j h1 h2 => ?_)
    have := placeIn_before (l := d.drop (p + 1)) (x := x) (j := j - (p + 1)) (by omega)
    rw [drop_getD, show p + 1 + (j - (p + 1)) = j by omega] at this
    exact this
/-- The first place of x. -/
theorem chain_start (d : List Int) (x : Int) : placeIn d x ≤ d.length ∧ (placeIn d x < d.length → d.getD (placeIn d x) 0 = x) ∧ upPl d x (placeIn d x) = [] := by
  refine ⟨placeIn_le d x, fun h => placeIn_at h, ?_⟩
  rw [upPl_same (p := 0) (Nat.zero_le _) (fun j _ h => placeIn_before h)]
  rfl
theorem gradeBy_snoc (d xs : List Int) {k : Nat} (h : k < xs.length) : gradeBy d (xs.take (k + 1)) = gradeBy d (xs.take k) ++ placesAt d (xs.getD k 0) := by
  unfold gradeBy
  rw [List.take_succ_eq_append_getElem h, List.flatMap_append, List.getD_eq_getElem?_getD, List.getElem?_eq_getElem h]
  simp
theorem placeIn_mem2 {d : List Int} {x : Int} (h : x ∈ d) : placeIn d x < d.length := by
  obtain ⟨i, hi, rfl⟩ := List.getElem_of_mem h
  have := placeIn_mem (l := d) (x := d[i]) hi (by rw [List.getD_eq_getElem?_getD, List.getElem?_eq_getElem hi]; rfl)
  omega
theorem firstM_mem {d : List Int} {x : Int} : (firstM d d.length x).isSome = true ↔ x ∈ d := by
  rw [firstM_some]
  constructor
  · intro h
    have h' : placeIn d x < d.length := by simpa using h
    have := placeIn_at h'
    rw [← this]
    simp [h']
  · intro h
    simpa using placeIn_mem2 h
theorem filter_le {α : Type} (p : α → Bool) (l : List α) : (l.filter p).length ≤ l.length := List.length_filter_le _ _
end Go.Proofs.Ythjjjnapcbkhjab
namespace Go.Proofs.Ythjjjnapcbkhjab
open Go.RowKit
set_option linter.unusedVariables false
set_option linter.unusedSimpArgs false
theorem ints_tail {w : World} {b off : Nat} {l : List Int} (m : Nat) (h : Ints w (some ⟨b, off, none⟩) l) : Ints w (some ⟨b, off + m, none⟩) (l.drop m) := by
  rcases h with rfl | ⟨b', off', e, hb, hc⟩
  · exact .inl (by simp)
  · cases e
    refine .inr ⟨b, off + m, rfl, hb, fun k hk => ?_⟩
    have := hc (m + k) (by simp at hk; omega)
    rw [Nat.add_assoc, this]
    simp
/-- A list from one number on, and between two, whatever its memory. -/
theorem run_from {a : Option Addr} {n c M : Nat} (hM : M ≤ n) (hc : n ≤ c) (W : World) : (Instr.slice 22 (.slice a n c) (some (.int .i64 (M : Int))) none none).run Try.prog W = .ok (.slice (if c - M = 0 then a else a.map (·.add (M * 1))) (n - M) (c - M)) W := by
  have hs : (sizeOf 3).run Try.prog W = .ok 1 W := by kernel_rfl
  have he : Try.prog.elem 22 = 3 := by kernel_rfl
  rw [run_slice_l (P := Try.prog) (w := W) 22 a n c (by rw [he]; exact Try.underlying22) .i64 (M : Int) (by omega) (by omega), he, hs]
  have e : (c = M) = (c - M = 0) := by apply propext; omega
  simp [Result.andThen, sliced, e]
/-- What a copy makes of a list: m numbers of e from place k on. -/
def paste (l : List Int) (k : Nat) (e : List Int) (m : Nat) : List Int := l.take k ++ e.take m ++ l.drop (k + m)
theorem paste_zero (l : List Int) (k : Nat) (e : List Int) : paste l k e 0 = l := by simp [paste]
theorem paste_length {l e : List Int} {k m : Nat} (h : k + m ≤ l.length) (hm : m ≤ e.length) : (paste l k e m).length = l.length := by simp [paste]; omega
theorem paste_at {l e : List Int} {k m : Nat} (h : k + m ≤ l.length) (hm : m ≤ e.length) (i : Nat) : (paste l k e m).getD i 0 = if i < k then l.getD i 0 else if i < k + m then e.getD (i - k) 0 else l.getD i 0 := by
  have lk : (l.take k).length = k := by simp; omega
  have lm : (e.take m).length = m := by simp; omega
  unfold paste
  simp only [List.getD_eq_getElem?_getD, List.append_assoc]
  by_cases h1 : i < k
  · rw [if_pos h1, List.getElem?_append_left (by omega), List.getElem?_take_of_lt h1]
  · rw [if_neg h1, List.getElem?_append_right (by omega), lk]
    by_cases h2 : i < k + m
    · rw [if_pos h2, List.getElem?_append_left (by omega), List.getElem?_take_of_lt (by omega)]
    · rw [if_neg h2, List.getElem?_append_right (by omega), lm, List.getElem?_drop]
      congr 2
      omega
theorem copy_paste {w : World} {g : Nat} {l e : List Int} {a : Option Addr} {k n : Nat} (h : OwnInts w g l) (hs : Ints w a e) (hfit : k + min e.length n ≤ l.length) (ty : TypeId) (dC c : Nat) :
    (Builtin.copy_ #[22, 22] ty #[.slice (some ⟨g, k, none⟩) n dC, .slice a e.length c]).run Try.prog w = .ok (.int .i64 ((min e.length n : Nat) : Int)) (w.setRow g (vals (paste l k e (min e.length n)))) := by
  by_cases h0 : min e.length n = 0
  · rw [h0, paste_zero, setRow_self w g (vals l) _ _ h]
    exact run_copy_none (P := Try.prog) _ 22 22 ty 3 _ _ _ _ _ _ Try.underlying22 int_size h0
  · rcases hs with rfl | ⟨b, off, rfl, hb, hc⟩
    · simp at h0
    · have hc' : ∀ j, j < (e.take (min e.length n)).length → w.cell? ⟨b, off + j, none⟩ = some (.int .i64 ((e.take (min e.length n)).getD j 0)) := by
        intro j hj
        have hj' : j < min e.length n := by simp at hj; omega
        rw [hc j (by omega)]
        simp only [List.getD_eq_getElem?_getD, List.getElem?_take_of_lt hj']
      have q := run_copy_row Try.prog w 22 22 ty 3 g k n dC ⟨b, off, none⟩ e.length c (vals l) 3 ((e.take (min e.length n)).map (Value.int .i64)) Try.underlying22 int_size h (by simp) (ints_src hc') (by simp [vals]; omega) (by intro v hv; obtain ⟨x, _, rfl⟩ := List.mem_map.1 hv; rfl)
      rw [q, List.length_map, List.length_take, Nat.min_eq_left (Nat.min_le_left _ _)]
      simp [paste, vals, goInt]
theorem OwnInts.setRow {w : World} {g : Nat} {l : List Int} (h : OwnInts w g l) (l' : List Int) : OwnInts (w.setRow g (vals l')) g l' := setRow_heap w g _ _ _ _ h
end Go.Proofs.Ythjjjnapcbkhjab
namespace Go.Proofs.Ythjjjnapcbkhjab
open Go.RowKit Go.Maps Go.Sort
set_option linter.unusedVariables false
set_option linter.unusedSimpArgs false
/-- What slices.Sort does to a list of numbers. -/
def SortsInts : Prop := ∀ (blk cap : Nat) (zs : List Int) (w : World), Holds (Value.int .i64) w blk 0 zs.toArray → blk < w.heap.size → zs.length < 4611686018427387904 →
  Calls Try.prog 27 #[.slice (some ⟨blk, 0, none⟩) zs.length cap] w fun e w' => e = .returned (.tuple #[]) ∧ ∃ n os, w' = grow (putRow (Value.int .i64) (Sort.ahead w n) blk 0 (zs.mergeSort fun x y => decide (x ≤ y)).toArray) os
/-- The keys met so far. -/
def CollI (D0 : DataW Unit) (left : Lit → Bool) (ss : List Int) : Prop := ss.Nodup ∧ (∀ x ∈ ss, (Lit.int .i64 x).wf = true) ∧ ∀ x, x ∈ ss ↔ (Maps.has D0 (.int .i64 x) = true ∧ left (.int .i64 x) = false)
theorem CollI.start (D0 : DataW Unit) : CollI D0 (Maps.has D0) [] := ⟨List.nodup_nil, fun x h => (by cases h), fun x => by cases Maps.has D0 (.int .i64 x) <;> simp⟩
theorem CollI.step {D0 : DataW Unit} {left : Lit → Bool} {ss : List Int} (h : CollI D0 left ss) {x : Int} {y : DataW Unit} (hwx : (Lit.int .i64 x).wf = true) (hlk : left (.int .i64 x) = true) (hat : ∀ zd, D0.atKey (.int .i64 x) zd = y) : CollI D0 (fun z => left z && !z.sameKey (.int .i64 x)) (ss ++ [x]) := by
  obtain ⟨h1, h2, h3⟩ := h
  have hh : Maps.has D0 (.int .i64 x) = true := Maps.has_true_of_atKey hat
  have hn : x ∉ ss := fun q => by have := ((h3 x).1 q).2; rw [hlk] at this; cases this
  refine ⟨?_, ?_, ?_⟩
  · rw [List.nodup_append]
    exact ⟨h1, by simp, fun a ha b hb => by rw [List.mem_singleton] at hb; subst hb; exact fun e => hn (e ▸ ha)⟩
  · intro z hz
    rw [List.mem_append, List.mem_singleton] at hz
    rcases hz with hz | rfl
    · exact h2 z hz
    · exact hwx
  · intro z
    rw [List.mem_append, List.mem_singleton]
    by_cases e : z = x
    · subst e
      simp [hh, Lit.sameKey]
    · have hs : (Lit.int .i64 z).sameKey (.int .i64 x) = false := by simp [Lit.sameKey, e]
      dsimp only
      rw [h3 z, hs]
      simp [e]
theorem sort_strict {ss : List Int} (h : ss.Nodup) : (ss.mergeSort fun x y => decide (x ≤ y)).Pairwise (· < ·) := by
  have hp : (ss.mergeSort fun x y => decide (x ≤ y)).Pairwise (fun a b => (decide (a ≤ b)) = true) := List.pairwise_mergeSort (fun a b c h1 h2 => by simp at *; omega) (fun a b => by simp; omega) ss
  have hn : (ss.mergeSort fun x y => decide (x ≤ y)).Nodup := (List.mergeSort_perm ss _).nodup_iff.2 h
  refine List.Pairwise.imp₂ (fun a b h1 h2 => ?_) hp hn
  simp at h1
  omega
theorem sort_mem {ss : List Int} {x : Int} : x ∈ (ss.mergeSort fun x y => decide (x ≤ y)) ↔ x ∈ ss := (List.mergeSort_perm ss _).mem_iff
theorem make1_ints (n : Nat) (hn : n ≤ 1073741824) (w : World) :
    ∃ w', (Instr.makeSlice 22 (.int .i64 0) (.int .i64 (n : Int))).run Try.prog w = .ok (.slice (some ⟨w.heap.size, 0, none⟩) 0 n) w' ∧ NewInts w.heap.size w' (.slice (some ⟨w.heap.size, 0, none⟩) 0 n) [] ∧ Below w.heap.size w w' ∧ w'.heap.size = w.heap.size + 1 := by
  have hi := info_int
  cases hq : Try.prog.info? 3 with
  | none => rw [hq] at hi; cases hi
  | some i =>
    rw [hq] at hi
    simp at hi
    obtain ⟨z1, z2, z3⟩ := hi
    have := run_make (P := Try.prog) w 22 3 i (.int .i64 0) Try.underlying22 hq z1 .i64 .i64 0 n (by omega) (by omega) (by rw [z3]; omega) (by omega)
    rw [z2, Int.toNat_natCast, Nat.mul_one] at this
    refine ⟨_, this, ⟨rfl, .inr ⟨w.heap.size, n, _, rfl, Nat.le_refl _, heap_alloc_new w _, Nat.zero_le _, by unfold maxLen; omega, ?_, by simp⟩⟩, bAlloc (Below.refl _ _) _, by simp⟩
    rw [made_zero]
    simp [vals]
set_option maxRecDepth 100000 in
set_option maxHeartbeats 4000000 in
/-- ascending. -/
theorem asc_impl (hS : SortsInts) {w : World} {b n : Nat} {M : Int → Option Int} (h : MapAt w b n M) (hn : n ≤ 1000) :
    Calls Try.prog 17 #[.map (some b)] w fun r w' => ∃ (v : Value) (ss : List Int), r = .returned v ∧ NewInts w.heap.size w' v ss ∧ ss.Pairwise (· < ·) ∧ (∀ x ∈ ss, (Lit.int .i64 x).wf = true) ∧ (∀ x, (Lit.int .i64 x).wf = true → (x ∈ ss ↔ (M x).isSome = true)) ∧ ss.length ≤ n ∧ Below w.heap.size w w' := by
  have hbl := h.lt
  obtain ⟨D0, hown, hD⟩ := h
  have HDD : Hid (∀ x : Int, (Lit.int .i64 x).wf = true → Maps.has D0 (.int .i64 x) = (M x).isSome) := fun x hx => (hD x hx).1
  have hsize : Maps.size D0 ≤ 1000 := Nat.le_trans hown.size_le hn
  obtain ⟨w1, r1, n1, b1, s1⟩ := make1_ints (Maps.size D0) (by omega) w
  have hown1 : w1.ownsMap Try.prog 3 (plainElem Try.prog 3) b n D0 := hown.kept (row := none) ⟨b1.os, b1.tape, b1.output, b1.size, fun k hk _ => b1.block k hk⟩ (by simp)
  have HN1 : Hid (NewInts w.heap.size w1 (.slice (some ⟨w.heap.size, 0, none⟩) 0 (Maps.size D0)) []) := n1
  have HB1 : Hid (Below w.heap.size w w1) := b1
  have HS1 : Hid (w1.heap.size = w.heap.size + 1) := s1
  have HSORT : Hid SortsInts := hS
  have HSL : Hid (Maps.size D0 ≤ n) := hown.size_le
  clear hD n1 b1 s1 hS
  go_enter Try.func17, Try.ntmps17
  go_wp2_with (first
    | (at_len; refine wpList_len_own _ rfl _ 37 rfl 3 3 Try.underlying37 _ b n D0 rfl hown ?_)
    | (at_range; refine wpList_range_own _ rfl _ 37 rfl 3 3 keyed_int Try.underlying37 _ b n D0 rfl hown1 ?_; intro w2 hrg0 hg0 hs0)
    | go_in)
  go_frame
  have HBW : Hid (b < w.heap.size) := hbl
  clear r1 hown1 hown
  go_loopw [3] (fun v wr => ∃ (left : Lit → Bool) (cnt : Nat) (ks : List Int), wr.ranges Try.prog 3 (plainElem Try.prog 3) b w1.heap.size n D0 left cnt ∧ NewInts w.heap.size wr v ks ∧ Hid (ks = [] → v = .slice (some ⟨w.heap.size, 0, none⟩) 0 (Maps.size D0)) ∧ Hid (CollI D0 left ks) ∧ ks.length + cnt ≤ Maps.size D0 ∧ Hid (Below w.heap.size w wr)) (fun _ wr => wr.rangeLeft b w1.heap.size)
  case atStart =>
    have bb : Below w1.heap.size w1 w2 := ⟨hg0.os, hg0.tape, hg0.output, hg0.size, fun k hk => hg0.block k hk (by simp)⟩
    exact ⟨_, _, [], hrg0, HN1.out.keep bb, (fun _ => rfl), CollI.start _, by simp, bTrans HB1.out bb⟩
  case round =>
    obtain ⟨left, cnt, ks, hrg, hN, HE, HC, hlen, HB⟩ := hrel
    go_wp2_with (first
      | (at_next; refine wpList_next_ranges_ii _ rfl _ rfl 3 3 .i64 .i64 keyed_int Try.underlying3 Try.underlying3 b w1.heap.size n _ _ _ rfl hrg ?_ ?_)
      | go_in)
    · intro hc0 hl0
      obtain ⟨g, cap, cur, hv, hbase, hb, h1, h2, h3, h4⟩ : ∃ g cap cur, u3 = .slice (some ⟨g, 0, none⟩) ks.length cap ∧ w.heap.size ≤ g ∧ wr.heap[g]? = some (.cells cur 3 (0, 0)) ∧ ks.length ≤ cap ∧ cap ≤ maxLen ∧ cur.size = cap * 1 ∧ cur.toList.take (ks.length * 1) = ks.map (Value.int .i64) := by
        rcases hN.2 with ⟨hnil, hk0⟩ | ⟨g, cap, cur, hv, hbase, hb, h1, h2, h3, h4⟩
        · have hk : ks = [] := List.eq_nil_of_length_eq_zero hk0
          have := HE.out hk
          rw [hnil] at this
          cases this
        · exact ⟨g, cap, cur, hv, hbase, hb, h1, h2, h3, h4⟩
      subst hv
      have hH : Holds (Value.int .i64) wr g 0 ks.toArray := holds_of_blockI hb (by simpa using h4)
      have hgl : g < wr.heap.size := (Array.getElem?_eq_some_iff.1 hb).1
      have hsort := HSORT.out g cap ks wr hH hgl (by omega)
      have hl2 : (ks.mergeSort fun x y => decide (x ≤ y)).length = ks.length := List.length_mergeSort ks
      have QP : Hid (((ks.mergeSort fun x y => decide (x ≤ y)).Pairwise (· < ·)) ∧ (∀ x ∈ (ks.mergeSort fun x y => decide (x ≤ y)), (Lit.int .i64 x).wf = true) ∧ (∀ x, (Lit.int .i64 x).wf = true → (x ∈ (ks.mergeSort fun x y => decide (x ≤ y)) ↔ (M x).isSome = true))) := by
        obtain ⟨c1, c2, c3⟩ := HC.out
        refine ⟨sort_strict c1, fun x hx => c2 x (sort_mem.1 hx), fun x hx => ?_⟩
        rw [sort_mem, c3 x, ← HDD.out x hx]
        simp [hl0]
      have QH : Hid (Below w.heap.size w wr) := HB.out
      have QL : Hid ((ks.mergeSort fun x y => decide (x ≤ y)).length ≤ n) := by have := HSL.out; show _ ≤ _; rw [hl2]; omega
      clear hrg hH hlen hc0 hl0 HE HC HB hN h4
      go_wp2_with fail
      refine hsort.mono ?_
      rintro e w' ⟨rfl, nn, os, rfl⟩
      have hg := grownBy_sortedI (w := wr) (g := g) (n := nn) (os := os) (ks.mergeSort fun x y => decide (x ≤ y)).toArray
      have hro := ownsRow_sortedI (n := nn) (os := os) (ts := ks.mergeSort fun x y => decide (x ≤ y)) hl2 hbase hb h1 h2 h3
      have NR : Hid (NewInts w.heap.size (grow (putRow (Value.int .i64) (Sort.ahead wr nn) g 0 (ks.mergeSort fun x y => decide (x ≤ y)).toArray) os) (.slice (some ⟨g, 0, none⟩) ks.length cap) (ks.mergeSort fun x y => decide (x ≤ y))) := by
        show World.ownsRow _ _ _ _ _ _ _
        rw [hl2]
        exact hro
      have BR : Hid (Below w.heap.size w (grow (putRow (Value.int .i64) (Sort.ahead wr nn) g 0 (ks.mergeSort fun x y => decide (x ≤ y)).toArray) os)) := by
        have hs := QH.out.size
        exact ⟨hg.os.trans QH.out.os, hg.tape.trans QH.out.tape, hg.output.trans QH.out.output, Nat.le_trans hs hg.size, fun k hk => (hg.block k (by omega) (by simp; omega)).trans (QH.out.block k hk)⟩
      clear hg hro hsort
      generalize (ks.mergeSort fun x y => decide (x ≤ y)) = ts at *
      generalize grow (putRow (Value.int .i64) (Sort.ahead wr nn) g 0 ts.toArray) os = wz at *
      go_wp2
      go_ret
      exact ⟨_, ts, rfl, NR.out, QP.out.1, QP.out.2.1, QP.out.2.2, QL.out, BR.out⟩
    · intro x c w3 cnt1 hwx hwc hlx hat hrg1 hlt hg1 hs1 hen
      have hm0 : wr.rangeLeft b w1.heap.size = cnt := hrg.left_eq
      have hN3 : NewInts w.heap.size w3 u3 ks := hN.kept hg1 (by
        cases hob : u3.ownBlock with
        | none => exact Or.inl rfl
        | some g => exact Or.inr (fun e => row_ne_iter hN hrg (by rw [hob]; exact e.symm)))
      have hri : some w1.heap.size ≠ u3.ownBlock := row_ne_iter hN3 hrg1
      have hB3 : Below w.heap.size w w3 := by
        have hs := HB.out.size
        have hs1' := HS1.out
        exact ⟨hg1.os.trans HB.out.os, hg1.tape.trans HB.out.tape, hg1.output.trans HB.out.output, Nat.le_trans hs hg1.size, fun k hk => (hg1.block k (by omega) (by simp; omega)).trans (HB.out.block k hk)⟩
      have hks : ks.length < 1048576 := by omega
      obtain ⟨a', c', w4, hr, hn4, hb4, hk4, _⟩ := growX (hN3.keep (bAlloc (Below.refl _ _) (.cells #[.int .i64 x] 3))) (ints_new w3 [x] 3) (by have := hB3.size; simp; omega) (by simp; omega) 1
      have hg4 : (w3.alloc (.cells #[.int .i64 x] 3)).grownBy w4 u3.ownBlock := ⟨hb4.os, hb4.tape, hb4.output, hb4.size, fun k hk hne => hk4 k hk (fun e => hne e.symm)⟩
      have hrow := hN3.row
      have hrg4 := (hrg1.alloc (.cells #[.int .i64 x] 3)).kept hg4 (fun e => by have := hrow b e.symm; have := HBW.out; omega) hri
      have HRG4 : Hid (w4.ranges Try.prog 3 (plainElem Try.prog 3) b w1.heap.size n D0 (fun z => left z && !z.sameKey (.int .i64 x)) cnt1) := hrg4
      have RUN : Hid ((Builtin.append_ #[22, 22] 22 #[u3, .slice (some ⟨w3.heap.size, 0, none⟩) 1 1]).run Try.prog (w3.alloc (.cells #[.int .i64 x] 3)) = .ok (.slice a' (ks ++ [x]).length c') w4) := hr
      have HN4 : Hid (NewInts w.heap.size w4 (.slice a' (ks ++ [x]).length c') (ks ++ [x])) := hn4
      have HB4 : Hid (Below w.heap.size w w4) := (bAlloc hB3 (.cells #[.int .i64 x] 3)).trans hb4
      have HC4 : Hid (CollI D0 (fun z => left z && !z.sameKey (.int .i64 x)) (ks ++ [x])) := HC.out.step hwx hlx hat
      have HL4 : Hid (ks.length + 1 + cnt1 ≤ Maps.size D0) := by show _ ≤ _; omega
      have HM0 : Hid (wr.rangeLeft b w1.heap.size = cnt ∧ cnt1 < cnt) := ⟨hm0, hlt⟩
      clear hrg hN HE HC hlen HB hrg1 hg1 hs1 hN3 hri hB3 hr hn4 hb4 hk4 hg4 hrow hrg4 hm0 hlt
      generalize (ks ++ [x]).length = LL at *
      go_wp2_with (at_builtin; refine wpList_append_ty rfl _ _ 22 22 rfl _ _ _ rfl rfl RUN.out ?_)
      go_roundw
      case rel => exact ⟨_, cnt1, ks ++ [x], HRG4.out, HN4.out, fun e => by simp at e, HC4.out, by have := HL4.out; simp; omega, HB4.out⟩
      case measure => rw [HRG4.out.left_eq, HM0.out.1]; exact HM0.out.2
end Go.Proofs.Ythjjjnapcbkhjab
namespace Go.Proofs.Ythjjjnapcbkhjab
open Go.RowKit
set_option linter.unusedVariables false
set_option linter.unusedSimpArgs false
theorem MapAt.look1 {w : World} {b n : Nat} {M : Int → Option Int} (h : MapAt w b n M) {x : Int} (hx : (Lit.int .i64 x).wf = true) :
    (Instr.lookup 37 (.map (some b)) (.int .i64 x) false).run Try.prog w = .ok (.int .i64 ((M x).getD 0)) w := by
  obtain ⟨D, ho, hD⟩ := h
  obtain ⟨h1, h2⟩ := hD x hx
  obtain ⟨v, ps, hrun, hv⟩ := ho.lookup keyed_int Try.underlying37 (zero_i64 w) (plainElem_int Try.underlying3 (by decide)) (Maps.keyOf_int_mk Try.underlying3 hx)
  obtain ⟨c, rfl, hc, hwc⟩ := plainElem_int_inv Try.underlying3 hv
  have e := congrArg Prod.fst hc
  dsimp only at e
  rewrite [h2 0] at e
  have e2 : (M x).getD 0 = c := (Lit.int.inj (DataW.lit.inj e)).2
  rw [hrun, ← e2]
theorem wf_ok {x : Int} (h : ok x = true) : (Lit.int .i64 x).wf = true := wf_i64 (ok_bd h).1 (ok_bd h).2
theorem places2_impl {s d : List Int} {w : World} {b : Option Addr} {f : Nat} (h : Ints w b d) (ho : arrOk s d = true) (hw : 0 < w.heap.size) :
    Calls Try.prog 16 #[.slice b d.length f] w fun r w' => ∃ bm g, r = .returned (.tuple #[.map (some bm), .slice (some ⟨g, 0, none⟩) d.length d.length]) ∧ MapAt w' bm d.length (firstM d d.length) ∧ OwnInts w' g (agD d) ∧ w.heap.size ≤ bm ∧ w.heap.size ≤ g ∧ bm ≠ g ∧ Below w.heap.size w w' := by
  have hc := arrOk_len ho
  have hall : ∀ j, j < d.length → (Lit.int .i64 (d.getD j 0)).wf = true := fun j hj => by
    unfold arrOk at ho
    rw [Bool.and_eq_true, List.all_eq_true] at ho
    exact wf_ok (ho.2 _ (by simp [hj]))
  rcases h with rfl | ⟨b1, o1, rfl, hb1, hcell⟩
  · exact places2_walk (b1 := 0) (o1 := 0) (fun j hj => by simp at hj) (fun q => by simp at q) hw hc (fun j hj => by simp at hj)
  · exact places2_walk hcell (fun _ => rfl) hb1 hc hall
theorem gradeBy_len (d xs : List Int) : (gradeBy d xs).length ≤ xs.length * d.length := by
  induction xs with
  | nil => simp [gradeBy]
  | cons x xs ih =>
    show (placesAt d x ++ gradeBy d xs).length ≤ _
    have h2 : (placesAt d x).length ≤ d.length := by have := List.length_filter_le (fun j => d.getD j 0 == x) (List.range d.length); rw [List.length_range] at this; exact this
    rw [List.length_append, List.length_cons, Nat.add_mul, Nat.one_mul]
    omega
set_option maxRecDepth 100000 in
set_option maxHeartbeats 8000000 in
/-- Grade. -/
theorem grade_impl (hS : SortsInts) {s d : List Int} {w : World} {v : Value} (h : ArrI w v s d) (hs : s.length ≤ 1048576) (hd : d.length ≤ 1048576) :
    Calls Try.prog 7 #[v] w fun r w' => ∃ v', r = .returned (.tuple #[v', .int .i64 (gradeR s d).1]) ∧ Arr w.heap.size w'.heap.size w' v' (gradeR s d).2.1 (gradeR s d).2.2 ∧ Below w.heap.size w w' := by
  have H : Hid (ArrI w v s d) := h
  have HSORT : Hid SortsInts := hS
  obtain ⟨a, c, b, f, rfl, h1, h2, _, _⟩ := h
  have H2 : Hid (Ints w b d) := h2
  have HD : Hid (d.length ≤ 1048576) := hd
  clear h1 h2 hS
  have q1 := heap_alloc2_old w (.cells #[.slice a s.length c, .slice b d.length f] 26) (.cells #[.slice none 0 0, .slice none 0 0] 26)
  have q2 := heap_alloc2_new w (.cells #[.slice a s.length c, .slice b d.length f] 26) (.cells #[.slice none 0 0, .slice none 0 0] 26)
  have QX : Hid (Box ((w.alloc (.cells #[.slice a s.length c, .slice b d.length f] 26)).alloc (.cells #[.slice none 0 0, .slice none 0 0] 26)) w.heap.size (.slice a s.length c) (.slice b d.length f) 26) := q1
  have QR : Hid (Box ((w.alloc (.cells #[.slice a s.length c, .slice b d.length f] 26)).alloc (.cells #[.slice none 0 0, .slice none 0 0] 26)) (w.heap.size + 1) (.slice none 0 0) (.slice none 0 0) 26) := q2
  clear q1 q2
  by_cases ho : arrOk s d = true
  · have HO : Hid (arrOk s d = true) := ho
    by_cases hl : s.length = 1
    · have ER : gradeR s d = (0, [(d.length : Int)], natI (gradeTo d d.length)) := by unfold gradeR gradeC; rw [if_pos ho, if_pos hl]; rfl
      have hlb : ((s.length : Int) != 1) = false := by rw [hl]; rfl
      have L3 : Hid (d.length ≤ 300) := arrOk_len ho
      rw [ER]
      clear ER ho hl
      go_enter Try.func7, Try.ntmps7
      go_wp2_with fail
      refine (arrOk_impl (H.out.keep (bAlloc (bAlloc (Below.refl _ _) _) _)) HD.out).mono ?_
      rintro r w1 ⟨rfl, hb⟩
      have HB1 : Hid (Below w.heap.size w w1) := bTrans (bAlloc (bAlloc (Below.refl _ _) _) _) hb
      have X1 : Hid (Box w1 w.heap.size (.slice a s.length c) (.slice b d.length f) 26) := QX.out.keep hb
      have R1 : Hid (Box w1 (w.heap.size + 1) (.slice none 0 0) (.slice none 0 0) 26) := QR.out.keep hb
      clear hb QX QR
      rw [HO.out]
      have x0 := X1.out.c0
      have x1 := X1.out.c1
      go_wp2_with fail
      refine (places2_impl (H2.out.keep HB1.out) HO.out (by have := X1.out.lt; omega)).mono ?_
      rintro r w2 ⟨bm, g, rfl, hm, hag, hbm, hg, hne, hb⟩
      have LT1 : Hid (w.heap.size + 1 < w1.heap.size) := R1.out.lt
      have X2 : Hid (Box w2 w.heap.size (.slice a s.length c) (.slice b d.length f) 26) := X1.out.keep hb
      have R2 : Hid (Box w2 (w.heap.size + 1) (.slice none 0 0) (.slice none 0 0) 26) := R1.out.keep hb
      have HB2 : Hid (Below w.heap.size w w2) := bTrans HB1.out hb
      obtain ⟨w3, r3, n3, b3, s3⟩ := make1_ints d.length (by have := L3.out; omega) w2
      have M3 : Hid (MapAt w3 bm d.length (firstM d d.length)) := hm.keep b3
      have GL : Hid (g < w2.heap.size) := (Array.getElem?_eq_some_iff.1 hag).1
      have A3 : Hid (OwnInts w3 g (agD d)) := by show w3.heap[g]? = _; rw [b3.block g GL.out]; exact hag
      have ML : Hid (bm < w2.heap.size) := hm.lt
      have N3 : Hid (NewInts w2.heap.size w3 (.slice (some ⟨w2.heap.size, 0, none⟩) 0 d.length) []) := n3
      have B3 : Hid (Below w2.heap.size w2 w3) := b3
      have S3 : Hid (w3.heap.size = w2.heap.size + 1) := s3
      have X3 : Hid (Box w3 w.heap.size (.slice a s.length c) (.slice b d.length f) 26) := X2.out.keep b3
      have R3 : Hid (Box w3 (w.heap.size + 1) (.slice none 0 0) (.slice none 0 0) 26) := R2.out.keep b3
      have y1 := X2.out.c1
      clear hm hag hbm hg hne hb n3 b3 s3 x0 x1
      go_wp2_with fail
      clear r3 y1
      refine (asc_impl HSORT.out M3.out (by have := L3.out; omega)).mono ?_
      rintro r w4 ⟨vs, ss, rfl, hns, hps, hws, hms, hsl, hb⟩
      have XS : Hid (gradeBy d ss = gradeTo d d.length) := grade_same hps (fun x => by
        constructor
        · intro hx
          exact firstM_mem.1 ((hms x (hws x hx)).1 hx)
        · intro hx
          refine (hms x ?_).2 (firstM_mem.2 hx)
          obtain ⟨i, hi, rfl⟩ := List.getElem_of_mem hx
          have ho := HO.out
          unfold arrOk at ho
          rw [Bool.and_eq_true, List.all_eq_true] at ho
          exact wf_ok (ho.2 _ (List.getElem_mem hi)))
      have WS : Hid (∀ k, k < ss.length → (Lit.int .i64 (ss.getD k 0)).wf = true ∧ ss.getD k 0 ∈ d) := fun k hk => by
        have hx : ss.getD k 0 ∈ ss := by simp [hk]
        exact ⟨hws _ hx, firstM_mem.1 ((hms _ (hws _ hx)).1 hx)⟩
      have LS : Hid (ss.length ≤ 300) := by have := L3.out; show _ ≤ _; omega
      obtain ⟨va, vc, rfl, _⟩ := hns.ints
      have P4 : Hid (Piece w3.heap.size w4.heap.size w4 (.slice va ss.length vc) ss) := hns.piece
      have B4 : Hid (Below w3.heap.size w3 w4) := hb
      have X4 : Hid (Box w4 w.heap.size (.slice a s.length c) (.slice b d.length f) 26) := X3.out.keep hb
      have R4 : Hid (Box w4 (w.heap.size + 1) (.slice none 0 0) (.slice none 0 0) 26) := R3.out.keep hb
      have M4 : Hid (MapAt w4 bm d.length (firstM d d.length)) := M3.out.keep hb
      have A4 : Hid (OwnInts w4 g (agD d)) := by show w4.heap[g]? = _; rw [hb.block g (by have := GL.out; have := S3.out; omega)]; exact A3.out
      have O4 : Hid (OutQ w2.heap.size w4 w4 (.slice (some ⟨w2.heap.size, 0, none⟩) 0 d.length) []) := ⟨N3.out.keep hb, .inl rfl, Win.refl _ _ _, by have := hb.size; have := S3.out; omega⟩
      have D4 : Hid (Ints w4 b d) := H2.out.keep (bTrans (bTrans HB2.out B3.out) hb)
      have HB4 : Hid (Below w.heap.size w w2) := HB2.out
      have BB4 : Hid (Below w2.heap.size w2 w4) := bTrans B3.out hb
      clear hns hps hws hms hsl hb X3 R3 M3 A3 N3 X1 R1
      go_wp2
      go_loopw [6, 34] (fun q i w' => ∃ k : Nat, k ≤ ss.length ∧ i = .int .i64 (k : Int) ∧ OutQ w2.heap.size w4 w' q (natI (gradeBy d (ss.take k)))) (fun _ i _ => ss.length - (intOf i).toNat)
      case atStart => exact ⟨0, by omega, rfl, O4.out⟩
      case round =>
        obtain ⟨k, hk, rfl, hO⟩ := hrel
        have HQ : Hid (OutQ w2.heap.size w4 wr u6 (natI (gradeBy d (ss.take k)))) := hO
        have hkb : k ≤ 300 := by have := LS.out; omega
        by_cases hlt : (k : Int) < (ss.length : Int)
        · have L : k < ss.length := by omega
          obtain ⟨x, hx⟩ : ∃ x, x = ss.getD k 0 := ⟨_, rfl⟩
          obtain ⟨hwx, hxd⟩ := WS.out k L
          rw [← hx] at hwx hxd
          obtain ⟨_, _, ev, ii⟩ := (P4.out.win hO.win (.inr (by have := S3.out; omega))).ints
          cases ev
          obtain ⟨p1, o1, rfl, hp1, t1⟩ := ii.at L
          rw [← hx] at t1
          have hlook := (M4.out.kept hO.grown (by have := ML.out; simp; omega)).look1 hwx
          have hpl : (firstM d d.length x).getD 0 = ((placeIn d x : Nat) : Int) := by rw [firstM_all, if_pos (placeIn_mem2 hxd)]; rfl
          rw [hpl] at hlook
          obtain ⟨c1, c2, c3⟩ := chain_start d x
          have GS : Hid (gradeBy d (ss.take (k + 1)) = gradeBy d (ss.take k) ++ placesAt d x) := by show _ = _; rw [gradeBy_snoc d ss L, hx]
          have C1 : Hid (placeIn d x ≤ d.length ∧ (placeIn d x < d.length → d.getD (placeIn d x) 0 = x) ∧ upPl d x (placeIn d x) = []) := ⟨c1, c2, c3⟩
          clear hO hx ii hpl c1 c2 c3
          have HTL : Hid ((gradeBy d (ss.take k)).length ≤ 90000) := by
            have h1 := gradeBy_len d (ss.take k)
            have h2 : (ss.take k).length * d.length ≤ 300 * 300 := Nat.mul_le_mul (by rw [List.length_take]; omega) L3.out
            show _ ≤ _
            omega
          generalize hTK : gradeBy d (ss.take k) = TK at *
          clear hTK
          generalize hP0 : placeIn d x = p0 at *
          clear hP0
          go_wp2
          clear hlook t1
          go_loopw [6, 9] (fun q j w' => ∃ p : Nat, p ≤ d.length ∧ j = .int .i64 (p : Int) ∧ (p < d.length → d.getD p 0 = x) ∧ OutQ w2.heap.size w4 w' q (natI (TK ++ upPl d x p))) (fun _ j _ => d.length - (intOf j).toNat)
          case atStart => exact ⟨p0, C1.out.1, rfl, C1.out.2.1, by rw [C1.out.2.2, List.append_nil]; exact HQ.out⟩
          case round =>
            obtain ⟨p, hp, rfl, hpx, hO⟩ := hrel
            have HQ2 : Hid (OutQ w2.heap.size w4 wr u6 (natI (TK ++ upPl d x p))) := hO
            have z1 := (X4.out.win hO.win (.inl (by have := LT1.out; have := HB2.out.size; have := R2.out.lt; omega))).c1
            have hpb : p ≤ 300 := by have := L3.out; omega
            by_cases hlp : (p : Int) < (d.length : Int)
            · have Lp : p < d.length := by omega
              obtain ⟨q, cq1, cq2, cq3, cq4, cq5⟩ := chain_step Lp (hpx Lp)
              have C5 : Hid (upPl d x q = upPl d x p ++ [p] ∧ p < q ∧ q ≤ d.length ∧ (q < d.length → d.getD q 0 = x)) := ⟨cq5, cq2, cq3, cq4⟩
              have LN : Hid ((natI (TK ++ upPl d x p)).length ≤ 1000000) := by
                have h1 := HTL.out
                have h2 : (upPl d x p).length ≤ p := by have := List.length_filter_le (fun j => d.getD j 0 == x) (List.range p); rw [List.length_range] at this; exact this
                show _ ≤ _
                rw [natI_len, List.length_append]
                omega
              obtain ⟨a', c', w5, hr1, hO2⟩ := hO.grow1 (p : Int) (by have := LN.out; omega)
              have RUN : Hid ((Builtin.append_ #[22, 22] 22 #[u6, .slice (some ⟨wr.heap.size, 0, none⟩) 1 1]).run Try.prog (wr.alloc (.cells #[.int .i64 (p : Int)] 3)) = .ok (.slice a' ((natI (TK ++ upPl d x p)).length + 1) c') w5) := hr1
              have HO2 : Hid (OutQ w2.heap.size w4 w5 (.slice a' ((natI (TK ++ upPl d x p)).length + 1) c') (natI (TK ++ upPl d x p) ++ [(p : Int)])) := hO2
              have hag : w5.cell? ⟨g, p, none⟩ = some (.int .i64 (q : Int)) := by
                have e : w5.heap[g]? = some (.cells (vals (agD d)) 3 (0, 0)) := by rw [hO2.win.block g (by have := GL.out; have := BB4.out.size; omega) (.inl GL.out)]; exact A4.out
                have := cell_at e (vals_at (l := agD d) (k := p) (by unfold agD; rw [agM_len]; exact Lp))
                rw [cq1] at this
                exact this
              clear hO hr1 hO2 cq1 cq2 cq3 cq4 cq5 hpx
              generalize (natI (TK ++ upPl d x p)).length + 1 = LL at *
              go_wp2_with (at_builtin; refine wpList_append_ty rfl _ _ 22 22 rfl _ _ _ rfl rfl RUN.out ?_)
              go_roundw
              case rel => exact ⟨q, C5.out.2.2.1, rfl, C5.out.2.2.2, by rw [C5.out.1, ← List.append_assoc, natI_app]; exact HO2.out⟩
              case measure => have := C5.out; simp [intOf]; omega
            · obtain rfl : p = d.length := by omega
              clear hO hpx
              go_wp2
              go_roundw
              case rel => exact ⟨k + 1, by omega, by go_num, by rw [GS.out, ← upPl_all]; exact HQ2.out⟩
              case measure => simp [intOf]; omega
        · obtain rfl : k = ss.length := by omega
          have GL9 : (natI (gradeBy d (ss.take ss.length))).length = d.length := by rw [List.take_length, XS.out, natI_len, gradeTo_len]
          obtain ⟨ga, gc, ev, _⟩ := hO.row.ints
          rw [GL9] at ev
          subst ev
          have NG : Hid (NewInts w2.heap.size wr (.slice ga d.length gc) (natI (gradeTo d d.length))) := by
            have q := hO.row
            rw [List.take_length, XS.out] at q
            exact q
          have R : Hid (Box wr (w.heap.size + 1) (.slice none 0 0) (.slice none 0 0) 26) := R4.out.win hO.win (.inl R2.out.lt)
          have BW : Hid (Below w.heap.size w wr) := bTrans HB4.out (BB4.out.trans (hO.win.below (Nat.le_refl _) BB4.out.size))
          have SW : Hid (w2.heap.size ≤ wr.heap.size) := by have := hO.win.size; have := BB4.out.size; show _ ≤ _; omega
          obtain ⟨W5, hW5⟩ : ∃ y, y = wr.alloc (.cells #[.int .i64 (d.length : Int)] 3) := ⟨_, rfl⟩
          have B5 : Hid (Below wr.heap.size wr W5) := by rw [hW5]; exact bAlloc (Below.refl _ _) _
          have S5 : Hid (W5.heap.size = wr.heap.size + 1) := by show _ = _; rw [hW5]; simp
          have R5 : Hid (Box W5 (w.heap.size + 1) (.slice none 0 0) (.slice none 0 0) 26) := R.out.keep B5.out
          have A5 : Hid (Arr w2.heap.size W5.heap.size W5 (.agg #[.slice (some ⟨wr.heap.size, 0, none⟩) 1 1, .slice ga d.length gc]) [(d.length : Int)] (natI (gradeTo d d.length))) := by
            have e1 := SW.out
            have e2 := S5.out
            have PS : Piece wr.heap.size W5.heap.size W5 (.slice (some ⟨wr.heap.size, 0, none⟩) 1 1) [(d.length : Int)] := by
              rw [hW5]
              exact OwnInts.piece (ownInts_new wr [(d.length : Int)]) (Nat.le_refl _) (by simp) 1
            have PD : Piece w2.heap.size wr.heap.size W5 (.slice ga d.length gc) (natI (gradeTo d d.length)) := NG.out.piece.keep B5.out
            exact ⟨_, _, rfl, PS.mono e1 (Nat.le_refl _), PD.mono (Nat.le_refl _) (by omega), PS.apart PD (.inr (Nat.le_refl _))⟩
          have HR : Hid (((W5.setCell ⟨w.heap.size + 1, 0, none⟩ (.slice (some ⟨wr.heap.size, 0, none⟩) 1 1)).setCell ⟨w.heap.size + 1, 1, none⟩ (.slice ga d.length gc)).heap[w.heap.size + 1]? = some (.cells #[.slice (some ⟨wr.heap.size, 0, none⟩) 1 1, .slice ga d.length gc] 26 (0, 0))) := arr_stored R5.out
          have r0 : (wr.alloc (.cells #[.int .i64 (d.length : Int)] 3)).cell? ⟨w.heap.size + 1, 0, none⟩ = some (.slice none 0 0) := by rw [← hW5]; exact R5.out.c0
          have r1 : (wr.alloc (.cells #[.int .i64 (d.length : Int)] 3)).cell? ⟨w.heap.size + 1, 1, none⟩ = some (.slice none 0 0) := by rw [← hW5]; exact R5.out.c1
          have f0 : (wr.alloc (.cells #[.int .i64 (d.length : Int)] 3)).frozen? ⟨w.heap.size + 1, 0, none⟩ = false := by rw [← hW5]; exact free_at R5.out 0
          have f1 : (wr.alloc (.cells #[.int .i64 (d.length : Int)] 3)).frozen? ⟨w.heap.size + 1, 1, none⟩ = false := by rw [← hW5]; exact free_at R5.out 1
          clear hO GL9
          go_wp2
          rw [← hW5]
          refine bodyPost_ret (results_arr_tmp Try.results7 _ _ (w.heap.size + 1) _ _ rfl HR.out) rfl ?_
          refine ⟨_, rfl, ?_, below_setCell (below_setCell (bTrans BW.out B5.out) (by omega) _ _) (by omega) _ _⟩
          have l1 := R2.out.lt
          exact ((A5.out.setCell (by omega) _ _).setCell (by omega) _ _).mono (by omega) (by simp only [size_setCell]; omega)
    · have ER : gradeR s d = (4, [], []) := by unfold gradeR gradeC; rw [if_pos ho, if_neg hl]; exact mkR_bad (by decide) _ _
      have hlb : ((s.length : Int) != 1) = true := by simp; omega
      rw [ER]
      clear ER ho hl
      go_enter Try.func7, Try.ntmps7
      go_wp2_with fail
      refine (arrOk_impl (H.out.keep (bAlloc (bAlloc (Below.refl _ _) _) _)) HD.out).mono ?_
      rintro r w1 ⟨rfl, hb⟩
      have HB1 : Hid (Below w.heap.size w w1) := bTrans (bAlloc (bAlloc (Below.refl _ _) _) _) hb
      have X1 : Hid (Box w1 w.heap.size (.slice a s.length c) (.slice b d.length f) 26) := QX.out.keep hb
      have R1 : Hid (Box w1 (w.heap.size + 1) (.slice none 0 0) (.slice none 0 0) 26) := QR.out.keep hb
      rw [HO.out]
      have x0 := X1.out.c0
      have x1 := X1.out.c1
      clear hb QX QR
      have HR : Hid (((w1.setCell ⟨w.heap.size + 1, 0, none⟩ (.slice none 0 0)).setCell ⟨w.heap.size + 1, 1, none⟩ (.slice none 0 0)).heap[w.heap.size + 1]? = some (.cells #[.slice none 0 0, .slice none 0 0] 26 (0, 0))) := arr_stored R1.out
      have r0 := R1.out.c0
      have r1 := R1.out.c1
      have f0 : w1.frozen? ⟨w.heap.size + 1, 0, none⟩ = false := free_at R1.out 0
      have f1 : w1.frozen? ⟨w.heap.size + 1, 1, none⟩ = false := free_at R1.out 1
      go_wp2
      refine bodyPost_ret (results_arr_tmp Try.results7 _ _ (w.heap.size + 1) _ _ rfl HR.out) rfl ?_
      exact ⟨_, rfl, arr_zero _ _ _, below_setCell (below_setCell HB1.out (by omega) _ _) (by omega) _ _⟩
  · have HO : Hid (arrOk s d = false) := by show _ = _; simpa using ho
    have ER : gradeR s d = (1, [], []) := by unfold gradeR gradeC; rw [if_neg ho]; exact mkR_bad (by decide) _ _
    rw [ER]
    clear ER ho
    go_enter Try.func7, Try.ntmps7
    go_wp2_with fail
    refine (arrOk_impl (H.out.keep (bAlloc (bAlloc (Below.refl _ _) _) _)) HD.out).mono ?_
    rintro r w1 ⟨rfl, hb⟩
    have HB1 : Hid (Below w.heap.size w w1) := bTrans (bAlloc (bAlloc (Below.refl _ _) _) _) hb
    have R1 : Hid (Box w1 (w.heap.size + 1) (.slice none 0 0) (.slice none 0 0) 26) := QR.out.keep hb
    rw [HO.out]
    clear hb QX QR
    have HR : Hid (((w1.setCell ⟨w.heap.size + 1, 0, none⟩ (.slice none 0 0)).setCell ⟨w.heap.size + 1, 1, none⟩ (.slice none 0 0)).heap[w.heap.size + 1]? = some (.cells #[.slice none 0 0, .slice none 0 0] 26 (0, 0))) := arr_stored R1.out
    have r0 := R1.out.c0
    have r1 := R1.out.c1
    have f0 : w1.frozen? ⟨w.heap.size + 1, 0, none⟩ = false := free_at R1.out 0
    have f1 : w1.frozen? ⟨w.heap.size + 1, 1, none⟩ = false := free_at R1.out 1
    go_wp2
    refine bodyPost_ret (results_arr_tmp Try.results7 _ _ (w.heap.size + 1) _ _ rfl HR.out) rfl ?_
    exact ⟨_, rfl, arr_zero _ _ _, below_setCell (below_setCell HB1.out (by omega) _ _) (by omega) _ _⟩
end Go.Proofs.Ythjjjnapcbkhjab
namespace Go.Proofs.Ythjjjnapcbkhjab
open Go.RowKit Go.Sort
theorem sorts_ints : SortsInts := fun blk cap zs w hH hb hl => Any.slices_Sort_int Try.lays189 blk 0 cap zs w hH hb hl
end Go.Proofs.Ythjjjnapcbkhjab
