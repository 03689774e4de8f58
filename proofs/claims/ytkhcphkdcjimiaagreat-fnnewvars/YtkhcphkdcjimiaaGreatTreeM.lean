/-
  Plain: which trees are right, by the nodes that none has taken yet, and by how many own nodes each has; no Go in sight.
-/
import Derived.Test.YtkhcphkdcjimiaaGreatCodeM
namespace Go.Proofs.YtkhcphkdcjimiaaGreat
/-- All of a node but which nodes it takes. -/
def nodeB (e : Nat → Int) (l : List Int) : Bool :=
  if e 0 = 1 then decide (e 1 = 0) && decide (e 2 = 0) && noFun (e 3) (e 4) (e 5) && numsB l
  else if e 0 = 2 then decide (0 ≤ e 1 ∧ e 1 ≤ 25) && decide (e 2 = 0) && noFun (e 3) (e 4) (e 5) && decide (l.length = 0)
  else if e 0 = 3 then decide (0 ≤ e 1 ∧ e 1 ≤ 25) && noFun (e 3) (e 4) (e 5) && decide (l.length = 0)
  else if e 0 = 4 then decide (e 1 = 0) && funOneB (e 3) (e 4) (e 5) && decide (l.length = 0)
  else if e 0 = 5 then funTwoB (e 3) (e 4) (e 5) && decide (l.length = 0)
  else false
/-- The nodes that a node says it takes, in the order in which they are done. -/
def takL (e : Nat → Int) : List Int := if e 0 = 3 ∨ e 0 = 4 then [e 2] else if e 0 = 5 then [e 2, e 1] else []
/-- Whether a node takes the last ones of those that are free. -/
def fitsB (f : List Int) (e : Nat → Int) : Bool := decide ((takL e).length ≤ f.length) && decide (f.drop (f.length - (takL e).length) = takL e)
/-- The nodes that none has taken yet, behind the first k. -/
def freeS (E : Nat → Nat → Int) : Nat → List Int
  | 0 => []
  | k + 1 => (freeS E k).take ((freeS E k).length - (takL (E k)).length) ++ [(k : Int)]
/-- How many own nodes each has. -/
def ownOf (k : Nat) (e : Nat → Int) (o : List Int) : Int := if e 0 = 1 ∨ e 0 = 2 then 1 else if e 0 = 3 ∨ e 0 = 4 then o.getD (k - 1) 0 + 1 else o.getD (e 1).toNat 0 + o.getD (e 2).toNat 0 + 1
def ownS (E : Nat → Nat → Int) : Nat → List Int
  | 0 => []
  | k + 1 => ownS E k ++ [ownOf k (E k) (ownS E k)]
/-- Whether a node takes those just ahead of it, by how many own nodes they have. -/
def heldB (k : Nat) (e : Nat → Int) (o : List Int) : Bool :=
  if e 0 = 3 ∨ e 0 = 4 then decide (1 ≤ k) && decide (e 2 = (k : Int) - 1)
  else if e 0 = 5 then decide (2 ≤ k) && decide (e 1 = (k : Int) - 1) && decide (e 2 = (k : Int) - 1 - o.getD (k - 1) 0) && decide (0 ≤ e 2)
  else true
theorem ownS_len (E : Nat → Nat → Int) (k : Nat) : (ownS E k).length = k := by
  induction k with
  | zero => rfl
  | succ k ih => simp [ownS, ih]
theorem ownS_at (E : Nat → Nat → Int) {k i : Nat} (h : i < k) : (ownS E k).getD i 0 = ownOf i (E i) (ownS E i) := by
  induction k with
  | zero => omega
  | succ k ih =>
    by_cases e : i = k
    · subst e
      simp [ownS, List.getD_eq_getElem?_getD, ownS_len]
    · have := ih (by omega)
      simp only [ownS, List.getD_eq_getElem?_getD] at this ⊢
      rw [List.getElem?_append_left (by rw [ownS_len]; omega)]
      exact this
/-- f (the last one on top) are the ends of trees that stand one behind the other, up to t. -/
def chain (o : Nat → Int) : Nat → List Int → Prop
  | t, [] => t = 0
  | t, r :: f => 1 ≤ t ∧ r = (t : Int) - 1 ∧ 1 ≤ o (t - 1) ∧ o (t - 1) ≤ t ∧ chain o (t - (o (t - 1)).toNat) f
theorem chain_congr {o o' : Nat → Int} {t : Nat} {f : List Int} (h : ∀ i, i < t → o i = o' i) (hc : chain o t f) : chain o' t f := by
  induction f generalizing t with
  | nil => exact hc
  | cons r f ih =>
    obtain ⟨h1, h2, h3, h4, h5⟩ := hc
    have e := h (t - 1) (by omega)
    refine ⟨h1, h2, by rw [← e]; exact h3, by rw [← e]; exact h4, ?_⟩
    rw [← e]
    exact ih (fun i hi => h i (by omega)) h5
theorem nodeB_kind {e : Nat → Int} {l : List Int} (h : nodeB e l = true) : e 0 = 1 ∨ e 0 = 2 ∨ e 0 = 3 ∨ e 0 = 4 ∨ e 0 = 5 := by
  unfold nodeB at h
  by_cases h1 : e 0 = 1
  · exact .inl h1
  by_cases h2 : e 0 = 2
  · exact .inr (.inl h2)
  by_cases h3 : e 0 = 3
  · exact .inr (.inr (.inl h3))
  by_cases h4 : e 0 = 4
  · exact .inr (.inr (.inr (.inl h4)))
  by_cases h5 : e 0 = 5
  · exact .inr (.inr (.inr (.inr h5)))
  rw [if_neg h1, if_neg h2, if_neg h3, if_neg h4, if_neg h5] at h
  exact absurd h (by decide)
theorem takL0 {e : Nat → Int} (h : e 0 = 1 ∨ e 0 = 2) : takL e = [] := by unfold takL; rw [if_neg (by omega), if_neg (by omega)]
theorem takL1 {e : Nat → Int} (h : e 0 = 3 ∨ e 0 = 4) : takL e = [e 2] := by unfold takL; rw [if_pos h]
theorem takL2 {e : Nat → Int} (h : e 0 = 5) : takL e = [e 2, e 1] := by unfold takL; rw [if_neg (by omega), if_pos h]
/-- Both ways of looking at which nodes a node takes come to the same. -/
theorem fits_held {f : List Int} {e : Nat → Int} {k : Nat} {o : List Int} (hk : e 0 = 1 ∨ e 0 = 2 ∨ e 0 = 3 ∨ e 0 = 4 ∨ e 0 = 5) (hc : chain (fun i => o.getD i 0) k f.reverse) : fitsB f e = heldB k e o := by
  obtain ⟨g, rfl⟩ : ∃ g : List Int, f = g.reverse := ⟨f.reverse, by simp⟩
  rw [List.reverse_reverse] at hc
  rw [Bool.eq_iff_iff]
  rcases (by omega : (e 0 = 1 ∨ e 0 = 2) ∨ (e 0 = 3 ∨ e 0 = 4) ∨ e 0 = 5) with h | h | h
  · unfold fitsB heldB
    rw [takL0 h, if_neg (by omega), if_neg (by omega)]
    simp
  · unfold fitsB heldB
    rw [takL1 h, if_pos h]
    cases g with
    | nil => simp [chain] at hc; simp [hc]
    | cons r g =>
      obtain ⟨h1, h2, h3, h4, h5⟩ := hc
      simp
      omega
  · unfold fitsB heldB
    rw [takL2 h, if_neg (by omega), if_pos h]
    cases g with
    | nil => simp [chain] at hc; simp [hc]
    | cons r g =>
      obtain ⟨h1, h2, h3, h4, h5⟩ := hc
      cases g with
      | nil =>
        simp only [chain] at h3 h4 h5
        generalize o.getD (k - 1) 0 = X at *
        simp
        intros
        omega
      | cons s g =>
        obtain ⟨k1, k2, k3, k4, k5⟩ := h5
        simp only at h3 h4 k1 k2
        clear k3 k4 k5
        generalize o.getD (k - 1) 0 = X at *
        simp
        omega
/-- A node that takes those just ahead of it leaves trees one behind the other. -/
theorem chain_step {f : List Int} {e : Nat → Int} {k : Nat} {o : List Int} (hk : e 0 = 1 ∨ e 0 = 2 ∨ e 0 = 3 ∨ e 0 = 4 ∨ e 0 = 5) (hl : o.length = k) (hh : fitsB f e = true) (hc : chain (fun i => o.getD i 0) k f.reverse) :
    chain (fun i => (o ++ [ownOf k e o]).getD i 0) (k + 1) (f.take (f.length - (takL e).length) ++ [(k : Int)]).reverse := by
  have hw := (fits_held hk hc).symm.trans hh
  obtain ⟨g, rfl⟩ : ∃ g : List Int, f = g.reverse := ⟨f.reverse, by simp⟩
  rw [List.reverse_reverse] at hc
  have hold : ∀ i, i < k → (fun i => o.getD i 0) i = (fun i => (o ++ [ownOf k e o]).getD i 0) i := fun i hi => by
    simp only [List.getD_eq_getElem?_getD]
    rw [List.getElem?_append_left (by omega)]
  have hnew : (o ++ [ownOf k e o]).getD k 0 = ownOf k e o := by
    simp only [List.getD_eq_getElem?_getD]
    rw [List.getElem?_append_right (by omega), hl]
    simp
  rw [List.reverse_append]
  simp only [List.reverse_cons, List.reverse_nil, List.nil_append, List.singleton_append]
  have fin : ∀ (g' : List Int), 1 ≤ ownOf k e o → ownOf k e o ≤ (k : Int) + 1 → chain (fun i => o.getD i 0) (k + 1 - (ownOf k e o).toNat) g' → chain (fun i => (o ++ [ownOf k e o]).getD i 0) (k + 1) ((k : Int) :: g') := fun g' p1 p2 p3 => by
    refine ⟨by omega, by simp, ?_, ?_, ?_⟩
    · show 1 ≤ (o ++ [ownOf k e o]).getD (k + 1 - 1) 0
      rw [Nat.add_sub_cancel, hnew]; exact p1
    · show (o ++ [ownOf k e o]).getD (k + 1 - 1) 0 ≤ ((k + 1 : Nat) : Int)
      rw [Nat.add_sub_cancel, hnew]; simpa using p2
    · show chain _ (k + 1 - ((o ++ [ownOf k e o]).getD (k + 1 - 1) 0).toNat) g'
      rw [Nat.add_sub_cancel, hnew]
      exact chain_congr (fun i hi => hold i (by omega)) p3
  rcases (by omega : (e 0 = 1 ∨ e 0 = 2) ∨ (e 0 = 3 ∨ e 0 = 4) ∨ e 0 = 5) with h | h | h
  · have ow : ownOf k e o = 1 := by unfold ownOf; rw [if_pos h]
    have et : (g.reverse.take (g.reverse.length - (takL e).length)).reverse = g := by rw [takL0 h, List.length_nil, Nat.sub_zero, List.take_length, List.reverse_reverse]
    rw [et]
    refine fin g (by omega) (by omega) ?_
    rw [ow]
    exact hc
  · have ow : ownOf k e o = o.getD (k - 1) 0 + 1 := by unfold ownOf; rw [if_neg (by omega), if_pos h]
    cases g with
    | nil => simp [chain] at hc; unfold heldB at hw; rw [if_pos h] at hw; simp at hw; omega
    | cons r g =>
      obtain ⟨h1, h2, h3, h4, h5⟩ := hc
      have et : ((r :: g).reverse.take ((r :: g).reverse.length - (takL e).length)).reverse = g := by rw [takL1 h]; simp
      rw [et]
      refine fin g (by simp only at h3; omega) (by simp only at h4; omega) ?_
      rw [ow]
      simp only at h3 h5
      rw [show k + 1 - (o.getD (k - 1) 0 + 1).toNat = k - (o.getD (k - 1) 0).toNat by omega]
      exact h5
  · unfold heldB at hw
    rw [if_neg (by omega), if_pos h] at hw
    simp only [Bool.and_eq_true, decide_eq_true_eq] at hw
    have ow : ownOf k e o = o.getD (e 1).toNat 0 + o.getD (e 2).toNat 0 + 1 := by unfold ownOf; rw [if_neg (by omega), if_neg (by omega)]
    cases g with
    | nil => simp [chain] at hc; omega
    | cons r g =>
      obtain ⟨h1, h2, h3, h4, h5⟩ := hc
      simp only at h3 h4 h5
      cases g with
      | nil => simp only [chain] at h5; omega
      | cons s g =>
        obtain ⟨k1, k2, k3, k4, k5⟩ := h5
        simp only at k3 k4 k5
        have ea : (e 1).toNat = k - 1 := by omega
        have eb : (e 2).toNat = k - (o.getD (k - 1) 0).toNat - 1 := by omega
        have et : ((r :: s :: g).reverse.take ((r :: s :: g).reverse.length - (takL e).length)).reverse = g := by rw [takL2 h]; simp
        rw [et]
        rw [ea, eb] at ow
        refine fin g (by omega) (by omega) ?_
        rw [ow, show k + 1 - (o.getD (k - 1) 0 + o.getD (k - (o.getD (k - 1) 0).toNat - 1) 0 + 1).toNat = k - (o.getD (k - 1) 0).toNat - (o.getD (k - (o.getD (k - 1) 0).toNat - 1) 0).toNat by omega]
        exact k5
/-- The first k nodes are right. -/
def upTo (E : Nat → Nat → Int) (N : Nat → List Int) (k : Nat) : Prop := ∀ i, i < k → nodeB (E i) (N i) = true ∧ fitsB (freeS E i) (E i) = true
theorem upTo_chain {E : Nat → Nat → Int} {N : Nat → List Int} {k : Nat} (h : upTo E N k) : chain (fun i => (ownS E k).getD i 0) k (freeS E k).reverse := by
  induction k with
  | zero => exact rfl
  | succ k ih =>
    have hk := h k (by omega)
    exact chain_step (nodeB_kind hk.1) (ownS_len E k) hk.2 (ih fun i hi => h i (by omega))
theorem upTo_held {E : Nat → Nat → Int} {N : Nat → List Int} {k : Nat} (h : upTo E N k) (hk : nodeB (E k) (N k) = true) : fitsB (freeS E k) (E k) = heldB k (E k) (ownS E k) := fits_held (nodeB_kind hk) (upTo_chain h)
theorem upTo_top {E : Nat → Nat → Int} {N : Nat → List Int} {k : Nat} (h : upTo E N k) (hk : 1 ≤ k) : 1 ≤ (ownS E k).getD (k - 1) 0 ∧ (ownS E k).getD (k - 1) 0 ≤ k := by
  have hc := upTo_chain h
  generalize (freeS E k).reverse = g at hc
  cases g with
  | nil => simp [chain] at hc; omega
  | cons r g => exact ⟨hc.2.2.1, hc.2.2.2.1⟩
theorem upTo_end {E : Nat → Nat → Int} {N : Nat → List Int} {k : Nat} (h : upTo E N k) (hk : 1 ≤ k) : (freeS E k).length = 1 ↔ (ownS E k).getD (k - 1) 0 = k := by
  have hc := upTo_chain h
  have hl : (freeS E k).length = (freeS E k).reverse.length := by simp
  rw [hl]
  clear hl
  generalize (freeS E k).reverse = g at hc ⊢
  cases g with
  | nil => simp [chain] at hc; omega
  | cons r g =>
    obtain ⟨h1, h2, h3, h4, h5⟩ := hc
    simp only at h3 h4 h5
    cases g with
    | nil =>
      simp only [chain] at h5
      generalize (ownS E k).getD (k - 1) 0 = X at *
      simp only [List.length_cons, List.length_nil]
      constructor <;> intros <;> first | trivial | omega
    | cons s g =>
      have k1 := h5.1
      clear h5
      generalize (ownS E k).getD (k - 1) 0 = X at *
      simp only [List.length_cons]
      constructor
      · intro hq; omega
      · intro hq; omega
def treeP (n : Nat) (E : Nat → Nat → Int) (N : Nat → List Int) : Prop := 1 ≤ n ∧ n ≤ 60 ∧ upTo E N n ∧ (freeS E n).length = 1
def treeB (n : Nat) (E : Nat → Nat → Int) (N : Nat → List Int) : Bool := decide (1 ≤ n ∧ n ≤ 60) && ((List.range n).all (fun i => nodeB (E i) (N i) && fitsB (freeS E i) (E i)) && decide ((freeS E n).length = 1))
theorem treeB_iff {n : Nat} {E : Nat → Nat → Int} {N : Nat → List Int} : treeB n E N = true ↔ treeP n E N := by
  unfold treeB treeP upTo
  simp only [Bool.and_eq_true, decide_eq_true_eq, List.all_eq_true, List.mem_range]
  constructor
  · rintro ⟨⟨h1, h2⟩, h3, h4⟩
    exact ⟨h1, h2, h3, h4⟩
  · rintro ⟨h1, h2, h3, h4⟩
    exact ⟨⟨h1, h2⟩, h3, h4⟩
theorem treeB_true {n : Nat} {E : Nat → Nat → Int} {N : Nat → List Int} (h : treeP n E N) : treeB n E N = true := treeB_iff.2 h
theorem treeB_false {n : Nat} {E : Nat → Nat → Int} {N : Nat → List Int} (h : ¬ treeP n E N) : treeB n E N = false := by
  cases e : treeB n E N
  · rfl
  · exact absurd (treeB_iff.1 e) h
end Go.Proofs.YtkhcphkdcjimiaaGreat
