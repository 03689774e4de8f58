/-
  Plain: code read from its bytes; no Go in sight but the wrapping of numbers.
-/
import Derived.Test.YtonkiipdobpfgaaPackM
namespace Go.Proofs.Ytonkiipdobpfgaa
/-- What bytes tell, the lowest first. -/
def valB : List Int → Int
  | [] => 0
  | x :: t => x + 256 * valB t
def wrp (x : Int) : Int := (x + 9223372036854775808) % 18446744073709551616 - 9223372036854775808
/-- A number read from the first eight bytes. -/
def numW (l : List Int) : Int := wrp (wrp (valB (l.take 8)) - 1000000000000)
def isB (l : List Int) : Prop := ∀ x ∈ l, 0 ≤ x ∧ x ≤ 255
theorem isB_getD {l : List Int} (h : isB l) (k : Nat) : 0 ≤ l.getD k 0 ∧ l.getD k 0 ≤ 255 := by
  by_cases hk : k < l.length
  · have : l.getD k 0 = l[k] := by simp [hk]
    rw [this]; exact h _ (List.getElem_mem hk)
  · have : l.getD k 0 = 0 := by simp at hk; simp [List.getD_eq_getElem?_getD, List.getElem?_eq_none hk]
    rw [this]; decide
theorem isB_drop {l : List Int} (h : isB l) (k : Nat) : isB (l.drop k) := fun x hx => h x (List.mem_of_mem_drop hx)
theorem isB_take {l : List Int} (h : isB l) (k : Nat) : isB (l.take k) := fun x hx => h x (List.mem_of_mem_take hx)
theorem valB_drop {l : List Int} {j : Nat} (h : j < l.length) : valB (l.drop j) = l.getD j 0 + 256 * valB (l.drop (j + 1)) := by
  rw [List.drop_eq_getElem_cons h, valB]
  simp [h]
theorem valB_nil {l : List Int} {j : Nat} (h : l.length ≤ j) : valB (l.drop j) = 0 := by rw [List.drop_eq_nil_of_le h]; rfl
theorem valB_bd {l : List Int} (h : isB l) : 0 ≤ valB l ∧ valB l < 256 ^ l.length := by
  induction l with
  | nil => simp [valB]
  | cons x t ih =>
    have h1 := h x (by simp)
    have h2 := ih fun y hy => h y (by simp [hy])
    simp only [valB, List.length_cons, Int.pow_succ]
    generalize (256 : Int) ^ t.length = P at *
    omega
/-- The numbers of bytes, eight by eight. -/
def numsW (l : List Int) (n : Nat) : List Int := (List.range n).map fun k => numW (l.drop (8 * k))
theorem numsW_len (l : List Int) (n : Nat) : (numsW l n).length = n := by simp [numsW]
theorem numsW_take (l : List Int) (n : Nat) : numsW l (n + 1) = numsW l n ++ [numW (l.drop (8 * n))] := by simp [numsW, List.range_succ]
/-- How many bytes the first instruction has; none: they end first. -/
def cnt (r : List Int) : Nat := (r.getD 5 0 + 256 * r.getD 6 0).toNat
def insLen (r : List Int) : Option Nat :=
  if r.length < 5 then none
  else if r.getD 0 0 = 1 then (if r.length < 7 then none else if r.length < 7 + 8 * cnt r then none else some (7 + 8 * cnt r))
  else some 5
def insB1 (r : List Int) (j : Nat) : Int := r.getD j 0
def insB2 (r : List Int) : List Int := if r.getD 0 0 = 1 then numsW (r.drop 7) (cnt r) else []
theorem num8_val {l : List Int} (h : isB l) (hl : l.length = 8) : num8 (valB l) = l := by
  obtain ⟨a0, a1, a2, a3, a4, a5, a6, a7, rfl⟩ : ∃ a0 a1 a2 a3 a4 a5 a6 a7, l = [a0, a1, a2, a3, a4, a5, a6, a7] := by
    match l, hl with
    | [a0, a1, a2, a3, a4, a5, a6, a7], _ => exact ⟨_, _, _, _, _, _, _, _, rfl⟩
  have h0 := h a0 (by simp)
  have h1 := h a1 (by simp)
  have h2 := h a2 (by simp)
  have h3 := h a3 (by simp)
  have h4 := h a4 (by simp)
  have h5 := h a5 (by simp)
  have h6 := h a6 (by simp)
  have h7 := h a7 (by simp)
  simp only [num8, List.range, List.range.loop, List.map, valB]
  simp only [List.cons.injEq, and_true]
  refine ⟨?_, ?_, ?_, ?_, ?_, ?_, ?_, ?_⟩ <;> omega
theorem numW_ok {l : List Int} (h : isB l) (hl : 8 ≤ l.length) (ho : ok (numW l) = true) : num8 (numW l + 1000000000000) = l.take 8 := by
  have hb := valB_bd (isB_take h 8)
  have hl8 : (l.take 8).length = 8 := by rw [List.length_take]; omega
  rw [hl8] at hb
  have e : numW l + 1000000000000 = valB (l.take 8) := by
    unfold ok at ho
    simp at ho
    unfold numW wrp at ho ⊢
    generalize valB (l.take 8) = V at *
    have : (256 : Int) ^ 8 = 18446744073709551616 := by decide
    omega
  rw [e]
  exact num8_val (isB_take h 8) hl8
theorem numsBy_W {l : List Int} (h : isB l) {n : Nat} (hl : 8 * n ≤ l.length) (ho : (numsW l n).all ok = true) : numsBy (numsW l n) = l.take (8 * n) := by
  induction n with
  | zero => simp [numsW, numsBy]
  | succ n ih =>
    rw [numsW_take] at ho ⊢
    simp only [List.all_append, Bool.and_eq_true, List.all_cons, List.all_nil, and_true] at ho
    have := ih (by omega) ho.1
    unfold numsBy at this ⊢
    rw [List.flatMap_append, this]
    simp only [List.flatMap_cons, List.flatMap_nil, List.append_nil]
    rw [numW_ok (isB_drop h _) (by rw [List.length_drop]; omega) (by simpa using ho.2), show 8 * (n + 1) = 8 * n + 8 by omega, List.take_add]
/-- Right bytes tell the instruction whose bytes they are. -/
theorem packI_read {r : List Int} (h : isB r) {m : Nat} (hm : insLen r = some m) (hi : insB (insB1 r) (insB2 r) = true) : packI (insB1 r) (insB2 r) = r.take m := by
  have g := isB_getD h
  unfold insLen at hm
  split at hm
  · cases hm
  rename_i h5
  have e5 : r.take 5 = [r.getD 0 0, r.getD 1 0, r.getD 2 0, r.getD 3 0, r.getD 4 0] := by
    match r, h5 with
    | a0 :: a1 :: a2 :: a3 :: a4 :: t, _ => rfl
    | [], h => simp at h
    | [_], h => simp at h
    | [_, _], h => simp at h
    | [_, _, _], h => simp at h
    | [_, _, _, _], h => simp at h
  have b : ∀ j, insB1 r j % 256 = r.getD j 0 := fun j => by have := g j; unfold insB1; omega
  unfold packI
  rw [b, b, b, b, b, ← e5]
  have e0 : insB1 r 0 = r.getD 0 0 := rfl
  rw [e0]
  split at hm
  · rename_i h1
    split at hm
    · cases hm
    split at hm
    · cases hm
    rename_i h7 h8
    cases hm
    rw [if_pos h1]
    have eN : insB2 r = numsW (r.drop 7) (cnt r) := if_pos h1
    have hok := (insB_len hi).2 (by rw [e0]; exact h1)
    rw [eN] at hok ⊢
    rw [numsBy_W (isB_drop h 7) (by rw [List.length_drop]; omega) hok, numsW_len]
    have c5 := g 5
    have c6 := g 6
    have ec : ((cnt r : Nat) : Int) = r.getD 5 0 + 256 * r.getD 6 0 := by unfold cnt; omega
    rw [ec, show (r.getD 5 0 + 256 * r.getD 6 0) % 256 = r.getD 5 0 by omega, show (r.getD 5 0 + 256 * r.getD 6 0) / 256 % 256 = r.getD 6 0 by omega]
    have e7 : r.take 7 = r.take 5 ++ [r.getD 5 0, r.getD 6 0] := by
      have t6 : r.take 6 = r.take 5 ++ [r[5]'(by omega)] := List.take_succ_eq_append_getElem (by omega)
      have t7 : r.take 7 = r.take 6 ++ [r[6]'(by omega)] := List.take_succ_eq_append_getElem (by omega)
      rw [t7, t6, List.append_assoc]
      simp [List.getD_eq_getElem?_getD, show 5 < r.length by omega, show 6 < r.length by omega]
    rw [show 7 + 8 * cnt r = 7 + 8 * cnt r from rfl, List.take_add, e7, List.append_assoc]
  · rename_i h1
    cases hm
    rw [if_neg h1, List.append_nil]
/-- Where the i-th instruction begins; none: the bytes end first. -/
def plc (b : List Int) : Nat → Option Nat
  | 0 => some 1
  | i + 1 => match plc b i with
    | none => none
    | some p => match insLen (b.drop p) with
      | none => none
      | some m => some (p + m)
def rdE (b : List Int) (i : Nat) : Nat → Int := insB1 (b.drop ((plc b i).getD 0))
def rdN (b : List Int) (i : Nat) : List Int := insB2 (b.drop ((plc b i).getD 0))
theorem plc_next {b : List Int} {i p m : Nat} (h : plc b i = some p) (hm : insLen (b.drop p) = some m) : plc b (i + 1) = some (p + m) := by simp [plc, h, hm]
theorem plc_end {b : List Int} {i p : Nat} (h : plc b i = some p) (hm : insLen (b.drop p) = none) : plc b (i + 1) = none := by simp [plc, h, hm]
theorem plc_none {b : List Int} {i j : Nat} (h : plc b i = none) (hj : i ≤ j) : plc b j = none := by
  induction j with
  | zero => rw [show i = 0 by omega] at h; exact h
  | succ j ih =>
    by_cases e : i = j + 1
    · rw [← e]; exact h
    · simp [plc, ih (by omega)]
theorem insLen_le {r : List Int} {m : Nat} (h : insLen r = some m) : m ≤ r.length ∧ 5 ≤ m := by
  unfold insLen at h
  split at h
  · cases h
  split at h
  · split at h
    · cases h
    split at h
    · cases h
    cases h; omega
  · cases h; omega
theorem plc_le {b : List Int} (hb : 1 ≤ b.length) {i p : Nat} (h : plc b i = some p) : p ≤ b.length ∧ 1 ≤ p := by
  induction i generalizing p with
  | zero => cases h; omega
  | succ i ih =>
    cases hp : plc b i with
    | none => simp [plc, hp] at h
    | some q =>
      cases hm : insLen (b.drop q) with
      | none => simp [plc, hp, hm] at h
      | some m =>
        simp [plc, hp, hm] at h
        have := ih hp
        have := insLen_le hm
        rw [List.length_drop] at this
        omega
theorem packN_read {b : List Int} (hb : isB b) (h1 : 1 ≤ b.length) {k p : Nat} (hp : plc b k = some p) (hi : ∀ i, i < k → insB (rdE b i) (rdN b i) = true) : packN (rdE b) (rdN b) k = (b.take p).drop 1 := by
  induction k generalizing p with
  | zero => cases hp; simp [packN]
  | succ k ih =>
    cases hq : plc b k with
    | none => simp [plc, hq] at hp
    | some q =>
      cases hm : insLen (b.drop q) with
      | none => simp [plc, hq, hm] at hp
      | some m =>
        simp [plc, hq, hm] at hp
        subst hp
        have hq1 := plc_le h1 hq
        have e1 := ih hq fun i hi' => hi i (by omega)
        have e2 := hi k (by omega)
        have er : rdE b k = insB1 (b.drop q) := by simp [rdE, hq]
        have en : rdN b k = insB2 (b.drop q) := by simp [rdN, hq]
        rw [er, en] at e2
        have e3 := packI_read (isB_drop hb q) hm e2
        rw [packN, e1, er, en, e3, List.take_add, List.drop_append_of_le_length (by rw [List.length_take]; omega)]
/-- What CodeRead answers: whether the bytes are those of code. -/
def readB (b : List Int) : Bool :=
  match b with
  | [] => false
  | x :: _ => match plc b x.toNat with
    | none => false
    | some p => decide (p = b.length) && codeB x.toNat (rdE b) (rdN b)
theorem pack_iff {b : List Int} (hb : isB b) {x : Int} {t : List Int} (e : b = x :: t) {p : Nat} (hp : plc b x.toNat = some p) (hc : codeB x.toNat (rdE b) (rdN b) = true) : packL x.toNat (rdE b) (rdN b) = b ↔ p = b.length := by
  have h1 : 1 ≤ b.length := by rw [e]; simp
  have hx := hb x (by rw [e]; simp)
  have q := packN_read hb h1 hp (codeB_iff.1 hc).2.2.1
  have hp1 := plc_le h1 hp
  have ex : ((x.toNat : Nat) : Int) = x := by omega
  have eq : packL x.toNat (rdE b) (rdN b) = b.take p := by
    unfold packL
    rw [q, ex]
    cases p with
    | zero => omega
    | succ p => rw [e]; simp
  rw [eq]
  constructor
  · intro h
    have := congrArg List.length h
    rw [List.length_take] at this
    omega
  · intro h
    rw [h, List.take_length]
end Go.Proofs.Ytonkiipdobpfgaa
