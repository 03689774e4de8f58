/-
  Plain: texts joined by whatever stands between them; the text of an array, by its rank.
-/
import Derived.Test.YtcaidhmolnnikaaDoorRowsF
import Derived.Test.YtcaidhmolnnikaaDoorRowI2
namespace Go.Proofs.YtcaidhmolnnikaaDoor
open Go.RowKit
set_option linter.unusedVariables false
set_option linter.unusedSimpArgs false
/-- The first k texts, told by f, one behind the other, with a text between each two. -/
def cat (sep : ByteArray) (f : Nat → ByteArray) : Nat → ByteArray
  | 0 => ⟨#[]⟩
  | k + 1 => (if k = 0 then cat sep f k else cat sep f k ++ sep) ++ f k
theorem cat_zero (sep : ByteArray) (f : Nat → ByteArray) : cat sep f 0 = ⟨#[]⟩ := rfl
theorem none_app (x : ByteArray) : (⟨#[]⟩ : ByteArray) ++ x = x := by
  apply ByteArray.ext
  simp [ByteArray.data_append]
theorem cat_first (sep : ByteArray) (f : Nat → ByteArray) : (⟨#[]⟩ : ByteArray) ++ f 0 = cat sep f 1 := rfl
theorem cat_next (sep : ByteArray) (f : Nat → ByteArray) {k : Nat} (h : k ≠ 0) : cat sep f k ++ sep ++ f k = cat sep f (k + 1) := by
  show _ = (if k = 0 then cat sep f k else cat sep f k ++ sep) ++ f k
  rw [if_neg h]
theorem cat_le {sep : ByteArray} {f : Nat → ByteArray} {M : Nat} (hs : sep.size ≤ 2) : ∀ {k : Nat}, (∀ i, i < k → (f i).size ≤ M) → (cat sep f k).size ≤ k * (M + 2)
  | 0, _ => by simp [cat, ByteArray.size]
  | k + 1, h => by
    have h1 := cat_le (f := f) hs (k := k) (fun i hi => h i (by omega))
    have h2 := h k (by omega)
    have e : (k + 1) * (M + 2) = k * (M + 2) + (M + 2) := by rw [Nat.add_mul, Nat.one_mul]
    simp only [cat]
    split
    · rw [str_len, e]; omega
    · rw [str_len, str_len, e]; omega
theorem cat_congr {sep : ByteArray} {f g : Nat → ByteArray} : ∀ {k : Nat}, (∀ i, i < k → f i = g i) → cat sep f k = cat sep g k
  | 0, _ => rfl
  | k + 1, h => by
    simp only [cat]
    rw [cat_congr (f := f) (g := g) (k := k) (fun i hi => h i (by omega)), h k (by omega)]
/-- Texts joined. -/
def jnS (sep : ByteArray) (xs : List ByteArray) : ByteArray := ⟨(Lib.join (xs.map (·.data.toList)) sep.data.toList).toArray⟩
theorem jnS_snoc (sep : ByteArray) (xs : List ByteArray) (x : ByteArray) : jnS sep (xs ++ [x]) = (if xs = [] then jnS sep xs else jnS sep xs ++ sep) ++ x := by
  apply ByteArray.ext
  cases xs with
  | nil => simp [jnS, Lib.join_nil, Lib.join_one, ByteArray.data_append]
  | cons y r =>
    rw [if_neg (by simp)]
    unfold jnS
    simp only [List.cons_append, List.map_cons, List.map_append, List.map_nil, Lib.join_cons, ByteArray.data_append]
    apply Array.ext'
    simp [Lib.joinTail]
theorem cat_jnS (sep : ByteArray) (f : Nat → ByteArray) : ∀ k, cat sep f k = jnS sep ((List.range k).map f)
  | 0 => by simp [cat, jnS, Lib.join_nil]
  | k + 1 => by
    rw [List.range_succ, List.map_append, List.map_cons, List.map_nil, jnS_snoc]
    simp only [cat, cat_jnS sep f k]
    by_cases h : k = 0
    · subst h; rfl
    · rw [if_neg h, if_neg (by simp [h])]
/-- A line of numbers of one width. -/
def lineV (m : Nat) (l : List Int) : ByteArray := cat ⟨#[32]⟩ (fun i => padB m (digB (l.getD i 0))) l.length
theorem lineV_jn (m : Nat) (l : List Int) : lineV m l = jn (wds m l) := by
  unfold lineV
  rw [cat_jnS]
  rfl
theorem lineV_rowB (l : List Int) : lineV 0 l = rowB l l.length := by
  rw [lineV_jn, wds_zero, ← rowB_jn]
theorem pad_le {m : Nat} (hm : m ≤ 22) {x : Int} (h : ok x = true) : (padB m (digB x)).size ≤ 44 := by
  have := digB_size h
  rw [padB_size]
  omega
theorem lineV_le {m : Nat} (hm : m ≤ 22) {l : List Int} (h : l.all ok = true) (hl : l.length ≤ 300) : (lineV m l).size ≤ 13800 := by
  have := cat_le (sep := ⟨#[32]⟩) (f := fun i => padB m (digB (l.getD i 0))) (M := 44) (by decide) (k := l.length) (fun i hi => pad_le hm (ok_at h hi))
  unfold lineV
  have : l.length * (44 + 2) ≤ 300 * 46 := Nat.mul_le_mul_right _ hl
  omega
/-- How many rows. -/
def rowN (s d : List Int) : Nat := (rowsF s d).length / 2
/-- The text of an array of rank 2, of rank 3. -/
def part2 (m : Nat) (s d : List Int) : ByteArray := cat ⟨#[10]⟩ (fun i => lineV m ((rowsF s d).getD (2 * i + 1) [])) (rowN s d)
def part3 (m : Nat) (s d : List Int) : ByteArray := cat ⟨#[10, 10]⟩ (fun i => part2 m ((rowsF s d).getD (2 * i) []) ((rowsF s d).getD (2 * i + 1) [])) (rowN s d)
/-- What Show tells. -/
def showV (s d : List Int) : ByteArray := if arrOk s d = true then (if s.length < 2 then lineV 0 d else if s.length = 2 then part2 (wideV d).toNat s d else part3 (wideV d).toNat s d) else ⟨#[]⟩
theorem arrOk_num {s d : List Int} (h : arrOk s d = true) : d.all ok = true := by
  simp only [arrOk, Bool.and_eq_true] at h; exact h.2
/-- What is known of the rows. -/
theorem rows_are {s d : List Int} (h : arrOk s d = true) (hs : s ≠ []) : rowN s d ≤ 300 ∧ (rowsF s d).length = 2 * rowN s d ∧ ∀ k, k < rowN s d → (rowsF s d).getD (2 * k) [] = s.drop 1 ∧ arrOk (s.drop 1) ((rowsF s d).getD (2 * k + 1) []) = true := by
  cases s with
  | nil => exact absurd rfl hs
  | cons n0 t =>
    obtain ⟨cnt, N, rfl, h1, _, _, h2, h3⟩ := rows_facts h
    have e : rowN ((cnt : Int) :: t) d = cnt := by unfold rowN; omega
    rw [e]
    refine ⟨h1, h2, fun k hk => ?_⟩
    obtain ⟨q1, D, q2, _, q3, _⟩ := h3 k hk
    exact ⟨q1, by rw [q2]; exact q3⟩
theorem part2_le {m : Nat} (hm : m ≤ 22) {s d : List Int} (h : arrOk s d = true) (hs : s ≠ []) : (part2 m s d).size ≤ 4140600 := by
  obtain ⟨h1, _, h3⟩ := rows_are h hs
  have := cat_le (sep := ⟨#[10]⟩) (f := fun i => lineV m ((rowsF s d).getD (2 * i + 1) [])) (M := 13800) (by decide) (k := rowN s d) (fun i hi => lineV_le hm (arrOk_num (h3 i hi).2) (arrOk_len (h3 i hi).2))
  unfold part2
  have : rowN s d * (13800 + 2) ≤ 300 * 13802 := Nat.mul_le_mul_right _ h1
  omega
theorem wide_bd {s d : List Int} (h : arrOk s d = true) : 0 ≤ wideV d ∧ wideV d ≤ 22 ∧ (((wideV d).toNat : Nat) : Int) = wideV d ∧ (wideV d).toNat ≤ 22 := by
  have ha := arrOk_num h
  have := wideN_le ha (Nat.le_refl d.length)
  unfold wideV
  rw [if_pos ha]
  omega
end Go.Proofs.YtcaidhmolnnikaaDoor
