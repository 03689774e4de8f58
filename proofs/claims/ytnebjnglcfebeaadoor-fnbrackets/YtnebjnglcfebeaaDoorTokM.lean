/-
  Plain: the signs, and which tokens are right; no Go in sight.
-/
import Derived.Test.YtnebjnglcfebeaaDoorMath
namespace Go.Proofs.YtnebjnglcfebeaaDoor
/-- The signs, as bytes and as numbers. -/
def signL : List Int := [43, 45, 42, 37, 124, 38, 94, 61, 60, 62, 126, 105, 35, 44, 116, 100, 114, 122, 64, 63, 103, 36, 101, 47, 92, 46, 111]
def signB (x : Int) : Bool := signL.contains x
/-- What is known of the text of the signs. -/
structure Signs (s : ByteArray) : Prop where
  size : s.size = 27
  at' : ∀ k (h : k < s.size), ((s[k]'h).toNat : Int) = signL.getD k 0
  low : ∀ k (h : k < s.size), (s[k]'h).toNat < 128
theorem signs_are : Signs ⟨#[43, 45, 42, 37, 124, 38, 94, 61, 60, 62, 126, 105, 35, 44, 116, 100, 114, 122, 64, 63, 103, 36, 101, 47, 92, 46, 111]⟩ := by
  have e : (⟨#[43, 45, 42, 37, 124, 38, 94, 61, 60, 62, 126, 105, 35, 44, 116, 100, 114, 122, 64, 63, 103, 36, 101, 47, 92, 46, 111]⟩ : ByteArray).size = 27 := rfl
  refine ⟨e, ?_, ?_⟩
  · intro k h
    have : ∀ k : Fin 27, (((⟨#[43, 45, 42, 37, 124, 38, 94, 61, 60, 62, 126, 105, 35, 44, 116, 100, 114, 122, 64, 63, 103, 36, 101, 47, 92, 46, 111]⟩ : ByteArray)[k.1]'k.2).toNat : Int) = signL.getD k.1 0 := by decide
    exact this ⟨k, by rw [e] at h; exact h⟩
  · intro k h
    have : ∀ k : Fin 27, (((⟨#[43, 45, 42, 37, 124, 38, 94, 61, 60, 62, 126, 105, 35, 44, 116, 100, 114, 122, 64, 63, 103, 36, 101, 47, 92, 46, 111]⟩ : ByteArray)[k.1]'k.2).toNat) < 128 := by decide
    exact this ⟨k, by rw [e] at h; exact h⟩
theorem signL_len : signL.length = 27 := rfl
theorem take_has {l : List Int} {k : Nat} (h : k < l.length) (x : Int) : (l.take (k + 1)).contains x = ((l.take k).contains x || (l.getD k 0 == x)) := by
  rw [List.take_succ_eq_append_getElem h, List.getD_eq_getElem?_getD, List.getElem?_eq_getElem h, Option.getD_some, Bool.eq_iff_iff]
  generalize l.take k = m
  generalize l[k] = y
  constructor
  · intro h
    simp at h ⊢
    exact h.elim .inl (fun e => .inr e.symm)
  · intro h
    simp at h ⊢
    exact h.elim .inl (fun e => .inr e.symm)
theorem signTake {k : Nat} (h : k < 27) (x : Int) : (signL.take (k + 1)).contains x = ((signL.take k).contains x || (signL.getD k 0 == x)) := take_has (by rw [signL_len]; exact h) x
theorem signHas {k : Nat} (h : k < 27) {x : Int} (e : signL.getD k 0 = x) : signB x = true := by
  unfold signB
  rw [List.contains_eq_mem]
  simp only [decide_eq_true_eq]
  rw [← e, List.getD_eq_getElem?_getD, List.getElem?_eq_getElem (show k < signL.length by rw [signL_len]; exact h)]
  exact List.getElem_mem _
theorem signNone {x : Int} (h : (signL.take 27).contains x = false) : signB x = false := h
theorem sign_bd {x : Int} (h : signB x = true) : 35 ≤ x ∧ x ≤ 126 := by
  unfold signB signL at h
  simp at h
  omega
/-- A right token. -/
def tokB (k v : Int) : Bool := if k = 1 then ok v else if k = 2 then (decide (0 ≤ v) && decide (v ≤ 25)) else if k = 3 then signB v else if k = 4 ∨ k = 5 ∨ k = 6 then (v == 0) else false
end Go.Proofs.YtnebjnglcfebeaaDoor
