/-
  Plain: the text of right tokens is read back as these; what is read is right.
-/
import Derived.Test.YtcaidhmolnnikaaGreatDoorLexX
namespace Go.Proofs.YtcaidhmolnnikaaGreatDoor
open Go.RowKit
set_option linter.unusedVariables false
set_option linter.unusedSimpArgs false
theorem app_none (a : ByteArray) : a ++ (⟨#[]⟩ : ByteArray) = a := by apply ByteArray.ext; simp [ByteArray.data_append]
theorem none_app (a : ByteArray) : (⟨#[]⟩ : ByteArray) ++ a = a := by apply ByteArray.ext; simp [ByteArray.data_append]
/-- What stands behind the first k. -/
theorem tokJ_pre (E : Nat → Spn) (k : Nat) (k0 : 0 < k) : ∀ n, k ≤ n → ∃ r : ByteArray, tokJ E n = tokJ E k ++ r ∧ ((k = n ∧ r = ⟨#[]⟩) ∨ (k < n ∧ 0 < r.size ∧ bt r 0 = 32))
  | 0, h => absurd h (by omega)
  | n + 1, h => by
    by_cases e : k = n + 1
    · subst e
      exact ⟨⟨#[]⟩, (app_none _).symm, .inl ⟨rfl, rfl⟩⟩
    · obtain ⟨r, h1, h2⟩ := tokJ_pre E k k0 n (by omega)
      have e1 : (⟨#[32]⟩ : ByteArray).size = 1 := rfl
      refine ⟨r ++ (⟨#[32]⟩ ++ tokW (E n).f (E n).t), ?_, .inr ⟨by omega, by rw [str_len, str_len, e1]; omega, ?_⟩⟩
      · simp only [tokJ]
        rw [if_neg (by omega), h1, str_assoc, str_assoc]
      · rw [bt_app]
        rcases h2 with ⟨_, rfl⟩ | ⟨_, h3, h4⟩
        · have e0 : (⟨#[]⟩ : ByteArray).size = 0 := rfl
          rw [e0, if_neg (by omega), bt_app, e1, if_pos (by decide)]
          rfl
        · rw [if_pos h3, h4]
theorem has_pre (a r : ByteArray) : Has (a ++ r) 0 a := ⟨by rw [str_len]; omega, fun j hj => by rw [Nat.zero_add, bt_app, if_pos hj]⟩
theorem tokJ_walk (E : Nat → Spn) (n : Nat) (h : tokAll E n = true) : ∀ k, k ≤ n → lexR (tokJ E n) 0 [] = lexR (tokJ E n) (tokJ E k).size ((List.range k).map E)
  | 0, _ => rfl
  | k + 1, hk => by
    rw [tokJ_walk E n h k (by omega)]
    have ht := tokAll_at h (i := k) (by omega)
    obtain ⟨r, p1, p2⟩ := tokJ_pre E (k + 1) (by omega) n hk
    have hh : Has (tokJ E n) 0 (tokJ E (k + 1)) := by rw [p1]; exact has_pre _ _
    have hd : digD (tokJ E n) (tokJ E (k + 1)).size = false := by
      rcases p2 with ⟨_, e⟩ | ⟨_, e1, e2⟩
      · apply digD_out
        rw [p1, e, app_none]
        exact Nat.le_refl _
      · unfold digD
        rw [p1, bt_app, if_neg (by omega), Nat.sub_self, e2]
        simp
    have hl : (List.range (k + 1)).map E = (List.range k).map E ++ [⟨(E k).f, (E k).t⟩] := by rw [List.range_succ, List.map_append]; rfl
    have e1 : (⟨#[32]⟩ : ByteArray).size = 1 := rfl
    rw [hl]
    by_cases k0 : k = 0
    · subst k0
      have ej : tokJ E (0 + 1) = tokW (E 0).f (E 0).t := by simp only [tokJ]; rw [if_pos trivial, none_app]
      rw [ej] at hh hd ⊢
      obtain ⟨t1, t2, t3⟩ := tokW_read ht hh (by rw [Nat.zero_add]; exact hd)
      have ez : (tokJ E 0).size = 0 := rfl
      rw [ez, lexR_tok t3 t2 (by rw [t1]), t1]
      rw [Nat.zero_add]
    · have ej : tokJ E (k + 1) = tokJ E k ++ ⟨#[32]⟩ ++ tokW (E k).f (E k).t := by simp only [tokJ]; rw [if_neg k0]
      have hw : Has (tokJ E n) ((tokJ E k).size + 1) (tokW (E k).f (E k).t) := by
        rw [ej] at hh
        have := hh.right
        rw [str_len, e1, Nat.zero_add] at this
        exact this
      have hsz : (tokJ E (k + 1)).size = (tokJ E k).size + 1 + (tokW (E k).f (E k).t).size := by rw [ej, str_len, str_len, e1]
      have hb : bt (tokJ E n) (tokJ E k).size = 32 ∧ (tokJ E k).size < (tokJ E n).size := by
        obtain ⟨r2, q1, q2⟩ := tokJ_pre E k (by omega) n (by omega)
        rcases q2 with ⟨e, _⟩ | ⟨_, q3, q4⟩
        · omega
        · rw [q1]
          exact ⟨by rw [bt_app, if_neg (by omega), Nat.sub_self, q4], by rw [str_len]; omega⟩
      obtain ⟨t1, t2, t3⟩ := tokW_read ht hw (by rw [← hsz]; exact hd)
      rw [lexR_blank hb.2 hb.1, lexR_tok t3 t2 (by rw [t1]), t1]
      dsimp only
      rw [hsz]
theorem tokJ_lexV (E : Nat → Spn) (n : Nat) (h : tokAll E n = true) (hs : (tokJ E n).size ≤ 300) : lexV (tokJ E n) = ((List.range n).map E, 0, (tokJ E n).size) := by
  unfold lexV
  rw [if_neg (by omega), tokJ_walk E n h n (Nat.le_refl _), lexR_end (Nat.le_refl _)]
/-- What is read is right. -/
theorem tkAt_ok (s : ByteArray) {p : Nat} (hc : (tkAt s p).2.2.2 = 0) : tokB (tkAt s p).1 (tkAt s p).2.1 = true := by
  unfold tkAt at hc ⊢
  by_cases h : digD s p = true ∨ bt s p = 95
  · rw [if_pos h] at hc ⊢
    dsimp only at hc ⊢
    unfold tokB
    rw [if_pos rfl]
    unfold numAtS at hc ⊢
    dsimp only at hc ⊢
    generalize (if bt s p = 95 then p + 1 else p) = q at *
    have hb := satTo_bd s q (nd s q)
    by_cases h0 : nd s q = 0
    · rw [if_pos h0] at hc; exact absurd (show (8 : Int) = 0 from hc) (by decide)
    · rw [if_neg h0] at hc ⊢
      by_cases h2 : 1000000000000 < satTo s q (nd s q)
      · rw [if_pos h2] at hc; exact absurd (show (6 : Int) = 0 from hc) (by decide)
      · rw [if_neg h2]
        dsimp only
        unfold ok
        split <;> simp <;> omega
  · rw [if_neg h] at hc ⊢
    by_cases h1 : 65 ≤ bt s p ∧ bt s p ≤ 90
    · rw [if_pos h1]; unfold tokB; simp; omega
    · rw [if_neg h1] at hc ⊢
      by_cases h4 : bt s p = 40
      · rw [if_pos h4]; rfl
      · rw [if_neg h4] at hc ⊢
        by_cases h5 : bt s p = 41
        · rw [if_pos h5]; rfl
        · rw [if_neg h5] at hc ⊢
          by_cases h6 : bt s p = 58
          · rw [if_pos h6]; rfl
          · rw [if_neg h6] at hc ⊢
            by_cases h7 : signB (bt s p) = true
            · rw [if_pos h7]; unfold tokB; exact h7
            · rw [if_neg h7] at hc; exact absurd (show (8 : Int) = 0 from hc) (by decide)
theorem lexF_ok (s : ByteArray) : ∀ (f p : Nat) (acc : List Spn), (∀ x ∈ acc, tokB x.f x.t = true) → ∀ x ∈ (lexF s f p acc).1, tokB x.f x.t = true
  | 0, p, acc, h => h
  | f + 1, p, acc, h => by
    simp only [lexF]
    split
    · split
      · exact lexF_ok s f _ _ h
      · split
        · rename_i h3
          refine lexF_ok s f _ _ fun x hx => ?_
          rcases List.mem_append.1 hx with h4 | h4
          · exact h x h4
          · obtain rfl := List.mem_singleton.1 h4
            exact tkAt_ok s h3
        · intro x hx; cases hx
    · exact h
theorem lexV_ok (s : ByteArray) : ∀ x ∈ (lexV s).1, tokB x.f x.t = true := by
  unfold lexV
  split
  · intro x hx; cases hx
  · exact lexF_ok s _ _ _ (fun x hx => by cases hx)
theorem tokAll_of (l : List Spn) (h : ∀ x ∈ l, tokB x.f x.t = true) : ∀ k, k ≤ l.length → tokAll (fun i => l.getD i spn0) k = true
  | 0, _ => rfl
  | k + 1, hk => by
    refine tokAll_next (tokAll_of l h k (by omega)) ?_
    show tokB (l.getD k spn0).f (l.getD k spn0).t = true
    apply h
    rw [List.getD_eq_getElem?_getD, List.getElem?_eq_getElem (by omega)]
    exact List.getElem_mem _
theorem lexV_all (s : ByteArray) : tokAll (fun i => (lexV s).1.getD i spn0) (lexV s).1.length = true := tokAll_of _ (lexV_ok s) _ (Nat.le_refl _)
theorem range_getD (l : List Spn) : (List.range l.length).map (fun i => l.getD i spn0) = l := by
  apply List.ext_getElem
  · simp
  · intro i h1 h2
    simp [h2]
end Go.Proofs.YtcaidhmolnnikaaGreatDoor
