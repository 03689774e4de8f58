/-
  Plain: the tokens of a text between blanks.
-/
import Derived.Test.YtcaidhmolnnikaaGreatDoorLexV
namespace Go.Proofs.YtcaidhmolnnikaaGreatDoor
open Go.RowKit
set_option linter.unusedVariables false
set_option linter.unusedSimpArgs false
/-- Two blanks, a text, two blanks. -/
def padT (s : ByteArray) : ByteArray := ⟨#[32, 32]⟩ ++ s ++ ⟨#[32, 32]⟩
theorem padT_size (s : ByteArray) : (padT s).size = s.size + 4 := by
  unfold padT
  rw [ByteArray.size_append, ByteArray.size_append]
  show 2 + s.size + 2 = _
  omega
theorem bt_app (a b : ByteArray) (k : Nat) : bt (a ++ b) k = if k < a.size then bt a k else bt b (k - a.size) := by
  have hz : (a ++ b).size = a.size + b.size := ByteArray.size_append
  by_cases h : k < a.size
  · rw [if_pos h, bt_at _ (show k < (a ++ b).size by omega), bt_at _ h, ByteArray.getElem_append_left h]
  · rw [if_neg h]
    by_cases h2 : k < a.size + b.size
    · rw [bt_at _ (show k < (a ++ b).size by omega), bt_at _ (show k - a.size < b.size by omega), ByteArray.getElem_append_right (by omega)]
    · unfold bt
      rw [dif_neg (by omega), dif_neg (by omega)]
theorem bt_32 (k : Nat) : bt ⟨#[32, 32]⟩ k = if k < 2 then 32 else 0 := by
  have e1 : (⟨#[32, 32]⟩ : ByteArray).size = 2 := rfl
  by_cases h : k < 2
  · rw [if_pos h]
    have : k = 0 ∨ k = 1 := by omega
    rcases this with rfl | rfl <;> rfl
  · rw [if_neg h]; unfold bt; rw [dif_neg (by omega)]
theorem padT_bt (s : ByteArray) (k : Nat) : bt (padT s) (k + 2) = if k < s.size then bt s k else if k < s.size + 2 then 32 else 0 := by
  have e1 : (⟨#[32, 32]⟩ : ByteArray).size = 2 := rfl
  have e2 : ((⟨#[32, 32]⟩ : ByteArray) ++ s).size = 2 + s.size := by rw [ByteArray.size_append, e1]
  unfold padT
  rw [bt_app, bt_app, e2, e1, bt_32]
  by_cases h : k < s.size
  · rw [if_pos (by omega), if_neg (by omega), if_pos h, Nat.add_sub_cancel]
  · rw [if_neg (by omega), if_neg h, bt_32]
    by_cases h2 : k < s.size + 2
    · rw [if_pos (by omega), if_pos h2]
    · rw [if_neg (by omega), if_neg h2]
theorem padT_ahead (s : ByteArray) {k : Nat} (h : k < 2) : bt (padT s) k = 32 := by
  have e1 : (⟨#[32, 32]⟩ : ByteArray).size = 2 := rfl
  have e2 : ((⟨#[32, 32]⟩ : ByteArray) ++ s).size = 2 + s.size := by rw [ByteArray.size_append, e1]
  unfold padT
  rw [bt_app, bt_app, e2, e1, if_pos (by omega), if_pos h, bt_32, if_pos h]
theorem lead_stop {p : Nat → Bool} : ∀ {b : Nat}, lead p b < b → p (lead p b) = false
  | 0, h => absurd h (by omega)
  | b + 1, h => by
    have hl := lead_le p b
    simp only [lead] at h ⊢
    by_cases e : lead p b = b ∧ p b = true
    · rw [if_pos e] at h; omega
    · rw [if_neg e] at h ⊢
      by_cases e2 : lead p b = b
      · rw [e2]
        cases hp : p b
        · rfl
        · exact absurd ⟨e2, hp⟩ e
      · exact lead_stop (by omega)
theorem bt_none (s : ByteArray) {k : Nat} (h : s.size ≤ k) : bt s k = 0 := by unfold bt; rw [dif_neg (by omega)]
theorem padT_digD (s : ByteArray) (k : Nat) : digD (padT s) (k + 2) = digD s k := by
  have hz := padT_size s
  unfold digD
  rw [padT_bt s k, hz]
  by_cases h : k < s.size
  · rw [if_pos h, decide_eq_true h, decide_eq_true (show k + 2 < s.size + 4 by omega)]
  · rw [if_neg h, decide_eq_false h]
    by_cases h2 : k < s.size + 2
    · rw [if_pos h2]; simp
    · rw [if_neg h2]; simp
theorem padT_nd (s : ByteArray) (q : Nat) (hq : q ≤ s.size) : nd (padT s) (q + 2) = nd s q := by
  have hl := nd_le s q
  apply nd_eq
  · intro j hj
    rw [show q + 2 + j = q + j + 2 by omega, padT_digD]
    exact nd_digs hj
  · rw [show q + 2 + nd s q = q + nd s q + 2 by omega, padT_digD]
    unfold nd
    rcases Nat.lt_or_ge (lead (fun j => digD s (q + j)) (s.size - q)) (s.size - q) with h | h
    · exact lead_stop h
    · exact digD_out s (by omega)
  · rw [padT_size]; omega
theorem padT_numTo (s : ByteArray) (q : Nat) : ∀ n, q + n ≤ s.size → numTo (padT s) (q + 2) n = numTo s q n
  | 0, _ => rfl
  | n + 1, h => by
    simp only [numTo]
    rw [padT_numTo s q n (by omega), show q + 2 + n = q + n + 2 by omega, padT_bt, if_pos (by omega)]
theorem padT_satTo (s : ByteArray) (q n : Nat) (h : q + n ≤ s.size) : satTo (padT s) (q + 2) n = satTo s q n := by
  unfold satTo
  rw [padT_numTo s q n h]
theorem padT_num (s : ByteArray) (p : Nat) (hp : p < s.size) : (numAtS (padT s) (p + 2)).1 = (numAtS s p).1 ∧ (numAtS (padT s) (p + 2)).2.1 = (numAtS s p).2.1 + 2 ∧ (numAtS (padT s) (p + 2)).2.2 = (numAtS s p).2.2 := by
  have hb : bt (padT s) (p + 2) = bt s p := by rw [padT_bt, if_pos hp]
  unfold numAtS
  dsimp only
  rw [hb]
  by_cases h : bt s p = 95
  · simp only [if_pos h]
    have := nd_le s (p + 1)
    rw [show p + 2 + 1 = p + 1 + 2 by omega, padT_nd s (p + 1) (by omega), padT_satTo s (p + 1) _ (by omega)]
    split
    · exact ⟨rfl, rfl, rfl⟩
    · split
      · exact ⟨rfl, by dsimp only; omega, rfl⟩
      · exact ⟨rfl, by dsimp only; omega, rfl⟩
  · simp only [if_neg h]
    have := nd_le s p
    rw [padT_nd s p (by omega), padT_satTo s p _ (by omega)]
    split
    · exact ⟨rfl, rfl, rfl⟩
    · split
      · exact ⟨rfl, by dsimp only; omega, rfl⟩
      · exact ⟨rfl, by dsimp only; omega, rfl⟩
theorem padT_tk (s : ByteArray) (p : Nat) (hp : p < s.size) : (tkAt (padT s) (p + 2)).1 = (tkAt s p).1 ∧ (tkAt (padT s) (p + 2)).2.1 = (tkAt s p).2.1 ∧ (tkAt (padT s) (p + 2)).2.2.1 = (tkAt s p).2.2.1 + 2 ∧ (tkAt (padT s) (p + 2)).2.2.2 = (tkAt s p).2.2.2 := by
  have hb : bt (padT s) (p + 2) = bt s p := by rw [padT_bt, if_pos hp]
  obtain ⟨n1, n2, n3⟩ := padT_num s p hp
  unfold tkAt
  rw [hb, padT_digD]
  by_cases h : digD s p = true ∨ bt s p = 95
  · rw [if_pos h, if_pos h]; exact ⟨n1.symm ▸ rfl, n1, n2, n3⟩
  · rw [if_neg h, if_neg h]
    repeat' split
    all_goals exact ⟨rfl, rfl, rfl, rfl⟩
/-- From a place on. -/
theorem padT_lex (s : ByteArray) : ∀ (f p : Nat) (acc l : List Spn) (n : Nat), s.size - p = f → p ≤ s.size → lexR s p acc = (l, 0, n) → lexR (padT s) (p + 2) acc = (l, 0, s.size + 4) := by
  intro f
  induction f using Nat.strongRecOn with
  | _ f ih =>
    intro p acc l n hf hp h
    have hz := padT_size s
    by_cases hlt : p < s.size
    · have hb : bt (padT s) (p + 2) = bt s p := by rw [padT_bt, if_pos hlt]
      by_cases h32 : bt s p = 32
      · rw [lexR_blank hlt h32] at h
        rw [lexR_blank (by omega) (by rw [hb]; exact h32), show p + 2 + 1 = p + 1 + 2 by omega]
        exact ih (s.size - (p + 1)) (by omega) (p + 1) acc l n rfl (by omega) h
      · obtain ⟨t1, t2, t3, t4⟩ := padT_tk s p hlt
        by_cases hc : (tkAt s p).2.2.2 = 0
        · have hn := tkAt_next s hlt hc
          rw [lexR_tok hlt h32 hc] at h
          rw [lexR_tok (by omega) (by rw [hb]; exact h32) (by rw [t4]; exact hc), t1, t2, t3]
          exact ih (s.size - (tkAt s p).2.2.1) (by omega) _ _ l n rfl hn.2 h
        · rw [lexR_bad hlt h32 hc] at h
          injection h with h1 h2
          injection h2 with h3 h4
          exact absurd h3 hc
    · have e : p = s.size := by omega
      subst e
      rw [lexR_end (Nat.le_refl _)] at h
      injection h with h1 h2
      subst h1
      rw [lexR_blank (by omega) (by rw [padT_bt, if_neg (by omega), if_pos (by omega)]), lexR_blank (by omega) (by rw [show s.size + 2 + 1 = s.size + 1 + 2 by omega, padT_bt, if_neg (by omega), if_pos (by omega)]), lexR_end (by omega), hz]
theorem padT_lexV (s : ByteArray) (hs : s.size ≤ 296) (hc : (lexV s).2.1 = 0) : lexV (padT s) = ((lexV s).1, 0, s.size + 4) := by
  have hz := padT_size s
  have e1 : lexV s = lexR s 0 [] := by unfold lexV; rw [if_neg (by omega)]
  have e2 : lexV (padT s) = lexR (padT s) 0 [] := by unfold lexV; rw [if_neg (by omega)]
  rw [e1] at hc ⊢
  rw [e2, lexR_blank (by omega) (padT_ahead s (by omega)), lexR_blank (by omega) (padT_ahead s (by omega))]
  have h : lexR s 0 [] = ((lexR s 0 []).1, 0, (lexR s 0 []).2.2) := by rw [← hc]
  exact padT_lex s _ 0 [] _ _ rfl (by omega) h
/-- A text whose code is not nought has no tokens. -/
theorem lexF_bad (s : ByteArray) : ∀ (f p : Nat) (acc : List Spn), (lexF s f p acc).2.1 ≠ 0 → (lexF s f p acc).1 = []
  | 0, p, acc, h => absurd rfl h
  | f + 1, p, acc, h => by
    simp only [lexF] at h ⊢
    split at h
    · rename_i h1
      rw [if_pos h1]
      split at h
      · rename_i h2; rw [if_pos h2]; exact lexF_bad s f _ _ h
      · rename_i h2
        rw [if_neg h2]
        split at h
        · rename_i h3; rw [if_pos h3]; exact lexF_bad s f _ _ h
        · rename_i h3; rw [if_neg h3]
    · exact absurd rfl h
theorem lexV_bad (s : ByteArray) (h : (lexV s).2.1 ≠ 0) : (lexV s).1 = [] := by
  unfold lexV at h ⊢
  by_cases hb : 300 < s.size
  · rw [if_pos hb]
  · rw [if_neg hb] at h ⊢
    exact lexF_bad s _ _ _ h
end Go.Proofs.YtcaidhmolnnikaaGreatDoor
