
/-
  Walks: the program's VarsOk; lists of letters held against each other.
-/
import Derived.Test.YtmknleholglhbaaVarsQ
namespace Go.Proofs.Ytmknleholglhbaa
open Go.RowKit Go.Shelf
set_option linter.unusedVariables false
set_option linter.unusedSimpArgs false
set_option maxRecDepth 20000 in
set_option maxHeartbeats 4000000 in
/-- Two letters. -/
theorem eqVar_same {b : Bool} {s d : List Int} {w : World} {xa ya xa' ya' : Option Addr} {xc yc xc' yc' : Nat} (h : ArrI w (.agg #[.slice xa s.length xc, .slice ya d.length yc]) s d) (k : ArrI w (.agg #[.slice xa' s.length xc', .slice ya' d.length yc']) s d) (hs : s.length ≤ 1048576) (hd : d.length ≤ 1048576) :
    Calls Try.prog 18 #[.agg #[.bool b, .slice xa s.length xc, .slice ya d.length yc], .agg #[.bool b, .slice xa' s.length xc', .slice ya' d.length yc']] w fun e w' => e = .returned (.bool true) ∧ Below w.heap.size w w' := by
  have H : Hid (ArrI w (.agg #[.slice xa s.length xc, .slice ya d.length yc]) s d) := h
  have K : Hid (ArrI w (.agg #[.slice xa' s.length xc', .slice ya' d.length yc']) s d) := k
  have HL : Hid (s.length ≤ 1048576 ∧ d.length ≤ 1048576) := ⟨hs, hd⟩
  have hbb : (b != b) = false := by simp
  clear h k
  go_enter Try.func18, Try.ntmps18
  go_wp2_with fail
  refine (eq_arrI (H.out.keep (bAlloc (bAlloc (Below.refl _ _) _) _)) (K.out.keep (bAlloc (bAlloc (Below.refl _ _) _) _)) HL.out.1 HL.out.2).mono ?_
  rintro r w3 ⟨rfl, hb⟩
  have B3 : Hid (Below w.heap.size w w3) := bTrans (bAlloc (bAlloc (Below.refl _ _) _) _) hb
  clear hb
  go_wp2
  go_ret
  exact ⟨rfl, B3.out⟩
set_option maxRecDepth 20000 in
set_option maxHeartbeats 4000000 in
/-- Two lists of the same letters. -/
theorem eqVarS_same {w : World} {v u : Value} {n : Nat} {B : Nat → Bool} {S D : Nat → List Int} (h : VarsI w v n B S D) (k : VarsI w u n B S D) (hl : ∀ i, (S i).length ≤ 1048576 ∧ (D i).length ≤ 1048576) (hn : n ≤ 1048576) :
    Calls Try.prog 9 #[v, u] w fun e w' => e = .returned (.bool true) ∧ Below w.heap.size w w' := by
  have H : Hid (VarsI w v n B S D) := h
  have K : Hid (VarsI w u n B S D) := k
  have HL : Hid (∀ i, (S i).length ≤ 1048576 ∧ (D i).length ≤ 1048576) := hl
  obtain ⟨a, c, rfl, _⟩ := h
  obtain ⟨a', c', rfl, _⟩ := k
  clear hl
  go_enter Try.func9, Try.ntmps9
  go_wp2
  go_loopw [5] (fun i w' => ∃ k : Nat, k ≤ n ∧ i = .int .i64 (k : Int) ∧ Below w.heap.size w w') (fun i _ => n - (intOf i).toNat)
  case atStart => exact ⟨0, by omega, rfl, Below.refl _ _⟩
  case round =>
    obtain ⟨k, hk, rfl, hb⟩ := hrel
    have HB : Hid (Below w.heap.size w wr) := hb
    clear hb
    by_cases hlt : (k : Int) < (n : Int)
    · have L : k < n := by omega
      obtain ⟨o, off, xa, xc, ya, yc, rfl, ho, p0, p1, p2, ar⟩ := (H.out.keep HB.out).at L
      obtain ⟨o', off', xa', xc', ya', yc', rfl, ho', q0, q1, q2, ar'⟩ := (K.out.keep HB.out).at L
      have AR : Hid (ArrI wr (.agg #[.slice xa (S k).length xc, .slice ya (D k).length yc]) (S k) (D k)) := ar
      have AK : Hid (ArrI wr (.agg #[.slice xa' (S k).length xc', .slice ya' (D k).length yc']) (S k) (D k)) := ar'
      have LL : Hid ((S k).length ≤ 1048576 ∧ (D k).length ≤ 1048576) := HL.out k
      have HO : Hid (o < wr.heap.size ∧ o' < wr.heap.size) := ⟨ho, ho'⟩
      clear ar ar' ho ho'
      generalize S k = s at *
      generalize D k = d at *
      generalize B k = b at *
      have SK : Hid (∀ W, Below wr.heap.size wr W → W.cell? ⟨o, off + k * 3, none⟩ = some (.bool b) ∧ W.cell? ⟨o, off + k * 3 + 1, none⟩ = some (.slice xa s.length xc) ∧ W.cell? ⟨o, off + k * 3 + 2, none⟩ = some (.slice ya d.length yc) ∧ W.cell? ⟨o', off' + k * 3, none⟩ = some (.bool b) ∧ W.cell? ⟨o', off' + k * 3 + 1, none⟩ = some (.slice xa' s.length xc') ∧ W.cell? ⟨o', off' + k * 3 + 2, none⟩ = some (.slice ya' d.length yc')) := fun W hb =>
        ⟨(hb.cell (p := ⟨o, off + k * 3, none⟩) HO.out.1).trans p0, (hb.cell (p := ⟨o, off + k * 3 + 1, none⟩) HO.out.1).trans p1, (hb.cell (p := ⟨o, off + k * 3 + 2, none⟩) HO.out.1).trans p2, (hb.cell (p := ⟨o', off' + k * 3, none⟩) HO.out.2).trans q0, (hb.cell (p := ⟨o', off' + k * 3 + 1, none⟩) HO.out.2).trans q1, (hb.cell (p := ⟨o', off' + k * 3 + 2, none⟩) HO.out.2).trans q2⟩
      go_wp2_with fail
      go_region_held3 (fun w' => w'.cell? ⟨o, off + k * 3, none⟩ = some (.bool b) ∧ w'.cell? ⟨o, off + k * 3 + 1, none⟩ = some (.slice xa s.length xc) ∧ w'.cell? ⟨o, off + k * 3 + 2, none⟩ = some (.slice ya d.length yc) ∧ w'.cell? ⟨o', off' + k * 3, none⟩ = some (.bool b) ∧ w'.cell? ⟨o', off' + k * 3 + 1, none⟩ = some (.slice xa' s.length xc') ∧ w'.cell? ⟨o', off' + k * 3 + 2, none⟩ = some (.slice ya' d.length yc'))
        ((refine SK.out _ ?_; (repeat first | with_reducible exact HB2.out | with_reducible exact Below.refl _ _ | with_reducible refine Below.drew ?_)))
        ((go_at_call 18; refine (eqVar_same (AR.out.keep ((Below.refl wr.heap.size wr).drew)) (AK.out.keep ((Below.refl wr.heap.size wr).drew)) LL.out.1 LL.out.2).mono ?_; rintro r w2 ⟨rfl, hb⟩; have HB2 : Hid (Below wr.heap.size wr w2) := bTrans ((Below.refl wr.heap.size wr).drew) hb; clear hb))
      all_goals
        go_wp2
        go_roundw
        case rel => exact ⟨k + 1, by omega, by go_num, bTrans HB.out HB2.out⟩
        case measure => simp [intOf]; omega
    · go_wp2
      go_ret
      exact ⟨rfl, HB.out⟩
end Go.Proofs.Ytmknleholglhbaa
