/-
  Walks: the specification's l13Next.
-/
import Derived.Test.YtmmjidhpmbcoiaaHeapK
namespace Go.Proofs.Ytmmjidhpmbcoiaa
open Go.RowKit
set_option linter.unusedVariables false
set_option linter.unusedSimpArgs false
/-- The first in order, from the number k on, among the first i cells: a. -/
def NxI (hs : List Nat) (k i : Nat) (a : Int) : Prop :=
  (a = -1 ∧ ∀ j, k ≤ j → j < hs.length → i ≤ hn hs j) ∨ ∃ j, k ≤ j ∧ j < hs.length ∧ a = (hn hs j : Int) ∧ hn hs j < i ∧ ∀ j', k ≤ j' → j' < hs.length → hn hs j' < i → j ≤ j'
section
variable {W : List Int} {t fr : Int} {n k i : Nat} {E : Nat → Cel} {hs : List Nat} {a : Int}
theorem hn_inj (ho : Ord E n hs) {i j : Nat} (hi : i < hs.length) (hj : j < hs.length) (e : hn hs i = hn hs j) : i = j := by
  by_cases h : i < j
  · exact absurd e (ord_ne ho h hj)
  · by_cases h2 : j < i
    · exact absurd e.symm (ord_ne ho h2 hi)
    · omega
theorem NxI.start : NxI hs k 0 (-1) := .inl ⟨rfl, fun j _ _ => Nat.zero_le _⟩
/-- The cell i is none of them. -/
theorem NxI.skip (h : NxI hs k i a) (hno : ∀ j, k ≤ j → j < hs.length → hn hs j ≠ i) : NxI hs k (i + 1) a := by
  rcases h with ⟨e, h⟩ | ⟨j, h1, h2, h3, h4, h5⟩
  · refine .inl ⟨e, fun j hj hl => ?_⟩
    have := h j hj hl
    have := hno j hj hl
    omega
  · refine .inr ⟨j, h1, h2, h3, by omega, fun j' a1 a2 a3 => h5 j' a1 a2 ?_⟩
    have := hno j' a1 a2
    omega
/-- The cell i is the one number q; none was yet. -/
theorem NxI.take0 (h : NxI hs k i (-1)) (ho : Ord E n hs) {q : Nat} (hq : k ≤ q) (hl : q < hs.length) (e : hn hs q = i) : NxI hs k (i + 1) (i : Int) := by
  rcases h with ⟨_, h⟩ | ⟨j, h1, h2, h3, _⟩
  · refine .inr ⟨q, hq, hl, by rw [e], by omega, fun j' a1 a2 a3 => ?_⟩
    have := h j' a1 a2
    have e2 : hn hs j' = hn hs q := by omega
    have := hn_inj ho a2 hl e2
    omega
  · omega
theorem NxI.at (h : NxI hs k i a) (ha : a ≠ -1) : ∃ j, k ≤ j ∧ j < hs.length ∧ a = (hn hs j : Int) ∧ hn hs j < i := by
  rcases h with ⟨e, _⟩ | ⟨j, h1, h2, h3, h4, _⟩
  · exact absurd e ha
  · exact ⟨j, h1, h2, h3, h4⟩
theorem f_lt (hk : hOk W.length t n E) (ho : Ord E n hs) {p q : Nat} (hp : p < hs.length) (hq : q < hs.length) : (E (hn hs p)).f < (E (hn hs q)).f ↔ p < q := by
  constructor
  · intro h
    apply Classical.byContradiction
    intro hn'
    by_cases e : p = q
    · subst e; omega
    · have := ok_behind hk ho (show q < p by omega) hp
      have := ok_ends hk ho hq
      omega
  · intro h
    have := ok_behind hk ho h hq
    have := ok_ends hk ho hp
    omega
theorem NxI.take (h : NxI hs k i a) (ha : a ≠ -1) (hk : hOk W.length t n E) (ho : Ord E n hs) {q : Nat} (hq : k ≤ q) (hl : q < hs.length) (e : hn hs q = i) (hlt : (E i).f < (E a.toNat).f) : NxI hs k (i + 1) (i : Int) := by
  rcases h with ⟨e', _⟩ | ⟨j, h1, h2, h3, h4, h5⟩
  · exact absurd e' ha
  · have hqj : q < j := (f_lt hk ho hl h2).1 (by rw [e]; rw [h3] at hlt; simpa using hlt)
    refine .inr ⟨q, hq, hl, by rw [e], by omega, fun j' a1 a2 a3 => ?_⟩
    by_cases e2 : hn hs j' < i
    · have := h5 j' a1 a2 e2; omega
    · have := hn_inj ho a2 hl (by omega); omega
theorem NxI.leave (h : NxI hs k i a) (ha : a ≠ -1) (hk : hOk W.length t n E) (ho : Ord E n hs) {q : Nat} (hq : k ≤ q) (hl : q < hs.length) (e : hn hs q = i) (hlt : ¬ (E i).f < (E a.toNat).f) : NxI hs k (i + 1) a := by
  rcases h with ⟨e', _⟩ | ⟨j, h1, h2, h3, h4, h5⟩
  · exact absurd e' ha
  · have hqj : ¬ q < j := fun hh => hlt (by rw [h3, ← e]; simpa using (f_lt hk ho hl h2).2 hh)
    refine .inr ⟨j, h1, h2, h3, by omega, fun j' a1 a2 a3 => ?_⟩
    by_cases e2 : hn hs j' < i
    · exact h5 j' a1 a2 e2
    · have := hn_inj ho a2 hl (by omega); omega
theorem NxI.done (h : NxI hs k n a) (ho : Ord E n hs) : a = if k < hs.length then (hn hs k : Int) else -1 := by
  by_cases hk : k < hs.length
  · rw [if_pos hk]
    have hlt : hn hs k < n := (ord_get ho hk).1
    rcases h with ⟨_, h⟩ | ⟨j, h1, h2, h3, h4, h5⟩
    · have := h k (Nat.le_refl _) hk; omega
    · have := h5 k (Nat.le_refl _) hk hlt
      obtain rfl : j = k := by omega
      exact h3
  · rw [if_neg hk]
    rcases h with ⟨e, _⟩ | ⟨j, h1, h2, _⟩
    · exact e
    · omega
end
set_option maxRecDepth 20000 in
set_option maxHeartbeats 16000000 in
theorem next_spec {w : World} {v : Value} {W : List Int} {t : Int} {n : Nat} {E : Nat → Cel} {hs : List Nat} (h : HI w v W t n E) (hk : hOk W.length t n E) (ho : Ord E n hs) {k : Nat} {fr : Int} (h1 : ∀ j, j < k → j < hs.length → (E (hn hs j)).f < fr) (h2 : ∀ j, k ≤ j → j < hs.length → fr ≤ (E (hn hs j)).f) :
    Calls Try.prog 98 #[v, .int .i64 fr] w fun e w' => e = .returned (.int .i64 (if k < hs.length then (hn hs k : Int) else -1)) ∧ Below w.heap.size w w' := by
  obtain ⟨wa, wc, ca, cc, rfl, g1, g2, g3, g4⟩ := h
  have H3 : Hid (CsA w ca n E) := g3
  have HK : Hid (hOk W.length t n E) := hk
  have HO : Hid (Ord E n hs) := ho
  have H1 : Hid (∀ j, j < k → j < hs.length → (E (hn hs j)).f < fr) := h1
  have H2 : Hid (∀ j, k ≤ j → j < hs.length → fr ≤ (E (hn hs j)).f) := h2
  have n200 : n ≤ 200 := hk.2.2.2.1
  obtain ⟨R, hR⟩ : ∃ R : Int, R = if k < hs.length then (hn hs k : Int) else -1 := ⟨_, rfl⟩
  rw [← hR]
  have HR : Hid (R = if k < hs.length then (hn hs k : Int) else -1) := hR
  clear g1 g2 g3 g4 hk ho h1 h2 hR
  go_enter Try.func98, Try.ntmps98
  go_wp2
  generalize hW1 : w.alloc (.cells #[.slice wa W.length wc, .int .i64 t, .slice ca n cc] 28) = w1
  have X1 : Hid (Box3 w1 w.heap.size (.slice wa W.length wc) (.int .i64 t) (.slice ca n cc) 28) := by rw [← hW1]; exact box3_new _ _ _ _ _
  have B1 : Hid (Below w.heap.size w w1) := by rw [← hW1]; exact bAlloc (Below.refl _ _) _
  clear hW1
  go_loopw [5, 6] (fun a i w' => ∃ (q : Nat) (x : Int), q ≤ n ∧ i = .int .i64 (q : Int) ∧ a = .int .i64 x ∧ NxI hs k q x ∧ Box3 w' w.heap.size (.slice wa W.length wc) (.int .i64 t) (.slice ca n cc) 28 ∧ Below w.heap.size w w') (fun _ i _ => n - (intOf i).toNat)
  case atStart => exact ⟨0, -1, by omega, rfl, rfl, NxI.start, X1.out, B1.out⟩
  case round =>
    clear X1 B1
    obtain ⟨q, x, hq, rfl, rfl, hN, hX, hB⟩ := hrel
    have NK : Hid (NxI hs k q x) := hN
    have XK : Hid (Box3 wr w.heap.size (.slice wa W.length wc) (.int .i64 t) (.slice ca n cc) 28) := hX
    have BK : Hid (Below w.heap.size w wr) := hB
    clear hN hX hB
    have x2 := XK.out.c2
    by_cases hlt : (q : Int) < (n : Int)
    · have L : q < n := by omega
      obtain ⟨o, off, rfl, hoo, p0, p1, p2⟩ := (H3.out.keep BK.out).at L
      obtain ⟨W2, hW2⟩ : ∃ W2, W2 = wr.alloc (.cells #[.int .i64 (E q).f, .int .i64 (E q).l, .bool (E q).v] 47) := ⟨_, rfl⟩
      have BW : Below wr.heap.size wr W2 := by rw [hW2]; exact bAlloc (Below.refl _ _) _
      have B2 : Hid (Below w.heap.size w W2) := bTrans BK.out BW
      have X2 : Hid (Box3 W2 w.heap.size (.slice wa W.length wc) (.int .i64 t) (.slice (some ⟨o, off, none⟩) n cc) 28) := XK.out.keep BW
      have Y2 : Hid (Box3 W2 wr.heap.size (.int .i64 (E q).f) (.int .i64 (E q).l) (.bool (E q).v) 47) := by rw [hW2]; exact box3_new _ _ _ _ _
      have CX : Hid (∀ z : Nat, z < n → W2.cell? ⟨o, off + z * 3, none⟩ = some (.int .i64 (E z).f)) := fun z hz => by
        obtain ⟨o', off', e, _, c0, _⟩ := (H3.out.keep B2.out).at hz
        cases e; exact c0
      have QL : Hid ((E q).v = true → fr ≤ (E q).f → ∃ j, k ≤ j ∧ j < hs.length ∧ hn hs j = q) := fun hv hf => by
        obtain ⟨j, hj, e⟩ := ord_at HO.out L hv
        refine ⟨j, ?_, hj, e⟩
        apply Classical.byContradiction
        intro hh
        have := H1.out j (by omega) hj
        rw [show hn hs j = q from e] at this
        omega
      have QN : Hid (((E q).v = false ∨ ¬ fr ≤ (E q).f) → ∀ j, k ≤ j → j < hs.length → hn hs j ≠ q) := fun hc j hj hl e => by
        rcases hc with hc | hc
        · have := (ord_get HO.out hl).2
          rw [show hs.getD j 0 = q from e, hc] at this; cases this
        · have := H2.out j hj hl
          rw [e] at this; exact hc this
      go_wp2_with fail
      rw [← hW2]
      have y0 := Y2.out.c0
      have y2 := Y2.out.c2
      have z2 := X2.out.c2
      clear x2 p0 p1 p2
      clear hW2 BW hoo
      generalize hf : (E q).f = f at *
      generalize hv : (E q).v = b at *
      cases b with
      | false =>
        have NX : Hid (NxI hs k (q + 1) x) := NK.out.skip (QN.out (.inl rfl))
        go_quiet (fail)
        generalize hWD : W2.drewN nq = wd
        have XD : Hid (Box3 wd w.heap.size (.slice wa W.length wc) (.int .i64 t) (.slice (some ⟨o, off, none⟩) n cc) 28) := by rw [← hWD]; exact X2.out
        have BD : Hid (Below w.heap.size w wd) := by rw [← hWD]; exact bDrewN B2.out nq
        clear hWD
        go_wp2
        go_roundw
        case rel => exact ⟨q + 1, _, by omega, by go_num, rfl, NX.out, XD.out, BD.out⟩
        case measure => simp [intOf]; omega
      | true =>
        by_cases c1 : f ≥ fr
        case neg =>
          have NX : Hid (NxI hs k (q + 1) x) := NK.out.skip (QN.out (.inr (by omega)))
          go_quiet (fail)
          generalize hWD : W2.drewN nq = wd
          have XD : Hid (Box3 wd w.heap.size (.slice wa W.length wc) (.int .i64 t) (.slice (some ⟨o, off, none⟩) n cc) 28) := by rw [← hWD]; exact X2.out
          have BD : Hid (Below w.heap.size w wd) := by rw [← hWD]; exact bDrewN B2.out nq
          clear hWD
          go_wp2
          go_roundw
          case rel => exact ⟨q + 1, _, by omega, by go_num, rfl, NX.out, XD.out, BD.out⟩
          case measure => simp [intOf]; omega
        case pos =>
        obtain ⟨j, hj1, hj2, hj3⟩ := QL.out rfl c1
        by_cases c2 : x = -1
        · subst c2
          have NX : Hid (NxI hs k (q + 1) (q : Int)) := NK.out.take0 HO.out hj1 hj2 hj3
          go_quiet (fail)
          generalize hWD : W2.drewN nq = wd
          have XD : Hid (Box3 wd w.heap.size (.slice wa W.length wc) (.int .i64 t) (.slice (some ⟨o, off, none⟩) n cc) 28) := by rw [← hWD]; exact X2.out
          have BD : Hid (Below w.heap.size w wd) := by rw [← hWD]; exact bDrewN B2.out nq
          clear hWD
          go_wp2
          go_roundw
          case rel => exact ⟨q + 1, _, by omega, by go_num, rfl, NX.out, XD.out, BD.out⟩
          case measure => simp [intOf]; omega
        · obtain ⟨j2, b1, b2, rfl, b4⟩ := NK.out.at c2
          have z9 := CX.out (hn hs j2) (by omega)
          have s1 : (hn hs j2 : Int) < (n : Int) := by omega
          have s2 : ¬ ((hn hs j2 : Int) < 0) := by omega
          have ft : ∀ z : Int, z = (hn hs j2 : Int) → (E z.toNat).f = (E (hn hs j2)).f := fun z hz => by rw [hz]; simp
          by_cases c3 : f < (E (hn hs j2)).f
          · have NX : Hid (NxI hs k (q + 1) (q : Int)) := NK.out.take c2 HK.out HO.out hj1 hj2 hj3 (by rw [ft _ rfl, hf]; exact c3)
            clear ft
            generalize (E (hn hs j2)).f = f2 at *
            generalize hn hs j2 = z at *
            go_quiet (fail)
            generalize hWD : W2.drewN nq = wd
            have XD : Hid (Box3 wd w.heap.size (.slice wa W.length wc) (.int .i64 t) (.slice (some ⟨o, off, none⟩) n cc) 28) := by rw [← hWD]; exact X2.out
            have BD : Hid (Below w.heap.size w wd) := by rw [← hWD]; exact bDrewN B2.out nq
            clear hWD
            go_wp2
            go_roundw
            case rel => exact ⟨q + 1, _, by omega, by go_num, rfl, NX.out, XD.out, BD.out⟩
            case measure => simp [intOf]; omega
          · have NX : Hid (NxI hs k (q + 1) (hn hs j2 : Int)) := NK.out.leave c2 HK.out HO.out hj1 hj2 hj3 (by rw [ft _ rfl, hf]; exact c3)
            clear ft
            generalize (E (hn hs j2)).f = f2 at *
            generalize hn hs j2 = z at *
            go_quiet (fail)
            generalize hWD : W2.drewN nq = wd
            have XD : Hid (Box3 wd w.heap.size (.slice wa W.length wc) (.int .i64 t) (.slice (some ⟨o, off, none⟩) n cc) 28) := by rw [← hWD]; exact X2.out
            have BD : Hid (Below w.heap.size w wd) := by rw [← hWD]; exact bDrewN B2.out nq
            clear hWD
            go_wp2
            go_roundw
            case rel => exact ⟨q + 1, _, by omega, by go_num, rfl, NX.out, XD.out, BD.out⟩
            case measure => simp [intOf]; omega
    · obtain rfl : q = n := by omega
      have DN : x = R := (NK.out.done HO.out).trans HR.out.symm
      subst DN
      go_wp2
      go_ret
      exact ⟨rfl, BK.out⟩
end Go.Proofs.Ytmmjidhpmbcoiaa
