/-
  Walks: the program's HeapOk.
-/
import Derived.Test.YtmmjidhpmbcoiaaHeapI2
namespace Go.Proofs.Ytmmjidhpmbcoiaa
open Go.RowKit
set_option linter.unusedVariables false
set_option linter.unusedSimpArgs false
/-- Plain: what is in use, in its order, each behind the one ahead of it, shares no word. -/
def behindAll (E : Nat → Cel) (hs : List Nat) (k : Nat) : Prop := ∀ i j, i < j → j < k → (E (hs.getD i 0)).f + (E (hs.getD i 0)).l ≤ (E (hs.getD j 0)).f
theorem behindAll.zero (E : Nat → Cel) (hs : List Nat) : behindAll E hs 0 := fun i j _ hj => absurd hj (by omega)
theorem behindAll.next {E : Nat → Cel} {hs : List Nat} {k : Nat} (h : behindAll E hs k) (hl : ∀ i, i < k → 1 ≤ (E (hs.getD i 0)).l) (hk : k = 0 ∨ (E (hs.getD (k - 1) 0)).f + (E (hs.getD (k - 1) 0)).l ≤ (E (hs.getD k 0)).f) : behindAll E hs (k + 1) := by
  intro i j hij hj
  by_cases e : j = k
  · subst e
    rcases hk with hk | hk
    · omega
    · by_cases e2 : i = j - 1
      · subst e2; exact hk
      · have h1 := h i (j - 1) (by omega) (by omega)
        have h2 := hl (j - 1) (by omega)
        omega
  · exact h i j hij (by omega)
theorem ord_get {E : Nat → Cel} {n : Nat} {hs : List Nat} (h : Ord E n hs) {k : Nat} (hk : k < hs.length) : hs.getD k 0 < n ∧ (E (hs.getD k 0)).v = true := by
  have : hs.getD k 0 ∈ hs := by rw [List.getD_eq_getElem?_getD, List.getElem?_eq_getElem hk]; exact List.getElem_mem hk
  exact liv_mem.1 (h.1.mem_iff.1 this)
theorem ord_le {E : Nat → Cel} {n : Nat} {hs : List Nat} (h : Ord E n hs) {i j : Nat} (hij : i < j) (hj : j < hs.length) : (E (hs.getD i 0)).f ≤ (E (hs.getD j 0)).f := by
  have := List.pairwise_iff_getElem.1 h.2 i j (by omega) hj hij
  rw [List.getD_eq_getElem?_getD, List.getD_eq_getElem?_getD, List.getElem?_eq_getElem (by omega), List.getElem?_eq_getElem hj]
  exact this
theorem liv_nodup (E : Nat → Cel) (n : Nat) : (liv E n).Nodup := List.nodup_range.sublist List.filter_sublist
theorem ord_at {E : Nat → Cel} {n : Nat} {hs : List Nat} (h : Ord E n hs) {i : Nat} (hi : i < n) (hv : (E i).v = true) : ∃ k, k < hs.length ∧ hs.getD k 0 = i := by
  have : i ∈ hs := h.1.mem_iff.2 (liv_mem.2 ⟨hi, hv⟩)
  obtain ⟨k, hk, e⟩ := List.getElem_of_mem this
  exact ⟨k, hk, by rw [List.getD_eq_getElem?_getD, List.getElem?_eq_getElem hk]; exact e⟩
theorem ord_ne {E : Nat → Cel} {n : Nat} {hs : List Nat} (h : Ord E n hs) {i j : Nat} (hij : i < j) (hj : j < hs.length) : hs.getD i 0 ≠ hs.getD j 0 := by
  have nd : hs.Nodup := h.1.nodup_iff.2 (liv_nodup E n)
  rw [List.getD_eq_getElem?_getD, List.getD_eq_getElem?_getD, List.getElem?_eq_getElem (by omega), List.getElem?_eq_getElem hj]
  exact List.pairwise_iff_getElem.1 nd i j (by omega) hj hij
/-- All went well: the heap is right. -/
theorem ok_ord {m : Nat} {t : Int} {n : Nat} {E : Nat → Cel} {hs : List Nat} (h1 : m ≤ 6000) (h2 : 0 ≤ t) (h3 : t ≤ m) (h4 : n ≤ 200) (hf : ∀ i, i < n → fit t (E i)) (ho : Ord E n hs) (hb : behindAll E hs hs.length) : hOk m t n E := by
  refine ⟨h1, h2, h3, h4, hf, fun i j hij hj hi' hj' => ?_⟩
  obtain ⟨a, ha, ea⟩ := ord_at ho (by omega) hi'
  obtain ⟨b, hb', eb⟩ := ord_at ho hj hj'
  by_cases e : a < b
  · have := hb a b e hb'
    rw [ea, eb] at this
    exact .inl this
  · by_cases e2 : b < a
    · have := hb b a e2 ha
      rw [ea, eb] at this
      exact .inr this
    · exfalso
      obtain rfl : a = b := by omega
      omega
/-- One begins ahead of the end of the one ahead of it: the heap is not right. -/
theorem not_ok_ord {m : Nat} {t : Int} {n : Nat} {E : Nat → Cel} {hs : List Nat} (ho : Ord E n hs) {k : Nat} (hk : k + 1 < hs.length) (hlt : (E (hs.getD (k + 1) 0)).f < (E (hs.getD k 0)).f + (E (hs.getD k 0)).l) : ¬ hOk m t n E := by
  rintro ⟨_, _, _, _, hf, ha⟩
  obtain ⟨a1, a2⟩ := ord_get ho (show k < hs.length by omega)
  obtain ⟨b1, b2⟩ := ord_get ho hk
  have hne := ord_ne ho (show k < k + 1 by omega) hk
  have hle := ord_le ho (show k < k + 1 by omega) hk
  have fa := (hf _ a1).2 a2
  have fb := (hf _ b1).2 b2
  by_cases e : hs.getD k 0 < hs.getD (k + 1) 0
  · have := ha _ _ e b1 a2 b2
    omega
  · have := ha _ _ (show hs.getD (k + 1) 0 < hs.getD k 0 by omega) a1 b2 a2
    omega
theorem nI_get {hs : List Nat} {k : Nat} : (nI hs).getD k 0 = ((hs.getD k 0 : Nat) : Int) := by
  unfold nI
  rw [List.getD_eq_getElem?_getD, List.getD_eq_getElem?_getD, List.getElem?_map]
  cases hs[k]? <;> rfl
set_option maxRecDepth 20000 in
set_option maxHeartbeats 16000000 in
theorem heapOk_impl (hS : SortsBy) (hS0 : SortsNone) {w : World} {v : Value} {W : List Int} {t : Int} {n : Nat} {E : Nat → Cel} (h : HI w v W t n E) (he : (∀ i, in64 (E i).f ∧ in64 (E i).l) ∧ in64 t) (hW : W.length ≤ 1048576) (hn : n ≤ 1048576) :
    Calls Try.prog 16 #[v] w fun e w' => e = .returned (.bool (hOkB W.length t n E)) ∧ Below w.heap.size w w' := by
  have H0 : Hid (HI w v W t n E) := h
  obtain ⟨wa, wc, ca, cc, rfl, h1, h2, h3, h4⟩ := h
  have H3 : Hid (CsA w ca n E) := h3
  have HE : Hid ((∀ i, in64 (E i).f ∧ in64 (E i).l) ∧ in64 t) := he
  have HS : Hid (SortsBy ∧ SortsNone) := ⟨hS, hS0⟩
  clear h1 h2 h3 h4 he hS hS0
  obtain ⟨m, hm⟩ : ∃ m, m = W.length := ⟨_, rfl⟩
  rw [← hm] at hW ⊢
  have HI2 : Hid (∀ W' : World, Below w.heap.size w W' → HI W' (.agg #[.slice wa m wc, .int .i64 t, .slice ca n cc]) W t n E) := fun W' hb => by rw [hm]; exact H0.out.keep hb
  clear hm H0
  by_cases c1 : (m : Int) > 6000
  · rw [hOkB_false (fun h => by have := h.1; omega)]
    go_enter Try.func16, Try.ntmps16
    go_wp2
    go_ret
    exact ⟨rfl, bAlloc (Below.refl _ _) _⟩
  by_cases c2 : t < 0
  · rw [hOkB_false (fun h => by have := h.2.1; omega)]
    go_enter Try.func16, Try.ntmps16
    go_wp2
    go_ret
    exact ⟨rfl, bAlloc (Below.refl _ _) _⟩
  by_cases c3 : t > (m : Int)
  · rw [hOkB_false (fun h => by have := h.2.2.1; omega)]
    go_enter Try.func16, Try.ntmps16
    go_wp2
    go_ret
    exact ⟨rfl, bAlloc (Below.refl _ _) _⟩
  by_cases c4 : (n : Int) > 200
  · rw [hOkB_false (fun h => by have := h.2.2.2.1; omega)]
    go_enter Try.func16, Try.ntmps16
    go_wp2
    go_ret
    exact ⟨rfl, bAlloc (Below.refl _ _) _⟩
  have OK : Hid (∀ hs, (∀ i, i < n → fit t (E i)) → Ord E n hs → behindAll E hs hs.length → hOkB m t n E = true) := fun hs hf ho hb => hOkB_true (ok_ord (by omega) (by omega) (by omega) (by omega) hf ho hb)
  go_enter Try.func16, Try.ntmps16
  go_wp2
  generalize hW1 : w.alloc (.cells #[.slice wa m wc, .int .i64 t, .slice ca n cc] 28) = w1
  have X1 : Hid (Box3 w1 w.heap.size (.slice wa m wc) (.int .i64 t) (.slice ca n cc) 28) := by rw [← hW1]; exact box3_new _ _ _ _ _
  have B1 : Hid (Below w.heap.size w w1) := by rw [← hW1]; exact bAlloc (Below.refl _ _) _
  clear hW1
  go_loopw [34] (fun i w' => ∃ k : Nat, k ≤ n ∧ i = .int .i64 (k : Int) ∧ Box3 w' w.heap.size (.slice wa m wc) (.int .i64 t) (.slice ca n cc) 28 ∧ (∀ i, i < k → fit t (E i)) ∧ Below w.heap.size w w') (fun i _ => n - (intOf i).toNat)
  case atStart => exact ⟨0, by omega, rfl, X1.out, fun i hi => absurd hi (by omega), B1.out⟩
  case round =>
    clear X1 B1
    obtain ⟨k, hk, rfl, hX, hF, hB⟩ := hrel
    have XK : Hid (Box3 wr w.heap.size (.slice wa m wc) (.int .i64 t) (.slice ca n cc) 28) := hX
    have FK : Hid (∀ i, i < k → fit t (E i)) := hF
    have BK : Hid (Below w.heap.size w wr) := hB
    clear hX hF hB
    by_cases hlt : (k : Int) < (n : Int)
    · have L : k < n := by omega
      obtain ⟨o, off, rfl, ho, p0, p1, p2⟩ := (H3.out.keep BK.out).at L
      clear ho
      have FI : Hid (∀ W', Calls Try.prog 48 #[.agg #[.int .i64 (E k).f, .int .i64 (E k).l, .bool (E k).v], .int .i64 t] W' fun e w' => e = .returned (.bool (fitB t (E k))) ∧ Below W'.heap.size W' w') := fun W' => fits_impl t _ _ _ W' (by omega) (HE.out.1 k).1 (HE.out.1 k).2
      have EF : Hid (fitB t (E k) = true → ∀ i, i < k + 1 → fit t (E i)) := fun h i hi => by
        by_cases e : i = k
        · subst e; exact fitB_iff.1 h
        · exact FK.out i (by omega)
      have EN : Hid (fitB t (E k) = false → hOkB m t n E = false) := fun h => hOkB_false (not_ok_fit L fun hh => by rw [fitB_true hh] at h; cases h)
      generalize fitB t (E k) = R at *
      generalize (E k).f = f at *
      generalize (E k).l = l at *
      generalize (E k).v = b at *
      have y1 : ∀ ob : Obj, (wr.alloc ob).cell? ⟨w.heap.size, 1, none⟩ = some (.int .i64 t) := fun ob => (XK.out.alloc ob).c1
      go_wp2_with fail
      refine (FI.out _).mono ?_
      rintro r w2 ⟨rfl, hb⟩
      have X2 : Hid (Box3 w2 w.heap.size (.slice wa m wc) (.int .i64 t) (.slice (some ⟨o, off, none⟩) n cc) 28) := (XK.out.alloc _).keep hb
      have B2 : Hid (Below w.heap.size w w2) := bTrans (bAlloc BK.out _) hb
      clear hb y1
      cases R with
      | true =>
        have F2 : Hid (∀ i, i < k + 1 → fit t (E i)) := EF.out rfl
        go_wp2
        go_roundw
        case rel => exact ⟨k + 1, by omega, by go_num, X2.out, F2.out, B2.out⟩
        case measure => simp [intOf]; omega
      | false =>
        have OF : Hid (hOkB m t n E = false) := EN.out rfl
        go_wp2
        go_ret
        exact ⟨ret_b OF.out.symm, B2.out⟩
    · obtain rfl : k = n := by omega
      have x0 := XK.out.c0
      have x1 := XK.out.c1
      have x2 := XK.out.c2
      go_wp2_with fail
      refine (inOrder_impl HS.out.1 HS.out.2 (HI2.out _ BK.out) (by omega)).mono ?_
      rintro r w2 ⟨u, hs, rfl, hN, hO, hb⟩
      have N2 : Hid (NewInts wr.heap.size w2 u (nI hs)) := hN
      have OO : Hid (Ord E k hs) := hO
      have X2 : Hid (Box3 w2 w.heap.size (.slice wa m wc) (.int .i64 t) (.slice ca k cc) 28) := XK.out.keep hb
      have B2 : Hid (Below w.heap.size w w2) := bTrans BK.out hb
      have LH : Hid (hs.length ≤ k) := by show _ ≤ _; rw [hO.1.length_eq]; exact liv_len E k
      obtain ⟨ua, uc, rfl, iu⟩ := hN.ints
      have I2 : Hid (Ints w2 ua (nI hs)) := iu
      clear hN hO hb iu x0 x1 x2
      have LE : Hid ((nI hs).length = hs.length) := nI_len hs
      rw [LE.out]
      go_wp2
      go_loopw [5, 47] (fun bh i w' => ∃ (q : Nat) (B : Int), q ≤ hs.length ∧ i = .int .i64 (q : Int) ∧ bh = .int .i64 B ∧ Box3 w' w.heap.size (.slice wa m wc) (.int .i64 t) (.slice ca k cc) 28 ∧ Ints w' ua (nI hs) ∧ ((q = 0 ∧ B = 0 ∨ 0 < q ∧ B = (E (hs.getD (q - 1) 0)).f + (E (hs.getD (q - 1) 0)).l) ∧ behindAll E hs q) ∧ Below w.heap.size w w') (fun _ i _ => hs.length - (intOf i).toNat)
      case atStart => exact ⟨0, 0, by omega, rfl, rfl, X2.out, I2.out, ⟨.inl ⟨rfl, rfl⟩, behindAll.zero _ _⟩, B2.out⟩
      case round =>
        clear X2 I2 B2
        obtain ⟨q, B, hq, rfl, rfl, hX, hI, hbb, hB⟩ := hrel
        have XQ : Hid (Box3 wr w.heap.size (.slice wa m wc) (.int .i64 t) (.slice ca k cc) 28) := hX
        have IQ : Hid (Ints wr ua (nI hs)) := hI
        have QQ : Hid ((q = 0 ∧ B = 0 ∨ 0 < q ∧ B = (E (hs.getD (q - 1) 0)).f + (E (hs.getD (q - 1) 0)).l) ∧ behindAll E hs q) := hbb
        have BQ : Hid (Below w.heap.size w wr) := hB
        clear hX hI hbb hB
        have lh := LH.out
        by_cases hlt2 : (q : Int) < (hs.length : Int)
        · have L : q < hs.length := by omega
          obtain ⟨ub, uo, rfl, hub, cu⟩ := IQ.out.at (k := q) (by rw [LE.out]; exact L)
          rw [nI_get] at cu
          obtain ⟨lt1, lv1⟩ := ord_get OO.out L
          have AL : Hid (∀ i, i < q → 1 ≤ (E (hs.getD i 0)).l) := fun i hi => by
            obtain ⟨a1, a2⟩ := ord_get OO.out (show i < hs.length by omega)
            exact ((FK.out _ a1).2 a2).1
          have fj := (FK.out _ lt1).2 lv1
          obtain ⟨o, off, rfl, ho, p0, p1, p2⟩ := (H3.out.keep BQ.out).at lt1
          have NO : Hid (0 < q → (E (hs.getD q 0)).f < (E (hs.getD (q - 1) 0)).f + (E (hs.getD (q - 1) 0)).l → hOkB m t k E = false) := fun h0 h => hOkB_false (not_ok_ord (k := q - 1) OO.out (by omega) (by rw [show q - 1 + 1 = q by omega]; exact h))
          have NX : Hid (behindAll E hs q → (q = 0 ∨ (E (hs.getD (q - 1) 0)).f + (E (hs.getD (q - 1) 0)).l ≤ (E (hs.getD q 0)).f) → behindAll E hs (q + 1)) := fun h hk => h.next AL.out hk
          have BI : Hid (∀ W', Calls Try.prog 50 #[.agg #[.int .i64 (E (hs.getD q 0)).f, .int .i64 (E (hs.getD q 0)).l, .bool (E (hs.getD q 0)).v]] W' fun e w' => e = .returned (.int .i64 ((E (hs.getD q 0)).f + (E (hs.getD q 0)).l)) ∧ Below W'.heap.size W' w') := fun W' => behind_impl _ _ _ W' (by unfold in64; omega)
          have NE : Hid (q + 1 - 1 = q) := by show _ = _; omega
          have FF : Hid (0 ≤ (E (hs.getD q 0)).f) := fj.2.1
          clear fj lv1 ho hub AL
          have x2 := XQ.out.c2
          have EQ : Hid (∀ z, hs.getD q 0 = z → ∀ B', B' = (E z).f + (E z).l → B' = (E (hs.getD q 0)).f + (E (hs.getD q 0)).l) := fun z hz B' h => by rw [hz]; exact h
          generalize hz : hs.getD q 0 = z at p0 p1 p2 cu lt1 NO NX BI FF
          have EQ2 : Hid (∀ B', B' = (E z).f + (E z).l → B' = (E (hs.getD q 0)).f + (E (hs.getD q 0)).l) := EQ.out z hz
          clear EQ hz
          generalize (E z).f = f at p0 p1 p2 NO NX BI FF EQ2
          generalize (E z).l = l at p0 p1 p2 NO NX BI FF EQ2
          generalize (E z).v = b at p0 p1 p2 NO NX BI FF EQ2
          have i1 : (z : Int) < (k : Int) := by omega
          by_cases c5 : f < B
          · have OF : Hid (hOkB m t k E = false) := by
              rcases QQ.out.1 with ⟨h1, h2⟩ | ⟨h1, h2⟩
              · have := FF.out; omega
              · exact NO.out h1 (by rw [← h2]; exact c5)
            go_wp2
            go_ret
            exact ⟨ret_b OF.out.symm, BQ.out⟩
          · have NB : Hid (behindAll E hs (q + 1)) := NX.out QQ.out.2 (by
              rcases QQ.out.1 with ⟨h1, h2⟩ | ⟨h1, h2⟩
              · exact .inl h1
              · right; rw [← h2]; omega)
            go_wp2_with fail
            refine (BI.out _).mono ?_
            rintro r w3 ⟨rfl, hb⟩
            have X3 : Hid (Box3 w3 w.heap.size (.slice wa m wc) (.int .i64 t) (.slice (some ⟨o, off, none⟩) k cc) 28) := XQ.out.keep hb
            have I3 : Hid (Ints w3 (some ⟨ub, uo, none⟩) (nI hs)) := IQ.out.keep hb
            have B3 : Hid (Below w.heap.size w w3) := bTrans BQ.out hb
            clear hb
            go_wp2
            go_roundw
            case rel => exact ⟨q + 1, f + l, by omega, by go_num, rfl, X3.out, I3.out, ⟨.inr ⟨by omega, by rw [NE.out]; exact EQ2.out _ rfl⟩, NB.out⟩, B3.out⟩
            case measure => simp [intOf]; omega
        · obtain rfl : q = hs.length := by omega
          have OF : Hid (hOkB m t k E = true) := OK.out hs FK.out OO.out QQ.out.2
          go_wp2
          go_ret
          exact ⟨ret_b OF.out.symm, BQ.out⟩
end Go.Proofs.Ytmmjidhpmbcoiaa
