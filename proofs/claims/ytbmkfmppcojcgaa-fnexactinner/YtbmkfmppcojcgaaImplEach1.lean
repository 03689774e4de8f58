/-
  Walks: the program's eachPlace: a sign on each place of any number of arrays.
-/
import Derived.Test.YtbmkfmppcojcgaaImplEach0
import Derived.Test.YtbmkfmppcojcgaaArrs
import Derived.Shelf.Abstract
namespace Go.Proofs.Ytbmkfmppcojcgaa
open Go.RowKit
set_option linter.unusedVariables false
set_option linter.unusedSimpArgs false
theorem piece_setN {B C g c k n : Nat} {w : World} {l : List Int} (h : Piece B C w (.slice (some ⟨g, 0, none⟩) n c) l) (hl : l.length = n) (hk : k < n) (x : Int) : Piece B C (w.setCell ⟨g, k, none⟩ (.int .i64 x)) (.slice (some ⟨g, 0, none⟩) n c) (l.set k x) := by
  subst hl
  have := h.set hk x
  simpa using this
/-- What stands while eachPlace goes on: what was there, the list that is made, the numbers of a place. -/
structure PlaceAt (w wr : World) (n m : Nat) (l x : List Int) : Prop where
  below : Below w.heap.size w wr
  list : Piece w.heap.size (w.heap.size + 1) wr (.slice (some ⟨w.heap.size, 0, none⟩) n n) l
  nums : Piece (w.heap.size + 1) (w.heap.size + 2) wr (.slice (some ⟨w.heap.size + 1, 0, none⟩) m m) x
  size : w.heap.size + 2 ≤ wr.heap.size
  llen : l.length = n
  xlen : x.length = m
theorem PlaceAt.keep {w wr w' : World} {n m : Nat} {l x : List Int} (h : PlaceAt w wr n m l x) (hb : Below wr.heap.size wr w') : PlaceAt w w' n m l x :=
  ⟨h.below.trans (hb.mono h.below.size), h.list.keep hb, h.nums.keep hb, Nat.le_trans h.size hb.size, h.llen, h.xlen⟩
theorem PlaceAt.setX {w wr : World} {n m j : Nat} {l x : List Int} (h : PlaceAt w wr n m l x) (hj : j < m) (z : Int) : PlaceAt w (wr.setCell ⟨w.heap.size + 1, j, none⟩ (.int .i64 z)) n m l (x.set j z) :=
  ⟨below_setCell h.below (by omega) _ _, h.list.win (win_setCell _ _ _ _) (.inl (Nat.le_refl _)), piece_setN h.nums h.xlen hj z, by rw [size_setCell]; exact h.size, h.llen, by rw [List.length_set]; exact h.xlen⟩
theorem PlaceAt.setL {w wr : World} {n m j : Nat} {l x : List Int} (h : PlaceAt w wr n m l x) (hj : j < n) (z : Int) : PlaceAt w (wr.setCell ⟨w.heap.size, j, none⟩ (.int .i64 z)) n m (l.set j z) x :=
  ⟨below_setCell h.below (Nat.le_refl _) _ _, piece_setN h.list h.llen hj z, h.nums.win (win_setCell _ _ _ _) (.inr (Nat.le_refl _)), by rw [size_setCell]; exact h.size, by rw [List.length_set]; exact h.llen, h.xlen⟩
theorem PlaceAt.start (w : World) (n m : Nat) : PlaceAt w ((w.alloc (.cells (vals (List.replicate n 0)) 3)).alloc (.cells (vals (List.replicate m 0)) 3)) n m (List.replicate n 0) (List.replicate m 0) := by
  have p1 : Piece w.heap.size (w.heap.size + 1) (w.alloc (.cells (vals (List.replicate n 0)) 3)) (.slice (some ⟨w.heap.size, 0, none⟩) n n) (List.replicate n 0) := by
    have := OwnInts.piece (ownInts_new w (List.replicate n 0)) (B := w.heap.size) (C := w.heap.size + 1) (Nat.le_refl _) (Nat.lt_succ_self _) n
    simpa using this
  have p2 : Piece (w.heap.size + 1) (w.heap.size + 2) ((w.alloc (.cells (vals (List.replicate n 0)) 3)).alloc (.cells (vals (List.replicate m 0)) 3)) (.slice (some ⟨w.heap.size + 1, 0, none⟩) m m) (List.replicate m 0) := by
    have := OwnInts.piece (ownInts_new (w.alloc (.cells (vals (List.replicate n 0)) 3)) (List.replicate m 0)) (B := w.heap.size + 1) (C := w.heap.size + 2) (by simp) (by simp) m
    simpa using this
  exact ⟨bAlloc (bAlloc (Below.refl _ _) _) _, p1.keep (bAlloc (Below.refl _ _) _), p2, by simp, by simp, by simp⟩
/-- The numbers of a place. -/
def numsAt (F : List (List Int)) (m k : Nat) : List Int := (List.range m).map fun i => numOf (F.getD (2 * i) []) (F.getD (2 * i + 1) []) k
theorem numsAt_set {F : List (List Int)} {m k j : Nat} {x : List Int} (hx : ∀ q, q < j → x.getD q 0 = numOf (F.getD (2 * q) []) (F.getD (2 * q + 1) []) k) (hj : j < x.length) : ∀ q, q < j + 1 → (x.set j (numOf (F.getD (2 * j) []) (F.getD (2 * j + 1) []) k)).getD q 0 = numOf (F.getD (2 * q) []) (F.getD (2 * q + 1) []) k := by
  intro q hq
  by_cases e : q = j
  · subst e; simp [hj]
  · have := hx q (by omega)
    simp only [List.getD_eq_getElem?_getD] at this ⊢
    rw [List.getElem?_set_ne (by omega)]
    exact this
theorem numsAt_eq {F : List (List Int)} {m k : Nat} {x : List Int} (hl : x.length = m) (hx : ∀ q, q < m → x.getD q 0 = numOf (F.getD (2 * q) []) (F.getD (2 * q + 1) []) k) : x = numsAt F m k := by
  apply List.ext_getElem
  · simp [numsAt, hl]
  · intro q h1 h2
    have := hx q (by omega)
    simp only [numsAt, List.getElem_map, List.getElem_range]
    rw [← this]
    simp [h1]
/-- What eachPlace answers. -/
def placesC (V : Nat → Int × Int) (n : Nat) : Int := firstC (fun i => (V i).2) n
def placesD (V : Nat → Int × Int) (n : Nat) : List Int := if placesC V n = 0 then (List.range n).map (fun i => (V i).1) else []
set_option maxRecDepth 20000 in
set_option maxHeartbeats 4000000 in
/-- eachPlace. -/
theorem eachPlace_impl {F : List (List Int)} {V : Nat → Int × Int} {w : World} {f n m ca : Nat} {aa : Option Addr} {p : Value}
    (hE : ∀ (args : Array Value) (w : World), (callFunc f args).run Try.prog w = .ok (.enter f args) w) (hA : ArrsI w (.slice aa m ca) F) (hm : m ≤ 2) (hn : n ≤ 300) (hL : ∀ j, (F.getD j []).length ≤ 1048576)
    (hN : ∀ i, i < m → (F.getD (2 * i) [] = [] → 0 < (F.getD (2 * i + 1) []).length) ∧ (F.getD (2 * i) [] ≠ [] → n ≤ (F.getD (2 * i + 1) []).length))
    (hV : ∀ (W : World) (A k : Nat), k < n → Below w.heap.size w W → Ints W (some ⟨A, 0, none⟩) (numsAt F m k) → Calls Try.prog f #[.slice (some ⟨A, 0, none⟩) m m, p] W fun r W' => r = .returned (.tuple #[.int .i64 (V k).1, .int .i64 (V k).2]) ∧ Below W.heap.size W W') :
    Calls Try.prog 111 #[.int .i64 (n : Int), .func (.func f) #[] #[p], .slice aa m ca] w fun r w' => ∃ a' c', r = .returned (.tuple #[.slice a' (placesD V n).length c', .int .i64 (placesC V n)]) ∧ Piece w.heap.size w'.heap.size w' (.slice a' (placesD V n).length c') (placesD V n) ∧ Below w.heap.size w w' := by
  have HA : Hid (ArrsI w (.slice aa m ca) F) := hA
  have HL : Hid (∀ j, (F.getD j []).length ≤ 1048576) := hL
  have HN : Hid (∀ i, i < m → (F.getD (2 * i) [] = [] → 0 < (F.getD (2 * i + 1) []).length) ∧ (F.getD (2 * i) [] ≠ [] → n ≤ (F.getD (2 * i + 1) []).length)) := hN
  have HV : Hid (∀ (W : World) (A k : Nat), k < n → Below w.heap.size w W → Ints W (some ⟨A, 0, none⟩) (numsAt F m k) → Calls Try.prog f #[.slice (some ⟨A, 0, none⟩) m m, p] W fun r W' => r = .returned (.tuple #[.int .i64 (V k).1, .int .i64 (V k).2]) ∧ Below W.heap.size W W') := hV
  have hmk1 : ∀ w, (Instr.makeSlice 24 (.int .i64 (n : Int)) (.int .i64 (n : Int))).run Try.prog w = .ok (.slice (some ⟨w.heap.size, 0, none⟩) n n) (w.alloc (.cells (vals (List.replicate n 0)) 3)) := fun w => make_ints n (by omega) w
  have hmk2 : ∀ w, (Instr.makeSlice 24 (.int .i64 (m : Int)) (.int .i64 (m : Int))).run Try.prog w = .ok (.slice (some ⟨w.heap.size, 0, none⟩) m m) (w.alloc (.cells (vals (List.replicate m 0)) 3)) := fun w => make_ints m (by omega) w
  obtain ⟨C, hC⟩ : ∃ C, C = placesC V n := ⟨_, rfl⟩
  obtain ⟨D, hD⟩ : ∃ D, D = placesD V n := ⟨_, rfl⟩
  have HC : Hid (C = firstC (fun i => (V i).2) n) := hC
  have HBAD : Hid (C ≠ 0 → D = []) := fun h => by rw [hD]; unfold placesD; rw [if_neg (by rw [← hC]; exact h)]
  have HGOOD : Hid (C = 0 → D = (List.range n).map (fun i => (V i).1)) := fun h => by rw [hD]; unfold placesD; rw [if_pos (by rw [← hC]; exact h)]
  rw [← hC, ← hD]
  clear hA hL hN hV hC hD
  go_enter Try.func111, Try.ntmps111
  go_wp2
  generalize hW : (w.alloc (.cells (vals (List.replicate n 0)) 3)).alloc (.cells (vals (List.replicate m 0)) 3) = W0
  have P0 : Hid (PlaceAt w W0 n m (List.replicate n 0) (List.replicate m 0)) := by rw [← hW]; exact PlaceAt.start w n m
  clear hW hmk1 hmk2
  go_loopw [22] (fun i w' => ∃ (k : Nat) (l x : List Int), k ≤ n ∧ i = .int .i64 (k : Int) ∧ firstC (fun i => (V i).2) k = 0 ∧ l = setTo (fun i => (V i).1) (List.replicate n 0) k ∧ PlaceAt w w' n m l x) (fun i _ => n - (intOf i).toNat)
  case atStart => exact ⟨0, _, _, by omega, rfl, rfl, by rw [setTo_zero], P0.out⟩
  case round =>
    obtain ⟨k, l, x, hk, rfl, hf, hl, hP⟩ := hrel
    have HF : Hid (firstC (fun i => (V i).2) k = 0) := hf
    have HLL : Hid (l = setTo (fun i => (V i).1) (List.replicate n 0) k) := hl
    have HP : Hid (PlaceAt w wr n m l x) := hP
    clear hf hl hP P0
    by_cases hlt : (k : Int) < (n : Int)
    · go_wp2
      go_loopw [27] (fun i w' => ∃ (j : Nat) (x : List Int), j ≤ m ∧ i = .int .i64 (j : Int) ∧ (∀ q, q < j → x.getD q 0 = numOf (F.getD (2 * q) []) (F.getD (2 * q + 1) []) k) ∧ PlaceAt w w' n m l x) (fun i _ => m - (intOf i).toNat)
      case atStart => exact ⟨0, x, by omega, rfl, by intro q hq; omega, HP.out⟩
      case round =>
        obtain ⟨j, x1, hj, rfl, hx, hP⟩ := hrel
        have HX : Hid (∀ q, q < j → x1.getD q 0 = numOf (F.getD (2 * q) []) (F.getD (2 * q + 1) []) k) := hx
        have HP1 : Hid (PlaceAt w wr n m l x1) := hP
        clear hx hP HP
        by_cases hjm : (j : Int) < (m : Int)
        · obtain ⟨o, off, sx, sy, rfl, ho, p0, p1, i0, i1⟩ := (HA.out.keep HP1.out.below).at (k := j) (by omega)
          obtain ⟨ax, cx, rfl, gix, ix⟩ := i0
          obtain ⟨ay, cy, rfl, giy, iy⟩ := i1
          have A1 : Hid (ArrI wr (.agg #[.slice ax (F.getD (2 * j) []).length cx, .slice ay (F.getD (2 * j + 1) []).length cy]) (F.getD (2 * j) []) (F.getD (2 * j + 1) [])) := ⟨_, _, _, _, rfl, ix, iy, gix, giy⟩
          obtain ⟨q1, q2⟩ := HN.out j (by omega)
          have HF1 : Hid (∀ W, Below wr.heap.size wr W → Calls Try.prog 122 #[.agg #[.slice ax (F.getD (2 * j) []).length cx, .slice ay (F.getD (2 * j + 1) []).length cy], .int .i64 (k : Int)] W fun r w' => r = .returned (.int .i64 (numOf (F.getD (2 * j) []) (F.getD (2 * j + 1) []) k)) ∧ Below W.heap.size W w') := fun W h => numberFor_impl k (A1.out.keep h) q1 (fun h => Nat.lt_of_lt_of_le (by omega) (q2 h)) (HL.out _)
          have HX1 : Hid (∀ q, q < j + 1 → (x1.set j (numOf (F.getD (2 * j) []) (F.getD (2 * j + 1) []) k)).getD q 0 = numOf (F.getD (2 * q) []) (F.getD (2 * q + 1) []) k) := numsAt_set (m := m) HX.out (by rw [HP1.out.xlen]; omega)
          clear ix iy gix giy q1 q2
          generalize (F.getD (2 * j) []).length = ls at *
          generalize (F.getD (2 * j + 1) []).length = ld at *
          generalize numOf (F.getD (2 * j) []) (F.getD (2 * j + 1) []) k = z at *
          go_wp2_with fail
          refine (HF1.out _ (bAlloc (Below.refl _ _) _)).mono ?_
          rintro r w2 ⟨rfl, hb⟩
          have P2 : Hid (PlaceAt w w2 n m l x1) := HP1.out.keep (bTrans (bAlloc (Below.refl _ _) _) hb)
          obtain ⟨t1, t2, _, _, _⟩ := P2.out.nums.cellAt (k := j) (by rw [P2.out.xlen]; omega)
          rw [Nat.zero_add] at t1 t2
          clear hb
          generalize x1.getD j 0 = x2 at t1
          go_wp2
          go_roundw
          case rel => exact ⟨j + 1, _, by omega, by go_num, HX1.out, P2.out.setX (by omega) z⟩
          case measure => simp [intOf]; omega
        · obtain rfl : j = m := by omega
          have HX1 : Hid (x1 = numsAt F j k) := numsAt_eq HP1.out.xlen HX.out
          have HIN : Hid (Ints wr (some ⟨w.heap.size + 1, 0, none⟩) (numsAt F j k)) := by
            obtain ⟨a', c', e', i'⟩ := HP1.out.nums.ints
            cases e'
            rw [← HX1.out]; exact i'
          have HV1 : Hid (Calls Try.prog f #[.slice (some ⟨w.heap.size + 1, 0, none⟩) j j, p] wr fun r W' => r = .returned (.tuple #[.int .i64 (V k).1, .int .i64 (V k).2]) ∧ Below wr.heap.size wr W') := HV.out wr _ k (by omega) HP1.out.below HIN.out
          have E1 : Hid ((V k).2 = 0 → firstC (fun i => (V i).2) (k + 1) = 0) := fun h => firstC_go HF.out h
          have E2 : Hid ((V k).2 ≠ 0 → C = (V k).2) := fun h => by rw [HC.out]; exact firstC_stop HF.out h (by omega)
          have E3 : Hid (l.set k (V k).1 = setTo (fun i => (V i).1) (List.replicate n 0) (k + 1)) := by show _ = _; rw [HLL.out]; exact setTo_set (fun i => (V i).1) _ (by simp; omega)
          clear HX HX1 HIN
          generalize (V k).1 = y at *
          generalize (V k).2 = z at *
          by_cases h0 : z = 0
          · subst h0
            have E1' : Hid (firstC (fun i => (V i).2) (k + 1) = 0) := E1.out rfl
            go_wp2_with (go_at_fn f; refine HV1.out.mono ?_; rintro r w2 ⟨rfl, hb⟩; have P2 : Hid (PlaceAt w w2 n j l x1) := HP1.out.keep hb; obtain ⟨t1, t2, _, _, _⟩ := P2.out.list.cellAt (k := k) (by rw [P2.out.llen]; omega); rw [Nat.zero_add] at t1 t2; clear hb; generalize l.getD k 0 = x2 at t1)
            go_roundw
            case rel => exact ⟨k + 1, _, _, by omega, by go_num, E1'.out, E3.out, P2.out.setL (by omega) y⟩
            case measure => simp [intOf]; omega
          · have hne : (z != 0) = true := by simpa using h0
            have EC : Hid (C = z) := E2.out h0
            have ED : Hid (D = []) := HBAD.out (by rw [EC.out]; exact h0)
            clear h0
            go_wp2_with (go_at_fn f; refine HV1.out.mono ?_; rintro r w2 ⟨rfl, hb⟩; have B2 : Hid (Below w.heap.size w w2) := (HP1.out.keep hb).below; clear hb)
            go_ret2
            refine ⟨none, 0, by rw [EC.out, ED.out]; rfl, ?_, B2.out⟩
            rw [ED.out]; exact Piece.nil _ _ _
    · obtain rfl : k = n := by omega
      have EC : Hid (C = 0) := by show _ = _; rw [HC.out, HF.out]
      have ED : Hid (D = l) := by show _ = _; rw [HGOOD.out EC.out, HLL.out, setTo_all _ _ (by simp)]
      have EL : Hid (D.length = k) := by show _ = _; rw [ED.out]; exact HP.out.llen
      go_wp2
      go_ret2
      refine ⟨some ⟨w.heap.size, 0, none⟩, k, by rw [EC.out, EL.out]; rfl, ?_, HP.out.below⟩
      rw [EL.out, ED.out]
      exact HP.out.list.mono (Nat.le_refl _) (by have := HP.out.size; omega)
end Go.Proofs.Ytbmkfmppcojcgaa
