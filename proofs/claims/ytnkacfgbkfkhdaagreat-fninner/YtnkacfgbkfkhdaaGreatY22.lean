/-
  Several texts, one behind the other: ImplEach0, ImplEach1, ImplEach2.
-/
import Derived.Test.YtnkacfgbkfkhdaaGreatY6
import Derived.Test.YtnkacfgbkfkhdaaGreatY18
import Derived.Test.YtnkacfgbkfkhdaaGreatY21
import Derived.Test.YtnkacfgbkfkhdaaGreatY3
import Derived.Shelf.Abstract
namespace Go.Proofs.YtnkacfgbkfkhdaaGreat
open Go.RowKit
set_option linter.unusedVariables false
set_option linter.unusedSimpArgs false
set_option maxRecDepth 20000 in
set_option maxHeartbeats 1000000 in
/-- numberFor. -/
theorem numberFor_impl {s d : List Int} {w : World} {v : Value} (i : Nat) (h : ArrI w v s d) (h0 : s = [] → 0 < d.length) (h1 : s ≠ [] → i < d.length) (hd : d.length ≤ 1048576) :
    Calls Tryz.prog 96 #[v, .int .i64 (i : Int)] w fun r w' => r = .returned (.int .i64 (numOf s d i)) ∧ Below w.heap.size w w' := by
  obtain ⟨a, c, b, f, rfl, i1, i2, _, _⟩ := h
  by_cases e : s = []
  · subst e
    have E : Hid (numOf [] d i = d.getD 0 0) := by show _ = _; unfold numOf; rw [if_pos rfl]
    obtain ⟨b1, o1, rfl, hb1, c1⟩ := i2.at (h0 rfl)
    rw [Nat.add_zero] at c1
    have c2 : ∀ O : Obj, (w.alloc O).cell? ⟨b1, o1, none⟩ = some (.int .i64 (d.getD 0 0)) := fun O => ((bAlloc (Below.refl _ _) O).cell (p := ⟨b1, o1, none⟩) hb1).trans c1
    have hl : (0 : Int) < (d.length : Int) := by have := h0 rfl; omega
    generalize d.getD 0 0 = x at *
    clear i1 i2 h0 h1 c1
    go_enter Tryz.func96, Tryz.ntmps96
    go_wp2
    go_ret
    exact ⟨by rw [E.out]; rfl, bAlloc (Below.refl _ _) _⟩
  · have E : Hid (numOf s d i = d.getD i 0) := by show _ = _; unfold numOf; rw [if_neg e]
    obtain ⟨b1, o1, rfl, hb1, c1⟩ := i2.at (h1 e)
    have c2 : ∀ O : Obj, (w.alloc O).cell? ⟨b1, o1 + i, none⟩ = some (.int .i64 (d.getD i 0)) := fun O => ((bAlloc (Below.refl _ _) O).cell (p := ⟨b1, o1 + i, none⟩) hb1).trans c1
    have hl : (i : Int) < (d.length : Int) := by have := h1 e; omega
    have n1 : ((s.length : Int) == 0) = false := by
      have := List.length_pos_iff.2 e
      simp; omega
    generalize d.getD i 0 = x at *
    clear i1 i2 h0 h1 c1 e
    go_enter Tryz.func96, Tryz.ntmps96
    go_wp2
    go_ret
    exact ⟨by rw [E.out]; rfl, bAlloc (Below.refl _ _) _⟩
theorem known1 (g : Int) : ((oneV g 0).2 != 1) = sign1 g := by
  by_cases h : sign1 g = true
  · rcases sign1_of h with rfl | rfl | rfl | rfl | rfl <;> decide
  · have h : sign1 g = false := by simpa using h
    rw [oneV_none h, h]; rfl
theorem known2 (g : Int) : ((twoV g 0 0).2 != 1) = sign2 g := by
  by_cases h : sign2 g = true
  · rcases sign2_of h with rfl | rfl | rfl | rfl | rfl | rfl | rfl | rfl | rfl | rfl <;> decide
  · have h : sign2 g = false := by simpa using h
    rw [twoV_none h, h]; rfl
set_option maxHeartbeats 1000000 in
/-- knownToTwo. -/
theorem knownTwo_impl (g : Int) (w : World) :
    Calls Tryz.prog 18 #[.int .i64 g] w fun r w' => r = .returned (.bool (sign2 g)) ∧ Below w.heap.size w w' := by
  have K : Hid (((twoV g 0 0).2 != 1) = sign2 g) := known2 g
  have HV : Hid (∀ W, Calls Tryz.prog 37 #[.int .i64 g, .int .i64 0, .int .i64 0] W fun e w' => e = .returned (.tuple #[.int .i64 (twoV g 0 0).1, .int .i64 (twoV g 0 0).2]) ∧ Below W.heap.size W w') := fun W => two_impl g 0 0 W
  generalize (twoV g 0 0).1 = x at *
  generalize (twoV g 0 0).2 = y at *
  go_enter Tryz.func18, Tryz.ntmps18
  go_wp2_with fail
  refine (HV.out _).mono ?_
  rintro r w1 ⟨rfl, hb⟩
  have HB : Hid (Below w.heap.size w w1) := hb
  clear hb
  go_wp2
  go_ret
  exact ⟨by rw [← K.out]; rfl, HB.out⟩
set_option maxRecDepth 20000 in
set_option maxHeartbeats 1000000 in
/-- What EachTwo does at a place. -/
theorem does2_impl {g x y : Int} {w : World} {a : Option Addr} {q c : Nat} (h : Ints w a [x, y]) (hq : w.cell? ⟨q, 0, none⟩ = some (.int .i64 g)) :
    Calls Tryz.prog 36 #[.slice a 2 c, .pointer (some ⟨q, 0, none⟩)] w fun r w' => r = .returned (.tuple #[.int .i64 (twoV g x y).1, .int .i64 (twoV g x y).2]) ∧ Below w.heap.size w w' := by
  obtain ⟨b1, o1, rfl, hb1, c1⟩ := h.at (k := 0) (by simp)
  obtain ⟨b2, o2, e2, _, c2⟩ := h.at (k := 1) (by simp)
  cases e2
  have x0 : w.cell? ⟨b1, o1, none⟩ = some (.int .i64 x) := by simpa using c1
  have x1 : w.cell? ⟨b1, o1 + 1, none⟩ = some (.int .i64 y) := by simpa using c2
  have HV : Hid (∀ W, Calls Tryz.prog 37 #[.int .i64 g, .int .i64 x, .int .i64 y] W fun e w' => e = .returned (.tuple #[.int .i64 (twoV g x y).1, .int .i64 (twoV g x y).2]) ∧ Below W.heap.size W w') := fun W => two_impl g x y W
  clear c1 c2 h
  generalize (twoV g x y).1 = u at *
  generalize (twoV g x y).2 = z at *
  go_enter Tryz.func36, Tryz.ntmps36
  go_wp2
  first
    | go_region_with (go_at_call 37; refine (HV.out _).mono ?_; rintro r w1 ⟨rfl, hb⟩; have HB1 : Hid (Below w.heap.size w w1) := bTrans ((Below.refl w.heap.size w).drew) hb; clear hb)
    | fail "no"
  all_goals
    go_wp2
    go_ret2
    exact ⟨rfl, HB1.out⟩
end Go.Proofs.YtnkacfgbkfkhdaaGreat
namespace Go.Proofs.YtnkacfgbkfkhdaaGreat
open Go.RowKit
set_option linter.unusedVariables false
set_option linter.unusedSimpArgs false
theorem piece_setN {B C g c k n : Nat} {w : World} {l : List Int} (h : Piece B C w (.slice (some ⟨g, 0, none⟩) n c) l) (hl : l.length = n) (hk : k < n) (x : Int) : Piece B C (w.setCell ⟨g, k, none⟩ (.int .i64 x)) (.slice (some ⟨g, 0, none⟩) n c) (l.set k x) := by
  subst hl
  have := h.set hk x
  simpa using this
/-- What stands while eachPlace goes on: what was there, the list that is made, the numbers of a place. -/
structure PlaceAt (w wr : World) (n m : Nat) (l x : List Int) : Prop where
  below : Below w.heap.size w wr
  list : Piece w.heap.size (w.heap.size + 1) wr (.slice (some ⟨w.heap.size, 0, none⟩) n n) l
  nums : Piece (w.heap.size + 1) (w.heap.size + 2) wr (.slice (some ⟨w.heap.size + 1, 0, none⟩) m m) x
  size : w.heap.size + 2 ≤ wr.heap.size
  llen : l.length = n
  xlen : x.length = m
theorem PlaceAt.keep {w wr w' : World} {n m : Nat} {l x : List Int} (h : PlaceAt w wr n m l x) (hb : Below wr.heap.size wr w') : PlaceAt w w' n m l x :=
  ⟨h.below.trans (hb.mono h.below.size), h.list.keep hb, h.nums.keep hb, Nat.le_trans h.size hb.size, h.llen, h.xlen⟩
theorem PlaceAt.setX {w wr : World} {n m j : Nat} {l x : List Int} (h : PlaceAt w wr n m l x) (hj : j < m) (z : Int) : PlaceAt w (wr.setCell ⟨w.heap.size + 1, j, none⟩ (.int .i64 z)) n m l (x.set j z) :=
  ⟨below_setCell h.below (by omega) _ _, h.list.win (win_setCell _ _ _ _) (.inl (Nat.le_refl _)), piece_setN h.nums h.xlen hj z, by rw [size_setCell]; exact h.size, h.llen, by rw [List.length_set]; exact h.xlen⟩
theorem PlaceAt.setL {w wr : World} {n m j : Nat} {l x : List Int} (h : PlaceAt w wr n m l x) (hj : j < n) (z : Int) : PlaceAt w (wr.setCell ⟨w.heap.size, j, none⟩ (.int .i64 z)) n m (l.set j z) x :=
  ⟨below_setCell h.below (Nat.le_refl _) _ _, piece_setN h.list h.llen hj z, h.nums.win (win_setCell _ _ _ _) (.inr (Nat.le_refl _)), by rw [size_setCell]; exact h.size, by rw [List.length_set]; exact h.llen, h.xlen⟩
theorem PlaceAt.start (w : World) (n m : Nat) : PlaceAt w ((w.alloc (.cells (vals (List.replicate n 0)) 3)).alloc (.cells (vals (List.replicate m 0)) 3)) n m (List.replicate n 0) (List.replicate m 0) := by
  have p1 : Piece w.heap.size (w.heap.size + 1) (w.alloc (.cells (vals (List.replicate n 0)) 3)) (.slice (some ⟨w.heap.size, 0, none⟩) n n) (List.replicate n 0) := by
    have := OwnInts.piece (ownInts_new w (List.replicate n 0)) (B := w.heap.size) (C := w.heap.size + 1) (Nat.le_refl _) (Nat.lt_succ_self _) n
    simpa using this
  have p2 : Piece (w.heap.size + 1) (w.heap.size + 2) ((w.alloc (.cells (vals (List.replicate n 0)) 3)).alloc (.cells (vals (List.replicate m 0)) 3)) (.slice (some ⟨w.heap.size + 1, 0, none⟩) m m) (List.replicate m 0) := by
    have := OwnInts.piece (ownInts_new (w.alloc (.cells (vals (List.replicate n 0)) 3)) (List.replicate m 0)) (B := w.heap.size + 1) (C := w.heap.size + 2) (by simp) (by simp) m
    simpa using this
  exact ⟨bAlloc (bAlloc (Below.refl _ _) _) _, p1.keep (bAlloc (Below.refl _ _) _), p2, by simp, by simp, by simp⟩
/-- The numbers of a place. -/
def numsAt (F : List (List Int)) (m k : Nat) : List Int := (List.range m).map fun i => numOf (F.getD (2 * i) []) (F.getD (2 * i + 1) []) k
theorem numsAt_set {F : List (List Int)} {m k j : Nat} {x : List Int} (hx : ∀ q, q < j → x.getD q 0 = numOf (F.getD (2 * q) []) (F.getD (2 * q + 1) []) k) (hj : j < x.length) : ∀ q, q < j + 1 → (x.set j (numOf (F.getD (2 * j) []) (F.getD (2 * j + 1) []) k)).getD q 0 = numOf (F.getD (2 * q) []) (F.getD (2 * q + 1) []) k := by
  intro q hq
  by_cases e : q = j
  · subst e; simp [hj]
  · have := hx q (by omega)
    simp only [List.getD_eq_getElem?_getD] at this ⊢
    rw [List.getElem?_set_ne (by omega)]
    exact this
theorem numsAt_eq {F : List (List Int)} {m k : Nat} {x : List Int} (hl : x.length = m) (hx : ∀ q, q < m → x.getD q 0 = numOf (F.getD (2 * q) []) (F.getD (2 * q + 1) []) k) : x = numsAt F m k := by
  apply List.ext_getElem
  · simp [numsAt, hl]
  · intro q h1 h2
    have := hx q (by omega)
    simp only [numsAt, List.getElem_map, List.getElem_range]
    rw [← this]
    simp [h1]
/-- What eachPlace answers. -/
def placesC (V : Nat → Int × Int) (n : Nat) : Int := firstC (fun i => (V i).2) n
def placesD (V : Nat → Int × Int) (n : Nat) : List Int := if placesC V n = 0 then (List.range n).map (fun i => (V i).1) else []
set_option maxRecDepth 20000 in
set_option maxHeartbeats 4000000 in
/-- eachPlace. -/
theorem eachPlace_impl {F : List (List Int)} {V : Nat → Int × Int} {w : World} {f n m ca : Nat} {aa : Option Addr} {p : Value}
    (hE : ∀ (args : Array Value) (w : World), (callFunc f args).run Tryz.prog w = .ok (.enter f args) w) (hA : ArrsI w (.slice aa m ca) F) (hm : m ≤ 2) (hn : n ≤ 300) (hL : ∀ j, (F.getD j []).length ≤ 1048576)
    (hN : ∀ i, i < m → (F.getD (2 * i) [] = [] → 0 < (F.getD (2 * i + 1) []).length) ∧ (F.getD (2 * i) [] ≠ [] → n ≤ (F.getD (2 * i + 1) []).length))
    (hV : ∀ (W : World) (A k : Nat), k < n → Below w.heap.size w W → Ints W (some ⟨A, 0, none⟩) (numsAt F m k) → Calls Tryz.prog f #[.slice (some ⟨A, 0, none⟩) m m, p] W fun r W' => r = .returned (.tuple #[.int .i64 (V k).1, .int .i64 (V k).2]) ∧ Below W.heap.size W W') :
    Calls Tryz.prog 67 #[.int .i64 (n : Int), .func (.func f) #[] #[p], .slice aa m ca] w fun r w' => ∃ a' c', r = .returned (.tuple #[.slice a' (placesD V n).length c', .int .i64 (placesC V n)]) ∧ Piece w.heap.size w'.heap.size w' (.slice a' (placesD V n).length c') (placesD V n) ∧ Below w.heap.size w w' := by
  have HA : Hid (ArrsI w (.slice aa m ca) F) := hA
  have HL : Hid (∀ j, (F.getD j []).length ≤ 1048576) := hL
  have HN : Hid (∀ i, i < m → (F.getD (2 * i) [] = [] → 0 < (F.getD (2 * i + 1) []).length) ∧ (F.getD (2 * i) [] ≠ [] → n ≤ (F.getD (2 * i + 1) []).length)) := hN
  have HV : Hid (∀ (W : World) (A k : Nat), k < n → Below w.heap.size w W → Ints W (some ⟨A, 0, none⟩) (numsAt F m k) → Calls Tryz.prog f #[.slice (some ⟨A, 0, none⟩) m m, p] W fun r W' => r = .returned (.tuple #[.int .i64 (V k).1, .int .i64 (V k).2]) ∧ Below W.heap.size W W') := hV
  have hmk1 : ∀ w, (Instr.makeSlice 24 (.int .i64 (n : Int)) (.int .i64 (n : Int))).run Tryz.prog w = .ok (.slice (some ⟨w.heap.size, 0, none⟩) n n) (w.alloc (.cells (vals (List.replicate n 0)) 3)) := fun w => make_ints n (by omega) w
  have hmk2 : ∀ w, (Instr.makeSlice 24 (.int .i64 (m : Int)) (.int .i64 (m : Int))).run Tryz.prog w = .ok (.slice (some ⟨w.heap.size, 0, none⟩) m m) (w.alloc (.cells (vals (List.replicate m 0)) 3)) := fun w => make_ints m (by omega) w
  obtain ⟨C, hC⟩ : ∃ C, C = placesC V n := ⟨_, rfl⟩
  obtain ⟨D, hD⟩ : ∃ D, D = placesD V n := ⟨_, rfl⟩
  have HC : Hid (C = firstC (fun i => (V i).2) n) := hC
  have HBAD : Hid (C ≠ 0 → D = []) := fun h => by rw [hD]; unfold placesD; rw [if_neg (by rw [← hC]; exact h)]
  have HGOOD : Hid (C = 0 → D = (List.range n).map (fun i => (V i).1)) := fun h => by rw [hD]; unfold placesD; rw [if_pos (by rw [← hC]; exact h)]
  rw [← hC, ← hD]
  clear hA hL hN hV hC hD
  go_enter Tryz.func67, Tryz.ntmps67
  go_wp2
  generalize hW : (w.alloc (.cells (vals (List.replicate n 0)) 3)).alloc (.cells (vals (List.replicate m 0)) 3) = W0
  have P0 : Hid (PlaceAt w W0 n m (List.replicate n 0) (List.replicate m 0)) := by rw [← hW]; exact PlaceAt.start w n m
  clear hW hmk1 hmk2
  go_loopw [22] (fun i w' => ∃ (k : Nat) (l x : List Int), k ≤ n ∧ i = .int .i64 (k : Int) ∧ firstC (fun i => (V i).2) k = 0 ∧ l = setTo (fun i => (V i).1) (List.replicate n 0) k ∧ PlaceAt w w' n m l x) (fun i _ => n - (intOf i).toNat)
  case atStart => exact ⟨0, _, _, by omega, rfl, rfl, by rw [setTo_zero], P0.out⟩
  case round =>
    obtain ⟨k, l, x, hk, rfl, hf, hl, hP⟩ := hrel
    have HF : Hid (firstC (fun i => (V i).2) k = 0) := hf
    have HLL : Hid (l = setTo (fun i => (V i).1) (List.replicate n 0) k) := hl
    have HP : Hid (PlaceAt w wr n m l x) := hP
    clear hf hl hP P0
    by_cases hlt : (k : Int) < (n : Int)
    · go_wp2
      go_loopw [27] (fun i w' => ∃ (j : Nat) (x : List Int), j ≤ m ∧ i = .int .i64 (j : Int) ∧ (∀ q, q < j → x.getD q 0 = numOf (F.getD (2 * q) []) (F.getD (2 * q + 1) []) k) ∧ PlaceAt w w' n m l x) (fun i _ => m - (intOf i).toNat)
      case atStart => exact ⟨0, x, by omega, rfl, by intro q hq; omega, HP.out⟩
      case round =>
        obtain ⟨j, x1, hj, rfl, hx, hP⟩ := hrel
        have HX : Hid (∀ q, q < j → x1.getD q 0 = numOf (F.getD (2 * q) []) (F.getD (2 * q + 1) []) k) := hx
        have HP1 : Hid (PlaceAt w wr n m l x1) := hP
        clear hx hP HP
        by_cases hjm : (j : Int) < (m : Int)
        · obtain ⟨o, off, sx, sy, rfl, ho, p0, p1, i0, i1⟩ := (HA.out.keep HP1.out.below).at (k := j) (by omega)
          obtain ⟨ax, cx, rfl, gix, ix⟩ := i0
          obtain ⟨ay, cy, rfl, giy, iy⟩ := i1
          have A1 : Hid (ArrI wr (.agg #[.slice ax (F.getD (2 * j) []).length cx, .slice ay (F.getD (2 * j + 1) []).length cy]) (F.getD (2 * j) []) (F.getD (2 * j + 1) [])) := ⟨_, _, _, _, rfl, ix, iy, gix, giy⟩
          obtain ⟨q1, q2⟩ := HN.out j (by omega)
          have HF1 : Hid (∀ W, Below wr.heap.size wr W → Calls Tryz.prog 96 #[.agg #[.slice ax (F.getD (2 * j) []).length cx, .slice ay (F.getD (2 * j + 1) []).length cy], .int .i64 (k : Int)] W fun r w' => r = .returned (.int .i64 (numOf (F.getD (2 * j) []) (F.getD (2 * j + 1) []) k)) ∧ Below W.heap.size W w') := fun W h => numberFor_impl k (A1.out.keep h) q1 (fun h => Nat.lt_of_lt_of_le (by omega) (q2 h)) (HL.out _)
          have HX1 : Hid (∀ q, q < j + 1 → (x1.set j (numOf (F.getD (2 * j) []) (F.getD (2 * j + 1) []) k)).getD q 0 = numOf (F.getD (2 * q) []) (F.getD (2 * q + 1) []) k) := numsAt_set (m := m) HX.out (by rw [HP1.out.xlen]; omega)
          clear ix iy gix giy q1 q2
          generalize (F.getD (2 * j) []).length = ls at *
          generalize (F.getD (2 * j + 1) []).length = ld at *
          generalize numOf (F.getD (2 * j) []) (F.getD (2 * j + 1) []) k = z at *
          go_wp2_with fail
          refine (HF1.out _ (bAlloc (Below.refl _ _) _)).mono ?_
          rintro r w2 ⟨rfl, hb⟩
          have P2 : Hid (PlaceAt w w2 n m l x1) := HP1.out.keep (bTrans (bAlloc (Below.refl _ _) _) hb)
          obtain ⟨t1, t2, _, _, _⟩ := P2.out.nums.cellAt (k := j) (by rw [P2.out.xlen]; omega)
          rw [Nat.zero_add] at t1 t2
          clear hb
          generalize x1.getD j 0 = x2 at t1
          go_wp2
          go_roundw
          case rel => exact ⟨j + 1, _, by omega, by go_num, HX1.out, P2.out.setX (by omega) z⟩
          case measure => simp [intOf]; omega
        · obtain rfl : j = m := by omega
          have HX1 : Hid (x1 = numsAt F j k) := numsAt_eq HP1.out.xlen HX.out
          have HIN : Hid (Ints wr (some ⟨w.heap.size + 1, 0, none⟩) (numsAt F j k)) := by
            obtain ⟨a', c', e', i'⟩ := HP1.out.nums.ints
            cases e'
            rw [← HX1.out]; exact i'
          have HV1 : Hid (Calls Tryz.prog f #[.slice (some ⟨w.heap.size + 1, 0, none⟩) j j, p] wr fun r W' => r = .returned (.tuple #[.int .i64 (V k).1, .int .i64 (V k).2]) ∧ Below wr.heap.size wr W') := HV.out wr _ k (by omega) HP1.out.below HIN.out
          have E1 : Hid ((V k).2 = 0 → firstC (fun i => (V i).2) (k + 1) = 0) := fun h => firstC_go HF.out h
          have E2 : Hid ((V k).2 ≠ 0 → C = (V k).2) := fun h => by rw [HC.out]; exact firstC_stop HF.out h (by omega)
          have E3 : Hid (l.set k (V k).1 = setTo (fun i => (V i).1) (List.replicate n 0) (k + 1)) := by show _ = _; rw [HLL.out]; exact setTo_set (fun i => (V i).1) _ (by simp; omega)
          clear HX HX1 HIN
          generalize (V k).1 = y at *
          generalize (V k).2 = z at *
          by_cases h0 : z = 0
          · subst h0
            have E1' : Hid (firstC (fun i => (V i).2) (k + 1) = 0) := E1.out rfl
            go_wp2_with (go_at_fn f; refine HV1.out.mono ?_; rintro r w2 ⟨rfl, hb⟩; have P2 : Hid (PlaceAt w w2 n j l x1) := HP1.out.keep hb; obtain ⟨t1, t2, _, _, _⟩ := P2.out.list.cellAt (k := k) (by rw [P2.out.llen]; omega); rw [Nat.zero_add] at t1 t2; clear hb; generalize l.getD k 0 = x2 at t1)
            go_roundw
            case rel => exact ⟨k + 1, _, _, by omega, by go_num, E1'.out, E3.out, P2.out.setL (by omega) y⟩
            case measure => simp [intOf]; omega
          · have hne : (z != 0) = true := by simpa using h0
            have EC : Hid (C = z) := E2.out h0
            have ED : Hid (D = []) := HBAD.out (by rw [EC.out]; exact h0)
            clear h0
            go_wp2_with (go_at_fn f; refine HV1.out.mono ?_; rintro r w2 ⟨rfl, hb⟩; have B2 : Hid (Below w.heap.size w w2) := (HP1.out.keep hb).below; clear hb)
            go_ret2
            refine ⟨none, 0, by rw [EC.out, ED.out]; rfl, ?_, B2.out⟩
            rw [ED.out]; exact Piece.nil _ _ _
    · obtain rfl : k = n := by omega
      have EC : Hid (C = 0) := by show _ = _; rw [HC.out, HF.out]
      have ED : Hid (D = l) := by show _ = _; rw [HGOOD.out EC.out, HLL.out, setTo_all _ _ (by simp)]
      have EL : Hid (D.length = k) := by show _ = _; rw [ED.out]; exact HP.out.llen
      go_wp2
      go_ret2
      refine ⟨some ⟨w.heap.size, 0, none⟩, k, by rw [EC.out, EL.out]; rfl, ?_, HP.out.below⟩
      rw [EL.out, ED.out]
      exact HP.out.list.mono (Nat.le_refl _) (by have := HP.out.size; omega)
end Go.Proofs.YtnkacfgbkfkhdaaGreat
namespace Go.Proofs.YtnkacfgbkfkhdaaGreat
open Go.RowKit
set_option linter.unusedVariables false
set_option linter.unusedSimpArgs false
set_option maxRecDepth 20000 in
set_option maxHeartbeats 4000000 in
/-- filled. -/
theorem filled_impl {F : List (List Int)} {V : Nat → Int × Int} {w : World} {f n m ca B E sc : Nat} {aa sa : Option Addr} {p : Value} {S : List Int}
    (hE : ∀ (args : Array Value) (w : World), (callFunc f args).run Tryz.prog w = .ok (.enter f args) w) (hA : ArrsI w (.slice aa m ca) F) (hm : m ≤ 2) (hn : n ≤ 300) (hL : ∀ j, (F.getD j []).length ≤ 1048576)
    (hN : ∀ i, i < m → (F.getD (2 * i) [] = [] → 0 < (F.getD (2 * i + 1) []).length) ∧ (F.getD (2 * i) [] ≠ [] → n ≤ (F.getD (2 * i + 1) []).length))
    (hV : ∀ (W : World) (A k : Nat), k < n → Below w.heap.size w W → Ints W (some ⟨A, 0, none⟩) (numsAt F m k) → Calls Tryz.prog f #[.slice (some ⟨A, 0, none⟩) m m, p] W fun r W' => r = .returned (.tuple #[.int .i64 (V k).1, .int .i64 (V k).2]) ∧ Below W.heap.size W W')
    (hS : Piece B E w (.slice sa S.length sc) S) (hBE : B ≤ E) (hEw : E ≤ w.heap.size) (hz : sizeV S = (n : Int)) :
    Calls Tryz.prog 38 #[.slice sa S.length sc, .func (.func f) #[] #[p], .slice aa m ca] w fun r w' => ∃ v', r = .returned (.tuple #[v', .int .i64 (placesC V n)]) ∧ Arr B w'.heap.size w' v' (if placesC V n = 0 then S else []) (placesD V n) ∧ Below w.heap.size w w' := by
  have HI : Hid (Ints w sa S) := by
    obtain ⟨a', c', e', i'⟩ := hS.ints
    cases e'
    exact i'
  have HS : Hid (Piece B E w (.slice sa S.length sc) S) := hS
  have HSZ : Hid (∀ W, Ints W sa S → Calls Tryz.prog 41 #[.slice sa S.length sc] W fun e w' => e = .returned (.int .i64 (n : Int)) ∧ Below W.heap.size W w') := fun W h => by
    have := size_impl sc h
    rw [hz] at this
    exact this
  have HEP : Hid (∀ W, Below w.heap.size w W → Calls Tryz.prog 67 #[.int .i64 (n : Int), .func (.func f) #[] #[p], .slice aa m ca] W fun r w' => ∃ a' c', r = .returned (.tuple #[.slice a' (placesD V n).length c', .int .i64 (placesC V n)]) ∧ Piece W.heap.size w'.heap.size w' (.slice a' (placesD V n).length c') (placesD V n) ∧ Below W.heap.size W w') :=
    fun W h => eachPlace_impl hE (hA.keep h) hm hn hL hN (fun W' A k hk hb hi => hV W' A k hk (bTrans h hb) hi)
  have HBE : Hid (B ≤ E ∧ E ≤ w.heap.size) := ⟨hBE, hEw⟩
  have HD0 : Hid (placesC V n ≠ 0 → placesD V n = []) := fun h => by unfold placesD; rw [if_neg h]
  obtain ⟨S', hS'⟩ : ∃ S', S' = (if placesC V n = 0 then S else []) := ⟨_, rfl⟩
  have HS1 : Hid (placesC V n = 0 → S' = S) := fun h => by rw [hS', if_pos h]
  have HS2 : Hid (placesC V n ≠ 0 → S' = []) := fun h => by rw [hS', if_neg h]
  rw [← hS']
  clear hS'
  generalize placesC V n = C at *
  generalize placesD V n = D at *
  clear hE hA hm hn hL hN hV hS hBE hEw hz
  go_enter Tryz.func38, Tryz.ntmps38
  go_wp2_with fail
  refine (HSZ.out _ (HI.out.keep (bAlloc (Below.refl _ _) _))).mono ?_
  rintro r w1 ⟨rfl, hb⟩
  have HB1 : Hid (Below w.heap.size w w1) := bTrans (bAlloc (Below.refl _ _) _) hb
  have Y1 : Hid (Box w1 w.heap.size (.slice none 0 0) (.slice none 0 0) 26) := (box_new w _ _ _).keep hb
  clear hb
  go_wp2_with fail
  refine (HEP.out _ HB1.out).mono ?_
  rintro r w2 ⟨a2, c2, rfl, hp, hb⟩
  have HP2 : Hid (Piece w1.heap.size w2.heap.size w2 (.slice a2 D.length c2) D) := hp
  have HB2 : Hid (Below w.heap.size w w2) := bTrans HB1.out hb
  have Y2 : Hid (Box w2 w.heap.size (.slice none 0 0) (.slice none 0 0) 26) := Y1.out.keep hb
  have LT : Hid (w.heap.size < w1.heap.size) := Y1.out.lt
  have LT2 : Hid (w1.heap.size ≤ w2.heap.size) := hb.size
  clear hp hb Y1
  have y0 := Y2.out.c0
  have y1 := Y2.out.c1
  have f0 : w2.frozen? ⟨w.heap.size, 0, none⟩ = false := free_at Y2.out 0
  have f1 : w2.frozen? ⟨w.heap.size, 1, none⟩ = false := free_at Y2.out 1
  by_cases h0 : C = 0
  · have EC : Hid (S' = S) := HS1.out h0
    subst h0
    clear HS1 HS2 HD0
    have HR : Hid (((w2.setCell ⟨w.heap.size, 0, none⟩ (.slice sa S.length sc)).setCell ⟨w.heap.size, 1, none⟩ (.slice a2 D.length c2)).heap[w.heap.size]? = some (.cells #[.slice sa S.length sc, .slice a2 D.length c2] 26 (0, 0))) := arr_stored Y2.out
    go_wp2
    refine bodyPost_ret (results_arr_tmp Tryz.results38 _ _ w.heap.size _ _ rfl HR.out) rfl ?_
    refine ⟨_, rfl, ?_, below_setCell (below_setCell HB2.out (Nat.le_refl _) _ _) (Nat.le_refl _) _ _⟩
    rw [EC.out]
    have L1 := LT.out
    have L2 := LT2.out
    have L3 := HBE.out
    have p1 : Piece B E w2 (.slice sa S.length sc) S := HS.out.belowC HB2.out L3.2
    have p1' := (p1.win (win_setCell w2 w.heap.size 0 (.slice sa S.length sc)) (.inl L3.2)).win (win_setCell _ w.heap.size 1 (.slice a2 D.length c2)) (.inl L3.2)
    have p2' := (HP2.out.win (win_setCell w2 w.heap.size 0 (.slice sa S.length sc)) (.inr (by omega))).win (win_setCell _ w.heap.size 1 (.slice a2 D.length c2)) (.inr (by omega))
    exact ⟨_, _, rfl, p1'.mono (Nat.le_refl _) (by simp only [size_setCell]; omega), p2'.mono (by omega) (by simp only [size_setCell]; omega), p1'.apart p2' (.inl (by omega))⟩
  · have hne : (C != 0) = true := by simpa using h0
    have ED : Hid (D = []) := HD0.out h0
    have EC : Hid (S' = []) := HS2.out h0
    clear h0
    have HR : Hid (((w2.setCell ⟨w.heap.size, 0, none⟩ (.slice none 0 0)).setCell ⟨w.heap.size, 1, none⟩ (.slice none 0 0)).heap[w.heap.size]? = some (.cells #[.slice none 0 0, .slice none 0 0] 26 (0, 0))) := arr_stored Y2.out
    go_wp2
    refine bodyPost_ret (results_arr_tmp Tryz.results38 _ _ w.heap.size _ _ rfl HR.out) rfl ?_
    refine ⟨_, rfl, ?_, below_setCell (below_setCell HB2.out (Nat.le_refl _) _ _) (Nat.le_refl _) _ _⟩
    rw [EC.out, ED.out]
    exact arr_zero _ _ _
/-- A list of one array, of two, in a block of its own. -/
theorem arrs_one {W : World} {o : Nat} {x y : Value} {t : TypeId} {s d : List Int} (hb : Box W o x y t) (h : ArrI W (.agg #[x, y]) s d) : ArrsI W (.slice (some ⟨o, 0, none⟩) 1 1) [s, d] := by
  obtain ⟨a, c, b, e, e', i1, i2, g1, g2⟩ := h
  obtain ⟨rfl, rfl⟩ : x = .slice a s.length c ∧ y = .slice b d.length e := by cases e'; exact ⟨rfl, rfl⟩
  refine ⟨_, 1, 1, rfl, rfl, .inr ⟨o, 0, [.slice a s.length c, .slice b d.length e], rfl, hb.lt, rfl, fun j hj => ?_⟩⟩
  match j, hj with
  | 0, _ => exact ⟨hb.c0, a, c, rfl, g1, i1⟩
  | 1, _ => exact ⟨hb.c1, b, e, rfl, g2, i2⟩
theorem arrs_two {W : World} {o : Nat} {x y x' y' : Value} {t : TypeId} {s d s' d' : List Int} (hb : W.heap[o]? = some (.cells #[x, y, x', y'] t (0, 0))) (h : ArrI W (.agg #[x, y]) s d) (k : ArrI W (.agg #[x', y']) s' d') : ArrsI W (.slice (some ⟨o, 0, none⟩) 2 2) [s, d, s', d'] := by
  obtain ⟨a, c, b, e, e', i1, i2, g1, g2⟩ := h
  obtain ⟨rfl, rfl⟩ : x = .slice a s.length c ∧ y = .slice b d.length e := by cases e'; exact ⟨rfl, rfl⟩
  obtain ⟨a', c', b', f', e', i3, i4, g3, g4⟩ := k
  obtain ⟨rfl, rfl⟩ : x' = .slice a' s'.length c' ∧ y' = .slice b' d'.length f' := by cases e'; exact ⟨rfl, rfl⟩
  refine ⟨_, 2, 2, rfl, rfl, .inr ⟨o, 0, [.slice a s.length c, .slice b d.length e, .slice a' s'.length c', .slice b' d'.length f'], rfl, lt_of_heapA hb, rfl, fun j hj => ?_⟩⟩
  match j, hj with
  | 0, _ => exact ⟨cell_at hb rfl, a, c, rfl, g1, i1⟩
  | 1, _ => exact ⟨cell_at hb rfl, b, e, rfl, g2, i2⟩
  | 2, _ => exact ⟨cell_at hb rfl, a', c', rfl, g3, i3⟩
  | 3, _ => exact ⟨cell_at hb rfl, b', f', rfl, g4, i4⟩
theorem numsAt_one (s d : List Int) (k : Nat) : numsAt [s, d] 1 k = [numOf s d k] := rfl
theorem numsAt_two (s d s' d' : List Int) (k : Nat) : numsAt [s, d, s', d'] 2 k = [numOf s d k, numOf s' d' k] := rfl
theorem numOf_at {s d : List Int} (ho : arrOk s d = true) {k : Nat} (hk : k < d.length) : numOf s d k = d.getD k 0 := by
  unfold numOf
  by_cases e : s = []
  · subst e
    have z := arrOk_size ho
    rw [sizeV_0'] at z
    rw [if_pos rfl]
    have : k = 0 := by omega
    rw [this]
  · rw [if_neg e]
end Go.Proofs.YtnkacfgbkfkhdaaGreat
