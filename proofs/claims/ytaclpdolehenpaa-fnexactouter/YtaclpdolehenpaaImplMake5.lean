/-
  Walks: the program's chosenRows, for whatever closure.
-/
import Derived.Test.YtaclpdolehenpaaMakeP
import Derived.Test.YtaclpdolehenpaaImplMake1
import Derived.Shelf.Abstract
namespace Go.Proofs.Ytaclpdolehenpaa
open Go.RowKit
set_option linter.unusedVariables false
set_option linter.unusedSimpArgs false
theorem run_between {a : Option Addr} {n c M N : Nat} (hM : M ≤ N) (hc : N ≤ c) (W : World) : (Instr.slice 24 (.slice a n c) (some (.int .i64 (M : Int))) (some (.int .i64 (N : Int))) none).run Try.prog W = .ok (.slice (if c - M = 0 then a else a.map (·.add (M * 1))) (N - M) (c - M)) W := by
  have hs : (sizeOf 3).run Try.prog W = .ok 1 W := by kernel_rfl
  have he : Try.prog.elem 24 = 3 := by kernel_rfl
  rw [run_slice_lh (P := Try.prog) (w := W) 24 a n c (by rw [he]; exact Try.underlying24) .i64 .i64 (M : Int) (N : Int) (by omega) (by omega) (by omega), he, hs]
  have e : (c = M) = (c - M = 0) := by apply propext; omega
  simp [Result.andThen, sliced, e]
theorem ints_cell5 {w : World} {b o : Nat} {l : List Int} {k : Nat} (h : Ints w (some ⟨b, o, none⟩) l) (hk : k < l.length) : w.cell? ⟨b, o + k, none⟩ = some (.int .i64 (l.getD k 0)) := by
  obtain ⟨b', o', e, hb, hc⟩ := h.at hk
  cases e
  exact hc
theorem ints_from5 {w : World} {b : Option Addr} {d : List Int} {e : Nat} (C : Nat) (h : Ints w b d) (he : d.length ≤ e) : Ints w (if e - C = 0 then b else b.map (·.add (C * 1))) (d.drop C) := by
  by_cases h0 : d.length ≤ C
  · exact .inl (List.drop_of_length_le h0)
  · rw [if_neg (by omega)]
    obtain ⟨b', o', rfl, _, _⟩ := h.at (k := 0) (by omega)
    have := ints_tail C h
    by_cases hC0 : C = 0 <;> simpa [Addr.add, hC0] using this
theorem OwnInts.keep5 {w w' : World} {g : Nat} {l : List Int} (h : OwnInts w g l) (hb : Below w.heap.size w w') : OwnInts w' g l := by
  unfold OwnInts
  rw [hb.block _ (lt_of_heapA h)]
  exact h
theorem measure5 {k n : Nat} (h : wrap64 ((k : Int) + 1) = (k : Int) + 1) (hk : k < n) : n - (wrap64 ((k : Int) + 1)).toNat < n - ((k : Int)).toNat := by
  rw [h]; omega
theorem wrap5 {a : Int} (h1 : -1000000000000000 ≤ a) (h2 : a ≤ 1000000000000000) : wrap64 a = a := by unfold wrap64; omega
/-- A row is copied to its place. -/
theorem copy_row5 {w : World} {g m A B C L e : Nat} {l d : List Int} {b : Option Addr} (ho : OwnInts w g l) (hl : l.length = m) (hi : Ints w b d) (he : d.length ≤ e) (hA : A + L = B) (hB : B ≤ m) (hC : C + L ≤ d.length) (ty : TypeId) :
    (Builtin.copy_ #[24, 24] ty #[.slice (if m - A = 0 then some ⟨g, 0, none⟩ else (some (⟨g, 0, none⟩ : Addr)).map (·.add (A * 1))) (B - A) (m - A), .slice (if e - C = 0 then b else b.map (·.add (C * 1))) (d.length - C) (e - C)]).run Try.prog w = .ok (.int .i64 (L : Int)) (w.setRow g (vals (paste l A (d.drop C) L))) := by
  have hi' := ints_from5 (e := e) C hi he
  have hL : B - A = L := by omega
  have hd : (d.drop C).length = d.length - C := by simp
  rw [hL]
  by_cases h0 : m - A = 0
  · obtain rfl : L = 0 := by omega
    rw [if_pos h0, paste_zero, setRow_self w g (vals l) _ _ ho]
    exact run_copy_none (P := Try.prog) _ 24 24 ty 3 _ _ _ _ _ _ Try.underlying24 int_size (Nat.min_zero _)
  · rw [if_neg h0]
    have q := copy_paste (k := A) (n := L) (l := l) ho hi' (by rw [hd]; omega) ty (m - A) (e - C)
    rw [hd, Nat.min_eq_right (by omega)] at q
    have e1 : (some (⟨g, 0, none⟩ : Addr)).map (·.add (A * 1)) = some ⟨g, A, none⟩ := by
      by_cases hA0 : A = 0 <;> simp [Addr.add, hA0]
    rw [e1]
    exact q
set_option maxRecDepth 20000 in
set_option maxHeartbeats 4000000 in
/-- chosenRows. -/
theorem chosen_impl {s d : List Int} {w : World} {v p : Value} {f n : Nat} {φ : Nat → Int} {z : Int} (hzn : z = (n : Int)) (hE : ∀ (args : Array Value) (w : World), (callFunc f args).run Try.prog w = .ok (.enter f args) w) (h : ArrI w v s d) (ho : arrOk s d = true) (hs : s ≠ []) (hz : 0 ≤ sizeV ((n : Int) :: s.drop 1))
    (hV : ∀ (W : World) (k : Nat), k < n → Below w.heap.size w W → Calls Try.prog f #[.int .i64 (k : Int), p] W fun r W' => r = .returned (.int .i64 (φ k)) ∧ Below W.heap.size W W') :
    Calls Try.prog 119 #[v, .int .i64 z, .func (.func f) #[] #[p]] w fun r w' => ∃ v', r = .returned v' ∧ Arr w.heap.size w'.heap.size w' v' ((n : Int) :: s.drop 1) (chosenD s d φ n) ∧ Below w.heap.size w w' := by
  obtain ⟨a, c, b, e, rfl, i1, i2, g1, g2⟩ := h
  have hsl : s.length ≤ 1048576 := by have := (sizeV_ok (arrOk_shape ho)).1; omega
  have HOR : Hid (∀ W, Below w.heap.size w W → Calls Try.prog 129 #[.slice a s.length c, .int .i64 z] W fun r w' => ∃ a' c', r = .returned (.slice a' ((n : Int) :: s.drop 1).length c') ∧ Piece W.heap.size w'.heap.size w' (.slice a' ((n : Int) :: s.drop 1).length c') ((n : Int) :: s.drop 1) ∧ Below W.heap.size W w') := fun W hb => by rw [hzn]; exact ofRows_impl (n : Int) (IntsI.keep ⟨a, c, rfl, g1, i1⟩ hb) hsl hs
  have HV : Hid (∀ (W : World) (k : Nat), k < n → Below w.heap.size w W → Calls Try.prog f #[.int .i64 (k : Int), p] W fun r W' => r = .returned (.int .i64 (φ k)) ∧ Below W.heap.size W W') := hV
  have hm : sizeV ((n : Int) :: s.drop 1) = ((n * rowN s : Nat) : Int) := by
    by_cases h0 : (n : Int) = 0
    · have : n = 0 := by omega
      subst this
      rw [Nat.zero_mul]
      exact zero5 hz
    · obtain ⟨p0, p1, p2⟩ := tail5 hz (by omega)
      rw [← p1, Int.natCast_mul]
      unfold rowN
      rw [Int.toNat_of_nonneg p0]
  have hz3 := sizeV_bd ((n : Int) :: s.drop 1)
  have hn3 := dim5 hz
  have HSZ : Hid (∀ W a' c', Ints W a' ((n : Int) :: s.drop 1) → Calls Try.prog 45 #[.slice a' ((n : Int) :: s.drop 1).length c'] W fun r w' => r = .returned (.int .i64 ((n * rowN s : Nat) : Int)) ∧ Below W.heap.size W w') := fun W a' c' h => by
    have q := size_impl c' h
    rw [hm] at q
    exact q
  have HTO0 : Hid (chosenTo s d φ n 0 = List.replicate (n * rowN s) 0) := chosenTo_zero s d φ n
  have HTOA : Hid (chosenTo s d φ n n = chosenD s d φ n) := chosenTo_all s d φ n
  have HTOL : Hid (∀ k, k ≤ n → (chosenTo s d φ n k).length = n * rowN s) := fun k hk => chosenTo_length ho hs φ hk
  have HTON : Hid (∀ k, k < n → ¬ (0 ≤ φ k ∧ φ k < s.getD 0 0) → chosenTo s d φ n k = chosenTo s d φ n (k + 1)) := fun k hk h => chosenTo_no hk h
  have HTOY : Hid (∀ k, k < n → 0 ≤ φ k ∧ φ k < s.getD 0 0 → paste (chosenTo s d φ n k) (k * rowN s) (d.drop ((φ k).toNat * rowN s)) (rowN s) = chosenTo s d φ n (k + 1)) := fun k hk h => chosenTo_yes ho hs hk h
  have HRW : Hid (∀ j : Int, 0 ≤ j → j < s.getD 0 0 → j.toNat * rowN s + rowN s ≤ d.length ∧ j ≤ 300) := fun j h0 h1 => by
    have q := rows5 ho hs
    obtain ⟨r1, r2⟩ := rowsN5 ho
    have : (j.toNat + 1) * rowN s ≤ rowsN s * rowN s := Nat.mul_le_mul_right _ (by omega)
    rw [Nat.succ_mul] at this
    omega
  have HD3 : Hid (d.length ≤ 300) := arrOk_len ho
  obtain ⟨ab, ao, rfl, _, _⟩ := i1.at (k := 0) (List.length_pos_iff.2 hs)
  have HN0 : Hid (∀ W, Below w.heap.size w W → W.cell? ⟨ab, ao, none⟩ = some (.int .i64 (s.getD 0 0))) := fun W hb => ints_cell5 (i1.keep hb) (List.length_pos_iff.2 hs)
  have HI2 : Hid (Ints w b d) := i2
  have HG2 : Hid (d.length ≤ e) := g2
  have hsp : 0 < s.length := List.length_pos_iff.2 hs
  have hmk : ∀ w, (Instr.makeSlice 24 (.int .i64 ((n * rowN s : Nat) : Int)) (.int .i64 ((n * rowN s : Nat) : Int))).run Try.prog w = .ok (.slice (some ⟨w.heap.size, 0, none⟩) (n * rowN s) (n * rowN s)) (w.alloc (.cells (vals (List.replicate (n * rowN s) 0)) 3)) := fun w => make_ints (n * rowN s) (by omega) w
  have HM : Hid (n * rowN s ≤ 300 ∧ n ≤ 300) := ⟨by omega, by omega⟩
  have HML : Hid (∀ k, k < n → (k + 1) * rowN s ≤ n * rowN s) := fun k hk => Nat.mul_le_mul_right _ hk
  have HQ : Hid (0 < n → Int.tdiv ((n * rowN s : Nat) : Int) z = (rowN s : Int)) := fun h => by
    rw [hzn, Int.natCast_mul, Int.mul_tdiv_cancel_left _ (by omega)]
  have HW : Hid (∀ k : Nat, k < n → wrap64 ((k : Int) + 1) = (k : Int) + 1 ∧ wrap64 ((k : Int) * (rowN s : Int)) = ((k * rowN s : Nat) : Int) ∧ wrap64 (((k : Int) + 1) * (rowN s : Int)) = (((k + 1) * rowN s : Nat) : Int)) := fun k hk => by
    have h1 : k * rowN s + rowN s = (k + 1) * rowN s := (Nat.succ_mul k _).symm
    have h2 : (k + 1) * rowN s ≤ n * rowN s := Nat.mul_le_mul_right _ hk
    refine ⟨wrap5 (by omega) (by omega), ?_, ?_⟩
    · rw [← Int.natCast_mul]; exact wrap5 (by omega) (by omega)
    · have : ((k : Int) + 1) * (rowN s : Int) = (((k + 1) * rowN s : Nat) : Int) := by rw [Int.natCast_mul]; rfl
      rw [this]; exact wrap5 (by omega) (by omega)
  have HWJ : Hid (∀ j : Int, 0 ≤ j → j < s.getD 0 0 → wrap64 (j * (rowN s : Int)) = ((j.toNat * rowN s : Nat) : Int)) := fun j h0 h1 => by
    obtain ⟨q1, q2⟩ := HRW.out j h0 h1
    have := HD3.out
    have : j * (rowN s : Int) = ((j.toNat * rowN s : Nat) : Int) := by rw [Int.natCast_mul, Int.toNat_of_nonneg h0]
    rw [this]; exact wrap5 (by omega) (by omega)
  have HWL : Hid (0 < n → wrap64 (rowN s : Int) = (rowN s : Int)) := fun h0 => by
    have h2 : 1 * rowN s ≤ n * rowN s := Nat.mul_le_mul_right _ h0
    exact wrap5 (by omega) (by omega)
  have HCY : Hid (∀ (k g : Nat) (j : Int) (W : World), k < n → 0 ≤ j → j < s.getD 0 0 → φ k = j → OwnInts W g (chosenTo s d φ n k) → Ints W b d → (Builtin.copy_ #[24, 24] 3 #[.slice (if n * rowN s - k * rowN s = 0 then some ⟨g, 0, none⟩ else (some (⟨g, 0, none⟩ : Addr)).map (·.add (k * rowN s * 1))) ((k + 1) * rowN s - k * rowN s) (n * rowN s - k * rowN s), .slice (if e - j.toNat * rowN s = 0 then b else b.map (·.add (j.toNat * rowN s * 1))) (d.length - j.toNat * rowN s) (e - j.toNat * rowN s)]).run Try.prog W = .ok (.int .i64 (rowN s : Int)) (W.setRow g (vals (chosenTo s d φ n (k + 1))))) := fun k g j W hk h0 h1 hj ho' hi => by
    have q := copy_row5 ho' (HTOL.out k (Nat.le_of_lt hk)) hi g2 (Nat.succ_mul k (rowN s)).symm (HML.out k hk) (HRW.out j h0 h1).1 3
    rw [← hj, HTOY.out k hk (by rw [hj]; exact ⟨h0, h1⟩), hj] at q
    exact q
  have HSA : Hid (∀ (k g : Nat) (W : World), k < n → (Instr.slice 24 (.slice (some ⟨g, 0, none⟩) (n * rowN s) (n * rowN s)) (some (.int .i64 ((k * rowN s : Nat) : Int))) (some (.int .i64 (((k + 1) * rowN s : Nat) : Int))) none).run Try.prog W = .ok (.slice (if n * rowN s - k * rowN s = 0 then some ⟨g, 0, none⟩ else (some (⟨g, 0, none⟩ : Addr)).map (·.add (k * rowN s * 1))) ((k + 1) * rowN s - k * rowN s) (n * rowN s - k * rowN s)) W) := fun k g W hk => run_between (Nat.mul_le_mul_right _ (Nat.le_succ k)) (HML.out k hk) W
  have HSB : Hid (∀ (j : Int) (W : World), 0 ≤ j → j < s.getD 0 0 → (Instr.slice 24 (.slice b d.length e) (some (.int .i64 ((j.toNat * rowN s : Nat) : Int))) none none).run Try.prog W = .ok (.slice (if e - j.toNat * rowN s = 0 then b else b.map (·.add (j.toNat * rowN s * 1))) (d.length - j.toNat * rowN s) (e - j.toNat * rowN s)) W) := fun j W h0 h1 => run_from (by have := (HRW.out j h0 h1).1; omega) g2 W
  obtain ⟨S, hS⟩ : ∃ S, S = (n : Int) :: s.drop 1 := ⟨_, rfl⟩
  obtain ⟨D, hD⟩ : ∃ D, D = chosenD s d φ n := ⟨_, rfl⟩
  rw [← hS] at HOR HSZ ⊢
  rw [← hD] at HTOA ⊢
  have HZ : Hid (z = (n : Int)) := hzn
  clear hzn hS hD hV ho hz hm i1 i2 g1 g2 hsl hs hz3 hn3 HTOY HRW HML HD3
  generalize rowN s = L at *
  generalize s.getD 0 0 = N at *
  generalize hN : n * L = m at *
  have HN : Hid (n * L = m) := hN
  clear hN
  generalize hTO : chosenTo s d φ n = TO at *
  clear hTO
  go_enter Try.func119, Try.ntmps119
  go_wp2_with fail
  refine (HOR.out _ (bAlloc (bAlloc (Below.refl _ _) _) _)).mono ?_
  rintro r w1 ⟨a1, c1, rfl, hp, hb⟩
  have HB1 : Hid (Below w.heap.size w w1) := bTrans (bAlloc (bAlloc (Below.refl _ _) _) _) hb
  have X1 : Hid (Box w1 w.heap.size (.slice (some ⟨ab, ao, none⟩) s.length c) (.slice b d.length e) 26) := ((box_new w _ _ _).keep (bAlloc (Below.refl _ _) _)).keep hb
  have R1 : Hid (Box w1 (w.heap.size + 1) (.slice none 0 0) (.slice none 0 0) 26) := (box_new2 w _ _ _ _).keep hb
  have P1 : Hid (Piece (w.heap.size + 2) w1.heap.size w1 (.slice a1 S.length c1) S) := by show Piece _ _ _ _ _; simpa using hp
  have I1 : Hid (Ints w1 a1 S) := by
    obtain ⟨q1, q2, q3, q4⟩ := hp.ints
    cases q3
    exact q4
  have LT : Hid (w.heap.size + 2 ≤ w1.heap.size) := by have := hb.size; show _ ≤ _; simpa using this
  clear hp hb
  go_wp2_with fail
  refine (HSZ.out _ _ _ I1.out).mono ?_
  rintro r w2 ⟨rfl, hb⟩
  have HB2 : Hid (Below w.heap.size w w2) := bTrans HB1.out hb
  have X2 : Hid (Box w2 w.heap.size (.slice (some ⟨ab, ao, none⟩) s.length c) (.slice b d.length e) 26) := X1.out.keep hb
  have R2 : Hid (Box w2 (w.heap.size + 1) (.slice none 0 0) (.slice none 0 0) 26) := R1.out.keep hb
  have P2 : Hid (Piece (w.heap.size + 2) w1.heap.size w2 (.slice a1 S.length c1) S) := P1.out.keep hb
  have LT2 : Hid (w1.heap.size ≤ w2.heap.size) := hb.size
  clear hb X1 R1 P1 I1 HB1 HOR HSZ
  go_wp2
  generalize hW : w2.alloc (.cells (vals (List.replicate m 0)) 3) = W
  have HBW : Hid (Below w2.heap.size w2 W) := by rw [← hW]; exact bAlloc (Below.refl _ _) _
  have HOW : Hid (OwnInts W w2.heap.size (TO 0)) := by rw [← hW, HTO0.out]; exact ownInts_new _ _
  clear hW hmk
  go_loopw [20] (fun i w' => ∃ k : Nat, k ≤ n ∧ i = .int .i64 (k : Int) ∧ OwnInts w' w2.heap.size (TO k) ∧ Below w2.heap.size w2 w') (fun i _ => n - (intOf i).toNat)
  case atStart => exact ⟨0, by omega, rfl, HOW.out, HBW.out⟩
  case round =>
    obtain ⟨k, hk, rfl, hO, hb⟩ := hrel
    have HO : Hid (OwnInts wr w2.heap.size (TO k)) := hO
    have HB : Hid (Below w2.heap.size w2 wr) := hb
    clear hO hb HOW HBW
    have hzn := HZ.out
    by_cases hlt : (k : Int) < z
    · have HLT : Hid (k < n) := by show _ < _; omega
      have hq := HQ.out (by omega)
      have hn0 : z ≠ 0 := by omega
      have HVK : Hid (Calls Try.prog f #[.int .i64 (k : Int), p] wr fun r W' => r = .returned (.int .i64 (φ k)) ∧ Below wr.heap.size wr W') := HV.out wr k HLT.out (bTrans HB2.out HB.out)
      have TN : Hid (¬ (0 ≤ φ k ∧ φ k < N) → TO k = TO (k + 1)) := HTON.out k HLT.out
      clear hzn
      have hwL := HWL.out (Nat.lt_of_le_of_lt (Nat.zero_le _) HLT.out)
      have hz3 : z ≤ 300 := by have := HZ.out; have := HM.out; omega
      have HCK := HCY.out k w2.heap.size (φ k)
      generalize φ k = j at *
      by_cases hj : 0 ≤ j
      · by_cases hj2 : j < N
        · have HCP : Hid (∀ W, OwnInts W w2.heap.size (TO k) → Ints W b d → (Builtin.copy_ #[24, 24] 3 #[.slice (if m - k * L = 0 then some ⟨w2.heap.size, 0, none⟩ else (some (⟨w2.heap.size, 0, none⟩ : Addr)).map (·.add (k * L * 1))) ((k + 1) * L - k * L) (m - k * L), .slice (if e - j.toNat * L = 0 then b else b.map (·.add (j.toNat * L * 1))) (d.length - j.toNat * L) (e - j.toNat * L)]).run Try.prog W = .ok (.int .i64 (L : Int)) (W.setRow w2.heap.size (vals (TO (k + 1))))) := fun W h1 h2 => HCK W HLT.out hj hj2 rfl h1 h2
          have hs1 := fun W => HSA.out k w2.heap.size W HLT.out
          have hs2 := fun W => HSB.out j W hj hj2
          obtain ⟨hk1, w1', w2'⟩ := HW.out k HLT.out
          have HZ3 : Hid (z ≤ 300 ∧ (k : Int) < z) := ⟨hz3, hlt⟩
          have HW4 : Hid (wrap64 ((k : Int) + 1) = (k : Int) + 1 ∧ wrap64 ((k : Int) * (L : Int)) = ((k * L : Nat) : Int) ∧ wrap64 (((k : Int) + 1) * (L : Int)) = (((k + 1) * L : Nat) : Int)) := ⟨hk1, w1', w2'⟩
          clear hk1 w1' w2'
          have HW3 : Hid (wrap64 (j * (L : Int)) = ((j.toNat * L : Nat) : Int)) := HWJ.out j hj hj2
          clear TN HCK HSA HSB HW HWJ HCY HTON HTOL
          generalize (if m - k * L = 0 then some ⟨w2.heap.size, 0, none⟩ else (some (⟨w2.heap.size, 0, none⟩ : Addr)).map (·.add (k * L * 1))) = A1 at *
          generalize (if e - j.toNat * L = 0 then b else b.map (·.add (j.toNat * L * 1))) = A2 at *
          generalize (k + 1) * L - k * L = n1 at *
          generalize m - k * L = n2 at *
          generalize d.length - j.toNat * L = n3 at *
          generalize e - j.toNat * L = n4 at *
          generalize (k + 1) * L = n5 at *
          generalize k * L = n6 at *
          generalize j.toNat * L = n7 at *
          go_wp2_with (go_at_fn f; refine HVK.out.mono ?_; rintro r w3 ⟨rfl, hb⟩; have HB3 : Hid (Below w2.heap.size w2 w3) := bTrans HB.out hb; have HO3 : Hid (OwnInts w3 w2.heap.size (TO k)) := (HO.out.keep5 hb); have x0 := (X2.out.keep HB3.out).c0; have x1 := (X2.out.keep HB3.out).c1; have xn := HN0.out _ (bTrans HB2.out HB3.out); have hcp := HCP.out w3.drew (HO3.out.keep5 (Below.refl w3.heap.size w3).drew) (HI2.out.keep (bTrans HB2.out HB3.out.drew)); clear hb)
          have HO4 : Hid (OwnInts (w3.drew.setRow w2.heap.size (vals (TO (k + 1)))) w2.heap.size (TO (k + 1))) := (HO3.out.keep5 (Below.refl w3.heap.size w3).drew).setRow _
          have HB4 : Hid (Below w2.heap.size w2 (w3.drew.setRow w2.heap.size (vals (TO (k + 1))))) := below_setRow HB3.out.drew (Nat.le_refl _) _
          generalize hW : w3.drew.setRow w2.heap.size (vals (TO (k + 1))) = W4 at *
          clear hW
          obtain ⟨hk1, w1', w2'⟩ := HW4.out
          have w3' := HW3.out
          clear hz3 hlt
          go_region
          obtain ⟨hz3, hlt⟩ := HZ3.out
          clear hk1 w1' w2' w3' hs1 hs2 hcp x0 x1 xn
          go_wp2
          go_roundw
          case rel => exact ⟨k + 1, HLT.out, by go_num, HO4.out, HB4.out⟩
          case measure => simp [intOf]; have := HLT.out; omega
        · have HT' : Hid (TO k = TO (k + 1)) := TN.out (fun q => hj2 q.2)
          clear TN HCK
          go_wp2_with (go_at_fn f; refine HVK.out.mono ?_; rintro r w3 ⟨rfl, hb⟩; have HB3 : Hid (Below w2.heap.size w2 w3) := bTrans HB.out hb; have HO3 : Hid (OwnInts w3 w2.heap.size (TO k)) := (HO.out.keep5 hb); have x0 := (X2.out.keep HB3.out).c0; have xn := HN0.out _ (bTrans HB2.out HB3.out); clear hb)
          go_roundw
          case rel => exact ⟨k + 1, HLT.out, by go_num, by rw [← HT'.out]; exact HO3.out, HB3.out⟩
          case measure => simp [intOf]; have := HLT.out; omega
      · have HT' : Hid (TO k = TO (k + 1)) := TN.out (fun q => hj q.1)
        clear TN HCK
        go_wp2_with (go_at_fn f; refine HVK.out.mono ?_; rintro r w3 ⟨rfl, hb⟩; have HB3 : Hid (Below w2.heap.size w2 w3) := bTrans HB.out hb; have HO3 : Hid (OwnInts w3 w2.heap.size (TO k)) := (HO.out.keep5 hb); clear hb)
        go_roundw
        case rel => exact ⟨k + 1, HLT.out, by go_num, by rw [← HT'.out]; exact HO3.out, HB3.out⟩
        case measure => simp [intOf]; have := HLT.out; omega
    · obtain rfl : k = n := by omega
      clear hzn
      have LD : Hid (D.length = m) := by show _ = _; rw [← HTOA.out]; exact HTOL.out k (Nat.le_refl _)
      have R3 : Hid (Box wr (w.heap.size + 1) (.slice none 0 0) (.slice none 0 0) 26) := R2.out.keep HB.out
      have P3 : Hid (Piece (w.heap.size + 2) w1.heap.size wr (.slice a1 S.length c1) S) := P2.out.keep HB.out
      have PD : Hid (Piece w2.heap.size (w2.heap.size + 1) wr (.slice (some ⟨w2.heap.size, 0, none⟩) m m) D) := by
        have q := OwnInts.piece HO.out (B := w2.heap.size) (C := w2.heap.size + 1) (Nat.le_refl _) (by omega) m (by rw [HTOL.out k (Nat.le_refl _)]; exact Nat.le_refl _)
        rw [HTOL.out k (Nat.le_refl _), HTOA.out] at q
        exact q
      have LW : Hid (w2.heap.size + 1 ≤ wr.heap.size) := lt_of_heapA HO.out
      have HB5 : Hid (Below w.heap.size w wr) := bTrans HB2.out HB.out
      have y0 := R3.out.c0
      have y1 := R3.out.c1
      have f0 : wr.frozen? ⟨w.heap.size + 1, 0, none⟩ = false := free_at R3.out 0
      have f1 : wr.frozen? ⟨w.heap.size + 1, 1, none⟩ = false := free_at R3.out 1
      have HR : Hid (((wr.setCell ⟨w.heap.size + 1, 0, none⟩ (.slice a1 S.length c1)).setCell ⟨w.heap.size + 1, 1, none⟩ (.slice (some ⟨w2.heap.size, 0, none⟩) m m)).heap[w.heap.size + 1]? = some (.cells #[.slice a1 S.length c1, .slice (some ⟨w2.heap.size, 0, none⟩) m m] 26 (0, 0))) := arr_stored R3.out
      go_wp2
      refine bodyPost_ret (v := .agg #[.slice a1 S.length c1, .slice (some ⟨w2.heap.size, 0, none⟩) m m]) (results_arr rfl _ _ (w.heap.size + 1) _ _ rfl HR.out) rfl ?_
      refine ⟨_, rfl, ?_, below_setCell (below_setCell HB5.out (by omega) _ _) (by omega) _ _⟩
      have L1 := LT.out
      have L2 := LT2.out
      have L3 := LW.out
      have p1' := (P3.out.win (win_setCell wr (w.heap.size + 1) 0 (.slice a1 S.length c1)) (.inr (by omega))).win (win_setCell _ (w.heap.size + 1) 1 (.slice (some ⟨w2.heap.size, 0, none⟩) m m)) (.inr (by omega))
      have p2' := (PD.out.win (win_setCell wr (w.heap.size + 1) 0 (.slice a1 S.length c1)) (.inr (by omega))).win (win_setCell _ (w.heap.size + 1) 1 (.slice (some ⟨w2.heap.size, 0, none⟩) m m)) (.inr (by omega))
      exact ⟨_, _, rfl, p1'.mono (by omega) (by simp only [size_setCell]; omega), p2'.mono (by omega) (by simp only [size_setCell]; omega), p1'.apart p2' (.inl (by omega))⟩
set_option maxRecDepth 20000 in
set_option maxHeartbeats 4000000 in
/-- chosenRows. -/
theorem chosen2_impl {s d : List Int} {w : World} {v p q : Value} {f n : Nat} {φ : Nat → Int} {z : Int} (hzn : z = (n : Int)) (hE : ∀ (args : Array Value) (w : World), (callFunc f args).run Try.prog w = .ok (.enter f args) w) (h : ArrI w v s d) (ho : arrOk s d = true) (hs : s ≠ []) (hz : 0 ≤ sizeV ((n : Int) :: s.drop 1))
    (hV : ∀ (W : World) (k : Nat), k < n → Below w.heap.size w W → Calls Try.prog f #[.int .i64 (k : Int), p, q] W fun r W' => r = .returned (.int .i64 (φ k)) ∧ Below W.heap.size W W') :
    Calls Try.prog 119 #[v, .int .i64 z, .func (.func f) #[] #[p, q]] w fun r w' => ∃ v', r = .returned v' ∧ Arr w.heap.size w'.heap.size w' v' ((n : Int) :: s.drop 1) (chosenD s d φ n) ∧ Below w.heap.size w w' := by
  obtain ⟨a, c, b, e, rfl, i1, i2, g1, g2⟩ := h
  have hsl : s.length ≤ 1048576 := by have := (sizeV_ok (arrOk_shape ho)).1; omega
  have HOR : Hid (∀ W, Below w.heap.size w W → Calls Try.prog 129 #[.slice a s.length c, .int .i64 z] W fun r w' => ∃ a' c', r = .returned (.slice a' ((n : Int) :: s.drop 1).length c') ∧ Piece W.heap.size w'.heap.size w' (.slice a' ((n : Int) :: s.drop 1).length c') ((n : Int) :: s.drop 1) ∧ Below W.heap.size W w') := fun W hb => by rw [hzn]; exact ofRows_impl (n : Int) (IntsI.keep ⟨a, c, rfl, g1, i1⟩ hb) hsl hs
  have HV : Hid (∀ (W : World) (k : Nat), k < n → Below w.heap.size w W → Calls Try.prog f #[.int .i64 (k : Int), p, q] W fun r W' => r = .returned (.int .i64 (φ k)) ∧ Below W.heap.size W W') := hV
  have hm : sizeV ((n : Int) :: s.drop 1) = ((n * rowN s : Nat) : Int) := by
    by_cases h0 : (n : Int) = 0
    · have : n = 0 := by omega
      subst this
      rw [Nat.zero_mul]
      exact zero5 hz
    · obtain ⟨p0, p1, p2⟩ := tail5 hz (by omega)
      rw [← p1, Int.natCast_mul]
      unfold rowN
      rw [Int.toNat_of_nonneg p0]
  have hz3 := sizeV_bd ((n : Int) :: s.drop 1)
  have hn3 := dim5 hz
  have HSZ : Hid (∀ W a' c', Ints W a' ((n : Int) :: s.drop 1) → Calls Try.prog 45 #[.slice a' ((n : Int) :: s.drop 1).length c'] W fun r w' => r = .returned (.int .i64 ((n * rowN s : Nat) : Int)) ∧ Below W.heap.size W w') := fun W a' c' h => by
    have q := size_impl c' h
    rw [hm] at q
    exact q
  have HTO0 : Hid (chosenTo s d φ n 0 = List.replicate (n * rowN s) 0) := chosenTo_zero s d φ n
  have HTOA : Hid (chosenTo s d φ n n = chosenD s d φ n) := chosenTo_all s d φ n
  have HTOL : Hid (∀ k, k ≤ n → (chosenTo s d φ n k).length = n * rowN s) := fun k hk => chosenTo_length ho hs φ hk
  have HTON : Hid (∀ k, k < n → ¬ (0 ≤ φ k ∧ φ k < s.getD 0 0) → chosenTo s d φ n k = chosenTo s d φ n (k + 1)) := fun k hk h => chosenTo_no hk h
  have HTOY : Hid (∀ k, k < n → 0 ≤ φ k ∧ φ k < s.getD 0 0 → paste (chosenTo s d φ n k) (k * rowN s) (d.drop ((φ k).toNat * rowN s)) (rowN s) = chosenTo s d φ n (k + 1)) := fun k hk h => chosenTo_yes ho hs hk h
  have HRW : Hid (∀ j : Int, 0 ≤ j → j < s.getD 0 0 → j.toNat * rowN s + rowN s ≤ d.length ∧ j ≤ 300) := fun j h0 h1 => by
    have q := rows5 ho hs
    obtain ⟨r1, r2⟩ := rowsN5 ho
    have : (j.toNat + 1) * rowN s ≤ rowsN s * rowN s := Nat.mul_le_mul_right _ (by omega)
    rw [Nat.succ_mul] at this
    omega
  have HD3 : Hid (d.length ≤ 300) := arrOk_len ho
  obtain ⟨ab, ao, rfl, _, _⟩ := i1.at (k := 0) (List.length_pos_iff.2 hs)
  have HN0 : Hid (∀ W, Below w.heap.size w W → W.cell? ⟨ab, ao, none⟩ = some (.int .i64 (s.getD 0 0))) := fun W hb => ints_cell5 (i1.keep hb) (List.length_pos_iff.2 hs)
  have HI2 : Hid (Ints w b d) := i2
  have HG2 : Hid (d.length ≤ e) := g2
  have hsp : 0 < s.length := List.length_pos_iff.2 hs
  have hmk : ∀ w, (Instr.makeSlice 24 (.int .i64 ((n * rowN s : Nat) : Int)) (.int .i64 ((n * rowN s : Nat) : Int))).run Try.prog w = .ok (.slice (some ⟨w.heap.size, 0, none⟩) (n * rowN s) (n * rowN s)) (w.alloc (.cells (vals (List.replicate (n * rowN s) 0)) 3)) := fun w => make_ints (n * rowN s) (by omega) w
  have HM : Hid (n * rowN s ≤ 300 ∧ n ≤ 300) := ⟨by omega, by omega⟩
  have HML : Hid (∀ k, k < n → (k + 1) * rowN s ≤ n * rowN s) := fun k hk => Nat.mul_le_mul_right _ hk
  have HQ : Hid (0 < n → Int.tdiv ((n * rowN s : Nat) : Int) z = (rowN s : Int)) := fun h => by
    rw [hzn, Int.natCast_mul, Int.mul_tdiv_cancel_left _ (by omega)]
  have HW : Hid (∀ k : Nat, k < n → wrap64 ((k : Int) + 1) = (k : Int) + 1 ∧ wrap64 ((k : Int) * (rowN s : Int)) = ((k * rowN s : Nat) : Int) ∧ wrap64 (((k : Int) + 1) * (rowN s : Int)) = (((k + 1) * rowN s : Nat) : Int)) := fun k hk => by
    have h1 : k * rowN s + rowN s = (k + 1) * rowN s := (Nat.succ_mul k _).symm
    have h2 : (k + 1) * rowN s ≤ n * rowN s := Nat.mul_le_mul_right _ hk
    refine ⟨wrap5 (by omega) (by omega), ?_, ?_⟩
    · rw [← Int.natCast_mul]; exact wrap5 (by omega) (by omega)
    · have : ((k : Int) + 1) * (rowN s : Int) = (((k + 1) * rowN s : Nat) : Int) := by rw [Int.natCast_mul]; rfl
      rw [this]; exact wrap5 (by omega) (by omega)
  have HWJ : Hid (∀ j : Int, 0 ≤ j → j < s.getD 0 0 → wrap64 (j * (rowN s : Int)) = ((j.toNat * rowN s : Nat) : Int)) := fun j h0 h1 => by
    obtain ⟨q1, q2⟩ := HRW.out j h0 h1
    have := HD3.out
    have : j * (rowN s : Int) = ((j.toNat * rowN s : Nat) : Int) := by rw [Int.natCast_mul, Int.toNat_of_nonneg h0]
    rw [this]; exact wrap5 (by omega) (by omega)
  have HWL : Hid (0 < n → wrap64 (rowN s : Int) = (rowN s : Int)) := fun h0 => by
    have h2 : 1 * rowN s ≤ n * rowN s := Nat.mul_le_mul_right _ h0
    exact wrap5 (by omega) (by omega)
  have HCY : Hid (∀ (k g : Nat) (j : Int) (W : World), k < n → 0 ≤ j → j < s.getD 0 0 → φ k = j → OwnInts W g (chosenTo s d φ n k) → Ints W b d → (Builtin.copy_ #[24, 24] 3 #[.slice (if n * rowN s - k * rowN s = 0 then some ⟨g, 0, none⟩ else (some (⟨g, 0, none⟩ : Addr)).map (·.add (k * rowN s * 1))) ((k + 1) * rowN s - k * rowN s) (n * rowN s - k * rowN s), .slice (if e - j.toNat * rowN s = 0 then b else b.map (·.add (j.toNat * rowN s * 1))) (d.length - j.toNat * rowN s) (e - j.toNat * rowN s)]).run Try.prog W = .ok (.int .i64 (rowN s : Int)) (W.setRow g (vals (chosenTo s d φ n (k + 1))))) := fun k g j W hk h0 h1 hj ho' hi => by
    have q := copy_row5 ho' (HTOL.out k (Nat.le_of_lt hk)) hi g2 (Nat.succ_mul k (rowN s)).symm (HML.out k hk) (HRW.out j h0 h1).1 3
    rw [← hj, HTOY.out k hk (by rw [hj]; exact ⟨h0, h1⟩), hj] at q
    exact q
  have HSA : Hid (∀ (k g : Nat) (W : World), k < n → (Instr.slice 24 (.slice (some ⟨g, 0, none⟩) (n * rowN s) (n * rowN s)) (some (.int .i64 ((k * rowN s : Nat) : Int))) (some (.int .i64 (((k + 1) * rowN s : Nat) : Int))) none).run Try.prog W = .ok (.slice (if n * rowN s - k * rowN s = 0 then some ⟨g, 0, none⟩ else (some (⟨g, 0, none⟩ : Addr)).map (·.add (k * rowN s * 1))) ((k + 1) * rowN s - k * rowN s) (n * rowN s - k * rowN s)) W) := fun k g W hk => run_between (Nat.mul_le_mul_right _ (Nat.le_succ k)) (HML.out k hk) W
  have HSB : Hid (∀ (j : Int) (W : World), 0 ≤ j → j < s.getD 0 0 → (Instr.slice 24 (.slice b d.length e) (some (.int .i64 ((j.toNat * rowN s : Nat) : Int))) none none).run Try.prog W = .ok (.slice (if e - j.toNat * rowN s = 0 then b else b.map (·.add (j.toNat * rowN s * 1))) (d.length - j.toNat * rowN s) (e - j.toNat * rowN s)) W) := fun j W h0 h1 => run_from (by have := (HRW.out j h0 h1).1; omega) g2 W
  obtain ⟨S, hS⟩ : ∃ S, S = (n : Int) :: s.drop 1 := ⟨_, rfl⟩
  obtain ⟨D, hD⟩ : ∃ D, D = chosenD s d φ n := ⟨_, rfl⟩
  rw [← hS] at HOR HSZ ⊢
  rw [← hD] at HTOA ⊢
  have HZ : Hid (z = (n : Int)) := hzn
  clear hzn hS hD hV ho hz hm i1 i2 g1 g2 hsl hs hz3 hn3 HTOY HRW HML HD3
  generalize rowN s = L at *
  generalize s.getD 0 0 = N at *
  generalize hN : n * L = m at *
  have HN : Hid (n * L = m) := hN
  clear hN
  generalize hTO : chosenTo s d φ n = TO at *
  clear hTO
  go_enter Try.func119, Try.ntmps119
  go_wp2_with fail
  refine (HOR.out _ (bAlloc (bAlloc (Below.refl _ _) _) _)).mono ?_
  rintro r w1 ⟨a1, c1, rfl, hp, hb⟩
  have HB1 : Hid (Below w.heap.size w w1) := bTrans (bAlloc (bAlloc (Below.refl _ _) _) _) hb
  have X1 : Hid (Box w1 w.heap.size (.slice (some ⟨ab, ao, none⟩) s.length c) (.slice b d.length e) 26) := ((box_new w _ _ _).keep (bAlloc (Below.refl _ _) _)).keep hb
  have R1 : Hid (Box w1 (w.heap.size + 1) (.slice none 0 0) (.slice none 0 0) 26) := (box_new2 w _ _ _ _).keep hb
  have P1 : Hid (Piece (w.heap.size + 2) w1.heap.size w1 (.slice a1 S.length c1) S) := by show Piece _ _ _ _ _; simpa using hp
  have I1 : Hid (Ints w1 a1 S) := by
    obtain ⟨q1, q2, q3, q4⟩ := hp.ints
    cases q3
    exact q4
  have LT : Hid (w.heap.size + 2 ≤ w1.heap.size) := by have := hb.size; show _ ≤ _; simpa using this
  clear hp hb
  go_wp2_with fail
  refine (HSZ.out _ _ _ I1.out).mono ?_
  rintro r w2 ⟨rfl, hb⟩
  have HB2 : Hid (Below w.heap.size w w2) := bTrans HB1.out hb
  have X2 : Hid (Box w2 w.heap.size (.slice (some ⟨ab, ao, none⟩) s.length c) (.slice b d.length e) 26) := X1.out.keep hb
  have R2 : Hid (Box w2 (w.heap.size + 1) (.slice none 0 0) (.slice none 0 0) 26) := R1.out.keep hb
  have P2 : Hid (Piece (w.heap.size + 2) w1.heap.size w2 (.slice a1 S.length c1) S) := P1.out.keep hb
  have LT2 : Hid (w1.heap.size ≤ w2.heap.size) := hb.size
  clear hb X1 R1 P1 I1 HB1 HOR HSZ
  go_wp2
  generalize hW : w2.alloc (.cells (vals (List.replicate m 0)) 3) = W
  have HBW : Hid (Below w2.heap.size w2 W) := by rw [← hW]; exact bAlloc (Below.refl _ _) _
  have HOW : Hid (OwnInts W w2.heap.size (TO 0)) := by rw [← hW, HTO0.out]; exact ownInts_new _ _
  clear hW hmk
  go_loopw [20] (fun i w' => ∃ k : Nat, k ≤ n ∧ i = .int .i64 (k : Int) ∧ OwnInts w' w2.heap.size (TO k) ∧ Below w2.heap.size w2 w') (fun i _ => n - (intOf i).toNat)
  case atStart => exact ⟨0, by omega, rfl, HOW.out, HBW.out⟩
  case round =>
    obtain ⟨k, hk, rfl, hO, hb⟩ := hrel
    have HO : Hid (OwnInts wr w2.heap.size (TO k)) := hO
    have HB : Hid (Below w2.heap.size w2 wr) := hb
    clear hO hb HOW HBW
    have hzn := HZ.out
    by_cases hlt : (k : Int) < z
    · have HLT : Hid (k < n) := by show _ < _; omega
      have hq := HQ.out (by omega)
      have hn0 : z ≠ 0 := by omega
      have HVK : Hid (Calls Try.prog f #[.int .i64 (k : Int), p, q] wr fun r W' => r = .returned (.int .i64 (φ k)) ∧ Below wr.heap.size wr W') := HV.out wr k HLT.out (bTrans HB2.out HB.out)
      have TN : Hid (¬ (0 ≤ φ k ∧ φ k < N) → TO k = TO (k + 1)) := HTON.out k HLT.out
      clear hzn
      have hwL := HWL.out (Nat.lt_of_le_of_lt (Nat.zero_le _) HLT.out)
      have hz3 : z ≤ 300 := by have := HZ.out; have := HM.out; omega
      have HCK := HCY.out k w2.heap.size (φ k)
      generalize φ k = j at *
      by_cases hj : 0 ≤ j
      · by_cases hj2 : j < N
        · have HCP : Hid (∀ W, OwnInts W w2.heap.size (TO k) → Ints W b d → (Builtin.copy_ #[24, 24] 3 #[.slice (if m - k * L = 0 then some ⟨w2.heap.size, 0, none⟩ else (some (⟨w2.heap.size, 0, none⟩ : Addr)).map (·.add (k * L * 1))) ((k + 1) * L - k * L) (m - k * L), .slice (if e - j.toNat * L = 0 then b else b.map (·.add (j.toNat * L * 1))) (d.length - j.toNat * L) (e - j.toNat * L)]).run Try.prog W = .ok (.int .i64 (L : Int)) (W.setRow w2.heap.size (vals (TO (k + 1))))) := fun W h1 h2 => HCK W HLT.out hj hj2 rfl h1 h2
          have hs1 := fun W => HSA.out k w2.heap.size W HLT.out
          have hs2 := fun W => HSB.out j W hj hj2
          obtain ⟨hk1, w1', w2'⟩ := HW.out k HLT.out
          have HZ3 : Hid (z ≤ 300 ∧ (k : Int) < z) := ⟨hz3, hlt⟩
          have HW4 : Hid (wrap64 ((k : Int) + 1) = (k : Int) + 1 ∧ wrap64 ((k : Int) * (L : Int)) = ((k * L : Nat) : Int) ∧ wrap64 (((k : Int) + 1) * (L : Int)) = (((k + 1) * L : Nat) : Int)) := ⟨hk1, w1', w2'⟩
          clear hk1 w1' w2'
          have HW3 : Hid (wrap64 (j * (L : Int)) = ((j.toNat * L : Nat) : Int)) := HWJ.out j hj hj2
          clear TN HCK HSA HSB HW HWJ HCY HTON HTOL
          generalize (if m - k * L = 0 then some ⟨w2.heap.size, 0, none⟩ else (some (⟨w2.heap.size, 0, none⟩ : Addr)).map (·.add (k * L * 1))) = A1 at *
          generalize (if e - j.toNat * L = 0 then b else b.map (·.add (j.toNat * L * 1))) = A2 at *
          generalize (k + 1) * L - k * L = n1 at *
          generalize m - k * L = n2 at *
          generalize d.length - j.toNat * L = n3 at *
          generalize e - j.toNat * L = n4 at *
          generalize (k + 1) * L = n5 at *
          generalize k * L = n6 at *
          generalize j.toNat * L = n7 at *
          go_wp2_with (go_at_fn f; refine HVK.out.mono ?_; rintro r w3 ⟨rfl, hb⟩; have HB3 : Hid (Below w2.heap.size w2 w3) := bTrans HB.out hb; have HO3 : Hid (OwnInts w3 w2.heap.size (TO k)) := (HO.out.keep5 hb); have x0 := (X2.out.keep HB3.out).c0; have x1 := (X2.out.keep HB3.out).c1; have xn := HN0.out _ (bTrans HB2.out HB3.out); have hcp := HCP.out w3.drew (HO3.out.keep5 (Below.refl w3.heap.size w3).drew) (HI2.out.keep (bTrans HB2.out HB3.out.drew)); clear hb)
          have HO4 : Hid (OwnInts (w3.drew.setRow w2.heap.size (vals (TO (k + 1)))) w2.heap.size (TO (k + 1))) := (HO3.out.keep5 (Below.refl w3.heap.size w3).drew).setRow _
          have HB4 : Hid (Below w2.heap.size w2 (w3.drew.setRow w2.heap.size (vals (TO (k + 1))))) := below_setRow HB3.out.drew (Nat.le_refl _) _
          generalize hW : w3.drew.setRow w2.heap.size (vals (TO (k + 1))) = W4 at *
          clear hW
          obtain ⟨hk1, w1', w2'⟩ := HW4.out
          have w3' := HW3.out
          clear hz3 hlt
          go_region
          obtain ⟨hz3, hlt⟩ := HZ3.out
          clear hk1 w1' w2' w3' hs1 hs2 hcp x0 x1 xn
          go_wp2
          go_roundw
          case rel => exact ⟨k + 1, HLT.out, by go_num, HO4.out, HB4.out⟩
          case measure => simp [intOf]; have := HLT.out; omega
        · have HT' : Hid (TO k = TO (k + 1)) := TN.out (fun q => hj2 q.2)
          clear TN HCK
          go_wp2_with (go_at_fn f; refine HVK.out.mono ?_; rintro r w3 ⟨rfl, hb⟩; have HB3 : Hid (Below w2.heap.size w2 w3) := bTrans HB.out hb; have HO3 : Hid (OwnInts w3 w2.heap.size (TO k)) := (HO.out.keep5 hb); have x0 := (X2.out.keep HB3.out).c0; have xn := HN0.out _ (bTrans HB2.out HB3.out); clear hb)
          go_roundw
          case rel => exact ⟨k + 1, HLT.out, by go_num, by rw [← HT'.out]; exact HO3.out, HB3.out⟩
          case measure => simp [intOf]; have := HLT.out; omega
      · have HT' : Hid (TO k = TO (k + 1)) := TN.out (fun q => hj q.1)
        clear TN HCK
        go_wp2_with (go_at_fn f; refine HVK.out.mono ?_; rintro r w3 ⟨rfl, hb⟩; have HB3 : Hid (Below w2.heap.size w2 w3) := bTrans HB.out hb; have HO3 : Hid (OwnInts w3 w2.heap.size (TO k)) := (HO.out.keep5 hb); clear hb)
        go_roundw
        case rel => exact ⟨k + 1, HLT.out, by go_num, by rw [← HT'.out]; exact HO3.out, HB3.out⟩
        case measure => simp [intOf]; have := HLT.out; omega
    · obtain rfl : k = n := by omega
      clear hzn
      have LD : Hid (D.length = m) := by show _ = _; rw [← HTOA.out]; exact HTOL.out k (Nat.le_refl _)
      have R3 : Hid (Box wr (w.heap.size + 1) (.slice none 0 0) (.slice none 0 0) 26) := R2.out.keep HB.out
      have P3 : Hid (Piece (w.heap.size + 2) w1.heap.size wr (.slice a1 S.length c1) S) := P2.out.keep HB.out
      have PD : Hid (Piece w2.heap.size (w2.heap.size + 1) wr (.slice (some ⟨w2.heap.size, 0, none⟩) m m) D) := by
        have q := OwnInts.piece HO.out (B := w2.heap.size) (C := w2.heap.size + 1) (Nat.le_refl _) (by omega) m (by rw [HTOL.out k (Nat.le_refl _)]; exact Nat.le_refl _)
        rw [HTOL.out k (Nat.le_refl _), HTOA.out] at q
        exact q
      have LW : Hid (w2.heap.size + 1 ≤ wr.heap.size) := lt_of_heapA HO.out
      have HB5 : Hid (Below w.heap.size w wr) := bTrans HB2.out HB.out
      have y0 := R3.out.c0
      have y1 := R3.out.c1
      have f0 : wr.frozen? ⟨w.heap.size + 1, 0, none⟩ = false := free_at R3.out 0
      have f1 : wr.frozen? ⟨w.heap.size + 1, 1, none⟩ = false := free_at R3.out 1
      have HR : Hid (((wr.setCell ⟨w.heap.size + 1, 0, none⟩ (.slice a1 S.length c1)).setCell ⟨w.heap.size + 1, 1, none⟩ (.slice (some ⟨w2.heap.size, 0, none⟩) m m)).heap[w.heap.size + 1]? = some (.cells #[.slice a1 S.length c1, .slice (some ⟨w2.heap.size, 0, none⟩) m m] 26 (0, 0))) := arr_stored R3.out
      go_wp2
      refine bodyPost_ret (v := .agg #[.slice a1 S.length c1, .slice (some ⟨w2.heap.size, 0, none⟩) m m]) (results_arr rfl _ _ (w.heap.size + 1) _ _ rfl HR.out) rfl ?_
      refine ⟨_, rfl, ?_, below_setCell (below_setCell HB5.out (by omega) _ _) (by omega) _ _⟩
      have L1 := LT.out
      have L2 := LT2.out
      have L3 := LW.out
      have p1' := (P3.out.win (win_setCell wr (w.heap.size + 1) 0 (.slice a1 S.length c1)) (.inr (by omega))).win (win_setCell _ (w.heap.size + 1) 1 (.slice (some ⟨w2.heap.size, 0, none⟩) m m)) (.inr (by omega))
      have p2' := (PD.out.win (win_setCell wr (w.heap.size + 1) 0 (.slice a1 S.length c1)) (.inr (by omega))).win (win_setCell _ (w.heap.size + 1) 1 (.slice (some ⟨w2.heap.size, 0, none⟩) m m)) (.inr (by omega))
      exact ⟨_, _, rfl, p1'.mono (by omega) (by simp only [size_setCell]; omega), p2'.mono (by omega) (by simp only [size_setCell]; omega), p1'.apart p2' (.inl (by omega))⟩
end Go.Proofs.Ytaclpdolehenpaa
