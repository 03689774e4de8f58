/-
  Several walks, one behind the other: ImplMake5, ImplPick1, ImplConcat, Pair5, Cuts, SpecMake7, SpecMake3, Cuts2, ImplPick.
-/
import Derived.Test.YthjjjnapcbkhjaaMakeP
import Derived.Test.YthjjjnapcbkhjaaZ1
import Derived.Shelf.Abstract
import Derived.Test.YthjjjnapcbkhjaaCutI
import Derived.Lib.AppendZeros
import Derived.Test.YthjjjnapcbkhjaaSpecMake6
import Derived.Test.YthjjjnapcbkhjaaSpecMake2
namespace Go.Proofs.Ythjjjnapcbkhjaa
open Go.RowKit
set_option linter.unusedVariables false
set_option linter.unusedSimpArgs false
theorem run_between {a : Option Addr} {n c M N : Nat} (hM : M ≤ N) (hc : N ≤ c) (W : World) : (Instr.slice 24 (.slice a n c) (some (.int .i64 (M : Int))) (some (.int .i64 (N : Int))) none).run Try.prog W = .ok (.slice (if c - M = 0 then a else a.map (·.add (M * 1))) (N - M) (c - M)) W := by
  have hs : (sizeOf 3).run Try.prog W = .ok 1 W := by kernel_rfl
  have he : Try.prog.elem 24 = 3 := by kernel_rfl
  rw [run_slice_lh (P := Try.prog) (w := W) 24 a n c (by rw [he]; exact Try.underlying24) .i64 .i64 (M : Int) (N : Int) (by omega) (by omega) (by omega), he, hs]
  have e : (c = M) = (c - M = 0) := by apply propext; omega
  simp [Result.andThen, sliced, e]
theorem ints_cell5 {w : World} {b o : Nat} {l : List Int} {k : Nat} (h : Ints w (some ⟨b, o, none⟩) l) (hk : k < l.length) : w.cell? ⟨b, o + k, none⟩ = some (.int .i64 (l.getD k 0)) := by
  obtain ⟨b', o', e, hb, hc⟩ := h.at hk
  cases e
  exact hc
theorem ints_from5 {w : World} {b : Option Addr} {d : List Int} {e : Nat} (C : Nat) (h : Ints w b d) (he : d.length ≤ e) : Ints w (if e - C = 0 then b else b.map (·.add (C * 1))) (d.drop C) := by
  by_cases h0 : d.length ≤ C
  · exact .inl (List.drop_of_length_le h0)
  · rw [if_neg (by omega)]
    obtain ⟨b', o', rfl, _, _⟩ := h.at (k := 0) (by omega)
    have := ints_tail C h
    by_cases hC0 : C = 0 <;> simpa [Addr.add, hC0] using this
theorem OwnInts.keep5 {w w' : World} {g : Nat} {l : List Int} (h : OwnInts w g l) (hb : Below w.heap.size w w') : OwnInts w' g l := by
  unfold OwnInts
  rw [hb.block _ (lt_of_heapA h)]
  exact h
theorem measure5 {k n : Nat} (h : wrap64 ((k : Int) + 1) = (k : Int) + 1) (hk : k < n) : n - (wrap64 ((k : Int) + 1)).toNat < n - ((k : Int)).toNat := by
  rw [h]; omega
theorem wrap5 {a : Int} (h1 : -1000000000000000 ≤ a) (h2 : a ≤ 1000000000000000) : wrap64 a = a := by unfold wrap64; omega
/-- A row is copied to its place. -/
theorem copy_row5 {w : World} {g m A B C L e : Nat} {l d : List Int} {b : Option Addr} (ho : OwnInts w g l) (hl : l.length = m) (hi : Ints w b d) (he : d.length ≤ e) (hA : A + L = B) (hB : B ≤ m) (hC : C + L ≤ d.length) (ty : TypeId) :
    (Builtin.copy_ #[24, 24] ty #[.slice (if m - A = 0 then some ⟨g, 0, none⟩ else (some (⟨g, 0, none⟩ : Addr)).map (·.add (A * 1))) (B - A) (m - A), .slice (if e - C = 0 then b else b.map (·.add (C * 1))) (d.length - C) (e - C)]).run Try.prog w = .ok (.int .i64 (L : Int)) (w.setRow g (vals (paste l A (d.drop C) L))) := by
  have hi' := ints_from5 (e := e) C hi he
  have hL : B - A = L := by omega
  have hd : (d.drop C).length = d.length - C := by simp
  rw [hL]
  by_cases h0 : m - A = 0
  · obtain rfl : L = 0 := by omega
    rw [if_pos h0, paste_zero, setRow_self w g (vals l) _ _ ho]
    exact run_copy_none (P := Try.prog) _ 24 24 ty 3 _ _ _ _ _ _ Try.underlying24 int_size (Nat.min_zero _)
  · rw [if_neg h0]
    have q := copy_paste (k := A) (n := L) (l := l) ho hi' (by rw [hd]; omega) ty (m - A) (e - C)
    rw [hd, Nat.min_eq_right (by omega)] at q
    have e1 : (some (⟨g, 0, none⟩ : Addr)).map (·.add (A * 1)) = some ⟨g, A, none⟩ := by
      by_cases hA0 : A = 0 <;> simp [Addr.add, hA0]
    rw [e1]
    exact q
set_option maxRecDepth 20000 in
set_option maxHeartbeats 4000000 in
/-- chosenRows. -/
theorem chosen_impl {s d : List Int} {w : World} {v p : Value} {f n : Nat} {φ : Nat → Int} {z : Int} (hzn : z = (n : Int)) (hE : ∀ (args : Array Value) (w : World), (callFunc f args).run Try.prog w = .ok (.enter f args) w) (h : ArrI w v s d) (ho : arrOk s d = true) (hs : s ≠ []) (hz : 0 ≤ sizeV ((n : Int) :: s.drop 1))
    (hV : ∀ (W : World) (k : Nat), k < n → Below w.heap.size w W → Calls Try.prog f #[.int .i64 (k : Int), p] W fun r W' => r = .returned (.int .i64 (φ k)) ∧ Below W.heap.size W W') :
    Calls Try.prog 51 #[v, .int .i64 z, .func (.func f) #[] #[p]] w fun r w' => ∃ v', r = .returned v' ∧ Arr w.heap.size w'.heap.size w' v' ((n : Int) :: s.drop 1) (chosenD s d φ n) ∧ Below w.heap.size w w' := by
  obtain ⟨a, c, b, e, rfl, i1, i2, g1, g2⟩ := h
  have hsl : s.length ≤ 1048576 := by have := (sizeV_ok (arrOk_shape ho)).1; omega
  have HOR : Hid (∀ W, Below w.heap.size w W → Calls Try.prog 74 #[.slice a s.length c, .int .i64 z] W fun r w' => ∃ a' c', r = .returned (.slice a' ((n : Int) :: s.drop 1).length c') ∧ Piece W.heap.size w'.heap.size w' (.slice a' ((n : Int) :: s.drop 1).length c') ((n : Int) :: s.drop 1) ∧ Below W.heap.size W w') := fun W hb => by rw [hzn]; exact ofRows_impl (n : Int) (IntsI.keep ⟨a, c, rfl, g1, i1⟩ hb) hsl hs
  have HV : Hid (∀ (W : World) (k : Nat), k < n → Below w.heap.size w W → Calls Try.prog f #[.int .i64 (k : Int), p] W fun r W' => r = .returned (.int .i64 (φ k)) ∧ Below W.heap.size W W') := hV
  have hm : sizeV ((n : Int) :: s.drop 1) = ((n * rowN s : Nat) : Int) := by
    by_cases h0 : (n : Int) = 0
    · have : n = 0 := by omega
      subst this
      rw [Nat.zero_mul]
      exact zero5 hz
    · obtain ⟨p0, p1, p2⟩ := tail5 hz (by omega)
      rw [← p1, Int.natCast_mul]
      unfold rowN
      rw [Int.toNat_of_nonneg p0]
  have hz3 := sizeV_bd ((n : Int) :: s.drop 1)
  have hn3 := dim5 hz
  have HSZ : Hid (∀ W a' c', Ints W a' ((n : Int) :: s.drop 1) → Calls Try.prog 61 #[.slice a' ((n : Int) :: s.drop 1).length c'] W fun r w' => r = .returned (.int .i64 ((n * rowN s : Nat) : Int)) ∧ Below W.heap.size W w') := fun W a' c' h => by
    have q := size_impl c' h
    rw [hm] at q
    exact q
  have HTO0 : Hid (chosenTo s d φ n 0 = List.replicate (n * rowN s) 0) := chosenTo_zero s d φ n
  have HTOA : Hid (chosenTo s d φ n n = chosenD s d φ n) := chosenTo_all s d φ n
  have HTOL : Hid (∀ k, k ≤ n → (chosenTo s d φ n k).length = n * rowN s) := fun k hk => chosenTo_length ho hs φ hk
  have HTON : Hid (∀ k, k < n → ¬ (0 ≤ φ k ∧ φ k < s.getD 0 0) → chosenTo s d φ n k = chosenTo s d φ n (k + 1)) := fun k hk h => chosenTo_no hk h
  have HTOY : Hid (∀ k, k < n → 0 ≤ φ k ∧ φ k < s.getD 0 0 → paste (chosenTo s d φ n k) (k * rowN s) (d.drop ((φ k).toNat * rowN s)) (rowN s) = chosenTo s d φ n (k + 1)) := fun k hk h => chosenTo_yes ho hs hk h
  have HRW : Hid (∀ j : Int, 0 ≤ j → j < s.getD 0 0 → j.toNat * rowN s + rowN s ≤ d.length ∧ j ≤ 300) := fun j h0 h1 => by
    have q := rows5 ho hs
    obtain ⟨r1, r2⟩ := rowsN5 ho
    have : (j.toNat + 1) * rowN s ≤ rowsN s * rowN s := Nat.mul_le_mul_right _ (by omega)
    rw [Nat.succ_mul] at this
    omega
  have HD3 : Hid (d.length ≤ 300) := arrOk_len ho
  obtain ⟨ab, ao, rfl, _, _⟩ := i1.at (k := 0) (List.length_pos_iff.2 hs)
  have HN0 : Hid (∀ W, Below w.heap.size w W → W.cell? ⟨ab, ao, none⟩ = some (.int .i64 (s.getD 0 0))) := fun W hb => ints_cell5 (i1.keep hb) (List.length_pos_iff.2 hs)
  have HI2 : Hid (Ints w b d) := i2
  have HG2 : Hid (d.length ≤ e) := g2
  have hsp : 0 < s.length := List.length_pos_iff.2 hs
  have hmk : ∀ w, (Instr.makeSlice 24 (.int .i64 ((n * rowN s : Nat) : Int)) (.int .i64 ((n * rowN s : Nat) : Int))).run Try.prog w = .ok (.slice (some ⟨w.heap.size, 0, none⟩) (n * rowN s) (n * rowN s)) (w.alloc (.cells (vals (List.replicate (n * rowN s) 0)) 3)) := fun w => make_ints (n * rowN s) (by omega) w
  have HM : Hid (n * rowN s ≤ 300 ∧ n ≤ 300) := ⟨by omega, by omega⟩
  have HML : Hid (∀ k, k < n → (k + 1) * rowN s ≤ n * rowN s) := fun k hk => Nat.mul_le_mul_right _ hk
  have HQ : Hid (0 < n → Int.tdiv ((n * rowN s : Nat) : Int) z = (rowN s : Int)) := fun h => by
    rw [hzn, Int.natCast_mul, Int.mul_tdiv_cancel_left _ (by omega)]
  have HW : Hid (∀ k : Nat, k < n → wrap64 ((k : Int) + 1) = (k : Int) + 1 ∧ wrap64 ((k : Int) * (rowN s : Int)) = ((k * rowN s : Nat) : Int) ∧ wrap64 (((k : Int) + 1) * (rowN s : Int)) = (((k + 1) * rowN s : Nat) : Int)) := fun k hk => by
    have h1 : k * rowN s + rowN s = (k + 1) * rowN s := (Nat.succ_mul k _).symm
    have h2 : (k + 1) * rowN s ≤ n * rowN s := Nat.mul_le_mul_right _ hk
    refine ⟨wrap5 (by omega) (by omega), ?_, ?_⟩
    · rw [← Int.natCast_mul]; exact wrap5 (by omega) (by omega)
    · have : ((k : Int) + 1) * (rowN s : Int) = (((k + 1) * rowN s : Nat) : Int) := by rw [Int.natCast_mul]; rfl
      rw [this]; exact wrap5 (by omega) (by omega)
  have HWJ : Hid (∀ j : Int, 0 ≤ j → j < s.getD 0 0 → wrap64 (j * (rowN s : Int)) = ((j.toNat * rowN s : Nat) : Int)) := fun j h0 h1 => by
    obtain ⟨q1, q2⟩ := HRW.out j h0 h1
    have := HD3.out
    have : j * (rowN s : Int) = ((j.toNat * rowN s : Nat) : Int) := by rw [Int.natCast_mul, Int.toNat_of_nonneg h0]
    rw [this]; exact wrap5 (by omega) (by omega)
  have HWL : Hid (0 < n → wrap64 (rowN s : Int) = (rowN s : Int)) := fun h0 => by
    have h2 : 1 * rowN s ≤ n * rowN s := Nat.mul_le_mul_right _ h0
    exact wrap5 (by omega) (by omega)
  have HCY : Hid (∀ (k g : Nat) (j : Int) (W : World), k < n → 0 ≤ j → j < s.getD 0 0 → φ k = j → OwnInts W g (chosenTo s d φ n k) → Ints W b d → (Builtin.copy_ #[24, 24] 3 #[.slice (if n * rowN s - k * rowN s = 0 then some ⟨g, 0, none⟩ else (some (⟨g, 0, none⟩ : Addr)).map (·.add (k * rowN s * 1))) ((k + 1) * rowN s - k * rowN s) (n * rowN s - k * rowN s), .slice (if e - j.toNat * rowN s = 0 then b else b.map (·.add (j.toNat * rowN s * 1))) (d.length - j.toNat * rowN s) (e - j.toNat * rowN s)]).run Try.prog W = .ok (.int .i64 (rowN s : Int)) (W.setRow g (vals (chosenTo s d φ n (k + 1))))) := fun k g j W hk h0 h1 hj ho' hi => by
    have q := copy_row5 ho' (HTOL.out k (Nat.le_of_lt hk)) hi g2 (Nat.succ_mul k (rowN s)).symm (HML.out k hk) (HRW.out j h0 h1).1 3
    rw [← hj, HTOY.out k hk (by rw [hj]; exact ⟨h0, h1⟩), hj] at q
    exact q
  have HSA : Hid (∀ (k g : Nat) (W : World), k < n → (Instr.slice 24 (.slice (some ⟨g, 0, none⟩) (n * rowN s) (n * rowN s)) (some (.int .i64 ((k * rowN s : Nat) : Int))) (some (.int .i64 (((k + 1) * rowN s : Nat) : Int))) none).run Try.prog W = .ok (.slice (if n * rowN s - k * rowN s = 0 then some ⟨g, 0, none⟩ else (some (⟨g, 0, none⟩ : Addr)).map (·.add (k * rowN s * 1))) ((k + 1) * rowN s - k * rowN s) (n * rowN s - k * rowN s)) W) := fun k g W hk => run_between (Nat.mul_le_mul_right _ (Nat.le_succ k)) (HML.out k hk) W
  have HSB : Hid (∀ (j : Int) (W : World), 0 ≤ j → j < s.getD 0 0 → (Instr.slice 24 (.slice b d.length e) (some (.int .i64 ((j.toNat * rowN s : Nat) : Int))) none none).run Try.prog W = .ok (.slice (if e - j.toNat * rowN s = 0 then b else b.map (·.add (j.toNat * rowN s * 1))) (d.length - j.toNat * rowN s) (e - j.toNat * rowN s)) W) := fun j W h0 h1 => run_from (by have := (HRW.out j h0 h1).1; omega) g2 W
  obtain ⟨S, hS⟩ : ∃ S, S = (n : Int) :: s.drop 1 := ⟨_, rfl⟩
  obtain ⟨D, hD⟩ : ∃ D, D = chosenD s d φ n := ⟨_, rfl⟩
  rw [← hS] at HOR HSZ ⊢
  rw [← hD] at HTOA ⊢
  have HZ : Hid (z = (n : Int)) := hzn
  clear hzn hS hD hV ho hz hm i1 i2 g1 g2 hsl hs hz3 hn3 HTOY HRW HML HD3
  generalize rowN s = L at *
  generalize s.getD 0 0 = N at *
  generalize hN : n * L = m at *
  have HN : Hid (n * L = m) := hN
  clear hN
  generalize hTO : chosenTo s d φ n = TO at *
  clear hTO
  go_enter Try.func51, Try.ntmps51
  go_wp2_with fail
  refine (HOR.out _ (bAlloc (bAlloc (Below.refl _ _) _) _)).mono ?_
  rintro r w1 ⟨a1, c1, rfl, hp, hb⟩
  have HB1 : Hid (Below w.heap.size w w1) := bTrans (bAlloc (bAlloc (Below.refl _ _) _) _) hb
  have X1 : Hid (Box w1 w.heap.size (.slice (some ⟨ab, ao, none⟩) s.length c) (.slice b d.length e) 26) := ((box_new w _ _ _).keep (bAlloc (Below.refl _ _) _)).keep hb
  have R1 : Hid (Box w1 (w.heap.size + 1) (.slice none 0 0) (.slice none 0 0) 26) := (box_new2 w _ _ _ _).keep hb
  have P1 : Hid (Piece (w.heap.size + 2) w1.heap.size w1 (.slice a1 S.length c1) S) := by show Piece _ _ _ _ _; simpa using hp
  have I1 : Hid (Ints w1 a1 S) := by
    obtain ⟨q1, q2, q3, q4⟩ := hp.ints
    cases q3
    exact q4
  have LT : Hid (w.heap.size + 2 ≤ w1.heap.size) := by have := hb.size; show _ ≤ _; simpa using this
  clear hp hb
  go_wp2_with fail
  refine (HSZ.out _ _ _ I1.out).mono ?_
  rintro r w2 ⟨rfl, hb⟩
  have HB2 : Hid (Below w.heap.size w w2) := bTrans HB1.out hb
  have X2 : Hid (Box w2 w.heap.size (.slice (some ⟨ab, ao, none⟩) s.length c) (.slice b d.length e) 26) := X1.out.keep hb
  have R2 : Hid (Box w2 (w.heap.size + 1) (.slice none 0 0) (.slice none 0 0) 26) := R1.out.keep hb
  have P2 : Hid (Piece (w.heap.size + 2) w1.heap.size w2 (.slice a1 S.length c1) S) := P1.out.keep hb
  have LT2 : Hid (w1.heap.size ≤ w2.heap.size) := hb.size
  clear hb X1 R1 P1 I1 HB1 HOR HSZ
  go_wp2
  generalize hW : w2.alloc (.cells (vals (List.replicate m 0)) 3) = W
  have HBW : Hid (Below w2.heap.size w2 W) := by rw [← hW]; exact bAlloc (Below.refl _ _) _
  have HOW : Hid (OwnInts W w2.heap.size (TO 0)) := by rw [← hW, HTO0.out]; exact ownInts_new _ _
  clear hW hmk
  go_loopw [20] (fun i w' => ∃ k : Nat, k ≤ n ∧ i = .int .i64 (k : Int) ∧ OwnInts w' w2.heap.size (TO k) ∧ Below w2.heap.size w2 w') (fun i _ => n - (intOf i).toNat)
  case atStart => exact ⟨0, by omega, rfl, HOW.out, HBW.out⟩
  case round =>
    obtain ⟨k, hk, rfl, hO, hb⟩ := hrel
    have HO : Hid (OwnInts wr w2.heap.size (TO k)) := hO
    have HB : Hid (Below w2.heap.size w2 wr) := hb
    clear hO hb HOW HBW
    have hzn := HZ.out
    by_cases hlt : (k : Int) < z
    · have HLT : Hid (k < n) := by show _ < _; omega
      have hq := HQ.out (by omega)
      have hn0 : z ≠ 0 := by omega
      have HVK : Hid (Calls Try.prog f #[.int .i64 (k : Int), p] wr fun r W' => r = .returned (.int .i64 (φ k)) ∧ Below wr.heap.size wr W') := HV.out wr k HLT.out (bTrans HB2.out HB.out)
      have TN : Hid (¬ (0 ≤ φ k ∧ φ k < N) → TO k = TO (k + 1)) := HTON.out k HLT.out
      clear hzn
      have hwL := HWL.out (Nat.lt_of_le_of_lt (Nat.zero_le _) HLT.out)
      have hz3 : z ≤ 300 := by have := HZ.out; have := HM.out; omega
      have HCK := HCY.out k w2.heap.size (φ k)
      generalize φ k = j at *
      by_cases hj : 0 ≤ j
      · by_cases hj2 : j < N
        · have HCP : Hid (∀ W, OwnInts W w2.heap.size (TO k) → Ints W b d → (Builtin.copy_ #[24, 24] 3 #[.slice (if m - k * L = 0 then some ⟨w2.heap.size, 0, none⟩ else (some (⟨w2.heap.size, 0, none⟩ : Addr)).map (·.add (k * L * 1))) ((k + 1) * L - k * L) (m - k * L), .slice (if e - j.toNat * L = 0 then b else b.map (·.add (j.toNat * L * 1))) (d.length - j.toNat * L) (e - j.toNat * L)]).run Try.prog W = .ok (.int .i64 (L : Int)) (W.setRow w2.heap.size (vals (TO (k + 1))))) := fun W h1 h2 => HCK W HLT.out hj hj2 rfl h1 h2
          have hs1 := fun W => HSA.out k w2.heap.size W HLT.out
          have hs2 := fun W => HSB.out j W hj hj2
          obtain ⟨hk1, w1', w2'⟩ := HW.out k HLT.out
          have HZ3 : Hid (z ≤ 300 ∧ (k : Int) < z) := ⟨hz3, hlt⟩
          have HW4 : Hid (wrap64 ((k : Int) + 1) = (k : Int) + 1 ∧ wrap64 ((k : Int) * (L : Int)) = ((k * L : Nat) : Int) ∧ wrap64 (((k : Int) + 1) * (L : Int)) = (((k + 1) * L : Nat) : Int)) := ⟨hk1, w1', w2'⟩
          clear hk1 w1' w2'
          have HW3 : Hid (wrap64 (j * (L : Int)) = ((j.toNat * L : Nat) : Int)) := HWJ.out j hj hj2
          clear TN HCK HSA HSB HW HWJ HCY HTON HTOL
          generalize (if m - k * L = 0 then some ⟨w2.heap.size, 0, none⟩ else (some (⟨w2.heap.size, 0, none⟩ : Addr)).map (·.add (k * L * 1))) = A1 at *
          generalize (if e - j.toNat * L = 0 then b else b.map (·.add (j.toNat * L * 1))) = A2 at *
          generalize (k + 1) * L - k * L = n1 at *
          generalize m - k * L = n2 at *
          generalize d.length - j.toNat * L = n3 at *
          generalize e - j.toNat * L = n4 at *
          generalize (k + 1) * L = n5 at *
          generalize k * L = n6 at *
          generalize j.toNat * L = n7 at *
          go_wp2_with (go_at_fn f; refine HVK.out.mono ?_; rintro r w3 ⟨rfl, hb⟩; have HB3 : Hid (Below w2.heap.size w2 w3) := bTrans HB.out hb; have HO3 : Hid (OwnInts w3 w2.heap.size (TO k)) := (HO.out.keep5 hb); have x0 := (X2.out.keep HB3.out).c0; have x1 := (X2.out.keep HB3.out).c1; have xn := HN0.out _ (bTrans HB2.out HB3.out); have hcp := HCP.out w3.drew (HO3.out.keep5 (Below.refl w3.heap.size w3).drew) (HI2.out.keep (bTrans HB2.out HB3.out.drew)); clear hb)
          have HO4 : Hid (OwnInts (w3.drew.setRow w2.heap.size (vals (TO (k + 1)))) w2.heap.size (TO (k + 1))) := (HO3.out.keep5 (Below.refl w3.heap.size w3).drew).setRow _
          have HB4 : Hid (Below w2.heap.size w2 (w3.drew.setRow w2.heap.size (vals (TO (k + 1))))) := below_setRow HB3.out.drew (Nat.le_refl _) _
          generalize hW : w3.drew.setRow w2.heap.size (vals (TO (k + 1))) = W4 at *
          clear hW
          obtain ⟨hk1, w1', w2'⟩ := HW4.out
          have w3' := HW3.out
          clear hz3 hlt
          go_region
          obtain ⟨hz3, hlt⟩ := HZ3.out
          clear hk1 w1' w2' w3' hs1 hs2 hcp x0 x1 xn
          go_wp2
          go_roundw
          case rel => exact ⟨k + 1, HLT.out, by go_num, HO4.out, HB4.out⟩
          case measure => simp [intOf]; have := HLT.out; omega
        · have HT' : Hid (TO k = TO (k + 1)) := TN.out (fun q => hj2 q.2)
          clear TN HCK
          go_wp2_with (go_at_fn f; refine HVK.out.mono ?_; rintro r w3 ⟨rfl, hb⟩; have HB3 : Hid (Below w2.heap.size w2 w3) := bTrans HB.out hb; have HO3 : Hid (OwnInts w3 w2.heap.size (TO k)) := (HO.out.keep5 hb); have x0 := (X2.out.keep HB3.out).c0; have xn := HN0.out _ (bTrans HB2.out HB3.out); clear hb)
          go_roundw
          case rel => exact ⟨k + 1, HLT.out, by go_num, by rw [← HT'.out]; exact HO3.out, HB3.out⟩
          case measure => simp [intOf]; have := HLT.out; omega
      · have HT' : Hid (TO k = TO (k + 1)) := TN.out (fun q => hj q.1)
        clear TN HCK
        go_wp2_with (go_at_fn f; refine HVK.out.mono ?_; rintro r w3 ⟨rfl, hb⟩; have HB3 : Hid (Below w2.heap.size w2 w3) := bTrans HB.out hb; have HO3 : Hid (OwnInts w3 w2.heap.size (TO k)) := (HO.out.keep5 hb); clear hb)
        go_roundw
        case rel => exact ⟨k + 1, HLT.out, by go_num, by rw [← HT'.out]; exact HO3.out, HB3.out⟩
        case measure => simp [intOf]; have := HLT.out; omega
    · obtain rfl : k = n := by omega
      clear hzn
      have LD : Hid (D.length = m) := by show _ = _; rw [← HTOA.out]; exact HTOL.out k (Nat.le_refl _)
      have R3 : Hid (Box wr (w.heap.size + 1) (.slice none 0 0) (.slice none 0 0) 26) := R2.out.keep HB.out
      have P3 : Hid (Piece (w.heap.size + 2) w1.heap.size wr (.slice a1 S.length c1) S) := P2.out.keep HB.out
      have PD : Hid (Piece w2.heap.size (w2.heap.size + 1) wr (.slice (some ⟨w2.heap.size, 0, none⟩) m m) D) := by
        have q := OwnInts.piece HO.out (B := w2.heap.size) (C := w2.heap.size + 1) (Nat.le_refl _) (by omega) m (by rw [HTOL.out k (Nat.le_refl _)]; exact Nat.le_refl _)
        rw [HTOL.out k (Nat.le_refl _), HTOA.out] at q
        exact q
      have LW : Hid (w2.heap.size + 1 ≤ wr.heap.size) := lt_of_heapA HO.out
      have HB5 : Hid (Below w.heap.size w wr) := bTrans HB2.out HB.out
      have y0 := R3.out.c0
      have y1 := R3.out.c1
      have f0 : wr.frozen? ⟨w.heap.size + 1, 0, none⟩ = false := free_at R3.out 0
      have f1 : wr.frozen? ⟨w.heap.size + 1, 1, none⟩ = false := free_at R3.out 1
      have HR : Hid (((wr.setCell ⟨w.heap.size + 1, 0, none⟩ (.slice a1 S.length c1)).setCell ⟨w.heap.size + 1, 1, none⟩ (.slice (some ⟨w2.heap.size, 0, none⟩) m m)).heap[w.heap.size + 1]? = some (.cells #[.slice a1 S.length c1, .slice (some ⟨w2.heap.size, 0, none⟩) m m] 26 (0, 0))) := arr_stored R3.out
      go_wp2
      refine bodyPost_ret (v := .agg #[.slice a1 S.length c1, .slice (some ⟨w2.heap.size, 0, none⟩) m m]) (results_arr rfl _ _ (w.heap.size + 1) _ _ rfl HR.out) rfl ?_
      refine ⟨_, rfl, ?_, below_setCell (below_setCell HB5.out (by omega) _ _) (by omega) _ _⟩
      have L1 := LT.out
      have L2 := LT2.out
      have L3 := LW.out
      have p1' := (P3.out.win (win_setCell wr (w.heap.size + 1) 0 (.slice a1 S.length c1)) (.inr (by omega))).win (win_setCell _ (w.heap.size + 1) 1 (.slice (some ⟨w2.heap.size, 0, none⟩) m m)) (.inr (by omega))
      have p2' := (PD.out.win (win_setCell wr (w.heap.size + 1) 0 (.slice a1 S.length c1)) (.inr (by omega))).win (win_setCell _ (w.heap.size + 1) 1 (.slice (some ⟨w2.heap.size, 0, none⟩) m m)) (.inr (by omega))
      exact ⟨_, _, rfl, p1'.mono (by omega) (by simp only [size_setCell]; omega), p2'.mono (by omega) (by simp only [size_setCell]; omega), p1'.apart p2' (.inl (by omega))⟩
set_option maxRecDepth 20000 in
set_option maxHeartbeats 4000000 in
/-- chosenRows. -/
theorem chosen2_impl {s d : List Int} {w : World} {v p q : Value} {f n : Nat} {φ : Nat → Int} {z : Int} (hzn : z = (n : Int)) (hE : ∀ (args : Array Value) (w : World), (callFunc f args).run Try.prog w = .ok (.enter f args) w) (h : ArrI w v s d) (ho : arrOk s d = true) (hs : s ≠ []) (hz : 0 ≤ sizeV ((n : Int) :: s.drop 1))
    (hV : ∀ (W : World) (k : Nat), k < n → Below w.heap.size w W → Calls Try.prog f #[.int .i64 (k : Int), p, q] W fun r W' => r = .returned (.int .i64 (φ k)) ∧ Below W.heap.size W W') :
    Calls Try.prog 51 #[v, .int .i64 z, .func (.func f) #[] #[p, q]] w fun r w' => ∃ v', r = .returned v' ∧ Arr w.heap.size w'.heap.size w' v' ((n : Int) :: s.drop 1) (chosenD s d φ n) ∧ Below w.heap.size w w' := by
  obtain ⟨a, c, b, e, rfl, i1, i2, g1, g2⟩ := h
  have hsl : s.length ≤ 1048576 := by have := (sizeV_ok (arrOk_shape ho)).1; omega
  have HOR : Hid (∀ W, Below w.heap.size w W → Calls Try.prog 74 #[.slice a s.length c, .int .i64 z] W fun r w' => ∃ a' c', r = .returned (.slice a' ((n : Int) :: s.drop 1).length c') ∧ Piece W.heap.size w'.heap.size w' (.slice a' ((n : Int) :: s.drop 1).length c') ((n : Int) :: s.drop 1) ∧ Below W.heap.size W w') := fun W hb => by rw [hzn]; exact ofRows_impl (n : Int) (IntsI.keep ⟨a, c, rfl, g1, i1⟩ hb) hsl hs
  have HV : Hid (∀ (W : World) (k : Nat), k < n → Below w.heap.size w W → Calls Try.prog f #[.int .i64 (k : Int), p, q] W fun r W' => r = .returned (.int .i64 (φ k)) ∧ Below W.heap.size W W') := hV
  have hm : sizeV ((n : Int) :: s.drop 1) = ((n * rowN s : Nat) : Int) := by
    by_cases h0 : (n : Int) = 0
    · have : n = 0 := by omega
      subst this
      rw [Nat.zero_mul]
      exact zero5 hz
    · obtain ⟨p0, p1, p2⟩ := tail5 hz (by omega)
      rw [← p1, Int.natCast_mul]
      unfold rowN
      rw [Int.toNat_of_nonneg p0]
  have hz3 := sizeV_bd ((n : Int) :: s.drop 1)
  have hn3 := dim5 hz
  have HSZ : Hid (∀ W a' c', Ints W a' ((n : Int) :: s.drop 1) → Calls Try.prog 61 #[.slice a' ((n : Int) :: s.drop 1).length c'] W fun r w' => r = .returned (.int .i64 ((n * rowN s : Nat) : Int)) ∧ Below W.heap.size W w') := fun W a' c' h => by
    have q := size_impl c' h
    rw [hm] at q
    exact q
  have HTO0 : Hid (chosenTo s d φ n 0 = List.replicate (n * rowN s) 0) := chosenTo_zero s d φ n
  have HTOA : Hid (chosenTo s d φ n n = chosenD s d φ n) := chosenTo_all s d φ n
  have HTOL : Hid (∀ k, k ≤ n → (chosenTo s d φ n k).length = n * rowN s) := fun k hk => chosenTo_length ho hs φ hk
  have HTON : Hid (∀ k, k < n → ¬ (0 ≤ φ k ∧ φ k < s.getD 0 0) → chosenTo s d φ n k = chosenTo s d φ n (k + 1)) := fun k hk h => chosenTo_no hk h
  have HTOY : Hid (∀ k, k < n → 0 ≤ φ k ∧ φ k < s.getD 0 0 → paste (chosenTo s d φ n k) (k * rowN s) (d.drop ((φ k).toNat * rowN s)) (rowN s) = chosenTo s d φ n (k + 1)) := fun k hk h => chosenTo_yes ho hs hk h
  have HRW : Hid (∀ j : Int, 0 ≤ j → j < s.getD 0 0 → j.toNat * rowN s + rowN s ≤ d.length ∧ j ≤ 300) := fun j h0 h1 => by
    have q := rows5 ho hs
    obtain ⟨r1, r2⟩ := rowsN5 ho
    have : (j.toNat + 1) * rowN s ≤ rowsN s * rowN s := Nat.mul_le_mul_right _ (by omega)
    rw [Nat.succ_mul] at this
    omega
  have HD3 : Hid (d.length ≤ 300) := arrOk_len ho
  obtain ⟨ab, ao, rfl, _, _⟩ := i1.at (k := 0) (List.length_pos_iff.2 hs)
  have HN0 : Hid (∀ W, Below w.heap.size w W → W.cell? ⟨ab, ao, none⟩ = some (.int .i64 (s.getD 0 0))) := fun W hb => ints_cell5 (i1.keep hb) (List.length_pos_iff.2 hs)
  have HI2 : Hid (Ints w b d) := i2
  have HG2 : Hid (d.length ≤ e) := g2
  have hsp : 0 < s.length := List.length_pos_iff.2 hs
  have hmk : ∀ w, (Instr.makeSlice 24 (.int .i64 ((n * rowN s : Nat) : Int)) (.int .i64 ((n * rowN s : Nat) : Int))).run Try.prog w = .ok (.slice (some ⟨w.heap.size, 0, none⟩) (n * rowN s) (n * rowN s)) (w.alloc (.cells (vals (List.replicate (n * rowN s) 0)) 3)) := fun w => make_ints (n * rowN s) (by omega) w
  have HM : Hid (n * rowN s ≤ 300 ∧ n ≤ 300) := ⟨by omega, by omega⟩
  have HML : Hid (∀ k, k < n → (k + 1) * rowN s ≤ n * rowN s) := fun k hk => Nat.mul_le_mul_right _ hk
  have HQ : Hid (0 < n → Int.tdiv ((n * rowN s : Nat) : Int) z = (rowN s : Int)) := fun h => by
    rw [hzn, Int.natCast_mul, Int.mul_tdiv_cancel_left _ (by omega)]
  have HW : Hid (∀ k : Nat, k < n → wrap64 ((k : Int) + 1) = (k : Int) + 1 ∧ wrap64 ((k : Int) * (rowN s : Int)) = ((k * rowN s : Nat) : Int) ∧ wrap64 (((k : Int) + 1) * (rowN s : Int)) = (((k + 1) * rowN s : Nat) : Int)) := fun k hk => by
    have h1 : k * rowN s + rowN s = (k + 1) * rowN s := (Nat.succ_mul k _).symm
    have h2 : (k + 1) * rowN s ≤ n * rowN s := Nat.mul_le_mul_right _ hk
    refine ⟨wrap5 (by omega) (by omega), ?_, ?_⟩
    · rw [← Int.natCast_mul]; exact wrap5 (by omega) (by omega)
    · have : ((k : Int) + 1) * (rowN s : Int) = (((k + 1) * rowN s : Nat) : Int) := by rw [Int.natCast_mul]; rfl
      rw [this]; exact wrap5 (by omega) (by omega)
  have HWJ : Hid (∀ j : Int, 0 ≤ j → j < s.getD 0 0 → wrap64 (j * (rowN s : Int)) = ((j.toNat * rowN s : Nat) : Int)) := fun j h0 h1 => by
    obtain ⟨q1, q2⟩ := HRW.out j h0 h1
    have := HD3.out
    have : j * (rowN s : Int) = ((j.toNat * rowN s : Nat) : Int) := by rw [Int.natCast_mul, Int.toNat_of_nonneg h0]
    rw [this]; exact wrap5 (by omega) (by omega)
  have HWL : Hid (0 < n → wrap64 (rowN s : Int) = (rowN s : Int)) := fun h0 => by
    have h2 : 1 * rowN s ≤ n * rowN s := Nat.mul_le_mul_right _ h0
    exact wrap5 (by omega) (by omega)
  have HCY : Hid (∀ (k g : Nat) (j : Int) (W : World), k < n → 0 ≤ j → j < s.getD 0 0 → φ k = j → OwnInts W g (chosenTo s d φ n k) → Ints W b d → (Builtin.copy_ #[24, 24] 3 #[.slice (if n * rowN s - k * rowN s = 0 then some ⟨g, 0, none⟩ else (some (⟨g, 0, none⟩ : Addr)).map (·.add (k * rowN s * 1))) ((k + 1) * rowN s - k * rowN s) (n * rowN s - k * rowN s), .slice (if e - j.toNat * rowN s = 0 then b else b.map (·.add (j.toNat * rowN s * 1))) (d.length - j.toNat * rowN s) (e - j.toNat * rowN s)]).run Try.prog W = .ok (.int .i64 (rowN s : Int)) (W.setRow g (vals (chosenTo s d φ n (k + 1))))) := fun k g j W hk h0 h1 hj ho' hi => by
    have q := copy_row5 ho' (HTOL.out k (Nat.le_of_lt hk)) hi g2 (Nat.succ_mul k (rowN s)).symm (HML.out k hk) (HRW.out j h0 h1).1 3
    rw [← hj, HTOY.out k hk (by rw [hj]; exact ⟨h0, h1⟩), hj] at q
    exact q
  have HSA : Hid (∀ (k g : Nat) (W : World), k < n → (Instr.slice 24 (.slice (some ⟨g, 0, none⟩) (n * rowN s) (n * rowN s)) (some (.int .i64 ((k * rowN s : Nat) : Int))) (some (.int .i64 (((k + 1) * rowN s : Nat) : Int))) none).run Try.prog W = .ok (.slice (if n * rowN s - k * rowN s = 0 then some ⟨g, 0, none⟩ else (some (⟨g, 0, none⟩ : Addr)).map (·.add (k * rowN s * 1))) ((k + 1) * rowN s - k * rowN s) (n * rowN s - k * rowN s)) W) := fun k g W hk => run_between (Nat.mul_le_mul_right _ (Nat.le_succ k)) (HML.out k hk) W
  have HSB : Hid (∀ (j : Int) (W : World), 0 ≤ j → j < s.getD 0 0 → (Instr.slice 24 (.slice b d.length e) (some (.int .i64 ((j.toNat * rowN s : Nat) : Int))) none none).run Try.prog W = .ok (.slice (if e - j.toNat * rowN s = 0 then b else b.map (·.add (j.toNat * rowN s * 1))) (d.length - j.toNat * rowN s) (e - j.toNat * rowN s)) W) := fun j W h0 h1 => run_from (by have := (HRW.out j h0 h1).1; omega) g2 W
  obtain ⟨S, hS⟩ : ∃ S, S = (n : Int) :: s.drop 1 := ⟨_, rfl⟩
  obtain ⟨D, hD⟩ : ∃ D, D = chosenD s d φ n := ⟨_, rfl⟩
  rw [← hS] at HOR HSZ ⊢
  rw [← hD] at HTOA ⊢
  have HZ : Hid (z = (n : Int)) := hzn
  clear hzn hS hD hV ho hz hm i1 i2 g1 g2 hsl hs hz3 hn3 HTOY HRW HML HD3
  generalize rowN s = L at *
  generalize s.getD 0 0 = N at *
  generalize hN : n * L = m at *
  have HN : Hid (n * L = m) := hN
  clear hN
  generalize hTO : chosenTo s d φ n = TO at *
  clear hTO
  go_enter Try.func51, Try.ntmps51
  go_wp2_with fail
  refine (HOR.out _ (bAlloc (bAlloc (Below.refl _ _) _) _)).mono ?_
  rintro r w1 ⟨a1, c1, rfl, hp, hb⟩
  have HB1 : Hid (Below w.heap.size w w1) := bTrans (bAlloc (bAlloc (Below.refl _ _) _) _) hb
  have X1 : Hid (Box w1 w.heap.size (.slice (some ⟨ab, ao, none⟩) s.length c) (.slice b d.length e) 26) := ((box_new w _ _ _).keep (bAlloc (Below.refl _ _) _)).keep hb
  have R1 : Hid (Box w1 (w.heap.size + 1) (.slice none 0 0) (.slice none 0 0) 26) := (box_new2 w _ _ _ _).keep hb
  have P1 : Hid (Piece (w.heap.size + 2) w1.heap.size w1 (.slice a1 S.length c1) S) := by show Piece _ _ _ _ _; simpa using hp
  have I1 : Hid (Ints w1 a1 S) := by
    obtain ⟨q1, q2, q3, q4⟩ := hp.ints
    cases q3
    exact q4
  have LT : Hid (w.heap.size + 2 ≤ w1.heap.size) := by have := hb.size; show _ ≤ _; simpa using this
  clear hp hb
  go_wp2_with fail
  refine (HSZ.out _ _ _ I1.out).mono ?_
  rintro r w2 ⟨rfl, hb⟩
  have HB2 : Hid (Below w.heap.size w w2) := bTrans HB1.out hb
  have X2 : Hid (Box w2 w.heap.size (.slice (some ⟨ab, ao, none⟩) s.length c) (.slice b d.length e) 26) := X1.out.keep hb
  have R2 : Hid (Box w2 (w.heap.size + 1) (.slice none 0 0) (.slice none 0 0) 26) := R1.out.keep hb
  have P2 : Hid (Piece (w.heap.size + 2) w1.heap.size w2 (.slice a1 S.length c1) S) := P1.out.keep hb
  have LT2 : Hid (w1.heap.size ≤ w2.heap.size) := hb.size
  clear hb X1 R1 P1 I1 HB1 HOR HSZ
  go_wp2
  generalize hW : w2.alloc (.cells (vals (List.replicate m 0)) 3) = W
  have HBW : Hid (Below w2.heap.size w2 W) := by rw [← hW]; exact bAlloc (Below.refl _ _) _
  have HOW : Hid (OwnInts W w2.heap.size (TO 0)) := by rw [← hW, HTO0.out]; exact ownInts_new _ _
  clear hW hmk
  go_loopw [20] (fun i w' => ∃ k : Nat, k ≤ n ∧ i = .int .i64 (k : Int) ∧ OwnInts w' w2.heap.size (TO k) ∧ Below w2.heap.size w2 w') (fun i _ => n - (intOf i).toNat)
  case atStart => exact ⟨0, by omega, rfl, HOW.out, HBW.out⟩
  case round =>
    obtain ⟨k, hk, rfl, hO, hb⟩ := hrel
    have HO : Hid (OwnInts wr w2.heap.size (TO k)) := hO
    have HB : Hid (Below w2.heap.size w2 wr) := hb
    clear hO hb HOW HBW
    have hzn := HZ.out
    by_cases hlt : (k : Int) < z
    · have HLT : Hid (k < n) := by show _ < _; omega
      have hq := HQ.out (by omega)
      have hn0 : z ≠ 0 := by omega
      have HVK : Hid (Calls Try.prog f #[.int .i64 (k : Int), p, q] wr fun r W' => r = .returned (.int .i64 (φ k)) ∧ Below wr.heap.size wr W') := HV.out wr k HLT.out (bTrans HB2.out HB.out)
      have TN : Hid (¬ (0 ≤ φ k ∧ φ k < N) → TO k = TO (k + 1)) := HTON.out k HLT.out
      clear hzn
      have hwL := HWL.out (Nat.lt_of_le_of_lt (Nat.zero_le _) HLT.out)
      have hz3 : z ≤ 300 := by have := HZ.out; have := HM.out; omega
      have HCK := HCY.out k w2.heap.size (φ k)
      generalize φ k = j at *
      by_cases hj : 0 ≤ j
      · by_cases hj2 : j < N
        · have HCP : Hid (∀ W, OwnInts W w2.heap.size (TO k) → Ints W b d → (Builtin.copy_ #[24, 24] 3 #[.slice (if m - k * L = 0 then some ⟨w2.heap.size, 0, none⟩ else (some (⟨w2.heap.size, 0, none⟩ : Addr)).map (·.add (k * L * 1))) ((k + 1) * L - k * L) (m - k * L), .slice (if e - j.toNat * L = 0 then b else b.map (·.add (j.toNat * L * 1))) (d.length - j.toNat * L) (e - j.toNat * L)]).run Try.prog W = .ok (.int .i64 (L : Int)) (W.setRow w2.heap.size (vals (TO (k + 1))))) := fun W h1 h2 => HCK W HLT.out hj hj2 rfl h1 h2
          have hs1 := fun W => HSA.out k w2.heap.size W HLT.out
          have hs2 := fun W => HSB.out j W hj hj2
          obtain ⟨hk1, w1', w2'⟩ := HW.out k HLT.out
          have HZ3 : Hid (z ≤ 300 ∧ (k : Int) < z) := ⟨hz3, hlt⟩
          have HW4 : Hid (wrap64 ((k : Int) + 1) = (k : Int) + 1 ∧ wrap64 ((k : Int) * (L : Int)) = ((k * L : Nat) : Int) ∧ wrap64 (((k : Int) + 1) * (L : Int)) = (((k + 1) * L : Nat) : Int)) := ⟨hk1, w1', w2'⟩
          clear hk1 w1' w2'
          have HW3 : Hid (wrap64 (j * (L : Int)) = ((j.toNat * L : Nat) : Int)) := HWJ.out j hj hj2
          clear TN HCK HSA HSB HW HWJ HCY HTON HTOL
          generalize (if m - k * L = 0 then some ⟨w2.heap.size, 0, none⟩ else (some (⟨w2.heap.size, 0, none⟩ : Addr)).map (·.add (k * L * 1))) = A1 at *
          generalize (if e - j.toNat * L = 0 then b else b.map (·.add (j.toNat * L * 1))) = A2 at *
          generalize (k + 1) * L - k * L = n1 at *
          generalize m - k * L = n2 at *
          generalize d.length - j.toNat * L = n3 at *
          generalize e - j.toNat * L = n4 at *
          generalize (k + 1) * L = n5 at *
          generalize k * L = n6 at *
          generalize j.toNat * L = n7 at *
          go_wp2_with (go_at_fn f; refine HVK.out.mono ?_; rintro r w3 ⟨rfl, hb⟩; have HB3 : Hid (Below w2.heap.size w2 w3) := bTrans HB.out hb; have HO3 : Hid (OwnInts w3 w2.heap.size (TO k)) := (HO.out.keep5 hb); have x0 := (X2.out.keep HB3.out).c0; have x1 := (X2.out.keep HB3.out).c1; have xn := HN0.out _ (bTrans HB2.out HB3.out); have hcp := HCP.out w3.drew (HO3.out.keep5 (Below.refl w3.heap.size w3).drew) (HI2.out.keep (bTrans HB2.out HB3.out.drew)); clear hb)
          have HO4 : Hid (OwnInts (w3.drew.setRow w2.heap.size (vals (TO (k + 1)))) w2.heap.size (TO (k + 1))) := (HO3.out.keep5 (Below.refl w3.heap.size w3).drew).setRow _
          have HB4 : Hid (Below w2.heap.size w2 (w3.drew.setRow w2.heap.size (vals (TO (k + 1))))) := below_setRow HB3.out.drew (Nat.le_refl _) _
          generalize hW : w3.drew.setRow w2.heap.size (vals (TO (k + 1))) = W4 at *
          clear hW
          obtain ⟨hk1, w1', w2'⟩ := HW4.out
          have w3' := HW3.out
          clear hz3 hlt
          go_region
          obtain ⟨hz3, hlt⟩ := HZ3.out
          clear hk1 w1' w2' w3' hs1 hs2 hcp x0 x1 xn
          go_wp2
          go_roundw
          case rel => exact ⟨k + 1, HLT.out, by go_num, HO4.out, HB4.out⟩
          case measure => simp [intOf]; have := HLT.out; omega
        · have HT' : Hid (TO k = TO (k + 1)) := TN.out (fun q => hj2 q.2)
          clear TN HCK
          go_wp2_with (go_at_fn f; refine HVK.out.mono ?_; rintro r w3 ⟨rfl, hb⟩; have HB3 : Hid (Below w2.heap.size w2 w3) := bTrans HB.out hb; have HO3 : Hid (OwnInts w3 w2.heap.size (TO k)) := (HO.out.keep5 hb); have x0 := (X2.out.keep HB3.out).c0; have xn := HN0.out _ (bTrans HB2.out HB3.out); clear hb)
          go_roundw
          case rel => exact ⟨k + 1, HLT.out, by go_num, by rw [← HT'.out]; exact HO3.out, HB3.out⟩
          case measure => simp [intOf]; have := HLT.out; omega
      · have HT' : Hid (TO k = TO (k + 1)) := TN.out (fun q => hj q.1)
        clear TN HCK
        go_wp2_with (go_at_fn f; refine HVK.out.mono ?_; rintro r w3 ⟨rfl, hb⟩; have HB3 : Hid (Below w2.heap.size w2 w3) := bTrans HB.out hb; have HO3 : Hid (OwnInts w3 w2.heap.size (TO k)) := (HO.out.keep5 hb); clear hb)
        go_roundw
        case rel => exact ⟨k + 1, HLT.out, by go_num, by rw [← HT'.out]; exact HO3.out, HB3.out⟩
        case measure => simp [intOf]; have := HLT.out; omega
    · obtain rfl : k = n := by omega
      clear hzn
      have LD : Hid (D.length = m) := by show _ = _; rw [← HTOA.out]; exact HTOL.out k (Nat.le_refl _)
      have R3 : Hid (Box wr (w.heap.size + 1) (.slice none 0 0) (.slice none 0 0) 26) := R2.out.keep HB.out
      have P3 : Hid (Piece (w.heap.size + 2) w1.heap.size wr (.slice a1 S.length c1) S) := P2.out.keep HB.out
      have PD : Hid (Piece w2.heap.size (w2.heap.size + 1) wr (.slice (some ⟨w2.heap.size, 0, none⟩) m m) D) := by
        have q := OwnInts.piece HO.out (B := w2.heap.size) (C := w2.heap.size + 1) (Nat.le_refl _) (by omega) m (by rw [HTOL.out k (Nat.le_refl _)]; exact Nat.le_refl _)
        rw [HTOL.out k (Nat.le_refl _), HTOA.out] at q
        exact q
      have LW : Hid (w2.heap.size + 1 ≤ wr.heap.size) := lt_of_heapA HO.out
      have HB5 : Hid (Below w.heap.size w wr) := bTrans HB2.out HB.out
      have y0 := R3.out.c0
      have y1 := R3.out.c1
      have f0 : wr.frozen? ⟨w.heap.size + 1, 0, none⟩ = false := free_at R3.out 0
      have f1 : wr.frozen? ⟨w.heap.size + 1, 1, none⟩ = false := free_at R3.out 1
      have HR : Hid (((wr.setCell ⟨w.heap.size + 1, 0, none⟩ (.slice a1 S.length c1)).setCell ⟨w.heap.size + 1, 1, none⟩ (.slice (some ⟨w2.heap.size, 0, none⟩) m m)).heap[w.heap.size + 1]? = some (.cells #[.slice a1 S.length c1, .slice (some ⟨w2.heap.size, 0, none⟩) m m] 26 (0, 0))) := arr_stored R3.out
      go_wp2
      refine bodyPost_ret (v := .agg #[.slice a1 S.length c1, .slice (some ⟨w2.heap.size, 0, none⟩) m m]) (results_arr rfl _ _ (w.heap.size + 1) _ _ rfl HR.out) rfl ?_
      refine ⟨_, rfl, ?_, below_setCell (below_setCell HB5.out (by omega) _ _) (by omega) _ _⟩
      have L1 := LT.out
      have L2 := LT2.out
      have L3 := LW.out
      have p1' := (P3.out.win (win_setCell wr (w.heap.size + 1) 0 (.slice a1 S.length c1)) (.inr (by omega))).win (win_setCell _ (w.heap.size + 1) 1 (.slice (some ⟨w2.heap.size, 0, none⟩) m m)) (.inr (by omega))
      have p2' := (PD.out.win (win_setCell wr (w.heap.size + 1) 0 (.slice a1 S.length c1)) (.inr (by omega))).win (win_setCell _ (w.heap.size + 1) 1 (.slice (some ⟨w2.heap.size, 0, none⟩) m m)) (.inr (by omega))
      exact ⟨_, _, rfl, p1'.mono (by omega) (by simp only [size_setCell]; omega), p2'.mono (by omega) (by simp only [size_setCell]; omega), p1'.apart p2' (.inl (by omega))⟩
end Go.Proofs.Ythjjjnapcbkhjaa
namespace Go.Proofs.Ythjjjnapcbkhjaa
open Go.RowKit
set_option linter.unusedVariables false
set_option linter.unusedSimpArgs false
set_option maxRecDepth 20000 in
set_option maxHeartbeats 2000000 in
/-- slices.IndexFunc over a closure of one variable. -/
theorem indexBy_impl {l : List Int} {a : Option Addr} {w : World} {c f : Nat} {p : Value} {φ : Int → Bool} (hE : ∀ (args : Array Value) (w : World), (callFunc f args).run Try.prog w = .ok (.enter f args) w) (h : Ints w a l) (hl : l.length ≤ 1048576)
    (hV : ∀ x : Int, Calls Try.prog f #[.int .i64 x, p] w fun r W' => r = .returned (.bool (φ x)) ∧ W' = w) :
    Calls Try.prog 92 #[.slice a l.length c, .func (.func f) #[] #[p]] w fun r w' => ∃ x : Int, r = .returned (.int .i64 x) ∧ (decide (0 ≤ x) = l.any φ) ∧ w' = w := by
  have HI : Hid (Ints w a l) := h
  have HV : Hid (∀ x : Int, Calls Try.prog f #[.int .i64 x, p] w fun r W' => r = .returned (.bool (φ x)) ∧ W' = w) := hV
  clear h hV
  go_enter Try.func92, Try.ntmps92
  go_wp2
  go_loopw [8] (fun i w' => ∃ k : Nat, k ≤ l.length ∧ i = .int .i64 (k : Int) ∧ ((l.take k).any φ) = false ∧ w' = w) (fun i _ => l.length - (intOf i).toNat)
  case atStart => exact ⟨0, by omega, rfl, by simp, rfl⟩
  case round =>
    obtain ⟨k, hk, rfl, ht, hw⟩ := hrel
    have hw2 := hw.symm
    clear hw
    subst hw2
    have HT : Hid (((l.take k).any φ) = false) := ht
    clear ht
    by_cases hlt : (k : Int) < (l.length : Int)
    · have L : k < l.length := by omega
      obtain ⟨b1, o1, rfl, _, c1⟩ := HI.out.at L
      have Q : Hid (((l.take (k + 1)).any φ) = (((l.take k).any φ) || φ (l.getD k 0))) := by show _ = _; rw [take_snoc L]; simp
      have QB : Hid (φ (l.getD k 0) = true → (l.any φ) = true) := fun h => by
        rw [List.any_eq_true]
        exact ⟨l.getD k 0, by simp [L], h⟩
      clear L
      generalize l.getD k 0 = x at c1 Q QB
      by_cases hx : φ x = true
      · have QB' : Hid ((l.any φ) = true) := QB.out hx
        clear Q QB
        go_wp2_with (go_at_fn f; refine (HV.out x).mono ?_; rintro r w2 ⟨rfl, hw⟩; subst w2; rw [hx])
        go_ret
        exact ⟨_, rfl, by rw [QB'.out]; simp, rfl⟩
      · have hx' : φ x = false := by simpa using hx
        have HT' : Hid (((l.take (k + 1)).any φ) = false) := by show _ = _; rw [Q.out, HT.out, hx']; rfl
        clear Q QB hx
        go_wp2_with (go_at_fn f; refine (HV.out x).mono ?_; rintro r w2 ⟨rfl, hw⟩; subst w2; rw [hx'])
        go_roundw
        case rel => exact ⟨k + 1, by omega, by go_num, HT'.out, by first | trivial | rfl⟩
        case measure => simp [intOf]; omega
    · have HV' : Hid ((l.any φ) = false) := by
        have h := HT.out
        show _ = _
        rw [List.take_of_length_le (by omega)] at h
        exact h
      go_wp2
      go_ret
      exact ⟨_, rfl, by rw [HV'.out]; rfl, rfl⟩
set_option maxRecDepth 20000 in
set_option maxHeartbeats 2000000 in
/-- slices.ContainsFunc over a closure of one variable. -/
theorem containsBy_impl {l : List Int} {a : Option Addr} {w : World} {c f : Nat} {p : Value} {φ : Int → Bool} (hE : ∀ (args : Array Value) (w : World), (callFunc f args).run Try.prog w = .ok (.enter f args) w) (h : Ints w a l) (hl : l.length ≤ 1048576)
    (hV : ∀ x : Int, Calls Try.prog f #[.int .i64 x, p] w fun r W' => r = .returned (.bool (φ x)) ∧ W' = w) :
    Calls Try.prog 49 #[.slice a l.length c, .func (.func f) #[] #[p]] w fun r w' => r = .returned (.bool (l.any φ)) ∧ w' = w := by
  have HC : Hid (Calls Try.prog 92 #[.slice a l.length c, .func (.func f) #[] #[p]] w fun r w' => ∃ x : Int, r = .returned (.int .i64 x) ∧ (decide (0 ≤ x) = l.any φ) ∧ w' = w) := indexBy_impl hE h hl hV
  clear h hV hE
  generalize l.any φ = q at *
  go_enter Try.func49, Try.ntmps49
  go_wp2_with fail
  refine HC.out.mono ?_
  rintro r w1 ⟨x, rfl, hx, rfl⟩
  clear HC
  by_cases h0 : (0 : Int) ≤ x
  · have E : Hid (q = true) := by show _ = _; rw [← hx]; simpa using h0
    clear hx
    go_wp2
    go_ret
    exact ⟨by rw [E.out]; simp [h0], rfl⟩
  · have E : Hid (q = false) := by show _ = _; rw [← hx]; simpa using h0
    clear hx
    go_wp2
    go_ret
    exact ⟨by rw [E.out]; simp [h0], rfl⟩
set_option maxHeartbeats 1000000 in
/-- Pick's first closure: there is no such row. -/
theorem pick1_impl {N : Nat} {o : Nat} {W : World} (x : Int) (h : W.cell? ⟨o, 0, none⟩ = some (.int .i64 (N : Int))) (hN : N ≤ 300) :
    Calls Try.prog 47 #[.int .i64 x, .pointer (some ⟨o, 0, none⟩)] W fun r W' => r = .returned (.bool (noRow (N : Int) x)) ∧ W' = W := by
  have hw : IntKind.i64.wrap (-(N : Int)) = -(N : Int) := by rw [IntKind.wrap_i64]; omega
  unfold noRow
  by_cases h1 : x < -(N : Int)
  · have q1 : decide (x < -(N : Int)) = true := by simpa using h1
    go_enter Try.func47, Try.ntmps47
    go_wp2
    go_ret
    exact ⟨by simp [h1], rfl⟩
  · have q1 : decide (x < -(N : Int)) = false := by simpa using h1
    go_enter Try.func47, Try.ntmps47
    go_wp2
    go_ret
    exact ⟨by simp [h1], rfl⟩
set_option maxHeartbeats 1000000 in
theorem either_impl {N : Nat} (x : Int) (W : World) (hN : N ≤ 300) (hx : noRow (N : Int) x = false) :
    Calls Try.prog 53 #[.int .i64 x, .int .i64 (N : Int)] W fun r W' => r = .returned (.int .i64 ((rowNo (N : Int) x : Nat) : Int)) ∧ W' = W := by
  have e := (rowNo_bd hx).2
  obtain ⟨b1, b2⟩ := noRow_false.1 hx
  rw [e]
  have hw : IntKind.i64.wrap ((N : Int) + x) = (N : Int) + x := by rw [IntKind.wrap_i64]; omega
  clear e hx
  by_cases h1 : x < 0
  · rw [if_pos h1]
    go_enter Try.func53, Try.ntmps53
    go_wp2
    go_ret
    exact ⟨rfl, rfl⟩
  · rw [if_neg h1]
    go_enter Try.func53, Try.ntmps53
    go_wp2
    go_ret
    exact ⟨rfl, rfl⟩
set_option maxRecDepth 20000 in
set_option maxHeartbeats 1000000 in
/-- Pick's second closure: the number of a row. -/
theorem pick2_impl {N k : Nat} {g o b1 o1 n f : Nat} {sv : Value} {x : Int} {W : World} (hg : Box W g sv (.slice (some ⟨b1, o1, none⟩) n f) 26) (hc : W.cell? ⟨b1, o1 + k, none⟩ = some (.int .i64 x)) (h : W.cell? ⟨o, 0, none⟩ = some (.int .i64 (N : Int))) (hN : N ≤ 300) (hk : (k : Int) < (n : Int)) (hx : noRow (N : Int) x = false) :
    Calls Try.prog 52 #[.int .i64 (k : Int), .pointer (some ⟨g, 0, none⟩), .pointer (some ⟨o, 0, none⟩)] W fun r W' => r = .returned (.int .i64 ((rowNo (N : Int) x : Nat) : Int)) ∧ Below W.heap.size W W' := by
  have HE : Hid (∀ W : World, Calls Try.prog 53 #[.int .i64 x, .int .i64 (N : Int)] W fun r W' => r = .returned (.int .i64 ((rowNo (N : Int) x : Nat) : Int)) ∧ W' = W) := fun W => either_impl x W hN hx
  have g1 := hg.c1
  clear hg hx
  go_enter Try.func52, Try.ntmps52
  go_wp2_with fail
  go_region_held3 (fun w' => w'.cell? ⟨g, 1, none⟩ = some (.slice (some ⟨b1, o1, none⟩) n f) ∧ w'.cell? ⟨b1, o1 + k, none⟩ = some (.int .i64 x) ∧ w'.cell? ⟨o, 0, none⟩ = some (.int .i64 (N : Int)))
    (first | with_reducible exact ⟨g1, hc, h⟩ | exact ⟨g1, hc, h⟩ | go_keep)
    ((go_at_call 53; refine (HE.out _).mono ?_; rintro r w2 ⟨rfl, rfl⟩))
  go_wp2
  go_ret
  exact ⟨rfl, (Below.refl _ _).drew⟩
end Go.Proofs.Ythjjjnapcbkhjaa
namespace Go.Proofs.Ythjjjnapcbkhjaa
open Go.RowKit
set_option linter.unusedVariables false
set_option linter.unusedSimpArgs false
theorem run_zeros (w : World) (ty : TypeId) {n : Nat} (h0 : 0 < n) (hn : n ≤ 1048576) :
    ∃ cap w', (Builtin.append_ #[24, 3] ty #[.slice none 0 0, .int .i64 (n : Int)]).run Try.prog w = .ok (.slice (some ⟨w.heap.size, 0, none⟩) n cap) w' ∧ NewInts w.heap.size w' (.slice (some ⟨w.heap.size, 0, none⟩) 0 cap) [] ∧ Below w.heap.size w w' := by
  obtain ⟨i, hq, z1, z2, z3⟩ : ∃ i, Try.prog.info? 3 = some i ∧ i.zero = some (.int .i64 0) ∧ i.size = 1 ∧ i.bytes = 8 := by
    have hi := info_int
    cases hq : Try.prog.info? 3 with
    | none => rw [hq] at hi; cases hi
    | some i => rw [hq] at hi; simp at hi; exact ⟨i, rfl, hi.1, hi.2.1, hi.2.2⟩
  refine ⟨_, _, Lib.run_append_nil_zeros w 24 3 ty 3 i (.int .i64 0) .i64 .i64 Try.underlying24 Try.underlying3 hq z1 n h0 (by omega) (by omega) (by rw [z3]; omega), ?_, bAlloc ((Below.refl w.heap.size w).drew) _⟩
  have hge := grownCap_ge w n 0 3
  have hcm := grownCap_le_maxLen w n 0 3 (by unfold maxLen; omega)
  refine ⟨rfl, .inr ⟨w.heap.size, _, _, rfl, Nat.le_refl _, heap_alloc_new w.drew _, Nat.zero_le _, hcm, ?_, by simp⟩⟩
  simp only [Array.size_append, size_zeroCells]
  rw [show (Value.int .i64 0).cells.size = 1 from rfl]
  omega
set_option maxRecDepth 20000 in
set_option maxHeartbeats 2000000 in
/-- slices.Grow of no list. -/
theorem grow0_impl {n : Nat} (w : World) (hn : n ≤ 1048576) :
    Calls Try.prog 91 #[.slice none 0 0, .int .i64 (n : Int)] w fun r w' => ∃ v, r = .returned v ∧ NewInts w.heap.size w' v [] ∧ Below w.heap.size w w' := by
  by_cases h0 : n = 0
  · subst h0
    go_enter Try.func91, Try.ntmps91
    go_wp2
    go_ret
    exact ⟨_, rfl, NewInts.nil _ _, Below.refl _ _⟩
  · obtain ⟨cap, w2, r2, n2, b2⟩ := run_zeros w 24 (n := n) (by omega) hn
    have R2 : Hid (_ = _) := r2
    have N2 : Hid (NewInts w.heap.size w2 (.slice (some ⟨w.heap.size, 0, none⟩) 0 cap) []) := n2
    have B2 : Hid (Below w.heap.size w w2) := b2
    have hp : (0 : Int) < (n : Int) := by omega
    clear r2 n2 b2 h0
    go_enter Try.func91, Try.ntmps91
    go_wp2_with (at_builtin; refine wpList_append_ty rfl _ _ 24 3 rfl _ _ _ rfl rfl R2.out ?_)
    go_ret
    exact ⟨_, rfl, N2.out, B2.out⟩
set_option maxRecDepth 20000 in
set_option maxHeartbeats 4000000 in
/-- slices.Concat of two lists: a list of one's own. -/
theorem concat_impl {l m : List Int} {a b : Option Addr} {c c' o : Nat} {w : World} {T : TypeId} (ha : Ints w a l) (hb : Ints w b m) (hl : l.length + m.length ≤ 1048576) (ho : w.heap[o]? = some (.cells #[.slice a l.length c, .slice b m.length c'] T (0, 0))) :
    Calls Try.prog 48 #[.slice (some ⟨o, 0, none⟩) 2 2] w fun r w' => ∃ a' k', r = .returned (.slice a' (l ++ m).length k') ∧ NewInts w.heap.size w' (.slice a' (l ++ m).length k') (l ++ m) ∧ Below w.heap.size w w' := by
  have c0 : w.cell? ⟨o, 0, none⟩ = some (.slice a l.length c) := cell_at ho rfl
  have c1 : w.cell? ⟨o, 1, none⟩ = some (.slice b m.length c') := cell_at ho rfl
  have hlt : o < w.heap.size := lt_of_heapA ho
  have CK : Hid (∀ W, Below w.heap.size w W → W.cell? ⟨o, 0, none⟩ = some (.slice a l.length c) ∧ W.cell? ⟨o, 1, none⟩ = some (.slice b m.length c')) := fun W h => ⟨(h.cell (p := ⟨o, 0, none⟩) hlt).trans c0, (h.cell (p := ⟨o, 1, none⟩) hlt).trans c1⟩
  have HA : Hid (∀ W, Below w.heap.size w W → Ints W a l) := fun W h => ha.keep h
  have HB : Hid (∀ W, Below w.heap.size w W → Ints W b m) := fun W h => hb.keep h
  have hG : Hid (∀ W, Calls Try.prog 91 #[.slice none 0 0, .int .i64 ((l.length : Int) + (m.length : Int))] W fun r w' => ∃ v, r = .returned v ∧ NewInts W.heap.size w' v [] ∧ Below W.heap.size W w') := fun W => by
    have := grow0_impl (n := l.length + m.length) W hl
    rw [Int.natCast_add] at this
    exact this
  have hw1 : IntKind.i64.wrap ((l.length : Int) + (m.length : Int)) = (l.length : Int) + (m.length : Int) := by rw [IntKind.wrap_i64]; omega
  clear ha hb ho
  go_enter Try.func48, Try.ntmps48
  go_wp2
  go_loopw [3, 11] (fun z i w' => w' = w ∧ ((i = .int .i64 0 ∧ z = .int .i64 0) ∨ (i = .int .i64 1 ∧ z = .int .i64 (l.length : Int)) ∨ (i = .int .i64 2 ∧ z = .int .i64 ((l.length : Int) + (m.length : Int))))) (fun _ i _ => 2 - (intOf i).toNat)
  case atStart => exact ⟨rfl, .inl ⟨rfl, rfl⟩⟩
  case round =>
    obtain ⟨hw, h⟩ := hrel
    have hw2 := hw.symm
    clear hw
    subst hw2
    rcases h with ⟨rfl, rfl⟩ | ⟨rfl, rfl⟩ | ⟨rfl, rfl⟩
    · go_wp2
      go_roundw
      case rel => exact ⟨by first | rfl | trivial, .inr (.inl ⟨rfl, by simp⟩)⟩
      case measure => simp [intOf]
    · go_wp2
      go_roundw
      case rel => exact ⟨by first | rfl | trivial, .inr (.inr ⟨rfl, by simp⟩)⟩
      case measure => simp [intOf]
    · go_wp2_with fail
      refine (hG.out _).mono ?_
      rintro r w2 ⟨v2, rfl, hn, hb⟩
      have N2 : Hid (NewInts w.heap.size w2 v2 []) := hn
      have B2 : Hid (Below w.heap.size w w2) := hb
      clear hn hb c0 c1
      go_wp2
      go_loopw [6, 27] (fun v i w' => Below w.heap.size w w' ∧ ((i = .int .i64 0 ∧ NewInts w.heap.size w' v []) ∨ (i = .int .i64 1 ∧ NewInts w.heap.size w' v l) ∨ (i = .int .i64 2 ∧ NewInts w.heap.size w' v (l ++ m)))) (fun _ i _ => 2 - (intOf i).toNat)
      case atStart => exact ⟨B2.out, .inl ⟨rfl, N2.out⟩⟩
      case round =>
        obtain ⟨hw, h⟩ := hrel
        have BR : Hid (Below w.heap.size w wr) := hw
        clear hw N2 B2
        obtain ⟨d0, d1⟩ := CK.out _ BR.out
        rcases h with ⟨rfl, hn⟩ | ⟨rfl, hn⟩ | ⟨rfl, hn⟩
        · obtain ⟨a3, k3, w3, r3, n3, b3⟩ := growL hn (HA.out _ BR.out) BR.out.size (by simp; omega) c
          rw [List.nil_append] at r3 n3
          have R3 : Hid (_ = _) := r3
          have N3 : Hid (NewInts w.heap.size w3 (.slice a3 l.length k3) l) := n3
          have B3 : Hid (Below w.heap.size w w3) := BR.out.trans b3
          clear hn r3 n3 b3
          go_wp2_with (at_builtin; refine wpList_append_ty rfl _ _ 24 24 rfl _ _ _ rfl rfl R3.out ?_)
          go_roundw
          case rel => exact ⟨B3.out, .inr (.inl ⟨rfl, N3.out⟩)⟩
          case measure => simp [intOf]
        · obtain ⟨a3, k3, w3, r3, n3, b3⟩ := growL hn (HB.out _ BR.out) BR.out.size hl c'
          have R3 : Hid (_ = _) := r3
          have N3 : Hid (NewInts w.heap.size w3 (.slice a3 (l ++ m).length k3) (l ++ m)) := n3
          have B3 : Hid (Below w.heap.size w w3) := BR.out.trans b3
          clear hn r3 n3 b3
          go_wp2_with (at_builtin; refine wpList_append_ty rfl _ _ 24 24 rfl _ _ _ rfl rfl R3.out ?_)
          go_roundw
          case rel => exact ⟨B3.out, .inr (.inr ⟨rfl, by have q := N3.out; rw [List.length_append] at q; exact q⟩)⟩
          case measure => simp [intOf]
        · have NN : Hid (NewInts w.heap.size wr _ (l ++ m)) := hn
          obtain ⟨a4, k4, rfl, _⟩ := hn.ints
          clear hn
          go_wp2
          go_ret
          exact ⟨_, _, rfl, NN.out, BR.out⟩
end Go.Proofs.Ythjjjnapcbkhjaa
namespace Go.Proofs.Ythjjjnapcbkhjaa
open Go.RowKit
set_option linter.unusedVariables false
set_option linter.unusedSimpArgs false
theorem arrs_one5 {W : World} {o : Nat} {x y : Value} {t : TypeId} {s d : List Int} (hb : Box W o x y t) (h : ArrI W (.agg #[x, y]) s d) : ArrsI W (.slice (some ⟨o, 0, none⟩) 1 1) [s, d] := by
  obtain ⟨a, c, b, e, e', i1, i2, g1, g2⟩ := h
  obtain ⟨rfl, rfl⟩ : x = .slice a s.length c ∧ y = .slice b d.length e := by cases e'; exact ⟨rfl, rfl⟩
  refine ⟨_, 1, 1, rfl, rfl, .inr ⟨o, 0, [.slice a s.length c, .slice b d.length e], rfl, hb.lt, rfl, fun j hj => ?_⟩⟩
  match j, hj with
  | 0, _ => exact ⟨hb.c0, a, c, rfl, g1, i1⟩
  | 1, _ => exact ⟨hb.c1, b, e, rfl, g2, i2⟩
theorem arrs_two5 {W : World} {o : Nat} {x y x' y' : Value} {t : TypeId} {s d s' d' : List Int} (hb : W.heap[o]? = some (.cells #[x, y, x', y'] t (0, 0))) (h : ArrI W (.agg #[x, y]) s d) (k : ArrI W (.agg #[x', y']) s' d') : ArrsI W (.slice (some ⟨o, 0, none⟩) 2 2) [s, d, s', d'] := by
  obtain ⟨a, c, b, e, e', i1, i2, g1, g2⟩ := h
  obtain ⟨rfl, rfl⟩ : x = .slice a s.length c ∧ y = .slice b d.length e := by cases e'; exact ⟨rfl, rfl⟩
  obtain ⟨a', c', b', f', e', i3, i4, g3, g4⟩ := k
  obtain ⟨rfl, rfl⟩ : x' = .slice a' s'.length c' ∧ y' = .slice b' d'.length f' := by cases e'; exact ⟨rfl, rfl⟩
  refine ⟨_, 2, 2, rfl, rfl, .inr ⟨o, 0, [.slice a s.length c, .slice b d.length e, .slice a' s'.length c', .slice b' d'.length f'], rfl, lt_of_heapA hb, rfl, fun j hj => ?_⟩⟩
  match j, hj with
  | 0, _ => exact ⟨cell_at hb rfl, a, c, rfl, g1, i1⟩
  | 1, _ => exact ⟨cell_at hb rfl, b, e, rfl, g2, i2⟩
  | 2, _ => exact ⟨cell_at hb rfl, a', c', rfl, g3, i3⟩
  | 3, _ => exact ⟨cell_at hb rfl, b', f', rfl, g4, i4⟩
theorem four5 (w : World) (A B C D : Obj) :
    ((((w.alloc A).alloc B).alloc C).alloc D).heap[w.heap.size]? = some A ∧ ((((w.alloc A).alloc B).alloc C).alloc D).heap[w.heap.size + 1]? = some B ∧ ((((w.alloc A).alloc B).alloc C).alloc D).heap[w.heap.size + 1 + 1]? = some C ∧ ((((w.alloc A).alloc B).alloc C).alloc D).heap[w.heap.size + 1 + 1 + 1]? = some D := by
  have e1 := heap_alloc_new w A
  have e2 := heap_alloc_new (w.alloc A) B
  have e3 := heap_alloc_new ((w.alloc A).alloc B) C
  have e4 := heap_alloc_new (((w.alloc A).alloc B).alloc C) D
  simp only [World.size_alloc] at e2 e3 e4
  refine ⟨?_, ?_, ?_, e4⟩
  · rw [heap_alloc_old _ _ (by simp only [World.size_alloc]; omega), heap_alloc_old _ _ (by simp only [World.size_alloc]; omega), heap_alloc_old _ _ (by simp only [World.size_alloc]; omega)]; exact e1
  · rw [heap_alloc_old _ _ (by simp only [World.size_alloc]; omega), heap_alloc_old _ _ (by simp only [World.size_alloc]; omega)]; exact e2
  · rw [heap_alloc_old _ _ (by simp only [World.size_alloc]; omega)]; exact e3
theorem allOkV_two (s d t e : List Int) : allOkV [s, d, t, e] 2 = (arrOk s d && arrOk t e) := by simp [allOkV, List.range_succ]
theorem allOkV_one (t e : List Int) : allOkV [t, e] 1 = arrOk t e := by simp [allOkV, List.range_succ]
theorem allOk2_impl {s d t e : List Int} {W : World} {o : Nat} {x y x' y' : Value} (h : ArrI W (.agg #[x, y]) s d) (k : ArrI W (.agg #[x', y']) t e) (hs : s.length ≤ 1048576) (hd : d.length ≤ 1048576) (ht : t.length ≤ 1048576) (he : e.length ≤ 1048576) {T : TypeId} (ho : W.heap[o]? = some (.cells #[x, y, x', y'] T (0, 0))) :
    Calls Try.prog 46 #[.slice (some ⟨o, 0, none⟩) 2 2] W fun r w' => r = .returned (.bool (arrOk s d && arrOk t e)) ∧ Below W.heap.size W w' := by
  rw [← allOkV_two]
  refine allOk_impl (arrs_two5 ho h k) (by decide) (fun j => ?_)
  match j with
  | 0 => exact hs
  | 1 => exact hd
  | 2 => exact ht
  | 3 => exact he
  | j + 4 => simp
theorem sole2_impl {s d t e : List Int} {W : World} {o : Nat} {x' y' v : Value} (h : ArrI W v s d) (k : ArrI W (.agg #[x', y']) t e) (hd : d.length ≤ 1048576) (ht : t.length ≤ 1048576) (he : e.length ≤ 1048576) {T : TypeId} (ho : Box W o x' y' T) :
    Calls Try.prog 39 #[v, .slice (some ⟨o, 0, none⟩) 1 1] W fun r w' => r = .returned (.tuple #[.int .i64 (soleV s d (arrOk t e)), .int .i64 (oneC s d t e)]) ∧ Below W.heap.size W w' := by
  have q := sole_impl h hd (arrs_one5 ho k) (by decide) (fun j => by
    match j with
    | 0 => exact ht
    | 1 => exact he
    | j + 2 => simp)
  rw [allOkV_one] at q
  exact q
end Go.Proofs.Ythjjjnapcbkhjaa
namespace Go.Proofs.Ythjjjnapcbkhjaa
open Go.RowKit
set_option linter.unusedVariables false
set_option linter.unusedSimpArgs false
theorem arrsI_sub {w : World} {o off n c m M : Nat} {F : List (List Int)} {a' : Option Addr} {c' : Nat} (h : ArrsI w (.slice (some ⟨o, off, none⟩) n c) F) (hM : M + m ≤ n) (ha : m = 0 ∨ a' = some ⟨o, off + M * 2, none⟩) : ArrsI w (.slice a' m c') ((F.drop (2 * M)).take (2 * m)) := by
  obtain ⟨a, n', c'', e, hF, h⟩ := h
  cases e
  have hl : ((F.drop (2 * M)).take (2 * m)).length = 2 * m := by simp; omega
  refine ⟨a', m, c', rfl, hl, ?_⟩
  rcases ha with h0 | rfl
  · exact .inl h0
  · by_cases h0 : m = 0
    · exact .inl h0
    · rcases h with h | ⟨o', off', xs, e, ho, hx, hj⟩
      · omega
      · cases e
        refine .inr ⟨o, off + M * 2, (xs.drop (2 * M)).take (2 * m), rfl, ho, by simp; omega, fun j hj' => ?_⟩
        have hj2 : j < 2 * m := by simp at hj'; omega
        obtain ⟨q1, q2⟩ := hj (2 * M + j) (by omega)
        have e1 : ((xs.drop (2 * M)).take (2 * m)).getD j undef = xs.getD (2 * M + j) undef := by simp [List.getD, List.getElem?_take_of_lt hj2]
        have e2 : ((F.drop (2 * M)).take (2 * m)).getD j [] = F.getD (2 * M + j) [] := by simp [List.getD, List.getElem?_take_of_lt hj2]
        rw [e1, e2]
        refine ⟨?_, q2⟩
        rw [show off + M * 2 + j = off + (2 * M + j) from by omega]
        exact q1
/-- A list of arrays from one on. -/
theorem arrs_from {w : World} {a : Option Addr} {n c M : Nat} {F : List (List Int)} (h : ArrsI w (.slice a n c) F) (hc : n ≤ c) (hM : M ≤ n) :
    ∃ a' c', (∀ W, (Instr.slice 35 (.slice a n c) (some (.int .i64 (M : Int))) none none).run Try.prog W = .ok (.slice a' (n - M) c') W) ∧ ArrsI w (.slice a' (n - M) c') ((F.drop (2 * M)).take (2 * (n - M))) := by
  have hrun : ∀ W, (Instr.slice 35 (.slice a n c) (some (.int .i64 (M : Int))) none none).run Try.prog W = .ok (sliced a M n c 2) W := by
    intro W
    have hs : (sizeOf 26).run Try.prog W = .ok 2 W := by kernel_rfl
    have he : Try.prog.elem 35 = 26 := by kernel_rfl
    rw [run_slice_l (P := Try.prog) (w := W) 35 a n c (by rw [he]; exact Try.underlying35) .i64 (M : Int) (by omega) (by omega), he, hs]
    simp [Result.andThen]
  refine ⟨_, _, hrun, ?_⟩
  by_cases h0 : n - M = 0
  · rw [h0]
    exact ⟨_, 0, _, rfl, by simp, .inl rfl⟩
  · obtain ⟨o, off, _, _, rfl, _⟩ := h.at (k := M) (by omega)
    refine arrsI_sub h (by omega) (.inr ?_)
    rw [if_neg (by omega)]
    simp [Addr.add]
/-- A list of arrays up to one. -/
theorem arrs_upto {w : World} {a : Option Addr} {n c m : Nat} {F : List (List Int)} (h : ArrsI w (.slice a n c) F) (hc : n ≤ c) (hm : m ≤ n) :
    ∃ a' c', (∀ W, (Instr.slice 35 (.slice a n c) none (some (.int .i64 (m : Int))) none).run Try.prog W = .ok (.slice a' m c') W) ∧ ArrsI w (.slice a' m c') ((F.drop 0).take (2 * m)) := by
  have hrun : ∀ W, (Instr.slice 35 (.slice a n c) none (some (.int .i64 (m : Int))) none).run Try.prog W = .ok (sliced a 0 m c 2) W := by
    intro W
    have hs : (sizeOf 26).run Try.prog W = .ok 2 W := by kernel_rfl
    have he : Try.prog.elem 35 = 26 := by kernel_rfl
    rw [run_slice_h (P := Try.prog) (w := W) 35 a n c (by rw [he]; exact Try.underlying35) .i64 (m : Int) (by omega) (by omega), he, hs]
    simp [Result.andThen]
  refine ⟨_, _, hrun, ?_⟩
  by_cases h0 : m = 0
  · subst h0
    exact ⟨_, 0, _, rfl, by simp, .inl rfl⟩
  · obtain ⟨o, off, _, _, rfl, _⟩ := h.at (k := 0) (by omega)
    have := arrsI_sub (M := 0) (m := m) (a' := some ⟨o, off, none⟩) (c' := c - 0) h (by omega) (.inr (by simp))
    simpa [sliced, Addr.add] using this
theorem vec_ok {t e : List Int} (h : arrOk t e = true) : arrOk (vecS t e) e = true ∧ vecS t e ≠ [] := by
  unfold vecS
  by_cases ht : t = []
  · subst ht
    rw [if_pos rfl]
    have z := arrOk_size h
    rw [sizeV_0'] at z
    have hl : e.length = 1 := by omega
    refine ⟨?_, by simp⟩
    have h2 : e.all ok = true := by
      unfold arrOk at h
      simp only [Bool.and_eq_true] at h
      exact h.2
    unfold arrOk
    rw [h2, hl]
    decide
  · rw [if_neg ht]; exact ⟨h, ht⟩
end Go.Proofs.Ythjjjnapcbkhjaa
namespace Go.Proofs.Ythjjjnapcbkhjaa
open Go.RowKit
set_option linter.unusedVariables false
set_option linter.unusedSimpArgs false
theorem rowsF_oddAt {s d : List Int} (ho : arrOk s d = true) (hs : s ≠ []) {M m i : Nat} (h : M + m ≤ rowsN s) (hi : i < m) : (((rowsF s d).drop (2 * M)).take (2 * m)).getD (2 * i + 1) [] = rowAt s d (M + i) := by
  rw [← rowsF_odd ho hs (i := M + i) (by omega)]
  simp only [List.getD_eq_getElem?_getD]
  rw [List.getElem?_take_of_lt (by omega), List.getElem?_drop, show 2 * M + (2 * i + 1) = 2 * (M + i) + 1 from by omega]
theorem cat_cut {s d : List Int} (ho : arrOk s d = true) (hs : s ≠ []) {M m : Nat} (h : M + m ≤ rowsN s) : catF (((rowsF s d).drop (2 * M)).take (2 * m)) m = (d.drop (M * rowN s)).take (m * rowN s) := by
  have key : ∀ k, k ≤ m → catF (((rowsF s d).drop (2 * M)).take (2 * m)) k = (d.drop (M * rowN s)).take (k * rowN s) := by
    intro k
    induction k with
    | zero => intro _; simp [catF]
    | succ k ih =>
      intro hk
      rw [catF_succ, ih (by omega), rowsF_oddAt ho hs h (by omega), Nat.succ_mul, List.take_add]
      congr 1
      unfold rowAt
      rw [List.drop_drop, Nat.add_mul]
  exact key m (Nat.le_refl _)
theorem rows_all {s d : List Int} (ho : arrOk s d = true) (hs : s ≠ []) : rowsN s * rowN s = d.length := by
  obtain ⟨e1, e2⟩ := rowsN_bd ho
  cases s with
  | nil => exact absurd rfl hs
  | cons n0 t =>
    have h0 : n0 = (rowsN (n0 :: t) : Int) := e2
    by_cases hp : 0 < n0
    · obtain ⟨p0, p1, p2⟩ := tail_size ho hp
      have : rowN (n0 :: t) = (sizeV t).toNat := rfl
      have q : ((rowsN (n0 :: t) * rowN (n0 :: t) : Nat) : Int) = (d.length : Int) := by
        rw [this, Int.natCast_mul, ← h0, Int.toNat_of_nonneg p0]; exact p1
      omega
    · have hz : rowsN (n0 :: t) = 0 := by omega
      have z := arrOk_size ho
      have k := (sizeV_ok (arrOk_shape ho)).2.2.2
      have : sizeV (n0 :: t) = 0 := by
        rw [k]
        have : n0 = 0 := by omega
        subst this
        have hf : ∀ l : List Int, List.foldl (fun x1 x2 => x1 * x2) 0 l = 0 := by
          intro l
          induction l with
          | nil => rfl
          | cons y l ih => simpa using ih
        simp [prodV, hf]
      rw [hz, Nat.zero_mul]
      omega
theorem many_nat (x : Int) : manyV x = ((manyV x).toNat : Int) := by unfold manyV; split <;> omega
end Go.Proofs.Ythjjjnapcbkhjaa
namespace Go.Proofs.Ythjjjnapcbkhjaa
open Go.RowKit
set_option linter.unusedVariables false
set_option linter.unusedSimpArgs false
theorem blocks4 (w : World) (A B C D : Obj) : ((((w.alloc A).alloc B).alloc C).alloc D).heap[w.heap.size]? = some A ∧ ((((w.alloc A).alloc B).alloc C).alloc D).heap[w.heap.size + 1]? = some B ∧ ((((w.alloc A).alloc B).alloc C).alloc D).heap[w.heap.size + 1 + 1]? = some C ∧ ((((w.alloc A).alloc B).alloc C).alloc D).heap[w.heap.size + 1 + 1 + 1]? = some D := by
  have q := blocks3 w A B C
  have e4 := heap_alloc_new (((w.alloc A).alloc B).alloc C) D
  simp only [World.size_alloc] at e4
  refine ⟨?_, ?_, ?_, e4⟩
  · rw [heap_alloc_old _ _ (by simp only [World.size_alloc]; omega)]; exact q.1
  · rw [heap_alloc_old _ _ (by simp only [World.size_alloc]; omega)]; exact q.2.1
  · rw [heap_alloc_old _ _ (by simp only [World.size_alloc]; omega)]; exact q.2.2
theorem againD_succ (e : List Int) (k : Nat) : againD e k ++ [if e = [] then 0 else e.getD (k % e.length) 0] = againD e (k + 1) := by
  unfold againD; rw [List.range_succ]; simp
theorem any_take {d : List Int} {k : Nat} (h : (d.take k).any (fun x => decide (x < 0)) = false) (hk : k < d.length) (hx : ¬ d.getD k 0 < 0) : (d.take (k + 1)).any (fun x => decide (x < 0)) = false := by
  rw [take_snoc hk, List.any_append, h]
  simpa using hx
end Go.Proofs.Ythjjjnapcbkhjaa
namespace Go.Proofs.Ythjjjnapcbkhjaa
open Go.RowKit
set_option linter.unusedVariables false
set_option linter.unusedSimpArgs false
/-- A list of numbers up to one. -/
theorem ints_upto {w : World} {a : Option Addr} {l : List Int} {c M : Nat} (h : Ints w a l) (hc : l.length ≤ c) (hM : M ≤ l.length) :
    ∃ a' c', (∀ W, (Instr.slice 24 (.slice a l.length c) none (some (.int .i64 (M : Int))) none).run Try.prog W = .ok (.slice a' M c') W) ∧ Ints w a' (l.take M) := by
  have hrun : ∀ W, (Instr.slice 24 (.slice a l.length c) none (some (.int .i64 (M : Int))) none).run Try.prog W = .ok (sliced a 0 M c 1) W := by
    intro W
    have hs : (sizeOf 3).run Try.prog W = .ok 1 W := by kernel_rfl
    have he : Try.prog.elem 24 = 3 := by kernel_rfl
    rw [run_slice_h (P := Try.prog) (w := W) 24 a l.length c (by rw [he]; exact Try.underlying24) .i64 (M : Int) (by omega) (by omega), he, hs]
    simp [Result.andThen]
  refine ⟨_, _, hrun, ?_⟩
  by_cases h0 : M = 0
  · subst h0; exact .inl (by simp)
  · obtain ⟨b, o, rfl, _, _⟩ := h.at (k := 0) (by omega)
    have := ints_cut (m := 0) (n := M) h (by omega)
    have e : (if c = 0 then (some ⟨b, o, none⟩ : Option Addr) else (some (⟨b, o, none⟩ : Addr)).map (·.add (0 * 1))) = some ⟨b, o, none⟩ := by
      split
      · rfl
      · simp [Addr.add]
    rw [e]
    simpa using this
/-- A list of numbers from one on. -/
theorem ints_from {w : World} {a : Option Addr} {l : List Int} {c M : Nat} (h : Ints w a l) (hc : l.length ≤ c) (hM : M ≤ l.length) :
    ∃ a' c', (∀ W, (Instr.slice 24 (.slice a l.length c) (some (.int .i64 (M : Int))) none none).run Try.prog W = .ok (.slice a' (l.drop M).length c') W) ∧ Ints w a' (l.drop M) := by
  have hrun : ∀ W, (Instr.slice 24 (.slice a l.length c) (some (.int .i64 (M : Int))) none none).run Try.prog W = .ok (sliced a M l.length c 1) W := by
    intro W
    have hs : (sizeOf 3).run Try.prog W = .ok 1 W := by kernel_rfl
    have he : Try.prog.elem 24 = 3 := by kernel_rfl
    rw [run_slice_l (P := Try.prog) (w := W) 24 a l.length c (by rw [he]; exact Try.underlying24) .i64 (M : Int) (by omega) (by omega), he, hs]
    simp [Result.andThen]
  rw [show (l.drop M).length = l.length - M from by simp]
  refine ⟨_, _, hrun, ?_⟩
  by_cases h0 : l.length - M = 0
  · exact .inl (List.eq_nil_of_length_eq_zero (by simpa using h0))
  · obtain ⟨b, o, rfl, _, _⟩ := h.at (k := 0) (by omega)
    have := ints_cut (m := M) (n := l.length - M) h (by omega)
    rw [if_neg (by omega)]
    have e2 : (l.drop M).take (l.length - M) = l.drop M := List.take_of_length_le (by simp)
    rw [e2] at this
    by_cases hM0 : M = 0 <;> simpa [Addr.add, hM0] using this
/-- Growing by a list: nothing but the list's own block is turned. -/
theorem growG {B : Nat} {w : World} {v : Value} {l m : List Int} {a : Option Addr} (h : NewInts B w v l) (hm : Ints w a m) (hB : B ≤ w.heap.size) (hl : l.length + m.length ≤ 1048576) (c : Nat) :
    ∃ a' c' w', (Builtin.append_ #[24, 24] 24 #[v, .slice a m.length c]).run Try.prog w = .ok (.slice a' (l ++ m).length c') w' ∧ NewInts B w' (.slice a' (l ++ m).length c') (l ++ m) ∧ w.grownBy w' v.ownBlock ∧ ((Value.slice a' (l ++ m).length c').ownBlock = v.ownBlock ∨ (Value.slice a' (l ++ m).length c').ownBlock = some w.heap.size) := by
  obtain ⟨i, hq, z1, z2, z3⟩ : ∃ i, Try.prog.info? 3 = some i ∧ i.zero = some (.int .i64 0) ∧ i.size = 1 ∧ i.bytes = 8 := by
    have hi := info_int
    cases hq : Try.prog.info? 3 with
    | none => rw [hq] at hi; cases hi
    | some i => rw [hq] at hi; simp at hi; exact ⟨i, rfl, hi.1, hi.2.1, hi.2.2⟩
  cases a with
  | none =>
    obtain rfl : m = [] := by
      rcases hm with h | ⟨b, off, e, _⟩
      · exact h
      · cases e
    obtain ⟨base, cap, rfl, hle⟩ : ∃ base cap, v = .slice base l.length cap ∧ l.length ≤ cap := by
      rcases h.2 with ⟨e, h0⟩ | ⟨g, cap, cur, e, _, _, hle, _⟩
      · exact ⟨none, 0, by rw [e, h0], by omega⟩
      · exact ⟨_, cap, e, hle⟩
    refine ⟨base, cap, w, ?_, by simpa using h, ⟨rfl, rfl, rfl, Nat.le_refl _, fun _ _ _ => rfl⟩, .inl (by simp [Value.ownBlock])⟩
    have := run_append_nothing (P := Try.prog) w 24 24 24 3 i Try.underlying24 hq base l.length cap hle (.slice none 0 c) (by rw [z2]; exact Src.ofNil w Try.underlying24 c)
    simpa using this
  | some ad =>
    have hn : ∀ (j : Nat) (u : Value), (m.map (Value.int .i64))[j]? = some u → w.cell? (ad.add j) = some u := by
      rcases hm with rfl | ⟨b, off, e, _, hc⟩
      · intro j u hu; simp at hu
      · cases e; exact ints_news hc
    obtain ⟨v', w', hr, h2, h3, _, h5⟩ := run_append_own_at (P := Try.prog) w B 24 24 3 i (.int .i64 0) 1 8 Try.underlying24 hq z1 z2 z3 rfl (by decide) v l.length (l.map (Value.int .i64)) h ad m.length c (m.map (Value.int .i64)) (by simp) hn (by intro u hu; obtain ⟨x, _, rfl⟩ := List.mem_map.1 hu; rfl) (by unfold maxLen; omega) (by omega) hB
    have h2' : NewInts B w' v' (l ++ m) := by
      show World.ownsRow _ _ _ _ _ _ _
      simpa using h2
    obtain ⟨a', c', rfl, _⟩ := h2'.ints
    exact ⟨a', c', w', hr, h2', h3, h5⟩
theorem sizeV_tail {n0 : Int} {t : List Int} (h : 0 ≤ sizeV (n0 :: t)) (hp : 0 < n0) : 0 ≤ sizeV t ∧ n0 * sizeV t = sizeV (n0 :: t) := by
  have ho : arrOk (n0 :: t) (List.replicate (sizeV (n0 :: t)).toNat 0) = true := by
    unfold arrOk
    have e1 : (List.replicate (sizeV (n0 :: t)).toNat (0 : Int)).all ok = true := by
      rw [List.all_eq_true]
      intro x hx
      obtain rfl := (List.mem_replicate.1 hx).2
      decide
    rw [e1]
    simp
    omega
  obtain ⟨p0, p1, p2⟩ := tail_size ho hp
  refine ⟨p0, ?_⟩
  rw [p1]
  simp
  omega
theorem dim_bd {n0 : Int} {t : List Int} (h : 0 ≤ sizeV (n0 :: t)) : 0 ≤ n0 ∧ n0 ≤ 300 := by
  have := (sizeV_ok h).2.1
  rw [List.all_eq_true] at this
  have := this n0 (by simp)
  simpa [dimOk] using this
/-- What is taken, and what is left out, in numbers. -/
theorem take_nums {t e : List Int} {x : Int} (ho : arrOk t e = true) (hz : 0 ≤ sizeV (takeS x t e)) :
    (haveN x t e : Int) * sizeV ((vecS t e).drop 1) = ((haveN x t e * rowN (vecS t e) : Nat) : Int) ∧
    (((manyV x).toNat : Int) - (haveN x t e : Int)) * sizeV ((vecS t e).drop 1) = ((((manyV x).toNat - haveN x t e) * rowN (vecS t e) : Nat) : Int) ∧
    ((rowsN (vecS t e) : Int) - (haveN x t e : Int)) * sizeV ((vecS t e).drop 1) = (((rowsN (vecS t e) - haveN x t e) * rowN (vecS t e) : Nat) : Int) ∧
    haveN x t e * rowN (vecS t e) ≤ e.length ∧ ((manyV x).toNat - haveN x t e) * rowN (vecS t e) ≤ 300 ∧ (rowsN (vecS t e) - haveN x t e) * rowN (vecS t e) ≤ e.length ∧ (manyV x).toNat ≤ 300 ∧ haveN x t e ≤ (manyV x).toNat ∧ haveN x t e ≤ rowsN (vecS t e) ∧ -1 ≤ sizeV ((vecS t e).drop 1) ∧ sizeV ((vecS t e).drop 1) ≤ 300 := by
  obtain ⟨ov, hv0⟩ := vec_ok ho
  obtain ⟨e1, e2⟩ := rowsN_bd ov
  have eall := rows_all ov hv0
  have hm := many_nat x
  have eta := cons_eta hv0
  have hH : haveN x t e = min (manyV x).toNat (rowsN (vecS t e)) := rfl
  have hR : rowN (vecS t e) = (sizeV ((vecS t e).drop 1)).toNat := rfl
  have sb := sizeV_bd ((vecS t e).drop 1)
  unfold takeS at hz
  have hd := dim_bd hz
  have key : 0 ≤ sizeV ((vecS t e).drop 1) ∨ ((manyV x).toNat = 0 ∧ rowsN (vecS t e) = 0) := by
    by_cases h1 : 0 < manyV x
    · exact .inl (sizeV_tail hz h1).1
    · by_cases h2 : 0 < rowsN (vecS t e)
      · refine .inl ?_
        have hs := arrOk_shape ov
        rw [← eta] at hs
        exact (sizeV_tail hs (by omega)).1
      · exact .inr ⟨by omega, by omega⟩
  have hmz : (manyV x).toNat * rowN (vecS t e) ≤ 300 := by
    by_cases h1 : 0 < manyV x
    · obtain ⟨p0, p1⟩ := sizeV_tail hz h1
      have b := (sizeV_bd (manyV x :: (vecS t e).drop 1)).2
      have : (((manyV x).toNat * rowN (vecS t e) : Nat) : Int) ≤ 300 := by
        rw [Int.natCast_mul, ← hm, hR, Int.toNat_of_nonneg p0, p1]; exact b
      omega
    · have : (manyV x).toNat = 0 := by omega
      rw [this]; simp
  generalize rowsN (vecS t e) = N at *
  generalize haveN x t e = H at *
  generalize (manyV x).toNat = m at *
  have hH1 : H ≤ m := by rw [hH]; exact Nat.min_le_left _ _
  have hH2 : H ≤ N := by rw [hH]; exact Nat.min_le_right _ _
  have q1 : H * rowN (vecS t e) ≤ N * rowN (vecS t e) := Nat.mul_le_mul_right _ hH2
  have q2 : (m - H) * rowN (vecS t e) ≤ m * rowN (vecS t e) := Nat.mul_le_mul_right _ (Nat.sub_le _ _)
  have q3 : (N - H) * rowN (vecS t e) ≤ N * rowN (vecS t e) := Nat.mul_le_mul_right _ (Nat.sub_le _ _)
  refine ⟨?_, ?_, ?_, by omega, by omega, by omega, by omega, hH1, hH2, sb.1, sb.2⟩
  all_goals
    rcases key with k | ⟨k1, k2⟩
    · rw [Int.natCast_mul, hR, Int.toNat_of_nonneg k]
      try (congr 1; omega)
    · subst k1 k2
      obtain rfl : H = 0 := by omega
      simp
end Go.Proofs.Ythjjjnapcbkhjaa
namespace Go.Proofs.Ythjjjnapcbkhjaa
open Go.RowKit
set_option linter.unusedVariables false
set_option linter.unusedSimpArgs false
set_option maxRecDepth 20000 in
set_option maxHeartbeats 8000000 in
/-- Pick. -/
theorem pick_impl {s d t e : List Int} {w : World} {v u : Value} (h : ArrI w v s d) (k : ArrI w u t e) (hs : s.length ≤ 1048576) (hd : d.length ≤ 1048576) (ht : t.length ≤ 1048576) (he : e.length ≤ 1048576) :
    Calls Try.prog 17 #[v, u] w fun r w' => ∃ v', r = .returned (.tuple #[v', .int .i64 (pickR s d t e).1]) ∧ Arr w.heap.size w'.heap.size w' v' (pickR s d t e).2.1 (pickR s d t e).2.2 ∧ Below w.heap.size w w' := by
  have H : Hid (ArrI w v s d) := h
  have K : Hid (ArrI w u t e) := k
  obtain ⟨a, c, b, f, rfl, h1, h2, g1, g2⟩ := h
  obtain ⟨a', c', b', f', rfl, k1, k2, g3, g4⟩ := k
  have HOK : Hid (∀ (W : World) (o : Nat), Below w.heap.size w W → W.heap[o]? = some (.cells #[.slice a s.length c, .slice b d.length f, .slice a' t.length c', .slice b' e.length f'] 26 (0, 0)) → Calls Try.prog 46 #[.slice (some ⟨o, 0, none⟩) 2 2] W fun r w' => r = .returned (.bool (arrOk s d && arrOk t e)) ∧ Below W.heap.size W w') := fun W o hb ho => allOk2_impl (H.out.keep hb) (K.out.keep hb) hs hd ht he ho
  obtain ⟨x, hx⟩ : ∃ x, x = (pickR s d t e).1 := ⟨_, rfl⟩
  obtain ⟨S, hS⟩ : ∃ S, S = (pickR s d t e).2.1 := ⟨_, rfl⟩
  obtain ⟨D, hD⟩ : ∃ D, D = (pickR s d t e).2.2 := ⟨_, rfl⟩
  rw [← hx, ← hS, ← hD]
  have E1 : Hid (¬ (arrOk s d = true ∧ arrOk t e = true) → x = 1 ∧ S = [] ∧ D = []) := fun h => by
    rw [hx, hS, hD, pickR_bad h]; exact ⟨rfl, rfl, rfl⟩
  have I2 : Hid (Ints w b d) := h2
  have I1 : Hid (Ints w a s) := h1
  by_cases ho : arrOk s d = true ∧ arrOk t e = true
  · have hs3 : s.length ≤ 3 := (sizeV_ok (arrOk_shape ho.1)).1
    have ht3 : t.length ≤ 3 := (sizeV_ok (arrOk_shape ho.2)).1
    have hd3 : d.length ≤ 300 := by have := arrOk_len ho.1; omega
    have EP := pickR_told ho.1 ho.2
    have hoo : (arrOk s d && arrOk t e) = true := by rw [ho.1, ho.2]; rfl
    rw [hoo] at HOK
    rw [EP] at hx hS hD
    by_cases ht0 : t = []
    · have n1 : ((t.length : Int) == 0) = true := by simp [ht0]
      rw [if_pos (.inl ht0)] at hx hS hD
      subst hx hS hD
      clear EP E1 ho hoo ht0
      go_enter Try.func17, Try.ntmps17
      go_wp2_with fail
      refine (HOK.out _ _ (bAlloc (bAlloc (bAlloc (bAlloc (Below.refl _ _) _) _) _) _) (by exact (four5 w _ _ _ _).2.2.2)).mono ?_
      rintro r w1 ⟨rfl, hb⟩
      have q4 := four5 w (.cells #[.slice a s.length c, .slice b d.length f] 26) (.cells #[.slice a' t.length c', .slice b' e.length f'] 26) (.cells #[.slice none 0 0, .slice none 0 0] 26) (.cells #[.slice a s.length c, .slice b d.length f, .slice a' t.length c', .slice b' e.length f'] 26)
      have HB1 : Hid (Below w.heap.size w w1) := bTrans (bAlloc (bAlloc (bAlloc (bAlloc (Below.refl _ _) _) _) _) _) hb
      have X1 : Hid (Box w1 w.heap.size (.slice a s.length c) (.slice b d.length f) 26) := Box.keep q4.1 hb
      have Y1 : Hid (Box w1 (w.heap.size + 1) (.slice a' t.length c') (.slice b' e.length f') 26) := Box.keep q4.2.1 hb
      have R1 : Hid (Box w1 (w.heap.size + 1 + 1) (.slice none 0 0) (.slice none 0 0) 26) := Box.keep q4.2.2.1 hb
      have LT : Hid (w.heap.size + 1 + 1 < w1.heap.size) := R1.out.lt
      clear hb q4 HOK
      have x0 := X1.out.c0
      have z0 := Y1.out.c0
      have y0 := R1.out.c0
      have y1 := R1.out.c1
      have f0 : w1.frozen? ⟨w.heap.size + 1 + 1, 0, none⟩ = false := free_at R1.out 0
      have f1 : w1.frozen? ⟨w.heap.size + 1 + 1, 1, none⟩ = false := free_at R1.out 1
      have HR : Hid (((w1.setCell ⟨w.heap.size + 1 + 1, 0, none⟩ (.slice none 0 0)).setCell ⟨w.heap.size + 1 + 1, 1, none⟩ (.slice none 0 0)).heap[w.heap.size + 1 + 1]? = some (.cells #[.slice none 0 0, .slice none 0 0] 26 (0, 0))) := arr_stored R1.out
      go_wp2
      refine bodyPost_ret (results_arr_tmp Try.results17 _ _ (w.heap.size + 1 + 1) _ _ rfl HR.out) rfl ?_
      exact ⟨_, rfl, arr_zero _ _ _, below_setCell (below_setCell HB1.out (by omega) _ _) (by omega) _ _⟩
    · have n1 : ((t.length : Int) == 0) = false := by simpa using ht0
      by_cases hr : 4 < s.length + t.length
      · rw [if_pos (.inr hr)] at hx hS hD
        have hri : (3 : Int) < (s.length : Int) + (t.length : Int) - 1 := by omega
        subst hx hS hD
        clear EP E1 ho hoo ht0
        go_enter Try.func17, Try.ntmps17
        go_wp2_with fail
        refine (HOK.out _ _ (bAlloc (bAlloc (bAlloc (bAlloc (Below.refl _ _) _) _) _) _) (by exact (four5 w _ _ _ _).2.2.2)).mono ?_
        rintro r w1 ⟨rfl, hb⟩
        have q4 := four5 w (.cells #[.slice a s.length c, .slice b d.length f] 26) (.cells #[.slice a' t.length c', .slice b' e.length f'] 26) (.cells #[.slice none 0 0, .slice none 0 0] 26) (.cells #[.slice a s.length c, .slice b d.length f, .slice a' t.length c', .slice b' e.length f'] 26)
        have HB1 : Hid (Below w.heap.size w w1) := bTrans (bAlloc (bAlloc (bAlloc (bAlloc (Below.refl _ _) _) _) _) _) hb
        have X1 : Hid (Box w1 w.heap.size (.slice a s.length c) (.slice b d.length f) 26) := Box.keep q4.1 hb
        have Y1 : Hid (Box w1 (w.heap.size + 1) (.slice a' t.length c') (.slice b' e.length f') 26) := Box.keep q4.2.1 hb
        have R1 : Hid (Box w1 (w.heap.size + 1 + 1) (.slice none 0 0) (.slice none 0 0) 26) := Box.keep q4.2.2.1 hb
        have LT : Hid (w.heap.size + 1 + 1 < w1.heap.size) := R1.out.lt
        clear hb q4 HOK
        have x0 := X1.out.c0
        have z0 := Y1.out.c0
        have y0 := R1.out.c0
        have y1 := R1.out.c1
        have f0 : w1.frozen? ⟨w.heap.size + 1 + 1, 0, none⟩ = false := free_at R1.out 0
        have f1 : w1.frozen? ⟨w.heap.size + 1 + 1, 1, none⟩ = false := free_at R1.out 1
        have HR : Hid (((w1.setCell ⟨w.heap.size + 1 + 1, 0, none⟩ (.slice none 0 0)).setCell ⟨w.heap.size + 1 + 1, 1, none⟩ (.slice none 0 0)).heap[w.heap.size + 1 + 1]? = some (.cells #[.slice none 0 0, .slice none 0 0] 26 (0, 0))) := arr_stored R1.out
        go_wp2
        refine bodyPost_ret (results_arr_tmp Try.results17 _ _ (w.heap.size + 1 + 1) _ _ rfl HR.out) rfl ?_
        exact ⟨_, rfl, arr_zero _ _ _, below_setCell (below_setCell HB1.out (by omega) _ _) (by omega) _ _⟩
      · rw [if_neg (fun q => q.elim ht0 hr)] at hx hS hD
        have hri : ¬ (3 : Int) < (s.length : Int) + (t.length : Int) - 1 := by omega
        obtain ⟨e1, e2⟩ := rowsN5 ho.2
        obtain ⟨NN, hNN⟩ : ∃ N, N = rowsN t := ⟨_, rfl⟩
        rw [← hNN] at e1 e2
        have hn : NN ≤ 300 := e1
        obtain ⟨tl, ct, hra, hti⟩ := ints_from (M := 1) k1 g3 (by have := List.length_pos_iff.2 ht0; omega)
        simp only [show ((1 : Nat) : Int) = 1 from rfl] at hra
        obtain ⟨bY, oY, rfl, hbY, cY⟩ := k1.at (k := 0) (List.length_pos_iff.2 ht0)
        rw [Nat.add_zero, e2] at cY
        have CY : Hid (∀ W, Below w.heap.size w W → W.cell? ⟨bY, oY, none⟩ = some (.int .i64 (NN : Int))) := fun W h => (h.cell (p := ⟨bY, oY, none⟩) hbY).trans cY
        have hp0 : (0 : Int) < (t.length : Int) := by have := List.length_pos_iff.2 ht0; omega
        obtain ⟨t', ht'⟩ : ∃ t', t' = t.drop 1 := ⟨_, rfl⟩
        obtain ⟨SH, hSH⟩ : ∃ SH, SH = s ++ t' := ⟨_, rfl⟩
        have ESH : pickS s t = SH := by unfold pickS; rw [hSH, ht']
        have ht2 : t'.length ≤ 3 := by rw [ht']; simp; omega
        have hSL : SH.length ≤ 6 := by rw [hSH, List.length_append]; omega
        rw [ESH, e2] at hx hS hD
        have E5 : Hid (d.any (noRow (NN : Int)) = true → x = 5 ∧ S = [] ∧ D = []) := fun q => by
          rw [if_pos q] at hx hS hD; exact ⟨hx, hS, hD⟩
        have E6 : Hid (d.any (noRow (NN : Int)) = false → sizeV SH < 0 → x = 6 ∧ S = [] ∧ D = []) := fun q q2 => by
          rw [if_neg (by rw [q]; decide), if_pos q2] at hx hS hD; exact ⟨hx, hS, hD⟩
        have E0 : Hid (d.any (noRow (NN : Int)) = false → 0 ≤ sizeV SH → x = 0 ∧ S = SH ∧ D = pickD d t e) := fun q q2 => by
          rw [if_neg (by rw [q]; decide), if_neg (by omega)] at hx hS hD; exact ⟨hx, hS, hD⟩
        rw [← ht'] at hra hti
        have HCC : Hid (∀ (W : World) (o : Nat), Below w.heap.size w W → W.heap[o]? = some (.cells #[.slice a s.length c, .slice tl t'.length ct] 24 (0, 0)) → Calls Try.prog 48 #[.slice (some ⟨o, 0, none⟩) 2 2] W fun r w' => ∃ a' k', r = .returned (.slice a' SH.length k') ∧ NewInts W.heap.size w' (.slice a' SH.length k') SH ∧ Below W.heap.size W w') := fun W o hb ho => by
          rw [hSH]
          exact concat_impl (h1.keep hb) (hti.keep hb) (by omega) ho
        have HCH : Hid (d.any (noRow (NN : Int)) = false → 0 ≤ sizeV SH → ∀ (W : World) (o : Nat), Below w.heap.size w W → Box W w.heap.size (.slice a s.length c) (.slice b d.length f) 26 → W.cell? ⟨o, 0, none⟩ = some (.int .i64 (NN : Int)) → o < W.heap.size → Calls Try.prog 51 #[.agg #[.slice (some ⟨bY, oY, none⟩) t.length c', .slice b' e.length f'], .int .i64 (d.length : Int), .func (.func 52) #[] #[.pointer (some ⟨w.heap.size, 0, none⟩), .pointer (some ⟨o, 0, none⟩)]] W fun r w' => ∃ v', r = .returned v' ∧ Arr W.heap.size w'.heap.size w' v' ((d.length : Int) :: t') (pickD d t e) ∧ Below W.heap.size W w') := fun q q2 W o hb hg hc hl => by
          have hall := any_none.1 q
          rw [← e2] at hall
          have qq := chosen2_impl (s := t) (d := e) (w := W) (v := .agg #[.slice (some ⟨bY, oY, none⟩) t.length c', .slice b' e.length f']) (p := .pointer (some ⟨w.heap.size, 0, none⟩)) (q := .pointer (some ⟨o, 0, none⟩)) (f := 52) (n := d.length) (φ := fun k => (rowNo (t.getD 0 0) (d.getD k 0) : Int)) rfl (enters_of Try.func52 (by kernel_rfl) rfl) (K.out.keep hb) ho.2 ht0 (pick_size ho.1 ho.2 (by rw [ESH]; exact q2)) (fun W' k hk hb' => by
            obtain ⟨b1, o1, rfl, hb1, c1⟩ := h2.at hk
            have c1' : W'.cell? ⟨b1, o1 + k, none⟩ = some (.int .i64 (d.getD k 0)) := ((bTrans hb hb').cell (p := ⟨b1, o1 + k, none⟩) hb1).trans c1
            have := pick2_impl (hg.keep hb') c1' ((hb'.cell (p := ⟨o, 0, none⟩) hl).trans hc) hn (by omega) (by rw [← e2]; exact hall k hk)
            rw [← e2] at this
            exact this)
          rw [pick_chosen ho.2 ht0 hall, ← ht'] at qq
          exact qq
        clear EP E1 ho hoo ht0 hx hS hD e1 e2 hNN cY hti ht' ESH hSH h1 h2 k1 k2 g1 g2 g3 g4
        go_enter Try.func17, Try.ntmps17
        go_wp2_with fail
        refine (HOK.out _ _ (bAlloc (bAlloc (bAlloc (bAlloc (Below.refl _ _) _) _) _) _) (by exact (four5 w _ _ _ _).2.2.2)).mono ?_
        rintro r w1 ⟨rfl, hb⟩
        have q4 := four5 w (.cells #[.slice a s.length c, .slice b d.length f] 26) (.cells #[.slice (some ⟨bY, oY, none⟩) t.length c', .slice b' e.length f'] 26) (.cells #[.slice none 0 0, .slice none 0 0] 26) (.cells #[.slice a s.length c, .slice b d.length f, .slice (some ⟨bY, oY, none⟩) t.length c', .slice b' e.length f'] 26)
        have HB1 : Hid (Below w.heap.size w w1) := bTrans (bAlloc (bAlloc (bAlloc (bAlloc (Below.refl _ _) _) _) _) _) hb
        have X1 : Hid (Box w1 w.heap.size (.slice a s.length c) (.slice b d.length f) 26) := Box.keep q4.1 hb
        have Y1 : Hid (Box w1 (w.heap.size + 1) (.slice (some ⟨bY, oY, none⟩) t.length c') (.slice b' e.length f') 26) := Box.keep q4.2.1 hb
        have R1 : Hid (Box w1 (w.heap.size + 1 + 1) (.slice none 0 0) (.slice none 0 0) 26) := Box.keep q4.2.2.1 hb
        have LT : Hid (w.heap.size + 1 + 1 < w1.heap.size) := R1.out.lt
        clear hb q4 HOK
        have x0 := X1.out.c0
        have z0 := Y1.out.c0
        have cy := CY.out _ HB1.out
        go_wp2_with fail
        generalize hW : w1.alloc (.cells #[.int .i64 (NN : Int)] 3) = w2
        have hb : Below w1.heap.size w1 w2 := by rw [← hW]; exact bAlloc (Below.refl _ _) _
        have CN2 : Hid (w2.cell? ⟨w1.heap.size, 0, none⟩ = some (.int .i64 (NN : Int))) := by
          show _ = _
          rw [← hW]
          exact cell_at (heap_alloc_new w1 _) rfl
        have LN : Hid (w1.heap.size < w2.heap.size) := by show _ < _; rw [← hW]; simp
        have S22 : Hid (w2.heap.size ≤ w2.heap.size) := Nat.le_refl _
        have X2 : Hid (Box w2 w.heap.size (.slice a s.length c) (.slice b d.length f) 26) := X1.out.keep hb
        have Y2 : Hid (Box w2 (w.heap.size + 1) (.slice (some ⟨bY, oY, none⟩) t.length c') (.slice b' e.length f') 26) := Y1.out.keep hb
        have R2 : Hid (Box w2 (w.heap.size + 1 + 1) (.slice none 0 0) (.slice none 0 0) 26) := R1.out.keep hb
        have HB2 : Hid (Below w.heap.size w w2) := bTrans HB1.out hb
        clear hb hW x0 z0 cy X1 Y1 R1
        have x0 := X2.out.c0
        have z0 := Y2.out.c0
        have nx := World.new_ne w2 ⟨w.heap.size, 0, none⟩ x0
        have nz := World.new_ne w2 ⟨w.heap.size + 1, 0, none⟩ z0
        go_region_held3 (fun w' => w'.cell? ⟨w.heap.size, 0, none⟩ = some (.slice a s.length c) ∧ w'.cell? ⟨w.heap.size + 1, 0, none⟩ = some (.slice (some ⟨bY, oY, none⟩) t.length c'))
          (first | with_reducible exact ⟨u0, u1⟩ | with_reducible exact ⟨x0, z0⟩ | exact ⟨x0, z0⟩ | go_keep)
          ((go_at_call 48; refine (HCC.out _ _ (bTrans HB2.out (by repeat first | with_reducible exact Below.refl _ _ | with_reducible exact (Below.refl _ _).drew | with_reducible refine bAlloc ?_ _ | with_reducible refine Below.drew ?_)) (by exact heap_alloc_new w2 _)).mono ?_; rintro r w3 ⟨a3, c3, rfl, hn, hbb⟩; have hb : Below w2.heap.size w2 w3 := bTrans (by repeat first | with_reducible exact Below.refl _ _ | with_reducible exact (Below.refl _ _).drew | with_reducible refine bAlloc ?_ _ | with_reducible refine Below.drew ?_) hbb; have N3 : Hid (NewInts w2.heap.size w3 (.slice a3 SH.length c3) SH) := hn.mono (by simp); have u0 := (X2.out.keep hb).c0; have u1 := (Y2.out.keep hb).c0; have B3 : Hid (Below w2.heap.size w2 w3) := hb; clear hn hbb hb))
        have hb := B3.out
        have X3 : Hid (Box w3 w.heap.size (.slice a s.length c) (.slice b d.length f) 26) := X2.out.keep hb
        have Y3 : Hid (Box w3 (w.heap.size + 1) (.slice (some ⟨bY, oY, none⟩) t.length c') (.slice b' e.length f') 26) := Y2.out.keep hb
        have R3 : Hid (Box w3 (w.heap.size + 1 + 1) (.slice none 0 0) (.slice none 0 0) 26) := R2.out.keep hb
        have HB3 : Hid (Below w.heap.size w w3) := bTrans HB2.out hb
        have CN3 : Hid (w3.cell? ⟨w1.heap.size, 0, none⟩ = some (.int .i64 (NN : Int))) := (hb.cell (p := ⟨w1.heap.size, 0, none⟩) (by show w1.heap.size < _; have := LN.out; have := S22.out; omega)).trans CN2.out
        have S23 : Hid (w2.heap.size ≤ w3.heap.size) := Nat.le_trans S22.out hb.size
        clear hb x0 z0 nx nz u0 u1 X2 Y2 R2 HB2 B3 CN2 HCC
        have x1 := X3.out.c1
        have HCF : Hid (Calls Try.prog 49 #[.slice b d.length f, .func (.func 47) #[] #[.pointer (some ⟨w1.heap.size, 0, none⟩)]] w3 fun r w' => r = .returned (.bool (d.any (noRow (NN : Int)))) ∧ w' = w3) := containsBy_impl (enters_of Try.func47 (by kernel_rfl) rfl) (I2.out.keep HB3.out) (by omega) (fun x => pick1_impl x CN3.out hn)
        go_wp2_with fail
        refine (HCF.out).mono ?_
        rintro r w4 ⟨rfl, hw⟩
        have hw2 := hw.symm
        clear hw
        subst hw2
        clear HCF x1
        cases hany : d.any (noRow (NN : Int)) with
        | true =>
          obtain ⟨rfl, rfl, rfl⟩ := E5.out hany
          clear E5 E6 E0 hany HCH
          have y0 := R3.out.c0
          have y1 := R3.out.c1
          have f0 : w3.frozen? ⟨w.heap.size + 1 + 1, 0, none⟩ = false := free_at R3.out 0
          have f1 : w3.frozen? ⟨w.heap.size + 1 + 1, 1, none⟩ = false := free_at R3.out 1
          have HR : Hid (((w3.setCell ⟨w.heap.size + 1 + 1, 0, none⟩ (.slice none 0 0)).setCell ⟨w.heap.size + 1 + 1, 1, none⟩ (.slice none 0 0)).heap[w.heap.size + 1 + 1]? = some (.cells #[.slice none 0 0, .slice none 0 0] 26 (0, 0))) := arr_stored R3.out
          go_wp2
          refine bodyPost_ret (results_arr_tmp Try.results17 _ _ (w.heap.size + 1 + 1) _ _ rfl HR.out) rfl ?_
          exact ⟨_, rfl, arr_zero _ _ _, below_setCell (below_setCell HB3.out (by omega) _ _) (by omega) _ _⟩
        | false =>
          have EA : Hid (d.any (noRow (NN : Int)) = false) := hany
          clear hany
          obtain ⟨_, _, ev, i3⟩ := N3.out.ints
          cases ev
          have HSO : Hid (Calls Try.prog 50 #[.slice a3 SH.length c3] w3 fun r w' => r = .returned (.bool (decide (0 ≤ sizeV SH))) ∧ Below w3.heap.size w3 w') := ok_impl c3 i3
          clear i3
          go_wp2_with fail
          refine (HSO.out).mono ?_
          rintro r w4 ⟨rfl, hb⟩
          have X4 : Hid (Box w4 w.heap.size (.slice a s.length c) (.slice b d.length f) 26) := X3.out.keep hb
          have Y4 : Hid (Box w4 (w.heap.size + 1) (.slice (some ⟨bY, oY, none⟩) t.length c') (.slice b' e.length f') 26) := Y3.out.keep hb
          have R4 : Hid (Box w4 (w.heap.size + 1 + 1) (.slice none 0 0) (.slice none 0 0) 26) := R3.out.keep hb
          have HB4 : Hid (Below w.heap.size w w4) := bTrans HB3.out hb
          have CN4 : Hid (w4.cell? ⟨w1.heap.size, 0, none⟩ = some (.int .i64 (NN : Int))) := (hb.cell (p := ⟨w1.heap.size, 0, none⟩) (by show w1.heap.size < _; have := LN.out; have := S23.out; omega)).trans CN3.out
          have S24 : Hid (w2.heap.size ≤ w4.heap.size) := Nat.le_trans S23.out hb.size
          have P4 : Hid (Piece w2.heap.size w3.heap.size w4 (.slice a3 SH.length c3) SH) := N3.out.piece.keep hb
          have S34 : Hid (w3.heap.size ≤ w4.heap.size) := hb.size
          clear hb X3 Y3 R3 HB3 HSO N3 CN3
          by_cases hz : 0 ≤ sizeV SH
          · obtain ⟨rfl, eS, eD⟩ := E0.out EA.out hz
            have hdz : decide (0 ≤ sizeV SH) = true := by simpa using hz
            rw [hdz]
            have HC4 := HCH.out EA.out hz w4 w1.heap.size HB4.out X4.out CN4.out (by have := LN.out; have := S24.out; omega)
            have HC5 : Hid (Calls _ _ _ _ _) := HC4
            clear HC4 E5 E6 E0 hdz hz HCH
            have y0 := Y4.out.c0
            have y1 := Y4.out.c1
            have x1 := X4.out.c1
            go_wp2_with fail
            refine (HC5.out).mono ?_
            rintro r w5 ⟨v5, rfl, ha, hb⟩
            obtain ⟨a5, k5, b5, f5, rfl, _, _, _, _⟩ := ha.arrI
            obtain ⟨_, _, ev, q1, q2, q3⟩ := ha
            cases ev
            subst eS
            rw [← eD] at q2
            rw [← eD]
            have P5 : Hid (Piece w2.heap.size w3.heap.size w5 (.slice a3 S.length c3) S) := P4.out.keep hb
            have Q5 : Hid (Piece w4.heap.size w5.heap.size w5 (.slice b5 D.length f5) D) := q2
            have HA5 : Hid (Arr w1.heap.size w5.heap.size w5 (.agg #[.slice a3 S.length c3, .slice b5 D.length f5]) S D) := ⟨_, _, rfl, P5.out.mono (by have := LN.out; omega) (by have := S34.out; have := hb.size; omega), Q5.out.mono (by have := LN.out; have := S24.out; omega) (Nat.le_refl _), P5.out.apart Q5.out (.inl S34.out)⟩
            have R5 : Hid (Box w5 (w.heap.size + 1 + 1) (.slice none 0 0) (.slice none 0 0) 26) := R4.out.keep hb
            have HB5 : Hid (Below w.heap.size w w5) := bTrans HB4.out hb
            clear hb q1 q2 q3 HC5 y0 y1 x1 eD X4 Y4 R4 P4 HB4 CN4
            have R6 : Hid (Box (w5.alloc (.cells #[.slice a5 (t'.length + 1) k5, .slice b5 D.length f5] 26)) (w.heap.size + 1 + 1) (.slice none 0 0) (.slice none 0 0) 26) := R5.out.keep (bAlloc (Below.refl _ _) _)
            have HB6 : Hid (Below w.heap.size w (w5.alloc (.cells #[.slice a5 (t'.length + 1) k5, .slice b5 D.length f5] 26))) := bAlloc HB5.out _
            have HA6 : Hid (Arr w1.heap.size (w5.alloc (.cells #[.slice a5 (t'.length + 1) k5, .slice b5 D.length f5] 26)).heap.size (w5.alloc (.cells #[.slice a5 (t'.length + 1) k5, .slice b5 D.length f5] 26)) (.agg #[.slice a3 S.length c3, .slice b5 D.length f5]) S D) := (HA5.out.keep (bAlloc (Below.refl _ _) _)).mono (Nat.le_refl _) (by simp)
            have G6 : Hid (Box (w5.alloc (.cells #[.slice a5 (t'.length + 1) k5, .slice b5 D.length f5] 26)) w5.heap.size (.slice a5 (t'.length + 1) k5) (.slice b5 D.length f5) 26) := box_new w5 _ _ _
            have g1 := G6.out.c1
            have y0 := R6.out.c0
            have y1 := R6.out.c1
            have f0 : (w5.alloc (.cells #[.slice a5 (t'.length + 1) k5, .slice b5 D.length f5] 26)).frozen? ⟨w.heap.size + 1 + 1, 0, none⟩ = false := free_at R6.out 0
            have f1 : (w5.alloc (.cells #[.slice a5 (t'.length + 1) k5, .slice b5 D.length f5] 26)).frozen? ⟨w.heap.size + 1 + 1, 1, none⟩ = false := free_at R6.out 1
            have HR : Hid ((((w5.alloc (.cells #[.slice a5 (t'.length + 1) k5, .slice b5 D.length f5] 26)).setCell ⟨w.heap.size + 1 + 1, 0, none⟩ (.slice a3 S.length c3)).setCell ⟨w.heap.size + 1 + 1, 1, none⟩ (.slice b5 D.length f5)).heap[w.heap.size + 1 + 1]? = some (.cells #[.slice a3 S.length c3, .slice b5 D.length f5] 26 (0, 0))) := arr_stored R6.out
            go_wp2
            refine bodyPost_ret (results_arr_tmp Try.results17 _ _ (w.heap.size + 1 + 1) _ _ rfl HR.out) rfl ?_
            refine ⟨_, rfl, ?_, below_setCell (below_setCell HB6.out (by omega) _ _) (by omega) _ _⟩
            have L := LT.out
            exact ((HA6.out.setCell L _ _).setCell L _ _).mono (by omega) (by simp [size_setCell])
          · obtain ⟨rfl, rfl, rfl⟩ := E6.out EA.out (by omega)
            have hdz : decide (0 ≤ sizeV SH) = false := by simpa using hz
            rw [hdz]
            clear E5 E6 E0 hdz HCH
            have y0 := R4.out.c0
            have y1 := R4.out.c1
            have f0 : w4.frozen? ⟨w.heap.size + 1 + 1, 0, none⟩ = false := free_at R4.out 0
            have f1 : w4.frozen? ⟨w.heap.size + 1 + 1, 1, none⟩ = false := free_at R4.out 1
            have HR : Hid (((w4.setCell ⟨w.heap.size + 1 + 1, 0, none⟩ (.slice none 0 0)).setCell ⟨w.heap.size + 1 + 1, 1, none⟩ (.slice none 0 0)).heap[w.heap.size + 1 + 1]? = some (.cells #[.slice none 0 0, .slice none 0 0] 26 (0, 0))) := arr_stored R4.out
            go_wp2
            refine bodyPost_ret (results_arr_tmp Try.results17 _ _ (w.heap.size + 1 + 1) _ _ rfl HR.out) rfl ?_
            exact ⟨_, rfl, arr_zero _ _ _, below_setCell (below_setCell HB4.out (by omega) _ _) (by omega) _ _⟩
  · obtain ⟨rfl, rfl, rfl⟩ := E1.out ho
    have hoo : (arrOk s d && arrOk t e) = false := by
      cases h1 : arrOk s d <;> cases h2 : arrOk t e <;> simp_all
    rw [hoo] at HOK
    clear E1 ho hoo hx hS hD
    go_enter Try.func17, Try.ntmps17
    go_wp2_with fail
    refine (HOK.out _ _ (bAlloc (bAlloc (bAlloc (bAlloc (Below.refl _ _) _) _) _) _) (by exact (four5 w _ _ _ _).2.2.2)).mono ?_
    rintro r w1 ⟨rfl, hb⟩
    have q4 := four5 w (.cells #[.slice a s.length c, .slice b d.length f] 26) (.cells #[.slice a' t.length c', .slice b' e.length f'] 26) (.cells #[.slice none 0 0, .slice none 0 0] 26) (.cells #[.slice a s.length c, .slice b d.length f, .slice a' t.length c', .slice b' e.length f'] 26)
    have HB1 : Hid (Below w.heap.size w w1) := bTrans (bAlloc (bAlloc (bAlloc (bAlloc (Below.refl _ _) _) _) _) _) hb
    have X1 : Hid (Box w1 w.heap.size (.slice a s.length c) (.slice b d.length f) 26) := Box.keep q4.1 hb
    have Y1 : Hid (Box w1 (w.heap.size + 1) (.slice a' t.length c') (.slice b' e.length f') 26) := Box.keep q4.2.1 hb
    have R1 : Hid (Box w1 (w.heap.size + 1 + 1) (.slice none 0 0) (.slice none 0 0) 26) := Box.keep q4.2.2.1 hb
    have LT : Hid (w.heap.size + 1 + 1 < w1.heap.size) := R1.out.lt
    clear hb q4 HOK
    have x0 := X1.out.c0
    have z0 := Y1.out.c0
    have y0 := R1.out.c0
    have y1 := R1.out.c1
    have f0 : w1.frozen? ⟨w.heap.size + 1 + 1, 0, none⟩ = false := free_at R1.out 0
    have f1 : w1.frozen? ⟨w.heap.size + 1 + 1, 1, none⟩ = false := free_at R1.out 1
    have HR : Hid (((w1.setCell ⟨w.heap.size + 1 + 1, 0, none⟩ (.slice none 0 0)).setCell ⟨w.heap.size + 1 + 1, 1, none⟩ (.slice none 0 0)).heap[w.heap.size + 1 + 1]? = some (.cells #[.slice none 0 0, .slice none 0 0] 26 (0, 0))) := arr_stored R1.out
    go_wp2
    refine bodyPost_ret (results_arr_tmp Try.results17 _ _ (w.heap.size + 1 + 1) _ _ rfl HR.out) rfl ?_
    exact ⟨_, rfl, arr_zero _ _ _, below_setCell (below_setCell HB1.out (by omega) _ _) (by omega) _ _⟩
end Go.Proofs.Ythjjjnapcbkhjaa
