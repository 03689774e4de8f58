/-
  Several texts, one behind the other: ImplShape, InnerN, CutI.
-/
import Derived.Test.YtnkacfgbkfkhdaaGreatY15
import Derived.Test.YtnkacfgbkfkhdaaGreatY12
import Derived.Test.YtnkacfgbkfkhdaaGreatY5
import Derived.Test.YtnkacfgbkfkhdaaGreatY3
import Derived.Test.YtnkacfgbkfkhdaaGreatY6
import Derived.Test.YtnkacfgbkfkhdaaGreatY7
import Derived.Laws.CopyOwn
namespace Go.Proofs.YtnkacfgbkfkhdaaGreat
open Go.RowKit
set_option linter.unusedVariables false
theorem sizeV_0 : sizeV [] = 1 := by simp [sizeV, prodV]
theorem sizeV_1 (x : Int) : sizeV [x] = if 0 ≤ x ∧ x ≤ 300 then (if 300 < x then -1 else x) else -1 := by simp [sizeV, dimOk, prodV]
theorem sizeV_2 (x y : Int) : sizeV [x, y] = if (0 ≤ x ∧ x ≤ 300) ∧ 0 ≤ y ∧ y ≤ 300 then (if 300 < x * y then -1 else x * y) else -1 := by simp [sizeV, dimOk, prodV]
theorem sizeV_3 (x y z : Int) : sizeV [x, y, z] = if (0 ≤ x ∧ x ≤ 300) ∧ (0 ≤ y ∧ y ≤ 300) ∧ 0 ≤ z ∧ z ≤ 300 then (if 300 < x * y * z then -1 else x * y * z) else -1 := by simp [sizeV, dimOk, prodV]
theorem dim3 (x : Int) : x < 0 ∨ (0 ≤ x ∧ 300 < x) ∨ (0 ≤ x ∧ x ≤ 300) := by omega
/-- The numbers of a shape by value. -/
def Ext (l : List Int) (n : Nat) (x y z : Int) : Prop := n = l.length ∧ x = l.getD 0 0 ∧ y = l.getD 1 0 ∧ z = l.getD 2 0
theorem ext_bad {l : List Int} {a : Option Addr} {w : World} {c : Nat} (hs : sizeV l < 0)
    (h : Calls Tryz.prog 50 #[.slice a l.length c] w fun e w' => e = .returned (.tuple #[.agg #[.int .i64 0, .int .i64 0, .int .i64 0, .int .i64 0], .bool false]) ∧ Below w.heap.size w w') :
    Calls Tryz.prog 50 #[.slice a l.length c] w fun e w' => ∃ (n : Nat) (x y z : Int), e = .returned (.tuple #[.agg #[.int .i64 n, .int .i64 x, .int .i64 y, .int .i64 z], .bool (decide (0 ≤ sizeV l))]) ∧ (0 ≤ sizeV l → Ext l n x y z) ∧ Below w.heap.size w w' := by
  refine h.mono ?_
  rintro e w' ⟨rfl, hb⟩
  exact ⟨0, 0, 0, 0, by rw [show decide (0 ≤ sizeV l) = false by simp; omega]; rfl, fun h => by omega, hb⟩
theorem ext_good {l : List Int} {a : Option Addr} {w : World} {c n : Nat} {x y z : Int} (hs : 0 ≤ sizeV l) (he : Ext l n x y z)
    (h : Calls Tryz.prog 50 #[.slice a l.length c] w fun e w' => e = .returned (.tuple #[.agg #[.int .i64 n, .int .i64 x, .int .i64 y, .int .i64 z], .bool true]) ∧ Below w.heap.size w w') :
    Calls Tryz.prog 50 #[.slice a l.length c] w fun e w' => ∃ (n : Nat) (x y z : Int), e = .returned (.tuple #[.agg #[.int .i64 n, .int .i64 x, .int .i64 y, .int .i64 z], .bool (decide (0 ≤ sizeV l))]) ∧ (0 ≤ sizeV l → Ext l n x y z) ∧ Below w.heap.size w w' := by
  refine h.mono ?_
  rintro e w' ⟨rfl, hb⟩
  exact ⟨n, x, y, z, by rw [show decide (0 ≤ sizeV l) = true by simpa using hs], fun _ => he, hb⟩
/-- A list as a shape by value. -/
theorem ext_impl {l : List Int} {a : Option Addr} {w : World} (c : Nat) (h1 : Ints w a l) :
    Calls Tryz.prog 50 #[.slice a l.length c] w fun e w' => ∃ (n : Nat) (x y z : Int), e = .returned (.tuple #[.agg #[.int .i64 n, .int .i64 x, .int .i64 y, .int .i64 z], .bool (decide (0 ≤ sizeV l))]) ∧ (0 ≤ sizeV l → Ext l n x y z) ∧ Below w.heap.size w w' := by
  by_cases hl : 3 < l.length
  · exact ext_bad (by unfold sizeV; rw [if_pos hl]; decide) (ext_long l a c w hl)
  · rcases len3 (by omega : l.length ≤ 3) with rfl | ⟨x, rfl⟩ | ⟨x, y, rfl⟩ | ⟨x, y, z, rfl⟩
    · exact ext_good (n := 0) (x := 0) (y := 0) (z := 0) (by rw [sizeV_0]; decide) ⟨rfl, rfl, rfl, rfl⟩ (ext_0_ok a c w h1)
    · rcases dim3 x with hb | ⟨hb0, hb⟩ | ⟨x0, x1⟩
      · exact ext_bad (by rw [sizeV_1, if_neg (by omega)]; decide) (ext_1_neg0 x a c w h1  hb)
      · exact ext_bad (by rw [sizeV_1, if_neg (by omega)]; decide) (ext_1_great0 x a c w h1  hb0 hb)
      exact ext_good (n := 1) (x := x) (y := 0) (z := 0) (by rw [sizeV_1, if_pos (by omega), if_neg (by omega)]; exact x0) ⟨rfl, rfl, rfl, rfl⟩ (ext_1_ok x a c w h1 x0 x1)
    · rcases dim3 x with hb | ⟨hb0, hb⟩ | ⟨x0, x1⟩
      · exact ext_bad (by rw [sizeV_2, if_neg (by omega)]; decide) (ext_2_neg0 x y a c w h1  hb)
      · exact ext_bad (by rw [sizeV_2, if_neg (by omega)]; decide) (ext_2_great0 x y a c w h1  hb0 hb)
      rcases dim3 y with hb | ⟨hb0, hb⟩ | ⟨y0, y1⟩
      · exact ext_bad (by rw [sizeV_2, if_neg (by omega)]; decide) (ext_2_neg1 x y a c w h1 x0 x1 hb)
      · exact ext_bad (by rw [sizeV_2, if_neg (by omega)]; decide) (ext_2_great1 x y a c w h1 x0 x1 hb0 hb)
      by_cases hp : 300 < x * y
      · exact ext_bad (by rw [sizeV_2, if_pos (by omega), if_pos hp]; decide) (ext_2_much x y a c w h1 x0 x1 y0 y1 hp)
      exact ext_good (n := 2) (x := x) (y := y) (z := 0) (by rw [sizeV_2, if_pos (by omega), if_neg (by omega)]; exact Int.mul_nonneg x0 y0) ⟨rfl, rfl, rfl, rfl⟩ (ext_2_ok x y a c w h1 x0 x1 y0 y1 (by omega))
    · rcases dim3 x with hb | ⟨hb0, hb⟩ | ⟨x0, x1⟩
      · exact ext_bad (by rw [sizeV_3, if_neg (by omega)]; decide) (ext_3_neg0 x y z a c w h1  hb)
      · exact ext_bad (by rw [sizeV_3, if_neg (by omega)]; decide) (ext_3_great0 x y z a c w h1  hb0 hb)
      rcases dim3 y with hb | ⟨hb0, hb⟩ | ⟨y0, y1⟩
      · exact ext_bad (by rw [sizeV_3, if_neg (by omega)]; decide) (ext_3_neg1 x y z a c w h1 x0 x1 hb)
      · exact ext_bad (by rw [sizeV_3, if_neg (by omega)]; decide) (ext_3_great1 x y z a c w h1 x0 x1 hb0 hb)
      rcases dim3 z with hb | ⟨hb0, hb⟩ | ⟨z0, z1⟩
      · exact ext_bad (by rw [sizeV_3, if_neg (by omega)]; decide) (ext_3_neg2 x y z a c w h1 x0 x1 y0 y1 hb)
      · exact ext_bad (by rw [sizeV_3, if_neg (by omega)]; decide) (ext_3_great2 x y z a c w h1 x0 x1 y0 y1 hb0 hb)
      by_cases hp : 300 < x * y * z
      · exact ext_bad (by rw [sizeV_3, if_pos (by omega), if_pos hp]; decide) (ext_3_much x y z a c w h1 x0 x1 y0 y1 z0 z1 hp)
      exact ext_good (n := 3) (x := x) (y := y) (z := z) (by rw [sizeV_3, if_pos (by omega), if_neg (by omega)]; exact Int.mul_nonneg (Int.mul_nonneg x0 y0) z0) ⟨rfl, rfl, rfl, rfl⟩ (ext_3_ok x y z a c w h1 x0 x1 y0 y1 z0 z1 (by omega))
/-- Its size. -/
theorem size_ext {l : List Int} {n : Nat} {x y z : Int} (hs : 0 ≤ sizeV l) (he : Ext l n x y z) (w : World) :
    Calls Tryz.prog 71 #[.agg #[.int .i64 n, .int .i64 x, .int .i64 y, .int .i64 z]] w fun e w' => e = .returned (.int .i64 (sizeV l)) ∧ ∃ o, w' = w.alloc o := by
  obtain ⟨rfl, rfl, rfl, rfl⟩ := he
  obtain ⟨k1, k2, k3, k4⟩ := sizeV_ok hs
  rw [k4]
  rcases len3 k1 with rfl | ⟨x, rfl⟩ | ⟨x, y, rfl⟩ | ⟨x, y, z, rfl⟩
  · exact (size_0_ext w).mono fun e w' h => ⟨h.1, _, h.2⟩
  · simp only [List.all_cons, List.all_nil, Bool.and_true] at k2
    have dx := dimOk_bd k2
    rw [prod1]
    exact (size_1_ext x w dx.1 dx.2).mono fun e w' h => ⟨h.1, _, h.2⟩
  · simp only [List.all_cons, List.all_nil, Bool.and_true, Bool.and_eq_true] at k2
    have dx := dimOk_bd k2.1
    have dy := dimOk_bd k2.2
    rw [prod2]
    exact (size_2_ext x y w dx.1 dx.2 dy.1 dy.2).mono fun e w' h => ⟨h.1, _, h.2⟩
  · simp only [List.all_cons, List.all_nil, Bool.and_true, Bool.and_eq_true] at k2
    have dx := dimOk_bd k2.1
    have dy := dimOk_bd k2.2.1
    have dz := dimOk_bd k2.2.2
    rw [prod3]
    exact (size_3_ext x y z w dx.1 dx.2 dy.1 dy.2 dz.1 dz.2).mono fun e w' h => ⟨h.1, _, h.2⟩
theorem sizeV_neg {l : List Int} (h : ¬ 0 ≤ sizeV l) : sizeV l = -1 := by have := sizeV_bd l; omega
set_option maxRecDepth 20000 in
set_option maxHeartbeats 1000000 in
/-- SizeOf. -/
theorem size_impl {l : List Int} {a : Option Addr} {w : World} (c : Nat) (h1 : Ints w a l) :
    Calls Tryz.prog 41 #[.slice a l.length c] w fun e w' => e = .returned (.int .i64 (sizeV l)) ∧ Below w.heap.size w w' := by
  have H1 : Hid (Ints w a l) := h1
  clear h1
  by_cases hs : 0 ≤ sizeV l
  · have hs' : decide (0 ≤ sizeV l) = true := by simpa using hs
    have HS : Hid (0 ≤ sizeV l) := hs
    clear hs
    go_enter Tryz.func41, Tryz.ntmps41
    go_wp2_with fail
    refine (ext_impl _ H1.out).mono ?_
    rintro e w1 ⟨n, x, y, z, rfl, he, hb⟩
    have HE : Hid (Ext l n x y z) := he HS.out
    have HB : Hid (Below w.heap.size w w1) := hb
    clear he hb
    go_wp2_with fail
    refine (size_ext HS.out HE.out _).mono ?_
    rintro e w2 ⟨rfl, o, hw⟩
    subst w2
    go_wp2
    go_ret
    exact ⟨rfl, bAlloc (bAlloc HB.out _) _⟩
  · have hs' : decide (0 ≤ sizeV l) = false := by simpa using hs
    have HV : Hid (sizeV l = -1) := sizeV_neg hs
    clear hs
    go_enter Tryz.func41, Tryz.ntmps41
    go_wp2_with fail
    refine (ext_impl _ H1.out).mono ?_
    rintro e w1 ⟨n, x, y, z, rfl, he, hb⟩
    have HB : Hid (Below w.heap.size w w1) := hb
    clear he hb
    go_wp2
    go_ret
    exact ⟨ret_num HV.out.symm, bAlloc HB.out _⟩
set_option maxRecDepth 20000 in
set_option maxHeartbeats 1000000 in
/-- ShapeOk. -/
theorem ok_impl {l : List Int} {a : Option Addr} {w : World} (c : Nat) (h1 : Ints w a l) :
    Calls Tryz.prog 22 #[.slice a l.length c] w fun e w' => e = .returned (.bool (decide (0 ≤ sizeV l))) ∧ Below w.heap.size w w' := by
  have H1 : Hid (Ints w a l) := h1
  clear h1
  generalize hq : decide (0 ≤ sizeV l) = q
  have HQ : Hid (decide (0 ≤ sizeV l) = q) := hq
  clear hq
  go_enter Tryz.func22, Tryz.ntmps22
  go_wp2_with fail
  refine (ext_impl _ H1.out).mono ?_
  rintro e w1 ⟨n, x, y, z, rfl, he, hb⟩
  have HB : Hid (Below w.heap.size w w1) := hb
  clear he hb
  rw [HQ.out]
  go_wp2
  go_ret
  exact ⟨rfl, bAlloc HB.out _⟩
/-- No index where there is no place. -/
theorem idx_out {l : List Int} {n : Nat} {x y z : Int} (hs : 0 ≤ sizeV l) (he : Ext l n x y z) (p : Int) (hp : p < 0 ∨ sizeV l ≤ p) (w : World) :
    Calls Tryz.prog 73 #[.agg #[.int .i64 n, .int .i64 x, .int .i64 y, .int .i64 z], .int .i64 p] w fun e w' => e = .returned (.tuple #[.agg #[.int .i64 0, .int .i64 0, .int .i64 0], .bool false]) ∧ Below w.heap.size w w' := by
  obtain ⟨rfl, rfl, rfl, rfl⟩ := he
  obtain ⟨k1, k2, k3, k4⟩ := sizeV_ok hs
  rw [k4] at hp
  by_cases h0 : p < 0
  · rcases len3 k1 with rfl | ⟨x, rfl⟩ | ⟨x, y, rfl⟩ | ⟨x, y, z, rfl⟩
    · exact (idx_0_neg p w h0).mono fun e w' ⟨h, o0, o1, o2, hw⟩ => ⟨h, hw ▸ bAlloc (bAlloc (bAlloc (Below.refl _ _) _) _) _⟩
    · exact (idx_1_neg x p w h0).mono fun e w' ⟨h, o0, o1, o2, hw⟩ => ⟨h, hw ▸ bAlloc (bAlloc (bAlloc (Below.refl _ _) _) _) _⟩
    · exact (idx_2_neg x y p w h0).mono fun e w' ⟨h, o0, o1, o2, hw⟩ => ⟨h, hw ▸ bAlloc (bAlloc (bAlloc (Below.refl _ _) _) _) _⟩
    · exact (idx_3_neg x y z p w h0).mono fun e w' ⟨h, o0, o1, o2, hw⟩ => ⟨h, hw ▸ bAlloc (bAlloc (bAlloc (Below.refl _ _) _) _) _⟩
  · have q1 : 0 ≤ p := by omega
    have q2 : prodV l ≤ p := by omega
    rcases len3 k1 with rfl | ⟨x, rfl⟩ | ⟨x, y, rfl⟩ | ⟨x, y, z, rfl⟩
    · exact (idx_0_much p w q1 q2).mono fun e w' ⟨h, o0, o1, o2, o3, hw⟩ => ⟨h, hw ▸ bAlloc (bAlloc (bAlloc (bAlloc (Below.refl _ _) _) _) _) _⟩
    · simp only [List.all_cons, List.all_nil, Bool.and_true] at k2
      have dx := dimOk_bd k2
      rw [prod1] at q2
      exact (idx_1_much x p w dx.1 dx.2 q1 q2).mono fun e w' ⟨h, o0, o1, o2, o3, hw⟩ => ⟨h, hw ▸ bAlloc (bAlloc (bAlloc (bAlloc (Below.refl _ _) _) _) _) _⟩
    · simp only [List.all_cons, List.all_nil, Bool.and_true, Bool.and_eq_true] at k2
      have dx := dimOk_bd k2.1
      have dy := dimOk_bd k2.2
      rw [prod2] at q2
      exact (idx_2_much x y p w dx.1 dx.2 dy.1 dy.2 q1 q2).mono fun e w' ⟨h, o0, o1, o2, o3, hw⟩ => ⟨h, hw ▸ bAlloc (bAlloc (bAlloc (bAlloc (Below.refl _ _) _) _) _) _⟩
    · simp only [List.all_cons, List.all_nil, Bool.and_true, Bool.and_eq_true] at k2
      have dx := dimOk_bd k2.1
      have dy := dimOk_bd k2.2.1
      have dz := dimOk_bd k2.2.2
      rw [prod3] at q2
      exact (idx_3_much x y z p w dx.1 dx.2 dy.1 dy.2 dz.1 dz.2 q1 q2).mono fun e w' ⟨h, o0, o1, o2, o3, hw⟩ => ⟨h, hw ▸ bAlloc (bAlloc (bAlloc (bAlloc (Below.refl _ _) _) _) _) _⟩
theorem newInts_nil (B : Nat) (w : World) : NewInts B w (.slice none 0 0) [] := ⟨rfl, .inl ⟨rfl, rfl⟩⟩
set_option maxRecDepth 20000 in
set_option maxHeartbeats 1000000 in
theorem index_bad_impl {s : List Int} {a : Option Addr} {w : World} (p : Int) (c : Nat) (h1 : Ints w a s) (hb : sizeV s < 0 ∨ p < 0 ∨ sizeV s - 1 < p) :
    Calls Tryz.prog 53 #[.slice a s.length c, .int .i64 p] w fun e w' => ∃ v, e = .returned v ∧ NewInts w.heap.size w' v [] ∧ Below w.heap.size w w' := by
  have H1 : Hid (Ints w a s) := h1
  clear h1
  by_cases hs : 0 ≤ sizeV s
  · have hs' : decide (0 ≤ sizeV s) = true := by simpa using hs
    have HS : Hid (0 ≤ sizeV s) := hs
    have HP : Hid (p < 0 ∨ sizeV s ≤ p) := by show _ ∨ _; omega
    clear hs hb
    go_enter Tryz.func53, Tryz.ntmps53
    go_wp2_with fail
    refine (ext_impl _ H1.out).mono ?_
    rintro e w1 ⟨n, x, y, z, rfl, he, hb⟩
    have HE : Hid (Ext s n x y z) := he HS.out
    have HB : Hid (Below w.heap.size w w1) := hb
    clear he hb
    go_wp2_with fail
    refine (idx_out HS.out HE.out p HP.out _).mono ?_
    rintro e w2 ⟨rfl, hb⟩
    have HB2 : Hid (Below w.heap.size w w2) := bTrans (bAlloc HB.out _) hb
    clear hb
    go_wp2
    go_ret
    exact ⟨_, rfl, newInts_nil _ _, bAlloc HB2.out _⟩
  · have hs' : decide (0 ≤ sizeV s) = false := by simpa using hs
    clear hs hb
    go_enter Tryz.func53, Tryz.ntmps53
    go_wp2_with fail
    refine (ext_impl _ H1.out).mono ?_
    rintro e w1 ⟨n, x, y, z, rfl, he, hb⟩
    have HB : Hid (Below w.heap.size w w1) := hb
    clear he hb
    go_wp2
    go_ret
    exact ⟨_, rfl, newInts_nil _ _, bAlloc HB.out _⟩
/-- IndexOf, whatever list and place it is given: a list in new memory. -/
theorem index_impl {s : List Int} {a : Option Addr} {w : World} (p : Int) (c : Nat) (h1 : Ints w a s) :
    Calls Tryz.prog 53 #[.slice a s.length c, .int .i64 p] w fun e w' => ∃ v, e = .returned v ∧ NewInts w.heap.size w' v (indexV s p) ∧ Below w.heap.size w w' := by
  by_cases hb : sizeV s < 0 ∨ p < 0 ∨ sizeV s - 1 < p
  · have e : indexV s p = [] := by unfold indexV; rw [if_pos hb]
    rw [e]
    exact index_bad_impl p c h1 hb
  · have e : indexV s p = idx s p := by unfold indexV; rw [if_neg hb]
    rw [e]
    have hs : 0 ≤ sizeV s := by omega
    obtain ⟨k1, k2, k3, k4⟩ := sizeV_ok hs
    rcases len3 k1 with rfl | ⟨x, rfl⟩ | ⟨x, y, rfl⟩ | ⟨x, y, z, rfl⟩
    · have k5 := sizeV_0
      exact index_0_impl p a c w h1 (by omega) (by omega)
    · simp only [List.all_cons, List.all_nil, Bool.and_true] at k2
      have dx := dimOk_bd k2
      rw [prod1] at k3 k4
      exact index_1_impl x _ p a c w h1 (by omega) dx.2 (by omega) (by omega) rfl
    · simp only [List.all_cons, List.all_nil, Bool.and_true, Bool.and_eq_true] at k2
      have dx := dimOk_bd k2.1
      have dy := dimOk_bd k2.2
      rw [prod2] at k3 k4
      have q := pos_of_mul dx.1 dy.1 (by omega)
      exact index_2_impl x y _ _ p a c w h1 q.1 dx.2 q.2 dy.2 k3 (by omega) (by omega) rfl rfl
    · simp only [List.all_cons, List.all_nil, Bool.and_true, Bool.and_eq_true] at k2
      have dx := dimOk_bd k2.1
      have dy := dimOk_bd k2.2.1
      have dz := dimOk_bd k2.2.2
      rw [prod3] at k3 k4
      have q := pos_of_mul (Int.mul_nonneg dx.1 dy.1) dz.1 (by omega)
      have q' := pos_of_mul dx.1 dy.1 q.1
      exact index_3_impl x y z _ _ _ p a c w h1 q'.1 dx.2 q'.2 dy.2 q.2 dz.2 k3 (by omega) (by omega) rfl rfl rfl
set_option maxRecDepth 20000 in
set_option maxHeartbeats 1000000 in
theorem place_bad_impl {s i : List Int} {a b : Option Addr} {w : World} (c d : Nat) (h1 : Ints w a s) (hb : sizeV s < 0 ∨ i.length ≠ s.length) :
    Calls Tryz.prog 54 #[.slice a s.length c, .slice b i.length d] w fun e w' => e = .returned (.int .i64 (-1)) ∧ Below w.heap.size w w' := by
  have H1 : Hid (Ints w a s) := h1
  clear h1
  by_cases hs : 0 ≤ sizeV s
  · have hs' : decide (0 ≤ sizeV s) = true := by simpa using hs
    have HS : Hid (0 ≤ sizeV s) := hs
    have HN : Hid (i.length ≠ s.length) := by
      rcases hb with hb | hb
      · omega
      · exact hb
    clear hs hb
    go_enter Tryz.func54, Tryz.ntmps54
    go_wp2_with fail
    refine (ext_impl _ H1.out).mono ?_
    rintro e w1 ⟨n, x, y, z, rfl, he, hb⟩
    have hn : ((i.length : Int) != (n : Int)) = true := by
      have h1 := (he HS.out).1
      have h2 := HN.out
      simp; omega
    have HB : Hid (Below w.heap.size w w1) := hb
    clear he hb
    go_wp2
    go_ret
    exact ⟨rfl, bAlloc HB.out _⟩
  · have hs' : decide (0 ≤ sizeV s) = false := by simpa using hs
    clear hs hb
    go_enter Tryz.func54, Tryz.ntmps54
    go_wp2_with fail
    refine (ext_impl _ H1.out).mono ?_
    rintro e w1 ⟨n, x, y, z, rfl, he, hb⟩
    have HB : Hid (Below w.heap.size w w1) := hb
    clear he hb
    go_wp2
    go_ret
    exact ⟨rfl, bAlloc HB.out _⟩
end Go.Proofs.YtnkacfgbkfkhdaaGreat
namespace Go.Proofs.YtnkacfgbkfkhdaaGreat
set_option linter.unusedVariables false
theorem vecN {n : Int} {x : List Int} (h : arrOk [n] x = true) : 0 ≤ n ∧ n ≤ 300 ∧ x.length = n.toNat ∧ sizeV [n] = n := by
  have hh := head_bd h
  simp only [List.getD_cons_zero] at hh
  have z := arrOk_size h
  have e : sizeV [n] = n := by rw [sizeV_1, if_pos ⟨by omega, by omega⟩, if_neg (by omega)]
  refine ⟨by omega, by omega, by omega, e⟩
theorem each_pair {g n : Int} {x y : List Int} (h1 : arrOk [n] x = true) (h2 : arrOk [n] y = true) (h3 : sign2 g = true) :
    eachTwoC g [n] x [n] y = pairC g x y n.toNat ∧ (pairC g x y n.toNat = 0 → eachTwoS g [n] x [n] y = [n] ∧ eachTwoD g [n] x [n] y = pairD g x y n.toNat) := by
  obtain ⟨_, _, _, e⟩ := vecN h1
  have hf : fitC [n] x [n] y = 0 := by unfold fitC; rw [if_pos ⟨h1, h2⟩]; simp
  have hS : fitS [n] x [n] y = [n] := by unfold fitS; rw [if_pos hf]; simp
  have hN : eachN [n] x [n] y = n.toNat := by unfold eachN; rw [hS, e]
  have hC : eachTwoC g [n] x [n] y = pairC g x y n.toNat := by
    unfold eachTwoC pairC
    rw [if_pos ⟨h1, h2, h3⟩, if_pos hf, hN]
    simp [numOf]
  refine ⟨hC, fun h0 => ⟨?_, ?_⟩⟩
  · unfold eachTwoS; rw [hC, if_pos h0, hS]
  · unfold eachTwoD pairD; rw [hC, if_pos h0, hN]; simp [numOf]
theorem pairD_len (g : Int) (x y : List Int) (n : Nat) : (pairD g x y n).length = n := by simp [pairD]
theorem rows_pair (g n : Int) (x y : List Int) : rowsD [n] (pairD g x y n.toNat) = pairR g x y n.toNat := by
  have e : rowN [n] = 1 := by simp [rowN, sizeV_0']
  unfold rowsD pairR
  rw [show rowsN [n] = n.toNat from by simp [rowsN]]
  apply List.map_congr_left
  intro i hi
  have hi : i < n.toNat := by simpa using hi
  unfold rowAt
  rw [e, Nat.mul_one, List.drop_eq_getElem_cons (by rw [pairD_len]; exact hi)]
  simp [pairD]
theorem pair_arr {g n : Int} {x y : List Int} (h1 : arrOk [n] x = true) (h0 : pairC g x y n.toNat = 0) : arrOk [n] (pairD g x y n.toNat) = true := by
  obtain ⟨a1, a2, _, e⟩ := vecN h1
  simp only [arrOk, Bool.and_eq_true, List.all_eq_true]
  refine ⟨?_, ?_⟩
  · rw [e, pairD_len]
    simp
    omega
  · intro z hz
    simp only [pairD, List.mem_map, List.mem_range] at hz
    obtain ⟨i, hi, rfl⟩ := hz
    exact two_ok (firstC_all h0 i hi)
end Go.Proofs.YtnkacfgbkfkhdaaGreat
namespace Go.Proofs.YtnkacfgbkfkhdaaGreat
open Go.RowKit
set_option linter.unusedVariables false
set_option linter.unusedSimpArgs false
theorem ints_tail {w : World} {b off : Nat} {l : List Int} (m : Nat) (h : Ints w (some ⟨b, off, none⟩) l) : Ints w (some ⟨b, off + m, none⟩) (l.drop m) := by
  rcases h with rfl | ⟨b', off', e, hb, hc⟩
  · exact .inl (by simp)
  · cases e
    refine .inr ⟨b, off + m, rfl, hb, fun k hk => ?_⟩
    have := hc (m + k) (by simp at hk; omega)
    rw [Nat.add_assoc, this]
    simp
/-- A list from one number on, and between two, whatever its memory. -/
theorem run_from {a : Option Addr} {n c M : Nat} (hM : M ≤ n) (hc : n ≤ c) (W : World) : (Instr.slice 24 (.slice a n c) (some (.int .i64 (M : Int))) none none).run Tryz.prog W = .ok (.slice (if c - M = 0 then a else a.map (·.add (M * 1))) (n - M) (c - M)) W := by
  have hs : (sizeOf 3).run Tryz.prog W = .ok 1 W := by kernel_rfl
  have he : Tryz.prog.elem 24 = 3 := by kernel_rfl
  rw [run_slice_l (P := Tryz.prog) (w := W) 24 a n c (by rw [he]; exact Tryz.underlying24) .i64 (M : Int) (by omega) (by omega), he, hs]
  have e : (c = M) = (c - M = 0) := by apply propext; omega
  simp [Result.andThen, sliced, e]
/-- What a copy makes of a list: m numbers of e from place k on. -/
def paste (l : List Int) (k : Nat) (e : List Int) (m : Nat) : List Int := l.take k ++ e.take m ++ l.drop (k + m)
theorem paste_zero (l : List Int) (k : Nat) (e : List Int) : paste l k e 0 = l := by simp [paste]
theorem paste_length {l e : List Int} {k m : Nat} (h : k + m ≤ l.length) (hm : m ≤ e.length) : (paste l k e m).length = l.length := by simp [paste]; omega
theorem paste_at {l e : List Int} {k m : Nat} (h : k + m ≤ l.length) (hm : m ≤ e.length) (i : Nat) : (paste l k e m).getD i 0 = if i < k then l.getD i 0 else if i < k + m then e.getD (i - k) 0 else l.getD i 0 := by
  have lk : (l.take k).length = k := by simp; omega
  have lm : (e.take m).length = m := by simp; omega
  unfold paste
  simp only [List.getD_eq_getElem?_getD, List.append_assoc]
  by_cases h1 : i < k
  · rw [if_pos h1, List.getElem?_append_left (by omega), List.getElem?_take_of_lt h1]
  · rw [if_neg h1, List.getElem?_append_right (by omega), lk]
    by_cases h2 : i < k + m
    · rw [if_pos h2, List.getElem?_append_left (by omega), List.getElem?_take_of_lt (by omega)]
    · rw [if_neg h2, List.getElem?_append_right (by omega), lm, List.getElem?_drop]
      congr 2
      omega
theorem copy_paste {w : World} {g : Nat} {l e : List Int} {a : Option Addr} {k n : Nat} (h : OwnInts w g l) (hs : Ints w a e) (hfit : k + min e.length n ≤ l.length) (ty : TypeId) (dC c : Nat) :
    (Builtin.copy_ #[24, 24] ty #[.slice (some ⟨g, k, none⟩) n dC, .slice a e.length c]).run Tryz.prog w = .ok (.int .i64 ((min e.length n : Nat) : Int)) (w.setRow g (vals (paste l k e (min e.length n)))) := by
  by_cases h0 : min e.length n = 0
  · rw [h0, paste_zero, setRow_self w g (vals l) _ _ h]
    exact run_copy_none (P := Tryz.prog) _ 24 24 ty 3 _ _ _ _ _ _ Tryz.underlying24 int_size h0
  · rcases hs with rfl | ⟨b, off, rfl, hb, hc⟩
    · simp at h0
    · have hc' : ∀ j, j < (e.take (min e.length n)).length → w.cell? ⟨b, off + j, none⟩ = some (.int .i64 ((e.take (min e.length n)).getD j 0)) := by
        intro j hj
        have hj' : j < min e.length n := by simp at hj; omega
        rw [hc j (by omega)]
        simp only [List.getD_eq_getElem?_getD, List.getElem?_take_of_lt hj']
      have q := run_copy_row Tryz.prog w 24 24 ty 3 g k n dC ⟨b, off, none⟩ e.length c (vals l) 3 ((e.take (min e.length n)).map (Value.int .i64)) Tryz.underlying24 int_size h (by simp) (ints_src hc') (by simp [vals]; omega) (by intro v hv; obtain ⟨x, _, rfl⟩ := List.mem_map.1 hv; rfl)
      rw [q, List.length_map, List.length_take, Nat.min_eq_left (Nat.min_le_left _ _)]
      simp [paste, vals, goInt]
theorem OwnInts.setRow {w : World} {g : Nat} {l : List Int} (h : OwnInts w g l) (l' : List Int) : OwnInts (w.setRow g (vals l')) g l' := setRow_heap w g _ _ _ _ h
end Go.Proofs.YtnkacfgbkfkhdaaGreat
