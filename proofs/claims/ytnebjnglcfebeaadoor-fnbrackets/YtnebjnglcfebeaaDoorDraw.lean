/-
  Walks: the cursor over the bytes of a draw (the specification's l1New, l1Byte, l1Below, l1Once, l1PickInt): each call returns, its number lies within its bounds, and nothing turns but the cursor's own block.
-/
import Derived.Test.YtnebjnglcfebeaaDoorBase
namespace Go.Proofs.YtnebjnglcfebeaaDoor
open Go.RowKit
set_option linter.unusedVariables false

/-- What is masked lies between 0 and the mask. -/
theorem mask_bd (x : Int) (m : Nat) (hm : m < 9223372036854775808) : 0 ≤ Go.bits .and .i64 x (m : Int) ∧ Go.bits .and .i64 x (m : Int) ≤ (m : Int) := by
  have h2 : (BitVec.ofInt 64 (m : Int)).toNat = m := by
    rw [BitVec.ofInt_natCast, BitVec.toNat_ofNat]; exact Nat.mod_eq_of_lt (by omega)
  have h3 : ((BitVec.ofInt 64 x).toNat &&& m) ≤ m := Nat.and_le_right
  show 0 ≤ IntKind.i64.wrap ((BitVec.ofInt 64 x &&& BitVec.ofInt 64 (m : Int)).toNat : Int) ∧ IntKind.i64.wrap ((BitVec.ofInt 64 x &&& BitVec.ofInt 64 (m : Int)).toNat : Int) ≤ _
  rw [BitVec.toNat_and, h2, IntKind.wrap_i64]
  omega

/-- The bytes that are drawn from: a slice whose cells all lie below block B. -/
def Src (B : Nat) (w : World) (a : Option Addr) (len : Nat) : Prop :=
  len ≤ 9223372036854775807 ∧ (len = 0 ∨ ∃ b off, a = some ⟨b, off, none⟩ ∧ b < B ∧ ∀ k, k < len → ∃ z : Int, 0 ≤ z ∧ z ≤ 255 ∧ w.cell? ⟨b, off + k, none⟩ = some (.int .u8 z))
theorem Src.keep {B : Nat} {w w' : World} {a : Option Addr} {len : Nat} (h : Src B w a len) (hb : Below B w w') : Src B w' a len := by
  refine ⟨h.1, ?_⟩
  rcases h.2 with h | ⟨b, off, e, hB, hc⟩
  · exact .inl h
  · exact .inr ⟨b, off, e, hB, fun k hk => by
      obtain ⟨z, z1, z2, hz⟩ := hc k hk
      exact ⟨z, z1, z2, by rw [hb.cell (p := ⟨b, off + k, none⟩) hB]; exact hz⟩⟩
/-- Block g is a cursor over such bytes. -/
def DrawOk (B g : Nat) (w : World) : Prop :=
  B ≤ g ∧ B ≤ w.heap.size ∧ ∃ (a : Option Addr) (len cap i : Nat) (h : Int), w.heap[g]? = some (.cells #[.slice a len cap, .int .i64 i, .int .i64 h] 81 (0, 0)) ∧ Src B w a len
theorem DrawOk.keep {B g : Nat} {w w' : World} (h : DrawOk B g w) (hb : Below B w w') (hg : w'.heap[g]? = w.heap[g]?) : DrawOk B g w' := by
  obtain ⟨h1, h2, a, len, cap, i, x, hc, hs⟩ := h
  exact ⟨h1, Nat.le_trans h2 hb.size, a, len, cap, i, x, by rw [hg]; exact hc, hs.keep hb⟩
theorem DrawOk.lt {B g : Nat} {w : World} (h : DrawOk B g w) : g < w.heap.size := by
  obtain ⟨_, _, a, len, cap, i, x, hc, _⟩ := h
  exact (Array.getElem?_eq_some_iff.1 hc).1

set_option maxHeartbeats 1000000 in
theorem byte_end (g len cap i : Nat) (h : Int) (a : Option Addr) (w : World) (hi : ¬ i < len) (hl : len ≤ 9223372036854775807)
    (c0 : w.cell? ⟨g, 0, none⟩ = some (.slice a len cap)) (c1 : w.cell? ⟨g, 1, none⟩ = some (.int .i64 i)) (c2 : w.cell? ⟨g, 2, none⟩ = some (.int .i64 h)) (f2 : w.frozen? ⟨g, 2, none⟩ = false) :
    Calls Tryd.prog 53 #[.pointer (some ⟨g, 0, none⟩)] w fun e w' => ∃ (x h' : Int) (n : Nat), 0 ≤ x ∧ x ≤ 255 ∧ e = .returned (.int .i64 x) ∧ w' = (w.setCell ⟨g, 2, none⟩ (.int .i64 h')).drewN n := by
  go_enter Tryd.func53, Tryd.ntmps53
  go_wp2
  go_quiet (fail)
  go_wp2
  go_quiet (fail)
  go_wp2
  go_ret
  exact ⟨_, _, _, (mask_bd _ 255 (by decide)).1, (mask_bd _ 255 (by decide)).2, rfl, World.drewN_drewN _ _ _⟩
set_option maxHeartbeats 1000000 in
theorem byte_more (g len cap i b off : Nat) (h z : Int) (w : World) (hi : i < len) (hl : len ≤ 9223372036854775807) (z1 : 0 ≤ z) (z2 : z ≤ 255)
    (c0 : w.cell? ⟨g, 0, none⟩ = some (.slice (some ⟨b, off, none⟩) len cap)) (c1 : w.cell? ⟨g, 1, none⟩ = some (.int .i64 i)) (c2 : w.cell? ⟨g, 2, none⟩ = some (.int .i64 h)) (f2 : w.frozen? ⟨g, 2, none⟩ = false) (f1 : w.frozen? ⟨g, 1, none⟩ = false)
    (cz : ∀ v, (w.setCell ⟨g, 2, none⟩ v).cell? ⟨b, off + i, none⟩ = some (.int .u8 z)) :
    Calls Tryd.prog 53 #[.pointer (some ⟨g, 0, none⟩)] w fun e w' => ∃ (x h' : Int) (n : Nat), 0 ≤ x ∧ x ≤ 255 ∧ e = .returned (.int .i64 x) ∧ w' = ((w.setCell ⟨g, 2, none⟩ (.int .i64 h')).drewN n).setCell ⟨g, 1, none⟩ (.int .i64 (i + 1)) := by
  have hi' : (i : Int) < (len : Int) := by omega
  go_enter Tryd.func53, Tryd.ntmps53
  go_wp2
  go_quiet (fail)
  go_wp2
  go_quiet (fail)
  go_wp2
  go_quiet (fail)
  go_wp2
  go_ret
  exact ⟨_, _, _, (mask_bd _ 255 (by decide)).1, (mask_bd _ 255 (by decide)).2, rfl, rfl⟩
/-- A byte is drawn. -/
theorem byte_spec {B g : Nat} {w : World} (hd : DrawOk B g w) :
    Calls Tryd.prog 53 #[.pointer (some ⟨g, 0, none⟩)] w fun e w' => ∃ x : Int, 0 ≤ x ∧ x ≤ 255 ∧ e = .returned (.int .i64 x) ∧ But g w w' ∧ DrawOk B g w' := by
  obtain ⟨h1, h2, a, len, cap, i, h, hg, hs⟩ := hd
  have c0 : w.cell? ⟨g, 0, none⟩ = some (.slice a len cap) := by simp [World.cell?, hg]
  have c1 : w.cell? ⟨g, 1, none⟩ = some (.int .i64 i) := by simp [World.cell?, hg]
  have c2 : w.cell? ⟨g, 2, none⟩ = some (.int .i64 h) := by simp [World.cell?, hg]
  have f1 : w.frozen? ⟨g, 1, none⟩ = false := by simp [World.frozen?, hg]
  have f2 : w.frozen? ⟨g, 2, none⟩ = false := by simp [World.frozen?, hg]
  by_cases hi : i < len
  · rcases hs.2 with h0 | ⟨b, off, rfl, hB, hc⟩
    · omega
    · obtain ⟨z, z1, z2, hz⟩ := hc i hi
      refine (byte_more g len cap i b off h z w hi hs.1 z1 z2 c0 c1 c2 f2 f1 (fun v => ?_)).mono ?_
      · exact (World.cell?_of_block (w := w) (a := ⟨b, off + i, none⟩) (Below.heap_setCell w ⟨g, 2, none⟩ v b (by show b ≠ g; omega))).trans hz
      · rintro e w' ⟨x, h', n, x1, x2, rfl, rfl⟩
        have hb : But g w (((w.setCell ⟨g, 2, none⟩ (.int .i64 h')).drewN n).setCell ⟨g, 1, none⟩ (.int .i64 (i + 1))) := (((But.refl g w).setCell 2 _).drewN n).setCell 1 _
        refine ⟨x, x1, x2, rfl, hb, h1, Nat.le_trans h2 hb.size, some ⟨b, off, none⟩, len, cap, i + 1, h', ?_, hs.keep (hb.below h1 h2)⟩
        have e1 := heap_setCell_same w g 2 _ _ (.int .i64 h') hg
        have e2 := heap_setCell_same ((w.setCell ⟨g, 2, none⟩ (.int .i64 h')).drewN n) g 1 _ _ (.int .i64 (i + 1)) e1
        simpa using e2
  · refine (byte_end g len cap i h a w hi hs.1 c0 c1 c2 f2).mono ?_
    rintro e w' ⟨x, h', n, x1, x2, rfl, rfl⟩
    have hb : But g w ((w.setCell ⟨g, 2, none⟩ (.int .i64 h')).drewN n) := ((But.refl g w).setCell 2 _).drewN n
    refine ⟨x, x1, x2, rfl, hb, h1, Nat.le_trans h2 hb.size, a, len, cap, i, h', ?_, hs.keep (hb.below h1 h2)⟩
    have e1 := heap_setCell_same w g 2 _ _ (.int .i64 h') hg
    simpa using e1

set_option maxHeartbeats 1000000 in
/-- A number from 0 up to below n is drawn (n up to 256). -/
theorem below_small {B g : Nat} {w : World} (hd : DrawOk B g w) (n : Int) (n0 : 0 < n) (n1 : n ≤ 256) :
    Calls Tryd.prog 31 #[.pointer (some ⟨g, 0, none⟩), .int .i64 n] w fun e w' => ∃ x : Int, 0 ≤ x ∧ x < n ∧ e = .returned (.int .i64 x) ∧ But g w w' ∧ DrawOk B g w' := by
  have HD : Hid (DrawOk B g w) := hd
  clear hd
  have hn : ¬ n ≤ 0 := by omega
  go_enter Tryd.func31, Tryd.ntmps31
  go_wp2_with fail
  refine (byte_spec HD.out).mono ?_
  rintro e w' ⟨x, x1, x2, rfl, hb, hd'⟩
  have HB : Hid (But g w w') := hb
  have HD' : Hid (DrawOk B g w') := hd'
  clear hb hd'
  go_wp2
  go_ret
  exact ⟨_, Int.emod_nonneg _ (by omega), Int.emod_lt_of_pos _ n0, rfl, HB.out, HD'.out⟩
theorem once_spec {B g : Nat} {w : World} (hd : DrawOk B g w) (n : Int) (n0 : 0 < n) (n1 : n ≤ 256) :
    Calls Tryd.prog 51 #[.pointer (some ⟨g, 0, none⟩), .int .i64 n] w fun e w' => ∃ b : Bool, e = .returned (.bool b) ∧ But g w w' ∧ DrawOk B g w' := by
  have HD : Hid (DrawOk B g w) := hd
  clear hd
  go_enter Tryd.func51, Tryd.ntmps51
  go_wp2_with fail
  refine (below_small HD.out n n0 n1).mono ?_
  rintro e w' ⟨x, x1, x2, rfl, hb, hd'⟩
  have HB : Hid (But g w w') := hb
  have HD' : Hid (DrawOk B g w') := hd'
  clear hb hd'
  go_wp2
  go_ret
  exact ⟨_, rfl, HB.out, HD'.out⟩
/-- A list of numbers that the call itself made. -/
def Nums (gl : Nat) (l : List Int) (w : World) : Prop := ∀ k, k < l.length → w.cell? ⟨gl, k, none⟩ = some (.int .i64 (l.getD k 0))
set_option maxHeartbeats 1000000 in
theorem pick_spec {B g gl : Nat} {w : World} {l : List Int} (hd : DrawOk B g w) (n cap : Nat) (n0 : 0 < n) (n1 : n ≤ 256) (hne : gl ≠ g) (hgl : gl < w.heap.size) (hl : Nums gl l w) (hn : l.length = n) :
    Calls Tryd.prog 82 #[.pointer (some ⟨g, 0, none⟩), .slice (some ⟨gl, 0, none⟩) n cap] w fun e w' => ∃ x : Int, e = .returned (.int .i64 x) ∧ But g w w' ∧ DrawOk B g w' ∧ x ∈ l := by
  have HD : Hid (DrawOk B g w) := hd
  have HL : Hid (Nums gl l w) := hl
  have HE : Hid (l.length = n) := hn
  clear hd hl hn
  go_enter Tryd.func82, Tryd.ntmps82
  go_wp2_with fail
  refine (below_small HD.out n (by omega) (by omega)).mono ?_
  rintro e w' ⟨x, x1, x2, rfl, hb, hd'⟩
  obtain ⟨k, rfl⟩ := Int.eq_ofNat_of_zero_le x1
  have kl : k < l.length := by have := HE.out; omega
  have hz := HL.out k kl
  have HM : Hid (l.getD k 0 ∈ l) := by show l.getD k 0 ∈ l; simp [kl]
  generalize l.getD k 0 = z at hz HM
  clear kl
  have hz' : w'.cell? ⟨gl, k, none⟩ = some (.int .i64 z) := by rw [hb.cell (p := ⟨gl, k, none⟩) hgl hne]; exact hz
  have HB : Hid (But g w w') := hb
  have HD' : Hid (DrawOk B g w') := hd'
  clear hb hd' hz
  go_wp2
  go_ret
  exact ⟨_, rfl, HB.out, HD'.out, HM.out⟩
end Go.Proofs.YtnebjnglcfebeaaDoor
