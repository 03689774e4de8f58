/-
  Several walks, one behind the other: Draw, DrawA, Draws, DrawShape, DrawPlace, DrawHN.
-/
import Derived.Test.YtmmjidhpmbcoiaaBase
import Derived.Test.YtmmjidhpmbcoiaaOwn
import Derived.Test.YtmmjidhpmbcoiaaSpecIndex
namespace Go.Proofs.Ytmmjidhpmbcoiaa
open Go.RowKit
set_option linter.unusedVariables false

/-- What is masked lies between 0 and the mask. -/
theorem mask_bd (x : Int) (m : Nat) (hm : m < 9223372036854775808) : 0 ≤ Go.bits .and .i64 x (m : Int) ∧ Go.bits .and .i64 x (m : Int) ≤ (m : Int) := by
  have h2 : (BitVec.ofInt 64 (m : Int)).toNat = m := by
    rw [BitVec.ofInt_natCast, BitVec.toNat_ofNat]; exact Nat.mod_eq_of_lt (by omega)
  have h3 : ((BitVec.ofInt 64 x).toNat &&& m) ≤ m := Nat.and_le_right
  show 0 ≤ IntKind.i64.wrap ((BitVec.ofInt 64 x &&& BitVec.ofInt 64 (m : Int)).toNat : Int) ∧ IntKind.i64.wrap ((BitVec.ofInt 64 x &&& BitVec.ofInt 64 (m : Int)).toNat : Int) ≤ _
  rw [BitVec.toNat_and, h2, IntKind.wrap_i64]
  omega

/-- The bytes that are drawn from: a slice whose cells all lie below block B. -/
def Src (B : Nat) (w : World) (a : Option Addr) (len : Nat) : Prop :=
  len ≤ 9223372036854775807 ∧ (len = 0 ∨ ∃ b off, a = some ⟨b, off, none⟩ ∧ b < B ∧ ∀ k, k < len → ∃ z : Int, 0 ≤ z ∧ z ≤ 255 ∧ w.cell? ⟨b, off + k, none⟩ = some (.int .u8 z))
theorem Src.keep {B : Nat} {w w' : World} {a : Option Addr} {len : Nat} (h : Src B w a len) (hb : Below B w w') : Src B w' a len := by
  refine ⟨h.1, ?_⟩
  rcases h.2 with h | ⟨b, off, e, hB, hc⟩
  · exact .inl h
  · exact .inr ⟨b, off, e, hB, fun k hk => by
      obtain ⟨z, z1, z2, hz⟩ := hc k hk
      exact ⟨z, z1, z2, by rw [hb.cell (p := ⟨b, off + k, none⟩) hB]; exact hz⟩⟩
/-- Block g is a cursor over such bytes. -/
def DrawOk (B g : Nat) (w : World) : Prop :=
  B ≤ g ∧ B ≤ w.heap.size ∧ ∃ (a : Option Addr) (len cap i : Nat) (h : Int), w.heap[g]? = some (.cells #[.slice a len cap, .int .i64 i, .int .i64 h] 90 (0, 0)) ∧ Src B w a len
theorem DrawOk.keep {B g : Nat} {w w' : World} (h : DrawOk B g w) (hb : Below B w w') (hg : w'.heap[g]? = w.heap[g]?) : DrawOk B g w' := by
  obtain ⟨h1, h2, a, len, cap, i, x, hc, hs⟩ := h
  exact ⟨h1, Nat.le_trans h2 hb.size, a, len, cap, i, x, by rw [hg]; exact hc, hs.keep hb⟩
theorem DrawOk.lt {B g : Nat} {w : World} (h : DrawOk B g w) : g < w.heap.size := by
  obtain ⟨_, _, a, len, cap, i, x, hc, _⟩ := h
  exact (Array.getElem?_eq_some_iff.1 hc).1

set_option maxHeartbeats 1000000 in
theorem byte_end (g len cap i : Nat) (h : Int) (a : Option Addr) (w : World) (hi : ¬ i < len) (hl : len ≤ 9223372036854775807)
    (c0 : w.cell? ⟨g, 0, none⟩ = some (.slice a len cap)) (c1 : w.cell? ⟨g, 1, none⟩ = some (.int .i64 i)) (c2 : w.cell? ⟨g, 2, none⟩ = some (.int .i64 h)) (f2 : w.frozen? ⟨g, 2, none⟩ = false) :
    Calls Try.prog 74 #[.pointer (some ⟨g, 0, none⟩)] w fun e w' => ∃ (x h' : Int) (n : Nat), 0 ≤ x ∧ x ≤ 255 ∧ e = .returned (.int .i64 x) ∧ w' = (w.setCell ⟨g, 2, none⟩ (.int .i64 h')).drewN n := by
  go_enter Try.func74, Try.ntmps74
  go_wp2
  go_quiet (fail)
  go_wp2
  go_quiet (fail)
  go_wp2
  go_ret
  exact ⟨_, _, _, (mask_bd _ 255 (by decide)).1, (mask_bd _ 255 (by decide)).2, rfl, World.drewN_drewN _ _ _⟩
set_option maxHeartbeats 1000000 in
theorem byte_more (g len cap i b off : Nat) (h z : Int) (w : World) (hi : i < len) (hl : len ≤ 9223372036854775807) (z1 : 0 ≤ z) (z2 : z ≤ 255)
    (c0 : w.cell? ⟨g, 0, none⟩ = some (.slice (some ⟨b, off, none⟩) len cap)) (c1 : w.cell? ⟨g, 1, none⟩ = some (.int .i64 i)) (c2 : w.cell? ⟨g, 2, none⟩ = some (.int .i64 h)) (f2 : w.frozen? ⟨g, 2, none⟩ = false) (f1 : w.frozen? ⟨g, 1, none⟩ = false)
    (cz : ∀ v, (w.setCell ⟨g, 2, none⟩ v).cell? ⟨b, off + i, none⟩ = some (.int .u8 z)) :
    Calls Try.prog 74 #[.pointer (some ⟨g, 0, none⟩)] w fun e w' => ∃ (x h' : Int) (n : Nat), 0 ≤ x ∧ x ≤ 255 ∧ e = .returned (.int .i64 x) ∧ w' = ((w.setCell ⟨g, 2, none⟩ (.int .i64 h')).drewN n).setCell ⟨g, 1, none⟩ (.int .i64 (i + 1)) := by
  have hi' : (i : Int) < (len : Int) := by omega
  go_enter Try.func74, Try.ntmps74
  go_wp2
  go_quiet (fail)
  go_wp2
  go_quiet (fail)
  go_wp2
  go_quiet (fail)
  go_wp2
  go_ret
  exact ⟨_, _, _, (mask_bd _ 255 (by decide)).1, (mask_bd _ 255 (by decide)).2, rfl, rfl⟩
/-- A byte is drawn. -/
theorem byte_spec {B g : Nat} {w : World} (hd : DrawOk B g w) :
    Calls Try.prog 74 #[.pointer (some ⟨g, 0, none⟩)] w fun e w' => ∃ x : Int, 0 ≤ x ∧ x ≤ 255 ∧ e = .returned (.int .i64 x) ∧ But g w w' ∧ DrawOk B g w' := by
  obtain ⟨h1, h2, a, len, cap, i, h, hg, hs⟩ := hd
  have c0 : w.cell? ⟨g, 0, none⟩ = some (.slice a len cap) := by simp [World.cell?, hg]
  have c1 : w.cell? ⟨g, 1, none⟩ = some (.int .i64 i) := by simp [World.cell?, hg]
  have c2 : w.cell? ⟨g, 2, none⟩ = some (.int .i64 h) := by simp [World.cell?, hg]
  have f1 : w.frozen? ⟨g, 1, none⟩ = false := by simp [World.frozen?, hg]
  have f2 : w.frozen? ⟨g, 2, none⟩ = false := by simp [World.frozen?, hg]
  by_cases hi : i < len
  · rcases hs.2 with h0 | ⟨b, off, rfl, hB, hc⟩
    · omega
    · obtain ⟨z, z1, z2, hz⟩ := hc i hi
      refine (byte_more g len cap i b off h z w hi hs.1 z1 z2 c0 c1 c2 f2 f1 (fun v => ?_)).mono ?_
      · exact (World.cell?_of_block (w := w) (a := ⟨b, off + i, none⟩) (Below.heap_setCell w ⟨g, 2, none⟩ v b (by show b ≠ g; omega))).trans hz
      · rintro e w' ⟨x, h', n, x1, x2, rfl, rfl⟩
        have hb : But g w (((w.setCell ⟨g, 2, none⟩ (.int .i64 h')).drewN n).setCell ⟨g, 1, none⟩ (.int .i64 (i + 1))) := (((But.refl g w).setCell 2 _).drewN n).setCell 1 _
        refine ⟨x, x1, x2, rfl, hb, h1, Nat.le_trans h2 hb.size, some ⟨b, off, none⟩, len, cap, i + 1, h', ?_, hs.keep (hb.below h1 h2)⟩
        have e1 := heap_setCell_same w g 2 _ _ (.int .i64 h') hg
        have e2 := heap_setCell_same ((w.setCell ⟨g, 2, none⟩ (.int .i64 h')).drewN n) g 1 _ _ (.int .i64 (i + 1)) e1
        simpa using e2
  · refine (byte_end g len cap i h a w hi hs.1 c0 c1 c2 f2).mono ?_
    rintro e w' ⟨x, h', n, x1, x2, rfl, rfl⟩
    have hb : But g w ((w.setCell ⟨g, 2, none⟩ (.int .i64 h')).drewN n) := ((But.refl g w).setCell 2 _).drewN n
    refine ⟨x, x1, x2, rfl, hb, h1, Nat.le_trans h2 hb.size, a, len, cap, i, h', ?_, hs.keep (hb.below h1 h2)⟩
    have e1 := heap_setCell_same w g 2 _ _ (.int .i64 h') hg
    simpa using e1

set_option maxHeartbeats 1000000 in
/-- A number from 0 up to below n is drawn (n up to 256). -/
theorem below_small {B g : Nat} {w : World} (hd : DrawOk B g w) (n : Int) (n0 : 0 < n) (n1 : n ≤ 256) :
    Calls Try.prog 42 #[.pointer (some ⟨g, 0, none⟩), .int .i64 n] w fun e w' => ∃ x : Int, 0 ≤ x ∧ x < n ∧ e = .returned (.int .i64 x) ∧ But g w w' ∧ DrawOk B g w' := by
  have HD : Hid (DrawOk B g w) := hd
  clear hd
  have hn : ¬ n ≤ 0 := by omega
  go_enter Try.func42, Try.ntmps42
  go_wp2_with fail
  refine (byte_spec HD.out).mono ?_
  rintro e w' ⟨x, x1, x2, rfl, hb, hd'⟩
  have HB : Hid (But g w w') := hb
  have HD' : Hid (DrawOk B g w') := hd'
  clear hb hd'
  go_wp2
  go_ret
  exact ⟨_, Int.emod_nonneg _ (by omega), Int.emod_lt_of_pos _ n0, rfl, HB.out, HD'.out⟩
theorem once_spec {B g : Nat} {w : World} (hd : DrawOk B g w) (n : Int) (n0 : 0 < n) (n1 : n ≤ 256) :
    Calls Try.prog 88 #[.pointer (some ⟨g, 0, none⟩), .int .i64 n] w fun e w' => ∃ b : Bool, e = .returned (.bool b) ∧ But g w w' ∧ DrawOk B g w' := by
  have HD : Hid (DrawOk B g w) := hd
  clear hd
  go_enter Try.func88, Try.ntmps88
  go_wp2_with fail
  refine (below_small HD.out n n0 n1).mono ?_
  rintro e w' ⟨x, x1, x2, rfl, hb, hd'⟩
  have HB : Hid (But g w w') := hb
  have HD' : Hid (DrawOk B g w') := hd'
  clear hb hd'
  go_wp2
  go_ret
  exact ⟨_, rfl, HB.out, HD'.out⟩
/-- A list of numbers that the call itself made. -/
def Nums (gl : Nat) (l : List Int) (w : World) : Prop := ∀ k, k < l.length → w.cell? ⟨gl, k, none⟩ = some (.int .i64 (l.getD k 0))
set_option maxHeartbeats 1000000 in
theorem pick_spec {B g gl : Nat} {w : World} {l : List Int} (hd : DrawOk B g w) (n cap : Nat) (n0 : 0 < n) (n1 : n ≤ 256) (hne : gl ≠ g) (hgl : gl < w.heap.size) (hl : Nums gl l w) (hn : l.length = n) :
    Calls Try.prog 41 #[.pointer (some ⟨g, 0, none⟩), .slice (some ⟨gl, 0, none⟩) n cap] w fun e w' => ∃ x : Int, e = .returned (.int .i64 x) ∧ But g w w' ∧ DrawOk B g w' ∧ x ∈ l := by
  have HD : Hid (DrawOk B g w) := hd
  have HL : Hid (Nums gl l w) := hl
  have HE : Hid (l.length = n) := hn
  clear hd hl hn
  go_enter Try.func41, Try.ntmps41
  go_wp2_with fail
  refine (below_small HD.out n (by omega) (by omega)).mono ?_
  rintro e w' ⟨x, x1, x2, rfl, hb, hd'⟩
  obtain ⟨k, rfl⟩ := Int.eq_ofNat_of_zero_le x1
  have kl : k < l.length := by have := HE.out; omega
  have hz := HL.out k kl
  have HM : Hid (l.getD k 0 ∈ l) := by show l.getD k 0 ∈ l; simp [kl]
  generalize l.getD k 0 = z at hz HM
  clear kl
  have hz' : w'.cell? ⟨gl, k, none⟩ = some (.int .i64 z) := by rw [hb.cell (p := ⟨gl, k, none⟩) hgl hne]; exact hz
  have HB : Hid (But g w w') := hb
  have HD' : Hid (DrawOk B g w') := hd'
  clear hb hd' hz
  go_wp2
  go_ret
  exact ⟨_, rfl, HB.out, HD'.out, HM.out⟩
end Go.Proofs.Ytmmjidhpmbcoiaa
namespace Go.Proofs.Ytmmjidhpmbcoiaa
open Go.RowKit
theorem DrawOk.alloc {B g : Nat} {w : World} (h : DrawOk B g w) (o : Obj) : DrawOk B g (w.alloc o) :=
  h.keep ((Below.refl _ _).alloc h.2.1 o) (Below.heap_alloc _ _ _ h.lt)
theorem nums_alloc (w : World) (l : List Int) (t : TypeId) : Nums w.heap.size l (w.alloc (.cells (l.map (Value.int .i64)).toArray t)) := by
  intro k hk
  rw [World.cell?_alloc_at _ _ _ _ rfl]
  simp [hk]
end Go.Proofs.Ytmmjidhpmbcoiaa
namespace Go.Proofs.Ytmmjidhpmbcoiaa
open Go.RowKit
set_option linter.unusedVariables false
theorem new_end {w : World} {a : Option Addr} {len cap : Nat} {x : Int} (hs : Src w.heap.size w a len) :
    Below w.heap.size w (w.alloc (.cells #[.slice a len cap, .int .i64 0, .int .i64 x] 90)) ∧ DrawOk w.heap.size w.heap.size (w.alloc (.cells #[.slice a len cap, .int .i64 0, .int .i64 x] 90)) := by
  have hb : Below w.heap.size w (w.alloc (.cells #[.slice a len cap, .int .i64 0, .int .i64 x] 90)) := (Below.refl _ _).alloc (Nat.le_refl _) _
  exact ⟨hb, Nat.le_refl _, hb.size, a, len, cap, 0, x, heap_alloc_new w _, hs.keep hb⟩
set_option maxRecDepth 20000 in
set_option maxHeartbeats 1000000 in
/-- A new cursor over bytes that came in. -/
theorem new_spec {w : World} {a : Option Addr} {len cap : Nat} (hs : Src w.heap.size w a len) (hb20 : len ≤ 1048576) :
    Calls Try.prog 40 #[.slice a len cap] w fun e w' => ∃ g, e = .returned (.pointer (some ⟨g, 0, none⟩)) ∧ Below w.heap.size w w' ∧ DrawOk w.heap.size g w' := by
  have HS : Hid (Src w.heap.size w a len) := hs
  clear hs
  go_enter Try.func40, Try.ntmps40
  go_wp2
  go_loop [3, 4] (fun h i => ∃ (x : Int) (k : Nat), k ≤ len ∧ 0 ≤ x ∧ x ≤ 1073741823 ∧ h = .int .i64 x ∧ i = .int .i64 k) (fun _ i => len - (intOf i).toNat)
  case atStart => exact ⟨_, 0, by omega, by omega, by omega, rfl, rfl⟩
  case round =>
    obtain ⟨x, k, hk, x1, x2, rfl, rfl⟩ := hrel
    by_cases hlt : (k : Int) < (len : Int) ∧ (k : Int) < 4000
    · obtain ⟨l1, l2⟩ := hlt
      rcases HS.out.2 with h0 | ⟨b, off, rfl, hB, hc⟩
      · omega
      · obtain ⟨z, z1, z2, hz⟩ := hc k (by omega)
        clear hc
        go_wp2
        go_round
        case rel => exact ⟨_, k + 1, by omega, (mask_bd _ 1073741823 (by decide)).1, (mask_bd _ 1073741823 (by decide)).2, rfl, by go_num⟩
        case measure => simp [intOf]; omega
    · by_cases l1 : (k : Int) < (len : Int)
      · have l2 : ¬ (k : Int) < 4000 := fun h => hlt ⟨l1, h⟩
        clear hlt
        go_wp2
        go_ret
        exact ⟨_, rfl, new_end HS.out⟩
      · clear hlt
        go_wp2
        go_ret
        exact ⟨_, rfl, new_end HS.out⟩
set_option maxRecDepth 20000 in
set_option maxHeartbeats 1000000 in
theorem num_spec {B g : Nat} {w : World} (hd : DrawOk B g w) :
    Calls Try.prog 111 #[.pointer (some ⟨g, 0, none⟩)] w fun e w' => ∃ x : Int, e = .returned (.int .i64 x) ∧ But g w w' ∧ DrawOk B g w' := by
  have HD : Hid (DrawOk B g w) := hd
  clear hd
  go_enter Try.func111, Try.ntmps111
  go_wp2_with fail
  refine (once_spec HD.out 12 (by decide) (by decide)).mono ?_
  rintro e w' ⟨b, rfl, hb, hd'⟩
  have HB : Hid (But g w w') := hb
  have HD' : Hid (DrawOk B g w') := hd'
  have hz := hd'.lt
  clear hb hd'
  cases b
  · go_wp2_with fail
    refine (below_small HD'.out 20 (by decide) (by decide)).mono ?_
    rintro e w2 ⟨x, x1, x2, rfl, hb2, hd2⟩
    have HB2 : Hid (But g w' w2) := hb2
    have HD2 : Hid (DrawOk B g w2) := hd2
    clear hb2 hd2
    go_wp2
    go_ret
    exact ⟨_, rfl, HB.out.trans HB2.out, HD2.out⟩
  · go_wp2_with fail
    refine (pick_spec (B := B) (g := g) (gl := w'.heap.size) (HD'.out.alloc _) 7 7 (by decide) (by decide) (by omega) (by simp) (nums_alloc w' [1000000000000, (-1000000000000 : Int), 999999999999, 1000000, (-1000000 : Int), 1000001, 999999999999] _) rfl).mono ?_
    rintro e w2 ⟨x, rfl, hb2, hd2, hm⟩
    have HB2 : Hid (But g _ w2) := hb2
    have HD2 : Hid (DrawOk B g w2) := hd2
    clear hb2 hd2
    go_wp2
    go_ret
    exact ⟨_, rfl, (HB.out.alloc _).trans HB2.out, HD2.out⟩
set_option maxRecDepth 20000 in
set_option maxHeartbeats 1000000 in
theorem raw_spec {B g : Nat} {w : World} (hd : DrawOk B g w) :
    Calls Try.prog 91 #[.pointer (some ⟨g, 0, none⟩)] w fun e w' => ∃ x : Int, e = .returned (.int .i64 x) ∧ But g w w' ∧ DrawOk B g w' := by
  have HD : Hid (DrawOk B g w) := hd
  clear hd
  go_enter Try.func91, Try.ntmps91
  go_wp2_with fail
  refine (once_spec HD.out 15 (by decide) (by decide)).mono ?_
  rintro e w' ⟨b, rfl, hb, hd'⟩
  have HB : Hid (But g w w') := hb
  have HD' : Hid (DrawOk B g w') := hd'
  have hz := hd'.lt
  clear hb hd'
  cases b
  · go_wp2_with fail
    refine (num_spec HD'.out).mono ?_
    rintro e w2 ⟨x, rfl, hb2, hd2⟩
    have HB2 : Hid (But g w' w2) := hb2
    have HD2 : Hid (DrawOk B g w2) := hd2
    clear hb2 hd2
    go_wp2
    go_ret
    exact ⟨_, rfl, HB.out.trans HB2.out, HD2.out⟩
  · go_wp2_with fail
    refine (pick_spec (B := B) (g := g) (gl := w'.heap.size) (HD'.out.alloc _) 4 4 (by decide) (by decide) (by omega) (by simp) (nums_alloc w' [1000000000001, (-1000000000001 : Int), 9223372036854775807, (-9223372036854775808 : Int)] _) rfl).mono ?_
    rintro e w2 ⟨x, rfl, hb2, hd2, hm⟩
    have HB2 : Hid (But g _ w2) := hb2
    have HD2 : Hid (DrawOk B g w2) := hd2
    clear hb2 hd2
    go_wp2
    go_ret
    exact ⟨_, rfl, (HB.out.alloc _).trans HB2.out, HD2.out⟩
theorem src_of_row {w : World} {a : Option Addr} {len cap : Nat} {zs : List Int} (h : IsRow .u8 w a len cap zs) : Src w.heap.size w a len := by
  rcases h with ⟨rfl, rfl, rfl, rfl⟩ | ⟨⟨b, off, spot⟩, rfl, hl, hm, hz, hcell, hwz⟩
  · exact ⟨by omega, .inl rfl⟩
  · unfold maxLen at hm
    refine ⟨by omega, ?_⟩
    by_cases h0 : len = 0
    · exact .inl h0
    · have hc := hcell 0 (by omega)
      have hspot : spot = none := by simpa [Addr.add] using World.cell?_spot hc
      subst hspot
      refine .inr ⟨b, off, rfl, ?_, fun k hk => ?_⟩
      · by_cases hb : b < w.heap.size
        · exact hb
        · have : w.heap[b]? = none := Array.getElem?_eq_none (by omega)
          simp [Addr.add, World.cell?, this] at hc
      · have hk' : k < zs.length := by omega
        have hadd : (⟨b, off, none⟩ : Addr).add k = ⟨b, off + k, none⟩ := by unfold Addr.add; split <;> simp_all
        refine ⟨zs.getD k 0, ?_, ?_, by rw [← hadd]; exact hcell k hk'⟩
        all_goals
          have hw := hwz (zs.getD k 0) (by simp [List.getD, hk'])
          simp [Lit.wf, IntKind.min, IntKind.max, IntKind.signed, IntKind.bits] at hw
          simp
          omega
set_option maxHeartbeats 400000 in
theorem big_laws (a : Option Addr) (len cap : Nat) (w : World) : Calls Try.prog 9 #[.slice a len cap] w fun e w' => e = .returned (.bool (decide ((1048576 : Int) < (len : Int)))) ∧ w' = w := by
  go_enter Try.func9, Try.ntmps9
  go_wp2
  go_ret
  exact ⟨rfl, rfl⟩
end Go.Proofs.Ytmmjidhpmbcoiaa
namespace Go.Proofs.Ytmmjidhpmbcoiaa
open Go.RowKit
set_option linter.unusedVariables false
theorem DrawOk.grown {B g : Nat} {w w' : World} {row : Option Nat} (h : DrawOk B g w) (hg : w.grownBy w' row) (hr : ∀ k, row = some k → g < k) : DrawOk B g w' :=
  h.keep ((Below.refl B w).grown hg h.2.1 (fun k e => by have := hr k e; have := h.1; omega)) (hg.block g h.lt (fun e => by have := hr g e.symm; omega))
/-- Small numbers. -/
def Near (l : List Int) : Prop := ∀ x ∈ l, -1 ≤ x ∧ x ≤ 301
set_option maxRecDepth 20000 in
set_option maxHeartbeats 2000000 in
theorem right_spec {B g : Nat} {w : World} (hd : DrawOk B g w) :
    Calls Try.prog 110 #[.pointer (some ⟨g, 0, none⟩)] w fun e w' => ∃ v l, e = .returned v ∧ (l.length ≤ 3 ∧ Near l) ∧ NewInts w.heap.size w' v l ∧ But g w w' ∧ DrawOk B g w' := by
  have HD : Hid (DrawOk B g w) := hd
  clear hd
  go_enter Try.func110, Try.ntmps110
  go_wp2_with fail
  refine (below_small HD.out 5 (by decide) (by decide)).mono ?_
  rintro e w1 ⟨x, x1, x2, rfl, hb, hd⟩
  have HB1 : Hid (But g _ w1) := hb
  have HD1 : Hid (DrawOk B g w1) := hd
  clear hb hd
  have hx : x = 0 ∨ x = 1 ∨ x = 2 ∨ x = 3 ∨ x = 4 := by omega
  rcases hx with rfl | rfl | rfl | rfl | rfl
  · go_wp2
    go_ret
    exact ⟨_, [], rfl, ⟨by decide, by intro x h; simp at h⟩, newInts_alloc _ [] HB1.out.size (by decide), HB1.out.alloc _, DrawOk.alloc HD1.out _⟩
  · go_wp2_with fail
    refine (below_small HD1.out 6 (by decide) (by decide)).mono ?_
    rintro e w2 ⟨y, y1, y2, rfl, hb, hd⟩
    have HB2 : Hid (But g _ w2) := hb
    have HD2 : Hid (DrawOk B g w2) := hd
    clear hb hd
    go_wp2
    go_ret
    exact ⟨_, [y], rfl, ⟨by simp, by intro x h; simp at h; omega⟩, newInts_alloc _ [y] (HB1.out.trans HB2.out).size (by simp), (HB1.out.trans HB2.out).alloc _, DrawOk.alloc HD2.out _⟩
  · go_wp2_with fail
    refine (below_small HD1.out 6 (by decide) (by decide)).mono ?_
    rintro e w2 ⟨y, y1, y2, rfl, hb, hd⟩
    have HB2 : Hid (But g _ w2) := hb
    have HD2 : Hid (DrawOk B g w2) := hd
    clear hb hd
    go_wp2
    go_ret
    exact ⟨_, [y], rfl, ⟨by simp, by intro x h; simp at h; omega⟩, newInts_alloc _ [y] (HB1.out.trans HB2.out).size (by simp), (HB1.out.trans HB2.out).alloc _, DrawOk.alloc HD2.out _⟩
  · go_wp2_with fail
    refine (below_small HD1.out 4 (by decide) (by decide)).mono ?_
    rintro e w2 ⟨y, y1, y2, rfl, hb, hd⟩
    have HB2 : Hid (But g _ w2) := hb
    have HD2 : Hid (DrawOk B g w2) := hd
    clear hb hd
    go_wp2_with fail
    refine (below_small HD2.out 3 (by decide) (by decide)).mono ?_
    rintro e w3 ⟨z, z1, z2, rfl, hb, hd⟩
    have HB3 : Hid (But g _ w3) := hb
    have HD3 : Hid (DrawOk B g w3) := hd
    clear hb hd
    go_wp2
    go_ret
    exact ⟨_, [y, 1 + z], rfl, ⟨by simp, by intro x h; simp at h; omega⟩, newInts_alloc _ [y, 1 + z] ((HB1.out.trans HB2.out).trans HB3.out).size (by simp), ((HB1.out.trans HB2.out).trans HB3.out).alloc _, DrawOk.alloc HD3.out _⟩
  · go_wp2_with fail
    refine (below_small HD1.out 3 (by decide) (by decide)).mono ?_
    rintro e w2 ⟨y, y1, y2, rfl, hb, hd⟩
    have HB2 : Hid (But g _ w2) := hb
    have HD2 : Hid (DrawOk B g w2) := hd
    clear hb hd
    go_wp2_with fail
    refine (below_small HD2.out 2 (by decide) (by decide)).mono ?_
    rintro e w3 ⟨z, z1, z2, rfl, hb, hd⟩
    have HB3 : Hid (But g _ w3) := hb
    have HD3 : Hid (DrawOk B g w3) := hd
    clear hb hd
    go_wp2_with fail
    refine (below_small HD3.out 4 (by decide) (by decide)).mono ?_
    rintro e w4 ⟨u, u1, u2, rfl, hb, hd⟩
    have HB4 : Hid (But g _ w4) := hb
    have HD4 : Hid (DrawOk B g w4) := hd
    clear hb hd
    go_wp2
    go_ret
    exact ⟨_, [1 + y, 1 + z, u], rfl, ⟨by simp, by intro x h; simp at h; omega⟩, newInts_alloc _ [1 + y, 1 + z, u] (((HB1.out.trans HB2.out).trans HB3.out).trans HB4.out).size (by simp), (((HB1.out.trans HB2.out).trans HB3.out).trans HB4.out).alloc _, DrawOk.alloc HD4.out _⟩
set_option maxRecDepth 20000 in
set_option maxHeartbeats 4000000 in
theorem shape_draw {B g : Nat} {w : World} (hd : DrawOk B g w) :
    Calls Try.prog 90 #[.pointer (some ⟨g, 0, none⟩)] w fun e w' => ∃ v l, e = .returned v ∧ (l.length ≤ 4 ∧ Near l) ∧ NewInts w.heap.size w' v l ∧ But g w w' ∧ DrawOk B g w' := by
  have HD : Hid (DrawOk B g w) := hd
  have hgw := hd.lt
  clear hd
  have hi := info_int
  obtain ⟨i0, hq, z1, z2, z3⟩ : ∃ i0, Try.prog.info? 3 = some i0 ∧ i0.zero = some (.int .i64 0) ∧ i0.size = 1 ∧ i0.bytes = 8 := by
    cases hq : Try.prog.info? 3 with
    | none => rw [hq] at hi; cases hi
    | some i => rw [hq] at hi; simp at hi; exact ⟨i, rfl, hi.1, hi.2.1, hi.2.2⟩
  clear hi
  go_enter Try.func90, Try.ntmps90
  go_wp2_with fail
  refine (right_spec HD.out).mono ?_
  rintro e w1 ⟨v, l, rfl, ⟨hl, hnear⟩, hn, hb, hd⟩
  have NR : Hid (Near l) := hnear
  clear hnear
  have HN : Hid (NewInts w.heap.size w1 v l) := hn
  have HB1 : Hid (But g w w1) := hb
  have HD1 : Hid (DrawOk B g w1) := hd
  clear hn hb hd
  go_wp2_with fail
  refine (below_small HD1.out 20 (by decide) (by decide)).mono ?_
  rintro e w2 ⟨x, x1, x2, rfl, hb, hd⟩
  have HB2 : Hid (But g _ w2) := hb
  have HD2 : Hid (DrawOk B g w2) := hd
  have hz2 := hd.lt
  clear hb hd
  have HN2 : Hid (NewInts w.heap.size w2 v l) := HN.out.but HB2.out hgw
  have HB12 : Hid (But g w w2) := HB1.out.trans HB2.out
  have hsz := HB12.out.size
  clear HN
  by_cases q0 : x = 0
  · subst q0
    go_wp2_with fail
    refine (pick_spec (B := B) (g := g) (gl := w2.heap.size) (HD2.out.alloc _) 4 4 (by decide) (by decide) (by omega) (by simp) (nums_alloc w2 [(-1 : Int), 0, 300, 301] _) rfl).mono ?_
    rintro e w3 ⟨y, rfl, hb, hd, hm⟩
    have HB3 : Hid (But g _ w3) := hb
    have HD3 : Hid (DrawOk B g w3) := hd
    have hz3 := hd.lt
    clear hb hd
    have HN3 : Hid (NewInts w.heap.size w3 v l) := (HN2.out.but ((But.refl g w2).alloc _) hgw).but HB3.out hgw
    have HB13 : Hid (But g w w3) := (HB12.out.alloc _).trans HB3.out
    have hsz3 := HB13.out.size
    go_wp2_with (at_builtin; refine wpList_append_own _ rfl _ _ 25 rfl w.heap.size 3 i0 (.int .i64 0) 1 8 Try.underlying25 hq z1 z2 z3 rfl (by decide) _ _ _ rfl (World.ownsRow.alloc HN3.out _) ⟨w3.heap.size, 0, none⟩ 1 1 [.int .i64 y] rfl rfl ?c1 ?c2 ?c3 ?c4 ?c5 ?_)
    case c1 =>
      intro j u hj
      match j, hj with
      | 0, hj => simp at hj; subst hj; simp [Addr.add]
    case c2 => intro u hu; simp at hu; subst hu; rfl
    case c3 => unfold maxLen; omega
    case c4 => omega
    case c5 => simp; omega
    intro v' w4 hown hgrow _
    have hrow := HN3.out.row
    have HN4 : Hid (NewInts w.heap.size w4 v' (l ++ [y])) := by
      show World.ownsRow _ _ _ _ _ _ _
      simpa using hown
    have HB4 : Hid (But g w w4) := (HB13.out.alloc _).grown hgrow hrow
    have HD4 : Hid (DrawOk B g w4) := (HD3.out.alloc _).grown hgrow (fun k e => by have := hrow k e; omega)
    clear hown hgrow hrow
    go_wp2
    go_ret
    exact ⟨_, l ++ [y], rfl, ⟨by simp; omega, by intro x h; simp at h hm; rcases h with h | h; exact NR.out x h; omega⟩, HN4.out, HB4.out, HD4.out⟩
  by_cases q1 : x = 1
  · subst q1
    go_wp2
    go_ret
    exact ⟨_, [1, 1, 1, 1], rfl, ⟨by simp, by intro x h; simp at h; omega⟩, newInts_alloc w2 [1, 1, 1, 1] hsz (by simp), HB12.out.alloc _, HD2.out.alloc _⟩
  by_cases q2 : x = 2
  · subst q2
    go_wp2_with fail
    refine (pick_spec (B := B) (g := g) (gl := w2.heap.size) (HD2.out.alloc _) 4 4 (by decide) (by decide) (by omega) (by simp) (nums_alloc w2 [17, 20, 15, 300] _) rfl).mono ?_
    rintro e w3 ⟨y, rfl, hb, hd, hm⟩
    have HB3 : Hid (But g _ w3) := hb
    have HD3 : Hid (DrawOk B g w3) := hd
    have hz3 := hd.lt
    clear hb hd
    go_wp2_with fail
    refine (pick_spec (B := B) (g := g) (gl := w3.heap.size) (HD3.out.alloc _) 4 4 (by decide) (by decide) (by omega) (by simp) (nums_alloc w3 [15, 20, 16, 0] _) rfl).mono ?_
    rintro e w4 ⟨u, rfl, hb, hd, hm2⟩
    have HB4 : Hid (But g _ w4) := hb
    have HD4 : Hid (DrawOk B g w4) := hd
    have hz4 := hd.lt
    clear hb hd
    have HB14 : Hid (But g w w4) := (((HB12.out.alloc _).trans HB3.out).alloc _).trans HB4.out
    have hsz4 := HB14.out.size
    go_wp2
    go_ret
    exact ⟨_, [y, u], rfl, ⟨by simp, by intro x h; simp at h hm hm2; omega⟩, newInts_alloc w4 [y, u] hsz4 (by simp), HB14.out.alloc _, HD4.out.alloc _⟩
  · go_wp2
    go_ret
    exact ⟨_, l, rfl, ⟨by omega, NR.out⟩, HN2.out, HB12.out, HD2.out⟩
end Go.Proofs.Ytmmjidhpmbcoiaa
namespace Go.Proofs.Ytmmjidhpmbcoiaa
open Go.RowKit
set_option linter.unusedVariables false
set_option maxRecDepth 20000 in
set_option maxHeartbeats 1000000 in
theorem below_big {B g : Nat} {w : World} (hd : DrawOk B g w) (n : Int) (n0 : 256 < n) (n1 : n ≤ 1073741824) :
    Calls Try.prog 42 #[.pointer (some ⟨g, 0, none⟩), .int .i64 n] w fun e w' => ∃ x : Int, 0 ≤ x ∧ x < n ∧ e = .returned (.int .i64 x) ∧ But g w w' ∧ DrawOk B g w' := by
  have HD0 : Hid (DrawOk B g w) := hd
  clear hd
  have hn : ¬ n ≤ 0 := by omega
  have hn2 : ¬ n ≤ 256 := by omega
  go_enter Try.func42, Try.ntmps42
  go_wp2_with fail
  refine (byte_spec HD0.out).mono ?_
  rintro e w1 ⟨x1, a1, b1, rfl, hb, hd⟩
  have HB1 : Hid (But g _ w1) := hb
  have HD1 : Hid (DrawOk B g w1) := hd
  clear hb hd
  go_wp2_with fail
  refine (byte_spec HD1.out).mono ?_
  rintro e w2 ⟨x2, a2, b2, rfl, hb, hd⟩
  have HB2 : Hid (But g _ w2) := hb
  have HD2 : Hid (DrawOk B g w2) := hd
  clear hb hd
  go_wp2_with fail
  refine (byte_spec HD2.out).mono ?_
  rintro e w3 ⟨x3, a3, b3, rfl, hb, hd⟩
  have HB3 : Hid (But g _ w3) := hb
  have HD3 : Hid (DrawOk B g w3) := hd
  clear hb hd
  go_wp2_with fail
  refine (byte_spec HD3.out).mono ?_
  rintro e w4 ⟨x4, a4, b4, rfl, hb, hd⟩
  have HB4 : Hid (But g _ w4) := hb
  have HD4 : Hid (DrawOk B g w4) := hd
  clear hb hd
  go_wp2
  go_ret
  exact ⟨_, Int.emod_nonneg _ (by omega), Int.emod_lt_of_pos _ (by omega), rfl, ((HB1.out.trans HB2.out).trans HB3.out).trans HB4.out, HD4.out⟩
set_option maxHeartbeats 1000000 in
theorem below_none {B g : Nat} {w : World} (hd : DrawOk B g w) (n : Int) (n0 : n ≤ 0) :
    Calls Try.prog 42 #[.pointer (some ⟨g, 0, none⟩), .int .i64 n] w fun e w' => ∃ x : Int, 0 ≤ x ∧ x < 1 ∧ e = .returned (.int .i64 x) ∧ But g w w' ∧ DrawOk B g w' := by
  have HD0 : Hid (DrawOk B g w) := hd
  clear hd
  go_enter Try.func42, Try.ntmps42
  go_wp2
  go_ret
  exact ⟨0, by decide, by decide, rfl, But.refl _ _, HD0.out⟩
/-- A number from 0 up to below n (0, where n is none above nought). -/
theorem below_any {B g : Nat} {w : World} (hd : DrawOk B g w) (n : Int) (n1 : n ≤ 1073741824) :
    Calls Try.prog 42 #[.pointer (some ⟨g, 0, none⟩), .int .i64 n] w fun e w' => ∃ x : Int, 0 ≤ x ∧ (x < n ∨ x = 0) ∧ e = .returned (.int .i64 x) ∧ But g w w' ∧ DrawOk B g w' := by
  by_cases h0 : n ≤ 0
  · refine (below_none hd n h0).mono ?_
    rintro e w' ⟨x, h1, h2, r⟩
    exact ⟨x, h1, .inr (by omega), r⟩
  · by_cases h1 : n ≤ 256
    · refine (below_small hd n (by omega) h1).mono ?_
      rintro e w' ⟨x, h1, h2, r⟩
      exact ⟨x, h1, .inl h2, r⟩
    · refine (below_big hd n (by omega) n1).mono ?_
      rintro e w' ⟨x, h1, h2, r⟩
      exact ⟨x, h1, .inl h2, r⟩
theorem Src.mono {B B' : Nat} {w : World} {a : Option Addr} {len : Nat} (h : Src B w a len) (hB : B ≤ B') : Src B' w a len := by
  refine ⟨h.1, ?_⟩
  rcases h.2 with h | ⟨b, off, e, hb, hc⟩
  · exact .inl h
  · exact .inr ⟨b, off, e, by omega, hc⟩
end Go.Proofs.Ytmmjidhpmbcoiaa
namespace Go.Proofs.Ytmmjidhpmbcoiaa
open Go.RowKit
set_option linter.unusedVariables false
set_option linter.unusedSimpArgs false
set_option maxRecDepth 20000 in
set_option maxHeartbeats 1000000 in
theorem drawRoom_spec {w : World} {a : Option Addr} {len cap : Nat} (hs : Src w.heap.size w a len) (hb20 : len ≤ 1048576) :
    Calls Try.prog 10 #[.slice a len cap] w fun e w' => ∃ x : Int, e = .returned (.int .i64 x) ∧ (-1 ≤ x ∧ x ≤ 6001) ∧ Below w.heap.size w w' := by
  have HS : Hid (Src w.heap.size w a len) := hs
  clear hs
  go_enter Try.func10, Try.ntmps10
  go_wp2_with fail
  refine (new_spec HS.out hb20).mono ?_
  rintro e w1 ⟨g, rfl, hb, hd⟩
  have HB1 : Hid (Below w.heap.size w w1) := hb
  have HD1 : Hid (DrawOk w.heap.size g w1) := hd
  clear hb hd
  go_wp2_with fail
  refine (below_big HD1.out 300 (by decide) (by decide)).mono ?_
  rintro e w2 ⟨y, y1, y2, rfl, hb, hd⟩
  have HB2 : Hid (But g w1 w2) := hb
  have HD2 : Hid (DrawOk w.heap.size g w2) := hd
  have hz := hd.lt
  clear hb hd
  go_wp2_with fail
  refine (pick_spec (B := w.heap.size) (g := g) (gl := w2.heap.size) (HD2.out.alloc _) 6 6 (by decide) (by decide) (by omega) (by simp) (nums_alloc w2 [(-1 : Int), 0, 1, 6000, 6001, y] _) rfl).mono ?_
  rintro e w3 ⟨x, rfl, hb3, hd3, hm⟩
  have HB3 : Hid (But g w1 w3) := (HB2.out.alloc _).trans hb3
  have HX : Hid (-1 ≤ x ∧ x ≤ 6001) := by
    show _ ∧ _
    simp only [List.mem_cons, List.not_mem_nil, or_false] at hm
    omega
  clear hb3 hd3 hm
  go_wp2
  go_ret
  exact ⟨_, rfl, HX.out, HB1.out.trans (HB3.out.below HD1.out.1 HB1.out.size)⟩
end Go.Proofs.Ytmmjidhpmbcoiaa
