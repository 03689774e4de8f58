/-
  Walks: the program's Lex.
-/
import Derived.Test.YtcaidhmolnnikaaGreatDoorLexT
import Derived.Deep.RegionHeld3
namespace Go.Proofs.YtcaidhmolnnikaaGreatDoor
open Go.RowKit
set_option linter.unusedVariables false
set_option linter.unusedSimpArgs false
/-- errors.errorType holds the type error. -/
def TypW (w : World) : Prop := w.cell? ⟨0, 0, none⟩ = some (.iface 93 (.agg #[.pointer (some ⟨7, 44, none⟩)]))
theorem TypW.on {w w' : World} (h : TypW w) (hb : Below w.heap.size w w') : TypW w' := (hb.cell (p := ⟨0, 0, none⟩) (World.block_lt_of_cell? w _ h)).trans h
set_option maxRecDepth 20000 in
set_option maxHeartbeats 4000000 in
theorem lex_impl (HC : Cut95) (HP : Pre95) (HAt : AtoiD) (s : ByteArray) (hsz : s.size ≤ 1048576) {w : World} (he : ErrW w) (ht : TypW w) :
    Calls Tryz.prog 9 #[.string s] w fun e w' => ∃ v, e = .returned (.tuple #[v, .int .i64 (lexV s).2.1, .int .i64 ((lexV s).2.2 : Int)]) ∧ NewSp w.heap.size w' v (lexV s).1 ∧ Below w.heap.size w w' := by
  have HT : Hid (TypW w) := ht
  have ti := tokensOf_impl HC HP HAt s hsz he
  unfold TokPost at ti
  generalize lexV s = R at ti ⊢
  obtain ⟨l, c, n⟩ := R
  dsimp only at ti ⊢
  have TI : Hid _ := ti
  clear HC HP HAt he ht ti
  go_enter Tryz.func9, Tryz.ntmps9
  go_wp2_with fail
  refine Calls.mono TI.out ?_
  rintro e w1 ⟨v, er, rfl, hc, hb⟩
  have B1 : Hid (Below w.heap.size w w1) := hb
  rcases hc with ⟨h1, h2, rfl, h3⟩ | ⟨h1, h2, rfl, rfl⟩
  · have N1 : Hid (NewSp w.heap.size w1 v l) := h3
    have AN : Hid (∀ W t, Calls Tryz.prog 25 #[.nilIface, t] W fun e w' => e = .returned (.bool false) ∧ w' = W) := fun W t => as_nil t W
    have H1 : Hid (c = 0) := h1
    have H2 : Hid (n = s.size) := h2
    clear h1 h2 h3 hb TI
    go_wp2_with fail
    refine (AN.out _ _).mono ?_
    rintro e w2 ⟨rfl, hw2⟩
    subst w2
    go_wp2
    go_ret3
    rw [H1.out, H2.out]
    exact ⟨_, rfl, N1.out.keep (bAlloc (Below.refl _ _) _), bAlloc B1.out _⟩
  · have H1 : Hid (l = []) := h1
    obtain ⟨p, hp⟩ : ∃ p : Int, p = (n : Int) := ⟨_, rfl⟩
    rw [← hp]
    have HPn : Hid (p = (n : Int)) := hp
    clear hp
    have AH : Hid (∀ W t x y, TypW W → W.heap[t]? = some (.cells #[x, y] 48 (0, 0)) → Calls Tryz.prog 25 #[.iface 48 (.agg #[.int .i64 c, .int .i64 p]), .iface 50 (.pointer (some ⟨t, 0, none⟩))] W fun ev w' => ev = .returned (.bool true) ∧ w' = asW W t c p) := fun W t x y h3 h4 => as_hit c p t x y W h3 h4
    have Z : Hid ((w1.alloc (.cells #[.int .i64 0, .int .i64 0] 48)).heap[w1.heap.size]? = some (.cells #[.int .i64 0, .int .i64 0] 48 (0, 0))) := heap_alloc_new w1 _
    have TW : Hid (TypW (w1.alloc (.cells #[.int .i64 0, .int .i64 0] 48))) := HT.out.on (bAlloc B1.out _)
    have BA : Hid (Below w.heap.size w (asW (w1.alloc (.cells #[.int .i64 0, .int .i64 0] 48)) w1.heap.size c p)) := below_setCell (below_setCell (bAlloc (bAlloc (bAlloc (bAlloc (bAlloc B1.out _) _) _) _) _) B1.out.size _ _) B1.out.size _ _
    have ZA : Hid ((asW (w1.alloc (.cells #[.int .i64 0, .int .i64 0] 48)) w1.heap.size c p).heap[w1.heap.size]? = some (.cells #[.int .i64 c, .int .i64 p] 48 (0, 0))) := by
      have z := ((bAlloc (bAlloc (bAlloc (bAlloc (Below.refl (w1.alloc (.cells #[.int .i64 0, .int .i64 0] 48)).heap.size (w1.alloc (.cells #[.int .i64 0, .int .i64 0] 48))) (.cells #[.pointer (some ⟨w1.heap.size, 0, none⟩)] 50)) (.cells #[.pointer (some ⟨7, 50, none⟩), .pointer (some ⟨(w1.alloc (.cells #[.int .i64 0, .int .i64 0] 48)).heap.size, 0, none⟩), .int .u64 150] 74)) (.cells #[.pointer (some ⟨7, 50, none⟩), .pointer (some ⟨(w1.alloc (.cells #[.int .i64 0, .int .i64 0] 48)).heap.size, 0, none⟩), .int .u64 150] 74)) (.cells #[.int .i64 c, .int .i64 p] 48)).block _ (lt_of_heapA Z.out)).trans Z.out
      have h5 := heap_setCell_same _ w1.heap.size 0 _ _ (.int .i64 c) z
      have h6 := heap_setCell_same _ w1.heap.size 1 _ _ (.int .i64 p) h5
      show _ = _
      simpa [asW] using h6
    generalize hA : asW (w1.alloc (.cells #[.int .i64 0, .int .i64 0] 48)) w1.heap.size c p = wA at *
    have HA : Hid (asW (w1.alloc (.cells #[.int .i64 0, .int .i64 0] 48)) w1.heap.size c p = wA) := hA
    clear hA h1 h2 hb TI
    go_wp2_with fail
    refine (AH.out _ _ _ _ TW.out Z.out).mono ?_
    rintro e w2 ⟨rfl, hw2⟩
    rw [HA.out] at hw2
    subst hw2
    have c0 : w2.cell? ⟨w1.heap.size, 0, none⟩ = some (.int .i64 c) := cell_at ZA.out rfl
    have c1 : w2.cell? ⟨w1.heap.size, 1, none⟩ = some (.int .i64 p) := cell_at ZA.out rfl
    go_wp2
    go_region_held3 (fun w' => w'.cell? ⟨w1.heap.size, 0, none⟩ = some (.int .i64 c) ∧ w'.cell? ⟨w1.heap.size, 1, none⟩ = some (.int .i64 p))
      (exact ⟨c0, c1⟩)
      (fail)
    all_goals
      go_wp2
      go_ret3
      rw [H1.out, HPn.out]
      exact ⟨_, rfl, NewSp.nil _ _, BA.out.drew⟩
end Go.Proofs.YtcaidhmolnnikaaGreatDoor
