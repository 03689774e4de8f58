/-
  Walks: the specification's ArrayRead.
-/
import Derived.Test.YtonkiipdobpfgaaArdS
namespace Go.Proofs.Ytonkiipdobpfgaa
open Go.RowKit
set_option linter.unusedVariables false
set_option linter.unusedSimpArgs false
theorem Box.put0 {w : World} {g : Nat} {x y : Value} {t : TypeId} (h : Box w g x y t) (u : Value) : Box (w.setCell ⟨g, 0, none⟩ u) g u y t := by
  have := heap_setCell_same w g 0 _ _ u h
  unfold Box; simpa using this
theorem Box.put1 {w : World} {g : Nat} {x y : Value} {t : TypeId} (h : Box w g x y t) (u : Value) : Box (w.setCell ⟨g, 1, none⟩ u) g x u t := by
  have := heap_setCell_same w g 1 _ _ u h
  unfold Box; simpa using this
theorem Box.keepB {w w' : World} {B g : Nat} {x y : Value} {t : TypeId} (h : Box w g x y t) (hb : Below B w w') (hg : g < B) : Box w' g x y t := by
  unfold Box; rw [hb.block g hg]; exact h
theorem blocks3Z (w : World) (A B C : Obj) : (((w.alloc A).alloc B).alloc C).heap[w.heap.size]? = some A ∧ (((w.alloc A).alloc B).alloc C).heap[w.heap.size + 1]? = some B ∧ (((w.alloc A).alloc B).alloc C).heap[w.heap.size + 1 + 1]? = some C := by
  have e1 := heap_alloc_new w A
  have e2 := heap_alloc_new (w.alloc A) B
  have e3 := heap_alloc_new ((w.alloc A).alloc B) C
  simp only [World.size_alloc] at e2 e3
  refine ⟨?_, ?_, e3⟩
  · rw [heap_alloc_old _ _ (by simp only [World.size_alloc]; omega), heap_alloc_old _ _ (by simp only [World.size_alloc]; omega)]; exact e1
  · rw [heap_alloc_old _ _ (by simp only [World.size_alloc]; omega)]; exact e2
/-- The three boxes while the shape is read. -/
structure ShK (w W : World) (k : Nat) (a1 : Option Addr) (c1 : Nat) (f : Nat → Int) : Prop where
  X : Box W w.heap.size (.slice none 0 0) (.slice none 0 0) 29
  Y : Box W (w.heap.size + 1) (.slice none 0 0) (.slice none 0 0) 29
  Z : Box W (w.heap.size + 1 + 1) (.slice a1 k c1) (.slice none 0 0) 29
  row : NewInts (w.heap.size + 1 + 1 + 1) W (.slice a1 k c1) ((List.range k).map f)
  below : Below w.heap.size w W
theorem ShK.keep {w W W' : World} {k : Nat} {a1 : Option Addr} {c1 : Nat} {f : Nat → Int} (h : ShK w W k a1 c1 f) (hb : Below W.heap.size W W') : ShK w W' k a1 c1 f :=
  ⟨h.X.keep hb, h.Y.keep hb, h.Z.keep hb, h.row.keep hb, bTrans h.below hb⟩
/-- One number more. -/
theorem ShK.grow {w W : World} {k : Nat} {a1 : Option Addr} {c1 : Nat} {f : Nat → Int} (h : ShK w W k a1 c1 f) (hk : k ≤ 300) :
    ∃ a9 c9 w9, (Builtin.append_ #[22, 22] 22 #[.slice a1 k c1, .slice (some ⟨W.heap.size, 0, none⟩) 1 1]).run Try.prog (W.alloc (.cells #[.int .i64 (f k)] 3)).drew = .ok (.slice a9 (k + 1) c9) w9 ∧ Box w9 (w.heap.size + 1 + 1) (.slice a1 k c1) (.slice none 0 0) 29 ∧ Below w.heap.size w w9 ∧ ShK w (w9.setCell ⟨w.heap.size + 1 + 1, 0, none⟩ (.slice a9 (k + 1) c9)) (k + 1) a9 c9 f := by
  have bA : Below W.heap.size W (W.alloc (.cells #[.int .i64 (f k)] 3)).drew := (bAlloc (Below.refl _ _) _).drew
  have hz := h.Z.lt
  have q : Ints (W.alloc (.cells #[.int .i64 (f k)] 3)).drew (some ⟨W.heap.size, 0, none⟩) [f k] := (ints_new W [f k] 3).keep ((Below.refl _ _).drew)
  obtain ⟨a9, c9, w9, hr, hn, hb⟩ := growL (w := (W.alloc (.cells #[.int .i64 (f k)] 3)).drew) (h.row.keep bA) q (Nat.le_trans hz bA.size) (by simp; omega) 1
  have e : (List.range k).map f ++ [f k] = (List.range (k + 1)).map f := by rw [List.range_succ]; simp
  rw [e] at hr hn
  have el : ((List.range (k + 1)).map f).length = k + 1 := by simp
  rw [el] at hr hn
  have b2 : Below (w.heap.size + 1 + 1 + 1) W w9 := (bA.mono hz).trans hb
  have Z9 := h.Z.keepB b2 (by omega)
  have X9 := h.X.keepB b2 (by omega)
  have Y9 := h.Y.keepB b2 (by omega)
  have B9 : Below w.heap.size w w9 := h.below.trans (b2.mono (by omega))
  refine ⟨a9, c9, w9, by simpa using hr, Z9, B9, ?_⟩
  refine ⟨X9.win (win_setCell _ _ _ _) (.inl (by show _ < w.heap.size + 1 + 1; omega)), Y9.win (win_setCell _ _ _ _) (.inl (by show _ < w.heap.size + 1 + 1; omega)), Z9.put0 _, ?_, below_setCell B9 (by show _ ≤ w.heap.size + 1 + 1; omega) _ _⟩
  exact hn.setCellR (by omega) _ _
/-- The three boxes while the numbers are read. -/
structure DtK (w W3 W : World) (q : Nat) (a1 : Option Addr) (c1 : Nat) (S : List Int) (k : Nat) (a2 : Option Addr) (c2 : Nat) (D : List Int) : Prop where
  X : Box W w.heap.size (.slice none 0 0) (.slice none 0 0) 29
  Y : Box W (w.heap.size + 1) (.slice none 0 0) (.slice none 0 0) 29
  Z : Box W (w.heap.size + 1 + 1) (.slice a1 q c1) (.slice a2 k c2) 29
  shp : Piece (w.heap.size + 1 + 1 + 1) W3.heap.size W (.slice a1 q c1) S
  row : NewInts W3.heap.size W (.slice a2 k c2) D
  below : Below w.heap.size w W
  len : D.length = k
  lt : w.heap.size + 1 + 1 < W3.heap.size
  le : W3.heap.size ≤ W.heap.size
theorem DtK.keep {w W3 W W' : World} {q : Nat} {a1 : Option Addr} {c1 : Nat} {S : List Int} {k : Nat} {a2 : Option Addr} {c2 : Nat} {D : List Int} (h : DtK w W3 W q a1 c1 S k a2 c2 D) (hb : Below W.heap.size W W') : DtK w W3 W' q a1 c1 S k a2 c2 D :=
  ⟨h.X.keep hb, h.Y.keep hb, h.Z.keep hb, h.shp.keep hb, h.row.keep hb, bTrans h.below hb, h.len, h.lt, Nat.le_trans h.le hb.size⟩
theorem DtK.grow {w W3 W : World} {q : Nat} {a1 : Option Addr} {c1 : Nat} {S : List Int} {k : Nat} {a2 : Option Addr} {c2 : Nat} {D : List Int} (h : DtK w W3 W q a1 c1 S k a2 c2 D) (hk : k < 1048576) (x : Int) :
    ∃ a9 c9 w9, (Builtin.append_ #[22, 22] 22 #[.slice a2 k c2, .slice (some ⟨W.heap.size, 0, none⟩) 1 1]).run Try.prog (W.alloc (.cells #[.int .i64 x] 3)) = .ok (.slice a9 (k + 1) c9) w9 ∧ Box w9 (w.heap.size + 1 + 1) (.slice a1 q c1) (.slice a2 k c2) 29 ∧ DtK w W3 (w9.setCell ⟨w.heap.size + 1 + 1, 1, none⟩ (.slice a9 (k + 1) c9)) q a1 c1 S (k + 1) a9 c9 (D ++ [x]) := by
  obtain ⟨a9, c9, w9, hr, hn, hb⟩ := grow1 x h.row h.le (by rw [h.len]; exact hk)
  rw [h.len] at hr hn
  have hl := h.lt
  have Z9 := h.Z.keepB hb hl
  refine ⟨a9, c9, w9, hr, Z9, ?_⟩
  refine ⟨(h.X.keepB hb (by omega)).win (win_setCell _ _ _ _) (.inl (by show _ < w.heap.size + 1 + 1; omega)), (h.Y.keepB hb (by omega)).win (win_setCell _ _ _ _) (.inl (by show _ < w.heap.size + 1 + 1; omega)), Z9.put1 _, ?_, hn.setCellR hl _ _, below_setCell (h.below.trans (hb.mono (by omega))) (by show _ ≤ w.heap.size + 1 + 1; omega) _ _, by simp [h.len], hl, by simp only [size_setCell]; exact Nat.le_trans h.le hb.size⟩
  exact (h.shp.belowC hb (Nat.le_refl _)).win (win_setCell _ _ _ _) (.inr (Nat.le_refl _))
theorem DtK.arr {w W3 W : World} {q : Nat} {a1 : Option Addr} {c1 : Nat} {S : List Int} {k : Nat} {a2 : Option Addr} {c2 : Nat} {D : List Int} (h : DtK w W3 W q a1 c1 S k a2 c2 D) : Arr (w.heap.size + 1 + 1 + 1) W.heap.size W (.agg #[.slice a1 q c1, .slice a2 k c2]) S D :=
  ⟨_, _, rfl, h.shp.mono (Nat.le_refl _) h.le, h.row.piece.mono h.lt (Nat.le_refl _), h.shp.apart h.row.piece (.inl (Nat.le_refl _))⟩
set_option maxRecDepth 20000 in
set_option maxHeartbeats 8000000 in
theorem arrayRead_long {b : List Int} {g off n c : Nat} {w : World} (h : Bys w (some ⟨g, off, none⟩) b) (hb : isB b) (hn : b.length = n) (hm : n ≤ 1048576) (h3 : rkB b ≤ 3) (hq : offB b ≤ n) :
    Calls Try.prog 15 #[.slice (some ⟨g, off, none⟩) n c] w fun r w' => ArdPost w b r w' := by
  have h0 : 0 < n := by unfold offB at hq; omega
  obtain ⟨_, _, e, hg, c0⟩ := h.at (k := 0) (by omega)
  cases e
  rw [Nat.add_zero] at c0
  have H : Hid (Bys w (some ⟨g, off, none⟩) b) := h
  have HB : Hid (isB b) := hb
  have HN : Hid (b.length = n) := hn
  have b0 := isB_getD hb 0
  obtain ⟨q, hqe⟩ : ∃ q, q = rkB b := ⟨_, rfl⟩
  have en : b.getD 0 0 = (q : Int) := by unfold rkB at hqe; omega
  have EO : offB b = 1 + 2 * q := by rw [hqe]; rfl
  have HEO : Hid (offB b = 1 + 2 * q ∧ rkB b = q) := ⟨EO, hqe.symm⟩
  rw [EO] at hq
  rw [← hqe] at h3
  rw [en] at c0
  have i0 : ¬ ((n : Int) = 0) := by omega
  have i1 : ((n : Int) == 0) = false := by simpa using i0
  have wn : IntKind.i64.wrap (q : Int) = (q : Int) := by rw [IntKind.wrap_i64]; omega
  have n3 : ¬ (3 : Int) < (q : Int) := by omega
  have lt9 : ¬ (n : Int) - 1 < 2 * (q : Int) := by omega
  have q3 : q ≤ 3 := h3
  have SK : Hid (∀ W, Below w.heap.size w W → W.cell? ⟨g, off, none⟩ = some (.int .u8 (q : Int))) := fun W hb => (hb.cell (p := ⟨g, off, none⟩) hg).trans c0
  have ES : Hid (shB b = (List.range q).map (dimB b)) := by show _ = _; rw [hqe]; rfl
  have QN : Hid (1 + 2 * q ≤ n) := hq
  have q2 := blocks3Z w (.cells #[.slice none 0 0, .slice none 0 0] 29) (.cells #[.slice none 0 0, .slice none 0 0] 29) (.cells #[.slice none 0 0, .slice none 0 0] 29)
  have B1 : Below w.heap.size w (((w.alloc (.cells #[.slice none 0 0, .slice none 0 0] 29)).alloc (.cells #[.slice none 0 0, .slice none 0 0] 29)).alloc (.cells #[.slice none 0 0, .slice none 0 0] 29)) := bAlloc (bAlloc (bAlloc (Below.refl _ _) _) _) _
  have S0 : Hid (ShK w (((w.alloc (.cells #[.slice none 0 0, .slice none 0 0] 29)).alloc (.cells #[.slice none 0 0, .slice none 0 0] 29)).alloc (.cells #[.slice none 0 0, .slice none 0 0] 29)) 0 none 0 (dimB b)) := ⟨q2.1, q2.2.1, q2.2.2, NewInts.nil _ _, B1⟩
  have cB : Hid (∀ A B : Obj, ((w.alloc A).alloc B).cell? ⟨g, off, none⟩ = some (.int .u8 (q : Int))) := fun A B => SK.out _ (bAlloc (bAlloc (Below.refl _ _) _) _)
  have c1 := cB.out (.cells #[.slice none 0 0, .slice none 0 0] 29) (.cells #[.slice none 0 0, .slice none 0 0] 29)
  clear h hb hn en c0 hg hqe EO b0 q2 B1 cB h3
  go_enter Try.func15, Try.ntmps15
  go_wp2_with fail
  go_loopw [6, 7] (fun at_ i w' => ∃ (k : Nat) (a1 : Option Addr) (c1 : Nat), k ≤ q ∧ i = .int .i64 (k : Int) ∧ at_ = .int .i64 ((1 + 2 * k : Nat) : Int) ∧ ShK w w' k a1 c1 (dimB b)) (fun _ i _ => q - (intOf i).toNat)
  case atStart => exact ⟨0, none, 0, by omega, rfl, rfl, S0.out⟩
  case round =>
    obtain ⟨k, a1, c2, hk, rfl, rfl, hS⟩ := hrel
    have SH : Hid (ShK w wr k a1 c2 (dimB b)) := hS
    clear hS S0 c1
    have c1 := SK.out _ SH.out.below
    by_cases hlt : (k : Int) < (q : Int)
    · have L : k < q := by omega
      obtain ⟨P, hP⟩ : ∃ P, P = 1 + 2 * k := ⟨_, rfl⟩
      have HP : Hid (P = 1 + 2 * k ∧ P + 1 < n) := ⟨hP, by have := QN.out; omega⟩
      obtain ⟨_, _, e, _, c5⟩ := (H.out.keep SH.out.below).at (k := P) (by rw [HN.out]; have := HP.out; omega)
      cases e
      obtain ⟨_, _, e, _, c6⟩ := (H.out.keep SH.out.below).at (k := P + 1) (by rw [HN.out]; have := HP.out; omega)
      cases e
      have b5 := isB_getD HB.out P
      have b6 := isB_getD HB.out (P + 1)
      have EF : dimB b k = b.getD P 0 + 256 * b.getD (P + 1) 0 := by unfold dimB; rw [hP]
      obtain ⟨a9, c9, w9, hr, hz9, hb9, hs9⟩ := SH.out.grow (by omega)
      rw [EF] at hr
      rw [← hP]
      clear hP EF
      generalize b.getD P 0 = x5 at *
      generalize b.getD (P + 1) 0 = x6 at *
      have R9 : Hid ((Builtin.append_ #[22, 22] 22 #[.slice a1 k c2, .slice (some ⟨wr.heap.size, 0, none⟩) 1 1]).run Try.prog (wr.alloc (.cells #[.int .i64 (x5 + 256 * x6)] 3)).drew = .ok (.slice a9 (k + 1) c9) w9) := hr
      have Z9 : Hid (Box w9 (w.heap.size + 1 + 1) (.slice a1 k c2) (.slice none 0 0) 29) := hz9
      have S9 : Hid (ShK w (w9.setCell ⟨w.heap.size + 1 + 1, 0, none⟩ (.slice a9 (k + 1) c9)) (k + 1) a9 c9 (dimB b)) := hs9
      have g0 := SH.out.Z.c0
      have g1 : ∀ o : Obj, (wr.alloc o).cell? ⟨w.heap.size + 1 + 1, 0, none⟩ = some (.slice a1 k c2) := fun o => (SH.out.keep (bAlloc (Below.refl _ _) o)).Z.c0
      have g9 := Z9.out.c0
      have f9 : w9.frozen? ⟨w.heap.size + 1 + 1, 0, none⟩ = false := free_at Z9.out 0
      have hp2 := HP.out.2
      have u5 : IntKind.i64.wrap ((P : Int) + 1) = (P : Int) + 1 := by rw [IntKind.wrap_i64]; omega
      have u6 : (P : Int) < (n : Int) := by omega
      have u7 : (P : Int) + 1 < (n : Int) := by omega
      have v6 : (0 : Int) ≤ (P : Int) + 1 := by omega
      have y6 : ((P : Int) + 1).toNat = P + 1 := by omega
      have wx5 : IntKind.i64.wrap x5 = x5 := by rw [IntKind.wrap_i64]; omega
      have wx6 : IntKind.i64.wrap x6 = x6 := by rw [IntKind.wrap_i64]; omega
      have wm : IntKind.i64.wrap (256 * x6) = 256 * x6 := by rw [IntKind.wrap_i64]; omega
      have ws : IntKind.i64.wrap (x5 + 256 * x6) = x5 + 256 * x6 := by rw [IntKind.wrap_i64]; omega
      clear hr hz9 hb9 hs9
      go_wp2_with fail
      go_region_law (refine step_append_ty (by rfl) (.tmp 45) (.tmp 59) 22 22 (by rfl) _ _ _ (by rfl) (by rfl) R9.out ?_)
      all_goals
        go_wp2
        go_roundw
        case rel => exact ⟨k + 1, a9, c9, by omega, by go_num, by have := HP.out.1; rw [this]; go_num, S9.out⟩
        case measure => simp [intOf]; omega
    · obtain rfl : k = q := by omega
      obtain ⟨V, rfl⟩ : ∃ V, V = wr := ⟨_, rfl⟩
      have LS : (shB b).length = k := by rw [ES.out]; simp
      have hrow : NewInts (w.heap.size + 1 + 1 + 1) V (.slice a1 k c2) (shB b) := by rw [ES.out]; exact SH.out.row
      have PS : Hid (Piece (w.heap.size + 1 + 1 + 1) V.heap.size V (.slice a1 k c2) (shB b)) := hrow.piece
      have DS : Hid (DtK w V V k a1 c2 (shB b) 0 none 0 []) := ⟨SH.out.X, SH.out.Y, SH.out.Z, PS.out, NewInts.nil _ _, SH.out.below, rfl, SH.out.Z.lt, Nat.le_refl _⟩
      have SZ : Hid (Calls Try.prog 31 #[.slice a1 k c2] V fun e w' => e = .returned (.int .i64 (sizeV (shB b))) ∧ w' = V) := by
        obtain ⟨_, _, e, i⟩ := PS.out.ints
        rw [← (Value.slice.inj e).1] at i
        have := size_spec c2 i
        rw [LS] at this
        exact this
      have zb := sizeV_bd (shB b)
      obtain ⟨P7, hP7⟩ : ∃ P7, P7 = 1 + 2 * k := ⟨_, rfl⟩
      rw [← hP7]
      have HP7 : Hid (offB b = P7 ∧ P7 ≤ n) := ⟨by rw [hP7]; exact HEO.out.1, by rw [hP7]; exact QN.out⟩
      have g0 := SH.out.Z.c0
      have x0 := SH.out.X.c0
      have x1 := SH.out.X.c1
      have y0 := SH.out.Y.c0
      have y1 := SH.out.Y.c1
      have f0 : V.frozen? ⟨w.heap.size, 0, none⟩ = false := free_at SH.out.X 0
      have f1 : V.frozen? ⟨w.heap.size, 1, none⟩ = false := free_at SH.out.X 1
      have HR : Hid (((V.setCell ⟨w.heap.size, 0, none⟩ (.slice none 0 0)).setCell ⟨w.heap.size, 1, none⟩ (.slice none 0 0)).heap[w.heap.size]? = some (.cells #[.slice none 0 0, .slice none 0 0] 29 (0, 0))) := arr_stored SH.out.X
      have BW : Hid (Below w.heap.size w V) := SH.out.below
      clear hrow SH ES hP7 LS QN
      by_cases hz : sizeV (shB b) * 8 = ((b.length - offB b : Nat) : Int)
      · have OKV : Hid (ardB b = arrOk (shB b) (dtB b)) := ardB_ok (by have := HN.out; have := HP7.out; omega) hz
        have EM := numB_size hz
        rw [HN.out, HP7.out.1] at EM hz
        have pn := HP7.out.2
        obtain ⟨m, hm2⟩ : ∃ m, m = numB b := ⟨_, rfl⟩
        rw [← hm2] at EM
        have ezm : sizeV (shB b) = (m : Int) := by omega
        have HM : Hid (m = numB b ∧ P7 + 8 * m = n) := ⟨hm2, by omega⟩
        rw [ezm] at SZ
        have m300 : m ≤ 300 := by omega
        have hne : ((n : Int) - (P7 : Int) != 8 * (m : Int)) = false := by simp; omega
        clear EM hz hm2 ezm zb HR
        go_wp2_with fail
        refine SZ.out.mono ?_
        rintro r w2 ⟨rfl, hw⟩
        subst w2
        go_wp2_with fail
        go_loopw [6, 9] (fun at_ i w' => ∃ (k2 : Nat) (a2 : Option Addr) (c3 : Nat), k2 ≤ m ∧ i = .int .i64 (k2 : Int) ∧ at_ = .int .i64 ((P7 + 8 * k2 : Nat) : Int) ∧ DtK w V w' k a1 c2 (shB b) k2 a2 c3 (numsW (b.drop P7) k2)) (fun _ i _ => m - (intOf i).toNat)
        case atStart => exact ⟨0, none, 0, by omega, rfl, rfl, DS.out⟩
        case round =>
          obtain ⟨k2, a2, c3, hk2, rfl, rfl, hD⟩ := hrel
          have DK : Hid (DtK w V wr k a1 c2 (shB b) k2 a2 c3 (numsW (b.drop P7) k2)) := hD
          clear hD DS g0 x0 x1 y0 y1 f0 f1 c1
          by_cases hlt2 : (k2 : Int) < (m : Int)
          · have L2 : k2 < m := by omega
            obtain ⟨A8, hA8⟩ : ∃ A8, A8 = P7 + 8 * k2 := ⟨_, rfl⟩
            have HA8 : Hid (A8 = P7 + 8 * k2 ∧ A8 + 8 ≤ n) := ⟨hA8, by have := HM.out.2; omega⟩
            rw [← hA8]
            clear hA8
            have V8 : Hid (wrp (valB (((b.drop A8).take 8).drop 8)) = 0) := by show _ = _; rw [valB_nil (by rw [List.length_take]; omega)]; decide
            go_wp2_with fail
            go_loop [10, 11] (fun y pj => ∃ j : Nat, j ≤ 8 ∧ pj = .int .i64 ((j : Int) - 1) ∧ y = .int .i64 (wrp (valB (((b.drop A8).take 8).drop j)))) (fun _ pj => (intOf pj + 1).toNat)
            case atStart => exact ⟨8, by omega, rfl, by rw [V8.out]⟩
            case round =>
              obtain ⟨j, hj, rfl, rfl⟩ := hrel
              by_cases hlt3 : 0 < j
              · obtain ⟨j, rfl⟩ : ∃ i, j = i + 1 := ⟨j - 1, by omega⟩
                rw [show (((j + 1 : Nat) : Int) - 1) = (j : Int) by omega]
                obtain ⟨_, _, e, _, cx⟩ := (H.out.keep DK.out.below).at (k := A8 + j) (by rw [HN.out]; have := HA8.out.2; omega)
                cases e
                have gx := isB_getD HB.out (A8 + j)
                have a8 := HA8.out.2
                have t1 : IntKind.i64.wrap ((A8 : Int) + (j : Int)) = (A8 : Int) + (j : Int) := by rw [IntKind.wrap_i64]; omega
                have t2 : (0 : Int) ≤ (A8 : Int) + (j : Int) := by omega
                have t3 : (A8 : Int) + (j : Int) < (n : Int) := by omega
                have t4 : ((A8 : Int) + (j : Int)).toNat = A8 + j := by omega
                have EQJ : Hid (wrp (wrp (valB (((b.drop A8).take 8).drop (j + 1))) * 256 + b.getD (A8 + j) 0) = wrp (valB (((b.drop A8).take 8).drop j))) := by
                  show _ = _
                  rw [valB_drop (l := (b.drop A8).take 8) (j := j) (by rw [List.length_take, List.length_drop, HN.out]; omega)]
                  have e : ((b.drop A8).take 8).getD j 0 = b.getD (A8 + j) 0 := by simp [List.getD_eq_getElem?_getD, List.getElem?_take, show j < 8 by omega]
                  rw [e]
                  generalize valB (((b.drop A8).take 8).drop (j + 1)) = V
                  unfold wrp
                  omega
                generalize b.getD (A8 + j) 0 = xj at *
                generalize wrp (valB (((b.drop A8).take 8).drop (j + 1))) = X at *
                have ES : Hid (wrp (X * 256 + xj) = wrp (valB (((b.drop A8).take 8).drop j))) := EQJ.out
                go_wp2
                go_round
                case rel => exact ⟨j, by omega, rfl, by rw [or_shl X xj gx.1 gx.2, ES.out]⟩
                case measure => simp [intOf]
              · obtain rfl : j = 0 := by omega
                obtain ⟨Y, hY⟩ : ∃ Y, Y = wrp (valB (((b.drop A8).take 8).drop 0)) := ⟨_, rfl⟩
                have E9 : Hid (wrap64 (Y - 1000000000000) = numW (b.drop A8)) := by show _ = _; rw [hY, List.drop_zero, wrap64_wrp]; rfl
                rw [← hY]
                clear hY V8
                obtain ⟨a9, c9, w9, hr, hz9, hd9⟩ := DK.out.grow (by omega) (numW (b.drop A8))
                have EN9 : numsW (b.drop P7) k2 ++ [numW (b.drop A8)] = numsW (b.drop P7) (k2 + 1) := by rw [numsW_take, List.drop_drop, HA8.out.1]
                rw [EN9] at hd9
                rw [← E9.out] at hr
                have R9 : Hid ((Builtin.append_ #[22, 22] 22 #[.slice a2 k2 c3, .slice (some ⟨wr.heap.size, 0, none⟩) 1 1]).run Try.prog (wr.alloc (.cells #[.int .i64 (wrap64 (Y - 1000000000000))] 3)) = .ok (.slice a9 (k2 + 1) c9) w9) := hr
                have D9 : Hid (DtK w V (w9.setCell ⟨w.heap.size + 1 + 1, 1, none⟩ (.slice a9 (k2 + 1) c9)) k a1 c2 (shB b) (k2 + 1) a9 c9 (numsW (b.drop P7) (k2 + 1))) := hd9
                have Z9 : Hid (Box w9 (w.heap.size + 1 + 1) (.slice a1 k c2) (.slice a2 k2 c3) 29) := hz9
                have d5 := DK.out.Z.c1
                have e5 := Z9.out.c1
                have g5 : w9.frozen? ⟨w.heap.size + 1 + 1, 1, none⟩ = false := free_at Z9.out 1
                have a8 := HA8.out.2
                clear hr hz9 hd9 EN9
                go_wp2_with (at_builtin; refine wpList_append_ty rfl _ _ 22 22 rfl _ _ _ rfl rfl R9.out ?_)
                go_roundw
                case rel => exact ⟨k2 + 1, a9, c9, by omega, by go_num, by have := HA8.out.1; rw [this]; go_num, D9.out⟩
                case measure => simp [intOf]; omega
          · obtain rfl : k2 = m := by omega
            have AA : Hid (Arr (w.heap.size + 1 + 1 + 1) wr.heap.size wr (.agg #[.slice a1 k c2, .slice a2 k2 c3]) (shB b) (numsW (b.drop P7) k2)) := DK.out.arr
            have OKW : Hid (ardB b = arrOk (shB b) (numsW (b.drop P7) k2)) := by show _ = _; rw [OKV.out]; unfold dtB; rw [HP7.out.1, ← HM.out.1]
            have EDT : Hid (dtB b = numsW (b.drop P7) k2) := by show _ = _; unfold dtB; rw [HP7.out.1, ← HM.out.1]
            have LD : (numsW (b.drop P7) k2).length ≤ 1048576 := by rw [numsW_len]; omega
            have CO : Hid (Calls Try.prog 21 #[.agg #[.slice a1 k c2, .slice a2 k2 c3]] wr fun e w' => e = .returned (.bool (ardB b)) ∧ Below wr.heap.size wr w') := by rw [OKW.out]; exact arrOk_spec AA.out.arrI LD
            have z0 := DK.out.Z.c0
            have z1 := DK.out.Z.c1
            cases hV : ardB b
            · have NO : Hid (ardB b = false) := hV
              rw [hV] at CO
              clear hV
              go_wp2_with fail
              refine CO.out.mono ?_
              rintro r w2 ⟨rfl, hb2⟩
              have D2 : Hid (DtK w V w2 k a1 c2 (shB b) k2 a2 c3 (numsW (b.drop P7) k2)) := DK.out.keep hb2
              clear hb2 CO
              have x0 := D2.out.X.c0
              have x1 := D2.out.X.c1
              have y0 := D2.out.Y.c0
              have y1 := D2.out.Y.c1
              have f0 : w2.frozen? ⟨w.heap.size, 0, none⟩ = false := free_at D2.out.X 0
              have f1 : w2.frozen? ⟨w.heap.size, 1, none⟩ = false := free_at D2.out.X 1
              have HR : Hid (((w2.setCell ⟨w.heap.size, 0, none⟩ (.slice none 0 0)).setCell ⟨w.heap.size, 1, none⟩ (.slice none 0 0)).heap[w.heap.size]? = some (.cells #[.slice none 0 0, .slice none 0 0] 29 (0, 0))) := arr_stored D2.out.X
              go_wp2
              refine bodyPost_ret (results_arr_tmp Try.results15 _ _ w.heap.size _ _ rfl HR.out) rfl (ardPost_no NO.out ?_)
              exact ⟨_, rfl, arr_zero _ _ _, below_setCell (below_setCell D2.out.below (Nat.le_refl _) _ _) (Nat.le_refl _) _ _⟩
            · have YES : Hid (ardB b = true) := hV
              rw [hV] at CO
              clear hV
              go_wp2_with fail
              refine CO.out.mono ?_
              rintro r w2 ⟨rfl, hb2⟩
              have D2 : Hid (DtK w V w2 k a1 c2 (shB b) k2 a2 c3 (numsW (b.drop P7) k2)) := DK.out.keep hb2
              clear hb2 CO z0 z1
              have x0 := D2.out.X.c0
              have x1 := D2.out.X.c1
              have z0 := D2.out.Z.c0
              have z1 := D2.out.Z.c1
              have f0 : w2.frozen? ⟨w.heap.size, 0, none⟩ = false := free_at D2.out.X 0
              have f1 : w2.frozen? ⟨w.heap.size, 1, none⟩ = false := free_at D2.out.X 1
              have HR : Hid (((w2.setCell ⟨w.heap.size, 0, none⟩ (.slice a1 k c2)).setCell ⟨w.heap.size, 1, none⟩ (.slice a2 k2 c3)).heap[w.heap.size]? = some (.cells #[.slice a1 k c2, .slice a2 k2 c3] 29 (0, 0))) := arr_stored D2.out.X
              have AF : Hid (Arr (w.heap.size + 1 + 1 + 1) w2.heap.size w2 (.agg #[.slice a1 k c2, .slice a2 k2 c3]) (shB b) (numsW (b.drop P7) k2)) := D2.out.arr
              go_wp2
              refine bodyPost_ret (results_arr_tmp Try.results15 _ _ w.heap.size _ _ rfl HR.out) rfl ?_
              unfold ArdPost
              rw [YES.out, if_pos rfl, if_pos rfl, EDT.out]
              refine ⟨_, rfl, ?_, below_setCell (below_setCell D2.out.below (Nat.le_refl _) _ _) (Nat.le_refl _) _ _⟩
              exact ((AF.out.setCell (by omega) _ _).setCell (by omega) _ _).mono (by omega) (by simp [size_setCell])
      · have NO : Hid (ardB b = false) := ardB_size hz
        rw [HN.out, HP7.out.1] at hz
        have pn := HP7.out.2
        have hne : ((n : Int) - (P7 : Int) != 8 * sizeV (shB b)) = true := by simp; omega
        generalize sizeV (shB b) = z at *
        by_cases z0 : z < 0
        · go_wp2_with fail
          refine SZ.out.mono ?_
          rintro r w2 ⟨rfl, hw⟩
          subst w2
          go_wp2
          refine bodyPost_ret (results_arr_tmp Try.results15 _ _ w.heap.size _ _ rfl HR.out) rfl (ardPost_no NO.out ?_)
          exact ⟨_, rfl, arr_zero _ _ _, below_setCell (below_setCell BW.out (Nat.le_refl _) _ _) (Nat.le_refl _) _ _⟩
        · go_wp2_with fail
          refine SZ.out.mono ?_
          rintro r w2 ⟨rfl, hw⟩
          subst w2
          go_wp2
          refine bodyPost_ret (results_arr_tmp Try.results15 _ _ w.heap.size _ _ rfl HR.out) rfl (ardPost_no NO.out ?_)
          exact ⟨_, rfl, arr_zero _ _ _, below_setCell (below_setCell BW.out (Nat.le_refl _) _ _) (Nat.le_refl _) _ _⟩
/-- The specification's ArrayRead. -/
theorem arrayRead_spec {b : List Int} {a : Option Addr} {n c : Nat} {w : World} (h : Bys w a b) (hb : isB b) (hn : b.length = n) (hm : n ≤ 1048576) :
    Calls Try.prog 15 #[.slice a n c] w fun r w' => ArdPost w b r w' := by
  by_cases h1 : n = 0 ∨ 3 < rkB b ∨ n < offB b
  · exact arrayRead_short h hb hn hm h1
  · obtain ⟨g, off, rfl, _⟩ := h.at (k := 0) (by omega)
    exact arrayRead_long h hb hn hm (by omega) (by omega)
end Go.Proofs.Ytonkiipdobpfgaa
