/-
  Several walks, one behind the other: PackI, FunQ, ArrPI, ArrPS, ArdP, EachM, EachP, SpecCopy, SpecOne, SpecEach1, EachF.
-/
import Derived.Test.YtonkiipdobpfgaaPackM
import Derived.Test.YtonkiipdobpfgaaBytK
import Derived.Test.YtonkiipdobpfgaaLaw3
import Derived.Deep.RegionHeld3
import Derived.Deep.Cut
import Derived.Test.YtonkiipdobpfgaaArrPM
import Derived.Test.YtonkiipdobpfgaaImplArr3
import Derived.Test.YtonkiipdobpfgaaSpecArr
import Derived.Test.YtonkiipdobpfgaaArdM
import Derived.Test.YtonkiipdobpfgaaArrM
import Derived.Test.YtonkiipdobpfgaaAppend
import Derived.Test.YtonkiipdobpfgaaSmall
namespace Go.Proofs.Ytonkiipdobpfgaa
open Go.RowKit
set_option linter.unusedVariables false
set_option linter.unusedSimpArgs false
set_option maxRecDepth 20000 in
set_option maxHeartbeats 4000000 in
theorem withCount_impl {B : Nat} {w : World} {a : Option Addr} {c : Nat} {l : List Int} (h : NewB B w (.slice a l.length c) l) (hB : B ≤ w.heap.size) (hl : l.length ≤ 1000000) (n : Nat) (hn : n ≤ 1048576) :
    Calls Try.prog 27 #[.slice a l.length c, .int .i64 (n : Int)] w fun r w' => ∃ a' c', r = .returned (.slice a' (l.length + 2) c') ∧ NewB B w' (.slice a' (l.length + 2) c') (l ++ [(n : Int) % 256, (n : Int) / 256 % 256]) ∧ Gr (.slice a l.length c) w (.slice a' (l.length + 2) c') w' := by
  obtain ⟨a5, c5, w5, hr, h5, hb5⟩ := growBs [(n : Int) % 256, (n : Int) / 256 % 256] h hB (by simp; omega)
  have R5 : Hid ((Builtin.append_ #[26, 26] 26 #[.slice a l.length c, .slice (some ⟨w.heap.size, 0, none⟩) 2 2]).run Try.prog (w.alloc (.cells #[.int .u8 ((n : Int) % 256), .int .u8 ((n : Int) / 256 % 256)] 5)) = .ok (.slice a5 (l.length + 2) c5) w5) := by show _ = _; simpa [bvals] using hr
  have N5 : Hid (NewB B w5 (.slice a5 (l.length + 2) c5) (l ++ [(n : Int) % 256, (n : Int) / 256 % 256])) := by show NewB _ _ _ _; simpa using h5
  have B5 : Hid (Gr (.slice a l.length c) w (.slice a5 (l.length + 2) c5) w5) := by show Gr _ _ _ _; simpa using hb5
  clear hr h5 hb5 h
  go_enter Try.func27, Try.ntmps27
  go_wp2_with (at_builtin; refine wpList_append_ty rfl _ _ 26 26 rfl _ _ _ rfl rfl R5.out ?_)
  go_ret
  exact ⟨_, _, rfl, N5.out, B5.out⟩
theorem num8_next (n : Int) (h : 0 ≤ n) (j : Nat) : n / 256 ^ j / 256 = n / 256 ^ (j + 1) := by
  rw [Int.ediv_ediv_of_nonneg (by exact Int.pow_nonneg (by decide)), Int.pow_succ]
set_option maxRecDepth 20000 in
set_option maxHeartbeats 8000000 in
theorem withNums_impl {B : Nat} {w : World} {a b : Option Addr} {c d : Nat} {l m : List Int} (h : NewB B w (.slice a l.length c) l) (hm : ∀ W, Below B w W → Ints W b m) (hB : B ≤ w.heap.size) (hl : l.length + 8 * m.length ≤ 1000000) (hk : m.all ok = true) :
    Calls Try.prog 28 #[.slice a l.length c, .slice b m.length d] w fun r w' => ∃ a' c', r = .returned (.slice a' (l ++ numsBy m).length c') ∧ NewB B w' (.slice a' (l ++ numsBy m).length c') (l ++ numsBy m) ∧ Gr (.slice a l.length c) w (.slice a' (l ++ numsBy m).length c') w' := by
  have H : Hid (NewB B w (.slice a l.length c) l) := h
  have HM : Hid (∀ W, Below B w W → Ints W b m) := hm
  have HL : Hid (l.length + 8 * m.length ≤ 1000000) := hl
  have HK : Hid (m.all ok = true) := hk
  have HB : Hid (B ≤ w.heap.size) := hB
  have hml : m.length ≤ 1000000 := by omega
  clear h hm hl hk hB
  go_enter Try.func28, Try.ntmps28
  go_wp2
  go_loopw [0, 10] (fun u i w' => ∃ (k : Nat) (a1 : Option Addr) (c1 : Nat), k ≤ m.length ∧ u = .slice a1 (l ++ numsBy (m.take k)).length c1 ∧ i = .int .i64 (k : Int) ∧ NewB B w' (.slice a1 (l ++ numsBy (m.take k)).length c1) (l ++ numsBy (m.take k)) ∧ Gr (.slice a l.length c) w u w') (fun _ i _ => m.length - (intOf i).toNat)
  case atStart => exact ⟨0, a, c, by omega, by simp [numsBy], rfl, by simpa [numsBy] using H.out, Gr.refl _ _⟩
  case round =>
    obtain ⟨k, a1, c1, hk, rfl, rfl, hN, hb⟩ := hrel
    have NK : Hid (NewB B wr (.slice a1 (l ++ numsBy (m.take k)).length c1) (l ++ numsBy (m.take k))) := hN
    have BK : Hid (Gr (.slice a l.length c) w (.slice a1 (l ++ numsBy (m.take k)).length c1) wr) := hb
    have BL : Hid (Below B w wr) := hb.below H.out.row HB.out
    clear hN hb
    by_cases hlt : (k : Int) < (m.length : Int)
    · have L : k < m.length := by omega
      obtain ⟨b1, o1, rfl, _, cx⟩ := (HM.out _ BL.out).at L
      have ET : Hid (l ++ numsBy (m.take (k + 1)) = (l ++ numsBy (m.take k)) ++ num8 (m.getD k 0 + 1000000000000)) := by show _ = _; rw [numsBy_take L, List.append_assoc]
      have LA : Hid ((l ++ numsBy (m.take k)).length + 8 ≤ 1000000) := by
        have := HL.out
        show _ ≤ _
        rw [List.length_append, numsBy_len, List.length_take]
        omega
      have OK : ok (m.getD k 0) = true := by
        have := List.all_eq_true.1 HK.out (m.getD k 0) (by simp [L])
        exact this
      obtain ⟨F', hF'⟩ : ∃ F', F' = l ++ numsBy (m.take (k + 1)) := ⟨_, rfl⟩
      have HF' : Hid (F' = l ++ numsBy (m.take (k + 1))) := hF'
      rw [← hF'] at ET
      clear hF' L
      generalize l ++ numsBy (m.take k) = A at *
      generalize m.getD k 0 = x at *
      have x0 : -1000000000000 ≤ x ∧ x ≤ 1000000000000 := by unfold ok at OK; simpa using OK
      clear OK
      obtain ⟨y, hy⟩ : ∃ y, y = x + 1000000000000 := ⟨_, rfl⟩
      have y0 : 0 ≤ y := by omega
      have y1 : y ≤ 2000000000000 := by omega
      rw [← hy] at ET
      have HY : Hid (x + 1000000000000 = y) := hy.symm
      clear hy
      go_wp2_with fail
      go_loopw [0, 7, 16] (fun u r i w' => ∃ (j : Nat) (a2 : Option Addr) (c2 : Nat), j ≤ 8 ∧ u = .slice a2 (A ++ (num8 y).take j).length c2 ∧ r = .int .i64 (y / 256 ^ j) ∧ i = .int .i64 (j : Int) ∧ NewB B w' (.slice a2 (A ++ (num8 y).take j).length c2) (A ++ (num8 y).take j) ∧ Gr (.slice a l.length c) w u w') (fun _ _ i _ => 8 - (intOf i).toNat)
      case atStart => exact ⟨0, a1, c1, by omega, by simp, by rw [HY.out]; simp, rfl, by simpa using NK.out, by simpa using BK.out⟩
      case round =>
        obtain ⟨j, a2, c2, hj, rfl, rfl, rfl, hN, hb⟩ := hrel
        have NJ : Hid (NewB B wr (.slice a2 (A ++ (num8 y).take j).length c2) (A ++ (num8 y).take j)) := hN
        have BJ : Hid (Gr (.slice a l.length c) w (.slice a2 (A ++ (num8 y).take j).length c2) wr) := hb
        clear hN hb
        by_cases hjt : (j : Int) < 8
        · have LJ : j < 8 := by omega
          have EJ : A ++ (num8 y).take (j + 1) = (A ++ (num8 y).take j) ++ [y / 256 ^ j % 256] := by rw [num8_take y LJ, List.append_assoc]
          have EN : Hid (y / 256 ^ j / 256 = y / 256 ^ (j + 1)) := num8_next y y0 j
          have LJ2 : (A ++ (num8 y).take j).length ≤ 1000000 := by have := LA.out; rw [List.length_append, List.length_take, num8_len]; omega
          obtain ⟨G', hG'⟩ : ∃ G', G' = A ++ (num8 y).take (j + 1) := ⟨_, rfl⟩
          have HG' : Hid (G' = A ++ (num8 y).take (j + 1)) := hG'
          rw [← hG'] at EJ
          clear hG'
          have z0 : 0 ≤ y / 256 ^ j := Int.ediv_nonneg y0 (Int.pow_nonneg (by decide))
          have z1 : y / 256 ^ j ≤ y := Int.ediv_le_self _ y0
          generalize y / 256 ^ j = z at *
          generalize A ++ (num8 y).take j = G at *
          obtain ⟨a5, c5, w5, hr, h5, hb5⟩ := growBs [z % 256] NJ.out (Nat.le_trans HB.out BJ.out.size) (by simp; omega)
          rw [← EJ] at hr h5
          have LG : Hid (G'.length = G.length + 1) := by show _ = _; rw [EJ]; simp
          rw [LG.out] at hr h5
          rw [show (G ++ [z % 256]).length = G.length + 1 by simp] at hb5
          have R5 : Hid ((Builtin.append_ #[26, 26] 26 #[.slice a2 G.length c2, .slice (some ⟨wr.heap.size, 0, none⟩) 1 1]).run Try.prog (wr.alloc (.cells #[.int .u8 (z % 256)] 5)) = .ok (.slice a5 (G.length + 1) c5) w5) := by show _ = _; simpa [bvals] using hr
          have N5 : Hid (NewB B w5 (.slice a5 (G.length + 1) c5) G') := h5
          have B5 : Hid (Gr (.slice a l.length c) w (.slice a5 (G.length + 1) c5) w5) := BJ.out.trans hb5
          clear hr h5 hb5 EJ
          go_wp2_with (at_builtin; refine wpList_append_ty rfl _ _ 26 26 rfl _ _ _ rfl rfl R5.out ?_)
          go_roundw
          case rel => exact ⟨j + 1, a5, c5, by omega, by rw [← HG'.out, LG.out], by rw [← EN.out], by go_num, by rw [← HG'.out, LG.out]; exact N5.out, B5.out⟩
          case measure => simp [intOf]; omega
        · obtain rfl : j = 8 := by omega
          have E8 : Hid (A ++ (num8 y).take 8 = F') := by show _ = _; rw [ET.out, List.take_of_length_le (by rw [num8_len]; omega)]
          rw [E8.out] at NJ BJ ⊢
          go_wp2
          go_roundw
          case rel => exact ⟨k + 1, a2, c2, by omega, by rw [← HF'.out], by go_num, by rw [← HF'.out]; exact NJ.out, BJ.out⟩
          case measure => simp [intOf]; omega
    · obtain rfl : k = m.length := by omega
      have E8 : m.take m.length = m := List.take_length
      rw [E8] at NK BK ⊢
      go_wp2
      go_ret
      exact ⟨_, _, rfl, by have := NK.out; rwa [List.length_append] at this, by have := BK.out; rwa [List.length_append] at this⟩
end Go.Proofs.Ytonkiipdobpfgaa
namespace Go.Proofs.Ytonkiipdobpfgaa
open Go.RowKit
set_option linter.unusedVariables false
set_option linter.unusedSimpArgs false
theorem one_below {w : World} {A : Obj} : Below w.heap.size w (w.alloc A) := bAlloc (Below.refl _ _) _
theorem two_below {w : World} {A B : Obj} : Below w.heap.size w ((w.alloc A).alloc B) := bAlloc (bAlloc (Below.refl _ _) _) _
theorem two_blocks9 (w : World) (A B : Obj) : ((w.alloc A).alloc B).heap[w.heap.size]? = some A ∧ ((w.alloc A).alloc B).heap[w.heap.size + 1]? = some B := by
  have e2 := heap_alloc_new (w.alloc A) B
  simp only [World.size_alloc] at e2
  exact ⟨by rw [heap_alloc_old _ _ (by simp only [World.size_alloc]; omega)]; exact heap_alloc_new w A, e2⟩
theorem eqInts_same9 {l : List Int} {w : World} {a b : Option Addr} (h : Ints w a l) (k : Ints w b l) (hl : l.length ≤ 1048576) (c d : Nat) :
    Calls Try.prog 29 #[.slice a l.length c, .slice b l.length d] w fun e w' => e = .returned (.bool true) ∧ Below w.heap.size w w' := by
  refine (eq_ints c d (by omega) h k).mono ?_
  rintro e w' ⟨rfl, j, rfl⟩
  exact ⟨by simp, bDrewN (Below.refl _ _) j⟩
end Go.Proofs.Ytonkiipdobpfgaa
namespace Go.Proofs.Ytonkiipdobpfgaa
open Go.RowKit
set_option linter.unusedVariables false
set_option linter.unusedSimpArgs false
/-- What ArrayPack answers. -/
def APost (w : World) (b : Bool) (P : List Int) (r : Ending) (w' : World) : Prop := ∃ a c, r = .returned (.tuple #[.slice a P.length c, .bool b]) ∧ NewB w.heap.size w' (.slice a P.length c) P ∧ Below w.heap.size w w'
theorem newB_nil (B : Nat) (w : World) : NewB B w (.slice none 0 0) [] := ⟨rfl, .inl ⟨rfl, rfl⟩⟩
set_option maxRecDepth 20000 in
set_option maxHeartbeats 8000000 in
/-- The program's ArrayPack. -/
theorem arrayPack_impl {s d : List Int} {w : World} {v : Value} (h : ArrI w v s d) (hd : d.length ≤ 1048576) :
    Calls Try.prog 9 #[v] w fun r w' => APost w (arrOk s d) (if arrOk s d = true then apack s d else []) r w' := by
  have H : Hid (ArrI w v s d) := h
  have CO : Hid (∀ W, Below w.heap.size w W → Calls Try.prog 22 #[v] W fun r w' => r = .returned (.bool (arrOk s d)) ∧ Below W.heap.size W w') := fun W hb => arrOk_impl (h.keep hb) hd
  obtain ⟨a, c, b, e, rfl, ia, ib, ga, gb⟩ := h
  clear ia ib ga gb hd
  cases hc : arrOk s d
  · rw [hc] at CO
    rw [if_neg (by decide)]
    clear hc
    go_enter Try.func9, Try.ntmps9
    go_wp2_with fail
    refine (CO.out _ (bAlloc (Below.refl _ _) _)).mono ?_
    rintro r w1 ⟨rfl, hb⟩
    have B1 : Hid (Below w.heap.size w w1) := bTrans (bAlloc (Below.refl _ _) _) hb
    clear hb
    go_wp2
    go_ret2
    exact ⟨none, 0, rfl, newB_nil _ _, B1.out⟩
  · rw [if_pos rfl]
    have s3 := arrOk_rk hc
    have d3 := arrOk_len hc
    have OKD : Hid (d.all ok = true) := arrOk_allP hc
    have DM : Hid (∀ k, k < s.length → ∃ m : Nat, s.getD k 0 = (m : Int) ∧ m ≤ 300) := fun k hk => arrOk_dim hc hk
    rw [hc] at CO
    clear hc
    have EP : Hid (apack s d = ((s.length : Int) :: cnts s) ++ numsBy d) := rfl
    generalize apack s d = PL at *
    go_enter Try.func9, Try.ntmps9
    go_wp2_with fail
    refine (CO.out _ (bAlloc (Below.refl _ _) _)).mono ?_
    rintro r w1 ⟨rfl, hb⟩
    have B1 : Hid (Below w.heap.size w w1) := bTrans (bAlloc (Below.refl _ _) _) hb
    have X1 : Hid (Box w1 w.heap.size (.slice a s.length c) (.slice b d.length e) 29) := (box_new w _ _ _).keep hb
    clear hb CO
    have x0 := X1.out.c0
    have x0a : ∀ O, (w1.alloc O).cell? ⟨w.heap.size, 0, none⟩ = some (.slice a s.length c) := fun O => (X1.out.keep one_below).c0
    have NA : Hid (∀ W, Below w1.heap.size w1 W → Ints W a s ∧ Ints W b d) := fun W hW => by
      obtain ⟨_, _, _, _, ev, h1, h2, _, _⟩ := H.out.keep (bTrans B1.out hW)
      cases ev
      exact ⟨h1, h2⟩
    go_wp2_with fail
    generalize hW : w1.alloc (.cells #[.int .u8 (s.length : Int)] 5) = W1
    have N1 : Hid (NewB w1.heap.size W1 (.slice (some ⟨w1.heap.size, 0, none⟩) 1 1) ((s.length : Int) :: cnts (s.take 0))) := by rw [← hW]; exact newB_alloc w1 [(s.length : Int)] (Nat.le_refl _) (by simp)
    have BB1 : Hid (Below w1.heap.size w1 W1) := by rw [← hW]; exact one_below
    clear hW x0 x0a
    go_loopw [4, 18] (fun u i w' => ∃ (k : Nat) (a1 : Option Addr) (c1 : Nat), k ≤ s.length ∧ u = .slice a1 ((s.length : Int) :: cnts (s.take k)).length c1 ∧ i = .int .i64 (k : Int) ∧ NewB w1.heap.size w' (.slice a1 ((s.length : Int) :: cnts (s.take k)).length c1) ((s.length : Int) :: cnts (s.take k)) ∧ Below w1.heap.size w1 w') (fun _ i _ => s.length - (intOf i).toNat)
    case atStart => exact ⟨0, _, _, by omega, rfl, rfl, N1.out, BB1.out⟩
    case round =>
      obtain ⟨k, a1, c1, hk, rfl, rfl, hN, hb⟩ := hrel
      have NK : Hid (NewB w1.heap.size wr (.slice a1 ((s.length : Int) :: cnts (s.take k)).length c1) ((s.length : Int) :: cnts (s.take k))) := hN
      have BK : Hid (Below w1.heap.size w1 wr) := hb
      clear hN hb N1 BB1
      by_cases hlt : (k : Int) < (s.length : Int)
      · have L : k < s.length := by omega
        obtain ⟨b1, o1, rfl, _, cx⟩ := (NA.out _ BK.out).1.at L
        obtain ⟨m, hm, hm3⟩ := DM.out k L
        have ET : Hid ((s.length : Int) :: cnts (s.take (k + 1)) = ((s.length : Int) :: cnts (s.take k)) ++ [(m : Int) % 256, (m : Int) / 256 % 256]) := by show _ = _; rw [cnts_take L, hm]; rfl
        rw [hm] at cx
        have LA : Hid (((s.length : Int) :: cnts (s.take k)).length ≤ 7) := by
          show _ ≤ _
          rw [List.length_cons, cnts_len, List.length_take]
          omega
        obtain ⟨F', hF'⟩ : ∃ F', F' = (s.length : Int) :: cnts (s.take (k + 1)) := ⟨_, rfl⟩
        have HF' : Hid (F' = (s.length : Int) :: cnts (s.take (k + 1))) := hF'
        rw [← hF'] at ET
        clear hF' L hm
        generalize (s.length : Int) :: cnts (s.take k) = A at *
        have LF : Hid (F'.length = A.length + 2) := by show _ = _; rw [ET.out]; simp
        have CW : Hid (Calls Try.prog 27 #[.slice a1 A.length c1, .int .i64 (m : Int)] wr fun r w' => ∃ a' c', r = .returned (.slice a' (A.length + 2) c') ∧ NewB w1.heap.size w' (.slice a' (A.length + 2) c') F' ∧ Below w1.heap.size w1 w') := by
          refine (withCount_impl NK.out BK.out.size (by have := LA.out; omega) m (by omega)).mono ?_
          rintro r w' ⟨a', c', rfl, h1, h2⟩
          rw [← ET.out] at h1
          exact ⟨a', c', rfl, h1, BK.out.trans (h2.below NK.out.row BK.out.size)⟩
        go_wp2_with fail
        refine CW.out.mono ?_
        rintro r w2 ⟨a2, c2, rfl, hN, hb⟩
        have N2 : Hid (NewB w1.heap.size w2 (.slice a2 (A.length + 2) c2) F') := hN
        have B2 : Hid (Below w1.heap.size w1 w2) := hb
        clear hN hb cx
        go_wp2
        go_roundw
        case rel => exact ⟨k + 1, a2, c2, by omega, by rw [← HF'.out, LF.out], by go_num, by rw [← HF'.out, LF.out]; exact N2.out, B2.out⟩
        case measure => simp [intOf]; omega
      · obtain rfl : k = s.length := by omega
        rw [List.take_length] at NK ⊢
        have LS : Hid (((s.length : Int) :: cnts s).length ≤ 7) := by
          show _ ≤ _
          rw [List.length_cons, cnts_len]
          omega
        generalize hA : (s.length : Int) :: cnts s = A at *
        have CN : Hid (Calls Try.prog 28 #[.slice a1 A.length c1, .slice b d.length e] wr fun r w' => ∃ a' c', r = .returned (.slice a' PL.length c') ∧ NewB w1.heap.size w' (.slice a' PL.length c') PL ∧ Below w1.heap.size w1 w') := by
          refine (withNums_impl NK.out (fun W hW => (NA.out W (BK.out.trans hW)).2) BK.out.size (by have := LS.out; omega) OKD.out).mono ?_
          rintro r w' ⟨a', c', rfl, h1, h2⟩
          rw [← EP.out] at h1 ⊢
          exact ⟨a', c', rfl, h1, BK.out.trans (h2.below NK.out.row BK.out.size)⟩
        have x1 := (X1.out.keep BK.out).c1
        clear hA
        go_wp2_with fail
        refine CN.out.mono ?_
        rintro r w2 ⟨a2, c2, rfl, hN, hb⟩
        have N2 : Hid (NewB w1.heap.size w2 (.slice a2 PL.length c2) PL) := hN
        have B2 : Hid (Below w1.heap.size w1 w2) := hb
        clear hN hb x1
        go_wp2
        go_ret2
        exact ⟨_, _, rfl, N2.out.mono B1.out.size, bTrans B1.out B2.out⟩
end Go.Proofs.Ytonkiipdobpfgaa
namespace Go.Proofs.Ytonkiipdobpfgaa
open Go.RowKit
set_option linter.unusedVariables false
set_option linter.unusedSimpArgs false
theorem u8_bd (x : Int) (h : 0 ≤ x) (h2 : x ≤ 255) : IntKind.u8.wrap x = x := by rw [IntKind.wrap_u8]; omega
theorem i64_bd (x : Int) (h : 0 ≤ x) (h2 : x ≤ 1048576) : IntKind.i64.wrap x = x := by rw [IntKind.wrap_i64]; omega
theorem u8_tmod (m : Nat) : IntKind.u8.wrap ((m : Int).tmod 256) = (m : Int) % 256 := by
  rw [Int.tmod_eq_emod_of_nonneg (Int.natCast_nonneg m), u8_bd _ (by omega) (by omega)]
theorem u8_quo {m : Nat} (h : m ≤ 300) : IntKind.u8.wrap (IntKind.i64.wrap ((m : Int) / 256)) = (m : Int) / 256 % 256 := by
  rw [i64_bd _ (by omega) (by omega), u8_bd _ (by omega) (by omega)]
  omega
set_option maxRecDepth 20000 in
set_option maxHeartbeats 8000000 in
/-- The specification's ArrayPack. -/
theorem arrayPack_spec {s d : List Int} {w : World} {v : Value} (h : ArrI w v s d) (hd : d.length ≤ 1048576) :
    Calls Try.prog 7 #[v] w fun r w' => APost w (arrOk s d) (if arrOk s d = true then apack s d else []) r w' := by
  have H : Hid (ArrI w v s d) := h
  have CO : Hid (∀ W, Below w.heap.size w W → Calls Try.prog 21 #[v] W fun r w' => r = .returned (.bool (arrOk s d)) ∧ Below W.heap.size W w') := fun W hb => arrOk_spec (h.keep hb) hd
  obtain ⟨a, c, b, e, rfl, ia, ib, ga, gb⟩ := h
  clear ia ib ga gb hd
  cases hc : arrOk s d
  · rw [hc] at CO
    rw [if_neg (by decide)]
    clear hc
    go_enter Try.func7, Try.ntmps7
    go_wp2_with fail
    refine (CO.out _ (bAlloc (Below.refl _ _) _)).mono ?_
    rintro r w1 ⟨rfl, hb⟩
    have B1 : Hid (Below w.heap.size w w1) := bTrans (bAlloc (Below.refl _ _) _) hb
    clear hb
    go_wp2
    go_ret2
    exact ⟨_, _, rfl, newB_alloc w1 [] B1.out.size (by simp), bAlloc B1.out _⟩
  · rw [if_pos rfl]
    have s3 := arrOk_rk hc
    have d3 := arrOk_len hc
    have OKD : Hid (d.all ok = true) := arrOk_allP hc
    have DM : Hid (∀ k, k < s.length → ∃ m : Nat, s.getD k 0 = (m : Int) ∧ m ≤ 300) := fun k hk => arrOk_dim hc hk
    rw [hc] at CO
    clear hc
    have EP : Hid (apack s d = ((s.length : Int) :: cnts s) ++ numsBy d) := rfl
    generalize apack s d = PL at *
    go_enter Try.func7, Try.ntmps7
    go_wp2_with fail
    refine (CO.out _ (bAlloc (Below.refl _ _) _)).mono ?_
    rintro r w1 ⟨rfl, hb⟩
    have B1 : Hid (Below w.heap.size w w1) := bTrans (bAlloc (Below.refl _ _) _) hb
    have X1 : Hid (Box w1 w.heap.size (.slice a s.length c) (.slice b d.length e) 29) := (box_new w _ _ _).keep hb
    clear hb CO
    have x0 := X1.out.c0
    have NA : Hid (∀ W, Below w1.heap.size w1 W → Ints W a s ∧ Ints W b d) := fun W hW => by
      obtain ⟨_, _, _, _, ev, h1, h2, _, _⟩ := H.out.keep (bTrans B1.out hW)
      cases ev
      exact ⟨h1, h2⟩
    go_wp2_with fail
    generalize hW : w1.alloc (.cells #[.int .u8 (s.length : Int)] 5) = W1
    have N1 : Hid (NewB w1.heap.size W1 (.slice (some ⟨w1.heap.size, 0, none⟩) 1 1) ((s.length : Int) :: cnts (s.take 0))) := by rw [← hW]; exact newB_alloc w1 [(s.length : Int)] (Nat.le_refl _) (by simp)
    have BB1 : Hid (Below w1.heap.size w1 W1) := by rw [← hW]; exact one_below
    clear hW x0
    go_loopw [4, 5] (fun u i w' => ∃ (k : Nat) (a1 : Option Addr) (c1 : Nat), k ≤ s.length ∧ u = .slice a1 ((s.length : Int) :: cnts (s.take k)).length c1 ∧ i = .int .i64 (k : Int) ∧ NewB w1.heap.size w' (.slice a1 ((s.length : Int) :: cnts (s.take k)).length c1) ((s.length : Int) :: cnts (s.take k)) ∧ Below w1.heap.size w1 w') (fun _ i _ => s.length - (intOf i).toNat)
    case atStart => exact ⟨0, _, _, by omega, rfl, rfl, N1.out, BB1.out⟩
    case round =>
      obtain ⟨k, a1, c1, hk, rfl, rfl, hN, hb⟩ := hrel
      have NK : Hid (NewB w1.heap.size wr (.slice a1 ((s.length : Int) :: cnts (s.take k)).length c1) ((s.length : Int) :: cnts (s.take k))) := hN
      have BK : Hid (Below w1.heap.size w1 wr) := hb
      clear hN hb N1 BB1
      have x0 := (X1.out.keep BK.out).c0
      by_cases hlt : (k : Int) < (s.length : Int)
      · have L : k < s.length := by omega
        obtain ⟨b1, o1, rfl, _, cx⟩ := (NA.out _ BK.out).1.at L
        obtain ⟨m, hm, hm3⟩ := DM.out k L
        have ET : Hid ((s.length : Int) :: cnts (s.take (k + 1)) = ((s.length : Int) :: cnts (s.take k)) ++ [(m : Int) % 256, (m : Int) / 256 % 256]) := by show _ = _; rw [cnts_take L, hm]; rfl
        rw [hm] at cx
        have LA : Hid (((s.length : Int) :: cnts (s.take k)).length ≤ 7) := by
          show _ ≤ _
          rw [List.length_cons, cnts_len, List.length_take]
          omega
        obtain ⟨F', hF'⟩ : ∃ F', F' = (s.length : Int) :: cnts (s.take (k + 1)) := ⟨_, rfl⟩
        have HF' : Hid (F' = (s.length : Int) :: cnts (s.take (k + 1))) := hF'
        rw [← hF'] at ET
        clear hF' L hm
        generalize (s.length : Int) :: cnts (s.take k) = A at *
        have LF : Hid (F'.length = A.length + 2) := by show _ = _; rw [ET.out]; simp
        have e1 := u8_tmod m
        have e2 := u8_quo hm3
        have bA : Below wr.heap.size wr (wr.alloc (.cells (bvals [(m : Int) % 256, (m : Int) / 256 % 256]) 5)).drew := (bAlloc (Below.refl _ _) _).drew
        obtain ⟨a5, c5, w5, hr, h5, hg5⟩ := growBL (w := (wr.alloc (.cells (bvals [(m : Int) % 256, (m : Int) / 256 % 256]) 5)).drew) (NK.out.keep bA) ((bys_new wr [(m : Int) % 256, (m : Int) / 256 % 256] 5).keep ((Below.refl _ _).drew)) (Nat.le_trans BK.out.size bA.size) (by have := LA.out; simp; omega) 2
        rw [← ET.out] at hr h5 hg5
        rw [LF.out] at hr h5 hg5
        have R5 : Hid ((Builtin.append_ #[26, 26] 26 #[.slice a1 A.length c1, .slice (some ⟨wr.heap.size, 0, none⟩) 2 2]).run Try.prog (wr.alloc (.cells #[.int .u8 (IntKind.u8.wrap ((m : Int).tmod 256)), .int .u8 (IntKind.u8.wrap (IntKind.i64.wrap ((m : Int) / 256)))] 5)).drew = .ok (.slice a5 (A.length + 2) c5) w5) := by
          show _ = _
          rw [e1, e2]
          simpa [bvals] using hr
        have N5 : Hid (NewB w1.heap.size w5 (.slice a5 (A.length + 2) c5) F') := h5
        have B5 : Hid (Below w1.heap.size w1 w5) := (BK.out.trans (bA.mono BK.out.size)).trans (hg5.below NK.out.row (Nat.le_trans BK.out.size bA.size))
        clear hr h5 hg5 e1 e2 bA
        go_wp2_with fail
        go_region_law (refine step_append_ty (by rfl) (.tmp 25) (.tmp 40) 26 26 (by rfl) _ _ _ (by rfl) (by rfl) R5.out ?_)
        all_goals
          go_wp2
          go_roundw
          case rel => exact ⟨k + 1, a5, c5, by omega, by rw [← HF'.out, LF.out], by go_num, by rw [← HF'.out, LF.out]; exact N5.out, B5.out⟩
          case measure => simp [intOf]; omega
      · obtain rfl : k = s.length := by omega
        rw [List.take_length] at NK ⊢
        have LS : Hid (((s.length : Int) :: cnts s).length ≤ 7) := by
          show _ ≤ _
          rw [List.length_cons, cnts_len]
          omega
        generalize hA : (s.length : Int) :: cnts s = G0 at *
        have ES2 : Hid (PL = G0 ++ numsBy d) := EP.out
        clear hA EP
        go_wp2_with fail
        go_loopw [4, 6] (fun u i w' => ∃ (k : Nat) (a2 : Option Addr) (c2 : Nat), k ≤ d.length ∧ u = .slice a2 (G0 ++ numsBy (d.take k)).length c2 ∧ i = .int .i64 (k : Int) ∧ NewB w1.heap.size w' (.slice a2 (G0 ++ numsBy (d.take k)).length c2) (G0 ++ numsBy (d.take k)) ∧ Below w1.heap.size w1 w') (fun _ i _ => d.length - (intOf i).toNat)
        case atStart => exact ⟨0, a1, c1, by omega, by simp [numsBy], rfl, by simpa [numsBy] using NK.out, BK.out⟩
        case round =>
          obtain ⟨k2, a2, c2, hk2, rfl, rfl, hN, hG⟩ := hrel
          have NK2 : Hid (NewB w1.heap.size wr (.slice a2 (G0 ++ numsBy (d.take k2)).length c2) (G0 ++ numsBy (d.take k2))) := hN
          have GK : Hid (Below w1.heap.size w1 wr) := hG
          clear hN hG x0
          have x1 := (X1.out.keep GK.out).c1
          by_cases hlt2 : (k2 : Int) < (d.length : Int)
          · have L2 : k2 < d.length := by omega
            obtain ⟨b1, o1, rfl, _, cx⟩ := (NA.out _ GK.out).2.at L2
            have ET : Hid (G0 ++ numsBy (d.take (k2 + 1)) = (G0 ++ numsBy (d.take k2)) ++ num8 (d.getD k2 0 + 1000000000000)) := by show _ = _; rw [numsBy_take L2, List.append_assoc]
            have LA : Hid ((G0 ++ numsBy (d.take k2)).length + 8 ≤ 1000000) := by
              have := LS.out
              show _ ≤ _
              rw [List.length_append, numsBy_len, List.length_take]
              omega
            have OKx : ok (d.getD k2 0) = true := List.all_eq_true.1 OKD.out (d.getD k2 0) (by simp [L2])
            obtain ⟨F2, hF2⟩ : ∃ F2, F2 = G0 ++ numsBy (d.take (k2 + 1)) := ⟨_, rfl⟩
            have HF2 : Hid (F2 = G0 ++ numsBy (d.take (k2 + 1))) := hF2
            rw [← hF2] at ET
            clear hF2 L2
            generalize G0 ++ numsBy (d.take k2) = A2 at *
            generalize d.getD k2 0 = x at *
            have xb : -1000000000000 ≤ x ∧ x ≤ 1000000000000 := by unfold ok at OKx; simpa using OKx
            clear OKx
            obtain ⟨y, hy⟩ : ∃ y, y = x + 1000000000000 := ⟨_, rfl⟩
            have y0 : 0 ≤ y := by omega
            have y1 : y ≤ 2000000000000 := by omega
            rw [← hy] at ET
            have HY : Hid (x + 1000000000000 = y) := hy.symm
            clear hy
            go_wp2_with fail
            rw [HY.out]
            go_loopw [4, 8] (fun u i w' => ∃ (j : Nat) (a3 : Option Addr) (c3 : Nat), j ≤ 8 ∧ u = .slice a3 (A2 ++ (num8 y).take j).length c3 ∧ i = .int .i64 (j : Int) ∧ NewB w1.heap.size w' (.slice a3 (A2 ++ (num8 y).take j).length c3) (A2 ++ (num8 y).take j) ∧ Below w1.heap.size w1 w') (fun _ i _ => 8 - (intOf i).toNat)
            case atStart => exact ⟨0, a2, c2, by omega, by simp, rfl, by simpa using NK2.out, GK.out⟩
            case round =>
              obtain ⟨j, a3, c3, hj, rfl, rfl, hN, hb⟩ := hrel
              have NJ : Hid (NewB w1.heap.size wr (.slice a3 (A2 ++ (num8 y).take j).length c3) (A2 ++ (num8 y).take j)) := hN
              have BJ : Hid (Below w1.heap.size w1 wr) := hb
              clear hN hb
              by_cases hjt : (j : Int) < 8
              · have LJ : j < 8 := by omega
                have EJ : A2 ++ (num8 y).take (j + 1) = (A2 ++ (num8 y).take j) ++ [y / 256 ^ j % 256] := by rw [num8_take y LJ, List.append_assoc]
                have LJ2 : (A2 ++ (num8 y).take j).length ≤ 1000000 := by have := LA.out; rw [List.length_append, List.length_take, num8_len]; omega
                obtain ⟨G', hG'⟩ : ∃ G', G' = A2 ++ (num8 y).take (j + 1) := ⟨_, rfl⟩
                have HG' : Hid (G' = A2 ++ (num8 y).take (j + 1)) := hG'
                rw [← hG'] at EJ
                clear hG'
                generalize A2 ++ (num8 y).take j = G at *
                obtain ⟨a5', c5', w5', hr, h5, hb5⟩ := growBs [y / 256 ^ j % 256] NJ.out BJ.out.size (by simp; omega)
                rw [← EJ] at hr h5
                have LG' : Hid (G'.length = G.length + 1) := by show _ = _; rw [EJ]; simp
                rw [LG'.out] at hr h5
                have EP2 : (256 : Int) ^ j = 2 ^ (8 * j) := by rw [Int.pow_mul]; rfl
                have R9 : Hid ((Builtin.append_ #[26, 26] 26 #[.slice a3 G.length c3, .slice (some ⟨wr.heap.size, 0, none⟩) 1 1]).run Try.prog (wr.alloc (.cells #[.int .u8 (y / 2 ^ (8 * j) % 256)] 5)) = .ok (.slice a5' (G.length + 1) c5') w5') := by show _ = _; rw [← EP2]; simpa [bvals] using hr
                have N9 : Hid (NewB w1.heap.size w5' (.slice a5' (G.length + 1) c5') G') := h5
                have B9 : Hid (Below w1.heap.size w1 w5') := BJ.out.trans (hb5.below NJ.out.row BJ.out.size)
                clear hr h5 hb5 EJ EP2
                go_wp2_with (at_builtin; refine wpList_append_ty rfl _ _ 26 26 rfl _ _ _ rfl rfl R9.out ?_)
                go_roundw
                case rel => exact ⟨j + 1, a5', c5', by omega, by rw [← HG'.out, LG'.out], by go_num, by rw [← HG'.out, LG'.out]; exact N9.out, B9.out⟩
                case measure => simp [intOf]; omega
              · obtain rfl : j = 8 := by omega
                have E8 : Hid (A2 ++ (num8 y).take 8 = F2) := by show _ = _; rw [ET.out, List.take_of_length_le (by rw [num8_len]; omega)]
                rw [E8.out] at NJ ⊢
                go_wp2
                go_roundw
                case rel => exact ⟨k2 + 1, a3, c3, by omega, by rw [← HF2.out], by go_num, by rw [← HF2.out]; exact NJ.out, BJ.out⟩
                case measure => simp [intOf]; omega
          · obtain rfl : k2 = d.length := by omega
            have E8 : d.take d.length = d := List.take_length
            rw [E8, ← ES2.out] at NK2 ⊢
            go_wp2
            go_ret2
            exact ⟨_, _, rfl, NK2.out.mono B1.out.size, bTrans B1.out GK.out⟩
end Go.Proofs.Ytonkiipdobpfgaa
namespace Go.Proofs.Ytonkiipdobpfgaa
theorem getD_append_left {l m : List Int} {k : Nat} (h : k < l.length) : (l ++ m).getD k 0 = l.getD k 0 := by
  simp [List.getD_eq_getElem?_getD, List.getElem?_append, h]
theorem cnts_at : ∀ (s : List Int) {i : Nat}, i < s.length → (cnts s).getD (2 * i) 0 = s.getD i 0 % 256 ∧ (cnts s).getD (2 * i + 1) 0 = s.getD i 0 / 256 % 256
  | [], i, h => by simp at h
  | x :: s, 0, _ => ⟨rfl, rfl⟩
  | x :: s, i + 1, h => by
    have := cnts_at s (i := i) (by simpa using h)
    have e : cnts (x :: s) = (x % 256) :: (x / 256 % 256) :: cnts s := rfl
    rw [e, show 2 * (i + 1) = 2 * i + 1 + 1 by omega]
    simp only [List.getD_cons_succ]
    exact this
theorem apack_rk (s d : List Int) : rkB (apack s d) = s.length := by
  unfold rkB apack
  simp
theorem apack_dim {s d : List Int} (h : arrOk s d = true) {i : Nat} (hi : i < s.length) : dimB (apack s d) i = s.getD i 0 := by
  obtain ⟨m, hm, hm3⟩ := arrOk_dim h hi
  obtain ⟨c1, c2⟩ := cnts_at s hi
  have hl := cnts_len s
  have e : apack s d = (s.length : Int) :: (cnts s ++ numsBy d) := rfl
  unfold dimB
  rw [e, show 1 + 2 * i + 1 = (2 * i + 1) + 1 by omega, show 1 + 2 * i = 2 * i + 1 by omega]
  simp only [List.getD_cons_succ]
  rw [getD_append_left (by omega), getD_append_left (by omega), c1, c2, hm]
  omega
theorem list_range {l : List Int} {f : Nat → Int} {n : Nat} (hn : l.length = n) (h : ∀ i, i < n → f i = l.getD i 0) : (List.range n).map f = l := by
  apply List.ext_getElem
  · simp [hn]
  · intro i h1 h2
    have := h i (by omega)
    simp [this, List.getD_eq_getElem?_getD, h2]
theorem apack_sh {s d : List Int} (h : arrOk s d = true) : shB (apack s d) = s := by
  unfold shB
  rw [apack_rk]
  exact list_range rfl fun i hi => apack_dim h hi
theorem apack_off (s d : List Int) : offB (apack s d) = 1 + 2 * s.length := by unfold offB; rw [apack_rk]
theorem apack_length (s d : List Int) : (apack s d).length = 1 + 2 * s.length + 8 * d.length := by
  simp only [apack, List.length_append, List.length_cons, cnts_len, numsBy_len]; omega
theorem apack_num (s d : List Int) : numB (apack s d) = d.length := by unfold numB; rw [apack_off, apack_length]; omega
theorem apack_drop (s d : List Int) : (apack s d).drop (offB (apack s d)) = numsBy d := by
  rw [apack_off]
  have e : apack s d = ((s.length : Int) :: cnts s) ++ numsBy d := rfl
  rw [e, List.drop_append_of_le_length (by simp [cnts_len]; omega), List.drop_eq_nil_of_le (by simp [cnts_len]; omega)]
  rfl
theorem valB_num8 {x : Int} (h0 : 0 ≤ x) (h1 : x < 18446744073709551616) : valB (num8 x) = x := by
  simp only [num8, List.range, List.range.loop, List.map, valB]
  omega
theorem numW_num8 {x : Int} (h : ok x = true) (t : List Int) : numW (num8 (x + 1000000000000) ++ t) = x := by
  have hb : -1000000000000 ≤ x ∧ x ≤ 1000000000000 := by simpa [ok] using h
  unfold numW
  rw [List.take_append_of_le_length (by rw [num8_len]; decide), List.take_of_length_le (by rw [num8_len]; decide), valB_num8 (by omega) (by omega)]
  unfold wrp
  omega
theorem numsW_numsBy : ∀ {d : List Int}, d.all ok = true → numsW (numsBy d) d.length = d
  | [], _ => rfl
  | x :: d, h => by
    simp only [List.all_cons, Bool.and_eq_true] at h
    have ih := numsW_numsBy (d := d) h.2
    have e : numsBy (x :: d) = num8 (x + 1000000000000) ++ numsBy d := rfl
    unfold numsW at ih ⊢
    rw [List.length_cons, List.range_succ_eq_map, List.map_cons, List.map_map, e]
    rw [Nat.mul_zero, List.drop_zero, numW_num8 h.1]
    have e2 : ∀ k, (num8 (x + 1000000000000) ++ numsBy d).drop (8 * (k + 1)) = (numsBy d).drop (8 * k) := fun k => by
      rw [show 8 * (k + 1) = (num8 (x + 1000000000000)).length + 8 * k by rw [num8_len]; omega, List.drop_append]
      simp
    congr 1
theorem apack_dt {s d : List Int} (h : arrOk s d = true) : dtB (apack s d) = d := by
  unfold dtB
  rw [apack_drop, apack_num]
  exact numsW_numsBy (arrOk_allP h)
/-- An array is read from its bytes as it was. -/
theorem apack_read {s d : List Int} (h : arrOk s d = true) : ardB (apack s d) = true ∧ shB (apack s d) = s ∧ dtB (apack s d) = d := by
  refine ⟨?_, apack_sh h, apack_dt h⟩
  have hs := arrOk_size h
  rw [ardB_ok (by rw [apack_off, apack_length]; omega) (by rw [apack_sh h, apack_off, apack_length, hs]; omega), apack_sh h, apack_dt h]
  exact h
theorem num8_isB (x : Int) : isB (num8 x) := by
  intro y hy
  simp only [num8, List.mem_map] at hy
  obtain ⟨j, _, rfl⟩ := hy
  omega
theorem apack_isB {s d : List Int} (h : arrOk s d = true) : isB (apack s d) := by
  have h3 := arrOk_rk h
  intro x hx
  simp only [apack, List.cons_append, List.mem_cons, List.mem_append] at hx
  rcases hx with rfl | hx | hx
  · omega
  · simp only [cnts, List.mem_flatMap] at hx
    obtain ⟨y, _, hy⟩ := hx
    simp only [List.mem_cons, List.not_mem_nil, or_false] at hy
    rcases hy with rfl | rfl <;> omega
  · simp only [numsBy, List.mem_flatMap] at hx
    obtain ⟨y, _, hy⟩ := hx
    exact num8_isB _ x hy
theorem cnts_range {b : List Int} (hb : isB b) : ∀ (q : Nat), 1 + 2 * q ≤ b.length → cnts ((List.range q).map (dimB b)) = (b.drop 1).take (2 * q)
  | 0, _ => rfl
  | q + 1, h => by
    have ih := cnts_range hb q (by omega)
    have g1 := isB_getD hb (1 + 2 * q)
    have g2 := isB_getD hb (1 + 2 * q + 1)
    rw [List.range_succ, List.map_append]
    unfold cnts at ih ⊢
    rw [List.flatMap_append, ih]
    simp only [List.map_cons, List.map_nil, List.flatMap_cons, List.flatMap_nil, List.append_nil]
    have e1 : dimB b q % 256 = b.getD (1 + 2 * q) 0 := by unfold dimB; omega
    have e2 : dimB b q / 256 % 256 = b.getD (1 + 2 * q + 1) 0 := by unfold dimB; omega
    rw [e1, e2, show 2 * (q + 1) = 2 * q + 1 + 1 by omega]
    have t1 : (b.drop 1).take (2 * q + 1) = (b.drop 1).take (2 * q) ++ [(b.drop 1)[2 * q]'(by rw [List.length_drop]; omega)] := List.take_succ_eq_append_getElem (by rw [List.length_drop]; omega)
    have t2 : (b.drop 1).take (2 * q + 1 + 1) = (b.drop 1).take (2 * q + 1) ++ [(b.drop 1)[2 * q + 1]'(by rw [List.length_drop]; omega)] := List.take_succ_eq_append_getElem (by rw [List.length_drop]; omega)
    rw [t2, t1, List.append_assoc]
    have x1 : (b.drop 1)[2 * q]'(by rw [List.length_drop]; omega) = b.getD (1 + 2 * q) 0 := by
      rw [List.getElem_drop]; simp [List.getD_eq_getElem?_getD, show 1 + 2 * q < b.length by omega]
    have x2 : (b.drop 1)[2 * q + 1]'(by rw [List.length_drop]; omega) = b.getD (1 + 2 * q + 1) 0 := by
      rw [List.getElem_drop]; simp [List.getD_eq_getElem?_getD, show 1 + 2 * q + 1 < b.length by omega, show 1 + (2 * q + 1) = 1 + 2 * q + 1 by omega]
    rw [x1, x2]
    rfl
/-- Bytes that are read are those of the array. -/
theorem read_apack {b : List Int} (hb : isB b) (h : ardB b = true) : arrOk (shB b) (dtB b) = true ∧ apack (shB b) (dtB b) = b := by
  have h1 : offB b ≤ b.length := Nat.le_of_not_lt fun hl => by rw [ardB_short hl] at h; cases h
  have h2 : sizeV (shB b) * 8 = ((b.length - offB b : Nat) : Int) := by
    by_cases e : sizeV (shB b) * 8 = ((b.length - offB b : Nat) : Int)
    · exact e
    · rw [ardB_size e] at h; cases h
  rw [ardB_ok h1 h2] at h
  refine ⟨h, ?_⟩
  have hn := numB_size h2
  have hall := arrOk_allP h
  have e3 : numsBy (dtB b) = b.drop (offB b) := by
    unfold dtB
    rw [numsBy_W (isB_drop hb _) (by rw [List.length_drop]; omega) (by unfold dtB at hall; exact hall)]
    exact List.take_of_length_le (by rw [List.length_drop]; omega)
  have hoff : offB b = 1 + 2 * rkB b := rfl
  have e2 : cnts (shB b) = (b.drop 1).take (2 * rkB b) := cnts_range hb (rkB b) (by omega)
  have g0 := isB_getD hb 0
  cases b with
  | nil => simp [offB] at h1
  | cons x t =>
    have ex : (((rkB (x :: t) : Nat)) : Int) = x := by unfold rkB at *; simp at g0 ⊢; omega
    unfold apack
    rw [e3, e2, shB_len, ex, hoff, show 1 + 2 * rkB (x :: t) = 2 * rkB (x :: t) + 1 by omega]
    simp only [List.drop_succ_cons, List.drop_zero, List.cons_append]
    rw [List.take_append_drop]
end Go.Proofs.Ytonkiipdobpfgaa
namespace Go.Proofs.Ytonkiipdobpfgaa
set_option linter.unusedVariables false
/-- The first code that is not 0 of the first n. -/
def firstC (g : Nat → Int) : Nat → Int
  | 0 => 0
  | n + 1 => if firstC g n = 0 then g n else firstC g n
theorem firstC_go {g : Nat → Int} {k : Nat} (h : firstC g k = 0) (hk : g k = 0) : firstC g (k + 1) = 0 := by simp [firstC, h, hk]
theorem firstC_stop {g : Nat → Int} {k n : Nat} (h : firstC g k = 0) (hk : g k ≠ 0) (hn : k < n) : firstC g n = g k := by
  induction n with
  | zero => omega
  | succ n ih =>
    by_cases e : k = n
    · subst e; simp [firstC, h]
    · have := ih (by omega)
      simp only [firstC]
      rw [if_neg (by rw [this]; exact hk), this]
theorem firstC_all {g : Nat → Int} {n : Nat} (h : firstC g n = 0) : ∀ i, i < n → g i = 0 := by
  induction n with
  | zero => intro i hi; omega
  | succ n ih =>
    simp only [firstC] at h
    by_cases e : firstC g n = 0
    · rw [if_pos e] at h
      intro i hi
      by_cases e2 : i = n
      · subst e2; exact h
      · exact ih e i (by omega)
    · rw [if_neg e] at h; exact absurd h e
theorem firstC_eq {g h : Nat → Int} {n : Nat} (e : ∀ i, i < n → g i = h i) : firstC g n = firstC h n := by
  induction n with
  | zero => rfl
  | succ n ih => simp only [firstC]; rw [ih (fun i hi => e i (by omega)), e n (by omega)]
/-- The first k numbers are told anew, the others stand. -/
def setTo (f : Nat → Int) (d : List Int) (k : Nat) : List Int := (List.range d.length).map fun i => if i < k then f i else d.getD i 0
theorem setTo_length (f : Nat → Int) (d : List Int) (k : Nat) : (setTo f d k).length = d.length := by simp [setTo]
theorem setTo_zero (f : Nat → Int) (d : List Int) : setTo f d 0 = d := by
  apply List.ext_getElem
  · simp [setTo]
  · intro i h1 h2
    simp [setTo, h2]
theorem setTo_all (f : Nat → Int) (d : List Int) {n : Nat} (h : d.length = n) : setTo f d n = (List.range n).map f := by
  subst h
  apply List.ext_getElem
  · simp [setTo]
  · intro i h1 h2
    have : i < d.length := by simpa using h2
    simp [setTo, this]
theorem setTo_set (f : Nat → Int) (d : List Int) {k : Nat} (h : k < d.length) : (setTo f d k).set k (f k) = setTo f d (k + 1) := by
  apply List.ext_getElem
  · simp [setTo]
  · intro i h1 h2
    have hi : i < d.length := by simpa [setTo] using h2
    rw [List.getElem_set]
    by_cases e : k = i
    · subst e; simp [setTo]
    · rw [if_neg e]
      simp only [setTo, List.getElem_map, List.getElem_range]
      by_cases e2 : i < k
      · rw [if_pos e2, if_pos (by omega)]
      · rw [if_neg e2, if_neg (by omega)]
/-- What EachOne answers: its code, its shape, its numbers. -/
def eachOneC (g : Int) (s d : List Int) : Int := if arrOk s d = true ∧ sign1 g = true then firstC (fun i => (oneV g (d.getD i 0)).2) d.length else 1
def eachOneS (g : Int) (s d : List Int) : List Int := if eachOneC g s d = 0 then s else []
def eachOneD (g : Int) (s d : List Int) : List Int := if eachOneC g s d = 0 then (List.range d.length).map (fun i => (oneV g (d.getD i 0)).1) else []
/-- What Fit answers. -/
def fitC (s d t e : List Int) : Int := if arrOk s d = true ∧ arrOk t e = true then (if s = [] ∨ t = [] then 0 else if s.length ≠ t.length then 4 else if s ≠ t then 3 else 0) else 1
def fitS (s d t e : List Int) : List Int := if fitC s d t e = 0 then (if s = [] then t else s) else []
/-- The number of an array at a place, or its only one. -/
def numOf (s d : List Int) (i : Nat) : Int := if s = [] then d.getD 0 0 else d.getD i 0
/-- How many numbers EachTwo tells, where Fit goes well. -/
def eachN (s d t e : List Int) : Nat := (sizeV (fitS s d t e)).toNat
def eachTwoC (g : Int) (s d t e : List Int) : Int := if arrOk s d = true ∧ arrOk t e = true ∧ sign2 g = true then (if fitC s d t e = 0 then firstC (fun i => (twoV g (numOf s d i) (numOf t e i)).2) (eachN s d t e) else fitC s d t e) else 1
def eachTwoS (g : Int) (s d t e : List Int) : List Int := if eachTwoC g s d t e = 0 then fitS s d t e else []
def eachTwoD (g : Int) (s d t e : List Int) : List Int := if eachTwoC g s d t e = 0 then (List.range (eachN s d t e)).map (fun i => (twoV g (numOf s d i) (numOf t e i)).1) else []
theorem fitS_bad {s d t e : List Int} (h : fitC s d t e ≠ 0) : fitS s d t e = [] := by unfold fitS; rw [if_neg h]
theorem fitC_ok {s d t e : List Int} (h : fitC s d t e = 0) : arrOk s d = true ∧ arrOk t e = true := by
  unfold fitC at h
  by_cases ho : arrOk s d = true ∧ arrOk t e = true
  · exact ho
  · rw [if_neg ho] at h; cases h
theorem fit_cases {s d t e : List Int} (h : fitC s d t e = 0) : (s = [] ∧ fitS s d t e = t) ∨ (s ≠ [] ∧ t = [] ∧ fitS s d t e = s) ∨ (s ≠ [] ∧ t ≠ [] ∧ s = t ∧ fitS s d t e = s) := by
  have hS : fitS s d t e = if s = [] then t else s := by unfold fitS; rw [if_pos h]
  have h' := h
  unfold fitC at h'
  rw [if_pos (fitC_ok h)] at h'
  by_cases e1 : s = []
  · exact .inl ⟨e1, by rw [hS, if_pos e1]⟩
  · by_cases e2 : t = []
    · exact .inr (.inl ⟨e1, e2, by rw [hS, if_neg e1]⟩)
    · rw [if_neg (by simp [e1, e2])] at h'
      by_cases e3 : s = t
      · exact .inr (.inr ⟨e1, e2, e3, by rw [hS, if_neg e1]⟩)
      · by_cases e4 : s.length ≠ t.length
        · rw [if_pos e4] at h'; cases h'
        · rw [if_neg e4, if_pos e3] at h'; cases h'
theorem fit_size {s d t e : List Int} (h : fitC s d t e = 0) : (eachN s d t e : Int) = sizeV (fitS s d t e) ∧ eachN s d t e ≤ 300 ∧ (∀ i, i < eachN s d t e → (s = [] → 0 < d.length) ∧ (s ≠ [] → i < d.length) ∧ (t = [] → 0 < e.length) ∧ (t ≠ [] → i < e.length)) := by
  obtain ⟨o1, o2⟩ := fitC_ok h
  have z1 := arrOk_size o1
  have z2 := arrOk_size o2
  have l1 := arrOk_len o1
  have l2 := arrOk_len o2
  have k1 : s = [] → d.length = 1 := by rintro rfl; rw [sizeV_0'] at z1; omega
  have k2 : t = [] → e.length = 1 := by rintro rfl; rw [sizeV_0'] at z2; omega
  unfold eachN
  rcases fit_cases h with ⟨a1, a2⟩ | ⟨a1, a2, a3⟩ | ⟨a1, a2, a3, a4⟩
  · rw [a2]
    refine ⟨by omega, by omega, fun i hi => ⟨fun _ => by have := k1 a1; omega, fun q => absurd a1 q, fun q => by have := k2 q; omega, fun _ => by omega⟩⟩
  · rw [a3]
    refine ⟨by omega, by omega, fun i hi => ⟨fun q => absurd q a1, fun _ => by omega, fun q => by have := k2 q; omega, fun q => absurd a2 q⟩⟩
  · rw [a4]
    subst a3
    refine ⟨by omega, by omega, fun i hi => ⟨fun q => absurd q a1, fun _ => by omega, fun q => absurd q a1, fun _ => by omega⟩⟩
theorem fitS_len (s d t e : List Int) : (fitS s d t e).length ≤ 3 := by
  by_cases h : fitC s d t e = 0
  · obtain ⟨o1, o2⟩ := fitC_ok h
    have k1 := (sizeV_ok (arrOk_shape o1)).1
    have k2 := (sizeV_ok (arrOk_shape o2)).1
    unfold fitS
    rw [if_pos h]
    split <;> assumption
  · rw [fitS_bad h]; simp
theorem eachTwoS_len (g : Int) (s d t e : List Int) : (eachTwoS g s d t e).length ≤ 3 := by
  unfold eachTwoS
  split
  · exact fitS_len s d t e
  · simp
theorem eachTwoD_len (g : Int) (s d t e : List Int) : (eachTwoD g s d t e).length ≤ 300 := by
  unfold eachTwoD
  split
  · rename_i h
    have hf : fitC s d t e = 0 := by
      unfold eachTwoC at h
      by_cases ho : arrOk s d = true ∧ arrOk t e = true ∧ sign2 g = true
      · rw [if_pos ho] at h
        by_cases h2 : fitC s d t e = 0
        · exact h2
        · rw [if_neg h2] at h; exact h
      · rw [if_neg ho] at h; cases h
    have := (fit_size hf).2.1
    simpa using this
  · simp
end Go.Proofs.Ytonkiipdobpfgaa
namespace Go.Proofs.Ytonkiipdobpfgaa
open Go.RowKit
set_option linter.unusedVariables false
set_option linter.unusedSimpArgs false
theorem only_setCell (w : World) (g off n c k : Nat) (u : Value) (hk : k < n) : Only (.slice (some ⟨g, off, none⟩) n c) w (w.setCell ⟨g, off + k, none⟩ u) := by
  refine ⟨rfl, rfl, rfl, size_setCell _ _ _, fun j hj hq => Below.heap_setCell _ _ _ _ (fun e => ?_), fun g' off' n' c' e cur t hg => ?_⟩
  · have := hq off n c (by rw [show j = g from e])
    omega
  · cases e
    refine ⟨_, heap_setCell_same w g (off + k) _ _ u hg, fun i hi => ?_⟩
    rw [Array.getElem?_setIfInBounds, if_neg (by omega)]
theorem Piece.set {B C g off c k : Nat} {w : World} {l : List Int} (h : Piece B C w (.slice (Option.some ⟨g, off, none⟩) l.length c) l) (hk : k < l.length) (x : Int) : Piece B C (w.setCell ⟨g, off + k, none⟩ (.int .i64 x)) (.slice (Option.some ⟨g, off, none⟩) l.length c) (l.set k x) := by
  obtain ⟨a, c', e, hle, h⟩ := h
  cases e
  refine ⟨_, _, by rw [List.length_set], by rw [List.length_set]; exact hle, ?_⟩
  rcases h with rfl | ⟨g', off', cur, t, e, h1, h2, hg, r⟩
  · simp at hk
  · cases e
    have hs : off + k < cur.size := by
      have := (Array.getElem?_eq_some_iff.1 (r k hk)).1
      exact this
    refine .inr ⟨g, off, _, t, rfl, h1, h2, heap_setCell_same w g (off + k) _ _ _ hg, fun j hj => ?_⟩
    rw [List.length_set] at hj
    rw [Array.getElem?_setIfInBounds]
    by_cases e : k = j
    · subst e
      rw [if_pos rfl, if_pos hs]
      simp [List.getD, hk]
    · rw [if_neg (by omega), r j hj]
      simp [List.getD, e]
/-- The cell of a number of a piece, and that it may be written. -/
theorem Piece.cellAt {B C g off n c k : Nat} {w : World} {l : List Int} (h : Piece B C w (.slice (Option.some ⟨g, off, none⟩) n c) l) (hk : k < l.length) : w.cell? ⟨g, off + k, none⟩ = Option.some (.int .i64 (l.getD k 0)) ∧ w.frozen? ⟨g, off + k, none⟩ = false ∧ B ≤ g ∧ g < C ∧ g < w.heap.size := by
  obtain ⟨a, c', e, _, h⟩ := h
  cases e
  rcases h with rfl | ⟨g', off', cur, t, e, h1, h2, hg, r⟩
  · simp at hk
  · cases e
    exact ⟨cell_at hg (r k hk), free_at hg _, h1, h2, lt_of_heapA hg⟩
theorem Piece.some {B C n c : Nat} {a : Option Addr} {w : World} {l : List Int} (h : Piece B C w (.slice a n c) l) (hl : 0 < l.length) : ∃ g off, a = .some ⟨g, off, none⟩ := by
  obtain ⟨a', c', e, _, h⟩ := h
  cases e
  rcases h with rfl | ⟨g', off', cur, t, e, _⟩
  · simp at hl
  · exact ⟨g', off', e⟩
end Go.Proofs.Ytonkiipdobpfgaa
namespace Go.Proofs.Ytonkiipdobpfgaa
open Go.RowKit
set_option linter.unusedVariables false
set_option linter.unusedSimpArgs false
theorem sizeBelowE {w w' : World} (h : Below w.heap.size w w') : w.heap.size ≤ w'.heap.size := h.size
end Go.Proofs.Ytonkiipdobpfgaa
namespace Go.Proofs.Ytonkiipdobpfgaa
open Go.RowKit
theorem ret_int' {k : IntKind} {a b : Int} (h : a = b) : Ending.returned (.int k a) = .returned (.int k b) := by rw [h]
theorem ret_two' {a b c d : Int} (h : a = b) (h' : c = d) : Ending.returned (.tuple #[.int .i64 a, .int .i64 c]) = .returned (.tuple #[.int .i64 b, .int .i64 d]) := by rw [h, h']
theorem ret_bool {a b : Bool} (h : a = b) : Ending.returned (.bool a) = .returned (.bool b) := by rw [h]
end Go.Proofs.Ytonkiipdobpfgaa
namespace Go.Proofs.Ytonkiipdobpfgaa
open Go.RowKit
set_option linter.unusedVariables false
set_option linter.unusedSimpArgs false
theorem eachOne_bad {g : Int} {s d : List Int} (h : eachOneC g s d ≠ 0) : eachOneS g s d = [] ∧ eachOneD g s d = [] := by
  unfold eachOneS eachOneD; rw [if_neg h, if_neg h]; exact ⟨rfl, rfl⟩
theorem eachOne_good {g : Int} {s d : List Int} (h : eachOneC g s d = 0) : eachOneS g s d = s ∧ eachOneD g s d = (List.range d.length).map (fun i => (oneV g (d.getD i 0)).1) := by
  unfold eachOneS eachOneD; rw [if_pos h, if_pos h]; exact ⟨rfl, rfl⟩
theorem below_of_win {B : Nat} {w a b : World} (h : Below w.heap.size w a) (k : Win B B a b) : Below w.heap.size w b := by
  exact h.trans ⟨k.os, k.tape, k.output, k.size, fun i hi => k.block i (Nat.lt_of_lt_of_le hi h.size) (by omega)⟩
end Go.Proofs.Ytonkiipdobpfgaa
namespace Go.Proofs.Ytonkiipdobpfgaa
open Go.RowKit
set_option linter.unusedVariables false
set_option linter.unusedSimpArgs false
theorem ok_neg (x : Int) : ok (-x) = ok x := by
  unfold ok
  rw [Bool.eq_iff_iff]
  simp
  omega
theorem getD_mem {d : List Int} {i : Nat} (h : i < d.length) : d.getD i 0 ∈ d := by
  have e : d.getD i 0 = d[i] := by simp [List.getD, h]
  rw [e]; exact List.getElem_mem h
theorem arrOk_all {s d : List Int} (h : arrOk s d = true) {i : Nat} (hi : i < d.length) : ok (d.getD i 0) = true := by
  simp only [arrOk, Bool.and_eq_true] at h
  exact (List.all_eq_true.1 h.2) _ (getD_mem hi)
theorem firstC_none {g : Nat → Int} {n : Nat} (h : ∀ i, i < n → g i = 0) : firstC g n = 0 := by
  induction n with
  | zero => rfl
  | succ n ih => exact firstC_go (ih (fun i hi => h i (by omega))) (h n (by omega))
theorem each_neg {s d : List Int} (ho : arrOk s d = true) : eachOneC 45 s d = 0 ∧ eachOneS 45 s d = s ∧ eachOneD 45 s d = d.map (fun x => -x) := by
  have hc : eachOneC 45 s d = 0 := by
    unfold eachOneC
    rw [if_pos ⟨ho, by decide⟩]
    exact firstC_none (fun i hi => by simp only [oneV_45 (arrOk_all ho hi)])
  refine ⟨hc, (eachOne_good hc).1, ?_⟩
  rw [(eachOne_good hc).2]
  apply List.ext_getElem
  · simp
  · intro i h1 h2
    have hi : i < d.length := by simpa using h2
    have e : d.getD i 0 = d[i] := by simp [List.getD, hi]
    simp only [List.getElem_map, List.getElem_range]
    rw [oneV_45 (arrOk_all ho hi), e]
theorem arrOk_neg {s d : List Int} (ho : arrOk s d = true) : arrOk s (d.map (fun x => -x)) = true := by
  simp only [arrOk, Bool.and_eq_true] at ho ⊢
  refine ⟨by simpa using ho.1, ?_⟩
  rw [List.all_eq_true] at *
  intro x hx
  obtain ⟨y, hy, rfl⟩ := List.mem_map.1 hx
  rw [ok_neg]
  exact ho.2 y hy
theorem each_neg2 {s d : List Int} (ho : arrOk s d = true) : eachOneC 45 (eachOneS 45 s d) (eachOneD 45 s d) = 0 ∧ eachOneS 45 (eachOneS 45 s d) (eachOneD 45 s d) = s ∧ eachOneD 45 (eachOneS 45 s d) (eachOneD 45 s d) = d := by
  obtain ⟨_, h2, h3⟩ := each_neg ho
  rw [h2, h3]
  obtain ⟨k1, k2, k3⟩ := each_neg (arrOk_neg ho)
  exact ⟨k1, k2, by rw [k3, List.map_map]; exact (List.map_congr_left (fun x _ => by simp)).trans (List.map_id d)⟩
theorem one_facts {g : Int} {s d : List Int} (h : eachOneC g s d = 0) : arrOk s d = true ∧ (eachOneD g s d).length = d.length ∧ ∀ i, i < d.length → (oneV g (d.getD i 0)).2 = 0 ∧ (eachOneD g s d).getD i 0 = (oneV g (d.getD i 0)).1 := by
  have hg : arrOk s d = true ∧ sign1 g = true := by
    apply Classical.byContradiction
    intro hn
    unfold eachOneC at h
    rw [if_neg hn] at h
    cases h
  have hf : firstC (fun i => (oneV g (d.getD i 0)).2) d.length = 0 := by
    have q := h
    unfold eachOneC at q
    rw [if_pos hg] at q
    exact q
  rw [(eachOne_good h).2]
  refine ⟨hg.1, by simp, fun i hi => ⟨firstC_all hf i hi, ?_⟩⟩
  simp [List.getD, hi]
theorem eachOne_len (g : Int) (s d : List Int) : (eachOneS g s d).length ≤ s.length ∧ (eachOneD g s d).length ≤ d.length := by
  unfold eachOneS eachOneD
  split <;> simp
set_option maxRecDepth 20000 in
set_option maxHeartbeats 1000000 in
/-- sameArray. -/
theorem same_arr {s d s' d' : List Int} {w : World} {v u : Value} (h : ArrI w v s d) (k : ArrI w u s' d') (hs : s.length ≤ 1048576) (hd : d.length ≤ 1048576) :
    Calls Try.prog 23 #[v, u] w fun e w' => e = .returned (.bool (decide (s = s') && decide (d = d'))) ∧ Below w.heap.size w w' := by
  obtain ⟨a, c, b, e, rfl, h1, h2, _, _⟩ := h
  obtain ⟨a', c', b', e', rfl, k1, k2, _, _⟩ := k
  have H1 : Hid (Ints w a s) := h1
  have H2 : Hid (Ints w b d) := h2
  have K1 : Hid (Ints w a' s') := k1
  have K2 : Hid (Ints w b' d') := k2
  have HS : Hid (s.length ≤ 4611686018427387904) := by show _ ≤ _; omega
  have HD : Hid (d.length ≤ 4611686018427387904) := by show _ ≤ _; omega
  clear h1 h2 k1 k2 hs hd
  generalize hp : decide (s = s') = p
  generalize hq : decide (d = d') = q
  have HP : Hid (decide (s = s') = p) := hp
  have HQ : Hid (decide (d = d') = q) := hq
  clear hp hq
  go_enter Try.func23, Try.ntmps23
  go_wp2_with fail
  refine (same_ints c c' HS.out ((H1.out.alloc _).alloc _) ((K1.out.alloc _).alloc _)).mono ?_
  rintro r w1 ⟨rfl, j, hw⟩
  have HB : Hid (Below w.heap.size w w1) := by rw [hw]; exact bDrewN (bAlloc (bAlloc (Below.refl _ _) _) _) j
  have r1 : w1.cell? ⟨w.heap.size, 1, none⟩ = some (.slice b d.length e) := by rw [hw]; show World.cell? _ _ = _; simp [World.cell?_drewN]
  have r2 : w1.cell? ⟨w.heap.size + 1, 1, none⟩ = some (.slice b' d'.length e') := by rw [hw]; show World.cell? _ _ = _; simp [World.cell?_drewN]
  clear hw j
  rw [HP.out]
  cases p
  · go_wp2
    go_ret
    exact ⟨rfl, HB.out⟩
  · go_wp2_with fail
    refine (same_ints e e' HD.out (H2.out.keep HB.out) (K2.out.keep HB.out)).mono ?_
    rintro r w2 ⟨rfl, j, hw⟩
    have HB2 : Hid (Below w.heap.size w w2) := by rw [hw]; exact bDrewN HB.out j
    clear hw j
    rw [HQ.out]
    cases q
    · go_wp2
      go_ret
      exact ⟨rfl, HB2.out⟩
    · go_wp2
      go_ret
      exact ⟨rfl, HB2.out⟩
end Go.Proofs.Ytonkiipdobpfgaa
