/-
  Walks: the program's ArrayPack.
-/
import Derived.Test.YtonkiipdobpfgaaArrPM
import Derived.Test.YtonkiipdobpfgaaPackI
import Derived.Test.YtonkiipdobpfgaaFunQ
import Derived.Test.YtonkiipdobpfgaaLaw3
import Derived.Test.YtonkiipdobpfgaaImplArr3
namespace Go.Proofs.Ytonkiipdobpfgaa
open Go.RowKit
set_option linter.unusedVariables false
set_option linter.unusedSimpArgs false
/-- What ArrayPack answers. -/
def APost (w : World) (b : Bool) (P : List Int) (r : Ending) (w' : World) : Prop := ∃ a c, r = .returned (.tuple #[.slice a P.length c, .bool b]) ∧ NewB w.heap.size w' (.slice a P.length c) P ∧ Below w.heap.size w w'
theorem newB_nil (B : Nat) (w : World) : NewB B w (.slice none 0 0) [] := ⟨rfl, .inl ⟨rfl, rfl⟩⟩
set_option maxRecDepth 20000 in
set_option maxHeartbeats 8000000 in
/-- The program's ArrayPack. -/
theorem arrayPack_impl {s d : List Int} {w : World} {v : Value} (h : ArrI w v s d) (hd : d.length ≤ 1048576) :
    Calls Try.prog 9 #[v] w fun r w' => APost w (arrOk s d) (if arrOk s d = true then apack s d else []) r w' := by
  have H : Hid (ArrI w v s d) := h
  have CO : Hid (∀ W, Below w.heap.size w W → Calls Try.prog 22 #[v] W fun r w' => r = .returned (.bool (arrOk s d)) ∧ Below W.heap.size W w') := fun W hb => arrOk_impl (h.keep hb) hd
  obtain ⟨a, c, b, e, rfl, ia, ib, ga, gb⟩ := h
  clear ia ib ga gb hd
  cases hc : arrOk s d
  · rw [hc] at CO
    rw [if_neg (by decide)]
    clear hc
    go_enter Try.func9, Try.ntmps9
    go_wp2_with fail
    refine (CO.out _ (bAlloc (Below.refl _ _) _)).mono ?_
    rintro r w1 ⟨rfl, hb⟩
    have B1 : Hid (Below w.heap.size w w1) := bTrans (bAlloc (Below.refl _ _) _) hb
    clear hb
    go_wp2
    go_ret2
    exact ⟨none, 0, rfl, newB_nil _ _, B1.out⟩
  · rw [if_pos rfl]
    have s3 := arrOk_rk hc
    have d3 := arrOk_len hc
    have OKD : Hid (d.all ok = true) := arrOk_all hc
    have DM : Hid (∀ k, k < s.length → ∃ m : Nat, s.getD k 0 = (m : Int) ∧ m ≤ 300) := fun k hk => arrOk_dim hc hk
    rw [hc] at CO
    clear hc
    have EP : Hid (apack s d = ((s.length : Int) :: cnts s) ++ numsBy d) := rfl
    generalize apack s d = PL at *
    go_enter Try.func9, Try.ntmps9
    go_wp2_with fail
    refine (CO.out _ (bAlloc (Below.refl _ _) _)).mono ?_
    rintro r w1 ⟨rfl, hb⟩
    have B1 : Hid (Below w.heap.size w w1) := bTrans (bAlloc (Below.refl _ _) _) hb
    have X1 : Hid (Box w1 w.heap.size (.slice a s.length c) (.slice b d.length e) 29) := (box_new w _ _ _).keep hb
    clear hb CO
    have x0 := X1.out.c0
    have x0a : ∀ O, (w1.alloc O).cell? ⟨w.heap.size, 0, none⟩ = some (.slice a s.length c) := fun O => (X1.out.keep one_below).c0
    have NA : Hid (∀ W, Below w1.heap.size w1 W → Ints W a s ∧ Ints W b d) := fun W hW => by
      obtain ⟨_, _, _, _, ev, h1, h2, _, _⟩ := H.out.keep (bTrans B1.out hW)
      cases ev
      exact ⟨h1, h2⟩
    go_wp2_with fail
    generalize hW : w1.alloc (.cells #[.int .u8 (s.length : Int)] 5) = W1
    have N1 : Hid (NewB w1.heap.size W1 (.slice (some ⟨w1.heap.size, 0, none⟩) 1 1) ((s.length : Int) :: cnts (s.take 0))) := by rw [← hW]; exact newB_alloc w1 [(s.length : Int)] (Nat.le_refl _) (by simp)
    have BB1 : Hid (Below w1.heap.size w1 W1) := by rw [← hW]; exact one_below
    clear hW x0 x0a
    go_loopw [4, 18] (fun u i w' => ∃ (k : Nat) (a1 : Option Addr) (c1 : Nat), k ≤ s.length ∧ u = .slice a1 ((s.length : Int) :: cnts (s.take k)).length c1 ∧ i = .int .i64 (k : Int) ∧ NewB w1.heap.size w' (.slice a1 ((s.length : Int) :: cnts (s.take k)).length c1) ((s.length : Int) :: cnts (s.take k)) ∧ Below w1.heap.size w1 w') (fun _ i _ => s.length - (intOf i).toNat)
    case atStart => exact ⟨0, _, _, by omega, rfl, rfl, N1.out, BB1.out⟩
    case round =>
      obtain ⟨k, a1, c1, hk, rfl, rfl, hN, hb⟩ := hrel
      have NK : Hid (NewB w1.heap.size wr (.slice a1 ((s.length : Int) :: cnts (s.take k)).length c1) ((s.length : Int) :: cnts (s.take k))) := hN
      have BK : Hid (Below w1.heap.size w1 wr) := hb
      clear hN hb N1 BB1
      by_cases hlt : (k : Int) < (s.length : Int)
      · have L : k < s.length := by omega
        obtain ⟨b1, o1, rfl, _, cx⟩ := (NA.out _ BK.out).1.at L
        obtain ⟨m, hm, hm3⟩ := DM.out k L
        have ET : Hid ((s.length : Int) :: cnts (s.take (k + 1)) = ((s.length : Int) :: cnts (s.take k)) ++ [(m : Int) % 256, (m : Int) / 256 % 256]) := by show _ = _; rw [cnts_take L, hm]; rfl
        rw [hm] at cx
        have LA : Hid (((s.length : Int) :: cnts (s.take k)).length ≤ 7) := by
          show _ ≤ _
          rw [List.length_cons, cnts_len, List.length_take]
          omega
        obtain ⟨F', hF'⟩ : ∃ F', F' = (s.length : Int) :: cnts (s.take (k + 1)) := ⟨_, rfl⟩
        have HF' : Hid (F' = (s.length : Int) :: cnts (s.take (k + 1))) := hF'
        rw [← hF'] at ET
        clear hF' L hm
        generalize (s.length : Int) :: cnts (s.take k) = A at *
        have LF : Hid (F'.length = A.length + 2) := by show _ = _; rw [ET.out]; simp
        have CW : Hid (Calls Try.prog 27 #[.slice a1 A.length c1, .int .i64 (m : Int)] wr fun r w' => ∃ a' c', r = .returned (.slice a' (A.length + 2) c') ∧ NewB w1.heap.size w' (.slice a' (A.length + 2) c') F' ∧ Below w1.heap.size w1 w') := by
          refine (withCount_impl NK.out BK.out.size (by have := LA.out; omega) m (by omega)).mono ?_
          rintro r w' ⟨a', c', rfl, h1, h2⟩
          rw [← ET.out] at h1
          exact ⟨a', c', rfl, h1, BK.out.trans (h2.below NK.out.row BK.out.size)⟩
        go_wp2_with fail
        refine CW.out.mono ?_
        rintro r w2 ⟨a2, c2, rfl, hN, hb⟩
        have N2 : Hid (NewB w1.heap.size w2 (.slice a2 (A.length + 2) c2) F') := hN
        have B2 : Hid (Below w1.heap.size w1 w2) := hb
        clear hN hb cx
        go_wp2
        go_roundw
        case rel => exact ⟨k + 1, a2, c2, by omega, by rw [← HF'.out, LF.out], by go_num, by rw [← HF'.out, LF.out]; exact N2.out, B2.out⟩
        case measure => simp [intOf]; omega
      · obtain rfl : k = s.length := by omega
        rw [List.take_length] at NK ⊢
        have LS : Hid (((s.length : Int) :: cnts s).length ≤ 7) := by
          show _ ≤ _
          rw [List.length_cons, cnts_len]
          omega
        generalize hA : (s.length : Int) :: cnts s = A at *
        have CN : Hid (Calls Try.prog 28 #[.slice a1 A.length c1, .slice b d.length e] wr fun r w' => ∃ a' c', r = .returned (.slice a' PL.length c') ∧ NewB w1.heap.size w' (.slice a' PL.length c') PL ∧ Below w1.heap.size w1 w') := by
          refine (withNums_impl NK.out (fun W hW => (NA.out W (BK.out.trans hW)).2) BK.out.size (by have := LS.out; omega) OKD.out).mono ?_
          rintro r w' ⟨a', c', rfl, h1, h2⟩
          rw [← EP.out] at h1 ⊢
          exact ⟨a', c', rfl, h1, BK.out.trans (h2.below NK.out.row BK.out.size)⟩
        have x1 := (X1.out.keep BK.out).c1
        clear hA
        go_wp2_with fail
        refine CN.out.mono ?_
        rintro r w2 ⟨a2, c2, rfl, hN, hb⟩
        have N2 : Hid (NewB w1.heap.size w2 (.slice a2 PL.length c2) PL) := hN
        have B2 : Hid (Below w1.heap.size w1 w2) := hb
        clear hN hb x1
        go_wp2
        go_ret2
        exact ⟨_, _, rfl, N2.out.mono B1.out.size, bTrans B1.out B2.out⟩
end Go.Proofs.Ytonkiipdobpfgaa
