/-
  Walks: the program's inOrder.
-/
import Derived.Test.YtmmjidhpmbcoiaaHeapI1
namespace Go.Proofs.Ytmmjidhpmbcoiaa
open Go.RowKit
open Go.Sort (SWO PermIn SortedIn)
set_option linter.unusedVariables false
set_option linter.unusedSimpArgs false
set_option maxRecDepth 100000 in
set_option maxHeartbeats 8000000 in
/-- inOrder. -/
theorem inOrder_impl (hS : SortsBy) (hS0 : SortsNone) {w : World} {v : Value} {W : List Int} {t : Int} {n : Nat} {E : Nat → Cel} (h : HI w v W t n E) (hn : n ≤ 200) :
    Calls Try.prog 49 #[v] w fun e w' => ∃ (u : Value) (hs : List Nat), e = .returned u ∧ NewInts w.heap.size w' u (nI hs) ∧ Ord E n hs ∧ Below w.heap.size w w' := by
  obtain ⟨wa, wc, ca, cc, rfl, h1, h2, h3, h4⟩ := h
  have H3 : Hid (CsA w ca n E) := h3
  have HS : Hid (SortsBy ∧ SortsNone) := ⟨hS, hS0⟩
  clear h1 h2 h3 h4 hS hS0
  generalize W.length = m at *
  obtain ⟨w1, r1, n1, b1, s1⟩ := make2_ints n (by omega) (w.alloc (.cells #[.slice wa m wc, .int .i64 t, .slice ca n cc] 28))
  rw [show (w.alloc (.cells #[.slice wa m wc, .int .i64 t, .slice ca n cc] 28)).heap.size = w.heap.size + 1 by simp] at r1 n1 b1 s1
  have X1 : Hid (Box3 w1 w.heap.size (.slice wa m wc) (.int .i64 t) (.slice ca n cc) 28) := (box3_new _ _ _ _ _).keep (by simpa using b1)
  have B1 : Hid (Below w.heap.size w w1) := bTrans (bAlloc (Below.refl _ _) _) (by simpa using b1)
  have N1 : Hid (NewInts (w.heap.size + 1) w1 (.slice (some ⟨w.heap.size + 1, 0, none⟩) 0 n) []) := n1
  clear n1 b1 s1
  go_enter Try.func49, Try.ntmps49
  have x2 := X1.out.c2
  go_wp2
  clear r1 x2
  go_loopw [3, 13] (fun u i w' => ∃ k : Nat, k ≤ n ∧ i = .int .i64 (k : Int) ∧ Box3 w' w.heap.size (.slice wa m wc) (.int .i64 t) (.slice ca n cc) 28 ∧ NewInts (w.heap.size + 1) w' u (nI (liv E k)) ∧ Below w.heap.size w w') (fun _ i _ => n - (intOf i).toNat)
  case atStart => exact ⟨0, by omega, rfl, X1.out, N1.out, B1.out⟩
  case round =>
    clear X1 N1 B1
    obtain ⟨k, hk, rfl, hX, hN, hB⟩ := hrel
    have XK : Hid (Box3 wr w.heap.size (.slice wa m wc) (.int .i64 t) (.slice ca n cc) 28) := hX
    have NK : Hid (NewInts (w.heap.size + 1) wr u3 (nI (liv E k))) := hN
    have BK : Hid (Below w.heap.size w wr) := hB
    have LX : w.heap.size < wr.heap.size := hX.lt
    clear hX hN hB
    by_cases hlt : (k : Int) < (n : Int)
    · have L : k < n := by omega
      obtain ⟨o, off, rfl, ho, p0, p1, p2⟩ := (H3.out.keep BK.out).at L
      clear ho
      have LS : Hid (liv E (k + 1) = if (E k).v then liv E k ++ [k] else liv E k) := liv_succ E k
      have LL : Hid ((liv E k).length ≤ k) := liv_len E k
      generalize hf : (E k).f = f at *
      generalize hl : (E k).l = l at *
      generalize hv : (E k).v = b at *
      clear hf hl hv
      cases b with
      | false =>
        have NX : Hid (NewInts (w.heap.size + 1) (wr.alloc (.cells #[.int .i64 f, .int .i64 l, .bool false] 47)) u3 (nI (liv E (k + 1)))) := by rw [LS.out]; exact NK.out.keep (bAlloc (Below.refl _ _) _)
        go_wp2
        go_roundw
        case rel => exact ⟨k + 1, by omega, by go_num, XK.out.alloc _, NX.out, bAlloc BK.out _⟩
        case measure => simp [intOf]; omega
      | true =>
        have N2 : NewInts (w.heap.size + 1) (wr.alloc (.cells #[.int .i64 f, .int .i64 l, .bool true] 47)) u3 (nI (liv E k)) := NK.out.keep (bAlloc (Below.refl _ _) _)
        obtain ⟨a', c', w', hr, hn2, hb2⟩ := grow1 (k : Int) N2 (by simp; omega) (by rw [nI_len]; have := LL.out; omega)
        rw [show (wr.alloc (.cells #[.int .i64 f, .int .i64 l, .bool true] 47)).heap.size = wr.heap.size + 1 by simp] at hr
        have HR : Hid ((Builtin.append_ #[25, 25] 25 #[u3, .slice (some ⟨wr.heap.size + 1, 0, none⟩) 1 1]).run Try.prog ((wr.alloc (.cells #[.int .i64 f, .int .i64 l, .bool true] 47)).alloc (.cells #[.int .i64 (k : Int)] 3)) = .ok (.slice a' ((nI (liv E k)).length + 1) c') w') := hr
        clear hr
        have en : nI (liv E k) ++ [(k : Int)] = nI (liv E (k + 1)) := by rw [LS.out]; simp [nI]
        rw [en] at hn2
        have N3 : Hid (NewInts (w.heap.size + 1) w' (.slice a' ((nI (liv E k)).length + 1) c') (nI (liv E (k + 1)))) := hn2
        have X3 : Hid (Box3 w' w.heap.size (.slice wa m wc) (.int .i64 t) (.slice (some ⟨o, off, none⟩) n cc) 28) := by
          have := XK.out.alloc (.cells #[.int .i64 f, .int .i64 l, .bool true] 47)
          show w'.heap[_]? = _
          rw [hb2.block _ (by omega)]
          exact this
        have B3 : Hid (Below w.heap.size w w') := (bAlloc BK.out _).trans (hb2.mono (by omega))
        clear N2 hn2 hb2 en
        generalize (nI (liv E k)).length + 1 = LN at *
        go_wp2_with (at_builtin; refine wpList_append_ty rfl _ _ 25 25 rfl _ _ _ rfl rfl HR.out ?_)
        go_roundw
        case rel => exact ⟨k + 1, by omega, by go_num, X3.out, N3.out, B3.out⟩
        case measure => simp [intOf]; omega
    · obtain rfl : k = n := by omega
      have hs := sort_handles (N := k) (key := fun i => (E i).f) HS.out.1 HS.out.2 NK.out (by omega) (fun x hx => (liv_mem.1 hx).1) (by have := liv_len E k; omega) 85 #[.pointer (some ⟨w.heap.size, 0, none⟩)] (enters_of Try.func85 (by kernel_rfl) rfl) (fun W x y hb hx hy => less_impl (W := W) (ty := 28) (by show W.heap[_]? = _; rw [hb.block _ (by omega)]; exact XK.out) (H3.out.keep (BK.out.trans (hb.mono (by omega)))) hx hy (by omega))
      go_wp2_with fail
      refine hs.mono ?_
      rintro r w' ⟨rfl, hs', hp, ho, hN, hb⟩
      have NF : Hid (NewInts w.heap.size w' u3 (nI hs')) := hN.mono (by omega)
      have OF : Hid (Ord E k hs') := ⟨hp, ho⟩
      have BF : Hid (Below w.heap.size w w') := BK.out.trans (hb.mono (by omega))
      clear hp ho hN hb
      go_wp2
      go_ret
      exact ⟨_, _, rfl, NF.out, OF.out, BF.out⟩
end Go.Proofs.Ytmmjidhpmbcoiaa
