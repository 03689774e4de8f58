/-
  Walks: the program's padded, lineText, ShowRow, over strings.Repeat's and strings.Join's contracts.
-/
import Derived.Test.YtcaidhmolnnikaaDoorRowS
import Derived.Test.YtcaidhmolnnikaaDoorDigI
import Derived.Lib.Join
namespace Go.Proofs.YtcaidhmolnnikaaDoor
open Go.RowKit
set_option linter.unusedVariables false
set_option linter.unusedSimpArgs false
/-- Texts joined, one blank between each two. -/
def jn (xs : List ByteArray) : ByteArray := ⟨(Lib.join (xs.map (·.data.toList)) [32]).toArray⟩
theorem jn_snoc (xs : List ByteArray) (x : ByteArray) : jn (xs ++ [x]) = (if xs = [] then jn xs else jn xs ++ ⟨#[32]⟩) ++ x := by
  apply ByteArray.ext
  cases xs with
  | nil => simp [jn, Lib.join_nil, Lib.join_one, ByteArray.data_append]
  | cons y r =>
    rw [if_neg (by simp)]
    unfold jn
    simp only [List.cons_append, List.map_cons, List.map_append, List.map_nil, Lib.join_cons, ByteArray.data_append]
    apply Array.ext'
    simp [Lib.joinTail]
/-- A text filled up with blanks ahead. -/
def padB (n : Nat) (s : ByteArray) : ByteArray := ⟨(List.replicate (n - s.size) (32 : UInt8)).toArray⟩ ++ s
theorem padB_zero (s : ByteArray) : padB 0 s = s := by
  apply ByteArray.ext
  simp [padB, ByteArray.data_append]
theorem rep_size (c : Nat) : (⟨(List.replicate c (32 : UInt8)).toArray⟩ : ByteArray).size = c := by
  show ((List.replicate c (32 : UInt8)).toArray).size = c
  rw [List.size_toArray, List.length_replicate]
theorem padB_size (n : Nat) (s : ByteArray) : (padB n s).size = (n - s.size) + s.size := by
  unfold padB
  rw [str_len, rep_size]
def Reps : Prop := ∀ (c : Nat) (w : World), c ≤ 22 → Calls Tryd.prog 95 #[.string ⟨#[32]⟩, .int .i64 (c : Int)] w fun e w' => e = .returned (.string ⟨(List.replicate c (32 : UInt8)).toArray⟩) ∧ Below w.heap.size w w'
def Joins : Prop := ∀ (bk c : Nat) (xs : List ByteArray) (w : World), (∀ j x, xs[j]? = some x → w.cell? ⟨bk, j, none⟩ = some (.string x)) → bk < w.heap.size → xs.length ≤ c → xs.length ≤ 1048576 → (∀ x ∈ xs, x.size ≤ 44) → Calls Tryd.prog 56 #[.slice (some ⟨bk, 0, none⟩) xs.length c, .string ⟨#[32]⟩] w fun e w' => e = .returned (.string (jn xs)) ∧ Below w.heap.size w w'
set_option maxRecDepth 20000 in
set_option maxHeartbeats 2000000 in
/-- padded. -/
theorem padded_impl (HR : Reps) (n : Nat) (s : ByteArray) (hn : n ≤ 22) (hs : s.size ≤ 22) (w : World) :
    Calls Tryd.prog 72 #[.string s, .int .i64 (n : Int)] w fun e w' => e = .returned (.string (padB n s)) ∧ Below w.heap.size w w' := by
  have CR : Hid (Calls Tryd.prog 95 #[.string ⟨#[32]⟩, .int .i64 ((n - s.size : Nat) : Int)] w fun e w' => e = .returned (.string ⟨(List.replicate (n - s.size) (32 : UInt8)).toArray⟩) ∧ Below w.heap.size w w') := HR _ w (by omega)
  have sz : (⟨(List.replicate (n - s.size) (32 : UInt8)).toArray⟩ : ByteArray).size + s.size ≤ 9223372036854775807 := by rw [rep_size]; omega
  unfold padB
  generalize (⟨(List.replicate (n - s.size) (32 : UInt8)).toArray⟩ : ByteArray) = p at *
  have em : max (0 : Int) ((n : Int) - (s.size : Int)) = ((n - s.size : Nat) : Int) := by omega
  go_enter Tryd.func72, Tryd.ntmps72
  go_wp2_with fail
  refine CR.out.mono ?_
  rintro r w1 ⟨rfl, hb⟩
  have B1 : Hid (Below w.heap.size w w1) := hb
  clear hb CR em
  go_wp2
  go_ret
  exact ⟨rfl, B1.out⟩
/-- The first k of n texts, told by f, lie in block o. -/
def StrK (w0 : World) (o n k : Nat) (W : World) (f : Nat → ByteArray) : Prop :=
  ∃ A : Array Value, W.heap[o]? = some (.cells A 9 (0, 0)) ∧ A.size = n ∧ (∀ i, i < k → A[i]? = some (.string (f i))) ∧ Below o w0 W
theorem StrK.keep {w0 W W' : World} {o n k : Nat} {f : Nat → ByteArray} (h : StrK w0 o n k W f) (hb : Below W.heap.size W W') : StrK w0 o n k W' f := by
  obtain ⟨A, h1, h2, h3, h4⟩ := h
  exact ⟨A, by rw [hb.block o (lt_of_heapA h1)]; exact h1, h2, h3, h4.trans (hb.mono (Nat.le_of_lt (lt_of_heapA h1)))⟩
theorem StrK.put {w0 W : World} {o n k : Nat} {f : Nat → ByteArray} (h : StrK w0 o n k W f) (hk : k < n) : StrK w0 o n (k + 1) (W.setCell ⟨o, k, none⟩ (.string (f k))) f ∧ (∃ u, W.cell? ⟨o, k, none⟩ = some u) ∧ W.frozen? ⟨o, k, none⟩ = false := by
  obtain ⟨A, h1, h2, h3, h4⟩ := h
  refine ⟨⟨_, heap_setCell_same W o k _ _ _ h1, by simpa using h2, fun i hi => ?_, below_setCell h4 (Nat.le_refl _) _ _⟩, ⟨A[k]'(by omega), cell_at h1 (Array.getElem?_eq_getElem (by omega))⟩, free_at h1 _⟩
  rw [Array.getElem?_setIfInBounds]
  by_cases e : i = k
  · subst e; rw [if_pos rfl, if_pos (by omega)]
  · rw [if_neg (by omega)]; exact h3 i (by omega)
theorem info_str : (Tryd.prog.info? 9).map (fun i => (i.zero, i.size, i.bytes)) = some (some (.string ⟨#[]⟩), 1, 16) := by kernel_rfl
theorem make_strs (n : Nat) (hn : n ≤ 1048576) (w : World) (f : Nat → ByteArray) : ∃ w', (Instr.makeSlice 56 (.int .i64 (n : Int)) (.int .i64 (n : Int))).run Tryd.prog w = .ok (.slice (some ⟨w.heap.size, 0, none⟩) n n) w' ∧ StrK w w.heap.size n 0 w' f := by
  have hi := info_str
  cases hq : Tryd.prog.info? 9 with
  | none => rw [hq] at hi; cases hi
  | some i =>
    rw [hq] at hi
    simp at hi
    obtain ⟨z1, z2, z3⟩ := hi
    have q := run_make (P := Tryd.prog) w 56 9 i _ Tryd.underlying56 hq z1 .i64 .i64 (n : Int) (n : Int) (by omega) (by omega) (by rw [z3]; omega) (by omega)
    rw [z2, Int.toNat_natCast] at q
    exact ⟨_, q, _, heap_alloc_new w _, by rw [size_madeCells, Nat.mul_one], fun i hi => absurd hi (by omega), bAlloc (Below.refl _ _) _⟩
/-- The texts of a line of numbers, each filled up. -/
def wds (m : Nat) (l : List Int) : List ByteArray := (List.range l.length).map fun i => padB m (digB (l.getD i 0))
set_option maxRecDepth 20000 in
set_option maxHeartbeats 2000000 in
/-- lineText. -/
theorem lineText_impl (HR : Reps) (HJn : Joins) {d : List Int} {b : Option Addr} {w : World} (e : Nat) (h : Ints w b d) (hd : d.length ≤ 1048576) (hall : d.all ok = true) (m : Nat) (hm : m ≤ 22) (ht : TabW w) :
    Calls Tryd.prog 42 #[.slice b d.length e, .int .i64 (m : Int)] w fun e w' => e = .returned (.string (jn (wds m d))) ∧ Below w.heap.size w w' := by
  have HJ : Hid (Ints w b d) := h
  have HTB : Hid (TabW w) := ht
  have HA : Hid (d.all ok = true) := hall
  have LW : Hid ((wds m d).length = d.length) := by show _ = _; simp [wds]
  have JN : Hid (∀ W (bk : Nat), (∀ j x, (wds m d)[j]? = some x → W.cell? ⟨bk, j, none⟩ = some (.string x)) → bk < W.heap.size → Calls Tryd.prog 56 #[.slice (some ⟨bk, 0, none⟩) d.length d.length, .string ⟨#[32]⟩] W fun e w' => e = .returned (.string (jn (wds m d))) ∧ Below W.heap.size W w') := fun W bk hc hb => by
    have := HJn bk d.length (wds m d) W hc hb (by rw [LW.out]; exact Nat.le_refl _) (by rw [LW.out]; exact hd) (fun x hx => by
      simp only [wds, List.mem_map, List.mem_range] at hx
      obtain ⟨i, hi, rfl⟩ := hx
      have := digB_size (ok_at HA.out hi)
      rw [padB_size]; omega)
    rw [LW.out] at this
    exact this
  have CP : Hid (∀ (s : ByteArray) (W : World), s.size ≤ 22 → Calls Tryd.prog 72 #[.string s, .int .i64 (m : Int)] W fun e w' => e = .returned (.string (padB m s)) ∧ Below W.heap.size W w') := fun s W hs => padded_impl HR m s hm hs W
  obtain ⟨w1, r1, t1⟩ := make_strs d.length hd w (fun i => padB m (digB (d.getD i 0)))
  have T1 : Hid (StrK w w.heap.size d.length 0 w1 (fun i => padB m (digB (d.getD i 0)))) := t1
  have WX : Hid (∀ j x, (wds m d)[j]? = some x → j < d.length ∧ x = padB m (digB (d.getD j 0))) := fun j x hx => by
    simp only [wds, List.getElem?_map] at hx
    by_cases hj : j < d.length
    · rw [List.getElem?_range hj] at hx
      simp at hx
      exact ⟨hj, by rw [← hx]; simp [List.getD_eq_getElem?_getD]⟩
    · rw [List.getElem?_eq_none (by simpa using hj)] at hx
      cases hx
  obtain ⟨R, hR⟩ : ∃ R, R = jn (wds m d) := ⟨_, rfl⟩
  rw [← hR] at JN ⊢
  clear h ht hall hm t1 hR
  go_enter Tryd.func42, Tryd.ntmps42
  go_wp2
  clear r1
  go_loopw [13] (fun i w' => ∃ k : Nat, k ≤ d.length ∧ i = .int .i64 (k : Int) ∧ StrK w w.heap.size d.length k w' (fun i => padB m (digB (d.getD i 0)))) (fun i _ => d.length - (intOf i).toNat)
  case atStart => exact ⟨0, by omega, rfl, T1.out⟩
  case round =>
    obtain ⟨k, hk, rfl, hT⟩ := hrel
    have TK : Hid (StrK w w.heap.size d.length k wr (fun i => padB m (digB (d.getD i 0)))) := hT
    clear hT T1
    have BK : Hid (Below w.heap.size w wr) := by obtain ⟨_, _, _, _, q⟩ := TK.out; exact q
    by_cases hlt : (k : Int) < (d.length : Int)
    · have L : k < d.length := by omega
      obtain ⟨b1, o1, rfl, _, c1⟩ := (HJ.out.keep BK.out).at L
      have okx := ok_at HA.out L
      have CD : Hid (Calls Tryd.prog 73 #[.int .i64 (d.getD k 0)] wr fun e w' => e = .returned (.string (digB (d.getD k 0))) ∧ Below wr.heap.size wr w') := numberWord_impl okx (HTB.out.on BK.out)
      have CQ : Hid (∀ W, Calls Tryd.prog 72 #[.string (digB (d.getD k 0)), .int .i64 (m : Int)] W fun e w' => e = .returned (.string (padB m (digB (d.getD k 0)))) ∧ Below W.heap.size W w') := fun W => CP.out _ W (digB_size okx)
      have PT : Hid (∀ W, Below wr.heap.size wr W → StrK w w.heap.size d.length (k + 1) (W.setCell ⟨w.heap.size, k, none⟩ (.string (padB m (digB (d.getD k 0))))) (fun i => padB m (digB (d.getD i 0))) ∧ (∃ u, W.cell? ⟨w.heap.size, k, none⟩ = some u) ∧ W.frozen? ⟨w.heap.size, k, none⟩ = false) := fun W hW => (TK.out.keep hW).put L
      generalize d.getD k 0 = x at *
      generalize digB x = s at *
      generalize padB m s = p at *
      clear okx
      go_wp2_with fail
      refine CD.out.mono ?_
      rintro r w2 ⟨rfl, hb⟩
      have B2 : Hid (Below wr.heap.size wr w2) := hb
      clear hb CD c1
      go_wp2_with fail
      refine (CQ.out _).mono ?_
      rintro r w3 ⟨rfl, hb⟩
      have B3 : Hid (Below wr.heap.size wr w3) := bTrans B2.out hb
      obtain ⟨h1, ⟨u0, h2⟩, h3⟩ := PT.out w3 B3.out
      have P3 : Hid (StrK w w.heap.size d.length (k + 1) (w3.setCell ⟨w.heap.size, k, none⟩ (.string p)) (fun i => padB m (digB (d.getD i 0)))) := h1
      clear hb CQ h1 PT
      go_wp2
      go_roundw
      case rel => exact ⟨k + 1, by omega, by go_num, P3.out⟩
      case measure => simp [intOf]; omega
    · obtain rfl : k = d.length := by omega
      have CJ : Hid (Calls Tryd.prog 56 #[.slice (some ⟨w.heap.size, 0, none⟩) d.length d.length, .string ⟨#[32]⟩] wr fun e w' => e = .returned (.string R) ∧ Below wr.heap.size wr w') := by
        obtain ⟨A, h1, h2, h3, h4⟩ := TK.out
        refine JN.out wr w.heap.size (fun j x hx => ?_) (lt_of_heapA h1)
        obtain ⟨hj, rfl⟩ := WX.out j x hx
        exact cell_at h1 (h3 j hj)
      go_wp2_with fail
      refine CJ.out.mono ?_
      rintro r w2 ⟨rfl, hb⟩
      have B2 : Hid (Below w.heap.size w w2) := bTrans BK.out hb
      clear hb CJ
      go_wp2
      go_ret
      exact ⟨rfl, B2.out⟩
end Go.Proofs.YtcaidhmolnnikaaDoor
