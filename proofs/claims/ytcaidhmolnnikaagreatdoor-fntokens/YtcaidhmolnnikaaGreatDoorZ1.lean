/-
  Several walks, one behind the other: RowS, LaysI, DigI, RowI, RowI2, TokI, LaysJ, JoinsT, TokS, LexZ.
-/
import Derived.Test.YtcaidhmolnnikaaGreatDoorWideS
import Derived.Shelf.Strconv.Itoa3
import Derived.Test.YtcaidhmolnnikaaGreatDoorProg
import Derived.Test.YtcaidhmolnnikaaGreatDoorDigS
import Derived.Lib.AppendIntMem
import Derived.Lib.Join
import Derived.Test.YtcaidhmolnnikaaGreatDoorTokW
import Derived.Shelf.Strings.OnBuilder
import Derived.Shelf.Strings.Repeat
import Derived.Laws.BytesArg
import Derived.Test.YtcaidhmolnnikaaGreatDoorDrawTk
namespace Go.Proofs.YtcaidhmolnnikaaGreatDoor
open Go.RowKit
set_option linter.unusedVariables false
set_option linter.unusedSimpArgs false
/-- The first k numbers in a row. -/
def rowB (l : List Int) : Nat → ByteArray
  | 0 => ⟨#[]⟩
  | k + 1 => (if k = 0 then rowB l k else rowB l k ++ ⟨#[32]⟩) ++ digB (l.getD k 0)
def rowV (l : List Int) : ByteArray := if l.all ok = true then rowB l l.length else ⟨#[]⟩
theorem rowB_le {l : List Int} (h : l.all ok = true) : ∀ {k : Nat}, k ≤ l.length → (rowB l k).size ≤ 23 * k
  | 0, _ => by simp [rowB, ByteArray.size]
  | k + 1, hk => by
    have h1 := rowB_le h (k := k) (by omega)
    have h2 := digB_size (ok_at h (k := k) (by omega))
    have e : ByteArray.size ⟨#[32]⟩ = 1 := rfl
    simp only [rowB]
    split
    · rw [str_len]; omega
    · rw [str_len, str_len]; omega
end Go.Proofs.YtcaidhmolnnikaaGreatDoor
namespace Go.Proofs
open Go.Shelf
def Tryz.laysItoa_ren : Go.Shelf.Ren := ⟨fun | 171 => 51 | 243 => 61 | 246 => 69 | 283 => 73 | 284 => 74 | 285 => 75 | 286 => 76 | 129 => 83 | 317 => 82 | 318 => 84 | 319 => 85 | 320 => 86 | 337 => 90 | 338 => 91 | n => n, fun | 3 => 3 | 9 => 9 | 2 => 2 | 4 => 4 | 171 => 115 | 0 => 0 | 53 => 116 | 37 => 22 | 5 => 5 | 173 => 119 | 212 => 129 | 51 => 130 | 20 => 20 | 213 => 131 | 46 => 87 | 232 => 144 | 233 => 145 | n => n, fun | 17 => 2 | 18 => 5 | 19 => 6 | n => n⟩
theorem Tryz.laysItoa : Go.Proofs.LaysM.n171 Tryz.prog Tryz.laysItoa_ren := {
  mixed := by kernel_rfl
  f129 := Tryz.func83.trans (congrArg some (by kernel_rfl))
  f171 := Tryz.func51.trans (congrArg some (by kernel_rfl))
  f243 := Tryz.func61.trans (congrArg some (by kernel_rfl))
  f246 := Tryz.func69.trans (congrArg some (by kernel_rfl))
  f283 := Tryz.func73.trans (congrArg some (by kernel_rfl))
  f284 := Tryz.func74.trans (congrArg some (by kernel_rfl))
  f285 := Tryz.func75.trans (congrArg some (by kernel_rfl))
  f286 := Tryz.func76.trans (congrArg some (by kernel_rfl))
  f317 := Tryz.func82.trans (congrArg some (by kernel_rfl))
  f318 := Tryz.func84.trans (congrArg some (by kernel_rfl))
  f319 := Tryz.func85.trans (congrArg some (by kernel_rfl))
  f320 := Tryz.func86.trans (congrArg some (by kernel_rfl))
  f337 := Tryz.func90.trans (congrArg some (by kernel_rfl))
  f338 := Tryz.func91.trans (congrArg some (by kernel_rfl))
  t0 := Tryz.underlying0
  a0 := Tryz.isAgg0
  z0 := Tryz.sizeOf0
  v0 := Tryz.zeroValue0
  t2 := Tryz.underlying2
  a2 := Tryz.isAgg2
  z2 := Tryz.sizeOf2
  v2 := Tryz.zeroValue2
  t3 := Tryz.underlying3
  a3 := Tryz.isAgg3
  z3 := Tryz.sizeOf3
  v3 := Tryz.zeroValue3
  t4 := Tryz.underlying4
  a4 := Tryz.isAgg4
  z4 := Tryz.sizeOf4
  v4 := Tryz.zeroValue4
  t5 := Tryz.underlying5
  a5 := Tryz.isAgg5
  z5 := Tryz.sizeOf5
  v5 := Tryz.zeroValue5
  t9 := Tryz.underlying9
  a9 := Tryz.isAgg9
  z9 := Tryz.sizeOf9
  v9 := Tryz.zeroValue9
  t20 := Tryz.underlying20
  a20 := Tryz.isAgg20
  z20 := Tryz.sizeOf20
  v20 := Tryz.zeroValue20
  t37 := Tryz.underlying22
  a37 := Tryz.isAgg22
  z37 := Tryz.sizeOf22
  v37 := Tryz.zeroValue22
  t46 := Tryz.underlying87
  a46 := Tryz.isAgg87
  z46 := Tryz.sizeOf87
  v46 := Tryz.zeroValue87
  t51 := Tryz.underlying130
  a51 := Tryz.isAgg130
  z51 := Tryz.sizeOf130
  v51 := Tryz.zeroValue130
  t53 := Tryz.underlying116
  a53 := Tryz.isAgg116
  z53 := Tryz.sizeOf116
  v53 := Tryz.zeroValue116
  t171 := Tryz.underlying115
  a171 := Tryz.isAgg115
  z171 := Tryz.sizeOf115
  v171 := Tryz.zeroValue115
  t173 := Tryz.underlying119
  a173 := Tryz.isAgg119
  z173 := Tryz.sizeOf119
  v173 := Tryz.zeroValue119
  t212 := Tryz.underlying129
  a212 := Tryz.isAgg129
  z212 := Tryz.sizeOf129
  v212 := Tryz.zeroValue129
  t213 := Tryz.underlying131
  a213 := Tryz.isAgg131
  z213 := Tryz.sizeOf131
  t232 := Tryz.underlying144
  a232 := Tryz.isAgg144
  z232 := Tryz.sizeOf144
  v232 := Tryz.zeroValue144
  t233 := Tryz.underlying145
  a233 := Tryz.isAgg145
  z233 := Tryz.sizeOf145
  v233 := Tryz.zeroValue145
  g17 := by kernel_rfl
  g18 := by kernel_rfl
  g19 := by kernel_rfl
  i0 := by kernel_rfl
  i2 := by kernel_rfl
  i3 := by kernel_rfl
  i4 := by kernel_rfl
  i5 := by kernel_rfl
  i9 := by kernel_rfl
  i20 := by kernel_rfl
  i37 := by kernel_rfl
  i46 := by kernel_rfl
  i51 := by kernel_rfl
  i53 := by kernel_rfl
  i171 := by kernel_rfl
  i173 := by kernel_rfl
  i212 := by kernel_rfl
  i232 := by kernel_rfl
  i233 := by kernel_rfl
  m17 := by kernel_rfl
  m18 := by kernel_rfl
  m19 := by kernel_rfl }
end Go.Proofs
namespace Go.Proofs.YtcaidhmolnnikaaGreatDoor
open Go.RowKit
set_option linter.unusedVariables false
set_option linter.unusedSimpArgs false
/-- The library's table of powers of ten stands, whatever is done from here on. -/
def TabW (w : World) : Prop := Lib.TabBelow Tryz.prog w.heap.size w "internal/strconv.uint64pow10" .u64 Lib.pow10Tab
theorem TabW.on {w w' : World} (h : TabW w) (hb : Below w.heap.size w w') : TabW w' := fun x hx => h x (hb.trans (hx.mono hb.size))
theorem itoa_impl (N : Nat) (h : (N : Int) ≤ 1000000000000) {w : World} (ht : TabW w) :
    Calls Tryz.prog 51 #[.int .i64 (N : Int)] w fun e w' => e = .returned (.string (dgs N)) ∧ Below w.heap.size w w' := by
  refine (Any.strconv_Itoa Tryz.laysItoa (N : Int) (by omega) (by omega) w ht.here).mono ?_
  rintro e w' ⟨rfl, k, os, rfl⟩
  refine ⟨?_, Lib.below_grow _ w (Nat.le_refl _) k os⟩
  unfold Lib.itoa dgs
  rw [if_neg (by omega), Int.toNat_natCast]
set_option maxRecDepth 20000 in
set_option maxHeartbeats 4000000 in
/-- numberWord of right numbers. -/
theorem numberWord_impl {x : Int} (h : ok x = true) {w : World} (ht : TabW w) :
    Calls Tryz.prog 34 #[.int .i64 x] w fun e w' => e = .returned (.string (digB x)) ∧ Below w.heap.size w w' := by
  have hb : -1000000000000 ≤ x ∧ x ≤ 1000000000000 := by simpa [ok] using h
  by_cases h0 : x < 0
  · obtain ⟨N, rfl⟩ : ∃ N : Nat, x = -(N : Int) := ⟨(-x).toNat, by omega⟩
    rw [digB_neg (by omega)]
    have C : Hid (Calls Tryz.prog 51 #[.int .i64 (N : Int)] w fun e w' => e = .returned (.string (dgs N)) ∧ Below w.heap.size w w') := itoa_impl N (by omega) ht
    have sz : ByteArray.size ⟨#[95]⟩ + (dgs N).size ≤ 9223372036854775807 := by
      have := dgs_size (N := N) (by omega)
      have e : ByteArray.size ⟨#[95]⟩ = 1 := rfl
      omega
    generalize dgs N = d at *
    clear h ht
    go_enter Tryz.func34, Tryz.ntmps34
    go_wp2_with fail
    refine C.out.mono ?_
    rintro r w1 ⟨rfl, hb1⟩
    have B1 : Hid (Below w.heap.size w w1) := hb1
    clear hb1 C
    go_wp2
    go_ret
    exact ⟨rfl, B1.out⟩
  · obtain ⟨N, rfl⟩ : ∃ N : Nat, x = (N : Int) := ⟨x.toNat, by omega⟩
    rw [digB_nat]
    have C : Hid (Calls Tryz.prog 51 #[.int .i64 (N : Int)] w fun e w' => e = .returned (.string (dgs N)) ∧ Below w.heap.size w w') := itoa_impl N (by omega) ht
    generalize dgs N = d at *
    clear h ht
    go_enter Tryz.func34, Tryz.ntmps34
    go_wp2_with fail
    refine C.out.mono ?_
    rintro r w1 ⟨rfl, hb1⟩
    have B1 : Hid (Below w.heap.size w w1) := hb1
    clear hb1 C
    go_wp2
    go_ret
    exact ⟨rfl, B1.out⟩
end Go.Proofs.YtcaidhmolnnikaaGreatDoor
namespace Go.Proofs.YtcaidhmolnnikaaGreatDoor
open Go.RowKit
set_option linter.unusedVariables false
set_option linter.unusedSimpArgs false
/-- Texts joined, one blank between each two. -/
def jn (xs : List ByteArray) : ByteArray := ⟨(Lib.join (xs.map (·.data.toList)) [32]).toArray⟩
theorem jn_snoc (xs : List ByteArray) (x : ByteArray) : jn (xs ++ [x]) = (if xs = [] then jn xs else jn xs ++ ⟨#[32]⟩) ++ x := by
  apply ByteArray.ext
  cases xs with
  | nil => simp [jn, Lib.join_nil, Lib.join_one, ByteArray.data_append]
  | cons y r =>
    rw [if_neg (by simp)]
    unfold jn
    simp only [List.cons_append, List.map_cons, List.map_append, List.map_nil, Lib.join_cons, ByteArray.data_append]
    apply Array.ext'
    simp [Lib.joinTail]
/-- A text filled up with blanks ahead. -/
def padB (n : Nat) (s : ByteArray) : ByteArray := ⟨(List.replicate (n - s.size) (32 : UInt8)).toArray⟩ ++ s
theorem padB_zero (s : ByteArray) : padB 0 s = s := by
  apply ByteArray.ext
  simp [padB, ByteArray.data_append]
theorem rep_size (c : Nat) : (⟨(List.replicate c (32 : UInt8)).toArray⟩ : ByteArray).size = c := by
  show ((List.replicate c (32 : UInt8)).toArray).size = c
  rw [List.size_toArray, List.length_replicate]
theorem padB_size (n : Nat) (s : ByteArray) : (padB n s).size = (n - s.size) + s.size := by
  unfold padB
  rw [str_len, rep_size]
def Joins : Prop := ∀ (bk c : Nat) (xs : List ByteArray) (w : World), (∀ j x, xs[j]? = some x → w.cell? ⟨bk, j, none⟩ = some (.string x)) → bk < w.heap.size → xs.length ≤ c → xs.length ≤ 1048576 → (∀ x ∈ xs, x.size ≤ 44) → Calls Tryz.prog 18 #[.slice (some ⟨bk, 0, none⟩) xs.length c, .string ⟨#[32]⟩] w fun e w' => e = .returned (.string (jn xs)) ∧ Below w.heap.size w w'
/-- The first k of n texts, told by f, lie in block o. -/
def StrK (w0 : World) (o n k : Nat) (W : World) (f : Nat → ByteArray) : Prop :=
  ∃ A : Array Value, W.heap[o]? = some (.cells A 9 (0, 0)) ∧ A.size = n ∧ (∀ i, i < k → A[i]? = some (.string (f i))) ∧ Below o w0 W
theorem StrK.keep {w0 W W' : World} {o n k : Nat} {f : Nat → ByteArray} (h : StrK w0 o n k W f) (hb : Below W.heap.size W W') : StrK w0 o n k W' f := by
  obtain ⟨A, h1, h2, h3, h4⟩ := h
  exact ⟨A, by rw [hb.block o (lt_of_heapA h1)]; exact h1, h2, h3, h4.trans (hb.mono (Nat.le_of_lt (lt_of_heapA h1)))⟩
theorem StrK.put {w0 W : World} {o n k : Nat} {f : Nat → ByteArray} (h : StrK w0 o n k W f) (hk : k < n) : StrK w0 o n (k + 1) (W.setCell ⟨o, k, none⟩ (.string (f k))) f ∧ (∃ u, W.cell? ⟨o, k, none⟩ = some u) ∧ W.frozen? ⟨o, k, none⟩ = false := by
  obtain ⟨A, h1, h2, h3, h4⟩ := h
  refine ⟨⟨_, heap_setCell_same W o k _ _ _ h1, by simpa using h2, fun i hi => ?_, below_setCell h4 (Nat.le_refl _) _ _⟩, ⟨A[k]'(by omega), cell_at h1 (Array.getElem?_eq_getElem (by omega))⟩, free_at h1 _⟩
  rw [Array.getElem?_setIfInBounds]
  by_cases e : i = k
  · subst e; rw [if_pos rfl, if_pos (by omega)]
  · rw [if_neg (by omega)]; exact h3 i (by omega)
theorem info_str : (Tryz.prog.info? 9).map (fun i => (i.zero, i.size, i.bytes)) = some (some (.string ⟨#[]⟩), 1, 16) := by kernel_rfl
theorem make_strs (n : Nat) (hn : n ≤ 1048576) (w : World) (f : Nat → ByteArray) : ∃ w', (Instr.makeSlice 39 (.int .i64 (n : Int)) (.int .i64 (n : Int))).run Tryz.prog w = .ok (.slice (some ⟨w.heap.size, 0, none⟩) n n) w' ∧ StrK w w.heap.size n 0 w' f := by
  have hi := info_str
  cases hq : Tryz.prog.info? 9 with
  | none => rw [hq] at hi; cases hi
  | some i =>
    rw [hq] at hi
    simp at hi
    obtain ⟨z1, z2, z3⟩ := hi
    have q := run_make (P := Tryz.prog) w 39 9 i _ Tryz.underlying39 hq z1 .i64 .i64 (n : Int) (n : Int) (by omega) (by omega) (by rw [z3]; omega) (by omega)
    rw [z2, Int.toNat_natCast] at q
    exact ⟨_, q, _, heap_alloc_new w _, by rw [size_madeCells, Nat.mul_one], fun i hi => absurd hi (by omega), bAlloc (Below.refl _ _) _⟩
/-- The texts of a line of numbers, each filled up. -/
def wds (m : Nat) (l : List Int) : List ByteArray := (List.range l.length).map fun i => padB m (digB (l.getD i 0))
end Go.Proofs.YtcaidhmolnnikaaGreatDoor
namespace Go.Proofs.YtcaidhmolnnikaaGreatDoor
open Go.RowKit
set_option linter.unusedVariables false
set_option linter.unusedSimpArgs false
theorem jn_nil : jn [] = ⟨#[]⟩ := rfl
theorem rowB_jn (l : List Int) : ∀ k, rowB l k = jn ((List.range k).map fun i => digB (l.getD i 0))
  | 0 => rfl
  | k + 1 => by
    rw [List.range_succ, List.map_append, List.map_cons, List.map_nil, jn_snoc]
    simp only [rowB, rowB_jn l k]
    by_cases h : k = 0
    · subst h; rfl
    · rw [if_neg h, if_neg (by simp [h])]
theorem wds_zero (l : List Int) : wds 0 l = (List.range l.length).map fun i => digB (l.getD i 0) := by
  unfold wds
  apply List.map_congr_left
  intro i _
  rw [padB_zero]
end Go.Proofs.YtcaidhmolnnikaaGreatDoor
namespace Go.Proofs.YtcaidhmolnnikaaGreatDoor
open Go.RowKit
set_option linter.unusedVariables false
set_option linter.unusedSimpArgs false
set_option maxRecDepth 20000 in
set_option maxHeartbeats 4000000 in
theorem tokens_impl {w : World} {a : Option Addr} {n c : Nat} {E : Nat → Spn} (h : SsA w a n E) (hn : n ≤ 1048576) :
    Calls Tryz.prog 16 #[.slice a n c] w fun e w' => e = .returned (.bool (tokR n E)) ∧ Below w.heap.size w w' := by
  have H : Hid (SsA w a n E) := h
  clear h
  by_cases hbig : (n : Int) > 300
  · have ER : Hid (tokR n E = false) := by
      show _ = _
      unfold tokR
      rw [decide_eq_false (by omega), Bool.and_false]
    go_enter Tryz.func16, Tryz.ntmps16
    go_wp2
    go_ret
    exact ⟨by rw [ER.out]; rfl, Below.refl _ _⟩
  have ER : Hid (tokAll E n = true → tokR n E = true) := fun h => by
    unfold tokR
    rw [h, decide_eq_true (by omega)]; rfl
  have EF : Hid (tokAll E n = false → tokR n E = false) := fun h => by unfold tokR; rw [h]; rfl
  go_enter Tryz.func16, Tryz.ntmps16
  go_wp2
  go_loopw [10] (fun i w' => ∃ k : Nat, k ≤ n ∧ i = .int .i64 (k : Int) ∧ tokAll E k = true ∧ Below w.heap.size w w') (fun i _ => n - (intOf i).toNat)
  case atStart => exact ⟨0, by omega, rfl, rfl, Below.refl _ _⟩
  case round =>
    obtain ⟨k, hk, rfl, ha, hb⟩ := hrel
    have HA : Hid (tokAll E k = true) := ha
    have HB : Hid (Below w.heap.size w wr) := hb
    clear ha hb
    by_cases hlt : (k : Int) < (n : Int)
    · have L : k < n := by omega
      obtain ⟨o, off, rfl, ho, p0, p1⟩ := (H.out.keep HB.out).at L
      have NO : Hid (tokB (E k).f (E k).t = false → tokR n E = false) := fun h => EF.out (tokAll_no L h)
      have YES : Hid (tokB (E k).f (E k).t = true → tokAll E (k + 1) = true) := fun h => tokAll_next HA.out h
      have CT : Hid (∀ W, Calls Tryz.prog 8 #[.agg #[.int .i64 (E k).f, .int .i64 (E k).t]] W fun e w' => e = .returned (.bool (tokB (E k).f (E k).t)) ∧ Below W.heap.size W w') := fun W => tokOk_impl _ _ W
      clear ho
      generalize (E k).f = e0 at *
      generalize (E k).t = e1 at *
      generalize tokB e0 e1 = q at *
      go_wp2_with fail
      refine (CT.out _).mono ?_
      rintro r w2 ⟨rfl, hb⟩
      have B2 : Hid (Below w.heap.size w w2) := bTrans (bAlloc HB.out _) hb
      clear hb CT p0 p1
      cases q
      · go_wp2
        go_ret
        exact ⟨by rw [NO.out (by trivial)]; rfl, B2.out⟩
      · go_wp2
        go_roundw
        case rel => exact ⟨k + 1, by omega, by go_num, YES.out (by trivial), B2.out⟩
        case measure => simp [intOf]; omega
    · obtain rfl : k = n := by omega
      go_wp2
      go_ret
      exact ⟨by rw [ER.out HA.out]; rfl, HB.out⟩
set_option maxRecDepth 20000 in
set_option maxHeartbeats 4000000 in
/-- The text of a right token. -/
theorem word_impl {k v : Int} (h : tokB k v = true) {w : World} (ht : TabW w) :
    Calls Tryz.prog 17 #[.agg #[.int .i64 k, .int .i64 v]] w fun e w' => e = .returned (.string (tokW k v)) ∧ Below w.heap.size w w' := by
  have HT : Hid (TabW w) := ht
  clear ht
  rcases tokKinds k with rfl | rfl | rfl | rfl | rfl | rfl | hk
  · have CD : Hid (∀ W, Below w.heap.size w W → Calls Tryz.prog 34 #[.int .i64 v] W fun e w' => e = .returned (.string (tokW 1 v)) ∧ Below W.heap.size W w') := fun W hb => numberWord_impl h (HT.out.on hb)
    generalize tokW 1 v = s at *
    clear h
    go_enter Tryz.func17, Tryz.ntmps17
    go_wp2_with fail
    refine (CD.out _ (bAlloc (Below.refl _ _) _)).mono ?_
    rintro r w1 ⟨rfl, hb⟩
    have HB : Hid (Below w.heap.size w w1) := bTrans (bAlloc (Below.refl _ _) _) hb
    clear hb CD
    go_wp2
    go_ret
    exact ⟨rfl, HB.out⟩
  · have hv : 0 ≤ v ∧ v ≤ 25 := by rw [tok2] at h; simpa using h
    obtain ⟨v0, v1⟩ := hv
    have w8 : IntKind.i32.wrap (65 + v) = 65 + v := by rw [IntKind.wrap_i32]; omega
    have EN := encode_small (n := 65 + v) (by omega) (by omega)
    have e : tokW 2 v = strOfNums [65 + v] := rfl
    rw [e]
    generalize strOfNums [65 + v] = s at *
    clear h e
    go_enter Tryz.func17, Tryz.ntmps17
    go_wp2
    go_ret
    exact ⟨by first | rfl | rw [EN], bAlloc (Below.refl _ _) _⟩
  · have hv := sign_bd (show signB v = true from h)
    obtain ⟨v0, v1⟩ := hv
    have w8 : IntKind.i32.wrap v = v := by rw [IntKind.wrap_i32]; omega
    have EN := encode_small (n := v) (by omega) (by omega)
    have e : tokW 3 v = strOfNums [v] := rfl
    rw [e]
    generalize strOfNums [v] = s at *
    clear h e
    go_enter Tryz.func17, Tryz.ntmps17
    go_wp2
    go_ret
    exact ⟨by first | rfl | rw [EN], bAlloc (Below.refl _ _) _⟩
  iterate 3
    · clear h
      go_enter Tryz.func17, Tryz.ntmps17
      go_wp2
      go_ret
      exact ⟨rfl, bAlloc (Below.refl _ _) _⟩
  · rw [tok5 hk] at h; cases h
theorem tokJ_jn (E : Nat → Spn) : ∀ k, tokJ E k = jn ((List.range k).map fun i => tokW (E i).f (E i).t)
  | 0 => rfl
  | k + 1 => by
    rw [List.range_succ, List.map_append, List.map_cons, List.map_nil, jn_snoc]
    simp only [tokJ, tokJ_jn E k]
    by_cases h : k = 0
    · subst h; rfl
    · rw [if_neg h, if_neg (by simp [h])]
set_option maxRecDepth 20000 in
set_option maxHeartbeats 4000000 in
/-- The program's TokenText. -/
theorem tokenText_impl (HJn : Joins) {w : World} {a : Option Addr} {n c : Nat} {E : Nat → Spn} (h : SsA w a n E) (hn : n ≤ 1048576) (ht : TabW w) :
    Calls Tryz.prog 6 #[.slice a n c] w fun e w' => e = .returned (.string (tokV n E)) ∧ Below w.heap.size w w' := by
  have H : Hid (SsA w a n E) := h
  have HTB : Hid (TabW w) := ht
  have CN : Hid (Calls Tryz.prog 16 #[.slice a n c] w fun e w' => e = .returned (.bool (tokR n E)) ∧ Below w.heap.size w w') := tokens_impl h hn
  unfold tokV
  clear h ht
  cases hall : tokR n E
  · rw [hall] at CN
    rw [if_neg (by decide)]
    clear hall
    go_enter Tryz.func6, Tryz.ntmps6
    go_wp2_with fail
    refine CN.out.mono ?_
    rintro r w1 ⟨rfl, hb⟩
    have B1 : Hid (Below w.heap.size w w1) := hb
    clear hb CN
    go_wp2
    go_ret
    exact ⟨rfl, B1.out⟩
  · have HA : Hid (tokAll E n = true) := by
      show _ = _
      unfold tokR at hall
      simp only [Bool.and_eq_true] at hall
      exact hall.1
    rw [hall] at CN
    rw [if_pos rfl, tokJ_jn]
    clear hall
    obtain ⟨F, hF⟩ : ∃ F : Nat → ByteArray, F = fun i => tokW (E i).f (E i).t := ⟨_, rfl⟩
    have FE : Hid (∀ i, F i = tokW (E i).f (E i).t) := fun i => by rw [hF]
    rw [← hF]
    have LW : Hid (((List.range n).map F).length = n) := by show _ = _; simp
    have JN : Hid (∀ W (bk : Nat), (∀ j x, ((List.range n).map F)[j]? = some x → W.cell? ⟨bk, j, none⟩ = some (.string x)) → bk < W.heap.size → Calls Tryz.prog 18 #[.slice (some ⟨bk, 0, none⟩) n n, .string ⟨#[32]⟩] W fun e w' => e = .returned (.string (jn ((List.range n).map F))) ∧ Below W.heap.size W w') := fun W bk hc hb => by
      have := HJn bk n ((List.range n).map F) W hc hb (by rw [LW.out]; exact Nat.le_refl _) (by rw [LW.out]; exact hn) (fun x hx => by
        simp only [List.mem_map, List.mem_range] at hx
        obtain ⟨i, hi, rfl⟩ := hx
        rw [FE.out]
        have := tokW_size (tokAll_at HA.out hi)
        omega)
      rw [LW.out] at this
      exact this
    have WX : Hid (∀ j x, ((List.range n).map F)[j]? = some x → j < n ∧ x = F j) := fun j x hx => by
      simp only [List.getElem?_map] at hx
      by_cases hj : j < n
      · rw [List.getElem?_range hj] at hx
        simp at hx
        exact ⟨hj, hx.symm⟩
      · rw [List.getElem?_eq_none (by simpa using hj)] at hx
        cases hx
    obtain ⟨R, hR⟩ : ∃ R, R = jn ((List.range n).map F) := ⟨_, rfl⟩
    rw [← hR] at JN ⊢
    clear hF hR
    go_enter Tryz.func6, Tryz.ntmps6
    go_wp2_with fail
    refine CN.out.mono ?_
    rintro r w1 ⟨rfl, hb⟩
    have B1 : Hid (Below w.heap.size w w1) := hb
    obtain ⟨w2, r2, t2⟩ := make_strs n hn w1 F
    have T2 : Hid (StrK w1 w1.heap.size n 0 w2 F) := t2
    clear hb CN t2
    go_wp2
    clear r2
    go_loopw [14] (fun i w' => ∃ k : Nat, k ≤ n ∧ i = .int .i64 (k : Int) ∧ StrK w1 w1.heap.size n k w' F) (fun i _ => n - (intOf i).toNat)
    case atStart => exact ⟨0, by omega, rfl, T2.out⟩
    case round =>
      obtain ⟨k, hk, rfl, hT⟩ := hrel
      have TK : Hid (StrK w1 w1.heap.size n k wr F) := hT
      clear hT T2
      have BK : Hid (Below w.heap.size w wr) := by obtain ⟨_, _, _, _, q⟩ := TK.out; exact bTrans B1.out q
      by_cases hlt : (k : Int) < (n : Int)
      · have L : k < n := by omega
        obtain ⟨o, off, rfl, ho, p0, p1⟩ := (H.out.keep BK.out).at L
        have okx := tokAll_at HA.out L
        have CD : Hid (∀ W, Below wr.heap.size wr W → Calls Tryz.prog 17 #[.agg #[.int .i64 (E k).f, .int .i64 (E k).t]] W fun e w' => e = .returned (.string (F k)) ∧ Below W.heap.size W w') := fun W hb => by rw [FE.out]; exact word_impl okx (HTB.out.on (bTrans BK.out hb))
        have PT : Hid (∀ W, Below wr.heap.size wr W → StrK w1 w1.heap.size n (k + 1) (W.setCell ⟨w1.heap.size, k, none⟩ (.string (F k))) F ∧ (∃ u, W.cell? ⟨w1.heap.size, k, none⟩ = some u) ∧ W.frozen? ⟨w1.heap.size, k, none⟩ = false) := fun W hW => (TK.out.keep hW).put L
        clear okx ho
        generalize (E k).f = x at *
        generalize (E k).t = y at *
        generalize F k = p at *
        go_wp2_with fail
        refine (CD.out _ (bAlloc (Below.refl _ _) _)).mono ?_
        rintro r w3 ⟨rfl, hb⟩
        have B3 : Hid (Below wr.heap.size wr w3) := bTrans (bAlloc (Below.refl _ _) _) hb
        obtain ⟨h1, ⟨u0, h2⟩, h3⟩ := PT.out w3 B3.out
        have P3 : Hid (StrK w1 w1.heap.size n (k + 1) (w3.setCell ⟨w1.heap.size, k, none⟩ (.string p)) F) := h1
        clear hb CD h1 PT p0 p1
        go_wp2
        go_roundw
        case rel => exact ⟨k + 1, by omega, by go_num, P3.out⟩
        case measure => simp [intOf]; omega
      · obtain rfl : k = n := by omega
        have CJ : Hid (Calls Tryz.prog 18 #[.slice (some ⟨w1.heap.size, 0, none⟩) k k, .string ⟨#[32]⟩] wr fun e w' => e = .returned (.string R) ∧ Below wr.heap.size wr w') := by
          obtain ⟨A, h1, h2, h3, h4⟩ := TK.out
          refine JN.out wr w1.heap.size (fun j x hx => ?_) (lt_of_heapA h1)
          obtain ⟨hj, rfl⟩ := WX.out j x hx
          exact cell_at h1 (h3 j hj)
        go_wp2_with fail
        refine CJ.out.mono ?_
        rintro r w4 ⟨rfl, hb⟩
        have B4 : Hid (Below w.heap.size w w4) := bTrans BK.out hb
        clear hb CJ
        go_wp2
        go_ret
        exact ⟨rfl, B4.out⟩
end Go.Proofs.YtcaidhmolnnikaaGreatDoor
namespace Go.Proofs
open Go.Shelf
def Tryz.laysJoin_ren : Go.Shelf.Ren := ⟨fun | 156 => 18 | 165 => 35 | 166 => 36 | 169 => 37 | 240 => 52 | 241 => 53 | 276 => 62 | 277 => 63 | n => n, fun | 31 => 39 | 9 => 9 | 3 => 3 | 4 => 4 | 0 => 0 | 20 => 20 | 72 => 64 | 76 => 66 | 70 => 62 | 37 => 22 | 75 => 44 | 127 => 88 | 164 => 71 | 5 => 5 | 80 => 68 | n => n, fun | n => n⟩
theorem Tryz.laysJoin : Go.Proofs.Lays.n156 Tryz.prog Tryz.laysJoin_ren := {
  mixed := by kernel_rfl
  f156 := Tryz.func18.trans (congrArg some (by kernel_rfl))
  f165 := Tryz.func35.trans (congrArg some (by kernel_rfl))
  f166 := Tryz.func36.trans (congrArg some (by kernel_rfl))
  f169 := Tryz.func37.trans (congrArg some (by kernel_rfl))
  f240 := Tryz.func52.trans (congrArg some (by kernel_rfl))
  f241 := Tryz.func53.trans (congrArg some (by kernel_rfl))
  f276 := Tryz.func62.trans (congrArg some (by kernel_rfl))
  f277 := Tryz.func63.trans (congrArg some (by kernel_rfl))
  t0 := Tryz.underlying0
  a0 := Tryz.isAgg0
  z0 := Tryz.sizeOf0
  v0 := Tryz.zeroValue0
  t3 := Tryz.underlying3
  a3 := Tryz.isAgg3
  z3 := Tryz.sizeOf3
  v3 := Tryz.zeroValue3
  t4 := Tryz.underlying4
  a4 := Tryz.isAgg4
  z4 := Tryz.sizeOf4
  v4 := Tryz.zeroValue4
  t9 := Tryz.underlying9
  a9 := Tryz.isAgg9
  z9 := Tryz.sizeOf9
  v9 := Tryz.zeroValue9
  t20 := Tryz.underlying20
  a20 := Tryz.isAgg20
  z20 := Tryz.sizeOf20
  v20 := Tryz.zeroValue20
  t31 := Tryz.underlying39
  a31 := Tryz.isAgg39
  z31 := Tryz.sizeOf39
  v31 := Tryz.zeroValue39
  t37 := Tryz.underlying22
  a37 := Tryz.isAgg22
  z37 := Tryz.sizeOf22
  v37 := Tryz.zeroValue22
  t70 := Tryz.underlying62
  a70 := Tryz.isAgg62
  z70 := Tryz.sizeOf62
  v70 := Tryz.zeroValue62
  t72 := Tryz.underlying64
  a72 := Tryz.isAgg64
  z72 := Tryz.sizeOf64
  v72 := Tryz.zeroValue64
  t75 := Tryz.underlying44
  a75 := Tryz.isAgg44
  z75 := Tryz.sizeOf44
  v75 := Tryz.zeroValue44
  t76 := Tryz.underlying66
  a76 := Tryz.isAgg66
  z76 := Tryz.sizeOf66
  v76 := Tryz.zeroValue66
  t127 := Tryz.underlying88
  a127 := Tryz.isAgg88
  z127 := Tryz.sizeOf88
  v127 := Tryz.zeroValue88
  t164 := Tryz.underlying71
  a164 := Tryz.isAgg71
  z164 := Tryz.sizeOf71
  v164 := Tryz.zeroValue71 }
theorem Tryz.extraJoin : Builder.Extra Tryz.prog Tryz.laysJoin_ren := {
  sizeBuilder := by kernel_rfl
  liesBuilder := by kernel_rfl
  t5 := Tryz.underlying5
  a5 := Tryz.isAgg5
  z5 := Tryz.sizeOf5
  v5 := Tryz.zeroValue5
  infoByte := by kernel_rfl
  cellsByte := by kernel_rfl
  sizeByte := by kernel_rfl
  neB5 := by decide }
end Go.Proofs
namespace Go.Proofs.YtcaidhmolnnikaaGreatDoor
open Go.RowKit
set_option linter.unusedVariables false
set_option linter.unusedSimpArgs false
theorem bytes_bne (V : ByteArray) : (V != V) = false := by
  show (!(V == V)) = false
  have h : (V == V) = true := by
    cases V with | mk d => show (d == d) = true; exact beq_self_eq_true d
  rw [h]; rfl
theorem lens_le (k : Nat) : ∀ xs : List ByteArray, (∀ x ∈ xs, x.size ≤ k) → Lib.lens (xs.map (·.data.toList)) ≤ k * xs.length
  | [], _ => by simp [Lib.lens]
  | x :: r, h => by
    have h1 := h x (by simp)
    have h2 := lens_le k r fun y hy => h y (by simp [hy])
    have h3 : x.data.toList.length = x.size := (Lib.size_eq x).symm
    simp only [Lib.lens, List.map_cons, List.sum_cons, List.length_cons, List.map_map] at h2 ⊢
    rw [h3, Nat.mul_succ]
    omega
theorem jn_len (xs : List ByteArray) (hn : xs.length ≤ 1048576) (h : ∀ x ∈ xs, x.size ≤ 44) : (Lib.join (xs.map (·.data.toList)) [32]).length ≤ 140737488355328 := by
  cases xs with
  | nil => simp [Lib.join_nil]
  | cons x r =>
    have h1 := lens_le 44 (x :: r) h
    rw [List.map_cons] at h1 ⊢
    rw [Lib.join_length, List.length_map]
    simp only [List.length_cons, List.length_nil] at hn h1 ⊢
    omega
theorem joins : Joins := fun bk c xs w hc hb hl hn hs => by
  have h := Any.strings_Join Tryz.laysJoin Tryz.extraJoin bk 0 c xs ⟨#[32]⟩ w (fun j x hx => by rw [Nat.zero_add]; exact hc j x hx) hb (by omega) hl (jn_len xs hn hs)
  exact h
end Go.Proofs.YtcaidhmolnnikaaGreatDoor
namespace Go.Proofs.YtcaidhmolnnikaaGreatDoor
open Go.RowKit
set_option linter.unusedVariables false
set_option linter.unusedSimpArgs false
set_option maxRecDepth 20000 in
set_option maxHeartbeats 4000000 in
theorem tokens_spec {w : World} {a : Option Addr} {n c : Nat} {E : Nat → Spn} (h : SsA w a n E) (hn : n ≤ 1048576) :
    Calls Tryz.prog 19 #[.slice a n c] w fun e w' => e = .returned (.bool (tokR n E)) ∧ Below w.heap.size w w' := by
  have H : Hid (SsA w a n E) := h
  have ER : Hid (tokAll E n = true → tokR n E = decide ((n : Int) ≤ 300)) := fun h => by
    unfold tokR
    rw [h, Bool.true_and]
    by_cases e : n ≤ 300
    · rw [decide_eq_true e, decide_eq_true (by omega)]
    · rw [decide_eq_false e, decide_eq_false (by omega)]
  have EF : Hid (tokAll E n = false → tokR n E = false) := fun h => by unfold tokR; rw [h]; rfl
  clear h
  go_enter Tryz.func19, Tryz.ntmps19
  go_wp2
  go_loopw [3] (fun i w' => ∃ k : Nat, k ≤ n ∧ i = .int .i64 (k : Int) ∧ tokAll E k = true ∧ Below w.heap.size w w') (fun i _ => n - (intOf i).toNat)
  case atStart => exact ⟨0, by omega, rfl, rfl, Below.refl _ _⟩
  case round =>
    obtain ⟨k, hk, rfl, ha, hb⟩ := hrel
    have HA : Hid (tokAll E k = true) := ha
    have HB : Hid (Below w.heap.size w wr) := hb
    clear ha hb
    by_cases hlt : (k : Int) < (n : Int)
    · have L : k < n := by omega
      obtain ⟨o, off, rfl, ho, p0, p1⟩ := (H.out.keep HB.out).at L
      have NO : Hid (tokB (E k).f (E k).t = false → tokR n E = false) := fun h => EF.out (tokAll_no L h)
      have YES : Hid (tokB (E k).f (E k).t = true → tokAll E (k + 1) = true) := fun h => tokAll_next HA.out h
      have CT : Hid (∀ W, Calls Tryz.prog 38 #[.agg #[.int .i64 (E k).f, .int .i64 (E k).t]] W fun e w' => e = .returned (.bool (tokB (E k).f (E k).t)) ∧ Below W.heap.size W w') := fun W => tokOk_spec _ _ W
      clear ho
      generalize (E k).f = e0 at *
      generalize (E k).t = e1 at *
      generalize tokB e0 e1 = q at *
      go_wp2_with fail
      refine (CT.out _).mono ?_
      rintro r w2 ⟨rfl, hb⟩
      have B2 : Hid (Below w.heap.size w w2) := bTrans HB.out hb
      clear hb CT p0 p1
      cases q
      · go_wp2
        go_ret
        exact ⟨by rw [NO.out (by trivial)]; rfl, B2.out⟩
      · go_wp2
        go_roundw
        case rel => exact ⟨k + 1, by omega, by go_num, YES.out (by trivial), B2.out⟩
        case measure => simp [intOf]; omega
    · obtain rfl : k = n := by omega
      go_wp2
      go_ret
      exact ⟨by rw [ER.out HA.out]; rfl, HB.out⟩
set_option maxRecDepth 20000 in
set_option maxHeartbeats 4000000 in
/-- The text of a right token. -/
theorem one_spec {k v : Int} (h : tokB k v = true) (w : World) :
    Calls Tryz.prog 20 #[.agg #[.int .i64 k, .int .i64 v]] w fun e w' => e = .returned (.string (tokW k v)) ∧ Below w.heap.size w w' := by
  rcases tokKinds k with rfl | rfl | rfl | rfl | rfl | rfl | hk
  · have CD : Hid (∀ W, Calls Tryz.prog 39 #[.int .i64 v] W fun e w' => e = .returned (.string (tokW 1 v)) ∧ Below W.heap.size W w') := fun W => l8Digits_spec h W
    generalize tokW 1 v = s at *
    clear h
    go_enter Tryz.func20, Tryz.ntmps20
    go_wp2_with fail
    refine (CD.out _).mono ?_
    rintro r w1 ⟨rfl, hb⟩
    have HB : Hid (Below w.heap.size w w1) := bTrans (bAlloc (Below.refl _ _) _) hb
    clear hb CD
    go_wp2
    go_ret
    exact ⟨rfl, HB.out⟩
  · have hv : 0 ≤ v ∧ v ≤ 25 := by rw [tok2] at h; simpa using h
    obtain ⟨v0, v1⟩ := hv
    have w8 : IntKind.u8.wrap (65 + v) = 65 + v := by rw [IntKind.wrap_u8]; omega
    have CV : (convert 22 9 (.slice (some ⟨w.heap.size + 1, 0, none⟩) 1 1)).run Tryz.prog ((w.alloc (.cells #[.int .i64 2, .int .i64 v] 29)).alloc (.cells #[.int .u8 (65 + v)] 5)) = .ok (.string (strOfNums [65 + v])) ((w.alloc (.cells #[.int .i64 2, .int .i64 v] 29)).alloc (.cells #[.int .u8 (65 + v)] 5)) :=
      run_convert_bytes_arg _ _ _ Tryz.underlying22 Tryz.underlying5 (w.heap.size + 1) 0 1 1 [65 + v] rfl (fun i hi => by
        obtain rfl : i = 0 := by omega
        have := heap_alloc_new (w.alloc (.cells #[.int .i64 2, .int .i64 v] 29)) (.cells #[.int .u8 (65 + v)] 5)
        rw [show (w.alloc (.cells #[.int .i64 2, .int .i64 v] 29)).heap.size = w.heap.size + 1 from by simp only [World.alloc, Array.size_push]] at this
        exact cell_at this rfl) _ Tryz.underlying9
    have e : tokW 2 v = strOfNums [65 + v] := rfl
    rw [e]
    generalize strOfNums [65 + v] = s at *
    clear h e
    go_enter Tryz.func20, Tryz.ntmps20
    go_wp2
    go_ret
    exact ⟨rfl, bAlloc (bAlloc (Below.refl _ _) _) _⟩
  · have hv := sign_bd (show signB v = true from h)
    obtain ⟨v0, v1⟩ := hv
    have w8 : IntKind.u8.wrap v = v := by rw [IntKind.wrap_u8]; omega
    have CV : (convert 22 9 (.slice (some ⟨w.heap.size + 1, 0, none⟩) 1 1)).run Tryz.prog ((w.alloc (.cells #[.int .i64 3, .int .i64 v] 29)).alloc (.cells #[.int .u8 v] 5)) = .ok (.string (strOfNums [v])) ((w.alloc (.cells #[.int .i64 3, .int .i64 v] 29)).alloc (.cells #[.int .u8 v] 5)) :=
      run_convert_bytes_arg _ _ _ Tryz.underlying22 Tryz.underlying5 (w.heap.size + 1) 0 1 1 [v] rfl (fun i hi => by
        obtain rfl : i = 0 := by omega
        have := heap_alloc_new (w.alloc (.cells #[.int .i64 3, .int .i64 v] 29)) (.cells #[.int .u8 v] 5)
        rw [show (w.alloc (.cells #[.int .i64 3, .int .i64 v] 29)).heap.size = w.heap.size + 1 from by simp only [World.alloc, Array.size_push]] at this
        exact cell_at this rfl) _ Tryz.underlying9
    have e : tokW 3 v = strOfNums [v] := rfl
    rw [e]
    generalize strOfNums [v] = s at *
    clear h e
    go_enter Tryz.func20, Tryz.ntmps20
    go_wp2
    go_ret
    exact ⟨rfl, bAlloc (bAlloc (Below.refl _ _) _) _⟩
  iterate 3
    · clear h
      go_enter Tryz.func20, Tryz.ntmps20
      go_wp2
      go_ret
      exact ⟨rfl, bAlloc (Below.refl _ _) _⟩
  · rw [tok5 hk] at h; cases h
set_option maxRecDepth 20000 in
set_option maxHeartbeats 4000000 in
/-- The specification's TokenText. -/
theorem tokenText_spec {w : World} {a : Option Addr} {n c : Nat} {E : Nat → Spn} (h : SsA w a n E) (hn : n ≤ 1048576) :
    Calls Tryz.prog 7 #[.slice a n c] w fun e w' => e = .returned (.string (tokV n E)) ∧ Below w.heap.size w w' := by
  have H : Hid (SsA w a n E) := h
  have CN : Hid (Calls Tryz.prog 19 #[.slice a n c] w fun e w' => e = .returned (.bool (tokR n E)) ∧ Below w.heap.size w w') := tokens_spec h hn
  unfold tokV
  clear h
  cases hall : tokR n E
  · rw [hall] at CN
    rw [if_neg (by decide)]
    clear hall
    go_enter Tryz.func7, Tryz.ntmps7
    go_wp2_with fail
    refine CN.out.mono ?_
    rintro r w1 ⟨rfl, hb⟩
    have B1 : Hid (Below w.heap.size w w1) := hb
    clear hb CN
    go_wp2
    go_ret
    exact ⟨rfl, B1.out⟩
  · have HA : Hid (tokAll E n = true) := by
      show _ = _
      unfold tokR at hall
      simp only [Bool.and_eq_true] at hall
      exact hall.1
    rw [hall] at CN
    rw [if_pos rfl]
    clear hall
    obtain ⟨WV, hWV⟩ : ∃ WV, WV = tokJ E n := ⟨_, rfl⟩
    have HW : Hid (WV = tokJ E n) := hWV
    rw [← hWV]
    clear hWV
    go_enter Tryz.func7, Tryz.ntmps7
    go_wp2_with fail
    refine CN.out.mono ?_
    rintro r w1 ⟨rfl, hb⟩
    have B1 : Hid (Below w.heap.size w w1) := hb
    clear hb CN
    go_wp2
    go_loopw [3, 4] (fun s i w' => ∃ k : Nat, k ≤ n ∧ i = .int .i64 (k : Int) ∧ s = .string (tokJ E k) ∧ Below w.heap.size w w') (fun _ i _ => n - (intOf i).toNat)
    case atStart => exact ⟨0, by omega, rfl, rfl, B1.out⟩
    case round =>
      obtain ⟨k, hk, rfl, rfl, hb⟩ := hrel
      have BK : Hid (Below w.heap.size w wr) := hb
      clear hb B1
      by_cases hlt : (k : Int) < (n : Int)
      · have L : k < n := by omega
        obtain ⟨o, off, rfl, ho, p0, p1⟩ := (H.out.keep BK.out).at L
        have okx := tokAll_at HA.out L
        have CD : Hid (Calls Tryz.prog 20 #[.agg #[.int .i64 (E k).f, .int .i64 (E k).t]] wr fun e w' => e = .returned (.string (tokW (E k).f (E k).t)) ∧ Below wr.heap.size wr w') := one_spec okx wr
        have EW : Hid ((if k = 0 then tokJ E k else tokJ E k ++ ⟨#[32]⟩) ++ tokW (E k).f (E k).t = tokJ E (k + 1)) := rfl
        have sz := tokW_size okx
        have wz := tokJ_le HA.out hk
        have e1 : ByteArray.size ⟨#[32]⟩ = 1 := rfl
        clear okx ho
        generalize (E k).f = x at *
        generalize (E k).t = y at *
        generalize tokW x y = s at *
        generalize tokJ E k = t at *
        have z1 : t.size + ByteArray.size ⟨#[32]⟩ ≤ 9223372036854775807 := by omega
        have z2 : (t ++ ⟨#[32]⟩).size + s.size ≤ 9223372036854775807 := by rw [str_len]; omega
        have z3 : t.size + s.size ≤ 9223372036854775807 := by omega
        clear L e1
        by_cases k0 : k = 0
        · have kk : ¬ (k : Int) > 0 := by omega
          have EQ : Hid (t ++ s = tokJ E (k + 1)) := by rw [if_pos k0] at EW; exact EW
          clear EW z1 z2 k0
          go_wp2_with fail
          refine CD.out.mono ?_
          rintro r w2 ⟨rfl, hb⟩
          have B2 : Hid (Below w.heap.size w w2) := bTrans BK.out hb
          clear hb CD p0 p1
          go_wp2
          go_roundw
          case rel => exact ⟨k + 1, by omega, by go_num, by rw [EQ.out], B2.out⟩
          case measure => simp [intOf]; omega
        · have kk : (k : Int) > 0 := by omega
          have EQ : Hid (t ++ ⟨#[32]⟩ ++ s = tokJ E (k + 1)) := by rw [if_neg k0] at EW; exact EW
          clear EW z3 k0
          go_wp2_with fail
          refine CD.out.mono ?_
          rintro r w2 ⟨rfl, hb⟩
          have B2 : Hid (Below w.heap.size w w2) := bTrans BK.out hb
          clear hb CD p0 p1
          go_wp2
          go_roundw
          case rel => exact ⟨k + 1, by omega, by go_num, by rw [EQ.out], B2.out⟩
          case measure => simp [intOf]; omega
      · obtain rfl : k = n := by omega
        rw [← HW.out]
        go_wp2
        go_ret
        exact ⟨rfl, BK.out⟩
end Go.Proofs.YtcaidhmolnnikaaGreatDoor
namespace Go.Proofs.YtcaidhmolnnikaaGreatDoor
open Go.RowKit
set_option linter.unusedVariables false
set_option linter.unusedSimpArgs false
theorem src_on {w w' : World} {a : Option Addr} {len : Nat} (h : Src w.heap.size w a len) (hb : Below w.heap.size w w') : Src w'.heap.size w' a len := by
  obtain ⟨h1, h2⟩ := h.keep hb
  refine ⟨h1, ?_⟩
  rcases h2 with h2 | ⟨b, off, e, hB, hc⟩
  · exact .inl h2
  · exact .inr ⟨b, off, e, Nat.lt_of_lt_of_le hB hb.size, hc⟩
theorem tokV_le (n : Nat) (E : Nat → Spn) : (tokV n E).size ≤ 6900 := by
  unfold tokV
  split
  · rename_i h
    unfold tokR at h
    simp only [Bool.and_eq_true, decide_eq_true_eq] at h
    have := tokJ_le h.1 (Nat.le_refl n)
    omega
  · exact Nat.zero_le _
theorem lexV_tokV {n : Nat} {E : Nat → Spn} (h : tokAll E n = true) (h3 : n ≤ 300) (hs : (tokV n E).size ≤ 300) : lexV (tokV n E) = ((List.range n).map E, 0, (tokV n E).size) := by
  have hr : tokR n E = true := by unfold tokR; rw [h, decide_eq_true h3]; rfl
  have e : tokV n E = tokJ E n := by unfold tokV; rw [if_pos hr]
  rw [e] at hs ⊢
  exact tokJ_lexV E n h hs
theorem map_getD (E : Nat → Spn) {n i : Nat} (h : i < n) : ((List.range n).map E).getD i spn0 = E i := by
  rw [List.getD_eq_getElem?_getD, List.getElem?_map, List.getElem?_range h]
  rfl
end Go.Proofs.YtcaidhmolnnikaaGreatDoor
