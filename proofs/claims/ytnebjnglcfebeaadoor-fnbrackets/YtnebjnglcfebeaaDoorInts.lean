
/-
  Walks: the laws' own helpers on lists of numbers (toIntS, eqIntS, markIntS, heldIntS, sameInts) and the specification's l2Same: what each answers of the lists that its arguments hold.
-/
import Derived.Test.YtnebjnglcfebeaaDoorBase
namespace Go.Proofs.YtnebjnglcfebeaaDoor
open Go.RowKit
set_option linter.unusedVariables false
set_option linter.unusedSimpArgs false

/-- Numbers as cells. -/
def vals (l : List Int) : Array Value := (l.map (Value.int .i64)).toArray
theorem vals_at {l : List Int} {k : Nat} (h : k < l.length) : (vals l)[k]? = some (.int .i64 (l.getD k 0)) := by simp [vals, h]
/-- A slice's address leads to these numbers. -/
def Ints (w : World) (a : Option Addr) (l : List Int) : Prop :=
  l = [] ∨ ∃ b off, a = some ⟨b, off, none⟩ ∧ b < w.heap.size ∧ ∀ k, k < l.length → w.cell? ⟨b, off + k, none⟩ = some (.int .i64 (l.getD k 0))
theorem Ints.keep {w w' : World} {a : Option Addr} {l : List Int} (h : Ints w a l) (hb : Below w.heap.size w w') : Ints w' a l := by
  rcases h with h | ⟨b, off, e, hB, hc⟩
  · exact .inl h
  · exact .inr ⟨b, off, e, Nat.lt_of_lt_of_le hB hb.size, fun k hk => by rw [hb.cell (p := ⟨b, off + k, none⟩) hB]; exact hc k hk⟩
theorem Ints.drewN {w : World} {a : Option Addr} {l : List Int} (h : Ints w a l) (n : Nat) : Ints (w.drewN n) a l := h
theorem Ints.alloc {w : World} {a : Option Addr} {l : List Int} (h : Ints w a l) (o : Obj) : Ints (w.alloc o) a l := h.keep ((Below.refl _ _).alloc (Nat.le_refl _) o)
theorem ints_new (w : World) (l : List Int) (t : TypeId) : Ints (w.alloc (.cells (vals l) t)) (some ⟨w.heap.size, 0, none⟩) l :=
  .inr ⟨w.heap.size, 0, rfl, by simp, fun k hk => by rw [World.cell?_alloc_at _ _ _ _ rfl, Nat.zero_add]; exact vals_at hk⟩
theorem Ints.at {w : World} {a : Option Addr} {l : List Int} (h : Ints w a l) {k : Nat} (hk : k < l.length) : ∃ b off, a = some ⟨b, off, none⟩ ∧ b < w.heap.size ∧ w.cell? ⟨b, off + k, none⟩ = some (.int .i64 (l.getD k 0)) := by
  rcases h with h | ⟨b, off, e, hB, hc⟩
  · subst h; simp at hk
  · exact ⟨b, off, e, hB, hc k hk⟩
theorem take_eq_iff {l m : List Int} {k : Nat} (h1 : k < l.length) (h2 : k < m.length) : l.take (k + 1) = m.take (k + 1) ↔ l.take k = m.take k ∧ l.getD k 0 = m.getD k 0 := by
  rw [List.take_succ_eq_append_getElem h1, List.take_succ_eq_append_getElem h2]
  constructor
  · intro h
    have := List.append_inj h (by simp; omega)
    simp at this
    simp [h1, h2, this]
  · rintro ⟨e1, e2⟩
    simp [h1, h2] at e2
    rw [e1, e2]
theorem take_ne {l m : List Int} {k : Nat} (h1 : k < l.length) (h2 : k < m.length) (h : l.getD k 0 ≠ m.getD k 0) : l ≠ m := by
  intro e; subst e; exact h rfl

set_option maxHeartbeats 1000000 in
theorem eq_walk (l m : List Int) (a b : Option Addr) (n c d : Nat) (w : World) (hn : n ≤ 4611686018427387904) (h1 : Ints w a l) (h2 : Ints w b m) (e1 : l.length = n) (e2 : m.length = n) :
    Calls Tryd.prog 69 #[.slice a n c, .slice b n d] w fun e w' => e = .returned (.bool (decide (l = m))) ∧ ∃ j, w' = w.drewN j := by
  have H1 : Hid (Ints w a l) := h1
  have H2 : Hid (Ints w b m) := h2
  have E1 : Hid (l.length = n) := e1
  have E2 : Hid (m.length = n) := e2
  clear h1 h2 e1 e2
  go_enter Tryd.func69, Tryd.ntmps69
  go_wp2
  go_loopw [5] (fun i w' => ∃ k : Nat, k ≤ n ∧ i = .int .i64 k ∧ l.take k = m.take k ∧ ∃ j, w' = w.drewN j) (fun i _ => n - (intOf i).toNat)
  case atStart => exact ⟨0, by omega, rfl, rfl, 0, rfl⟩
  case round =>
    obtain ⟨k, hk, rfl, ht, j, rfl⟩ := hrel
    have HT : Hid (l.take k = m.take k) := ht
    clear ht
    by_cases hlt : (k : Int) < (n : Int)
    · have L1 : k < l.length := by have := E1.out; omega
      have L2 : k < m.length := by have := E2.out; omega
      obtain ⟨b1, o1, rfl, _, c1⟩ := H1.out.at L1
      obtain ⟨b2, o2, rfl, _, c2⟩ := H2.out.at L2
      have Q : Hid (l.take (k + 1) = m.take (k + 1) ↔ l.take k = m.take k ∧ l.getD k 0 = m.getD k 0) := take_eq_iff L1 L2
      have Q2 : Hid (l.getD k 0 ≠ m.getD k 0 → l ≠ m) := take_ne L1 L2
      clear L1 L2
      generalize l.getD k 0 = x at c1 Q Q2
      generalize m.getD k 0 = y at c2 Q Q2
      by_cases hxy : x = y
      · subst hxy
        have HT' : Hid (l.take (k + 1) = m.take (k + 1)) := Q.out.2 ⟨HT.out, rfl⟩
        clear Q Q2
        go_wp2
        go_quiet (fail)
        go_wp2
        go_roundw
        case rel => exact ⟨k + 1, by omega, by go_num, HT'.out, _, rfl⟩
        case measure => simp [intOf]; omega
      · have hne : (x != y) = true := by simpa using hxy
        have HN : Hid (l ≠ m) := Q2.out hxy
        clear Q Q2
        go_wp2
        go_quiet (fail)
        go_wp2
        go_ret
        exact ⟨by simp [HN.out], _, World.drewN_drewN _ _ _⟩
    · have e : Hid (l = m) := by
        have h := HT.out
        have := E1.out
        have := E2.out
        rw [List.take_of_length_le (by omega), List.take_of_length_le (by omega)] at h
        exact h
      go_wp2
      go_ret
      exact ⟨by simp [e.out], _, rfl⟩
set_option maxHeartbeats 1000000 in
theorem eq_other (l m : List Int) (a b : Option Addr) (c d : Nat) (w : World) (he : l.length ≠ m.length) :
    Calls Tryd.prog 69 #[.slice a l.length c, .slice b m.length d] w fun e w' => e = .returned (.bool (decide (l = m))) ∧ ∃ j, w' = w.drewN j := by
  have hne : l ≠ m := fun e => he (by rw [e])
  have HN : Hid (l ≠ m) := hne
  clear hne
  have he' : ((l.length : Int) != (m.length : Int)) = true := by simp; omega
  go_enter Tryd.func69, Tryd.ntmps69
  go_wp2
  go_ret
  exact ⟨by simp [HN.out], 0, rfl⟩
/-- Whether two lists are alike. -/
theorem eq_ints {l m : List Int} {a b : Option Addr} {w : World} (c d : Nat) (hn : l.length ≤ 4611686018427387904) (h1 : Ints w a l) (h2 : Ints w b m) :
    Calls Tryd.prog 69 #[.slice a l.length c, .slice b m.length d] w fun e w' => e = .returned (.bool (decide (l = m))) ∧ ∃ j, w' = w.drewN j := by
  by_cases he : l.length = m.length
  · rw [← he]
    exact eq_walk l m a b l.length c d w hn h1 h2 rfl he.symm
  · exact eq_other l m a b c d w he
set_option maxHeartbeats 1000000 in
theorem same_walk (l m : List Int) (a b : Option Addr) (n c d : Nat) (w : World) (hn : n ≤ 4611686018427387904) (h1 : Ints w a l) (h2 : Ints w b m) (e1 : l.length = n) (e2 : m.length = n) :
    Calls Tryd.prog 32 #[.slice a n c, .slice b n d] w fun e w' => e = .returned (.bool (decide (l = m))) ∧ ∃ j, w' = w.drewN j := by
  have H1 : Hid (Ints w a l) := h1
  have H2 : Hid (Ints w b m) := h2
  have E1 : Hid (l.length = n) := e1
  have E2 : Hid (m.length = n) := e2
  clear h1 h2 e1 e2
  go_enter Tryd.func32, Tryd.ntmps32
  go_wp2
  go_loopw [5] (fun i w' => ∃ k : Nat, k ≤ n ∧ i = .int .i64 k ∧ l.take k = m.take k ∧ ∃ j, w' = w.drewN j) (fun i _ => n - (intOf i).toNat)
  case atStart => exact ⟨0, by omega, rfl, rfl, 0, rfl⟩
  case round =>
    obtain ⟨k, hk, rfl, ht, j, rfl⟩ := hrel
    have HT : Hid (l.take k = m.take k) := ht
    clear ht
    by_cases hlt : (k : Int) < (n : Int)
    · have L1 : k < l.length := by have := E1.out; omega
      have L2 : k < m.length := by have := E2.out; omega
      obtain ⟨b1, o1, rfl, _, c1⟩ := H1.out.at L1
      obtain ⟨b2, o2, rfl, _, c2⟩ := H2.out.at L2
      have Q : Hid (l.take (k + 1) = m.take (k + 1) ↔ l.take k = m.take k ∧ l.getD k 0 = m.getD k 0) := take_eq_iff L1 L2
      have Q2 : Hid (l.getD k 0 ≠ m.getD k 0 → l ≠ m) := take_ne L1 L2
      clear L1 L2
      generalize l.getD k 0 = x at c1 Q Q2
      generalize m.getD k 0 = y at c2 Q Q2
      by_cases hxy : x = y
      · subst hxy
        have HT' : Hid (l.take (k + 1) = m.take (k + 1)) := Q.out.2 ⟨HT.out, rfl⟩
        clear Q Q2
        go_wp2
        go_quiet (fail)
        go_wp2
        go_roundw
        case rel => exact ⟨k + 1, by omega, by go_num, HT'.out, _, rfl⟩
        case measure => simp [intOf]; omega
      · have hne : (x != y) = true := by simpa using hxy
        have HN : Hid (l ≠ m) := Q2.out hxy
        clear Q Q2
        go_wp2
        go_quiet (fail)
        go_wp2
        go_ret
        exact ⟨by simp [HN.out], _, World.drewN_drewN _ _ _⟩
    · have e : Hid (l = m) := by
        have h := HT.out
        have := E1.out
        have := E2.out
        rw [List.take_of_length_le (by omega), List.take_of_length_le (by omega)] at h
        exact h
      go_wp2
      go_ret
      exact ⟨by simp [e.out], _, rfl⟩
set_option maxHeartbeats 1000000 in
theorem same_other (l m : List Int) (a b : Option Addr) (c d : Nat) (w : World) (he : l.length ≠ m.length) :
    Calls Tryd.prog 32 #[.slice a l.length c, .slice b m.length d] w fun e w' => e = .returned (.bool (decide (l = m))) ∧ ∃ j, w' = w.drewN j := by
  have hne : l ≠ m := fun e => he (by rw [e])
  have HN : Hid (l ≠ m) := hne
  clear hne
  have he' : ((l.length : Int) != (m.length : Int)) = true := by simp; omega
  go_enter Tryd.func32, Tryd.ntmps32
  go_wp2
  go_ret
  exact ⟨by simp [HN.out], 0, rfl⟩
/-- Whether two lists are alike. -/
theorem same_ints {l m : List Int} {a b : Option Addr} {w : World} (c d : Nat) (hn : l.length ≤ 4611686018427387904) (h1 : Ints w a l) (h2 : Ints w b m) :
    Calls Tryd.prog 32 #[.slice a l.length c, .slice b m.length d] w fun e w' => e = .returned (.bool (decide (l = m))) ∧ ∃ j, w' = w.drewN j := by
  by_cases he : l.length = m.length
  · rw [← he]
    exact same_walk l m a b l.length c d w hn h1 h2 rfl he.symm
  · exact same_other l m a b c d w he
/-- A row that is filled up to k. -/
def filled (l : List Int) (k : Nat) : List Int := l.take k ++ List.replicate (l.length - k) 0
theorem filled_zero (l : List Int) : filled l 0 = List.replicate l.length 0 := by simp [filled]
theorem filled_all (l : List Int) : filled l l.length = l := by simp [filled]
theorem filled_length {l : List Int} {k : Nat} (h : k ≤ l.length) : (filled l k).length = l.length := by simp [filled]; omega
theorem filled_step {l : List Int} {k : Nat} (h : k < l.length) : (vals (filled l k)).setIfInBounds k (.int .i64 (l.getD k 0)) = vals (filled l (k + 1)) := by
  apply Array.ext
  · simp [vals, filled]; omega
  · intro i h1 h2
    simp [vals, filled] at h1 h2
    rw [Array.getElem_setIfInBounds]
    by_cases e : k = i
    · subst e
      simp [vals, filled, List.getElem_append, h]
      intro hh; omega
    · simp only [vals, filled, List.getElem_toArray, List.getElem_map, List.getElem_append, List.length_take]
      simp only [e, if_false]
      by_cases q : i < k
      · simp [show i < min k l.length by omega, show i < min (k + 1) l.length by omega]
      · simp [show ¬ i < min k l.length by omega, show ¬ i < min (k + 1) l.length by omega]
    · simp [vals, filled]; omega
theorem made_zero (n : Nat) : madeCells (Value.int .i64 0).cells n = vals (List.replicate n 0) := by
  apply Array.ext
  · simp [size_madeCells, vals]
  · intro i h1 h2
    simp [madeCells, vals, Value.cells]
    rw [Nat.mod_one]
    rfl
theorem info_int : (Tryd.prog.info? 3).map (fun i => (i.zero, i.size, i.bytes)) = some (some (.int .i64 0), 1, 8) := by kernel_rfl
theorem make_ints (n : Nat) (hn : n ≤ 1073741824) (w : World) :
    (Instr.makeSlice 65 (.int .i64 (n : Int)) (.int .i64 (n : Int))).run Tryd.prog w = .ok (.slice (some ⟨w.heap.size, 0, none⟩) n n) (w.alloc (.cells (vals (List.replicate n 0)) 3)) := by
  have hi := info_int
  cases hq : Tryd.prog.info? 3 with
  | none => rw [hq] at hi; cases hi
  | some i =>
    rw [hq] at hi
    simp at hi
    obtain ⟨z1, z2, z3⟩ := hi
    have := run_make (P := Tryd.prog) w 65 3 i (.int .i64 0) Tryd.underlying65 hq z1 .i64 .i64 n n (by omega) (by omega) (by rw [z3]; omega) (by omega)
    rw [z2, Int.toNat_natCast, Nat.mul_one, made_zero] at this
    exact this
/-- The numbers from k on. -/
def upFrom (k : Int) (n : Nat) : List Int := (List.range n).map fun (i : Nat) => k + (i : Int)
theorem upFrom_length (k : Int) (n : Nat) : (upFrom k n).length = n := by simp [upFrom]
theorem upFrom_at {k : Int} {n i : Nat} (h : i < n) : (upFrom k n).getD i 0 = k + (i : Int) := by simp [upFrom, h]
set_option maxRecDepth 20000 in
set_option maxHeartbeats 1000000 in
theorem held_walk (l : List Int) (a : Option Addr) (n c : Nat) (k0 : Int) (w : World) (hn : n ≤ 1048576) (p1 : 0 ≤ k0) (p2 : k0 ≤ 1099511627776) (h1 : Ints w a l) (e1 : l.length = n) (he : l = upFrom k0 n) :
    Calls Tryd.prog 45 #[.slice a n c, .int .i64 k0] w fun e w' => e = .returned (.int .i64 (k0 + n)) ∧ w' = w := by
  have H1 : Hid (Ints w a l) := h1
  have E1 : Hid (l.length = n) := e1
  have HE : Hid (l = upFrom k0 n) := he
  clear h1 e1 he
  go_enter Tryd.func45, Tryd.ntmps45
  go_wp2
  go_loop [1, 5] (fun q i => ∃ k : Nat, k ≤ n ∧ i = .int .i64 k ∧ q = .int .i64 (k0 + k)) (fun _ i => n - (intOf i).toNat)
  case atStart => exact ⟨0, by omega, rfl, by simp⟩
  case round =>
    obtain ⟨k, hk, rfl, rfl⟩ := hrel
    by_cases hlt : (k : Int) < (n : Int)
    · have L1 : k < l.length := by have := E1.out; omega
      obtain ⟨b1, o1, rfl, hb1, c1⟩ := H1.out.at L1
      have eq : l.getD k 0 = k0 + (k : Int) := by rw [HE.out]; exact upFrom_at (by omega)
      rw [eq] at c1
      clear L1 eq
      go_wp2
      go_round
      case rel => exact ⟨k + 1, by omega, by go_num, by go_num⟩
      case measure => simp [intOf]; omega
    · have e : k = n := by omega
      subst e
      go_wp2
      go_ret
      exact ⟨rfl, rfl⟩
/-- A row of the call's own: block g is just these numbers. -/
def OwnInts (w : World) (g : Nat) (l : List Int) : Prop := w.heap[g]? = some (.cells (vals l) 3 (0, 0))
def marked (l : List Int) (k0 : Int) (k : Nat) : List Int := upFrom k0 k ++ l.drop k
theorem marked_zero (l : List Int) (k0 : Int) : marked l k0 0 = l := by simp [marked, upFrom]
theorem marked_all (l : List Int) (k0 : Int) : marked l k0 l.length = upFrom k0 l.length := by simp [marked]
theorem marked_step {l : List Int} {k0 : Int} {k : Nat} (h : k < l.length) : (vals (marked l k0 k)).setIfInBounds k (.int .i64 (k0 + (k : Int))) = vals (marked l k0 (k + 1)) := by
  apply Array.ext_getElem?
  intro i
  rw [Array.getElem?_setIfInBounds]
  by_cases e : k = i
  · subst e
    simp [vals, marked, upFrom, List.getElem?_append, h]
    try omega
  · simp only [e, if_false]
    by_cases q : i < k
    · simp [vals, marked, upFrom, List.getElem?_append, q, show i < k + 1 by omega]
    · simp [vals, marked, upFrom, List.getElem?_append, q, show ¬ i < k + 1 by omega, show k + (i - k) = i by omega, show k + 1 + (i - (k + 1)) = i by omega]
theorem OwnInts.ints {w : World} {g : Nat} {l : List Int} (h : OwnInts w g l) : Ints w (some ⟨g, 0, none⟩) l :=
  .inr ⟨g, 0, rfl, (Array.getElem?_eq_some_iff.1 h).1, fun k hk => by
    have h' : w.heap[g]? = some (.cells (vals l) 3 (0, 0)) := h
    simp only [World.cell?, h', Nat.zero_add]
    simpa using vals_at hk⟩
theorem ownInts_new (w : World) (l : List Int) : OwnInts (w.alloc (.cells (vals l) 3)) w.heap.size l := heap_alloc_new w _
set_option maxRecDepth 20000 in
set_option maxHeartbeats 1000000 in
theorem mark_walk (l : List Int) (g n c : Nat) (k0 : Int) (w : World) (hn : n ≤ 1048576) (p1 : 0 ≤ k0) (p2 : k0 ≤ 1099511627776) (h1 : OwnInts w g l) (e1 : l.length = n) :
    Calls Tryd.prog 44 #[.slice (some ⟨g, 0, none⟩) n c, .int .i64 k0] w fun e w' => e = .returned (.int .i64 (k0 + n)) ∧ OwnInts w' g (upFrom k0 n) ∧ But g w w' := by
  have H1 : Hid (OwnInts w g l) := h1
  have E1 : Hid (l.length = n) := e1
  clear h1 e1
  go_enter Tryd.func44, Tryd.ntmps44
  go_wp2
  go_loopw [1, 5] (fun q i w' => ∃ k : Nat, k ≤ n ∧ i = .int .i64 k ∧ q = .int .i64 (k0 + k) ∧ OwnInts w' g (marked l k0 k) ∧ But g w w') (fun _ i _ => n - (intOf i).toNat)
  case atStart => exact ⟨0, by omega, rfl, by simp, by rw [marked_zero]; exact H1.out, But.refl _ _⟩
  case round =>
    obtain ⟨k, hk, rfl, rfl, ho, hb⟩ := hrel
    have HO : Hid (OwnInts wr g (marked l k0 k)) := ho
    have HB : Hid (But g w wr) := hb
    by_cases hlt : (k : Int) < (n : Int)
    · have L1 : k < l.length := by have := E1.out; omega
      have hg : wr.heap[g]? = some (.cells (vals (marked l k0 k)) 3 (0, 0)) := ho
      obtain ⟨z, hz⟩ : ∃ z, wr.cell? ⟨g, k, none⟩ = some z := by
        have L2 : k < (vals (marked l k0 k)).size := by simp [vals, marked, upFrom_length]; omega
        exact ⟨(vals (marked l k0 k))[k], by simp [World.cell?, hg, L2]⟩
      have fz : wr.frozen? ⟨g, k, none⟩ = false := by simp [World.frozen?, hg]
      have HN : Hid (OwnInts (wr.setCell ⟨g, k, none⟩ (.int .i64 (k0 + k))) g (marked l k0 (k + 1))) := by
        have := heap_setCell_same wr g k _ _ (.int .i64 (k0 + k)) hg
        rw [marked_step L1] at this
        exact this
      clear ho hb hg L1
      go_wp2
      go_roundw
      case rel => exact ⟨k + 1, by omega, by go_num, by go_num, HN.out, HB.out.setCell k _⟩
      case measure => simp [intOf]; omega
    · have e : k = n := by omega
      subst e
      have HA : Hid (OwnInts wr g (upFrom k0 k)) := by
        have := E1.out
        have h := HO.out
        rw [← this, marked_all, this] at h
        exact h
      clear ho hb HO
      go_wp2
      go_ret
      exact ⟨rfl, HA.out, HB.out⟩
/-- A list of numbers that came in. -/
theorem ints_of_row {w : World} {a : Option Addr} {len cap : Nat} {zs : List Int} (h : IsRow .i64 w a len cap zs) : ∃ l : List Int, l.length = len ∧ Ints w a l := by
  rcases h with ⟨rfl, rfl, rfl, rfl⟩ | ⟨⟨b, off, spot⟩, rfl, hl, hm, hz, hcell, hwz⟩
  · exact ⟨[], rfl, .inl rfl⟩
  · refine ⟨zs.take len, by simp; omega, ?_⟩
    by_cases h0 : len = 0
    · subst h0; exact .inl (by simp)
    · have hc := hcell 0 (by omega)
      have hspot : spot = none := by simpa [Addr.add] using World.cell?_spot hc
      subst hspot
      refine .inr ⟨b, off, rfl, ?_, fun k hk => ?_⟩
      · by_cases hb : b < w.heap.size
        · exact hb
        · have : w.heap[b]? = none := Array.getElem?_eq_none (by omega)
          simp [Addr.add, World.cell?, this] at hc
      · have hk' : k < zs.length := by simp at hk; omega
        have hadd : (⟨b, off, none⟩ : Addr).add k = ⟨b, off + k, none⟩ := by unfold Addr.add; split <;> simp_all
        have e : (zs.take len).getD k 0 = zs.getD k 0 := by
          have : k < len := by simp at hk; omega
          simp [List.getD, List.getElem?_take_of_lt this]
        rw [e, ← hadd]
        exact hcell k hk'
end Go.Proofs.YtnebjnglcfebeaaDoor
