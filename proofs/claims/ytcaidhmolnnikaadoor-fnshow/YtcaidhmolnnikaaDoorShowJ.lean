/-
  Walks: lists of texts that grow; strings.Join of such a list, whatever stands between; the sheet in memory.
-/
import Derived.Test.YtcaidhmolnnikaaDoorShowM
import Derived.Test.YtcaidhmolnnikaaDoorRowL
import Derived.Test.YtcaidhmolnnikaaDoorGrow
import Derived.Lib.SliceRun
namespace Go.Proofs.YtcaidhmolnnikaaDoor
open Go.RowKit
set_option linter.unusedVariables false
set_option linter.unusedSimpArgs false
/-- A list of texts in memory from block B on, which nothing else shares. -/
def NewStr (B : Nat) (w : World) (v : Value) (l : List ByteArray) : Prop := w.ownsRow B 9 1 v l.length (l.map Value.string)
theorem NewStr.keep {B : Nat} {w w' : World} {v : Value} {l : List ByteArray} (h : NewStr B w v l) (hb : Below w.heap.size w w') : NewStr B w' v l := ownsRow_keep h hb
theorem NewStr.nil (B : Nat) (w : World) : NewStr B w (.slice none 0 0) [] := ⟨rfl, .inl ⟨rfl, rfl⟩⟩
theorem NewStr.slice {B : Nat} {w : World} {v : Value} {l : List ByteArray} (h : NewStr B w v l) : ∃ a c, v = .slice a l.length c := by
  rcases h.2 with ⟨e, h0⟩ | ⟨g, cap, cur, e, _⟩
  · exact ⟨none, 0, by rw [e, h0]⟩
  · exact ⟨_, cap, e⟩
theorem NewStr.row {B : Nat} {w : World} {v : Value} {l : List ByteArray} (h : NewStr B w v l) : ∀ r, v.ownBlock = some r → B ≤ r ∧ ∃ cs t z, w.heap[r]? = some (.cells cs t z) := by
  intro r e
  rcases h.2 with ⟨e', _⟩ | ⟨g, cap, cur, e', hB, hg, _⟩
  · rw [e'] at e; simp [Value.ownBlock] at e
  · rw [e'] at e
    simp [Value.ownBlock] at e
    subst e
    exact ⟨hB, _, _, _, hg⟩
/-- It stays where blocks of others turn. -/
theorem NewStr.grown {B : Nat} {w w' : World} {v : Value} {l : List ByteArray} {row : Option Nat} (h : NewStr B w v l) (hg : w.grownBy w' row) (hne : ∀ r, row = some r → v.ownBlock ≠ some r) : NewStr B w' v l := World.ownsRow.kept h hg (by
  cases hv : v.ownBlock with
  | none => exact .inl rfl
  | some r => exact .inr (fun e => hne r e.symm hv))
/-- Growing by one text, which lies in a block of its own. -/
theorem growStr {B : Nat} {w : World} {a : Option Addr} {c : Nat} {l : List ByteArray} (x : ByteArray) (h : NewStr B w (.slice a l.length c) l) (hB : B ≤ w.heap.size) (hl : l.length < 1048576) :
    ∃ a' c' w', (∀ ty, (Builtin.append_ #[56, 56] ty #[.slice a l.length c, .slice (some ⟨w.heap.size, 0, none⟩) 1 1]).run Tryd.prog (w.alloc (.cells #[.string x] 9)) = .ok (.slice a' (l.length + 1) c') w') ∧ NewStr B w' (.slice a' (l.length + 1) c') (l ++ [x]) ∧ Below B w w' ∧ (w.alloc (.cells #[.string x] 9)).grownBy w' (Value.slice a l.length c).ownBlock := by
  obtain ⟨i, hq, z1, z2, z3⟩ : ∃ i, Tryd.prog.info? 9 = some i ∧ i.zero = some (.string ⟨#[]⟩) ∧ i.size = 1 ∧ i.bytes = 16 := by
    have hi := info_str
    cases hq : Tryd.prog.info? 9 with
    | none => rw [hq] at hi; cases hi
    | some i => rw [hq] at hi; simp at hi; exact ⟨i, rfl, hi.1, hi.2.1, hi.2.2⟩
  have hA := heap_alloc_new w (.cells #[.string x] 9)
  have hBw := bAlloc (Below.refl w.heap.size w) (.cells #[.string x] 9)
  generalize w.alloc (.cells #[.string x] 9) = V at *
  have hnew : ∀ (j : Nat) (u : Value), ([x].map Value.string)[j]? = some u → V.cell? ((⟨w.heap.size, 0, none⟩ : Addr).add j) = some u := by
    intro j u hu
    have e : (⟨w.heap.size, 0, none⟩ : Addr).add j = ⟨w.heap.size, 0 + j, none⟩ := by unfold Addr.add; split <;> simp_all
    rw [e, Nat.zero_add]
    have hj : j < 1 := by have := (List.getElem?_eq_some_iff.1 hu).1; simpa using this
    obtain rfl : j = 0 := by omega
    have : u = .string x := by simpa using hu.symm
    rw [this]; exact cell_at hA rfl
  have hown : V.ownsRow B 9 1 (.slice a l.length c) l.length (l.map Value.string) := h.keep hBw
  obtain ⟨v', w', hr, h2, h3, _, _⟩ := run_append_own_at (P := Tryd.prog) V B 56 56 9 i _ 1 16 Tryd.underlying56 hq z1 z2 z3 rfl (by decide) _ l.length (l.map Value.string) hown ⟨w.heap.size, 0, none⟩ 1 1 ([x].map Value.string) rfl hnew (by intro u hu; simp at hu; subst hu; rfl) (by unfold maxLen; omega) (by omega) (Nat.le_trans hB hBw.size)
  have hr' : ∀ ty, (Builtin.append_ #[56, 56] ty #[.slice a l.length c, .slice (some ⟨w.heap.size, 0, none⟩) 1 1]).run Tryd.prog V = .ok v' w' := fun ty => hr
  have h2' : NewStr B w' v' (l ++ [x]) := by
    show World.ownsRow _ _ _ _ _ _ _
    rw [List.map_append]
    simpa using h2
  obtain ⟨a', c', e⟩ := h2'.slice
  rw [List.length_append, List.length_singleton] at e
  subst e
  refine ⟨a', c', w', hr', by simpa using h2', (hBw.mono hB).trans (grown_below h3 (fun k hk => (NewStr.row (h.keep hBw) k hk).1) (Nat.le_trans hB hBw.size)), h3⟩
theorem lensS (k : Nat) : ∀ xs : List ByteArray, (∀ x ∈ xs, x.size ≤ k) → Lib.lens (xs.map (·.data.toList)) ≤ k * xs.length := lens_le k
theorem jnS_len (sep : ByteArray) (hs : sep.size ≤ 2) (xs : List ByteArray) (hn : xs.length ≤ 1024) (h : ∀ x ∈ xs, x.size ≤ 16777216) : (Lib.join (xs.map (·.data.toList)) sep.data.toList).length ≤ 140737488355328 := by
  cases xs with
  | nil => simp [Lib.join_nil]
  | cons x r =>
    have h1 := lensS 16777216 (x :: r) h
    rw [List.map_cons] at h1 ⊢
    rw [Lib.join_length, List.length_map]
    have hz : sep.data.toList.length ≤ 2 := by
      have : sep.data.toList.length = sep.size := (Lib.size_eq sep).symm
      omega
    have : r.length * sep.data.toList.length ≤ r.length * 2 := Nat.mul_le_mul_left _ hz
    have := Nat.mul_comm r.length sep.data.toList.length
    simp only [List.length_cons] at hn h1 ⊢
    omega
/-- strings.Join of such a list. -/
theorem joinS {B : Nat} {w : World} {v : Value} {l : List ByteArray} (h : NewStr B w v l) (sep : ByteArray) (hs : sep.size ≤ 2) (hn : l.length ≤ 1024) (hx : ∀ x ∈ l, x.size ≤ 16777216) :
    Calls Tryd.prog 56 #[v, .string sep] w fun e w' => e = .returned (.string (jnS sep l)) ∧ Below w.heap.size w w' := by
  rcases h.2 with ⟨rfl, h0⟩ | ⟨g, cap, cur, rfl, hB, hg, hc, hm, hsz, ht⟩
  · have hl : l = [] := List.eq_nil_of_length_eq_zero h0
    subst hl
    refine (Any.strings_Join_none Tryd.laysJoin Tryd.extraJoin none 0 sep w).mono ?_
    rintro e w' ⟨rfl, rfl⟩
    exact ⟨rfl, Below.refl _ _⟩
  · have hcell : ∀ (j : Nat) (x : ByteArray), l[j]? = some x → w.cell? ⟨g, 0 + j, none⟩ = some (.string x) := by
      intro j x hx
      rw [Nat.zero_add]
      have hj : j < l.length := (List.getElem?_eq_some_iff.1 hx).1
      refine cell_at hg ?_
      have h3 : (cur.toList.take (l.length * 1))[j]? = (l.map Value.string)[j]? := by rw [ht]
      rw [List.getElem?_take_of_lt (by omega), List.getElem?_map, hx] at h3
      simpa using h3
    exact Any.strings_Join Tryd.laysJoin Tryd.extraJoin g 0 cap l sep w hcell (lt_of_heapA hg) (by omega) (by omega) (jnS_len sep hs l hn hx)
/-- Three new blocks. -/
theorem three_new (w : World) (A B C : Obj) : (((w.alloc A).alloc B).alloc C).heap[w.heap.size]? = some A ∧ (((w.alloc A).alloc B).alloc C).heap[w.heap.size + 1]? = some B ∧ (((w.alloc A).alloc B).alloc C).heap[w.heap.size + 1 + 1]? = some C ∧ (((w.alloc A).alloc B).alloc C).heap.size = w.heap.size + 3 := by
  have s1 : (w.alloc A).heap.size = w.heap.size + 1 := by simp only [World.alloc, Array.size_push]
  have s2 : ((w.alloc A).alloc B).heap.size = w.heap.size + 1 + 1 := by simp only [World.alloc, Array.size_push]
  refine ⟨?_, ?_, ?_, by simp only [World.alloc, Array.size_push]⟩
  · rw [(bAlloc (bAlloc (Below.refl (w.alloc A).heap.size (w.alloc A)) B) C).block w.heap.size (by omega)]
    exact heap_alloc_new w A
  · rw [(bAlloc (Below.refl ((w.alloc A).alloc B).heap.size ((w.alloc A).alloc B)) C).block (w.heap.size + 1) (by omega)]
    have := heap_alloc_new (w.alloc A) B
    rwa [s1] at this
  · have := heap_alloc_new ((w.alloc A).alloc B) C
    rwa [s2] at this
/-- The sheet's words of memory. -/
def shC (m : Nat) (t0 t1 t2 t3 : Value) : Array Value := #[.func (.func 43) #[] #[], .string ⟨#[]⟩, .func (.func 43) #[] #[], .string ⟨#[]⟩, .func (.func 66) #[] #[], .string ⟨#[10]⟩, .func (.func 66) #[] #[], .string ⟨#[10, 10]⟩, .int .i64 (m : Int), t0, t1, t2, t3]
/-- The sheet: the width of its numbers, what is written of the parts of ranks 2 and 3. -/
def Sheet (w : World) (g m : Nat) (t2 t3 : Value) : Prop := w.heap[g]? = some (.cells (shC m (.slice none 0 0) (.slice none 0 0) t2 t3) 59 (0, 0))
theorem Sheet.keep {w w' : World} {g m : Nat} {t2 t3 : Value} (h : Sheet w g m t2 t3) (hb : Below w.heap.size w w') : Sheet w' g m t2 t3 := (hb.block g (lt_of_heapA h)).trans h
set_option maxRecDepth 20000 in
set_option maxHeartbeats 4000000 in
/-- A line's text. -/
theorem text1_impl {s d : List Int} {v : Value} {w : World} {g m : Nat} {t2 t3 : Value} (hg : Sheet w g m t2 t3) (h : ArrI w v s d) (hs : s.length ≤ 1) (hall : d.all ok = true) (hd : d.length ≤ 1048576) (hm : m ≤ 22) (ht : TabW w) :
    Calls Tryd.prog 35 #[.pointer (some ⟨g, 0, none⟩), v] w fun e w' => e = .returned (.string (lineV m d)) ∧ Below w.heap.size w w' := by
  have HG : Hid (Sheet w g m t2 t3) := hg
  have HT : Hid (TabW w) := ht
  have HA : Hid (d.all ok = true) := hall
  obtain ⟨sa, sc, da, dc, rfl, _, h2, _, _⟩ := h
  have CL : Hid (∀ W, Below w.heap.size w W → Calls Tryd.prog 42 #[.slice da d.length dc, .int .i64 (m : Int)] W fun e w' => e = .returned (.string (lineV m d)) ∧ Below W.heap.size W w') := fun W hb => by
    rw [lineV_jn]
    exact lineText_impl reps joins dc (h2.keep hb) hd hall m hm (HT.out.on hb)
  have hs1 : (s.length : Int) ≤ 1 := by omega
  generalize lineV m d = V at *
  generalize s.length = sl at *
  clear hg ht hall h2 hs
  go_enter Tryd.func35, Tryd.ntmps35
  go_wp2_with fail
  generalize hW : ((w.alloc (.cells #[.pointer (some ⟨g, 0, none⟩)] 94)).alloc (.cells #[.slice sa sl sc, .slice da d.length dc] 27)).alloc (.cells #[.int .i64 (sl : Int)] 3) = w1
  have B1 : Hid (Below w.heap.size w w1) := by rw [← hW]; exact bAlloc (bAlloc (bAlloc (Below.refl _ _) _) _) _
  have p0 : w1.cell? ⟨w.heap.size, 0, none⟩ = some (.pointer (some ⟨g, 0, none⟩)) := by rw [← hW]; exact cell_at (three_new w _ _ _).1 rfl
  have p1 : w1.cell? ⟨w.heap.size + 1, 1, none⟩ = some (.slice da d.length dc) := by rw [← hW]; exact cell_at (three_new w _ _ _).2.1 rfl
  have HL : Hid (w.heap.size + 1 < w1.heap.size) := by rw [← hW]; have := (three_new w (.cells #[.pointer (some ⟨g, 0, none⟩)] 94) (.cells #[.slice sa sl sc, .slice da d.length dc] 27) (.cells #[.int .i64 (sl : Int)] 3)).2.2.2; show _ < _; omega
  have p2 : w1.cell? ⟨g, 8, none⟩ = some (.int .i64 (m : Int)) := cell_at (HG.out.keep B1.out) rfl
  have GL : Hid (g < w1.heap.size) := lt_of_heapA (HG.out.keep B1.out)
  have SK : Hid (∀ W, Below w1.heap.size w1 W → W.cell? ⟨w.heap.size, 0, none⟩ = some (.pointer (some ⟨g, 0, none⟩)) ∧ W.cell? ⟨w.heap.size + 1, 1, none⟩ = some (.slice da d.length dc) ∧ W.cell? ⟨g, 8, none⟩ = some (.int .i64 (m : Int))) := fun W hb => ⟨(hb.cell (p := ⟨w.heap.size, 0, none⟩) (by have := HL.out; show w.heap.size < _; omega)).trans p0, (hb.cell (p := ⟨w.heap.size + 1, 1, none⟩) HL.out).trans p1, (hb.cell (p := ⟨g, 8, none⟩) GL.out).trans p2⟩
  clear hW
  go_region_held3 (fun w' => w'.cell? ⟨w.heap.size, 0, none⟩ = some (.pointer (some ⟨g, 0, none⟩)) ∧ w'.cell? ⟨w.heap.size + 1, 1, none⟩ = some (.slice da d.length dc) ∧ w'.cell? ⟨g, 8, none⟩ = some (.int .i64 (m : Int)))
    ((refine SK.out _ ?_; (repeat first | with_reducible exact HB2.out | with_reducible exact Below.refl _ _ | with_reducible refine Below.drew ?_)))
    ((go_at_call 42; refine (CL.out _ (B1.out.trans (((Below.refl w1.heap.size w1).drew).mono B1.out.size))).mono ?_; rintro r w2 ⟨rfl, hb⟩; have HB2 : Hid (Below w1.heap.size w1 w2) := bTrans ((Below.refl w1.heap.size w1).drew) hb; clear hb))
  all_goals
    go_wp2
    go_ret
    exact ⟨rfl, B1.out.trans (HB2.out.mono B1.out.size)⟩
end Go.Proofs.YtcaidhmolnnikaaDoor
