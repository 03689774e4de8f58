/-
  The builtin copy between an array of three numbers and a list of as many or fewer.
-/
import Derived.Test.YtcaidhmolnnikaaGreatDoorExtIdx
import Derived.Laws.CopyOwn
namespace Go.Proofs.YtcaidhmolnnikaaGreatDoor
open Go.RowKit
set_option linter.unusedVariables false
theorem cell_new (w : World) (cs : Array Value) (t : TypeId) {k : Nat} {v : Value} (h : cs[k]? = some v) : (w.alloc (.cells cs t)).cell? ⟨w.heap.size, k, none⟩ = some v := by
  rw [World.cell?_alloc_at _ _ _ _ rfl]; exact h
theorem kept4 (w : World) (A o0 o1 o2 o3 : Obj) : Below (w.alloc A).heap.size (w.alloc A) (((((w.alloc A).alloc o0).alloc o1).alloc o2).alloc o3) := bAlloc (bAlloc (bAlloc (bAlloc (Below.refl _ _) _) _) _) _
theorem int_size : (Tryz.prog.info? 3).map (·.size) = some 1 := by kernel_rfl
/-- The cells of a row that is known whole. -/
theorem src_row {w : World} {g : Nat} {cs : List Value} {t : TypeId} {fr : Nat × Nat} (hg : w.heap[g]? = some (.cells cs.toArray t fr)) (n : Nat) : ∀ (j : Nat) (v : Value), (cs.take n)[j]? = some v → w.cell? ((⟨g, 0, none⟩ : Addr).add j) = some v := by
  intro j v h
  have hj : cs[j]? = some v := by
    rw [List.getElem?_take] at h
    split at h
    · exact h
    · cases h
  have e : (⟨g, 0, none⟩ : Addr).add j = ⟨g, j, none⟩ := by unfold Addr.add; split <;> simp_all
  rw [e]
  simp only [World.cell?, hg]
  simpa using hj
theorem modify_last' {α : Type} (xs : Array α) (a b : α) (f : α → α) (hf : f a = b) : (xs.push a).modify xs.size f = xs.push b := by
  apply Array.ext
  · simp
  · intro i h1 h2
    simp only [Array.getElem_modify]
    by_cases e : i < xs.size
    · simp [Array.getElem_push, e, show ¬ xs.size = i by omega]
    · have : xs.size = i := by simp at h2; omega
      simp [Array.getElem_push, this, hf]
theorem setRow_last (w : World) (old cs : Array Value) (t : TypeId) : (w.alloc (.cells old t)).setRow w.heap.size cs = w.alloc (.cells cs t) := by
  unfold World.setRow
  rw [show (w.alloc (.cells old t)).heap = w.heap.push (.cells old t) from rfl, modify_last' _ _ (.cells cs t) _ rfl]
  rfl
/-- Out of an array of three into a new list. -/
theorem copy_out (w : World) (ty t : TypeId) (src Z : List Value) (n : Nat) (hn : n ≤ 3) (hs : src.length = 3) (hZ : Z.length = n) (h1 : ∀ v ∈ src, v.oneCell' = true) :
    (Builtin.copy_ #[112, 112] ty #[.slice (some ⟨w.heap.size + 1, 0, none⟩) n n, .slice (some ⟨w.heap.size, 0, none⟩) 3 3]).run Tryz.prog ((w.alloc (.cells src.toArray t)).alloc (.cells Z.toArray 3)) =
      .ok (.int .i64 n) ((w.alloc (.cells src.toArray t)).alloc (.cells (src.take n).toArray 3)) := by
  have hl : (src.take n).length = n := by simp; omega
  have e : (w.alloc (.cells src.toArray t)).heap.size = w.heap.size + 1 := by simp
  have hg : ((w.alloc (.cells src.toArray t)).alloc (.cells Z.toArray 3)).heap[w.heap.size + 1]? = some (.cells Z.toArray 3 (0, 0)) := by rw [← e]; exact heap_alloc_new _ _
  have hg0 : ((w.alloc (.cells src.toArray t)).alloc (.cells Z.toArray 3)).heap[w.heap.size]? = some (.cells src.toArray t (0, 0)) := by rw [heap_alloc_old _ _ (by simp)]; exact heap_alloc_new _ _
  have q := run_copy_row Tryz.prog ((w.alloc (.cells src.toArray t)).alloc (.cells Z.toArray 3)) 112 112 ty 3 (w.heap.size + 1) 0 n n ⟨w.heap.size, 0, none⟩ 3 3 Z.toArray 3 (src.take n) Tryz.underlying112 int_size hg (by rw [hl]; exact (Nat.min_eq_right hn).symm) (src_row hg0 n) (by simp; omega) (fun v hv => h1 v (List.mem_of_mem_take hv))
  rw [q, hl]
  have e2 : (Z.toArray.toList.take 0 ++ src.take n ++ Z.toArray.toList.drop (0 + n)).toArray = (src.take n).toArray := by simp [hZ]
  rw [e2, ← e, setRow_last]
  rfl
theorem ints_src {w : World} {b off : Nat} {l : List Int} (h : ∀ k, k < l.length → w.cell? ⟨b, off + k, none⟩ = some (.int .i64 (l.getD k 0))) : ∀ (j : Nat) (v : Value), (l.map (Value.int .i64))[j]? = some v → w.cell? ((⟨b, off, none⟩ : Addr).add j) = some v := by
  intro j v hv
  rw [List.getElem?_map] at hv
  cases hx : l[j]? with
  | none => rw [hx] at hv; cases hv
  | some x =>
    rw [hx] at hv
    obtain ⟨hj, rfl⟩ := List.getElem?_eq_some_iff.1 hx
    have e : (⟨b, off, none⟩ : Addr).add j = ⟨b, off + j, none⟩ := by unfold Addr.add; split <;> simp_all
    rw [e, h j hj]
    simpa [hj] using hv
set_option maxRecDepth 20000 in
/-- Out of a list into a new array of three. -/
theorem copy_in {w : World} {a : Option Addr} {l : List Int} (h1 : Ints w a l) (ty t : TypeId) (d : Nat) (hn : l.length ≤ 3) :
    (Builtin.copy_ #[112, 112] ty #[.slice (some ⟨w.heap.size, 0, none⟩) 3 3, .slice a l.length d]).run Tryz.prog (w.alloc (.cells #[.int .i64 0, .int .i64 0, .int .i64 0] t)) =
      .ok (.int .i64 l.length) (w.alloc (.cells (axC l) t)) := by
  by_cases h0 : l.length = 0
  · obtain rfl : l = [] := List.eq_nil_of_length_eq_zero h0
    exact run_copy_none (P := Tryz.prog) _ 112 112 ty 3 _ _ _ _ _ _ Tryz.underlying112 int_size rfl
  · rcases h1 with rfl | ⟨b, off, rfl, hb, hc⟩
    · exact absurd rfl h0
    · have hg : (w.alloc (.cells #[.int .i64 0, .int .i64 0, .int .i64 0] t)).heap[w.heap.size]? = some (.cells #[.int .i64 0, .int .i64 0, .int .i64 0] t (0, 0)) := heap_alloc_new _ _
      have hc' : ∀ k, k < l.length → (w.alloc (.cells #[.int .i64 0, .int .i64 0, .int .i64 0] t)).cell? ⟨b, off + k, none⟩ = some (.int .i64 (l.getD k 0)) := by
        intro k hk
        rw [(bAlloc (Below.refl w.heap.size w) _).cell (p := ⟨b, off + k, none⟩) hb]
        exact hc k hk
      have q := run_copy_row Tryz.prog (w.alloc (.cells #[.int .i64 0, .int .i64 0, .int .i64 0] t)) 112 112 ty 3 w.heap.size 0 3 3 ⟨b, off, none⟩ l.length d #[.int .i64 0, .int .i64 0, .int .i64 0] t (l.map (Value.int .i64)) Tryz.underlying112 int_size hg (by rw [List.length_map]; exact (Nat.min_eq_left hn).symm) (ints_src hc') (by simp; omega) (by intro v hv; obtain ⟨x, _, rfl⟩ := List.mem_map.1 hv; rfl)
      rw [q, setRow_last, List.length_map]
      congr 3
      rcases len3 hn with rfl | ⟨x, rfl⟩ | ⟨x, y, rfl⟩ | ⟨x, y, z, rfl⟩ <;> rfl
end Go.Proofs.YtcaidhmolnnikaaGreatDoor
