/-
  slices.SortFunc at handles, by a key: what it does, out of the library's contract.
-/
import Derived.Test.YtmmjidhpmbcoiaaGrow
import Derived.Shelf.SlSortCmp.Kit1
import Derived.Sort.OwnSortedInts
namespace Go.Proofs.Ytmmjidhpmbcoiaa
open Go.RowKit Go.Sort Go.Shelf
set_option linter.unusedVariables false
set_option linter.unusedSimpArgs false
def encF {N : Nat} (i : Fin N) : Value := .int .i64 (i.val : Int)
/-- What slices.SortFunc does to a list of numbers below N. -/
def SortsBy : Prop := ∀ (N : Nat) (_ : Inhabited (Fin N)) (cf : Fin N → Fin N → Int), SWO (ltOf cf) → ∀ (g : Nat) (cb : Array Value) (blk cap : Nat) (d : Array (Fin N)) (w : World),
  (∀ args w, (callFunc g args).run Try.prog w = .ok (.enter g args) w) → CmpLays1 Try.prog g cb encF cf blk 0 d.size w → Holds encF w blk 0 d → blk < w.heap.size → d.size < 4611686018427387904 →
  Calls Try.prog 84 #[.slice (some ⟨blk, 0, none⟩) d.size cap, .func (.func g) #[] cb] w fun e w' =>
    e = .returned (.tuple #[]) ∧ ∃ d' n os, PermIn 0 d.size d d' ∧ SortedIn (ltOf cf) 0 d.size d' ∧ w' = sortWorld encF w blk 0 n d' os
/-- .. and to one of none. -/
def SortsNone : Prop := ∀ (p : Option Addr) (cap : Nat) (fv : Value) (w : World), Calls Try.prog 84 #[.slice p 0 cap, fv] w fun e w' => e = .returned (.tuple #[]) ∧ w' = w
/-- Less, by a key. -/
def cmpK (x y : Int) : Int := if x < y then -1 else if y < x then 1 else 0
theorem ltK {N : Nat} (key : Nat → Int) (x y : Fin N) : ltOf (fun a b : Fin N => cmpK (key a.val) (key b.val)) x y = decide (key x.val < key y.val) := by
  unfold ltOf cmpK
  by_cases h : key x.val < key y.val
  · simp [h]
  · by_cases h2 : key y.val < key x.val <;> simp [h, h2]
theorem swoK {N : Nat} (key : Nat → Int) : SWO (ltOf (fun a b : Fin N => cmpK (key a.val) (key b.val))) where
  irrefl x := by rw [ltK]; simp
  trans x y z h1 h2 := by rw [ltK] at *; simp at *; omega
  ntrans x y z h1 h2 := by rw [ltK] at *; simp at *; omega
theorem putRow_enc {N : Nat} [Inhabited (Fin N)] (w : World) (blk : Nat) (d : Array (Fin N)) : putRow encF w blk 0 d = putRow (Value.int .i64) w blk 0 (d.map fun i => (i.val : Int)) := by
  unfold putRow
  congr 1
  funext c
  unfold putCells
  congr 1
  funext k x
  by_cases h : k < d.size
  · simp [h, encF]
  · simp [h]
theorem fin_list {N : Nat} : ∀ (hs : List Nat), (∀ x ∈ hs, x < N) → ∃ ds : List (Fin N), ds.map (fun i => i.val) = hs
  | [], _ => ⟨[], rfl⟩
  | x :: xs, h => by
    obtain ⟨ds, e⟩ := fin_list xs fun y hy => h y (by simp [hy])
    exact ⟨⟨x, h x (by simp)⟩ :: ds, by simp [e]⟩
theorem below_grown {B g : Nat} {w w' : World} (h : w.grownBy w' (some g)) (hg : B ≤ g) (hB : B ≤ w.heap.size) : Below B w w' :=
  ⟨h.os, h.tape, h.output, h.size, fun k hk => h.block k (by omega) (by simp; omega)⟩
/-- Handles as numbers. -/
def nI (l : List Nat) : List Int := l.map fun i : Nat => (i : Int)
theorem nI_len (l : List Nat) : (nI l).length = l.length := by simp [nI]
set_option maxRecDepth 20000 in
/-- Handles are sorted by a key, in whatever order alike ones come. -/
theorem sort_handles (hS : SortsBy) (hS0 : SortsNone) {B : Nat} {w : World} {v : Value} {hs : List Nat} {N : Nat} {key : Nat → Int} (h : NewInts B w v (nI hs)) (hB : B ≤ w.heap.size) (hlt : ∀ x ∈ hs, x < N) (hl : hs.length ≤ 1000000) (g : Nat) (cb : Array Value)
    (eg : ∀ args w, (callFunc g args).run Try.prog w = .ok (.enter g args) w)
    (hcl : ∀ (W : World) (x y : Nat), Below B w W → x < N → y < N → Calls Try.prog g (#[.int .i64 (x : Int), .int .i64 (y : Int)] ++ cb) W fun e w' => e = .returned (.int .i64 (cmpK (key x) (key y))) ∧ ∃ q, w' = W.drewN q) :
    Calls Try.prog 84 #[v, .func (.func g) #[] cb] w fun e w' => e = .returned (.tuple #[]) ∧ ∃ hs' : List Nat, hs'.Perm hs ∧ hs'.Pairwise (fun a b => key a ≤ key b) ∧ NewInts B w' v (nI hs') ∧ Below B w w' := by
  by_cases h0 : hs.length = 0
  · obtain rfl : hs = [] := List.eq_nil_of_length_eq_zero h0
    obtain ⟨a, c, rfl, _⟩ := h.ints
    refine (hS0 a c _ w).mono ?_
    rintro e w' ⟨rfl, rfl⟩
    exact ⟨rfl, [], List.Perm.refl _, List.Pairwise.nil, h, Below.refl _ _⟩
  have h0' := h
  rcases h.2 with ⟨_, hk0⟩ | ⟨b, cap, cur, rfl, hbase, hb, h1, h2, h3, h4⟩
  · rw [nI_len] at hk0; omega
  obtain ⟨ds, rfl⟩ := fin_list hs hlt
  have hN : 0 < N := by
    cases ds with
    | nil => simp at h0
    | cons x _ => exact Nat.lt_of_le_of_lt (Nat.zero_le _) x.isLt
  let inh : Inhabited (Fin N) := ⟨⟨0, hN⟩⟩
  have hgl : b < w.heap.size := (Array.getElem?_eq_some_iff.1 hb).1
  have hH : Holds encF w b 0 ds.toArray := by
    have hh := holds_of_blockI hb (ss := ds.map fun i => (i.val : Int)) (by simpa [nI, Function.comp_def] using h4)
    intro j hj
    have := hh j (by simpa using hj)
    have e : (ds.map fun i => (i.val : Int)).toArray[j]! = ((ds.toArray[j]!).val : Int) := by
      rw [getElem!_pos _ j (by simpa using hj), getElem!_pos ds.toArray j hj]
      simp
    rw [e] at this
    exact this
  have hsz : (ds.map fun i => i.val).length = ds.toArray.size := by simp
  have hmm : nI (ds.map fun i => i.val) = ds.map fun i => (i.val : Int) := by simp [nI, Function.comp_def]
  have bel : ∀ (m : Nat) (os : Array Obj) (dk : Array (Fin N)), Below B w (sortWorld encF w b 0 m dk os) := fun m os dk => by
    unfold sortWorld
    rw [putRow_enc]
    exact below_grown (grownBy_sortedI _) hbase hB
  have hs := hS N inh (fun a b => cmpK (key a.val) (key b.val)) (swoK key) g cb b cap ds.toArray w eg (fun m os dk _ x y => (hcl _ x.val y.val (bel m os dk) x.isLt y.isLt).mono fun e w' ⟨he, q, hq⟩ => ⟨he, q, #[], by rw [hq, grow_empty]⟩) hH hgl (by simp at hl ⊢; omega)
  rw [show (nI (ds.map fun i => i.val)).length = ds.toArray.size by simp [nI]]
  refine hs.mono ?_
  rintro e w' ⟨rfl, d', m, os, ⟨p1, _, p3⟩, hsort, rfl⟩
  have hpl : d'.toList.Perm ds := by
    have e1 : d'.extract 0 ds.toArray.size = d' := by rw [← p1]; simp
    have e2 : ds.toArray.extract 0 ds.toArray.size = ds.toArray := by simp
    rw [e1, e2] at p3
    exact p3
  refine ⟨rfl, d'.toList.map (fun i => i.val), hpl.map _, ?_, ?_, bel m os d'⟩
  · rw [List.pairwise_map, List.pairwise_iff_getElem]
    intro i j hi hj hij
    have hd : d'.size = ds.length := by simpa using p1
    have := hsort i j (Nat.zero_le _) hij (by simp at hj; omega)
    rw [ltK, getElem!_pos d' i (by simpa using hi), getElem!_pos d' j (by simpa using hj)] at this
    simp at this
    simpa using this
  · have hd : d'.size = ds.length := by simpa using p1
    have ho := ownsRow_sortedI (n := m) (os := os) (ss := ds.map fun i => (i.val : Int)) (ts := d'.toList.map fun i => (i.val : Int)) (by simp [hd]) hbase hb (by simpa [nI] using h1) h2 h3
    show World.ownsRow _ _ _ _ _ _ _
    unfold sortWorld
    rw [putRow_enc]
    have ea : (d'.map fun i => (i.val : Int)) = (d'.toList.map fun i => (i.val : Int)).toArray := by apply Array.ext' ; simp
    rw [ea]
    simpa [nI, Function.comp_def, hd] using ho
end Go.Proofs.Ytmmjidhpmbcoiaa
