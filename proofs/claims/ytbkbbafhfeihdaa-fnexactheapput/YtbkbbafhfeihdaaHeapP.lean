
/-
  Walks: HeapPack whole, of the specification and of the program.
-/
import Derived.Test.YtbkbbafhfeihdaaHeapK2
import Derived.Test.YtbkbbafhfeihdaaHeapK3
namespace Go.Proofs.Ytbkbbafhfeihdaa
open Go.RowKit
set_option linter.unusedVariables false
set_option linter.unusedSimpArgs false
/-- The packed heap: its words, its top, how many cells, its cells. -/
noncomputable def packW (W : List Int) (t : Int) (n : Nat) (E : Nat → Cel) : List Int := if hOkB W.length t n E = true then pkX W E (ordH E n) (ordH E n).length ++ List.replicate (W.length - offs E (ordH E n) (ordH E n).length) 0 else []
noncomputable def packT (W : List Int) (t : Int) (n : Nat) (E : Nat → Cel) : Int := if hOkB W.length t n E = true then ((offs E (ordH E n) (ordH E n).length : Nat) : Int) else 0
noncomputable def packN (W : List Int) (t : Int) (n : Nat) (E : Nat → Cel) : Nat := if hOkB W.length t n E = true then n else 0
noncomputable def packE (E : Nat → Cel) (n : Nat) : Nat → Cel := pkC E (ordH E n) (fun _ => cel0) (ordH E n).length
theorem packW_len {W : List Int} {t : Int} {n : Nat} {E : Nat → Cel} (h : W.length ≤ 1048576) : (packW W t n E).length ≤ 1048576 := by
  unfold packW
  split
  · rename_i hk
    rw [(pk_lenS (hOkB_iff.1 hk) (ordH_ord E n) (Nat.le_refl _)).2]
    exact h
  · simp
theorem packN_le {W : List Int} {t : Int} {n : Nat} {E : Nat → Cel} (h : n ≤ 1048576) : packN W t n E ≤ 1048576 := by
  unfold packN
  split <;> omega
theorem pack_specH {w : World} {v : Value} {W : List Int} {t : Int} {n : Nat} {E : Nat → Cel} (h : HI w v W t n E) (hk : hOkB W.length t n E = true) :
    Calls Try.prog 51 #[v] w fun e w' => ∃ v', e = .returned v' ∧ HX w.heap.size w'.heap.size w' v' (packW W t n E) (packT W t n E) (packN W t n E) (packE E n) ∧ Below w.heap.size w w' := by
  have ok := hOkB_iff.1 hk
  refine (pack_spec h ok (ordH_ord E n)).mono ?_
  rintro e w' ⟨v', rfl, hX, hb⟩
  refine ⟨v', rfl, ?_, hb⟩
  unfold packW packT packN packE
  rw [if_pos hk, if_pos hk, if_pos hk]
  exact hX.congr fun i hi => (pkC_end ok (ordH_ord E n) hi).symm
theorem packed_implH (hS : SortsBy) (hS0 : SortsNone) {w : World} {v : Value} {W : List Int} {t : Int} {n : Nat} {E : Nat → Cel} (h : HI w v W t n E) (hk : hOkB W.length t n E = true) :
    Calls Try.prog 59 #[v] w fun e w' => ∃ v', e = .returned v' ∧ HX w.heap.size w'.heap.size w' v' (packW W t n E) (packT W t n E) (packN W t n E) (packE E n) ∧ Below w.heap.size w w' := by
  have ok := hOkB_iff.1 hk
  refine (packed_impl hS hS0 h ok).mono ?_
  rintro e w' ⟨v', hs, rfl, hO, hX, hb⟩
  obtain rfl := ord_unique ok hO (ordH_ord E n)
  refine ⟨v', rfl, ?_, hb⟩
  unfold packW packT packN packE
  rw [if_pos hk, if_pos hk, if_pos hk]
  exact hX
end Go.Proofs.Ytbkbbafhfeihdaa
