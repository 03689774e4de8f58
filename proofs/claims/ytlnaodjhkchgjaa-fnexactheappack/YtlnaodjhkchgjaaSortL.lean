/-
  slices.SortFunc at lists of numbers, by the library's contract.
-/
import Derived.Test.YtlnaodjhkchgjaaLaysF
import Derived.Test.YtlnaodjhkchgjaaSortF
import Derived.Shelf.SlSortCmp.NoneTotal
namespace Go.Proofs.Ytlnaodjhkchgjaa
open Go.RowKit Go.Sort Go.Shelf
theorem sorts_by : SortsBy := fun _ _ cf hO g cb blk cap d w eg hc hH hb hl => Any.slices_SortFunc Try.sortL encF (fun _ => rfl) cf hO g cb blk 0 cap d w eg hc hH hb hl
theorem sorts_none : SortsNone := fun p cap fv w => AnyF.slices_SortFunc_none (P := Try.prog) (ρ := Try.sortL_ren) { Try.sortL with } p cap fv w
end Go.Proofs.Ytlnaodjhkchgjaa
