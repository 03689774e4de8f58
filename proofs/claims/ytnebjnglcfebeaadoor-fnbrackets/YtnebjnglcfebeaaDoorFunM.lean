/-
  Plain: which functions may stand on the left of one array, and between two; no Go in sight.
-/
import Derived.Test.YtnebjnglcfebeaaDoorTokM
namespace Go.Proofs.YtnebjnglcfebeaaDoor
def oneL : List Int := [105, 35, 44, 114, 122, 103]
def twoL : List Int := [35, 44, 116, 100, 114, 64, 63, 36, 101]
def oneSig (g : Int) : Bool := sign1 g || oneL.contains g
def twoSig (g : Int) : Bool := sign2 g || twoL.contains g
def funOneB (g o h : Int) : Bool := if h = 0 then (if o = 0 then oneSig g else if o = 47 ∨ o = 92 then sign2 g else false) else false
def funTwoB (g o h : Int) : Bool := if o = 46 then (sign2 g && sign2 h) else if h = 0 then (if o = 0 then twoSig g else if o = 111 then sign2 g else false) else false
theorem opers (o : Int) : o = 0 ∨ o = 47 ∨ o = 92 ∨ o = 111 ∨ o = 46 ∨ ((o == 0) = false ∧ (o == 47) = false ∧ (o == 92) = false ∧ (o == 111) = false ∧ (o == 46) = false) := by simp; omega
end Go.Proofs.YtnebjnglcfebeaaDoor
