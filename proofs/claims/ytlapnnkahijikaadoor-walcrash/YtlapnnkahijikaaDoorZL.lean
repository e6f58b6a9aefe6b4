/- The listed variable's cells: the round words lie at block 0. -/
import Derived.Test.YtlapnnkahijikaaDoorRows
import Derived.Test.YtlapnnkahijikaaDoorTie
import Derived.Test.YtlapnnkahijikaaDoorCards
import Derived.Test.YtlapnnkahijikaaDoorZS1
import Derived.ProofKit
import Derived.LaidMore
import Derived.OpenShut
import Derived.Stop.Joined
import Derived.Lib.LaidTab
import Derived.SevenTiedAt
namespace Go.Proofs.YtlapnnkahijikaaDoor
open Go.ChangeShapes Go.WideShapes Go.ChangeAt Go.RowKit
theorem words_global : Tryd.prog.globalNamed "coracle/sha.roundWords" = some 0 := by kernel_rfl
theorem words_type : (Tryd.prog.globals[0]?).map (·.type) = some 117 := by kernel_rfl
theorem words_datum : [("coracle/sha.roundWords", (Rows.laid_coracle_sha_roundWords : DataW Unit))] = [("coracle/sha.roundWords", Lib.tabData .u32 (Ks.map U))] := by kernel_rfl
theorem kw_of_laid {W : World} (h : laidMetH Tryd.prog [("coracle/sha.roundWords", Rows.laid_coracle_sha_roundWords)] W) : Kw W := by
  rw [MakeChecks.laidMetH_plain _ _ _ (by kernel_rfl), words_datum] at h
  have hT := Lib.tabIs_of_head words_global words_type Tryd.underlying117 Tryd.underlying92 (by kernel_rfl) (by kernel_rfl) h
  intro i hi
  have := hT.cell words_global i (by rw [List.length_map, Ks_length]; exact hi)
  rw [this, List.getD_eq_getElem?_getD, List.getD_eq_getElem?_getD, List.getElem?_map, List.getElem?_eq_getElem (by rw [Ks_length]; exact hi)]
  rfl
end Go.Proofs.YtlapnnkahijikaaDoor
