/-
  What the rows' condition on the library's tables gives the walks: the table of tens stands as its own text lays it: no statement is proved here.
-/
import Derived.Test.YtopihahjjcpnpaaGreatDoorLabelA
import Derived.MakeChecks
import Derived.LaidSub
import Derived.Lib.LaidTab
namespace Go.Proofs.YtopihahjjcpnpaaGreatDoor.Label
open Go.RowKit Go.Proofs.YtopihahjjcpnpaaGreatDoor.Base
set_option maxRecDepth 100000 in
theorem tab_of_laid {l : List (String × DataW Unit)} {W : World} (h : laidMetH Tryz.prog l W) (e : l.filter (fun x => x.1 == "internal/strconv.uint64pow10") = [("internal/strconv.uint64pow10", Lib.tabData .u64 Lib.pow10Tab)]) : Tab W := by
  have h1 := h.filter (fun x => x.1 == "internal/strconv.uint64pow10")
  rw [e, MakeChecks.laidMetH_plain _ _ _ (by kernel_rfl)] at h1
  exact Lib.tabIs_of_head (g := 1) (t := 215) (e := 191) (n := 20) (by kernel_rfl) (by kernel_rfl) (by kernel_rfl) (by kernel_rfl) (by kernel_rfl) (by kernel_rfl) h1
end Go.Proofs.YtopihahjjcpnpaaGreatDoor.Label
