/-
  The contract of the chapter's example (awake): no statement is proved here.
-/
import Derived.Test.YtihigbaaajmjlaaHeadHlp
import Derived.Deep.RegionHeld3
namespace Go.Proofs.Ytihigbaaajmjlaa.Head
open Go.RowKit Go.Proofs.Ytihigbaaajmjlaa.Base Go.Proofs.Ytihigbaaajmjlaa.NumM Go.Proofs.Ytihigbaaajmjlaa.Num

end Go.Proofs.Ytihigbaaajmjlaa.Head
