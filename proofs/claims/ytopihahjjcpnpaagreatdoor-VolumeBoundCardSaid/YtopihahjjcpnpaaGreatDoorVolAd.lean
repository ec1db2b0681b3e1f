/-
  Package stream's contracts in the form that the walks of volume's laws want: no statement is proved here.
-/
import Derived.Test.YtopihahjjcpnpaaGreatDoorVolZ
import Derived.Test.YtopihahjjcpnpaaGreatDoorStreamC
namespace Go.Proofs.YtopihahjjcpnpaaGreatDoor.Vol
open Go.RowKit Go.Proofs.YtopihahjjcpnpaaGreatDoor.Str Go.Proofs.YtopihahjjcpnpaaGreatDoor.Base Go.Proofs.YtopihahjjcpnpaaGreatDoor.Node Go.Proofs.YtopihahjjcpnpaaGreatDoor.Stream Go.Proofs.YtopihahjjcpnpaaGreatDoor.VolM
set_option linter.unusedVariables false
theorem all_i : AllI := fun t m hm hl hn l hl2 N hN b hb A c w ha => by
  subst hl2 hN hb
  exact Stream.all_s t m hm hl hn A c w ha
theorem many_i : ManyI := fun t m hm hl hn N hN A c w ha => by
  subst hN
  exact Stream.many_s t m hm hl hn A c w ha
end Go.Proofs.YtopihahjjcpnpaaGreatDoor.Vol
