/-
  What VolumeBegin's walk asks of packages label, stream and cont: no statement is proved here.
-/
import Derived.Test.YtopihahjjcpnpaaGreatDoorVolBeginW
import Derived.Test.YtopihahjjcpnpaaGreatDoorVolK2
import Derived.Test.YtopihahjjcpnpaaGreatDoorContA
namespace Go.Proofs.YtopihahjjcpnpaaGreatDoor.Vol
open Go.RowKit Go.Proofs.YtopihahjjcpnpaaGreatDoor.Str Go.Proofs.YtopihahjjcpnpaaGreatDoor.Base Go.Proofs.YtopihahjjcpnpaaGreatDoor.Node Go.Proofs.YtopihahjjcpnpaaGreatDoor.Head Go.Proofs.YtopihahjjcpnpaaGreatDoor.LabelM Go.Proofs.YtopihahjjcpnpaaGreatDoor.ContM Go.Proofs.YtopihahjjcpnpaaGreatDoor.Stream Go.Proofs.YtopihahjjcpnpaaGreatDoor.VolM
set_option linter.unusedVariables false
theorem lab_get : LabGet Label.Tab := fun l z hz s n e0 h A c w ha htab => Label.lget_s l z hz s n e0 h A c w ha htab
theorem cont_get : ContGet := fun ls z hz hl h2 m off whole k b h A c w ha => Cont.cget_s ls z hz hl h2 m off whole k b h A c w ha
theorem where_i : WhereI := fun t m hm hl hn i h1 h2 k j hw A c w ha => where_v t m hm hl hn i k j hw A c w ha
end Go.Proofs.YtopihahjjcpnpaaGreatDoor.Vol
