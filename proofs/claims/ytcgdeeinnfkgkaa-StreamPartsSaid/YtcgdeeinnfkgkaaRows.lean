/-
  No cell of these rows narrows 'for every input' (looked for: loops, veiled, ifaces, maps, wideKeys, modest, calm, conditions, laid).
  DERIVED. THE GIVEN ROWS OF THIS SEAT. 5 by the template 'for every input the law returns true; each argument reads behind the call as it read before'; 0 by the template 'total and deterministic' (their statements: YtcgdeeinnfkgkaaTotals.lean).
  GIVEN WITH THE SEED: the statements are not yours to turn. If you find one false, say at which input.
  Laid BY PROGRAM, IN A SANDBOX (cutbox-rows.mjs): the forced cells as the released guide's own fill.sh prints them over the translation a5122bcda659eee4… (all of the seat's roots in one cut). By AI agents, Wed Nov 11 2026. No macro, syntax, notation, axiom, sorry.
-/
import Derived.Test.YtcgdeeinnfkgkaaChecked
import GoSem.Claim
import GoSem.ClaimJoined
import GoSem.ClaimMapViews
import Derived.JoinedTies
import Derived.KernelRfl
namespace Go.Proofs.Ytcgdeeinnfkgkaa
/- THE CELL 'sum', in the pinned program and in every row, IS THE sha256 OF THE DUMP (.gsa) THAT YtcgdeeinnfkgkaaProg.lean LOADS. Nothing in Lean hashes anything: it is a label: what it is worth is what the hold of that sum in a sandbox is worth. -/
noncomputable def Try.pinned : Pinned := { name := "ytcgdeeinnfkgkaa", sum := "a5122bcda659eee4ac5ff0ed7c428efb02d5fe1f92a963143c4bf75fda9978bc", checked := Try.checked }
namespace Rows
def none {H : Type} : Left H := { results := [], args := [] }

/-- 'reelkeeperlaw08.StreamParts': WHATEVER THE INPUT: true; the input reads as it did. -/
def streamPartsSpec : ChangeSpec := { name := "streamParts", fn := fun _ => fun
  | [d1, d2] => { results := [.lit (.bool true)], args := [d1, d2] }
  | _ => none }
def streamPartsRow : OpenClaim := { program := "ytcgdeeinnfkgkaa", sum := "a5122bcda659eee4ac5ff0ed7c428efb02d5fe1f92a963143c4bf75fda9978bc", func := "reelkeeper/reelkeeperlaw08.StreamParts", spec := "streamParts", inPlace := ["internal/bytealg.IndexByteString", "internal/bytealg.IndexString"], unfollowed := true, recurses := true, named := ["internal/bytealg.MaxLen"], apart := false }
def StreamPartsSaid : Prop := streamPartsRow.holds Try.pinned (OpenSpec.ofChange streamPartsSpec)

/-- ITS FALSE NEIGHBOUR: 'it returns false'. Refute it at one input. -/
def streamPartsWrong : ChangeSpec := { name := "streamParts", fn := fun _ => fun
  | [d1, d2] => { results := [.lit (.bool false)], args := [d1, d2] }
  | _ => none }
def StreamPartsWrongFalsely : Prop := streamPartsRow.holds Try.pinned (OpenSpec.ofChange streamPartsWrong)

/-- 'reelkeeperlaw08.StreamWhere': WHATEVER THE INPUT: true; the input reads as it did. -/
def streamWhereSpec : ChangeSpec := { name := "streamWhere", fn := fun _ => fun
  | [d1, d2] => { results := [.lit (.bool true)], args := [d1, d2] }
  | _ => none }
def streamWhereRow : OpenClaim := { program := "ytcgdeeinnfkgkaa", sum := "a5122bcda659eee4ac5ff0ed7c428efb02d5fe1f92a963143c4bf75fda9978bc", func := "reelkeeper/reelkeeperlaw08.StreamWhere", spec := "streamWhere", inPlace := ["internal/bytealg.IndexByteString", "internal/bytealg.IndexString"], unfollowed := true, recurses := true, named := ["internal/bytealg.MaxLen"], apart := false }
def StreamWhereSaid : Prop := streamWhereRow.holds Try.pinned (OpenSpec.ofChange streamWhereSpec)

/-- ITS FALSE NEIGHBOUR: 'it returns false'. Refute it at one input. -/
def streamWhereWrong : ChangeSpec := { name := "streamWhere", fn := fun _ => fun
  | [d1, d2] => { results := [.lit (.bool false)], args := [d1, d2] }
  | _ => none }
def StreamWhereWrongFalsely : Prop := streamWhereRow.holds Try.pinned (OpenSpec.ofChange streamWhereWrong)

/-- 'reelkeeperlaw08.StreamApart': WHATEVER THE INPUT: true; the input reads as it did. -/
def streamApartSpec : ChangeSpec := { name := "streamApart", fn := fun _ => fun
  | [d1, d2] => { results := [.lit (.bool true)], args := [d1, d2] }
  | _ => none }
def streamApartRow : OpenClaim := { program := "ytcgdeeinnfkgkaa", sum := "a5122bcda659eee4ac5ff0ed7c428efb02d5fe1f92a963143c4bf75fda9978bc", func := "reelkeeper/reelkeeperlaw08.StreamApart", spec := "streamApart", inPlace := ["internal/bytealg.IndexByteString", "internal/bytealg.IndexString"], unfollowed := true, recurses := true, named := ["internal/bytealg.MaxLen"], apart := false }
def StreamApartSaid : Prop := streamApartRow.holds Try.pinned (OpenSpec.ofChange streamApartSpec)

/-- ITS FALSE NEIGHBOUR: 'it returns false'. Refute it at one input. -/
def streamApartWrong : ChangeSpec := { name := "streamApart", fn := fun _ => fun
  | [d1, d2] => { results := [.lit (.bool false)], args := [d1, d2] }
  | _ => none }
def StreamApartWrongFalsely : Prop := streamApartRow.holds Try.pinned (OpenSpec.ofChange streamApartWrong)

/-- 'reelkeeperlaw08.StreamMany': WHATEVER THE INPUT: true; the input reads as it did. -/
def streamManySpec : ChangeSpec := { name := "streamMany", fn := fun _ => fun
  | [d1, d2] => { results := [.lit (.bool true)], args := [d1, d2] }
  | _ => none }
def streamManyRow : OpenClaim := { program := "ytcgdeeinnfkgkaa", sum := "a5122bcda659eee4ac5ff0ed7c428efb02d5fe1f92a963143c4bf75fda9978bc", func := "reelkeeper/reelkeeperlaw08.StreamMany", spec := "streamMany", inPlace := ["internal/bytealg.IndexByteString", "internal/bytealg.IndexString"], unfollowed := true, recurses := true, named := ["internal/bytealg.MaxLen"], apart := false }
def StreamManySaid : Prop := streamManyRow.holds Try.pinned (OpenSpec.ofChange streamManySpec)

/-- ITS FALSE NEIGHBOUR: 'it returns false'. Refute it at one input. -/
def streamManyWrong : ChangeSpec := { name := "streamMany", fn := fun _ => fun
  | [d1, d2] => { results := [.lit (.bool false)], args := [d1, d2] }
  | _ => none }
def StreamManyWrongFalsely : Prop := streamManyRow.holds Try.pinned (OpenSpec.ofChange streamManyWrong)

/-- 'reelkeeperlaw08.StreamData': WHATEVER THE INPUT: true; the input reads as it did. -/
def streamDataSpec : ChangeSpec := { name := "streamData", fn := fun _ => fun
  | [d1, d2] => { results := [.lit (.bool true)], args := [d1, d2] }
  | _ => none }
def streamDataRow : OpenClaim := { program := "ytcgdeeinnfkgkaa", sum := "a5122bcda659eee4ac5ff0ed7c428efb02d5fe1f92a963143c4bf75fda9978bc", func := "reelkeeper/reelkeeperlaw08.StreamData", spec := "streamData", inPlace := ["internal/bytealg.IndexByteString", "internal/bytealg.IndexString"], unfollowed := true, recurses := true, named := ["internal/bytealg.MaxLen"], apart := false }
def StreamDataSaid : Prop := streamDataRow.holds Try.pinned (OpenSpec.ofChange streamDataSpec)

/-- ITS FALSE NEIGHBOUR: 'it returns false'. Refute it at one input. -/
def streamDataWrong : ChangeSpec := { name := "streamData", fn := fun _ => fun
  | [d1, d2] => { results := [.lit (.bool false)], args := [d1, d2] }
  | _ => none }
def StreamDataWrongFalsely : Prop := streamDataRow.holds Try.pinned (OpenSpec.ofChange streamDataWrong)

/- THE SECOND FORM. 'bulk': how many values and letters a reading holds, each counted each time it is reached (what is shared counts as often as it is met; a slice's spare places count too). A statement '..UptoSaid' is the law's where the arguments, and the package variables that the reading takes, are together of bulk at most 1048576: NARROWER than '..Said'. Prove '..Said' where nothing that the law and all that it calls make is longer than what came in: it says more and counts as full. Else prove '..UptoSaid'. A law counts once. -/
mutual
def uptoBulk {H : Type} : DataW H → Nat
  | .lit (.string bytes) => bytes.length + 1
  | .lit _ => 1
  | .nil => 1
  | .ptr d => uptoBulk d + 1
  | .slice elems spare => uptoBulkAll elems + uptoBulkAll spare + 1
  | .agg parts => uptoBulkAll parts + 1
  | .iface _ d => uptoBulk d + 1
  | .map entries => uptoBulkEntries entries + 1
  | .held _ => 1
def uptoBulkAll {H : Type} : List (DataW H) → Nat
  | [] => 0
  | d :: r => uptoBulk d + uptoBulkAll r
def uptoBulkEntries {H : Type} : List (Lit × DataW H) → Nat
  | [] => 0
  | x :: r => uptoBulkEntry x + uptoBulkEntries r
def uptoBulkEntry {H : Type} : Lit × DataW H → Nat
  | (.string bytes, d) => bytes.length + uptoBulk d + 1
  | (_, d) => uptoBulk d + 1
 end
def uptoSmall : (H : Type) → List (DataW H) → Bool := fun _ ds => decide (uptoBulkAll ds ≤ 1048576)
def OpenSpec.upto (s : _root_.Go.ChangeSpec) : _root_.Go.OpenSpec := { _root_.Go.OpenSpec.ofChange s with cond := some uptoSmall }

/-- 'reelkeeperlaw08.StreamParts', WHERE WHAT IT READS IS OF BULK AT MOST 1048576: true; the input reads as it did. -/
def streamPartsUptoRow : OpenClaim := { program := "ytcgdeeinnfkgkaa", sum := "a5122bcda659eee4ac5ff0ed7c428efb02d5fe1f92a963143c4bf75fda9978bc", func := "reelkeeper/reelkeeperlaw08.StreamParts", spec := "streamParts", inPlace := ["internal/bytealg.IndexByteString", "internal/bytealg.IndexString"], unfollowed := true, recurses := true, named := ["internal/bytealg.MaxLen"], apart := false, narrowed := true }
def StreamPartsUptoSaid : Prop := streamPartsUptoRow.holds Try.pinned (OpenSpec.upto streamPartsSpec)

/-- 'reelkeeperlaw08.StreamWhere', WHERE WHAT IT READS IS OF BULK AT MOST 1048576: true; the input reads as it did. -/
def streamWhereUptoRow : OpenClaim := { program := "ytcgdeeinnfkgkaa", sum := "a5122bcda659eee4ac5ff0ed7c428efb02d5fe1f92a963143c4bf75fda9978bc", func := "reelkeeper/reelkeeperlaw08.StreamWhere", spec := "streamWhere", inPlace := ["internal/bytealg.IndexByteString", "internal/bytealg.IndexString"], unfollowed := true, recurses := true, named := ["internal/bytealg.MaxLen"], apart := false, narrowed := true }
def StreamWhereUptoSaid : Prop := streamWhereUptoRow.holds Try.pinned (OpenSpec.upto streamWhereSpec)

/-- 'reelkeeperlaw08.StreamApart', WHERE WHAT IT READS IS OF BULK AT MOST 1048576: true; the input reads as it did. -/
def streamApartUptoRow : OpenClaim := { program := "ytcgdeeinnfkgkaa", sum := "a5122bcda659eee4ac5ff0ed7c428efb02d5fe1f92a963143c4bf75fda9978bc", func := "reelkeeper/reelkeeperlaw08.StreamApart", spec := "streamApart", inPlace := ["internal/bytealg.IndexByteString", "internal/bytealg.IndexString"], unfollowed := true, recurses := true, named := ["internal/bytealg.MaxLen"], apart := false, narrowed := true }
def StreamApartUptoSaid : Prop := streamApartUptoRow.holds Try.pinned (OpenSpec.upto streamApartSpec)

/-- 'reelkeeperlaw08.StreamMany', WHERE WHAT IT READS IS OF BULK AT MOST 1048576: true; the input reads as it did. -/
def streamManyUptoRow : OpenClaim := { program := "ytcgdeeinnfkgkaa", sum := "a5122bcda659eee4ac5ff0ed7c428efb02d5fe1f92a963143c4bf75fda9978bc", func := "reelkeeper/reelkeeperlaw08.StreamMany", spec := "streamMany", inPlace := ["internal/bytealg.IndexByteString", "internal/bytealg.IndexString"], unfollowed := true, recurses := true, named := ["internal/bytealg.MaxLen"], apart := false, narrowed := true }
def StreamManyUptoSaid : Prop := streamManyUptoRow.holds Try.pinned (OpenSpec.upto streamManySpec)

/-- 'reelkeeperlaw08.StreamData', WHERE WHAT IT READS IS OF BULK AT MOST 1048576: true; the input reads as it did. -/
def streamDataUptoRow : OpenClaim := { program := "ytcgdeeinnfkgkaa", sum := "a5122bcda659eee4ac5ff0ed7c428efb02d5fe1f92a963143c4bf75fda9978bc", func := "reelkeeper/reelkeeperlaw08.StreamData", spec := "streamData", inPlace := ["internal/bytealg.IndexByteString", "internal/bytealg.IndexString"], unfollowed := true, recurses := true, named := ["internal/bytealg.MaxLen"], apart := false, narrowed := true }
def StreamDataUptoSaid : Prop := streamDataUptoRow.holds Try.pinned (OpenSpec.upto streamDataSpec)

end Rows
end Go.Proofs.Ytcgdeeinnfkgkaa
