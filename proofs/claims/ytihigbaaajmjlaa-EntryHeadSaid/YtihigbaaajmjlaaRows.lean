/-
  No cell of these rows narrows 'for every input' (looked for: loops, veiled, ifaces, maps, wideKeys, modest, calm, conditions, laid).
  DERIVED. THE GIVEN ROWS OF THIS SEAT. 6 by the template 'for every input the law returns true; each argument reads behind the call as it read before'; 0 by the template 'total and deterministic' (their statements: YtihigbaaajmjlaaTotals.lean).
  GIVEN WITH THE SEED: the statements are not yours to turn. If you find one false, say at which input.
  Laid BY PROGRAM, IN A SANDBOX (cutbox-rows.mjs): the forced cells as the released guide's own fill.sh prints them over the translation d5bee72f73a50e57… (all of the seat's roots in one cut). By AI agents, Wed Nov 11 2026. No macro, syntax, notation, axiom, sorry.
-/
import Derived.Test.YtihigbaaajmjlaaChecked
import GoSem.Claim
import GoSem.ClaimJoined
import GoSem.ClaimMapViews
import Derived.JoinedTies
import Derived.KernelRfl
namespace Go.Proofs.Ytihigbaaajmjlaa
/- THE CELL 'sum', in the pinned program and in every row, IS THE sha256 OF THE DUMP (.gsa) THAT YtihigbaaajmjlaaProg.lean LOADS. Nothing in Lean hashes anything: it is a label: what it is worth is what the hold of that sum in a sandbox is worth. -/
noncomputable def Try.pinned : Pinned := { name := "ytihigbaaajmjlaa", sum := "d5bee72f73a50e571e1ddd36ea6652f4623d407b8baf37bdf592aedd79578db2", checked := Try.checked }
namespace Rows
def none {H : Type} : Left H := { results := [], args := [] }

/-- 'reelkeeperlaw07.EntryTells': WHATEVER THE INPUT: true; the input reads as it did. -/
def entryTellsSpec : ChangeSpec := { name := "entryTells", fn := fun _ => fun
  | [d] => { results := [.lit (.bool true)], args := [d] }
  | _ => none }
def entryTellsRow : OpenClaim := { program := "ytihigbaaajmjlaa", sum := "d5bee72f73a50e571e1ddd36ea6652f4623d407b8baf37bdf592aedd79578db2", func := "reelkeeper/reelkeeperlaw07.EntryTells", spec := "entryTells", inPlace := ["internal/bytealg.IndexByteString", "internal/bytealg.IndexString"], unfollowed := true, recurses := true, named := ["internal/bytealg.MaxLen"], apart := false }
def EntryTellsSaid : Prop := entryTellsRow.holds Try.pinned (OpenSpec.ofChange entryTellsSpec)

/-- ITS FALSE NEIGHBOUR: 'it returns false'. Refute it at one input. -/
def entryTellsWrong : ChangeSpec := { name := "entryTells", fn := fun _ => fun
  | [d] => { results := [.lit (.bool false)], args := [d] }
  | _ => none }
def EntryTellsWrongFalsely : Prop := entryTellsRow.holds Try.pinned (OpenSpec.ofChange entryTellsWrong)

/-- 'reelkeeperlaw07.EntryHead': WHATEVER THE INPUT: true; the input reads as it did. -/
def entryHeadSpec : ChangeSpec := { name := "entryHead", fn := fun _ => fun
  | [d] => { results := [.lit (.bool true)], args := [d] }
  | _ => none }
def entryHeadRow : OpenClaim := { program := "ytihigbaaajmjlaa", sum := "d5bee72f73a50e571e1ddd36ea6652f4623d407b8baf37bdf592aedd79578db2", func := "reelkeeper/reelkeeperlaw07.EntryHead", spec := "entryHead", inPlace := ["internal/bytealg.IndexByteString", "internal/bytealg.IndexString", "internal/abi.NoEscape"], unfollowed := true, recurses := true, named := ["internal/bytealg.MaxLen"], apart := false }
def EntryHeadSaid : Prop := entryHeadRow.holds Try.pinned (OpenSpec.ofChange entryHeadSpec)

/-- ITS FALSE NEIGHBOUR: 'it returns false'. Refute it at one input. -/
def entryHeadWrong : ChangeSpec := { name := "entryHead", fn := fun _ => fun
  | [d] => { results := [.lit (.bool false)], args := [d] }
  | _ => none }
def EntryHeadWrongFalsely : Prop := entryHeadRow.holds Try.pinned (OpenSpec.ofChange entryHeadWrong)

/-- 'reelkeeperlaw07.EntryApart': WHATEVER THE INPUT: true; the input reads as it did. -/
def entryApartSpec : ChangeSpec := { name := "entryApart", fn := fun _ => fun
  | [d1, d2] => { results := [.lit (.bool true)], args := [d1, d2] }
  | _ => none }
def entryApartRow : OpenClaim := { program := "ytihigbaaajmjlaa", sum := "d5bee72f73a50e571e1ddd36ea6652f4623d407b8baf37bdf592aedd79578db2", func := "reelkeeper/reelkeeperlaw07.EntryApart", spec := "entryApart", inPlace := ["internal/bytealg.IndexByteString", "internal/bytealg.IndexString"], unfollowed := true, recurses := true, named := ["internal/bytealg.MaxLen"], apart := false }
def EntryApartSaid : Prop := entryApartRow.holds Try.pinned (OpenSpec.ofChange entryApartSpec)

/-- ITS FALSE NEIGHBOUR: 'it returns false'. Refute it at one input. -/
def entryApartWrong : ChangeSpec := { name := "entryApart", fn := fun _ => fun
  | [d1, d2] => { results := [.lit (.bool false)], args := [d1, d2] }
  | _ => none }
def EntryApartWrongFalsely : Prop := entryApartRow.holds Try.pinned (OpenSpec.ofChange entryApartWrong)

/-- 'reelkeeperlaw07.EntryMany': WHATEVER THE INPUT: true; the input reads as it did. -/
def entryManySpec : ChangeSpec := { name := "entryMany", fn := fun _ => fun
  | [d] => { results := [.lit (.bool true)], args := [d] }
  | _ => none }
def entryManyRow : OpenClaim := { program := "ytihigbaaajmjlaa", sum := "d5bee72f73a50e571e1ddd36ea6652f4623d407b8baf37bdf592aedd79578db2", func := "reelkeeper/reelkeeperlaw07.EntryMany", spec := "entryMany", inPlace := ["internal/bytealg.IndexByteString", "internal/bytealg.IndexString"], unfollowed := true, recurses := true, named := ["internal/bytealg.MaxLen"], apart := false }
def EntryManySaid : Prop := entryManyRow.holds Try.pinned (OpenSpec.ofChange entryManySpec)

/-- ITS FALSE NEIGHBOUR: 'it returns false'. Refute it at one input. -/
def entryManyWrong : ChangeSpec := { name := "entryMany", fn := fun _ => fun
  | [d] => { results := [.lit (.bool false)], args := [d] }
  | _ => none }
def EntryManyWrongFalsely : Prop := entryManyRow.holds Try.pinned (OpenSpec.ofChange entryManyWrong)

/-- 'reelkeeperlaw07.EntryFirst': WHATEVER THE INPUT: true; the input reads as it did. -/
def entryFirstSpec : ChangeSpec := { name := "entryFirst", fn := fun _ => fun
  | [d] => { results := [.lit (.bool true)], args := [d] }
  | _ => none }
def entryFirstRow : OpenClaim := { program := "ytihigbaaajmjlaa", sum := "d5bee72f73a50e571e1ddd36ea6652f4623d407b8baf37bdf592aedd79578db2", func := "reelkeeper/reelkeeperlaw07.EntryFirst", spec := "entryFirst", inPlace := ["internal/bytealg.IndexByteString", "internal/bytealg.IndexString"], unfollowed := true, recurses := true, named := ["internal/bytealg.MaxLen"], apart := false }
def EntryFirstSaid : Prop := entryFirstRow.holds Try.pinned (OpenSpec.ofChange entryFirstSpec)

/-- ITS FALSE NEIGHBOUR: 'it returns false'. Refute it at one input. -/
def entryFirstWrong : ChangeSpec := { name := "entryFirst", fn := fun _ => fun
  | [d] => { results := [.lit (.bool false)], args := [d] }
  | _ => none }
def EntryFirstWrongFalsely : Prop := entryFirstRow.holds Try.pinned (OpenSpec.ofChange entryFirstWrong)

/-- 'reelkeeperlaw07.EntryGrows': WHATEVER THE INPUT: true; the input reads as it did. -/
def entryGrowsSpec : ChangeSpec := { name := "entryGrows", fn := fun _ => fun
  | [d1, d2] => { results := [.lit (.bool true)], args := [d1, d2] }
  | _ => none }
def entryGrowsRow : OpenClaim := { program := "ytihigbaaajmjlaa", sum := "d5bee72f73a50e571e1ddd36ea6652f4623d407b8baf37bdf592aedd79578db2", func := "reelkeeper/reelkeeperlaw07.EntryGrows", spec := "entryGrows", inPlace := ["internal/bytealg.IndexByteString", "internal/bytealg.IndexString"], unfollowed := true, recurses := true, named := ["internal/bytealg.MaxLen"], apart := false }
def EntryGrowsSaid : Prop := entryGrowsRow.holds Try.pinned (OpenSpec.ofChange entryGrowsSpec)

/-- ITS FALSE NEIGHBOUR: 'it returns false'. Refute it at one input. -/
def entryGrowsWrong : ChangeSpec := { name := "entryGrows", fn := fun _ => fun
  | [d1, d2] => { results := [.lit (.bool false)], args := [d1, d2] }
  | _ => none }
def EntryGrowsWrongFalsely : Prop := entryGrowsRow.holds Try.pinned (OpenSpec.ofChange entryGrowsWrong)

/- THE SECOND FORM. 'bulk': how many values and letters a reading holds, each counted each time it is reached (what is shared counts as often as it is met; a slice's spare places count too). A statement '..UptoSaid' is the law's where the arguments, and the package variables that the reading takes, are together of bulk at most 1048576: NARROWER than '..Said'. Prove '..Said' where nothing that the law and all that it calls make is longer than what came in: it says more and counts as full. Else prove '..UptoSaid'. A law counts once. -/
mutual
def uptoBulk {H : Type} : DataW H → Nat
  | .lit (.string bytes) => bytes.length + 1
  | .lit _ => 1
  | .nil => 1
  | .ptr d => uptoBulk d + 1
  | .slice elems spare => uptoBulkAll elems + uptoBulkAll spare + 1
  | .agg parts => uptoBulkAll parts + 1
  | .iface _ d => uptoBulk d + 1
  | .map entries => uptoBulkEntries entries + 1
  | .held _ => 1
def uptoBulkAll {H : Type} : List (DataW H) → Nat
  | [] => 0
  | d :: r => uptoBulk d + uptoBulkAll r
def uptoBulkEntries {H : Type} : List (Lit × DataW H) → Nat
  | [] => 0
  | x :: r => uptoBulkEntry x + uptoBulkEntries r
def uptoBulkEntry {H : Type} : Lit × DataW H → Nat
  | (.string bytes, d) => bytes.length + uptoBulk d + 1
  | (_, d) => uptoBulk d + 1
 end
def uptoSmall : (H : Type) → List (DataW H) → Bool := fun _ ds => decide (uptoBulkAll ds ≤ 1048576)
def OpenSpec.upto (s : _root_.Go.ChangeSpec) : _root_.Go.OpenSpec := { _root_.Go.OpenSpec.ofChange s with cond := some uptoSmall }

/-- 'reelkeeperlaw07.EntryTells', WHERE WHAT IT READS IS OF BULK AT MOST 1048576: true; the input reads as it did. -/
def entryTellsUptoRow : OpenClaim := { program := "ytihigbaaajmjlaa", sum := "d5bee72f73a50e571e1ddd36ea6652f4623d407b8baf37bdf592aedd79578db2", func := "reelkeeper/reelkeeperlaw07.EntryTells", spec := "entryTells", inPlace := ["internal/bytealg.IndexByteString", "internal/bytealg.IndexString"], unfollowed := true, recurses := true, named := ["internal/bytealg.MaxLen"], apart := false, narrowed := true }
def EntryTellsUptoSaid : Prop := entryTellsUptoRow.holds Try.pinned (OpenSpec.upto entryTellsSpec)

/-- 'reelkeeperlaw07.EntryHead', WHERE WHAT IT READS IS OF BULK AT MOST 1048576: true; the input reads as it did. -/
def entryHeadUptoRow : OpenClaim := { program := "ytihigbaaajmjlaa", sum := "d5bee72f73a50e571e1ddd36ea6652f4623d407b8baf37bdf592aedd79578db2", func := "reelkeeper/reelkeeperlaw07.EntryHead", spec := "entryHead", inPlace := ["internal/bytealg.IndexByteString", "internal/bytealg.IndexString", "internal/abi.NoEscape"], unfollowed := true, recurses := true, named := ["internal/bytealg.MaxLen"], apart := false, narrowed := true }
def EntryHeadUptoSaid : Prop := entryHeadUptoRow.holds Try.pinned (OpenSpec.upto entryHeadSpec)

/-- 'reelkeeperlaw07.EntryApart', WHERE WHAT IT READS IS OF BULK AT MOST 1048576: true; the input reads as it did. -/
def entryApartUptoRow : OpenClaim := { program := "ytihigbaaajmjlaa", sum := "d5bee72f73a50e571e1ddd36ea6652f4623d407b8baf37bdf592aedd79578db2", func := "reelkeeper/reelkeeperlaw07.EntryApart", spec := "entryApart", inPlace := ["internal/bytealg.IndexByteString", "internal/bytealg.IndexString"], unfollowed := true, recurses := true, named := ["internal/bytealg.MaxLen"], apart := false, narrowed := true }
def EntryApartUptoSaid : Prop := entryApartUptoRow.holds Try.pinned (OpenSpec.upto entryApartSpec)

/-- 'reelkeeperlaw07.EntryMany', WHERE WHAT IT READS IS OF BULK AT MOST 1048576: true; the input reads as it did. -/
def entryManyUptoRow : OpenClaim := { program := "ytihigbaaajmjlaa", sum := "d5bee72f73a50e571e1ddd36ea6652f4623d407b8baf37bdf592aedd79578db2", func := "reelkeeper/reelkeeperlaw07.EntryMany", spec := "entryMany", inPlace := ["internal/bytealg.IndexByteString", "internal/bytealg.IndexString"], unfollowed := true, recurses := true, named := ["internal/bytealg.MaxLen"], apart := false, narrowed := true }
def EntryManyUptoSaid : Prop := entryManyUptoRow.holds Try.pinned (OpenSpec.upto entryManySpec)

/-- 'reelkeeperlaw07.EntryFirst', WHERE WHAT IT READS IS OF BULK AT MOST 1048576: true; the input reads as it did. -/
def entryFirstUptoRow : OpenClaim := { program := "ytihigbaaajmjlaa", sum := "d5bee72f73a50e571e1ddd36ea6652f4623d407b8baf37bdf592aedd79578db2", func := "reelkeeper/reelkeeperlaw07.EntryFirst", spec := "entryFirst", inPlace := ["internal/bytealg.IndexByteString", "internal/bytealg.IndexString"], unfollowed := true, recurses := true, named := ["internal/bytealg.MaxLen"], apart := false, narrowed := true }
def EntryFirstUptoSaid : Prop := entryFirstUptoRow.holds Try.pinned (OpenSpec.upto entryFirstSpec)

/-- 'reelkeeperlaw07.EntryGrows', WHERE WHAT IT READS IS OF BULK AT MOST 1048576: true; the input reads as it did. -/
def entryGrowsUptoRow : OpenClaim := { program := "ytihigbaaajmjlaa", sum := "d5bee72f73a50e571e1ddd36ea6652f4623d407b8baf37bdf592aedd79578db2", func := "reelkeeper/reelkeeperlaw07.EntryGrows", spec := "entryGrows", inPlace := ["internal/bytealg.IndexByteString", "internal/bytealg.IndexString"], unfollowed := true, recurses := true, named := ["internal/bytealg.MaxLen"], apart := false, narrowed := true }
def EntryGrowsUptoSaid : Prop := entryGrowsUptoRow.holds Try.pinned (OpenSpec.upto entryGrowsSpec)

end Rows
end Go.Proofs.Ytihigbaaajmjlaa
