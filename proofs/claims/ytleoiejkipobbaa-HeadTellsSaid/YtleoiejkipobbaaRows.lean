/-
  No cell of these rows narrows 'for every input' (looked for: loops, veiled, ifaces, maps, wideKeys, modest, calm, conditions, laid).
  DERIVED. THE GIVEN ROWS OF THIS SEAT. 8 by the template 'for every input the law returns true; each argument reads behind the call as it read before'; 0 by the template 'total and deterministic' (their statements: YtleoiejkipobbaaTotals.lean).
  GIVEN WITH THE SEED: the statements are not yours to turn. If you find one false, say at which input.
  Laid BY PROGRAM, IN A SANDBOX (cutbox-rows.mjs): the forced cells as the released guide's own fill.sh prints them over the translation 9e92477506ca5dbf… (all of the seat's roots in one cut). By AI agents, Wed Nov 11 2026. No macro, syntax, notation, axiom, sorry.
-/
import Derived.Test.YtleoiejkipobbaaChecked
import GoSem.Claim
import GoSem.ClaimJoined
import GoSem.ClaimMapViews
import Derived.JoinedTies
import Derived.KernelRfl
namespace Go.Proofs.Ytleoiejkipobbaa
/- THE CELL 'sum', in the pinned program and in every row, IS THE sha256 OF THE DUMP (.gsa) THAT YtleoiejkipobbaaProg.lean LOADS. Nothing in Lean hashes anything: it is a label: what it is worth is what the hold of that sum in a sandbox is worth. -/
noncomputable def Try.pinned : Pinned := { name := "ytleoiejkipobbaa", sum := "9e92477506ca5dbf38fd417d1759dc3ebc3de6a7cd757d2bfdb202b1357784cf", checked := Try.checked }
namespace Rows
def none {H : Type} : Left H := { results := [], args := [] }

/-- 'reelkeeperlaw04.HeadTells': WHATEVER THE INPUT: true; the input reads as it did. -/
def headTellsSpec : ChangeSpec := { name := "headTells", fn := fun _ => fun
  | [d1, d2] => { results := [.lit (.bool true)], args := [d1, d2] }
  | _ => none }
def headTellsRow : OpenClaim := { program := "ytleoiejkipobbaa", sum := "9e92477506ca5dbf38fd417d1759dc3ebc3de6a7cd757d2bfdb202b1357784cf", func := "reelkeeper/reelkeeperlaw04.HeadTells", spec := "headTells", inPlace := ["internal/bytealg.IndexByteString", "internal/bytealg.IndexString"], unfollowed := true, recurses := true, named := ["internal/bytealg.MaxLen"], apart := false }
def HeadTellsSaid : Prop := headTellsRow.holds Try.pinned (OpenSpec.ofChange headTellsSpec)

/-- ITS FALSE NEIGHBOUR: 'it returns false'. Refute it at one input. -/
def headTellsWrong : ChangeSpec := { name := "headTells", fn := fun _ => fun
  | [d1, d2] => { results := [.lit (.bool false)], args := [d1, d2] }
  | _ => none }
def HeadTellsWrongFalsely : Prop := headTellsRow.holds Try.pinned (OpenSpec.ofChange headTellsWrong)

/-- 'reelkeeperlaw05.LongTells': WHATEVER THE INPUT: true; the input reads as it did. -/
def longTellsSpec : ChangeSpec := { name := "longTells", fn := fun _ => fun
  | [d1, d2, d3] => { results := [.lit (.bool true)], args := [d1, d2, d3] }
  | _ => none }
def longTellsRow : OpenClaim := { program := "ytleoiejkipobbaa", sum := "9e92477506ca5dbf38fd417d1759dc3ebc3de6a7cd757d2bfdb202b1357784cf", func := "reelkeeper/reelkeeperlaw05.LongTells", spec := "longTells", inPlace := ["internal/bytealg.IndexByteString", "internal/bytealg.IndexString"], unfollowed := true, recurses := true, named := ["internal/bytealg.MaxLen"], apart := false }
def LongTellsSaid : Prop := longTellsRow.holds Try.pinned (OpenSpec.ofChange longTellsSpec)

/-- ITS FALSE NEIGHBOUR: 'it returns false'. Refute it at one input. -/
def longTellsWrong : ChangeSpec := { name := "longTells", fn := fun _ => fun
  | [d1, d2, d3] => { results := [.lit (.bool false)], args := [d1, d2, d3] }
  | _ => none }
def LongTellsWrongFalsely : Prop := longTellsRow.holds Try.pinned (OpenSpec.ofChange longTellsWrong)

/-- 'reelkeeperlaw05.LongBack': WHATEVER THE INPUT: true; the input reads as it did. -/
def longBackSpec : ChangeSpec := { name := "longBack", fn := fun _ => fun
  | [d1, d2] => { results := [.lit (.bool true)], args := [d1, d2] }
  | _ => none }
def longBackRow : OpenClaim := { program := "ytleoiejkipobbaa", sum := "9e92477506ca5dbf38fd417d1759dc3ebc3de6a7cd757d2bfdb202b1357784cf", func := "reelkeeper/reelkeeperlaw05.LongBack", spec := "longBack", inPlace := ["internal/bytealg.IndexByteString", "internal/bytealg.IndexString", "internal/abi.NoEscape"], unfollowed := true, recurses := true, named := ["internal/bytealg.MaxLen"], apart := false }
def LongBackSaid : Prop := longBackRow.holds Try.pinned (OpenSpec.ofChange longBackSpec)

/-- ITS FALSE NEIGHBOUR: 'it returns false'. Refute it at one input. -/
def longBackWrong : ChangeSpec := { name := "longBack", fn := fun _ => fun
  | [d1, d2] => { results := [.lit (.bool false)], args := [d1, d2] }
  | _ => none }
def LongBackWrongFalsely : Prop := longBackRow.holds Try.pinned (OpenSpec.ofChange longBackWrong)

/-- 'reelkeeperlaw05.LongNames': WHATEVER THE INPUT: true; the input reads as it did. -/
def longNamesSpec : ChangeSpec := { name := "longNames", fn := fun _ => fun
  | [d] => { results := [.lit (.bool true)], args := [d] }
  | _ => none }
def longNamesRow : OpenClaim := { program := "ytleoiejkipobbaa", sum := "9e92477506ca5dbf38fd417d1759dc3ebc3de6a7cd757d2bfdb202b1357784cf", func := "reelkeeper/reelkeeperlaw05.LongNames", spec := "longNames", inPlace := ["internal/bytealg.IndexByteString", "internal/bytealg.IndexString"], unfollowed := true, recurses := true, named := ["internal/bytealg.MaxLen"], apart := false }
def LongNamesSaid : Prop := longNamesRow.holds Try.pinned (OpenSpec.ofChange longNamesSpec)

/-- ITS FALSE NEIGHBOUR: 'it returns false'. Refute it at one input. -/
def longNamesWrong : ChangeSpec := { name := "longNames", fn := fun _ => fun
  | [d] => { results := [.lit (.bool false)], args := [d] }
  | _ => none }
def LongNamesWrongFalsely : Prop := longNamesRow.holds Try.pinned (OpenSpec.ofChange longNamesWrong)

/-- 'reelkeeperlaw05.LongAhead': WHATEVER THE INPUT: true; the input reads as it did. -/
def longAheadSpec : ChangeSpec := { name := "longAhead", fn := fun _ => fun
  | [d] => { results := [.lit (.bool true)], args := [d] }
  | _ => none }
def longAheadRow : OpenClaim := { program := "ytleoiejkipobbaa", sum := "9e92477506ca5dbf38fd417d1759dc3ebc3de6a7cd757d2bfdb202b1357784cf", func := "reelkeeper/reelkeeperlaw05.LongAhead", spec := "longAhead", inPlace := ["internal/bytealg.IndexByteString", "internal/bytealg.IndexString"], unfollowed := true, recurses := true, named := ["internal/bytealg.MaxLen"], apart := false }
def LongAheadSaid : Prop := longAheadRow.holds Try.pinned (OpenSpec.ofChange longAheadSpec)

/-- ITS FALSE NEIGHBOUR: 'it returns false'. Refute it at one input. -/
def longAheadWrong : ChangeSpec := { name := "longAhead", fn := fun _ => fun
  | [d] => { results := [.lit (.bool false)], args := [d] }
  | _ => none }
def LongAheadWrongFalsely : Prop := longAheadRow.holds Try.pinned (OpenSpec.ofChange longAheadWrong)

/-- 'reelkeeperlaw05.LongSize': WHATEVER THE INPUT: true; the input reads as it did. -/
def longSizeSpec : ChangeSpec := { name := "longSize", fn := fun _ => fun
  | [d1, d2, d3, d4] => { results := [.lit (.bool true)], args := [d1, d2, d3, d4] }
  | _ => none }
def longSizeRow : OpenClaim := { program := "ytleoiejkipobbaa", sum := "9e92477506ca5dbf38fd417d1759dc3ebc3de6a7cd757d2bfdb202b1357784cf", func := "reelkeeper/reelkeeperlaw05.LongSize", spec := "longSize", inPlace := ["internal/bytealg.IndexByteString", "internal/bytealg.IndexString"], unfollowed := true, recurses := true, named := ["internal/bytealg.MaxLen"], apart := false }
def LongSizeSaid : Prop := longSizeRow.holds Try.pinned (OpenSpec.ofChange longSizeSpec)

/-- ITS FALSE NEIGHBOUR: 'it returns false'. Refute it at one input. -/
def longSizeWrong : ChangeSpec := { name := "longSize", fn := fun _ => fun
  | [d1, d2, d3, d4] => { results := [.lit (.bool false)], args := [d1, d2, d3, d4] }
  | _ => none }
def LongSizeWrongFalsely : Prop := longSizeRow.holds Try.pinned (OpenSpec.ofChange longSizeWrong)

/-- 'reelkeeperlaw05.LongNeeds': WHATEVER THE INPUT: true; the input reads as it did. -/
def longNeedsSpec : ChangeSpec := { name := "longNeeds", fn := fun _ => fun
  | [d1, d2] => { results := [.lit (.bool true)], args := [d1, d2] }
  | _ => none }
def longNeedsRow : OpenClaim := { program := "ytleoiejkipobbaa", sum := "9e92477506ca5dbf38fd417d1759dc3ebc3de6a7cd757d2bfdb202b1357784cf", func := "reelkeeper/reelkeeperlaw05.LongNeeds", spec := "longNeeds", inPlace := ["internal/bytealg.IndexByteString", "internal/bytealg.IndexString"], unfollowed := true, recurses := true, named := ["internal/bytealg.MaxLen"], apart := false }
def LongNeedsSaid : Prop := longNeedsRow.holds Try.pinned (OpenSpec.ofChange longNeedsSpec)

/-- ITS FALSE NEIGHBOUR: 'it returns false'. Refute it at one input. -/
def longNeedsWrong : ChangeSpec := { name := "longNeeds", fn := fun _ => fun
  | [d1, d2] => { results := [.lit (.bool false)], args := [d1, d2] }
  | _ => none }
def LongNeedsWrongFalsely : Prop := longNeedsRow.holds Try.pinned (OpenSpec.ofChange longNeedsWrong)

/-- 'reelkeeperlaw05.LongKinds': WHATEVER THE INPUT: true; the input reads as it did. -/
def longKindsSpec : ChangeSpec := { name := "longKinds", fn := fun _ => fun
  | [d1, d2] => { results := [.lit (.bool true)], args := [d1, d2] }
  | _ => none }
def longKindsRow : OpenClaim := { program := "ytleoiejkipobbaa", sum := "9e92477506ca5dbf38fd417d1759dc3ebc3de6a7cd757d2bfdb202b1357784cf", func := "reelkeeper/reelkeeperlaw05.LongKinds", spec := "longKinds", inPlace := ["internal/bytealg.IndexByteString", "internal/bytealg.IndexString"], unfollowed := true, recurses := true, named := ["internal/bytealg.MaxLen"], apart := false }
def LongKindsSaid : Prop := longKindsRow.holds Try.pinned (OpenSpec.ofChange longKindsSpec)

/-- ITS FALSE NEIGHBOUR: 'it returns false'. Refute it at one input. -/
def longKindsWrong : ChangeSpec := { name := "longKinds", fn := fun _ => fun
  | [d1, d2] => { results := [.lit (.bool false)], args := [d1, d2] }
  | _ => none }
def LongKindsWrongFalsely : Prop := longKindsRow.holds Try.pinned (OpenSpec.ofChange longKindsWrong)

/- THE SECOND FORM. 'bulk': how many values and letters a reading holds, each counted each time it is reached (what is shared counts as often as it is met; a slice's spare places count too). A statement '..UptoSaid' is the law's where the arguments, and the package variables that the reading takes, are together of bulk at most 1048576: NARROWER than '..Said'. Prove '..Said' where nothing that the law and all that it calls make is longer than what came in: it says more and counts as full. Else prove '..UptoSaid'. A law counts once. -/
mutual
def uptoBulk {H : Type} : DataW H → Nat
  | .lit (.string bytes) => bytes.length + 1
  | .lit _ => 1
  | .nil => 1
  | .ptr d => uptoBulk d + 1
  | .slice elems spare => uptoBulkAll elems + uptoBulkAll spare + 1
  | .agg parts => uptoBulkAll parts + 1
  | .iface _ d => uptoBulk d + 1
  | .map entries => uptoBulkEntries entries + 1
  | .held _ => 1
def uptoBulkAll {H : Type} : List (DataW H) → Nat
  | [] => 0
  | d :: r => uptoBulk d + uptoBulkAll r
def uptoBulkEntries {H : Type} : List (Lit × DataW H) → Nat
  | [] => 0
  | x :: r => uptoBulkEntry x + uptoBulkEntries r
def uptoBulkEntry {H : Type} : Lit × DataW H → Nat
  | (.string bytes, d) => bytes.length + uptoBulk d + 1
  | (_, d) => uptoBulk d + 1
 end
def uptoSmall : (H : Type) → List (DataW H) → Bool := fun _ ds => decide (uptoBulkAll ds ≤ 1048576)
def OpenSpec.upto (s : _root_.Go.ChangeSpec) : _root_.Go.OpenSpec := { _root_.Go.OpenSpec.ofChange s with cond := some uptoSmall }

/-- 'reelkeeperlaw04.HeadTells', WHERE WHAT IT READS IS OF BULK AT MOST 1048576: true; the input reads as it did. -/
def headTellsUptoRow : OpenClaim := { program := "ytleoiejkipobbaa", sum := "9e92477506ca5dbf38fd417d1759dc3ebc3de6a7cd757d2bfdb202b1357784cf", func := "reelkeeper/reelkeeperlaw04.HeadTells", spec := "headTells", inPlace := ["internal/bytealg.IndexByteString", "internal/bytealg.IndexString"], unfollowed := true, recurses := true, named := ["internal/bytealg.MaxLen"], apart := false, narrowed := true }
def HeadTellsUptoSaid : Prop := headTellsUptoRow.holds Try.pinned (OpenSpec.upto headTellsSpec)

/-- 'reelkeeperlaw05.LongTells', WHERE WHAT IT READS IS OF BULK AT MOST 1048576: true; the input reads as it did. -/
def longTellsUptoRow : OpenClaim := { program := "ytleoiejkipobbaa", sum := "9e92477506ca5dbf38fd417d1759dc3ebc3de6a7cd757d2bfdb202b1357784cf", func := "reelkeeper/reelkeeperlaw05.LongTells", spec := "longTells", inPlace := ["internal/bytealg.IndexByteString", "internal/bytealg.IndexString"], unfollowed := true, recurses := true, named := ["internal/bytealg.MaxLen"], apart := false, narrowed := true }
def LongTellsUptoSaid : Prop := longTellsUptoRow.holds Try.pinned (OpenSpec.upto longTellsSpec)

/-- 'reelkeeperlaw05.LongBack', WHERE WHAT IT READS IS OF BULK AT MOST 1048576: true; the input reads as it did. -/
def longBackUptoRow : OpenClaim := { program := "ytleoiejkipobbaa", sum := "9e92477506ca5dbf38fd417d1759dc3ebc3de6a7cd757d2bfdb202b1357784cf", func := "reelkeeper/reelkeeperlaw05.LongBack", spec := "longBack", inPlace := ["internal/bytealg.IndexByteString", "internal/bytealg.IndexString", "internal/abi.NoEscape"], unfollowed := true, recurses := true, named := ["internal/bytealg.MaxLen"], apart := false, narrowed := true }
def LongBackUptoSaid : Prop := longBackUptoRow.holds Try.pinned (OpenSpec.upto longBackSpec)

/-- 'reelkeeperlaw05.LongNames', WHERE WHAT IT READS IS OF BULK AT MOST 1048576: true; the input reads as it did. -/
def longNamesUptoRow : OpenClaim := { program := "ytleoiejkipobbaa", sum := "9e92477506ca5dbf38fd417d1759dc3ebc3de6a7cd757d2bfdb202b1357784cf", func := "reelkeeper/reelkeeperlaw05.LongNames", spec := "longNames", inPlace := ["internal/bytealg.IndexByteString", "internal/bytealg.IndexString"], unfollowed := true, recurses := true, named := ["internal/bytealg.MaxLen"], apart := false, narrowed := true }
def LongNamesUptoSaid : Prop := longNamesUptoRow.holds Try.pinned (OpenSpec.upto longNamesSpec)

/-- 'reelkeeperlaw05.LongAhead', WHERE WHAT IT READS IS OF BULK AT MOST 1048576: true; the input reads as it did. -/
def longAheadUptoRow : OpenClaim := { program := "ytleoiejkipobbaa", sum := "9e92477506ca5dbf38fd417d1759dc3ebc3de6a7cd757d2bfdb202b1357784cf", func := "reelkeeper/reelkeeperlaw05.LongAhead", spec := "longAhead", inPlace := ["internal/bytealg.IndexByteString", "internal/bytealg.IndexString"], unfollowed := true, recurses := true, named := ["internal/bytealg.MaxLen"], apart := false, narrowed := true }
def LongAheadUptoSaid : Prop := longAheadUptoRow.holds Try.pinned (OpenSpec.upto longAheadSpec)

/-- 'reelkeeperlaw05.LongSize', WHERE WHAT IT READS IS OF BULK AT MOST 1048576: true; the input reads as it did. -/
def longSizeUptoRow : OpenClaim := { program := "ytleoiejkipobbaa", sum := "9e92477506ca5dbf38fd417d1759dc3ebc3de6a7cd757d2bfdb202b1357784cf", func := "reelkeeper/reelkeeperlaw05.LongSize", spec := "longSize", inPlace := ["internal/bytealg.IndexByteString", "internal/bytealg.IndexString"], unfollowed := true, recurses := true, named := ["internal/bytealg.MaxLen"], apart := false, narrowed := true }
def LongSizeUptoSaid : Prop := longSizeUptoRow.holds Try.pinned (OpenSpec.upto longSizeSpec)

/-- 'reelkeeperlaw05.LongNeeds', WHERE WHAT IT READS IS OF BULK AT MOST 1048576: true; the input reads as it did. -/
def longNeedsUptoRow : OpenClaim := { program := "ytleoiejkipobbaa", sum := "9e92477506ca5dbf38fd417d1759dc3ebc3de6a7cd757d2bfdb202b1357784cf", func := "reelkeeper/reelkeeperlaw05.LongNeeds", spec := "longNeeds", inPlace := ["internal/bytealg.IndexByteString", "internal/bytealg.IndexString"], unfollowed := true, recurses := true, named := ["internal/bytealg.MaxLen"], apart := false, narrowed := true }
def LongNeedsUptoSaid : Prop := longNeedsUptoRow.holds Try.pinned (OpenSpec.upto longNeedsSpec)

/-- 'reelkeeperlaw05.LongKinds', WHERE WHAT IT READS IS OF BULK AT MOST 1048576: true; the input reads as it did. -/
def longKindsUptoRow : OpenClaim := { program := "ytleoiejkipobbaa", sum := "9e92477506ca5dbf38fd417d1759dc3ebc3de6a7cd757d2bfdb202b1357784cf", func := "reelkeeper/reelkeeperlaw05.LongKinds", spec := "longKinds", inPlace := ["internal/bytealg.IndexByteString", "internal/bytealg.IndexString"], unfollowed := true, recurses := true, named := ["internal/bytealg.MaxLen"], apart := false, narrowed := true }
def LongKindsUptoSaid : Prop := longKindsUptoRow.holds Try.pinned (OpenSpec.upto longKindsSpec)

end Rows
end Go.Proofs.Ytleoiejkipobbaa
