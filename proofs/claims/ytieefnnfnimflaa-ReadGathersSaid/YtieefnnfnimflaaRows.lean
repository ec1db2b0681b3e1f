/-
  No cell of these rows narrows 'for every input' (looked for: loops, veiled, ifaces, maps, wideKeys, modest, calm, conditions, laid).
  DERIVED. THE GIVEN ROWS OF THIS SEAT. 4 by the template 'for every input the law returns true; each argument reads behind the call as it read before'; 0 by the template 'total and deterministic' (their statements: YtieefnnfnimflaaTotals.lean).
  GIVEN WITH THE SEED: the statements are not yours to turn. If you find one false, say at which input.
  Laid BY PROGRAM, IN A SANDBOX (cutbox-rows.mjs): the forced cells as the released guide's own fill.sh prints them over the translation 948cc1e7f8378657… (all of the seat's roots in one cut). By AI agents, Wed Nov 11 2026. No macro, syntax, notation, axiom, sorry.
-/
import Derived.Test.YtieefnnfnimflaaChecked
import GoSem.Claim
import GoSem.ClaimJoined
import GoSem.ClaimMapViews
import Derived.JoinedTies
import Derived.KernelRfl
namespace Go.Proofs.Ytieefnnfnimflaa
/- THE CELL 'sum', in the pinned program and in every row, IS THE sha256 OF THE DUMP (.gsa) THAT YtieefnnfnimflaaProg.lean LOADS. Nothing in Lean hashes anything: it is a label: what it is worth is what the hold of that sum in a sandbox is worth. -/
noncomputable def Try.pinned : Pinned := { name := "ytieefnnfnimflaa", sum := "948cc1e7f837865744c34b7573505b2b810e6677fc2f448e4bcc90bfc48f2e82", checked := Try.checked }
namespace Rows
def none {H : Type} : Left H := { results := [], args := [] }

/-- 'reelkeeperlaw09.ParseEnds': WHATEVER THE INPUT: true; the input reads as it did. -/
def parseEndsSpec : ChangeSpec := { name := "parseEnds", fn := fun _ => fun
  | [d1, d2] => { results := [.lit (.bool true)], args := [d1, d2] }
  | _ => none }
def parseEndsRow : OpenClaim := { program := "ytieefnnfnimflaa", sum := "948cc1e7f837865744c34b7573505b2b810e6677fc2f448e4bcc90bfc48f2e82", func := "reelkeeper/reelkeeperlaw09.ParseEnds", spec := "parseEnds", inPlace := ["internal/bytealg.IndexByteString", "internal/bytealg.IndexString"], unfollowed := true, recurses := true, named := ["internal/bytealg.MaxLen"], apart := false }
def ParseEndsSaid : Prop := parseEndsRow.holds Try.pinned (OpenSpec.ofChange parseEndsSpec)

/-- ITS FALSE NEIGHBOUR: 'it returns false'. Refute it at one input. -/
def parseEndsWrong : ChangeSpec := { name := "parseEnds", fn := fun _ => fun
  | [d1, d2] => { results := [.lit (.bool false)], args := [d1, d2] }
  | _ => none }
def ParseEndsWrongFalsely : Prop := parseEndsRow.holds Try.pinned (OpenSpec.ofChange parseEndsWrong)

/-- 'reelkeeperlaw10.ReadSafe': WHATEVER THE INPUT: true; the input reads as it did. -/
def readSafeSpec : ChangeSpec := { name := "readSafe", fn := fun _ => fun
  | [d] => { results := [.lit (.bool true)], args := [d] }
  | _ => none }
def readSafeRow : OpenClaim := { program := "ytieefnnfnimflaa", sum := "948cc1e7f837865744c34b7573505b2b810e6677fc2f448e4bcc90bfc48f2e82", func := "reelkeeper/reelkeeperlaw10.ReadSafe", spec := "readSafe", inPlace := ["internal/bytealg.IndexByteString", "internal/bytealg.IndexString"], unfollowed := true, recurses := true, named := ["internal/bytealg.MaxLen"], apart := false }
def ReadSafeSaid : Prop := readSafeRow.holds Try.pinned (OpenSpec.ofChange readSafeSpec)

/-- ITS FALSE NEIGHBOUR: 'it returns false'. Refute it at one input. -/
def readSafeWrong : ChangeSpec := { name := "readSafe", fn := fun _ => fun
  | [d] => { results := [.lit (.bool false)], args := [d] }
  | _ => none }
def ReadSafeWrongFalsely : Prop := readSafeRow.holds Try.pinned (OpenSpec.ofChange readSafeWrong)

/-- 'reelkeeperlaw10.ReadGoes': WHATEVER THE INPUT: true; the input reads as it did. -/
def readGoesSpec : ChangeSpec := { name := "readGoes", fn := fun _ => fun
  | [d1, d2] => { results := [.lit (.bool true)], args := [d1, d2] }
  | _ => none }
def readGoesRow : OpenClaim := { program := "ytieefnnfnimflaa", sum := "948cc1e7f837865744c34b7573505b2b810e6677fc2f448e4bcc90bfc48f2e82", func := "reelkeeper/reelkeeperlaw10.ReadGoes", spec := "readGoes", inPlace := ["internal/bytealg.IndexByteString", "internal/bytealg.IndexString"], unfollowed := true, recurses := true, named := ["internal/bytealg.MaxLen"], apart := false }
def ReadGoesSaid : Prop := readGoesRow.holds Try.pinned (OpenSpec.ofChange readGoesSpec)

/-- ITS FALSE NEIGHBOUR: 'it returns false'. Refute it at one input. -/
def readGoesWrong : ChangeSpec := { name := "readGoes", fn := fun _ => fun
  | [d1, d2] => { results := [.lit (.bool false)], args := [d1, d2] }
  | _ => none }
def ReadGoesWrongFalsely : Prop := readGoesRow.holds Try.pinned (OpenSpec.ofChange readGoesWrong)

/-- 'reelkeeperlaw10.ReadGathers': WHATEVER THE INPUT: true; the input reads as it did. -/
def readGathersSpec : ChangeSpec := { name := "readGathers", fn := fun _ => fun
  | [d1, d2] => { results := [.lit (.bool true)], args := [d1, d2] }
  | _ => none }
def readGathersRow : OpenClaim := { program := "ytieefnnfnimflaa", sum := "948cc1e7f837865744c34b7573505b2b810e6677fc2f448e4bcc90bfc48f2e82", func := "reelkeeper/reelkeeperlaw10.ReadGathers", spec := "readGathers", inPlace := ["internal/bytealg.IndexByteString", "internal/bytealg.IndexString"], unfollowed := true, recurses := true, named := ["internal/bytealg.MaxLen"], apart := false }
def ReadGathersSaid : Prop := readGathersRow.holds Try.pinned (OpenSpec.ofChange readGathersSpec)

/-- ITS FALSE NEIGHBOUR: 'it returns false'. Refute it at one input. -/
def readGathersWrong : ChangeSpec := { name := "readGathers", fn := fun _ => fun
  | [d1, d2] => { results := [.lit (.bool false)], args := [d1, d2] }
  | _ => none }
def ReadGathersWrongFalsely : Prop := readGathersRow.holds Try.pinned (OpenSpec.ofChange readGathersWrong)

/- THE SECOND FORM. 'bulk': how many values and letters a reading holds, each counted each time it is reached (what is shared counts as often as it is met; a slice's spare places count too). A statement '..UptoSaid' is the law's where the arguments, and the package variables that the reading takes, are together of bulk at most 1048576: NARROWER than '..Said'. Prove '..Said' where nothing that the law and all that it calls make is longer than what came in: it says more and counts as full. Else prove '..UptoSaid'. A law counts once. -/
mutual
def uptoBulk {H : Type} : DataW H → Nat
  | .lit (.string bytes) => bytes.length + 1
  | .lit _ => 1
  | .nil => 1
  | .ptr d => uptoBulk d + 1
  | .slice elems spare => uptoBulkAll elems + uptoBulkAll spare + 1
  | .agg parts => uptoBulkAll parts + 1
  | .iface _ d => uptoBulk d + 1
  | .map entries => uptoBulkEntries entries + 1
  | .held _ => 1
def uptoBulkAll {H : Type} : List (DataW H) → Nat
  | [] => 0
  | d :: r => uptoBulk d + uptoBulkAll r
def uptoBulkEntries {H : Type} : List (Lit × DataW H) → Nat
  | [] => 0
  | x :: r => uptoBulkEntry x + uptoBulkEntries r
def uptoBulkEntry {H : Type} : Lit × DataW H → Nat
  | (.string bytes, d) => bytes.length + uptoBulk d + 1
  | (_, d) => uptoBulk d + 1
 end
def uptoSmall : (H : Type) → List (DataW H) → Bool := fun _ ds => decide (uptoBulkAll ds ≤ 1048576)
def OpenSpec.upto (s : _root_.Go.ChangeSpec) : _root_.Go.OpenSpec := { _root_.Go.OpenSpec.ofChange s with cond := some uptoSmall }

/-- 'reelkeeperlaw09.ParseEnds', WHERE WHAT IT READS IS OF BULK AT MOST 1048576: true; the input reads as it did. -/
def parseEndsUptoRow : OpenClaim := { program := "ytieefnnfnimflaa", sum := "948cc1e7f837865744c34b7573505b2b810e6677fc2f448e4bcc90bfc48f2e82", func := "reelkeeper/reelkeeperlaw09.ParseEnds", spec := "parseEnds", inPlace := ["internal/bytealg.IndexByteString", "internal/bytealg.IndexString"], unfollowed := true, recurses := true, named := ["internal/bytealg.MaxLen"], apart := false, narrowed := true }
def ParseEndsUptoSaid : Prop := parseEndsUptoRow.holds Try.pinned (OpenSpec.upto parseEndsSpec)

/-- 'reelkeeperlaw10.ReadSafe', WHERE WHAT IT READS IS OF BULK AT MOST 1048576: true; the input reads as it did. -/
def readSafeUptoRow : OpenClaim := { program := "ytieefnnfnimflaa", sum := "948cc1e7f837865744c34b7573505b2b810e6677fc2f448e4bcc90bfc48f2e82", func := "reelkeeper/reelkeeperlaw10.ReadSafe", spec := "readSafe", inPlace := ["internal/bytealg.IndexByteString", "internal/bytealg.IndexString"], unfollowed := true, recurses := true, named := ["internal/bytealg.MaxLen"], apart := false, narrowed := true }
def ReadSafeUptoSaid : Prop := readSafeUptoRow.holds Try.pinned (OpenSpec.upto readSafeSpec)

/-- 'reelkeeperlaw10.ReadGoes', WHERE WHAT IT READS IS OF BULK AT MOST 1048576: true; the input reads as it did. -/
def readGoesUptoRow : OpenClaim := { program := "ytieefnnfnimflaa", sum := "948cc1e7f837865744c34b7573505b2b810e6677fc2f448e4bcc90bfc48f2e82", func := "reelkeeper/reelkeeperlaw10.ReadGoes", spec := "readGoes", inPlace := ["internal/bytealg.IndexByteString", "internal/bytealg.IndexString"], unfollowed := true, recurses := true, named := ["internal/bytealg.MaxLen"], apart := false, narrowed := true }
def ReadGoesUptoSaid : Prop := readGoesUptoRow.holds Try.pinned (OpenSpec.upto readGoesSpec)

/-- 'reelkeeperlaw10.ReadGathers', WHERE WHAT IT READS IS OF BULK AT MOST 1048576: true; the input reads as it did. -/
def readGathersUptoRow : OpenClaim := { program := "ytieefnnfnimflaa", sum := "948cc1e7f837865744c34b7573505b2b810e6677fc2f448e4bcc90bfc48f2e82", func := "reelkeeper/reelkeeperlaw10.ReadGathers", spec := "readGathers", inPlace := ["internal/bytealg.IndexByteString", "internal/bytealg.IndexString"], unfollowed := true, recurses := true, named := ["internal/bytealg.MaxLen"], apart := false, narrowed := true }
def ReadGathersUptoSaid : Prop := readGathersUptoRow.holds Try.pinned (OpenSpec.upto readGathersSpec)

end Rows
end Go.Proofs.Ytieefnnfnimflaa
