/-
  The walks of HeadSpoilt and HeadMay over any header and string: no statement is proved here.
-/
import Derived.Test.YtjbihmbnfkpbpaaHeadLaws2
import Derived.Test.YtjbihmbnfkpbpaaHeadLaws3
namespace Go.Proofs.Ytjbihmbnfkpbpaa.Head
open Go.RowKit Go.Proofs.Ytjbihmbnfkpbpaa.Base Go.Proofs.Ytjbihmbnfkpbpaa.NumM Go.Proofs.Ytjbihmbnfkpbpaa.Num

theorem hmay_s (h : Hd) (hsm : SmallH h) (s : ByteArray) (n : Int) (w : World) (hs : s.size ≤ maxLen) (hn : n < 9223372036854775808) :
    Calls Try.prog 9 #[hv h, .string s, .int .i64 n] w fun e w' => e = .returned (.bool true) ∧ Below w.heap.size w w' := by
  obtain ⟨l, rfl, hl⟩ := Str.str_form s hs
  exact hmay_any h hsm l n w hl hn
end Go.Proofs.Ytjbihmbnfkpbpaa.Head
