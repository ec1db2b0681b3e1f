/-
  The walks of package block's statements over any strings: no statement is proved here.
-/
import Derived.Test.YtfjkikodljdbeaaBlockLaws2
import Derived.Test.YtfjkikodljdbeaaBlockLaws3
import Derived.Test.YtfjkikodljdbeaaBlockTellsW
namespace Go.Proofs.Ytfjkikodljdbeaa.Block
open Go.RowKit Go.Shelf Go.Proofs.Ytfjkikodljdbeaa.Base Go.Proofs.Ytfjkikodljdbeaa.BlockM Go.Proofs.Ytfjkikodljdbeaa.Str

theorem back_full (s : ByteArray) (i : Int) (w : World) (hs : s.size ≤ maxLen) (hi : i < 9223372036854775808) (hi' : -9223372036854775808 ≤ i) :
    Calls Try.prog 4 #[.string s, .int .i64 i] w fun e w' => e = .returned (.bool true) ∧ Below w.heap.size w w' := by
  obtain ⟨s, rfl, hs⟩ := str_form s hs
  exact back_walk s i w hs hi hi'
theorem apart_full (a b : ByteArray) (n : Int) (w : World) (ha : a.size ≤ maxLen) (hb : b.size ≤ maxLen) :
    Calls Try.prog 9 #[.string a, .string b, .int .i64 n] w fun e w' => e = .returned (.bool true) ∧ Below w.heap.size w w' := by
  obtain ⟨a, rfl, ha⟩ := str_form a ha
  obtain ⟨b, rfl, hb⟩ := str_form b hb
  exact apart_walk a b n w ha hb
theorem join_full (a b : ByteArray) (w : World) (ha : a.size ≤ maxLen) (hb : b.size ≤ maxLen) :
    Calls Try.prog 8 #[.string a, .string b] w fun e w' => e = .returned (.bool true) ∧ Below w.heap.size w w' := by
  obtain ⟨a, rfl, ha⟩ := str_form a ha
  obtain ⟨b, rfl, hb⟩ := str_form b hb
  exact join_walk a b w ha hb
theorem tells_full (ls ks : List L) (s : ByteArray) (n : Int) (A B : Option Addr) (c d : Nat) (w : World) (ha : RdL w A c ls) (hb : RdL w B d ks) (hl : ls.length < 9223372036854775808) (hk : ks.length < 9223372036854775808)
    (hls : ∀ l ∈ ls, l.length < 9223372036854775808) (hks : ∀ l ∈ ks, l.length < 9223372036854775808) (hs : s.size ≤ maxLen) (hn : n < 9223372036854775808) (hn' : -9223372036854775808 ≤ n) :
    Calls Try.prog 3 #[.slice A ls.length c, .slice B ks.length d, .string s, .int .i64 n] w fun e w' => e = .returned (.bool true) ∧ Below w.heap.size w w' := by
  obtain ⟨s, rfl, hs⟩ := str_form s hs
  exact tells_walk ls ks s n A B c d w ha hb hl hk hls hks hs hn hn'
end Go.Proofs.Ytfjkikodljdbeaa.Block
