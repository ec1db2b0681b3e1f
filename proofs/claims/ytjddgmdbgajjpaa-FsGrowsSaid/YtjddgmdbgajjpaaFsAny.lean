/-
  The laws of package fs, for whatever comes in: no statement is proved here.
-/
import Derived.Test.YtjddgmdbgajjpaaFsSafeW
import Derived.Test.YtjddgmdbgajjpaaFsPutsW
import Derived.Test.YtjddgmdbgajjpaaFsOrderW
import Derived.Test.YtjddgmdbgajjpaaFsGrowsW
import Derived.Test.YtjddgmdbgajjpaaFsTreeW
import Derived.Test.YtjddgmdbgajjpaaFsTellsW
import Derived.Test.YtjddgmdbgajjpaaFsAw
namespace Go.Proofs.Ytjddgmdbgajjpaa.Fs
open Go.Sort Go.RowKit Go.Proofs.Ytjddgmdbgajjpaa.Str Go.Proofs.Ytjddgmdbgajjpaa.Base Go.Proofs.Ytjddgmdbgajjpaa.Node Go.Proofs.Ytjddgmdbgajjpaa.Long Go.Proofs.Ytjddgmdbgajjpaa.FsM
set_option linter.unusedVariables false
theorem safe_any (I : FsI) (ns : List Nd) (A : Option Addr) (k : Nat) (hm : ns.length < 9223372036854775808) (hs : ∀ x ∈ ns, SmallN x) (n : Nd) (hn : SmallN n) (w : World) (ha : RdN w A k ns) : Calls Try.prog 5 #[fv A ns.length k, nv n] w fun e w' => e = .returned (.bool true) ∧ Stp w w' :=
  safe_walk I (awake_walk I) ns ns.length rfl hm hs A k n hn w ha
theorem puts_any (I : FsI) (ns : List Nd) (A : Option Addr) (k : Nat) (hm : ns.length < 9223372036854775808) (hs : ∀ x ∈ ns, SmallN x) (n : Nd) (hn : SmallN n) (p : ByteArray) (hp : p.size ≤ maxLen) (w : World) (ha : RdN w A k ns) : Calls Try.prog 4 #[fv A ns.length k, nv n, .string p] w fun e w' => e = .returned (.bool true) ∧ Stp w w' := by
  obtain ⟨p, rfl, hp⟩ := str_form p hp
  exact puts_walk I (awake_walk I) ns ns.length rfl hm hs A k n hn p hp w ha
theorem order_any (I : FsI) (ns : List Nd) (A : Option Addr) (k : Nat) (hm : ns.length < 9223372036854775808) (hs : ∀ x ∈ ns, SmallN x) (n q : Nd) (hn : SmallN n) (hq : SmallN q) (w : World) (ha : RdN w A k ns) : Calls Try.prog 8 #[fv A ns.length k, nv n, nv q] w fun e w' => e = .returned (.bool true) ∧ Stp w w' :=
  order_walk I (awake_walk I) ns ns.length rfl hm hs A k n q hn hq w ha
theorem grows_any (I : FsI) (ns : List Nd) (A : Option Addr) (k : Nat) (hm : ns.length < 9223372036854775808) (hs : ∀ x ∈ ns, SmallN x) (p a b q : ByteArray) (hp : p.size ≤ maxLen) (hpa : a.size ≤ maxLen) (hpb : b.size ≤ maxLen) (hpq : q.size ≤ maxLen) (w : World) (ha : RdN w A k ns) : Calls Try.prog 6 #[fv A ns.length k, .string p, .string a, .string b, .string q] w fun e w' => e = .returned (.bool true) ∧ Stp w w' := by
  obtain ⟨p, rfl, hp⟩ := str_form p hp
  obtain ⟨a, rfl, hpa⟩ := str_form a hpa
  obtain ⟨b, rfl, hpb⟩ := str_form b hpb
  obtain ⟨q, rfl, hpq⟩ := str_form q hpq
  exact grows_walk I (awake_walk I) ns ns.length rfl hm hs A k p a b q hp hpa hpb hpq w ha
theorem tree_any (I : FsI) (t : List Nd) (A : Option Addr) (c : Nat) (hm : t.length < 9223372036854775808) (hs : ∀ x ∈ t, SmallN x) (kk : Int) (w : World) (ha : RdN w A c t) : Calls Try.prog 7 #[.slice A t.length c, .int .i64 kk] w fun e w' => e = .returned (.bool true) ∧ Stp w w' :=
  tree_walk I (awake_walk I) t t.length rfl hm hs A c kk w ha
theorem tells_any (I : FsI) (ns : List Nd) (A : Option Addr) (k : Nat) (hm : ns.length < 9223372036854775808) (hs : ∀ x ∈ ns, SmallN x) (ns2 : List Nd) (A2 : Option Addr) (k2 : Nat) (hm2 : ns2.length < 9223372036854775808) (n : Nd) (hn : SmallN n) (p d : ByteArray) (hp : p.size ≤ maxLen) (hd : d.size ≤ maxLen) (w : World) (ha : RdN w A k ns) (ha2 : RdN w A2 k2 ns2) : Calls Try.prog 3 #[fv A ns.length k, fv A2 ns2.length k2, nv n, .string p, .string d] w fun e w' => e = .returned (.bool true) ∧ Stp w w' := by
  obtain ⟨p, rfl, hp⟩ := str_form p hp
  obtain ⟨d, rfl, hd⟩ := str_form d hd
  exact tells_walk I (awake_walk I) ns ns.length rfl hm hs A k ns2 ns2.length rfl hm2 A2 k2 n hn p hp d hd w ha ha2
end Go.Proofs.Ytjddgmdbgajjpaa.Fs
