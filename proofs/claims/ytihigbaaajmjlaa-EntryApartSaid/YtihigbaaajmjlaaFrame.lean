/-
  What the frames of the statements' proofs share: a slice of bytes that came in, read as a list: no statement is proved here.
-/
import Derived.Test.YtihigbaaajmjlaaBase
import Derived.WalkKit
import Derived.ProofKit
import Derived.OpenShut
import Derived.ShutString
import Derived.ChangeOld
import Derived.Below
namespace Go.Proofs.Ytihigbaaajmjlaa.Frame
open Go.ChangeShapes Go.WideShapes Go.ChangeAt Go.RowKit Go.Proofs.Ytihigbaaajmjlaa.Base

/-- A slice of bytes that came in reads as a list of bytes. -/
theorem rd_of_ints {w : World} {a : Option Addr} {len cap : Nat}
    (h : (a = none ∧ len = 0 ∧ cap = 0) ∨ ∃ (x : Addr) (zs : List Int), a = some x ∧ len ≤ cap ∧ cap ≤ maxLen ∧ zs.length = cap ∧ (∀ i, i < zs.length → w.cell? (x.add i) = some (.int .u8 (zs.getD i 0))) ∧ ∀ n ∈ zs, (Lit.int .u8 n).wf = true) :
    ∃ l : List UInt8, Rd w w.heap.size (.slice a len cap) (bs l) ∧ l.length < 9223372036854775808 := by
  rcases h with ⟨rfl, rfl, rfl⟩ | ⟨x, zs, rfl, hl, hm, hz, hc, hw⟩
  · exact ⟨[], Rd.nil _ _, by simp⟩
  · have hlen : (bs ((zs.take len).map fun n => UInt8.ofNat n.toNat)).length = len := by
      rw [bs_length, List.length_map, List.length_take]; omega
    refine ⟨(zs.take len).map fun n => UInt8.ofNat n.toNat, ⟨some x, cap, by rw [hlen], by rw [hlen]; exact hl, fun hne => ?_⟩, ?_⟩
    · have hpos : 0 < len := by
        rcases Nat.eq_zero_or_pos len with h0 | h0
        · subst h0; simp at hlen; exact absurd (List.eq_nil_of_length_eq_zero (by simpa using hlen)) hne
        · exact h0
      have h0 := hc 0 (by omega)
      obtain ⟨b, o, s⟩ := x
      have hs : s = none := by simpa [Addr.add] using World.cell?_spot h0
      subst hs
      refine ⟨b, o, rfl, ?_, fun j u hj => ?_⟩
      · have := World.block_lt_of_cell? w _ h0
        simpa [Addr.add] using this
      · have hjl : j < len := by
          have := (List.getElem?_eq_some_iff.1 hj).1
          rwa [hlen] at this
        have hcj := hc j (by omega)
        rw [Addr.add_lit] at hcj
        rw [hcj]
        have hjz : j < zs.length := by omega
        have hb := bounds_u8 (hw zs[j] (List.getElem_mem hjz))
        have e : (bs ((zs.take len).map fun n => UInt8.ofNat n.toNat))[j]? = some (.int .u8 ((UInt8.ofNat (zs[j]).toNat).toNat : Int)) := by
          simp [bs, hjl, hjz]
        rw [e] at hj
        rw [← hj]
        have e2 : ((UInt8.ofNat (zs[j]).toNat).toNat : Int) = zs[j] := by
          rw [UInt8.toNat_ofNat']
          omega
        rw [e2]
        simp [List.getD, hjz]
    · rw [List.length_map, List.length_take]
      unfold maxLen at hm
      omega
end Go.Proofs.Ytihigbaaajmjlaa.Frame
