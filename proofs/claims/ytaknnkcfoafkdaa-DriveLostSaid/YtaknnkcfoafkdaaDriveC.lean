/-
  What lies at one place of a shelf: no statement is proved here.
-/
import Derived.Test.YtaknnkcfoafkdaaDriveP
namespace Go.Proofs.Ytaknnkcfoafkdaa.Drive
open Go.RowKit Go.Proofs.Ytaknnkcfoafkdaa.Str Go.Proofs.Ytaknnkcfoafkdaa.Base Go.Proofs.Ytaknnkcfoafkdaa.BlockM Go.Proofs.Ytaknnkcfoafkdaa.RecM Go.Proofs.Ytaknnkcfoafkdaa.TapeM Go.Proofs.Ytaknnkcfoafkdaa.Tape Go.Proofs.Ytaknnkcfoafkdaa.DriveM

/-- The tape at place j of a shelf that begins at offset o of block b. -/
structure TpAt (w : World) (b o j : Nat) (c : Int) (A : Option Addr) (n k : Nat) (m : Bool) (ls : List L) : Prop where
  lt : b < w.heap.size
  c0 : w.cell? ⟨b, o + j * 3, none⟩ = some (.int .i64 c)
  c1 : w.cell? ⟨b, o + j * 3 + 1, none⟩ = some (.slice A n k)
  c2 : w.cell? ⟨b, o + j * 3 + 2, none⟩ = some (.bool m)
  rd : RdL w A k ls
theorem TpAt.keep {w w' : World} {b o j : Nat} {c : Int} {A : Option Addr} {n k : Nat} {m : Bool} {ls : List L} (h : TpAt w b o j c A n k m ls) (hs : Stp w w') : TpAt w' b o j c A n k m ls :=
  ⟨Nat.lt_of_lt_of_le h.lt hs.size, (hs.cell (p := ⟨b, o + j * 3, none⟩) h.lt).trans h.c0, (hs.cell (p := ⟨b, o + j * 3 + 1, none⟩) h.lt).trans h.c1, (hs.cell (p := ⟨b, o + j * 3 + 2, none⟩) h.lt).trans h.c2, h.rd.keep hs⟩
theorem tp_at {w : World} {A : Option Addr} {cap : Nat} {ts : List Tp} (h : RdS w A cap ts) {j : Nat} {t : Tp} (hj : ts[j]? = some t) {n : Nat} (hn : t.rows.length = n) :
    ∃ b o Aj kj, A = some ⟨b, o, none⟩ ∧ TpAt w b o j t.cap Aj n kj t.mark t.rows := by
  subst hn
  obtain ⟨b, o, e, hb, hc⟩ := h.2 (by rintro rfl; simp at hj)
  obtain ⟨Aj, kj, h1, h2, h3, h4⟩ := hc j t hj
  exact ⟨b, o, Aj, kj, e, hb, h1, h2, h3, h4⟩
end Go.Proofs.Ytaknnkcfoafkdaa.Drive
