/-
  Package drive's contracts, as the laws want them: no statement is proved here.
-/
import Derived.Test.YtaknnkcfoafkdaaDriveF
import Derived.Test.YtaknnkcfoafkdaaRecFew
namespace Go.Proofs.Ytaknnkcfoafkdaa.Drive
open Go.RowKit Go.Proofs.Ytaknnkcfoafkdaa.Str Go.Proofs.Ytaknnkcfoafkdaa.Base Go.Proofs.Ytaknnkcfoafkdaa.BlockM Go.Proofs.Ytaknnkcfoafkdaa.RecM Go.Proofs.Ytaknnkcfoafkdaa.TapeM Go.Proofs.Ytaknnkcfoafkdaa.Tape Go.Proofs.Ytaknnkcfoafkdaa.DriveM

/-- A drive as a value, its shelf at A. -/
abbrev dc (A : Option Addr) (n k : Nat) (i p : Int) : Value := .agg #[.slice A n k, .int .i64 i, .int .i64 p]
abbrev dcs (A : Option Addr) (n k : Nat) (i p : Int) : Array Value := #[.slice A n k, .int .i64 i, .int .i64 p]
theorem dd_all {w : World} {g : Nat} {t : TypeId} {A : Option Addr} {n k : Nat} {i p : Int} (hb : Blk w g t (dcs A n k i p)) :
    (w.cell? ⟨g, 0, none⟩ = some (.slice A n k) ∧ w.cell? ⟨g, 1, none⟩ = some (.int .i64 i) ∧ w.cell? ⟨g, 2, none⟩ = some (.int .i64 p)) ∧ w.frozen? ⟨g, 0, none⟩ = false ∧ w.frozen? ⟨g, 1, none⟩ = false ∧ w.frozen? ⟨g, 2, none⟩ = false :=
  ⟨⟨by rw [hb.cell]; rfl, by rw [hb.cell]; rfl, by rw [hb.cell]; rfl⟩, hb.free 0, hb.free 1, hb.free 2⟩
abbrev fillD (w : World) (g : Nat) (A : Option Addr) (n k : Nat) (i p : Int) : World := ((w.setCell ⟨g, 0, none⟩ (.slice A n k)).setCell ⟨g, 1, none⟩ (.int .i64 i)).setCell ⟨g, 2, none⟩ (.int .i64 p)
theorem filld_blk {w : World} {g : Nat} {t : TypeId} {A : Option Addr} {n k : Nat} {i p : Int} (A' : Option Addr) (n' k' : Nat) (i' p' : Int) (h : Blk w g t (dcs A n k i p)) : Blk (fillD w g A' n' k' i' p') g t (dcs A' n' k' i' p') := fillC_all (dcs A' n' k' i' p').toList h rfl
theorem filld_stp {w w1 : World} {g : Nat} (A' : Option Addr) (n' k' : Nat) (i' p' : Int) (h : Stp w w1) (hg : w.heap.size ≤ g) : Stp w (fillD w1 g A' n' k' i' p') := fillC_stp hg (dcs A' n' k' i' p').toList 0 w1 h
theorem filld_grown (w : World) (g : Nat) (A : Option Addr) (n k : Nat) (i p : Int) : w.grownBy (fillD w g A n k i p) (some g) := by
  have h : ∀ (X : World) (i : Nat) (v : Value), X.grownBy (X.setCell ⟨g, i, none⟩ v) (some g) := fun X i v => ⟨rfl, rfl, rfl, by simp [World.setCell], fun j _ hj => Below.heap_setCell _ _ _ _ (fun e => hj (by rw [show j = g from e]))⟩
  exact grown_two (h _ _ _) (grown_two (h _ _ _) (h _ _ _))
/-- A shelf that keeps clear of block g. -/
def ClearS (g : Nat) (w : World) (A : Option Addr) (k : Nat) (ts : List Tp) : Prop := ∀ w' : World, w.grownBy w' (some g) → RdS w' A k ts
theorem ClearS.rd {g : Nat} {w : World} {A : Option Addr} {k : Nat} {ts : List Tp} (h : ClearS g w A k ts) : RdS w A k ts := h w (World.grownBy.refl w _)
theorem ClearS.keep {g : Nat} {w w1 : World} {A : Option Addr} {k : Nat} {ts : List Tp} (h : ClearS g w A k ts) (hs : Stp w w1) : ClearS g w1 A k ts :=
  fun w2 h2 => h w2 ⟨h2.os.trans hs.os, h2.tape.trans hs.tape, h2.output.trans hs.output, Nat.le_trans hs.size h2.size, fun j hj hn => (h2.block j (Nat.lt_of_lt_of_le hj hs.size) hn).trans (hs.block j hj)⟩
theorem ClearS.new {g : Nat} {w w1 : World} {A : Option Addr} {k : Nat} {ts : List Tp} (h : RdS w A k ts) (hs : Stp w w1) (hg : w.heap.size ≤ g) : ClearS g w1 A k ts :=
  fun w2 h2 => h.keep ⟨h2.os.trans hs.os, h2.tape.trans hs.tape, h2.output.trans hs.output, Nat.le_trans hs.size h2.size, fun j hj => (h2.block j (Nat.lt_of_lt_of_le hj hs.size) (by simp; omega)).trans (hs.block j hj)⟩
theorem ClearS.fill {g : Nat} {w : World} {A : Option Addr} {k : Nat} {ts : List Tp} (h : ClearS g w A k ts) (A' : Option Addr) (n' k' : Nat) (i' p' : Int) : ClearS g (fillD w g A' n' k' i' p') A k ts :=
  fun w2 h2 => h w2 (grown_two (filld_grown w g A' n' k' i' p') h2)
/-- A drive that is small enough to be laid anew. -/
structure FewD (d : Dr) : Prop where
  ilow : -9223372036854775808 ≤ d.inn
  ihigh : d.inn < 9223372036854775808
  plow : -9223372036854775808 ≤ d.pos
  phigh : d.pos < 9223372036854775808
  few : d.shelf.length ≤ 1000
  each : ∀ t ∈ d.shelf, FewT t

structure DriveI : Prop where
  new : ∀ (ts : List Tp) (n : Nat), ts.length = n → n ≤ 1000 → (∀ t ∈ ts, FewT t) → ∀ (ts' : List Tp) (i' p' : Int) (b : Bool) (n' : Nat), newD ts = (⟨ts', i', p'⟩, b) → ts'.length = n' → ∀ (A : Option Addr) (k : Nat) (w : World), RdS w A k ts →
    Calls Try.prog 23 #[.slice A n k] w fun e w' => ∃ A' k', e = .returned (.tuple #[dc A' n' k' i' p', .bool b]) ∧ RdS w' A' k' ts' ∧ Stp w w' ∧ ∀ g, g < w.heap.size → ClearS g w A k ts → ClearS g w' A' k' ts'
  may : ∀ (ts : List Tp) (i p : Int) (n : Nat), FewD ⟨ts, i, p⟩ → ts.length = n → ∀ (b : Bool), mayD ⟨ts, i, p⟩ = b → ∀ (A : Option Addr) (k : Nat) (w : World), RdS w A k ts →
    Calls Try.prog 27 #[dc A n k i p] w fun e w' => e = .returned (.bool b) ∧ Stp w w'
  same : ∀ (ts : List Tp) (i p : Int) (n : Nat), FewD ⟨ts, i, p⟩ → ts.length = n → ∀ (ts' : List Tp) (i' p' : Int) (n' : Nat), FewD ⟨ts', i', p'⟩ → ts'.length = n' →
    ∀ (b : Bool), decide ((⟨ts, i, p⟩ : Dr) = ⟨ts', i', p'⟩) = b → ∀ (A B : Option Addr) (k d : Nat) (w : World), RdS w A k ts → RdS w B d ts' →
    Calls Try.prog 28 #[dc A n k i p, dc B n' d i' p'] w fun e w' => e = .returned (.bool b) ∧ Stp w w'
  mount : ∀ (ts : List Tp) (i p : Int) (n : Nat), FewD ⟨ts, i, p⟩ → ts.length = n → ∀ (q : Int), -9223372036854775808 ≤ q → q < 9223372036854775808 → ∀ (ts' : List Tp) (i' p' : Int) (n' e0 : Nat), mountD ⟨ts, i, p⟩ q = (⟨ts', i', p'⟩, e0) → ts'.length = n' → ∀ ei : Int, (e0 : Int) = ei → ∀ (A : Option Addr) (k : Nat) (w : World), RdS w A k ts → 
    Calls Try.prog 11 #[dc A n k i p, .int .i64 q] w fun e w' => ∃ A' k', e = .returned (.tuple #[dc A' n' k' i' p', .int .i64 ei]) ∧ RdS w' A' k' ts' ∧ Stp w w' ∧ ∀ g, g < w.heap.size → ClearS g w A k ts → ClearS g w' A' k' ts'
  unmount : ∀ (ts : List Tp) (i p : Int) (n : Nat), FewD ⟨ts, i, p⟩ → ts.length = n → ∀ (ts' : List Tp) (i' p' : Int) (n' e0 : Nat), unmountD ⟨ts, i, p⟩ = (⟨ts', i', p'⟩, e0) → ts'.length = n' → ∀ ei : Int, (e0 : Int) = ei → ∀ (A : Option Addr) (k : Nat) (w : World), RdS w A k ts → 
    Calls Try.prog 13 #[dc A n k i p] w fun e w' => ∃ A' k', e = .returned (.tuple #[dc A' n' k' i' p', .int .i64 ei]) ∧ RdS w' A' k' ts' ∧ Stp w w' ∧ ∀ g, g < w.heap.size → ClearS g w A k ts → ClearS g w' A' k' ts'
  rewind : ∀ (ts : List Tp) (i p : Int) (n : Nat), FewD ⟨ts, i, p⟩ → ts.length = n → ∀ (ts' : List Tp) (i' p' : Int) (n' e0 : Nat), rewindD ⟨ts, i, p⟩ = (⟨ts', i', p'⟩, e0) → ts'.length = n' → ∀ ei : Int, (e0 : Int) = ei → ∀ (A : Option Addr) (k : Nat) (w : World), RdS w A k ts → 
    Calls Try.prog 15 #[dc A n k i p] w fun e w' => ∃ A' k', e = .returned (.tuple #[dc A' n' k' i' p', .int .i64 ei]) ∧ RdS w' A' k' ts' ∧ Stp w w' ∧ ∀ g, g < w.heap.size → ClearS g w A k ts → ClearS g w' A' k' ts'
  mark : ∀ (ts : List Tp) (i p : Int) (n : Nat), FewD ⟨ts, i, p⟩ → ts.length = n → ∀ (ts' : List Tp) (i' p' : Int) (n' e0 : Nat), markD ⟨ts, i, p⟩ = (⟨ts', i', p'⟩, e0) → ts'.length = n' → ∀ ei : Int, (e0 : Int) = ei → ∀ (A : Option Addr) (k : Nat) (w : World), RdS w A k ts → 
    Calls Try.prog 19 #[dc A n k i p] w fun e w' => ∃ A' k', e = .returned (.tuple #[dc A' n' k' i' p', .int .i64 ei]) ∧ RdS w' A' k' ts' ∧ Stp w w' ∧ ∀ g, g < w.heap.size → ClearS g w A k ts → ClearS g w' A' k' ts'
  write : ∀ (ts : List Tp) (i p : Int) (n : Nat), FewD ⟨ts, i, p⟩ → ts.length = n → ∀ (r : L) (l : Nat), r.length = l → l ≤ 100000 → ∀ (ts' : List Tp) (i' p' : Int) (n' e0 : Nat), writeD ⟨ts, i, p⟩ r = (⟨ts', i', p'⟩, e0) → ts'.length = n' → ∀ ei : Int, (e0 : Int) = ei → ∀ (A : Option Addr) (k : Nat) (B : Option Addr) (d : Nat) (w : World), RdS w A k ts → RdA w B d (bs r) → 
    Calls Try.prog 17 #[dc A n k i p, .slice B l d] w fun e w' => ∃ A' k', e = .returned (.tuple #[dc A' n' k' i' p', .int .i64 ei]) ∧ RdS w' A' k' ts' ∧ Stp w w' ∧ ∀ g, g < w.heap.size → ClearS g w A k ts → ClearA g w B d (bs r) → ClearS g w' A' k' ts'
  read : ∀ (ts : List Tp) (i p : Int) (n : Nat), FewD ⟨ts, i, p⟩ → ts.length = n → ∀ (ts' : List Tp) (i' p' : Int) (x : L) (n' y e0 : Nat), readD ⟨ts, i, p⟩ = (⟨ts', i', p'⟩, x, e0) → ts'.length = n' → x.length = y → ∀ ei : Int, (e0 : Int) = ei → ∀ (A : Option Addr) (k : Nat) (w : World), RdS w A k ts → 
    Calls Try.prog 21 #[dc A n k i p] w fun e w' => ∃ A' k' B d, e = .returned (.tuple #[dc A' n' k' i' p', .slice B y d, .int .i64 ei]) ∧ RdS w' A' k' ts' ∧ RdA w' B d (bs x) ∧ Stp w w' ∧ ∀ g, g < w.heap.size → ClearS g w A k ts → ClearS g w' A' k' ts' ∧ ClearA g w' B d (bs x)

theorem few_may {d : Dr} (h : mayD d = true) : FewD d := by
  obtain ⟨a1, a2, a3, a4, a5, a6⟩ := mayD_iff.1 h
  refine ⟨by omega, by omega, by omega, ?_, by omega, fun t ht => ?_⟩
  · by_cases h0 : d.inn < 0
    · rw [posB, if_pos h0, decide_eq_true_eq] at a6
      omega
    · obtain ⟨j, p, t, e1, e2, -, -, -, e6, -, -, e9⟩ := mounted h (by omega)
      omega
  · obtain ⟨b1, b2, b3, b4⟩ := mayT_iff.1 (a5 t ht)
    exact ⟨by omega, by omega, by omega, fun l hl => by have := mayR_iff.1 (b4 l hl); omega⟩
end Go.Proofs.Ytaknnkcfoafkdaa.Drive
