/-
  Package tape's contracts, as the laws want them, and the statements' awake: no statement is proved here.
-/
import Derived.Test.YtaknnkcfoafkdaaBase
import Derived.Test.YtaknnkcfoafkdaaTapeF
import Derived.Test.YtaknnkcfoafkdaaRecFew
import Derived.Test.YtaknnkcfoafkdaaNode
import Derived.Deep.RegionWith
import Derived.Deep.RegionLaw
namespace Go.Proofs.Ytaknnkcfoafkdaa.Tape
open Go.RowKit Go.Proofs.Ytaknnkcfoafkdaa.Str Go.Proofs.Ytaknnkcfoafkdaa.Base Go.Proofs.Ytaknnkcfoafkdaa.BlockM Go.Proofs.Ytaknnkcfoafkdaa.RecM Go.Proofs.Ytaknnkcfoafkdaa.TapeM

/-- A tape as a value, its rows at A. -/
abbrev tc (c : Int) (A : Option Addr) (n k : Nat) (m : Bool) : Value := .agg #[.int .i64 c, .slice A n k, .bool m]
abbrev tcs (c : Int) (A : Option Addr) (n k : Nat) (m : Bool) : Array Value := #[.int .i64 c, .slice A n k, .bool m]
abbrev zcells : Array Value := #[.int .i64 0, .slice none 0 0, .bool false]
theorem tt_all {w : World} {g : Nat} {t : TypeId} {c : Int} {A : Option Addr} {n k : Nat} {m : Bool} (hb : Blk w g t (tcs c A n k m)) :
    (w.cell? ⟨g, 0, none⟩ = some (.int .i64 c) ∧ w.cell? ⟨g, 1, none⟩ = some (.slice A n k) ∧ w.cell? ⟨g, 2, none⟩ = some (.bool m)) ∧ w.frozen? ⟨g, 0, none⟩ = false ∧ w.frozen? ⟨g, 1, none⟩ = false ∧ w.frozen? ⟨g, 2, none⟩ = false :=
  ⟨⟨by rw [hb.cell]; rfl, by rw [hb.cell]; rfl, by rw [hb.cell]; rfl⟩, hb.free 0, hb.free 1, hb.free 2⟩
abbrev fillT (w : World) (g : Nat) (c : Int) (A : Option Addr) (n k : Nat) (m : Bool) : World := ((w.setCell ⟨g, 0, none⟩ (.int .i64 c)).setCell ⟨g, 1, none⟩ (.slice A n k)).setCell ⟨g, 2, none⟩ (.bool m)
theorem fillt_blk {w : World} {g : Nat} {t : TypeId} {c : Int} {A : Option Addr} {n k : Nat} {m : Bool} (c' : Int) (A' : Option Addr) (n' k' : Nat) (m' : Bool) (h : Blk w g t (tcs c A n k m)) : Blk (fillT w g c' A' n' k' m') g t (tcs c' A' n' k' m') := fillC_all (tcs c' A' n' k' m').toList h rfl
theorem fillt_stp {w w1 : World} {g : Nat} (c' : Int) (A' : Option Addr) (n' k' : Nat) (m' : Bool) (h : Stp w w1) (hg : w.heap.size ≤ g) : Stp w (fillT w1 g c' A' n' k' m') := fillC_stp hg (tcs c' A' n' k' m').toList 0 w1 h
/-- Rows that keep clear of block g: whatever is written there. -/
def Clear (g : Nat) (w : World) (A : Option Addr) (k : Nat) (ls : List L) : Prop := ∀ w' : World, w.grownBy w' (some g) → RdL w' A k ls
theorem Clear.rd {g : Nat} {w : World} {A : Option Addr} {k : Nat} {ls : List L} (h : Clear g w A k ls) : RdL w A k ls := h w (World.grownBy.refl w _)
theorem Clear.keep {g : Nat} {w w1 : World} {A : Option Addr} {k : Nat} {ls : List L} (h : Clear g w A k ls) (hs : Stp w w1) : Clear g w1 A k ls :=
  fun w2 h2 => h w2 ⟨h2.os.trans hs.os, h2.tape.trans hs.tape, h2.output.trans hs.output, Nat.le_trans hs.size h2.size, fun j hj hn => (h2.block j (Nat.lt_of_lt_of_le hj hs.size) hn).trans (hs.block j hj)⟩
/-- A block that came behind them. -/
theorem Clear.new {g : Nat} {w w1 : World} {A : Option Addr} {k : Nat} {ls : List L} (h : RdL w A k ls) (hs : Stp w w1) (hg : w.heap.size ≤ g) : Clear g w1 A k ls :=
  fun w2 h2 => h.keep ⟨h2.os.trans hs.os, h2.tape.trans hs.tape, h2.output.trans hs.output, Nat.le_trans hs.size h2.size, fun j hj => (h2.block j (Nat.lt_of_lt_of_le hj hs.size) (by simp; omega)).trans (hs.block j hj)⟩
theorem grown_two {w w1 w2 : World} {r : Option Nat} (h : w.grownBy w1 r) (k : w1.grownBy w2 r) : w.grownBy w2 r :=
  ⟨k.os.trans h.os, k.tape.trans h.tape, k.output.trans h.output, Nat.le_trans h.size k.size, fun j hj hn => (k.block j (Nat.lt_of_lt_of_le hj h.size) hn).trans (h.block j hj hn)⟩
theorem fillt_grown (w : World) (g : Nat) (c : Int) (A : Option Addr) (n k : Nat) (m : Bool) : w.grownBy (fillT w g c A n k m) (some g) := by
  have h : ∀ (X : World) (i : Nat) (v : Value), X.grownBy (X.setCell ⟨g, i, none⟩ v) (some g) := fun X i v => ⟨rfl, rfl, rfl, by simp [World.setCell], fun j _ hj => Below.heap_setCell _ _ _ _ (fun e => hj (by rw [show j = g from e]))⟩
  exact grown_two (h _ _ _) (grown_two (h _ _ _) (h _ _ _))
theorem Clear.fill {g : Nat} {w : World} {A : Option Addr} {k : Nat} {ls : List L} (h : Clear g w A k ls) (c : Int) (A' : Option Addr) (n' k' : Nat) (m : Bool) : Clear g (fillT w g c A' n' k' m) A k ls :=
  fun w2 h2 => h w2 (grown_two (fillt_grown w g c A' n' k' m) h2)
/-- Bytes that keep clear of block g. -/
def ClearA (g : Nat) (w : World) (A : Option Addr) (k : Nat) (xs : List Value) : Prop := ∀ w' : World, w.grownBy w' (some g) → RdA w' A k xs
theorem ClearA.rd {g : Nat} {w : World} {A : Option Addr} {k : Nat} {xs : List Value} (h : ClearA g w A k xs) : RdA w A k xs := h w (World.grownBy.refl w _)
theorem ClearA.keep {g : Nat} {w w1 : World} {A : Option Addr} {k : Nat} {xs : List Value} (h : ClearA g w A k xs) (hs : Stp w w1) : ClearA g w1 A k xs :=
  fun w2 h2 => h w2 ⟨h2.os.trans hs.os, h2.tape.trans hs.tape, h2.output.trans hs.output, Nat.le_trans hs.size h2.size, fun j hj hn => (h2.block j (Nat.lt_of_lt_of_le hj hs.size) hn).trans (hs.block j hj)⟩
theorem ClearA.new {g : Nat} {w w1 : World} {A : Option Addr} {k : Nat} {xs : List Value} (h : RdA w A k xs) (hs : Stp w w1) (hg : w.heap.size ≤ g) : ClearA g w1 A k xs :=
  fun w2 h2 => h.keep ⟨h2.os.trans hs.os, h2.tape.trans hs.tape, h2.output.trans hs.output, Nat.le_trans hs.size h2.size, fun j hj => (h2.block j (Nat.lt_of_lt_of_le hj hs.size) (by simp; omega)).trans (hs.block j hj)⟩
theorem ClearA.fill {g : Nat} {w : World} {A : Option Addr} {k : Nat} {xs : List Value} (h : ClearA g w A k xs) (c : Int) (A' : Option Addr) (n' k' : Nat) (m : Bool) : ClearA g (fillT w g c A' n' k' m) A k xs :=
  fun w2 h2 => h w2 (grown_two (fillt_grown w g c A' n' k' m) h2)
theorem fresh_stp {w w1 : World} (h : w.grownBy w1 none) : Stp w w1 := ⟨h.os, h.tape, h.output, h.size, fun j hj => h.block j hj (by simp)⟩
theorem byte_info1 : (Try.prog.info? 5).map (fun i => (i.zero, i.size, i.bytes)) = some (some (.int .u8 0), 1, 1) := by kernel_rfl

/-- A tape that is small enough to be laid anew. -/
structure FewT (t : Tp) : Prop where
  low : -9223372036854775808 ≤ t.cap
  high : t.cap < 9223372036854775808
  few : t.rows.length ≤ 1000
  each : ∀ l ∈ t.rows, l.length ≤ 100000

/-- 512 bytes 0, and the example's tapes. -/
theorem ex_facts (z : L) (hz : noughts 512 = z) : z.length = 512 ∧ newV 1 = (⟨1, [], false⟩, true) ∧ writeV ⟨1, [], false⟩ z = (⟨1, [z], false⟩, 0) ∧ writeV ⟨1, [z], false⟩ z = (⟨1, [z], false⟩, 8) ∧
    readV ⟨1, [z], false⟩ 0 = (z, 0) ∧ closeV ⟨1, [z], false⟩ = (⟨1, [z], true⟩, 0) ∧ fillV ⟨1, [z], false⟩ [] = (⟨1, [z], false⟩, 0, 0) ∧ mayT ⟨1, [z], false⟩ = true := by
  have h1 : z.length = 512 := by rw [← hz, noughts_length]
  have h2 : mayR z = true := mayR_iff.2 ⟨by omega, by omega, by omega⟩
  have h3 : mayT ⟨1, [], false⟩ = true := mayT_iff.2 ⟨by simp, by simp, by simp, by simp⟩
  have h4 : mayT ⟨1, [z], false⟩ = true := mayT_iff.2 ⟨by simp, by simp, by simp, by simpa using h2⟩
  refine ⟨h1, by rw [newV, if_pos (by omega)], ?_, ?_, ?_, ?_, ?_, h4⟩
  · exact writeV_yes h3 h2 rfl (by simp)
  · rw [writeV, h4, h2, if_neg (by simp), if_pos (.inr (by simp))]
  · exact readV_yes h4 (by omega) (by simp)
  · rw [closeV, h4, if_neg (by simp), if_neg (by simp)]
  · rw [fillV, if_pos h4]
    rfl
theorem small_ex (z : L) (hz : z.length = 512) (m : Bool) : FewT ⟨1, [z], m⟩ := ⟨by simp, by simp, by simp, by simp [hz]⟩
theorem small_ex0 (m : Bool) : FewT ⟨1, [], m⟩ := ⟨by simp, by simp, by simp, by simp⟩
theorem blk_z {W : World} {g : Nat} {z : L} (hz : noughts 512 = z) (h : Blk W g 5 (Array.replicate 512 (.int .u8 0))) : RdA W (some ⟨g, 0, none⟩) 512 (bs z) := by
  subst hz
  have e : ∀ k, (Array.replicate k (Value.int .u8 0)) = (bs (noughts k)).toArray := fun k => by simp [noughts, bs]
  rw [e] at h
  have h2 := (Base.Own.of_blk (lo := 0) h (Nat.zero_le _) (n := 512) (by simp [bs_length, noughts_length]) (by unfold maxLen; omega)).rd
  unfold RdA
  rw [bs_length, noughts_length]
  exact h2
end Go.Proofs.Ytaknnkcfoafkdaa.Tape
