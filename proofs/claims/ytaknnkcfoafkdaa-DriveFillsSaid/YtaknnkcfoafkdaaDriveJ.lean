/-
  Package drive's memory: rows that keep clear of all blocks but those of S; a shelf in a block of its own; no statement is proved here.
-/
import Derived.Test.YtaknnkcfoafkdaaDriveI
import Derived.Test.YtaknnkcfoafkdaaTapeK
import Derived.Test.YtaknnkcfoafkdaaDriveRef4
namespace Go.Proofs.Ytaknnkcfoafkdaa.Drive
open Go.RowKit Go.Proofs.Ytaknnkcfoafkdaa.Str Go.Proofs.Ytaknnkcfoafkdaa.Base Go.Proofs.Ytaknnkcfoafkdaa.BlockM Go.Proofs.Ytaknnkcfoafkdaa.RecM Go.Proofs.Ytaknnkcfoafkdaa.TapeM Go.Proofs.Ytaknnkcfoafkdaa.Tape Go.Proofs.Ytaknnkcfoafkdaa.DriveM

/-- Rows that stay as they are, as long as the blocks of S are as they were. -/
def InS (S : Nat → Prop) (w : World) (A : Option Addr) (k : Nat) (ls : List L) : Prop := ∀ w', Abv S w w' → RdL w' A k ls
def InB (S : Nat → Prop) (w : World) (A : Option Addr) (k : Nat) (xs : List Value) : Prop := ∀ w', Abv S w w' → RdA w' A k xs
section
variable {S S' : Nat → Prop} {w w' w2 : World} {A : Option Addr} {k : Nat} {ls : List L} {xs : List Value}
theorem Abv.less (h : Abv S' w w') (hl : ∀ b, b < w.heap.size → S b → S' b) : Abv S w w' := ⟨h.size, fun j hj hlt => h.block j (hl j hlt hj) hlt⟩
theorem InS.rd (h : InS S w A k ls) : RdL w A k ls := h w (Abv.refl w)
theorem InS.abv (h : InS S w A k ls) (ha : Abv S w w') : InS S w' A k ls := fun w2 h2 => h w2 (Abv.trans ha h2)
theorem InS.keep (h : InS S w A k ls) (hs : Stp w w') : InS S w' A k ls := h.abv (Abv.of_stp hs)
theorem InS.less (h : InS S w A k ls) (hl : ∀ b, b < w.heap.size → S b → S' b) : InS S' w A k ls := fun w2 h2 => h w2 (Abv.less h2 hl)
theorem InS.clear (h : InS S w A k ls) {g : Nat} (hg : ¬ S g) : Clear g w A k ls := fun w2 h2 => h w2 (Abv.of_grown h2 hg)
theorem InS.of_rows {n : Nat} (h : FRows w S (.slice A n k) ls) : InS S w A k ls := fun _ h2 => (h.abv h2).rd_n.2
theorem InS.nil : InS S w A k [] := fun w' _ => Entry.rdL_none w' A k
theorem InB.rd (h : InB S w A k xs) : RdA w A k xs := h w (Abv.refl w)
theorem InB.abv (h : InB S w A k xs) (ha : Abv S w w') : InB S w' A k xs := fun w2 h2 => h w2 (Abv.trans ha h2)
theorem InB.keep (h : InB S w A k xs) (hs : Stp w w') : InB S w' A k xs := h.abv (Abv.of_stp hs)
theorem InB.less (h : InB S w A k xs) (hl : ∀ b, b < w.heap.size → S b → S' b) : InB S' w A k xs := fun w2 h2 => h w2 (Abv.less h2 hl)
theorem InB.clear (h : InB S w A k xs) {g : Nat} (hg : ¬ S g) : ClearA g w A k xs := fun w2 h2 => h w2 (Abv.of_grown h2 hg)
theorem put_grown (w : World) (g i : Nat) (u : Value) : w.grownBy (w.setCell ⟨g, i, none⟩ u) (some g) := ⟨rfl, rfl, rfl, by simp [World.setCell], fun j _ hj => Below.heap_setCell _ _ _ _ (fun e => hj (by rw [show j = g from e]))⟩
/-- Bytes that are clear of each other block are in those of S. -/
theorem clear_in {l : L} (h : RdA w A k (bs l)) (hc : ∀ g, g < w.heap.size → ¬ S g → ClearA g w A k (bs l)) : InB S w A k (bs l) := by
  intro w' ha
  obtain ⟨A', cap, e, hcp, hr⟩ := h
  refine ⟨A', cap, e, hcp, fun hn => ?_⟩
  obtain ⟨b, o, e2, hB, hcell⟩ := hr hn
  have hlen : 0 < (bs l).length := List.length_pos_iff.2 hn
  obtain ⟨x, hx⟩ : ∃ x, (bs l)[0]? = some x := ⟨_, List.getElem?_eq_getElem hlen⟩
  have hS : S b := by
    by_cases hS : S b
    · exact hS
    · exfalso
      have h1 := hc b hB hS _ (put_grown w b o (.bool false))
      obtain ⟨b2, o2, e3, hu⟩ := h1.at_ hlen
      have e4 : A = A' := by cases e; rfl
      rw [e3, e2] at e4
      cases e4
      have h2 := hu 0 x hx
      have h3 := hcell 0 x hx
      rw [Nat.add_zero] at h2 h3
      rw [World.cell?_setCell_same _ _ _ h3] at h2
      have hm := List.mem_of_getElem? hx
      simp only [bs, List.mem_map] at hm
      obtain ⟨y, -, rfl⟩ := hm
      cases h2
  refine ⟨b, o, e2, Nat.lt_of_lt_of_le hB ha.size, fun j x hj => ?_⟩
  rw [← hcell j x hj]
  simp only [World.cell?, ha.block b hS hB]
theorem clear_rows (h : RdL w A k ls) (hc : ∀ g, g < w.heap.size → ¬ S g → Clear g w A k ls) : InS S w A k ls := by
  intro w' ha
  obtain ⟨us, h1, h2, h3⟩ := h
  refine ⟨us, h1, ?_, fun j l hj => ?_⟩
  · obtain ⟨A', cap, e, hcp, hr⟩ := h2
    refine ⟨A', cap, e, hcp, fun hn => ?_⟩
    obtain ⟨b, o, e2, hB, hcell⟩ := hr hn
    have hlen : 0 < us.length := List.length_pos_iff.2 hn
    obtain ⟨u, hu⟩ : ∃ u, us[0]? = some u := ⟨_, List.getElem?_eq_getElem hlen⟩
    obtain ⟨l, hl⟩ : ∃ l, ls[0]? = some l := ⟨_, List.getElem?_eq_getElem (by omega)⟩
    have hS : S b := by
      by_cases hS : S b
      · exact hS
      · exfalso
        obtain ⟨b2, o2, A1, c1, e3, hu2, -⟩ := (hc b hB hS _ (put_grown w b o (.bool false))).at_ hl
        have e4 : A = A' := by cases e; rfl
        rw [e3, e2] at e4
        cases e4
        have h3 := hcell 0 u hu
        rw [Nat.add_zero] at h3 hu2
        rw [World.cell?_setCell_same _ _ _ h3] at hu2
        cases hu2
    refine ⟨b, o, e2, Nat.lt_of_lt_of_le hB ha.size, fun j x hj => ?_⟩
    rw [← hcell j x hj]
    simp only [World.cell?, ha.block b hS hB]
  · obtain ⟨u, hu, A2, c2, e, hcp, hr⟩ := h3 j l hj
    refine ⟨u, hu, A2, c2, e, hcp, fun hn => ?_⟩
    obtain ⟨b, o, e2, hB, hcell⟩ := hr hn
    have hlen : 0 < (bs l).length := List.length_pos_iff.2 hn
    obtain ⟨x, hx⟩ : ∃ x, (bs l)[0]? = some x := ⟨_, List.getElem?_eq_getElem hlen⟩
    have hS : S b := by
      by_cases hS : S b
      · exact hS
      · exfalso
        obtain ⟨b2, o2, A1, c1, e3, hu2, hra⟩ := (hc b hB hS _ (put_grown w b o (.bool false))).at_ hj
        obtain ⟨A', cap, e4, -, hr2⟩ := h2
        obtain ⟨b3, o3, e5, -, hc3⟩ := hr2 (by rintro rfl; simp at hu)
        have e6 : A = A' := by cases e4; rfl
        rw [e3, e5] at e6
        cases e6
        have h5 := hc3 j u hu
        have hA : A1 = A2 := by
          by_cases hp : (⟨b, o, none⟩ : Addr) = ⟨b2, o2 + j, none⟩
          · rw [← hp] at hu2 h5
            rw [World.cell?_setCell_same _ _ _ h5] at hu2
            cases hu2
          · rw [World.cell?_setCell_other _ _ _ _ hp, h5, e, bs_length] at hu2
            cases hu2
            rfl
        obtain ⟨b4, o4, e7, hu4⟩ := hra.at_ hlen
        rw [hA, e2] at e7
        cases e7
        have h6 := hu4 0 x hx
        have h7 := hcell 0 x hx
        rw [Nat.add_zero] at h6 h7
        rw [World.cell?_setCell_same _ _ _ h7] at h6
        have hm := List.mem_of_getElem? hx
        simp only [bs, List.mem_map] at hm
        obtain ⟨y, -, rfl⟩ := hm
        cases h6
    refine ⟨b, o, e2, Nat.lt_of_lt_of_le hB ha.size, fun j x hj => ?_⟩
    rw [← hcell j x hj]
    simp only [World.cell?, ha.block b hS hB]
end

/-- The cells of tapes, of whose rows P holds. -/
def Cur (P : Nat → Tp → Option Addr → Nat → Prop) (cur : Array Value) (ts : List Tp) : Prop :=
  ∀ (j : Nat) (t : Tp), ts[j]? = some t → ∃ Aj kj, cur[j * 3]? = some (.int .i64 t.cap) ∧ cur[j * 3 + 1]? = some (.slice Aj t.rows.length kj) ∧ cur[j * 3 + 2]? = some (.bool t.mark) ∧ P j t Aj kj
section
variable {P P' : Nat → Tp → Option Addr → Nat → Prop} {cur : Array Value} {ts : List Tp}
theorem Cur.imp (h : Cur P cur ts) (hp : ∀ j t A k, P j t A k → P' j t A k) : Cur P' cur ts := fun j t hj => by
  obtain ⟨A, k, c0, c1, c2, r⟩ := h j t hj
  exact ⟨A, k, c0, c1, c2, hp j t A k r⟩
/-- One tape stored. -/
theorem Cur.set (h : Cur P cur ts) {t : Tp} {A : Option Addr} {k j0 n : Nat} (hn : t.rows.length = n) (hj0 : j0 < ts.length) (ha : P' j0 t A k) (hp : ∀ j t A k, j ≠ j0 → P j t A k → P' j t A k) :
    Cur P' (((cur.setIfInBounds (j0 * 3) (.int .i64 t.cap)).setIfInBounds (j0 * 3 + 1) (.slice A n k)).setIfInBounds (j0 * 3 + 2) (.bool t.mark)) (ts.set j0 t) := by
  subst hn
  intro j u hj
  by_cases e : j0 = j
  · subst e
    rw [List.getElem?_set_self hj0] at hj
    cases hj
    obtain ⟨t0, ht0⟩ : ∃ t, ts[j0]? = some t := ⟨_, List.getElem?_eq_getElem hj0⟩
    obtain ⟨Aj, kj, c0, c1, c2, -⟩ := h j0 t0 ht0
    have l0 := (Array.getElem?_eq_some_iff.1 c0).1
    have l1 := (Array.getElem?_eq_some_iff.1 c1).1
    have l2 := (Array.getElem?_eq_some_iff.1 c2).1
    refine ⟨A, k, ?_, ?_, ?_, ha⟩
    · simp [l0]
    · simp [l1]
    · simp [l2]
  · rw [List.getElem?_set_ne e] at hj
    obtain ⟨Aj, kj, c0, c1, c2, hr⟩ := h j u hj
    refine ⟨Aj, kj, ?_, ?_, ?_, hp _ _ _ _ (Ne.symm e) hr⟩
    · rw [Array.getElem?_setIfInBounds_ne (by omega), Array.getElem?_setIfInBounds_ne (by omega), Array.getElem?_setIfInBounds_ne (by omega)]; exact c0
    · rw [Array.getElem?_setIfInBounds_ne (by omega), Array.getElem?_setIfInBounds_ne (by omega), Array.getElem?_setIfInBounds_ne (by omega)]; exact c1
    · rw [Array.getElem?_setIfInBounds_ne (by omega), Array.getElem?_setIfInBounds_ne (by omega), Array.getElem?_setIfInBounds_ne (by omega)]; exact c2
/-- The rows of one tape stored. -/
theorem Cur.rows (h : Cur P cur ts) {t : Tp} {A : Option Addr} {k j0 n : Nat} (ht : ts[j0]? = some t) (hn : t.rows.length = n) (ha : P' j0 t A k) (hp : ∀ j t A k, j ≠ j0 → P j t A k → P' j t A k) :
    Cur P' (cur.setIfInBounds (j0 * 3 + 1) (.slice A n k)) ts := by
  subst hn
  intro j u hj
  by_cases e : j0 = j
  · subst e
    rw [ht] at hj
    cases hj
    obtain ⟨Aj, kj, c0, c1, c2, -⟩ := h j0 t ht
    have l1 := (Array.getElem?_eq_some_iff.1 c1).1
    refine ⟨A, k, ?_, ?_, ?_, ha⟩
    · rw [Array.getElem?_setIfInBounds_ne (by omega)]; exact c0
    · simp [l1]
    · rw [Array.getElem?_setIfInBounds_ne (by omega)]; exact c2
  · obtain ⟨Aj, kj, c0, c1, c2, hr⟩ := h j u hj
    refine ⟨Aj, kj, ?_, ?_, ?_, hp _ _ _ _ (Ne.symm e) hr⟩
    · rw [Array.getElem?_setIfInBounds_ne (by omega)]; exact c0
    · rw [Array.getElem?_setIfInBounds_ne (by omega)]; exact c1
    · rw [Array.getElem?_setIfInBounds_ne (by omega)]; exact c2
end
/-- A shelf in block b of its own, whose rows lie in blocks of S. -/
structure Sh (S : Nat → Prop) (w : World) (b k : Nat) (cur : Array Value) (ts : List Tp) : Prop where
  le : ts.length ≤ k
  blk : Blk w b 41 cur
  each : Cur (fun _ t A kk => InS S w A kk t.rows) cur ts
  out : ¬ S b
section
variable {S : Nat → Prop} {w w' : World} {b k : Nat} {cur : Array Value} {ts : List Tp}
theorem Sh.abv (h : Sh S w b k cur ts) (ha : Abv (fun x => S x ∨ x = b) w w') : Sh S w' b k cur ts :=
  ⟨h.le, (ha.block b (.inr rfl) h.blk.lt).trans h.blk, h.each.imp fun _ _ _ _ r => r.abv (Abv.less ha fun _ _ hs => .inl hs), h.out⟩
theorem Sh.keep (h : Sh S w b k cur ts) (hs : Stp w w') : Sh S w' b k cur ts := h.abv (Abv.of_stp hs)
theorem Sh.less {S' : Nat → Prop} (h : Sh S w b k cur ts) (hl : ∀ x, x < w.heap.size → S x → S' x) (ho : ¬ S' b) : Sh S' w b k cur ts :=
  ⟨h.le, h.blk, h.each.imp fun _ _ _ _ r => r.less hl, ho⟩
theorem Sh.rd (h : Sh S w b k cur ts) : RdS w (some ⟨b, 0, none⟩) k ts := by
  refine rdS_blk h.blk h.le (Stp.refl w) fun j t hj => ?_
  obtain ⟨A, kk, c0, c1, c2, r⟩ := h.each j t hj
  exact ⟨A, kk, c0, c1, c2, r.rd⟩
theorem Sh.clear (h : Sh S w b k cur ts) {g : Nat} (hg : ¬ S g) (hb : g ≠ b) : ClearS g w (some ⟨b, 0, none⟩) k ts := fun w2 h2 =>
  (h.abv (Abv.of_grown h2 (by rintro (h | h); exact hg h; exact hb h))).rd
abbrev putT (w : World) (b j : Nat) (c : Int) (A : Option Addr) (n k : Nat) (m : Bool) : World := ((w.setCell ⟨b, j * 3, none⟩ (.int .i64 c)).setCell ⟨b, j * 3 + 1, none⟩ (.slice A n k)).setCell ⟨b, j * 3 + 2, none⟩ (.bool m)
theorem putt_abv {w : World} {b : Nat} (hb : ¬ S b) (j : Nat) (c : Int) (A : Option Addr) (n k : Nat) (m : Bool) : Abv S w (putT w b j c A n k m) :=
  Abv.trans (Abv.put w hb _ _) (Abv.trans (Abv.put _ hb _ _) (Abv.put _ hb _ _))
/-- A tape stored in it. -/
theorem Sh.set (h : Sh S w b k cur ts) {j n : Nat} (hj : j < ts.length) {c : Int} {A : Option Addr} {kk : Nat} {m : Bool} {ls : List L} (hn : ls.length = n) (hr : InS S w A kk ls) :
    Sh S (putT w b j c A n kk m) b k (((cur.setIfInBounds (j * 3) (.int .i64 c)).setIfInBounds (j * 3 + 1) (.slice A n kk)).setIfInBounds (j * 3 + 2) (.bool m)) (ts.set j ⟨c, ls, m⟩) :=
  ⟨by rw [List.length_set]; exact h.le, ((h.blk.put _ _).put _ _).put _ _, h.each.set (t := ⟨c, ls, m⟩) hn hj (hr.abv (putt_abv h.out j c A n kk m)) fun _ _ _ _ _ r => r.abv (putt_abv h.out j c A n kk m), h.out⟩
end
/-- A shelf of the call's own: empty, or in a block of its own from lo on. -/
def Osh (lo : Nat) (w : World) (A : Option Addr) (k : Nat) (ts : List Tp) : Prop := ts = [] ∨ ∃ b cur S, A = some ⟨b, 0, none⟩ ∧ lo ≤ b ∧ (∀ x, S x → lo ≤ x) ∧ Sh S w b k cur ts
section
variable {lo : Nat} {w w' : World} {A : Option Addr} {k : Nat} {ts : List Tp}
theorem Osh.rd (h : Osh lo w A k ts) : RdS w A k ts := by
  rcases h with rfl | ⟨b, cur, S, rfl, -, -, h⟩
  · exact RdS.empty _ _ _
  · exact h.rd
theorem Osh.clear (h : Osh lo w A k ts) {g : Nat} (hg : g < lo) : ClearS g w A k ts := by
  rcases h with rfl | ⟨b, cur, S, rfl, hb, hS, h⟩
  · exact fun w2 _ => RdS.empty _ _ _
  · exact h.clear (fun hs => by have := hS g hs; omega) (by omega)
theorem Osh.keep (h : Osh lo w A k ts) (hs : Stp w w') : Osh lo w' A k ts := by
  rcases h with rfl | ⟨b, cur, S, rfl, hb, hS, h⟩
  · exact .inl rfl
  · exact .inr ⟨b, cur, S, rfl, hb, hS, h.keep hs⟩
end
end Go.Proofs.Ytaknnkcfoafkdaa.Drive
