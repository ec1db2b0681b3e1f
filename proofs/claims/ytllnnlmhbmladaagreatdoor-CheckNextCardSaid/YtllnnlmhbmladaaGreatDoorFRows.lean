/-
  Bytes and rows that lie from a block on, append of one more, bytes.Clone: no statement is proved here.
-/
import Derived.Test.YtllnnlmhbmladaaGreatDoorBase
namespace Go.Proofs.YtllnnlmhbmladaaGreatDoor.Tape
open Go.RowKit Go.Proofs.YtllnnlmhbmladaaGreatDoor.Str Go.Proofs.YtllnnlmhbmladaaGreatDoor.Base
set_option linter.unusedVariables false

/-- The blocks of S are as they were. -/
structure Abv (S : Nat → Prop) (w w' : World) : Prop where
  size : w.heap.size ≤ w'.heap.size
  block : ∀ j, S j → j < w.heap.size → w'.heap[j]? = w.heap[j]?
section
variable {w w' w2 : World} {S : Nat → Prop}
theorem Abv.of_stp (h : Stp w w') : Abv S w w' := ⟨h.size, fun j _ hj => h.block j hj⟩
theorem Abv.of_grown {g : Nat} (h : w.grownBy w' (some g)) (hg : ¬ S g) : Abv S w w' := ⟨h.size, fun j hl hj => h.block j hj (fun e => by injection e with e; subst e; exact hg hl)⟩
theorem Abv.put (w : World) {g : Nat} (hg : ¬ S g) (i : Nat) (u : Value) : Abv S w (w.setCell ⟨g, i, none⟩ u) :=
  ⟨by simp [World.setCell], fun j hl _ => Below.heap_setCell _ _ _ _ (fun e => hg (by rw [← show j = g from e]; exact hl))⟩
theorem Abv.refl (w : World) : Abv S w w := ⟨Nat.le_refl _, fun _ _ _ => rfl⟩
theorem Abv.trans (h : Abv S w w') (k : Abv S w' w2) : Abv S w w2 := ⟨Nat.le_trans h.size k.size, fun j hl hj => (k.block j hl (Nat.lt_of_lt_of_le hj h.size)).trans (h.block j hl hj)⟩
end
/-- A slice that reads as these bytes, which lie in a block of S. -/
def FrB (w : World) (S : Nat → Prop) (u : Value) (l : List UInt8) : Prop :=
  ∃ A cap, u = .slice A l.length cap ∧ l.length ≤ cap ∧ (bs l ≠ [] → ∃ b o, A = some ⟨b, o, none⟩ ∧ S b ∧ b < w.heap.size ∧ ∀ j x, (bs l)[j]? = some x → w.cell? ⟨b, o + j, none⟩ = some x)
section
variable {w w' : World} {S S' : Nat → Prop} {lo : Nat} {u v : Value} {l : List UInt8} {e : TypeId}
theorem FrB.nil (w : World) (S : Nat → Prop) : FrB w S (.slice none 0 0) [] := ⟨none, 0, rfl, Nat.le_refl _, fun h => absurd rfl h⟩
theorem FrB.rd (h : FrB w S u l) : Rd w w.heap.size u (bs l) := by
  obtain ⟨A, cap, rfl, hc, hr⟩ := h
  refine ⟨A, cap, by rw [bs_length], by rw [bs_length]; exact hc, fun hn => ?_⟩
  obtain ⟨b, o, rfl, -, hb, hu⟩ := hr hn
  exact ⟨b, o, rfl, hb, hu⟩
theorem FrB.form (h : FrB w S u l) : ∃ A cap, u = .slice A l.length cap ∧ RdA w A cap (bs l) := by
  obtain ⟨A, cap, rfl, -, -⟩ := id h
  refine ⟨A, cap, rfl, ?_⟩
  have := h.rd
  unfold RdA
  rw [bs_length]
  exact this
theorem FrB.abv (h : FrB w S u l) (ha : Abv S w w') : FrB w' S u l := by
  obtain ⟨A, cap, rfl, hc, hr⟩ := h
  refine ⟨A, cap, rfl, hc, fun hn => ?_⟩
  obtain ⟨b, o, rfl, hl, hb, hu⟩ := hr hn
  refine ⟨b, o, rfl, hl, Nat.lt_of_lt_of_le hb ha.size, fun j x hj => ?_⟩
  rw [← hu j x hj]
  simp only [World.cell?, ha.block b hl hb]
theorem FrB.less (h : FrB w S u l) (hl : ∀ b, b < w.heap.size → S b → S' b) : FrB w S' u l := by
  obtain ⟨A, cap, rfl, hc, hr⟩ := h
  refine ⟨A, cap, rfl, hc, fun hn => ?_⟩
  obtain ⟨b, o, rfl, hl2, hb, hu⟩ := hr hn
  exact ⟨b, o, rfl, hl b hb hl2, hb, hu⟩
/-- Bytes do not lie among slices. -/
theorem FrB.past (h : FrB w S u l) (hs : AllSl w v) (hb : w.grownBy w' v.ownBlock) : FrB w' S u l := by
  obtain ⟨A, cap, rfl, hc, hr⟩ := h
  refine ⟨A, cap, rfl, hc, fun hn => ?_⟩
  obtain ⟨b, o, rfl, hl, hB, hu⟩ := hr hn
  refine ⟨b, o, rfl, hl, Nat.lt_of_lt_of_le hB hb.size, fun j x hj => ?_⟩
  have hj2 := hu j x hj
  have hne : some b ≠ v.ownBlock := fun q => by
    obtain ⟨A, n, cp, e⟩ := hs b q.symm (o + j) x hj2
    subst e
    have hm := List.mem_of_getElem? hj
    simp [bs] at hm
  have e := hb.block b hB hne
  rw [← hj2]
  simp only [World.cell?, e]
theorem own_abv {xs : List Value} (h : Base.Own w lo e v xs) (hS : ∀ b, v.ownBlock = some b → S b) (ha : Abv S w w') : Base.Own w' lo e v xs := by
  rcases h with hn | ⟨g, cap, cur, fz, rfl, hb, hg, rest⟩
  · exact .inl hn
  · exact .inr ⟨g, cap, cur, fz, rfl, hb, (ha.block g (hS g rfl) (lt_of_block hg)).trans hg, rest⟩
theorem allSl_abv {xs : List Value} (h : AllSl w v) (ho : Base.Own w lo e v xs) (hS : ∀ b, v.ownBlock = some b → S b) (ha : Abv S w w') : AllSl w' v := fun g hg j c hc => by
  have hl := ho.lt g hg
  have e := ha.block g (hS g hg) hl.2
  have e2 : w'.cell? ⟨g, j, none⟩ = w.cell? ⟨g, j, none⟩ := by simp only [World.cell?, e]
  rw [e2] at hc
  exact h g hg j c hc
end

/-- A row of slices of the call's own; all of it lies in blocks of S. -/
def FRows (w : World) (S : Nat → Prop) (v : Value) (ls : List (List UInt8)) : Prop :=
  ∃ us : List Value, Base.Own w 0 46 v us ∧ (∀ b, v.ownBlock = some b → S b) ∧ AllSl w v ∧ us.length = ls.length ∧ ∀ (j : Nat) (l : List UInt8), ls[j]? = some l → ∃ u, us[j]? = some u ∧ FrB w S u l
section
variable {w w' : World} {S S' : Nat → Prop} {v : Value} {ls : List (List UInt8)}
theorem FRows.nil (w : World) (S : Nat → Prop) : FRows w S (.slice none 0 0) [] := ⟨[], Base.Own.nil _ _ _, fun b h => by simp [Value.ownBlock] at h, AllSl.nil w, rfl, by simp⟩
theorem FRows.abv (h : FRows w S v ls) (ha : Abv S w w') : FRows w' S v ls := by
  obtain ⟨us, h1, hS, h2, h3, h4⟩ := h
  refine ⟨us, own_abv h1 hS ha, hS, allSl_abv h2 h1 hS ha, h3, fun j l hj => ?_⟩
  obtain ⟨u, hu, hr⟩ := h4 j l hj
  exact ⟨u, hu, hr.abv ha⟩
theorem FRows.keep (h : FRows w S v ls) (hs : Stp w w') : FRows w' S v ls := h.abv (Abv.of_stp hs)
theorem FRows.less (h : FRows w S v ls) (hl : ∀ b, b < w.heap.size → S b → S' b) : FRows w S' v ls := by
  obtain ⟨us, h1, hS, h2, h3, h4⟩ := h
  refine ⟨us, h1, fun b hb => hl b (h1.lt b hb).2 (hS b hb), h2, h3, fun j l hj => ?_⟩
  obtain ⟨u, hu, hr⟩ := h4 j l hj
  exact ⟨u, hu, hr.less hl⟩
theorem FRows.rows (h : FRows w S v ls) : Base.Rows w 0 46 v ls := by
  obtain ⟨us, h1, hS, h2, h3, h4⟩ := h
  refine ⟨us, h1, h2, h3, fun j l hj => ?_⟩
  obtain ⟨u, hu, hr⟩ := h4 j l hj
  exact ⟨u, hu, hr.rd⟩
theorem FRows.form (h : FRows w S v ls) : ∃ A k, v = .slice A ls.length k ∧ RdL w A k ls := h.rows.rdL
theorem FRows.rd_n {A : Option Addr} {n k : Nat} (h : FRows w S (.slice A n k) ls) : ls.length = n ∧ RdL w A k ls := by
  obtain ⟨A', k', e, hr⟩ := h.form
  simp only [Value.slice.injEq] at e
  obtain ⟨rfl, rfl, rfl⟩ := e
  exact ⟨rfl, hr⟩
theorem FRows.lt (h : FRows w S v ls) : ∀ b, v.ownBlock = some b → S b ∧ b < w.heap.size := by
  obtain ⟨us, h1, hS, -⟩ := h
  exact fun b hb => ⟨hS b hb, (h1.lt b hb).2⟩
theorem FRows.ne (h : FRows w S v ls) {g : Nat} (hg : ¬ S g) : some g ≠ v.ownBlock := fun e => hg (h.lt g e.symm).1
theorem FRows.stp {w0 : World} (h : FRows w S v ls) (h0 : Stp w0 w) (hlo : ∀ b, S b → w0.heap.size ≤ b) (hg : w.grownBy w' v.ownBlock) : Stp w0 w' :=
  Below.grown h0 hg h0.size (fun j hj => hlo j (h.lt j hj).1)
theorem bytes_info2 : (Tryz.prog.info? 46).map (fun i => (i.zero, i.size, i.bytes)) = some (some (.slice none 0 0), 1, 24) := by kernel_rfl
/-- append of one slice that lies there, too. -/
theorem FRows.push (h : FRows w S v ls) (ty : TypeId) {u : Value} {l : List UInt8} (hu : FrB w S u l) {X : Option Addr} {c : Nat} (hX : Rd w w.heap.size (.slice X 1 c) [u]) (hl : ls.length ≤ 1000000) (hlo : S w.heap.size) :
    ∃ v' w', (Builtin.append_ #[36, 36] ty #[v, .slice X 1 c]).run Tryz.prog w = .ok v' w' ∧ FRows w' S v' (ls ++ [l]) ∧ w.grownBy w' v.ownBlock ∧ (v'.ownBlock = v.ownBlock ∨ v'.ownBlock = some w.heap.size) := by
  obtain ⟨us, h1, hS, h2, h3, h4⟩ := h
  have hsl : ∀ x ∈ [u], IsSl x := fun x hx => by
    obtain ⟨A, cap, hv, _⟩ := hu
    rw [List.mem_singleton.1 hx]
    exact ⟨A, _, cap, hv⟩
  obtain ⟨i, hi', hz, hsz, hby⟩ := info_parts bytes_info2
  obtain ⟨v', w', q1, q2, q3, q4⟩ := run_append_sl (P := Tryz.prog) (w := w) 0 36 ty 46 i _ 24 Tryz.underlying36 hi' hz hsz hby rfl ⟨_, _, _, rfl⟩ v us h1 h2 w.heap.size (.slice X 1 c) [u] hX hsl
    (by simp only [h3, List.length_singleton]; unfold maxLen; omega) (by simp only [h3, List.length_singleton]; omega) (Nat.zero_le _)
  obtain ⟨v2, w2, e1, -, -, e4⟩ := run_append_rd (P := Tryz.prog) w 0 36 ty 46 i _ 24 Tryz.underlying36 hi' hz hsz hby rfl v us h1 w.heap.size (.slice X 1 c) [u] hX (fun x hx => isSl_one (hsl x hx))
    (by simp only [h3, List.length_singleton]; unfold maxLen; omega) (by simp only [h3, List.length_singleton]; omega) (Nat.zero_le _)
  rw [q1] at e1
  cases e1
  refine ⟨v', w', q1, ⟨us ++ [u], q2, fun b hb => ?_, q3, by simp [h3], fun j l' hj => ?_⟩, q4, e4⟩
  · rcases e4 with e | e
    · exact hS b (by rw [← e]; exact hb)
    · rw [e] at hb
      injection hb with hb
      rw [← hb]
      exact hlo
  · by_cases hlt : j < ls.length
    · rw [List.getElem?_append_left hlt] at hj
      rw [List.getElem?_append_left (by omega)]
      obtain ⟨x, hx, hr⟩ := h4 j l' hj
      exact ⟨x, hx, hr.past h2 q4⟩
    · rw [List.getElem?_append_right (by omega)] at hj
      rw [List.getElem?_append_right (by omega), h3]
      have e : j - ls.length = 0 := by
        have := (List.getElem?_eq_some_iff.1 hj).1
        simp at this
        omega
      rw [e] at hj ⊢
      simp only [List.getElem?_cons_zero, Option.some.injEq] at hj ⊢
      subst hj
      exact ⟨u, rfl, hu.past h2 q4⟩
end
section
variable {w : World} {S : Nat → Prop} {v : Value} {ls : List (List UInt8)}
end
end Go.Proofs.YtllnnlmhbmladaaGreatDoor.Tape
