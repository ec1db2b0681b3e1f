/-
  The rest of a slice of blocks: no statement is proved here.
-/
import Derived.Test.YtllnnlmhbmladaaGreatDoorBase
import Derived.Test.YtllnnlmhbmladaaGreatDoorBlockK
namespace Go.Proofs.YtllnnlmhbmladaaGreatDoor.Entry
open Go.RowKit Go.Proofs.YtllnnlmhbmladaaGreatDoor.Str Go.Proofs.YtllnnlmhbmladaaGreatDoor.Base
open Go.Proofs.YtllnnlmhbmladaaGreatDoor.BlockM (L)

theorem rdL_tail {w : World} {b o c : Nat} {x : L} {ls : List L} (h : RdL w (some ⟨b, o, none⟩) c (x :: ls)) : RdL w (some ⟨b, o + 1, none⟩) (c - 1) ls := by
  obtain ⟨us, h1, h2, h3⟩ := h
  obtain ⟨u, us, rfl⟩ : ∃ u vs, us = u :: vs := by
    cases us with
    | nil => simp at h1
    | cons u vs => exact ⟨u, vs, rfl⟩
  simp only [List.length_cons, Nat.add_right_cancel_iff] at h1
  have hc := h2.length_le
  rw [List.length_cons] at hc
  refine ⟨us, h1, ?_, fun j l hj => ?_⟩
  · refine ⟨_, _, rfl, by omega, fun _ => ?_⟩
    obtain ⟨b', o', e, hb⟩ := h2.at_ (j := 0) (by simp)
    simp only [Option.some.injEq, Addr.mk.injEq, and_true] at e
    obtain ⟨rfl, rfl⟩ := e
    refine ⟨b, o + 1, rfl, World.block_lt_of_cell? w _ (hb 0 u rfl), fun j v hv => ?_⟩
    have := hb (j + 1) v (by simpa using hv)
    rwa [show o + (j + 1) = o + 1 + j by omega] at this
  · obtain ⟨v, hv, hr⟩ := h3 (j + 1) l (by simpa using hj)
    exact ⟨v, by simpa using hv, hr⟩
theorem rdL_drop {w : World} {b : Nat} : ∀ (k o c : Nat) (ls : List L), k ≤ ls.length → RdL w (some ⟨b, o, none⟩) c ls → RdL w (some ⟨b, o + k, none⟩) (c - k) (ls.drop k)
  | 0, o, c, ls, _, h => h
  | k + 1, o, c, [], hk, _ => by simp at hk
  | k + 1, o, c, x :: ls, hk, h => by
    have h2 := rdL_drop k (o + 1) (c - 1) ls (by simpa using hk) (rdL_tail h)
    rw [show o + 1 + k = o + (k + 1) by omega, show c - 1 - k = c - (k + 1) by omega] at h2
    exact h2
theorem rdL_none (w : World) (A : Option Addr) (c : Nat) : RdL w A c [] := by
  refine ⟨[], rfl, ⟨_, _, rfl, by simp, fun h => absurd rfl h⟩, fun j l hj => ?_⟩
  simp at hj
theorem slice_from (b o N c k : Nat) (hk : k ≤ N) (hN : N ≤ c) : ∃ A', (∀ w : World, (Instr.slice 36 (.slice (some ⟨b, o, none⟩) N c) (some (.int .i64 (k : Int))) none none).run Tryz.prog w = .ok (.slice A' (N - k) (c - k)) w) ∧
    ∀ (w : World) (ls : List L), ls.length = N → RdL w (some ⟨b, o, none⟩) c ls → RdL w A' (c - k) (ls.drop k) := by
  have he : Tryz.prog.elem 36 = 46 := by kernel_rfl
  have hs : ∀ w : World, (sizeOf 46).run Tryz.prog w = .ok 1 w := by
    intro w
    have hi : (Tryz.prog.info? 46).map (·.size) = some 1 := by kernel_rfl
    cases hq : Tryz.prog.info? 46 with
    | none => simp [hq] at hi
    | some i =>
      have : i.size = 1 := by simpa [hq] using hi
      simp [sizeOf, typeInfo, hq, this]
  by_cases hc : c = k
  · refine ⟨some ⟨b, o, none⟩, fun w => ?_, fun w ls hl h => ?_⟩
    · rw [run_slice_l (P := Tryz.prog) w 36 _ _ _ (by rw [he]; exact Tryz.underlying36) .i64 k (by omega) (by omega), he, hs]
      simp only [Result.andThen_ok, sliced]
      rw [if_pos (by omega)]
      rfl
    · rw [List.drop_eq_nil_of_le (by omega)]
      exact rdL_none _ _ _
  · refine ⟨some ⟨b, o + k, none⟩, fun w => ?_, fun w ls hl h => rdL_drop k o c ls (by omega) h⟩
    rw [run_slice_l (P := Tryz.prog) w 36 _ _ _ (by rw [he]; exact Tryz.underlying36) .i64 k (by omega) (by omega), he, hs]
    simp only [Result.andThen_ok, sliced]
    rw [if_neg (by omega)]
    simp only [Option.map_some, Addr.add_lit, Int.toNat_natCast, Nat.mul_one]
theorem rdL_take {w : World} {A : Option Addr} {c : Nat} {ls : List L} (h : RdL w A c ls) (k : Nat) : RdL w A c (ls.take k) := by
  obtain ⟨us, h1, h2, h3⟩ := h
  refine ⟨us.take k, by rw [List.length_take, List.length_take, h1], h2.take k, fun j l hj => ?_⟩
  rw [List.getElem?_take] at hj
  split at hj
  · rename_i hjk
    obtain ⟨u, hu, hr⟩ := h3 j l hj
    exact ⟨u, by rw [List.getElem?_take, if_pos hjk]; exact hu, hr⟩
  · cases hj
theorem sl_size (w : World) : (sizeOf 46).run Tryz.prog w = .ok 1 w := by
  have hi : (Tryz.prog.info? 46).map (·.size) = some 1 := by kernel_rfl
  cases hq : Tryz.prog.info? 46 with
  | none => simp [hq] at hi
  | some i =>
    have : i.size = 1 := by simpa [hq] using hi
    simp [sizeOf, typeInfo, hq, this]
theorem slice_to (b o N c k : Nat) (hk : k ≤ c) (w : World) : (Instr.slice 36 (.slice (some ⟨b, o, none⟩) N c) none (some (.int .i64 (k : Int))) none).run Tryz.prog w = .ok (.slice (some ⟨b, o, none⟩) k c) w := by
  have he : Tryz.prog.elem 36 = 46 := by kernel_rfl
  rw [run_slice_h (P := Tryz.prog) w 36 _ _ _ (by rw [he]; exact Tryz.underlying36) .i64 k (by omega) (by omega), he, sl_size]
  simp only [Result.andThen_ok, sliced]
  by_cases hc : c = 0
  · rw [if_pos (by omega)]
    subst hc
    obtain rfl : k = 0 := by omega
    rfl
  · rw [if_neg (by omega)]
    simp only [Option.map_some, Addr.add_lit, Int.toNat_natCast, Nat.zero_mul, Nat.add_zero, Nat.sub_zero]
end Go.Proofs.YtllnnlmhbmladaaGreatDoor.Entry
