/-
  Package tape's own memory: bytes and rows that lie from a block on, append of one more, a scope that is left by a goto: no statement is proved here.
  Package tape's own calls: bytes.Clone, areRecords, May, own: their contracts; no statement is proved here.
-/
import Derived.Test.YtllnnlmhbmladaaGreatDoorRecK
import Derived.Test.YtllnnlmhbmladaaGreatDoorFRows
import Derived.Test.YtllnnlmhbmladaaGreatDoorTapeI
import Derived.ScopeJumps
namespace Go.Proofs.YtllnnlmhbmladaaGreatDoor.Tape
open Go.RowKit Go.Proofs.YtllnnlmhbmladaaGreatDoor.Str Go.Proofs.YtllnnlmhbmladaaGreatDoor.Base Go.Proofs.YtllnnlmhbmladaaGreatDoor.BlockM Go.Proofs.YtllnnlmhbmladaaGreatDoor.RecM Go.Proofs.YtllnnlmhbmladaaGreatDoor.TapeM

section
variable {w : World} {S : Nat → Prop} {l : L}
theorem FrB.clear {A : Option Addr} {n k : Nat} (h : FrB w S (.slice A n k) l) {g : Nat} (hg : ¬ S g) : ClearA g w A k (bs l) := fun w2 h2 => by
  obtain ⟨A', k', e, hr⟩ := (h.abv (Abv.of_grown h2 hg)).form
  cases e
  exact hr
end
section
variable {w : World} {S : Nat → Prop} {ls : List L}
theorem FRows.clear {A : Option Addr} {n k : Nat} (h : FRows w S (.slice A n k) ls) {g : Nat} (hg : ¬ S g) : Clear g w A k ls :=
  fun _ h2 => (h.abv (Abv.of_grown h2 hg)).rd_n.2
end
section
variable {P : Program} {a : Act} {w : World} {Q : Exit → Act → World → Prop}
@[go_sem] theorem jump_normal (l : Nat) (J : Act → World → Prop) : Exit.jump l J Q .normal a w = Q .normal a w := rfl
@[go_sem] theorem jump_ret (l : Nat) (J : Act → World → Prop) : Exit.jump l J Q .ret a w = Q .ret a w := rfl
@[go_sem] theorem jump_panic (l : Nat) (J : Act → World → Prop) (ch : List PanicEntry) : Exit.jump l J Q (.panic ch) a w = Q (.panic ch) a w := rfl
end
end Go.Proofs.YtllnnlmhbmladaaGreatDoor.Tape

namespace Go.Proofs.YtllnnlmhbmladaaGreatDoor.Tape
open Go.RowKit Go.Proofs.YtllnnlmhbmladaaGreatDoor.Str Go.Proofs.YtllnnlmhbmladaaGreatDoor.Base Go.Proofs.YtllnnlmhbmladaaGreatDoor.BlockM Go.Proofs.YtllnnlmhbmladaaGreatDoor.RecM Go.Proofs.YtllnnlmhbmladaaGreatDoor.TapeM

theorem rmay_n (r : L) (n : Nat) (hn : r.length = n) (A : Option Addr) (c : Nat) (w : World) (hl : n < 9223372036854775808) :
    Calls Tryz.prog 39 #[.slice A n c] w fun e w' => e = .returned (.bool (mayR r)) ∧ Stp w w' := by
  subst hn
  exact Rec.may_s r A c w hl
set_option maxRecDepth 100000 in
theorem areRecords_s (ls : List L) (A : Option Addr) (c : Nat) (w : World) (ha : RdL w A c ls) (hl : ls.length ≤ 1000000) (he : ∀ l ∈ ls, l.length ≤ 100000) :
    Calls Tryz.prog 38 #[.slice A ls.length c] w fun e w' => e = .returned (.bool (blocksB ls)) ∧ Stp w w' := by
  obtain ⟨r, hr⟩ : ∃ r, blocksB ls = r := ⟨_, rfl⟩
  rw [hr]
  have Hr := Lib.hid hr
  have He := Lib.hid he
  clear hr he
  go_enter Tryz.func38, Tryz.ntmps38
  go_wp2_with fail
  go_loopw [7] (fun i wr => ∃ k : Nat, k ≤ ls.length ∧ i = .int .i64 k ∧ Stp w wr ∧ Hid (∀ x ∈ ls.take k, mayR x = true)) (fun i _ => ls.length - (intOf i).toNat)
  case atStart => exact ⟨0, by omega, rfl, Stp.refl w, Lib.hid (by simp)⟩
  case round =>
    obtain ⟨k, hk, rfl, h0, Hk⟩ := hrel
    by_cases hlt : k < ls.length
    · obtain ⟨l, hl1⟩ : ∃ l, ls[k]? = some l := ⟨_, List.getElem?_eq_getElem hlt⟩
      obtain ⟨b, o, A1, c1, rfl, ca, ra⟩ := (ha.keep h0).at_ hl1
      have hll := He.out l (List.mem_of_getElem? hl1)
      obtain ⟨y, hy⟩ : ∃ y, l.length = y := ⟨_, rfl⟩
      rw [hy] at ca hll
      have Hy := Lib.hid hy
      have Hl1 := Lib.hid hl1
      clear hl1 hy ra
      cases h5 : mayR l
      · have H5 := Lib.hid h5
        clear h5
        go_wp2_with (go_at_call 39; refine (rmay_n l y Hy.out _ _ _ (by omega)).mono ?_; rintro e w' ⟨rfl, hs⟩; replace h0 := Stp.trans h0 hs; clear hs; rw [H5.out])
        go_ret
        refine ⟨?_, h0⟩
        have e : r = false := by
          rw [← Hr.out, Bool.eq_false_iff]
          intro h
          have := blocksB_iff.1 h l (List.mem_of_getElem? Hl1.out)
          rw [H5.out] at this
          cases this
        rw [e]
        rfl
      · have H5 := Lib.hid h5
        clear h5
        go_wp2_with (go_at_call 39; refine (rmay_n l y Hy.out _ _ _ (by omega)).mono ?_; rintro e w' ⟨rfl, hs⟩; replace h0 := Stp.trans h0 hs; clear hs; rw [H5.out])
        go_roundw
        case rel =>
          refine ⟨k + 1, by omega, by go_num, h0, Lib.hid fun x hx => ?_⟩
          rw [List.take_add_one, Hl1.out] at hx
          rcases List.mem_append.1 hx with h | h
          · exact Hk.out x h
          · simp at h
            rw [h, H5.out]
        case measure => simp [intOf]; omega
    · obtain rfl : k = ls.length := by omega
      go_wp2_with fail
      go_ret
      refine ⟨?_, h0⟩
      have h := Hk.out
      rw [List.take_length] at h
      rw [← Hr.out, blocksB_iff.2 h]
      rfl
theorem areRecords_n (ls : List L) (n : Nat) (hn : ls.length = n) (A : Option Addr) (c : Nat) (w : World) (ha : RdL w A c ls) (hl : n ≤ 1000000) (he : ∀ l ∈ ls, l.length ≤ 100000) (b : Bool) (hb : blocksB ls = b) :
    Calls Tryz.prog 38 #[.slice A n c] w fun e w' => e = .returned (.bool b) ∧ Stp w w' := by
  subst hn hb
  exact areRecords_s ls A c w ha hl he

set_option maxRecDepth 100000 in
set_option maxHeartbeats 1000000 in
theorem tmay_s (c : Int) (ls : List L) (m : Bool) (n : Nat) (hf : FewT ⟨c, ls, m⟩) (hn : ls.length = n) (b : Bool) (hb : mayT ⟨c, ls, m⟩ = b) (A : Option Addr) (k : Nat) (w : World) (ha : RdL w A k ls) :
    Calls Tryz.prog 23 #[tc c A n k m] w fun e w' => e = .returned (.bool b) ∧ Stp w w' := by
  have h0 := Stp.refl w
  obtain ⟨f1, f2, f3, f4⟩ := hf
  dsimp only at f1 f2 f3 f4
  have hb2 : b = (decide (0 ≤ c) && decide (c ≤ 200) && decide ((n : Int) ≤ c) && blocksB ls) := by rw [← hb, mayT, hn]
  obtain ⟨x1, g1⟩ : ∃ x, decide (0 ≤ c) = x := ⟨_, rfl⟩
  obtain ⟨x2, g2⟩ : ∃ x, decide (c ≤ 200) = x := ⟨_, rfl⟩
  obtain ⟨x3, g3⟩ : ∃ x, decide ((n : Int) ≤ c) = x := ⟨_, rfl⟩
  obtain ⟨x4, g4⟩ : ∃ x, blocksB ls = x := ⟨_, rfl⟩
  rw [g1, g2, g3, g4] at hb2
  subst hb2
  have Ha := Lib.hid ha
  have F4 := Lib.hid f4
  have Hn := Lib.hid hn
  have G4 := Lib.hid g4
  rw [hn] at f3
  clear ha f4 hn g4 hb
  have hp := Stp.alloc h0 (.cells (tcs c A n k m) 38)
  cases x1 <;> cases x2 <;> cases x3
  all_goals
    go_enter Tryz.func23, Tryz.ntmps23
    go_wp2_with (go_at_call 38; refine (areRecords_n ls n Hn.out _ _ _ (Ha.out.keep hp) (by omega) F4.out _ G4.out).mono ?_; rintro e w' ⟨rfl, hs⟩; replace h0 := Stp.trans hp hs; clear hs)
    go_ret
    first | exact ⟨rfl, h0⟩ | exact ⟨rfl, hp⟩ | (cases x4 <;> first | exact ⟨rfl, h0⟩ | exact ⟨rfl, hp⟩)

theorem lit_rd (w : World) (e : TypeId) (u : Value) : Rd (w.alloc (.cells #[u] e)) (w.alloc (.cells #[u] e)).heap.size (.slice (some ⟨w.heap.size, 0, none⟩) 1 1) [u] := by
  have h := rd_lit w e u
  rwa [← World.size_alloc w (.cells #[u] e)] at h
end Go.Proofs.YtllnnlmhbmladaaGreatDoor.Tape

