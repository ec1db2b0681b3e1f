/-
  Contracts of package block: Cut, Zeros, join, Text: no statement is proved here.
-/
import Derived.Test.YtleoiejkipobbaaBlockIt
import Derived.Test.YtleoiejkipobbaaBuilder
namespace Go.Proofs.Ytleoiejkipobbaa.Block
open Go.RowKit Go.Shelf Go.Proofs.Ytleoiejkipobbaa.Base Go.Proofs.Ytleoiejkipobbaa.BlockM Go.Proofs.Ytleoiejkipobbaa.Str

set_option maxRecDepth 100000 in
theorem cut_hd (s : L) (w : World) (hs : s.length ≤ 1000000) :
    Calls Try.prog 61 #[.string ⟨s.toArray⟩] w fun e w' => ∃ A cap, e = .returned (.slice A (cutV s).length cap) ∧ RdH w' A cap (cutV s) ∧ Stp w w' := by
  have h0 := Stp.refl w
  obtain ⟨n, hn⟩ : ∃ n, manyN s.length = n := ⟨_, rfl⟩
  have hmv : manyV (s.length : Int) = (n : Int) := by rw [manyV_nat, hn]
  have hn6 : n ≤ 1000000 := by rw [← hn]; exact manyN_small (by omega)
  rw [cutV_length, cutV, hn]
  have Hmv := Lib.hid hmv
  clear hn hmv
  go_enter Try.func61, Try.ntmps61
  go_wp2_with fail
  refine (many_s _ _ (by omega) (by omega)).mono ?_
  rintro e w1 ⟨rfl, hs1⟩
  rw [Hmv.out]
  replace h0 := Stp.trans h0 hs1
  clear hs1
  go_wp2_with fail
  refine (blocks_any _ _ _).mono ?_
  rintro e w2 ⟨rfl, rfl⟩
  have b1 := Boxed.new w1 9 (.string ⟨s.toArray⟩)
  have b2 := Boxed.new (w1.alloc (.cells #[.string ⟨s.toArray⟩] 9)) 3 (.int .i64 (n : Int))
  have b1' := b1.alloc (.cells #[.int .i64 (n : Int)] 3)
  rw [World.size_alloc] at b2
  have h1 : Stp w ((w1.alloc (.cells #[.string ⟨s.toArray⟩] 9)).alloc (.cells #[.int .i64 (n : Int)] 3)) := (h0.alloc _).alloc _
  go_wp2_with fail
  refine (list_h s n w1.heap.size (w1.heap.size + 1) _ (by omega) hn6 (by simp; omega) (by simp) b1'.cell b2.cell).mono ?_
  rintro e w3 ⟨A, cap, rfl, hr, hs3⟩
  replace h1 := Stp.trans h1 hs3
  clear hs3
  go_wp2_with fail
  go_ret
  exact ⟨A, cap, rfl, hr, h1⟩

theorem cut_s (s : L) (w : World) (hs : s.length ≤ 1000000) :
    Calls Try.prog 61 #[.string ⟨s.toArray⟩] w fun e w' => ∃ A cap, e = .returned (.slice A (cutV s).length cap) ∧ RdL w' A cap (cutV s) ∧ Stp w w' :=
  (cut_hd s w hs).mono fun _ _ ⟨A, cap, h1, h2, h3⟩ => ⟨A, cap, h1, h2.rdL, h3⟩

theorem flatten_step {ls : List L} {k : Nat} {l : L} (hl : ls[k]? = some l) : (ls.take (k + 1)).flatten = (ls.take k).flatten ++ l := by
  rw [List.take_add_one, hl, List.flatten_append]
  simp
theorem flatten_le {ls : List L} (h : mayV ls = true) (k : Nat) : (ls.take k).flatten.length ≤ 512 * ls.length := by
  have h' : mayV (ls.take k) = true := mayV_iff.2 fun b hb => mayV_iff.1 h b (List.mem_of_mem_take hb)
  rw [may_flatten h', List.length_take]
  omega

set_option maxRecDepth 100000 in
set_option maxHeartbeats 1000000 in
theorem join_s (ls : List L) (A : Option Addr) (c : Nat) (w : World) (ha : RdL w A c ls) (hm : mayV ls = true) (hl : ls.length ≤ 1000000) :
    Calls Try.prog 70 #[.slice A ls.length c] w fun e w' => e = .returned (.string ⟨ls.flatten.toArray⟩) ∧ Stp w w' := by
  have Hm := Lib.hid hm
  clear hm
  go_enter Try.func70, Try.ntmps70
  go_wp2_with fail
  go_loopw [8] (fun i wr => ∃ k : Nat, k ≤ ls.length ∧ i = .int .i64 k ∧ Hid (Builder.Is wr w.heap.size w.heap.size (ls.take k).flatten) ∧ Hid (Stp w wr)) (fun i _ => ls.length - (intOf i).toNat)
  case atStart => exact ⟨0, by omega, rfl, Lib.hid (by simpa using Builder.Is.fresh w (Nat.le_refl _)), Lib.hid ((Stp.refl w).alloc _)⟩
  case round =>
    obtain ⟨k, hk, rfl, Hb, Hs⟩ := hrel
    by_cases hlt : k < ls.length
    · obtain ⟨l, hl1⟩ : ∃ l, ls[k]? = some l := ⟨_, List.getElem?_eq_getElem hlt⟩
      have hlen : l.length = 512 := mayV_iff.1 Hm.out l (List.mem_of_getElem? hl1)
      have hle := flatten_le Hm.out k
      obtain ⟨b, o, A1, c1, rfl, ca, ra⟩ := ha.at_ hl1
      have hcb := World.block_lt_of_cell? w _ ca
      have ca' := (Below.cell Hs.out (p := ⟨b, o + k, none⟩) hcb).trans ca
      have ra' : Rd wr w.heap.size (.slice A1 l.length c1) (bs l) := by
        have h := ra
        unfold RdA at h
        rw [bs_length] at h
        exact h.keep Hs.out
      have Hl1 := Lib.hid (flatten_step hl1)
      have hne : l ≠ [] := by rintro rfl; simp at hlen
      have HA := Lib.hid (show (ls.take k).flatten.length + l.length ≤ 140737488355328 by omega)
      have Hne := Lib.hid hne
      have Hra := Lib.hid ra'
      clear hl1 ca ra hle hne ra' hcb hlen
      go_wp2_with fail
      refine (Builder.write_s w.heap.size w.heap.size _ l _ _ _ Hb.out Hra.out Hne.out HA.out Hs.out.size).mono ?_
      rintro e w2 ⟨rfl, hb2, hs2⟩
      have Hb2 : Hid (Builder.Is w2 w.heap.size w.heap.size (ls.take (k + 1)).flatten) := Lib.hid (by rw [Hl1.out]; exact hb2)
      have Hs2 : Hid (Stp w w2) := Lib.hid (Below.trans Hs.out hs2)
      clear hb2 hs2
      go_wp2_with fail
      go_roundw
      case rel => exact ⟨k + 1, by omega, by go_num, Hb2, Hs2⟩
      case measure => simp [intOf]; omega
    · obtain rfl : k = ls.length := by omega
      go_wp2_with fail
      refine (Builder.string_s w.heap.size w.heap.size _ _ Hb.out).mono ?_
      rintro e w2 ⟨rfl, hs2⟩
      rw [List.take_length]
      have Hs2 : Hid (Stp w w2) := Lib.hid (Below.trans Hs.out hs2)
      clear hs2
      go_wp2_with fail
      go_ret
      exact ⟨rfl, Hs2.out⟩

set_option maxRecDepth 100000 in
set_option maxHeartbeats 1000000 in
theorem text_s (ls : List L) (n : Int) (A : Option Addr) (c : Nat) (w : World) (ha : RdL w A c ls) (hl : ls.length ≤ 1000000) (hn : n < 9223372036854775808) (hn' : -9223372036854775808 ≤ n) :
    Calls Try.prog 34 #[.slice A ls.length c, .int .i64 n] w fun e w' => e = .returned (.tuple #[.string ⟨(textV ls n).toArray⟩, .bool (textB ls n)]) ∧ Stp w w' := by
  have h0 := Stp.refl w
  cases hb : textB ls n
  · rw [textV_no hb]
    have key : n < 0 ∨ (¬ n < 0 ∧ (manyV n != (ls.length : Int)) = true) ∨ (¬ n < 0 ∧ (manyV n != (ls.length : Int)) = false ∧ mayV ls = false) := by
      rw [Bool.eq_false_iff] at hb
      by_cases h1 : n < 0
      · exact .inl h1
      · by_cases h2 : manyV n = (ls.length : Int)
        · refine .inr (.inr ⟨h1, by simp [h2], ?_⟩)
          rw [Bool.eq_false_iff]
          exact fun h3 => hb (textB_iff.2 ⟨h3, by omega, h2⟩)
        · exact .inr (.inl ⟨h1, by simp [h2]⟩)
    clear hb
    rcases key with h1 | ⟨h1, h2⟩ | ⟨h1, h2, h3⟩
    · go_enter Try.func34, Try.ntmps34
      go_wp2_with fail
      go_ret2
      exact ⟨rfl, h0⟩
    · go_enter Try.func34, Try.ntmps34
      go_wp2_with (go_at_call 69; refine (many_s n _ hn hn').mono ?_; rintro e w' ⟨rfl, hs⟩; replace h0 := Stp.trans h0 hs; clear hs)
      go_ret2
      exact ⟨rfl, h0⟩
    · have H3 := Lib.hid h3
      clear h3
      go_enter Try.func34, Try.ntmps34
      go_wp2_with (first
        | (go_at_call 69; refine (many_s n _ hn hn').mono ?_; rintro e w' ⟨rfl, hs⟩; replace h0 := Stp.trans h0 hs; replace ha := RdL.keep ha hs; clear hs)
        | (go_at_call 35; refine (may_s ls _ _ _ ha (by omega)).mono ?_; rintro e w' ⟨rfl, hs⟩; replace h0 := Stp.trans h0 hs; replace ha := RdL.keep ha hs; clear hs; rw [H3.out]))
      go_ret2
      exact ⟨rfl, h0⟩
  · have hle := textB_le hb
    have e : textV ls n = ls.flatten.take n.toNat := by rw [textV, if_pos hb]
    obtain ⟨h1, h2, h3⟩ := textB_iff.1 hb
    rw [e]
    obtain ⟨k, rfl⟩ := Int.eq_ofNat_of_zero_le h2
    rw [Int.toNat_natCast] at hle ⊢
    have hcut := cut_h ls.flatten k hle
    have g : (manyV (k : Int) != (ls.length : Int)) = false := by simp [h3]
    have g0 : decide ((k : Int) < 0) = false := decide_eq_false (by omega)
    have g1 : ¬ (k : Int) < 0 := by omega
    have H1 := Lib.hid h1
    clear h1 h3 hb e
    obtain ⟨t, ht⟩ : ∃ t, ls.flatten = t := ⟨_, rfl⟩
    rw [ht] at hcut hle ⊢
    have Ht := Lib.hid ht
    clear ht
    go_enter Try.func34, Try.ntmps34
    go_wp2_with (first
      | (go_at_call 69; refine (many_s _ _ hn hn').mono ?_; rintro e w' ⟨rfl, hs⟩; replace h0 := Stp.trans h0 hs; replace ha := RdL.keep ha hs; clear hs)
      | (go_at_call 35; refine (may_s ls _ _ _ ha (by omega)).mono ?_; rintro e w' ⟨rfl, hs⟩; replace h0 := Stp.trans h0 hs; replace ha := RdL.keep ha hs; clear hs; rw [H1.out])
      | (go_at_call 70; refine (join_s ls _ _ _ ha H1.out hl).mono ?_; rintro e w' ⟨rfl, hs⟩; replace h0 := Stp.trans h0 hs; clear hs; rw [Ht.out]))
    go_ret2
    exact ⟨rfl, h0⟩
end Go.Proofs.Ytleoiejkipobbaa.Block
