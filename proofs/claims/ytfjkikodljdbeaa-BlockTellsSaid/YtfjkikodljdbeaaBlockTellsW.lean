/-
  The walk of the statement BlockTells: no statement is proved here.
-/
import Derived.Test.YtfjkikodljdbeaaBlockRef2
namespace Go.Proofs.Ytfjkikodljdbeaa.Block
open Go.RowKit Go.Shelf Go.Proofs.Ytfjkikodljdbeaa.Base Go.Proofs.Ytfjkikodljdbeaa.BlockM Go.Proofs.Ytfjkikodljdbeaa.Str

theorem bytes_rd {w : World} {lo : Nat} {e : TypeId} {v : Value} {s : L} (h : Base.Own w lo e v (bs (ByteArray.mk s.toArray).data.toList)) : ∃ A cap, v = .slice A s.length cap ∧ RdA w A cap (bs s) := by
  have h' : Base.Own w lo e v (bs s) := by simpa using h
  obtain ⟨A, cap, rfl, hA⟩ := RdA.of h'.rd
  exact ⟨A, cap, by rw [bs_length], hA⟩

theorem run_bytes (w : World) (s : L) (hm : s.length ≤ maxLen) : ∃ E c w1, (convert 9 31 (.string ⟨s.toArray⟩)).run Try.prog w = .ok (.slice E s.length c) w1 ∧ RdA w1 E c (bs s) ∧ Stp w w1 := by
  have hsz : (ByteArray.mk s.toArray).size = s.length := by simp [ByteArray.size]
  have hr := run_bytes_of_string (P := Try.prog) w 9 31 5 ⟨s.toArray⟩ Try.underlying9 Try.underlying31 Try.underlying5
  have hv := own_bytesRow w 5 ⟨s.toArray⟩ (by rw [hsz]; exact hm)
  obtain ⟨A, cap, e, hA⟩ := bytes_rd hv
  refine ⟨A, cap, _, ?_, hA, (Below.drew (Below.refl _ w)).alloc (Nat.le_refl _) _⟩
  rw [← e]
  exact hr

set_option maxRecDepth 100000 in
set_option maxHeartbeats 8000000 in
theorem tells_walk (ls ks : List L) (s : L) (n : Int) (A B : Option Addr) (c d : Nat) (w : World) (ha : RdL w A c ls) (hb : RdL w B d ks) (hl : ls.length < 9223372036854775808) (hk : ks.length < 9223372036854775808)
    (hls : ∀ l ∈ ls, l.length < 9223372036854775808) (hks : ∀ l ∈ ks, l.length < 9223372036854775808) (hs : s.length ≤ 9223372036854775807) (hn : n < 9223372036854775808) (hn' : -9223372036854775808 ≤ n) :
    Calls Try.prog 3 #[.slice A ls.length c, .slice B ks.length d, .string ⟨s.toArray⟩, .int .i64 n] w fun e w' => e = .returned (.bool true) ∧ Stp w w' := by
  have h0 := Stp.refl w
  have Hls := Lib.hid hls
  have Hks := Lib.hid hks
  clear hls hks
  by_cases hin : fewV ls = true ∧ fewV ks = true ∧ s.length ≤ 5000
  · obtain ⟨f1, f2, f3⟩ := hin
    have hl60 := (fewV_iff.1 f1).1
    have hk60 := (fewV_iff.1 f2).1
    have g1 : decide ((5000 : Int) < (s.length : Int)) = false := decide_eq_false (by omega)
    obtain ⟨t, ht⟩ : ∃ t, textV ls n = t := ⟨_, rfl⟩
    obtain ⟨tb, htb⟩ : ∃ tb, textB ls n = tb := ⟨_, rfl⟩
    obtain ⟨x, hx⟩ : ∃ x, manyV n = x := ⟨_, rfl⟩
    obtain ⟨m, hm⟩ : ∃ m, mayV ls = m := ⟨_, rfl⟩
    obtain ⟨sm, hsm⟩ : ∃ sm, (ls == ks) = sm := ⟨_, rfl⟩
    obtain ⟨z, hz⟩ : ∃ z, zeroV s = z := ⟨_, rfl⟩
    obtain ⟨cu, hcu⟩ : ∃ cu, cutV s = cu := ⟨_, rfl⟩
    obtain ⟨zs, hzs⟩ : ∃ zs, zerosV n = zs := ⟨_, rfl⟩
    have hcl : cu.length ≤ 10 := by rw [← hcu, cutV_length]; exact manyN_small (by omega)
    have hzl : zs.length ≤ 400 := by
      rw [← hzs, zerosV]
      split
      · rw [blks_length]; omega
      · simp
    have Hf1 := Lib.hid f1
    have Hf2 := Lib.hid f2
    have Ht := Lib.hid ht
    have Htb := Lib.hid htb
    have Hx := Lib.hid hx
    have Hm := Lib.hid hm
    have Hsm := Lib.hid hsm
    have Hz := Lib.hid hz
    have Hcu := Lib.hid hcu
    have Hzs := Lib.hid hzs
    clear f1 f2 ht htb hx hm hsm hz hcu hzs
    go_enter Try.func3, Try.ntmps3
    go_wp2_with (first
      | (go_at_call 10; refine (awake_s _).mono ?_; rintro e w' ⟨rfl, hs⟩; replace h0 := Stp.trans h0 hs; replace ha := RdL.keep ha hs; replace hb := RdL.keep hb hs; clear hs)
      | (go_at_call 11; (with_reducible refine (few_s ls _ _ _ ha (by omega) Hls.out).mono ?_); rintro e w' ⟨rfl, hs⟩; replace h0 := Stp.trans h0 hs; replace ha := RdL.keep ha hs; replace hb := RdL.keep hb hs; clear hs; rw [Hf1.out])
      | (go_at_call 11; (with_reducible refine (few_s ks _ _ _ hb (by omega) Hks.out).mono ?_); rintro e w' ⟨rfl, hs⟩; replace h0 := Stp.trans h0 hs; replace ha := RdL.keep ha hs; replace hb := RdL.keep hb hs; clear hs; rw [Hf2.out])
      | (go_at_call 12; refine (text_s ls n _ _ _ ha (by omega) hn hn').mono ?_; rintro e w' ⟨rfl, hs⟩; replace h0 := Stp.trans h0 hs; replace ha := RdL.keep ha hs; replace hb := RdL.keep hb hs; clear hs; rw [Ht.out, Htb.out])
      | (go_at_call 13; refine (rtext_s ls n _ _ _ ha (by omega) hn hn').mono ?_; rintro e w' ⟨rfl, hs⟩; replace h0 := Stp.trans h0 hs; replace ha := RdL.keep ha hs; replace hb := RdL.keep hb hs; clear hs; rw [Ht.out, Htb.out])
      | (go_at_call 15; refine (cut_s s _ (by omega)).mono ?_; rintro e w' ⟨C, c1, rfl, r1, hs⟩; replace h0 := Stp.trans h0 hs; replace ha := RdL.keep ha hs; replace hb := RdL.keep hb hs; clear hs; rw [Hcu.out] at r1 ⊢)
      | (go_at_call 16; refine (rcut_s s _ (by omega)).mono ?_; rintro e w' ⟨D, c2, rfl, r2, hs⟩; replace h0 := Stp.trans h0 hs; replace ha := RdL.keep ha hs; replace hb := RdL.keep hb hs; replace r1 := RdL.keep r1 hs; clear hs; rw [Hcu.out] at r2 ⊢)
      | (go_at_call 14; (with_reducible refine (rsame_s cu cu _ _ _ _ _ r1 r2 (by omega) (by omega)).mono ?_); rintro e w' ⟨rfl, hs⟩; replace h0 := Stp.trans h0 hs; replace ha := RdL.keep ha hs; replace hb := RdL.keep hb hs; clear hs r1 r2; rw [show (cu == cu) = true by simp])
      | (go_at_call 17; refine (zeros_s n _).mono ?_; rintro e w' ⟨C, c1, rfl, r3, hs⟩; replace h0 := Stp.trans h0 hs; replace ha := RdL.keep ha hs; replace hb := RdL.keep hb hs; clear hs; rw [Hzs.out] at r3 ⊢)
      | (go_at_call 18; refine (rzeros_s n _ hn).mono ?_; rintro e w' ⟨D, c2, rfl, r4, hs⟩; replace h0 := Stp.trans h0 hs; replace ha := RdL.keep ha hs; replace hb := RdL.keep hb hs; replace r3 := RdL.keep r3 hs; clear hs; rw [Hzs.out] at r4 ⊢)
      | (go_at_call 14; (with_reducible refine (rsame_s zs zs _ _ _ _ _ r3 r4 (by omega) (by omega)).mono ?_); rintro e w' ⟨rfl, hs⟩; replace h0 := Stp.trans h0 hs; replace ha := RdL.keep ha hs; replace hb := RdL.keep hb hs; clear hs r3 r4; rw [show (zs == zs) = true by simp])
      | (go_at_call 19; refine (rmay_s ls _ _ _ ha (by omega)).mono ?_; rintro e w' ⟨rfl, hs⟩; replace h0 := Stp.trans h0 hs; replace ha := RdL.keep ha hs; replace hb := RdL.keep hb hs; clear hs; rw [Hm.out])
      | (go_at_call 14; (with_reducible refine (rsame_s ls ks _ _ _ _ _ ha hb (by omega) (by omega)).mono ?_); rintro e w' ⟨rfl, hs⟩; replace h0 := Stp.trans h0 hs; replace ha := RdL.keep ha hs; replace hb := RdL.keep hb hs; clear hs; rw [Hsm.out])
      | (refine wpList_bytes _ rfl 9 31 (.tmp 69) rfl 5 Try.underlying9 Try.underlying31 Try.underlying5 ⟨s.toArray⟩ rfl (by simp [ByteArray.size]; unfold maxLen; omega) ?_; intro v1 w1 hv1 hg1 _; have hst := stp_of_grown hg1; obtain ⟨E, c5, rfl, r5⟩ := bytes_rd hv1; replace h0 := Stp.trans h0 hst; replace ha := RdL.keep ha hst; replace hb := RdL.keep hb hst; clear hv1 hg1 hst)
      | (obtain ⟨E, c5, w1, hr1, r5, hst⟩ := run_bytes w' s (by unfold maxLen; omega); rw [hr1]; clear hr1; simp only [Result.andThen]; rw [Oper.upon_value]; replace h0 := Stp.trans h0 hst; clear hst)
      | (go_at_call 20; refine (rzero_s s _ _ _ r5 (by omega)).mono ?_; rintro e w' ⟨rfl, hs⟩; replace h0 := Stp.trans h0 hs; replace ha := RdL.keep ha hs; replace hb := RdL.keep hb hs; clear hs r5; rw [Hz.out])
      | (go_at_call 21; refine (many_s n _ hn hn').mono ?_; rintro e w' ⟨rfl, hs⟩; replace h0 := Stp.trans h0 hs; replace ha := RdL.keep ha hs; replace hb := RdL.keep hb hs; clear hs; rw [Hx.out])
      | (go_at_call 22; refine (rmany_s n _ hn hn').mono ?_; rintro e w' ⟨rfl, hs⟩; replace h0 := Stp.trans h0 hs; replace ha := RdL.keep ha hs; replace hb := RdL.keep hb hs; clear hs; rw [Hx.out])
      | (go_at_call 23; refine (may_s ls _ _ _ ha (by omega)).mono ?_; rintro e w' ⟨rfl, hs⟩; replace h0 := Stp.trans h0 hs; replace ha := RdL.keep ha hs; replace hb := RdL.keep hb hs; clear hs; rw [Hm.out])
      | (go_at_call 24; refine (same_s ls ks _ _ _ _ _ ha hb (by omega) (by omega)).mono ?_; rintro e w' ⟨rfl, hs⟩; replace h0 := Stp.trans h0 hs; clear hs; rw [Hsm.out])
      | (go_at_call 25; refine (zero_s s _ _ _ r5 (by omega)).mono ?_; rintro e w' ⟨rfl, hs⟩; replace h0 := Stp.trans h0 hs; clear hs; rw [Hz.out]))
    all_goals go_ret
    all_goals first | exact ⟨rfl, h0⟩ | (refine ⟨?_, h0⟩; simp)
  · obtain ⟨x, hx⟩ : ∃ x, fewV ls = x := ⟨_, rfl⟩
    obtain ⟨y, hy⟩ : ∃ y, fewV ks = y := ⟨_, rfl⟩
    have key : x = false ∨ (x = true ∧ y = false) ∨ (x = true ∧ y = true ∧ decide ((5000 : Int) < (s.length : Int)) = true) := by
      rw [hx, hy] at hin
      cases x
      · exact .inl rfl
      · cases y
        · exact .inr (.inl ⟨rfl, rfl⟩)
        · exact .inr (.inr ⟨rfl, rfl, decide_eq_true (by simp at hin; omega)⟩)
    have Hx := Lib.hid hx
    have Hy := Lib.hid hy
    clear hin hx hy
    rcases key with rfl | ⟨rfl, rfl⟩ | ⟨rfl, rfl, g⟩
    all_goals
      go_enter Try.func3, Try.ntmps3
      go_wp2_with (first
        | (go_at_call 10; refine (awake_s _).mono ?_; rintro e w' ⟨rfl, hs⟩; replace h0 := Stp.trans h0 hs; replace ha := RdL.keep ha hs; replace hb := RdL.keep hb hs; clear hs)
        | (go_at_call 11; (with_reducible refine (few_s ls _ _ _ ha (by omega) Hls.out).mono ?_); rintro e w' ⟨rfl, hs⟩; replace h0 := Stp.trans h0 hs; replace ha := RdL.keep ha hs; replace hb := RdL.keep hb hs; clear hs; rw [Hx.out])
        | (go_at_call 11; (with_reducible refine (few_s ks _ _ _ hb (by omega) Hks.out).mono ?_); rintro e w' ⟨rfl, hs⟩; replace h0 := Stp.trans h0 hs; replace ha := RdL.keep ha hs; replace hb := RdL.keep hb hs; clear hs; rw [Hy.out]))
      all_goals go_ret
      all_goals exact ⟨rfl, h0⟩
end Go.Proofs.Ytfjkikodljdbeaa.Block
