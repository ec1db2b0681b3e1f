/-
  The statements' helpers for records (FewRecs, awake): no statement is proved here.
-/
import Derived.Test.YtgjdbbhfgfodlaaRecG
namespace Go.Proofs.Ytgjdbbhfgfodlaa.Rec
open Go.RowKit Go.Shelf Go.Proofs.Ytgjdbbhfgfodlaa.Str Go.Proofs.Ytgjdbbhfgfodlaa.Base Go.Proofs.Ytgjdbbhfgfodlaa.BlockM Go.Proofs.Ytgjdbbhfgfodlaa.RecM

/-- At most 60 records, of at most 12000 bytes each, and 100000 together. -/
def fewR (rs : List L) : Bool := decide (rs.length ≤ 60) && decide (rs.flatten.length ≤ 100000) && rs.all fun r => decide (r.length ≤ 12000)
theorem fewR_iff {rs : List L} : fewR rs = true ↔ (rs.length ≤ 60 ∧ rs.flatten.length ≤ 100000) ∧ ∀ r ∈ rs, r.length ≤ 12000 := by simp [fewR]
theorem flat_len {rs : List L} {k : Nat} {r : L} (h : rs[k]? = some r) : (rs.take (k + 1)).flatten.length = (rs.take k).flatten.length + r.length := by
  rw [List.take_add_one, h]
  simp

set_option maxRecDepth 100000 in
set_option maxHeartbeats 1000000 in
theorem fewr_s (rs : List L) (A : Option Addr) (c : Nat) (w : World) (ha : RdL w A c rs) (hl : rs.length < 9223372036854775808) (hls : ∀ r ∈ rs, r.length < 9223372036854775808) :
    Calls Try.prog 19 #[.slice A rs.length c] w fun e w' => e = .returned (.bool (fewR rs)) ∧ Stp w w' := by
  obtain ⟨q, hq⟩ : ∃ q, fewR rs = q := ⟨_, rfl⟩
  rw [hq]
  have Hq := Lib.hid hq
  have Hls := Lib.hid hls
  have Ha := Lib.hid ha
  clear hq hls ha
  go_enter Try.func19, Try.ntmps19
  go_wp2_with fail
  go_loopw [3, 4] (fun n i wr => ∃ k s : Nat, k ≤ rs.length ∧ k ≤ 61 ∧ s ≤ 12000 * k ∧ n = .int .i64 (s : Int) ∧ i = .int .i64 (k : Int) ∧ Hid (s = (rs.take k).flatten.length) ∧ Hid (∀ r ∈ rs.take k, r.length ≤ 12000) ∧ Stp w wr) (fun _ i _ => 62 - (intOf i).toNat)
  case atStart => exact ⟨0, 0, by omega, by omega, by omega, rfl, rfl, Lib.hid (by simp), Lib.hid (by simp), Stp.refl w⟩
  case round =>
    obtain ⟨k, s, hk, hk6, hsk, rfl, rfl, Hsum, Hall, h0⟩ := hrel
    by_cases hlt : k < rs.length ∧ k ≤ 60
    · obtain ⟨r, hr⟩ : ∃ r, rs[k]? = some r := ⟨_, List.getElem?_eq_getElem hlt.1⟩
      obtain ⟨g, o, A1, c1, rfl, ca, ra⟩ := (Ha.out.keep h0).at_ hr
      obtain ⟨y, hy⟩ : ∃ y, r.length = y := ⟨_, rfl⟩
      have hyl : y < 9223372036854775808 := by rw [← hy]; exact Hls.out r (List.mem_of_getElem? hr)
      rw [hy] at ca
      have Hr := Lib.hid hr
      have Hy := Lib.hid hy
      have Hstep := Lib.hid (flat_len hr)
      obtain ⟨hk1, hk2⟩ := hlt
      clear ra hr hy
      by_cases h12 : y ≤ 12000
      · have g3 : decide ((12000 : Int) < (y : Int)) = false := decide_eq_false (by omega)
        go_wp2_with fail
        go_roundw
        case rel =>
          refine ⟨k + 1, s + y, ?_, by omega, by omega, by go_num, by go_num, Lib.hid ?_, Lib.hid ?_, h0⟩
          · have := (List.getElem?_eq_some_iff.1 Hr.out).1
            omega
          · rw [Hstep.out, Hsum.out, Hy.out]
          · intro x hx
            rw [List.take_add_one, Hr.out] at hx
            rcases List.mem_append.1 hx with h | h
            · exact Hall.out x h
            · simp at h
              rw [h, Hy.out]
              exact h12
        case measure => simp [intOf]; omega
      · have g3 : decide ((12000 : Int) < (y : Int)) = true := decide_eq_true (by omega)
        go_wp2_with fail
        go_ret
        refine ⟨?_, h0⟩
        have e : q = false := by
          rw [← Hq.out, Bool.eq_false_iff]
          intro h
          have := (fewR_iff.1 h).2 r (List.mem_of_getElem? Hr.out)
          rw [Hy.out] at this
          exact h12 this
        rw [e]
        rfl
    · by_cases h61 : 60 < rs.length
      · obtain rfl : k = 61 := by omega
        have e : q = false := by
          rw [← Hq.out, Bool.eq_false_iff]
          intro h
          have := (fewR_iff.1 h).1.1
          omega
        have g4 : ¬ ((rs.length : Int) ≤ 60) := by omega
        clear hlt
        go_wp2_with fail
        all_goals go_ret
        all_goals
          refine ⟨?_, h0⟩
          first | rfl | (rw [e]; rfl)
      · obtain rfl : k = rs.length := by omega
        have e : q = decide (s ≤ 100000) := by
          rw [← Hq.out, Bool.eq_iff_iff, fewR_iff, decide_eq_true_eq, Hsum.out, List.take_length]
          refine ⟨fun h => h.1.2, fun h => ⟨⟨by omega, h⟩, fun r hr => Hall.out r (by rw [List.take_length]; exact hr)⟩⟩
        clear hlt
        have g4 : ((rs.length : Int) ≤ 60) := by omega
        by_cases hs : s ≤ 100000
        · rw [decide_eq_true hs] at e
          have g5 : ((s : Int) ≤ 100000) := by omega
          go_wp2_with fail
          all_goals go_ret
          all_goals
            refine ⟨?_, h0⟩
            first | rfl | (rw [e]; rfl)
        · rw [decide_eq_false hs] at e
          have g5 : ¬ ((s : Int) ≤ 100000) := by omega
          go_wp2_with fail
          all_goals go_ret
          all_goals
            refine ⟨?_, h0⟩
            first | rfl | (rw [e]; rfl)

theorem cell_stp {W X : World} (h : Stp W X) {a : Addr} {v : Value} (hc : W.cell? a = some v) : X.cell? a = some v := (h.cell (World.block_lt_of_cell? W a hc)).trans hc
theorem group_n (b : Int) (ls : List (List UInt8)) (m : Nat) (hm : ls.length = m) (A : Option Addr) (c : Nat) (w : World) (ha : RdL w A c ls) (hl : m < 9223372036854775808) :
    Calls Try.prog 20 #[.slice A m c, .int .i64 b] w fun e w' => ∃ B d, e = .returned (.tuple #[.slice B (groupV ls b).length d, .bool (groupB ls b)]) ∧ RdL w' B d (groupV ls b) ∧ Stp w w' := by
  subst hm
  exact group_s b ls A c w ha hl
theorem blocks_n (rs : List L) (m : Nat) (hm : rs.length = m) (A : Option Addr) (c : Nat) (w : World) (ha : RdL w A c rs) (hl : m ≤ 4000) (hls : ∀ r ∈ rs, r.length < 9223372036854775808) :
    Calls Try.prog 22 #[.slice A m c] w fun e w' => ∃ B d, e = .returned (.tuple #[.slice B (blocksV rs).length d, .bool (blocksB rs)]) ∧ RdL w' B d (blocksV rs) ∧ Stp w w' := by
  subst hm
  exact blocks_s rs A c w ha hl hls
theorem may_n (r : L) (m : Nat) (hm : r.length = m) (A : Option Addr) (c : Nat) (w : World) (hl : m < 9223372036854775808) :
    Calls Try.prog 26 #[.slice A m c] w fun e w' => e = .returned (.bool (mayR r)) ∧ Stp w w' := by
  subst hm
  exact may_s r A c w hl
theorem rsame_n (ls ms : List L) (j k : Nat) (hj : ls.length = j) (hk : ms.length = k) (A B : Option Addr) (c d : Nat) (w : World) (ha : RdL w A c ls) (hb : RdL w B d ms) (hl : j < 9223372036854775808) (hm : k < 9223372036854775808) :
    Calls Try.prog 24 #[.slice A j c, .slice B k d] w fun e w' => e = .returned (.bool (ls == ms)) ∧ Stp w w' := by
  subst hj hk
  exact Block.rsame_s ls ms A B c d w ha hb hl hm

/-- The chapter's example. -/
theorem ex_facts (z : List L) (hz : zerosV 5 = z) : z.length = 5 ∧ groupB z 2 = true ∧ (groupV z 2).length = 3 ∧ blocksB (groupV z 2) = true ∧ (blocksV (groupV z 2)).length = 6 ∧ (∀ r ∈ groupV z 2, r.length = 1024 ∧ mayR r = true) ∧ rmanyV 5 2 = 3 := by
  have hz' : z = blks 5 [] := by rw [← hz, zerosV_yes (by omega)]; rfl
  have hl : z.length = 5 := by rw [hz', blks_length]
  have hm : mayV z = true := by rw [hz']; exact blks_may _ _
  have hG : groupB z 2 = true := groupB_iff.2 ⟨⟨by omega, by omega⟩, by omega, hm⟩
  have hr : rmanyV 5 2 = 3 := by decide
  have hg : (groupV z 2).length = 3 := by
    have := groupV_length z hG
    rw [hl, show ((5 : Nat) : Int) = 5 from rfl, hr] at this
    omega
  obtain ⟨hB, d, hd, e1, e2⟩ := back hG
  rw [hl, hg] at e2
  refine ⟨hl, hG, hg, hB, ?_, fun r hr => ?_, hr⟩
  · rw [e1, List.length_append, List.length_replicate, hl]
    omega
  · have := group_512 hG r hr
    exact ⟨by omega, mayR_iff.2 ⟨by omega, by omega, by omega⟩⟩

set_option maxRecDepth 100000 in
set_option maxHeartbeats 1000000 in
theorem awake_s (w : World) : Calls Try.prog 17 #[] w fun e w' => e = .returned (.bool true) ∧ Stp w w' := by
  have h0 := Stp.refl w
  obtain ⟨z, hz⟩ : ∃ z, zerosV 5 = z := ⟨_, rfl⟩
  obtain ⟨f1, f2, f3, f4, f5, f6, f7⟩ := ex_facts z hz
  obtain ⟨r, hr⟩ : ∃ r, (groupV z 2)[0]? = some r := ⟨_, List.getElem?_eq_getElem (by omega)⟩
  obtain ⟨f8, f9⟩ := f6 r (List.mem_of_getElem? hr)
  have Hz := Lib.hid hz
  have F1 := Lib.hid f1
  have F2 := Lib.hid f2
  have F3 := Lib.hid f3
  have F4 := Lib.hid f4
  have F5 := Lib.hid f5
  have F6 := Lib.hid f6
  have F7 := Lib.hid f7
  have F8 := Lib.hid f8
  have F9 := Lib.hid f9
  have Hr := Lib.hid hr
  clear hz f1 f2 f3 f4 f5 f6 f7 f8 f9 hr
  go_enter Try.func17, Try.ntmps17
  go_wp2_with (first
    | (go_at_call 13; refine (Block.zeros_s 5 _).mono ?_; rintro e w1 ⟨A, c, rfl, ha, hs⟩; rw [Hz.out] at ha ⊢; rw [F1.out]; replace h0 := Stp.trans h0 hs; have Ha := Lib.hid ha; clear hs ha)
    | (go_at_call 20; refine (group_n 2 z 5 F1.out _ _ _ Ha.out (by omega)).mono ?_; rintro e w2 ⟨B, d, rfl, hb, hs⟩; rw [F2.out, F3.out]; obtain ⟨g, o, A1, c1, rfl, ca, -⟩ := hb.at_ Hr.out; rw [F8.out, Nat.add_zero] at ca; replace h0 := Stp.trans h0 hs; have Hb := Lib.hid hb; clear hs hb)
    | (go_at_call 22; refine (blocks_n (groupV z 2) 3 F3.out _ _ _ Hb.out (by omega) (fun r hr => by have := (F6.out r hr).1; omega)).mono ?_; rintro e w3 ⟨C, e3, rfl, -, hs⟩; rw [F4.out, F5.out]; replace h0 := Stp.trans h0 hs; replace ca := (cell_stp hs ca); clear hs)
    | (go_at_call 27; refine (many_s 5 2 _ (by omega) (by omega)).mono ?_; rintro e w4 ⟨rfl, hs⟩; rw [F7.out]; replace h0 := Stp.trans h0 hs; replace ca := (cell_stp hs ca); clear hs)
    | (go_at_call 26; refine (may_n r 1024 F8.out _ _ _ (by omega)).mono ?_; rintro e w5 ⟨rfl, hs⟩; rw [F9.out]; replace h0 := Stp.trans h0 hs; clear hs))

  all_goals go_ret
  all_goals exact ⟨rfl, h0⟩
end Go.Proofs.Ytgjdbbhfgfodlaa.Rec
