/-
  The statements' helper FewRecs: no statement is proved here.
-/
import Derived.Test.YtaknnkcfoafkdaaBase
import Derived.Test.YtaknnkcfoafkdaaRecM
namespace Go.Proofs.Ytaknnkcfoafkdaa.Rec
open Go.RowKit Go.Proofs.Ytaknnkcfoafkdaa.Str Go.Proofs.Ytaknnkcfoafkdaa.Base Go.Proofs.Ytaknnkcfoafkdaa.BlockM Go.Proofs.Ytaknnkcfoafkdaa.RecM

/-- At most 60 records, of at most 12000 bytes each, and 100000 together. -/
def fewR (rs : List L) : Bool := decide (rs.length ≤ 60) && decide (rs.flatten.length ≤ 100000) && rs.all fun r => decide (r.length ≤ 12000)
theorem fewR_iff {rs : List L} : fewR rs = true ↔ (rs.length ≤ 60 ∧ rs.flatten.length ≤ 100000) ∧ ∀ r ∈ rs, r.length ≤ 12000 := by simp [fewR]
theorem flat_len {rs : List L} {k : Nat} {r : L} (h : rs[k]? = some r) : (rs.take (k + 1)).flatten.length = (rs.take k).flatten.length + r.length := by
  rw [List.take_add_one, h]
  simp

set_option maxRecDepth 100000 in
set_option maxHeartbeats 1000000 in
theorem fewr_s (rs : List L) (A : Option Addr) (c : Nat) (w : World) (ha : RdL w A c rs) (hl : rs.length < 9223372036854775808) (hls : ∀ r ∈ rs, r.length < 9223372036854775808) :
    Calls Try.prog 32 #[.slice A rs.length c] w fun e w' => e = .returned (.bool (fewR rs)) ∧ Stp w w' := by
  obtain ⟨q, hq⟩ : ∃ q, fewR rs = q := ⟨_, rfl⟩
  rw [hq]
  have Hq := Lib.hid hq
  have Hls := Lib.hid hls
  have Ha := Lib.hid ha
  clear hq hls ha
  go_enter Try.func32, Try.ntmps32
  go_wp2_with fail
  go_loopw [3, 4] (fun n i wr => ∃ k s : Nat, k ≤ rs.length ∧ k ≤ 61 ∧ s ≤ 12000 * k ∧ n = .int .i64 (s : Int) ∧ i = .int .i64 (k : Int) ∧ Hid (s = (rs.take k).flatten.length) ∧ Hid (∀ r ∈ rs.take k, r.length ≤ 12000) ∧ Stp w wr) (fun _ i _ => 62 - (intOf i).toNat)
  case atStart => exact ⟨0, 0, by omega, by omega, by omega, rfl, rfl, Lib.hid (by simp), Lib.hid (by simp), Stp.refl w⟩
  case round =>
    obtain ⟨k, s, hk, hk6, hsk, rfl, rfl, Hsum, Hall, h0⟩ := hrel
    by_cases hlt : k < rs.length ∧ k ≤ 60
    · obtain ⟨r, hr⟩ : ∃ r, rs[k]? = some r := ⟨_, List.getElem?_eq_getElem hlt.1⟩
      obtain ⟨g, o, A1, c1, rfl, ca, ra⟩ := (Ha.out.keep h0).at_ hr
      obtain ⟨y, hy⟩ : ∃ y, r.length = y := ⟨_, rfl⟩
      have hyl : y < 9223372036854775808 := by rw [← hy]; exact Hls.out r (List.mem_of_getElem? hr)
      rw [hy] at ca
      have Hr := Lib.hid hr
      have Hy := Lib.hid hy
      have Hstep := Lib.hid (flat_len hr)
      obtain ⟨hk1, hk2⟩ := hlt
      clear ra hr hy
      by_cases h12 : y ≤ 12000
      · have g3 : decide ((12000 : Int) < (y : Int)) = false := decide_eq_false (by omega)
        go_wp2_with fail
        go_roundw
        case rel =>
          refine ⟨k + 1, s + y, ?_, by omega, by omega, by go_num, by go_num, Lib.hid ?_, Lib.hid ?_, h0⟩
          · have := (List.getElem?_eq_some_iff.1 Hr.out).1
            omega
          · rw [Hstep.out, Hsum.out, Hy.out]
          · intro x hx
            rw [List.take_add_one, Hr.out] at hx
            rcases List.mem_append.1 hx with h | h
            · exact Hall.out x h
            · simp at h
              rw [h, Hy.out]
              exact h12
        case measure => simp [intOf]; omega
      · have g3 : decide ((12000 : Int) < (y : Int)) = true := decide_eq_true (by omega)
        go_wp2_with fail
        go_ret
        refine ⟨?_, h0⟩
        have e : q = false := by
          rw [← Hq.out, Bool.eq_false_iff]
          intro h
          have := (fewR_iff.1 h).2 r (List.mem_of_getElem? Hr.out)
          rw [Hy.out] at this
          exact h12 this
        rw [e]
        rfl
    · by_cases h61 : 60 < rs.length
      · obtain rfl : k = 61 := by omega
        have e : q = false := by
          rw [← Hq.out, Bool.eq_false_iff]
          intro h
          have := (fewR_iff.1 h).1.1
          omega
        have g4 : ¬ ((rs.length : Int) ≤ 60) := by omega
        clear hlt
        go_wp2_with fail
        all_goals go_ret
        all_goals
          refine ⟨?_, h0⟩
          first | rfl | (rw [e]; rfl)
      · obtain rfl : k = rs.length := by omega
        have e : q = decide (s ≤ 100000) := by
          rw [← Hq.out, Bool.eq_iff_iff, fewR_iff, decide_eq_true_eq, Hsum.out, List.take_length]
          refine ⟨fun h => h.1.2, fun h => ⟨⟨by omega, h⟩, fun r hr => Hall.out r (by rw [List.take_length]; exact hr)⟩⟩
        clear hlt
        have g4 : ((rs.length : Int) ≤ 60) := by omega
        by_cases hs : s ≤ 100000
        · rw [decide_eq_true hs] at e
          have g5 : ((s : Int) ≤ 100000) := by omega
          go_wp2_with fail
          all_goals go_ret
          all_goals
            refine ⟨?_, h0⟩
            first | rfl | (rw [e]; rfl)
        · rw [decide_eq_false hs] at e
          have g5 : ¬ ((s : Int) ≤ 100000) := by omega
          go_wp2_with fail
          all_goals go_ret
          all_goals
            refine ⟨?_, h0⟩
            first | rfl | (rw [e]; rfl)

theorem fewr_n (rs : List L) (m : Nat) (hm : rs.length = m) (A : Option Addr) (c : Nat) (w : World) (ha : RdL w A c rs) (hl : m < 9223372036854775808) (hls : ∀ r ∈ rs, r.length < 9223372036854775808) :
    Calls Try.prog 32 #[.slice A m c] w fun e w' => e = .returned (.bool (fewR rs)) ∧ Stp w w' := by
  subst hm
  exact fewr_s rs A c w ha hl hls
end Go.Proofs.Ytaknnkcfoafkdaa.Rec
