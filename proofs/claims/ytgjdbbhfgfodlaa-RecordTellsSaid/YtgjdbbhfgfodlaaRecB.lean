/-
  The laws RecordBack and RecordAgain of records, walked over the contracts: no statement is proved here.
-/
import Derived.Test.YtgjdbbhfgfodlaaRecW
namespace Go.Proofs.Ytgjdbbhfgfodlaa.Rec
open Go.RowKit Go.Shelf Go.Proofs.Ytgjdbbhfgfodlaa.Str Go.Proofs.Ytgjdbbhfgfodlaa.Base Go.Proofs.Ytgjdbbhfgfodlaa.BlockM Go.Proofs.Ytgjdbbhfgfodlaa.RecM

theorem slice_zero (A : Option Addr) (N c : Nat) (w : World) : (Instr.slice 27 (.slice A N c) none (some (.int .i64 0)) none).run Try.prog w = .ok (.slice A 0 c) w := by
  have he : Try.prog.elem 27 = 24 := by kernel_rfl
  rw [run_slice_h (P := Try.prog) w 27 _ _ _ (by rw [he]; exact Try.underlying27) .i64 0 (by omega) (by omega), he, Entry.sl_size]
  simp only [Result.andThen_ok, sliced]
  by_cases hc : c = 0
  · rw [if_pos (by omega)]
    subst hc
    rfl
  · rw [if_neg (by omega)]
    cases A with
    | none => rfl
    | some a =>
      cases a with
      | mk b o s => cases s <;> rfl
/-- The first n of a list of blocks. -/
theorem cut_to {w : World} {A : Option Addr} {c N n : Nat} {ls : List L} (h : RdL w A c ls) (hN : ls.length = N) (hn : n ≤ N) (X : World) : (Instr.slice 27 (.slice A N c) none (some (.int .i64 (n : Int))) none).run Try.prog X = .ok (.slice A n c) X := by
  by_cases hne : ls = []
  · subst hne
    obtain rfl : n = 0 := by simp at hN; omega
    exact slice_zero A N c X
  · obtain ⟨g, o, rfl⟩ := rdL_form h hne
    have := h.length_le
    exact Entry.slice_to g o N c n (by omega) X

theorem zero_n (l : L) (m : Nat) (hm : l.length = m) (A : Option Addr) (c : Nat) (w : World) (ha : RdA w A c (bs l)) (hl : m < 9223372036854775808) :
    Calls Try.prog 16 #[.slice A m c] w fun e w' => e = .returned (.bool (zeroV l)) ∧ Stp w w' := by
  subst hm
  exact Block.zero_s l A c w ha hl
theorem fewr_n (rs : List L) (m : Nat) (hm : rs.length = m) (A : Option Addr) (c : Nat) (w : World) (ha : RdL w A c rs) (hl : m < 9223372036854775808) (hls : ∀ r ∈ rs, r.length < 9223372036854775808) :
    Calls Try.prog 19 #[.slice A m c] w fun e w' => e = .returned (.bool (fewR rs)) ∧ Stp w w' := by
  subst hm
  exact fewr_s rs A c w ha hl hls

theorem back_facts (ls : List L) (b : Int) (hn : ls.length ≤ 60) (h : groupB ls b = true) (x y : List L) (hx : groupV ls b = x) (hy : blocksV x = y) :
    blocksB x = true ∧ (x.length : Int) = rmanyV ls.length b ∧ (y.length : Int) = b * (x.length : Int) ∧ ls.length ≤ y.length ∧ (y.length : Int) - (ls.length : Int) < b ∧ y.take ls.length = ls ∧ (∀ i, ls.length ≤ i → i < y.length → y[i]? = some (noughts 512)) ∧ x.length ≤ 60 ∧
      (∀ r ∈ x, r.length < 9223372036854775808) := by
  obtain ⟨hB, d, hd, e1, e2⟩ := back h
  have hgl := group_len ls b
  have h5 := group_512 h
  have hb := (groupB_iff.1 h).1
  have hl := groupV_length ls h
  rw [hx] at hB e1 e2 hgl h5 hl
  rw [hy] at e1
  have hyl : y.length = ls.length + d := by rw [e1, List.length_append, List.length_replicate]
  refine ⟨hB, hl, by rw [hyl]; exact e2, by omega, by omega, ?_, fun i h1 h2 => ?_, by omega, fun r hr => by have := h5 r hr; omega⟩
  · rw [e1, List.take_left' rfl]
  · rw [e1, List.getElem?_append_right h1, List.getElem?_replicate, if_pos (by omega)]

set_option maxRecDepth 100000 in
set_option maxHeartbeats 4000000 in
theorem back_out (ls : List L) (b : Int) (A : Option Addr) (c : Nat) (w : World) (ha : RdL w A c ls) (hl : ls.length < 9223372036854775808) (hls : ∀ l ∈ ls, l.length < 9223372036854775808) (hin : Block.fewV ls = false ∨ (Block.fewV ls = true ∧ groupB ls b = false)) :
    Calls Try.prog 5 #[.slice A ls.length c, .int .i64 b] w fun e w' => e = .returned (.bool true) ∧ Stp w w' := by
  have h0 := Stp.refl w
  have Hls := Lib.hid hls
  clear hls
  obtain ⟨f, hf⟩ : ∃ f, Block.fewV ls = f := ⟨_, rfl⟩
  obtain ⟨i, hi⟩ : ∃ i, groupB ls b = i := ⟨_, rfl⟩
  obtain ⟨m, hm⟩ : ∃ m, mayV ls = m := ⟨_, rfl⟩
  obtain ⟨x, hx⟩ : ∃ x, groupV ls b = x := ⟨_, rfl⟩
  have key : f = false ∨ (f = true ∧ i = false ∧ x = [] ∧ m = false) ∨ (f = true ∧ i = false ∧ x = [] ∧ m = true ∧ decide (b < 1) = true) ∨ (f = true ∧ i = false ∧ x = [] ∧ m = true ∧ decide (b < 1) = false ∧ decide (20 < b) = true) := by
    rw [hf, hi] at hin
    rcases hin with h | ⟨h1, h2⟩
    · exact .inl h
    · right
      have hx0 : x = [] := by rw [← hx, groupV_no (by rw [hi, h2])]
      have hn := (Block.fewV_iff.1 (by rw [hf, h1])).1
      cases m
      · exact .inl ⟨h1, h2, hx0, rfl⟩
      · right
        by_cases hb : b < 1
        · exact .inl ⟨h1, h2, hx0, rfl, decide_eq_true hb⟩
        · by_cases hb2 : 20 < b
          · exact .inr ⟨h1, h2, hx0, rfl, decide_eq_false hb, decide_eq_true hb2⟩
          · rw [h2, Bool.eq_false_iff, ne_eq, groupB_iff, hm] at hi
            exact absurd ⟨⟨by omega, by omega⟩, by omega, rfl⟩ hi
  have Hf := Lib.hid hf
  have Hi := Lib.hid hi
  have Hm := Lib.hid hm
  have Hx := Lib.hid hx
  clear hf hi hm hx hin
  rcases key with rfl | ⟨rfl, rfl, rfl, rfl⟩ | ⟨rfl, rfl, rfl, rfl, g1⟩ | ⟨rfl, rfl, rfl, rfl, g1, g2⟩
  all_goals
    go_enter Try.func5, Try.ntmps5
    go_wp2_with (first
      | (go_at_call 17; refine (awake_s _).mono ?_; rintro e w1 ⟨rfl, hs⟩; replace h0 := Stp.trans h0 hs; replace ha := RdL.keep ha hs; clear hs)
      | (go_at_call 18; (with_reducible refine (Block.few_s ls _ _ _ ha hl Hls.out).mono ?_); rintro e w2 ⟨rfl, hs⟩; rw [Hf.out]; replace h0 := Stp.trans h0 hs; replace ha := RdL.keep ha hs; clear hs)
      | (go_at_call 20; refine (group_s b ls _ _ _ ha hl).mono ?_; rintro e w4 ⟨C, c1, rfl, hr, hs⟩; rw [Hx.out, List.length_nil, Hi.out]; replace h0 := Stp.trans h0 hs; replace ha := RdL.keep ha hs; clear hs hr)
      | (go_at_call 29; refine (Block.may_s ls _ _ _ ha hl).mono ?_; rintro e w5 ⟨rfl, hs⟩; rw [Hm.out]; replace h0 := Stp.trans h0 hs; clear hs ha))
    all_goals go_ret
    all_goals exact ⟨rfl, h0⟩
set_option maxRecDepth 100000 in
set_option maxHeartbeats 4000000 in
theorem back_in (ls : List L) (b : Int) (A : Option Addr) (c : Nat) (w : World) (ha : RdL w A c ls) (hls : ∀ l ∈ ls, l.length < 9223372036854775808) (hf : Block.fewV ls = true) (hi : groupB ls b = true) :
    Calls Try.prog 5 #[.slice A ls.length c, .int .i64 b] w fun e w' => e = .returned (.bool true) ∧ Stp w w' := by
  have h0 := Stp.refl w
  have hn60 := (Block.fewV_iff.1 hf).1
  obtain ⟨x, hx⟩ : ∃ x, groupV ls b = x := ⟨_, rfl⟩
  obtain ⟨y, hy⟩ : ∃ y, blocksV x = y := ⟨_, rfl⟩
  obtain ⟨f1, f2, f3, f4, f5, f6, f7, f8, f9⟩ := back_facts ls b hn60 hi x y hx hy
  have hb := (groupB_iff.1 hi).1
  obtain ⟨n, hn⟩ : ∃ n, ls.length = n := ⟨_, rfl⟩
  obtain ⟨xl, hxl⟩ : ∃ n, x.length = n := ⟨_, rfl⟩
  obtain ⟨yl, hyl⟩ : ∃ n, y.length = n := ⟨_, rfl⟩
  rw [hn] at hn60 f2 f4 f5 f6 f7
  rw [hxl] at f2 f3 f8
  rw [hyl] at f3 f4 f5 f7
  rw [hn]
  obtain ⟨hb1, hb2⟩ := hb
  have Hls := Lib.hid hls
  have Hf := Lib.hid hf
  have Hi := Lib.hid hi
  have Hx := Lib.hid hx
  have Hy := Lib.hid hy
  have Hn := Lib.hid hn
  have Hxl := Lib.hid hxl
  have Hyl := Lib.hid hyl
  have F1 := Lib.hid f1
  have F2 := Lib.hid f2.symm
  have F6 := Lib.hid f6
  have F7 := Lib.hid f7
  have F9 := Lib.hid f9
  have hyl2 : yl ≤ 80 := by omega
  have g1 : b * (xl : Int) = (yl : Int) := f3.symm
  have g2 : ((xl : Int) != (xl : Int)) = false := by simp
  have g3 : ((yl : Int) != (yl : Int)) = false := by simp
  have g4 : decide (yl < n) = false := decide_eq_false (by omega)
  have g5 : decide (b ≤ (yl : Int) - (n : Int)) = false := decide_eq_false (by omega)
  clear hls hf hi hx hy hn hxl hyl f1 f2 f3 f6 f7 f9
  go_enter Try.func5, Try.ntmps5
  go_wp2_with (first
    | (go_at_call 17; refine (awake_s _).mono ?_; rintro e w1 ⟨rfl, hs⟩; replace h0 := Stp.trans h0 hs; replace ha := RdL.keep ha hs; clear hs)
    | (go_at_call 18; (with_reducible refine (few_n ls _ Hn.out _ _ _ ha (by omega) Hls.out).mono ?_); rintro e w2 ⟨rfl, hs⟩; rw [Hf.out]; replace h0 := Stp.trans h0 hs; replace ha := RdL.keep ha hs; clear hs)
    | (go_at_call 20; refine (group_n b ls _ Hn.out _ _ _ ha (by omega)).mono ?_; rintro e w4 ⟨C, c1, rfl, hr, hs⟩; rw [Hx.out] at hr ⊢; rw [Hxl.out, Hi.out]; have rx := hr; replace h0 := Stp.trans h0 hs; replace ha := RdL.keep ha hs; clear hs hr)
    | (go_at_call 22; refine (blocks_n x _ Hxl.out _ _ _ rx (by omega) F9.out).mono ?_; rintro e w5 ⟨D, c2, rfl, hr, hs⟩; rw [Hy.out] at hr ⊢; rw [Hyl.out, F1.out]; have ry := hr; replace h0 := Stp.trans h0 hs; replace ha := RdL.keep ha hs; clear hs hr rx)
    | (go_at_call 27; refine (many_s _ b _ (by omega) (by omega)).mono ?_; rintro e w6 ⟨rfl, hs⟩; rw [F2.out]; replace h0 := Stp.trans h0 hs; replace ha := RdL.keep ha hs; replace ry := RdL.keep ry hs; clear hs))
  go_loopw [11] (fun i wr => ∃ j : Nat, n ≤ j ∧ j ≤ yl ∧ i = .int .i64 (j : Int) ∧ Hid (Stp w6 wr)) (fun i _ => yl - (intOf i).toNat)
  case atStart => exact ⟨n, by omega, by omega, rfl, Lib.hid (Stp.refl _)⟩
  case round =>
    obtain ⟨j, hj1, hj2, rfl, Hs⟩ := hrel
    by_cases hlt : j < yl
    · have hz := F7.out j hj1 hlt
      obtain ⟨g, o, A1, c1', rfl, ca, ra⟩ := (ry.keep Hs.out).at_ hz
      rw [noughts_length] at ca
      have Hra := Lib.hid ra
      have Hzz : Hid (zeroV (noughts 512) = true) := Lib.hid (by rw [zeroV_iff, noughts_length])
      clear ra hz
      go_wp2_with (go_at_call 16; refine (zero_n (noughts 512) 512 (noughts_length 512) _ _ _ Hra.out (by omega)).mono ?_; rintro e w7 ⟨rfl, hs⟩; rw [Hzz.out]; replace Hs := Lib.hid (Stp.trans Hs.out hs); clear hs)
      go_roundw
      case rel =>
        exact ⟨j + 1, by omega, by omega, by go_num, Hs⟩
      case measure => simp [intOf]; omega
    · obtain rfl : j = yl := by omega
      have hcut := cut_to ry Hyl.out f4
      have rt := Entry.rdL_take (ry.keep Hs.out) n
      rw [F6.out] at rt
      have ha2 := ha.keep Hs.out
      have Hse : Hid ((ls == ls) = true) := Lib.hid (by simp)
      go_wp2_with (go_at_call 24; refine (rsame_n ls ls _ _ Hn.out Hn.out _ _ _ _ _ rt ha2 (by omega) (by omega)).mono ?_; rintro e w7 ⟨rfl, hs⟩; rw [Hse.out]; replace Hs := Lib.hid (Stp.trans Hs.out hs); clear hs rt ha2)
      go_ret
      exact ⟨rfl, Stp.trans h0 Hs.out⟩
/-- RecordBack, at any arguments. -/
theorem back_walk (ls : List L) (b : Int) (A : Option Addr) (c : Nat) (w : World) (ha : RdL w A c ls) (hl : ls.length < 9223372036854775808) (hls : ∀ l ∈ ls, l.length < 9223372036854775808) :
    Calls Try.prog 5 #[.slice A ls.length c, .int .i64 b] w fun e w' => e = .returned (.bool true) ∧ Stp w w' := by
  cases hf : Block.fewV ls
  · exact back_out ls b A c w ha hl hls (.inl hf)
  · cases hi : groupB ls b
    · exact back_out ls b A c w ha hl hls (.inr ⟨hf, hi⟩)
    · exact back_in ls b A c w ha hls hf hi

set_option maxRecDepth 100000 in
set_option maxHeartbeats 4000000 in
theorem again_out (rs : List L) (b : Int) (A : Option Addr) (c : Nat) (w : World) (ha : RdL w A c rs) (hl : rs.length < 9223372036854775808) (hls : ∀ l ∈ rs, l.length < 9223372036854775808) (hin : fewR rs = false ∨ (fewR rs = true ∧ decide (b < 1) = true) ∨ (fewR rs = true ∧ decide (b < 1) = false ∧ decide (20 < b) = true)) :
    Calls Try.prog 6 #[.slice A rs.length c, .int .i64 b] w fun e w' => e = .returned (.bool true) ∧ Stp w w' := by
  have h0 := Stp.refl w
  have Hls := Lib.hid hls
  clear hls
  obtain ⟨f, hf⟩ : ∃ f, fewR rs = f := ⟨_, rfl⟩
  rw [hf] at hin
  have Hf := Lib.hid hf
  clear hf
  rcases hin with rfl | ⟨rfl, g1⟩ | ⟨rfl, g1, g2⟩
  all_goals
    go_enter Try.func6, Try.ntmps6
    go_wp2_with (first
      | (go_at_call 17; refine (awake_s _).mono ?_; rintro e w1 ⟨rfl, hs⟩; replace h0 := Stp.trans h0 hs; replace ha := RdL.keep ha hs; clear hs)
      | (go_at_call 19; refine (fewr_s rs _ _ _ ha hl Hls.out).mono ?_; rintro e w2 ⟨rfl, hs⟩; rw [Hf.out]; replace h0 := Stp.trans h0 hs; replace ha := RdL.keep ha hs; clear hs))
    all_goals go_ret
    all_goals exact ⟨rfl, h0⟩

set_option maxRecDepth 100000 in
set_option maxHeartbeats 4000000 in
theorem again_in (rs : List L) (b : Int) (A : Option Addr) (c : Nat) (w : World) (ha : RdL w A c rs) (hls : ∀ l ∈ rs, l.length < 9223372036854775808) (hf : fewR rs = true) (hb1 : 1 ≤ b) (hb2 : b ≤ 20) :
    Calls Try.prog 6 #[.slice A rs.length c, .int .i64 b] w fun e w' => e = .returned (.bool true) ∧ Stp w w' := by
  have h0 := Stp.refl w
  have hn60 := (fewR_iff.1 hf).1.1
  obtain ⟨n, hn⟩ : ∃ n, rs.length = n := ⟨_, rfl⟩
  rw [hn] at hn60 ⊢
  have g1 : decide (b < 1) = false := decide_eq_false (by omega)
  have g2 : decide (20 < b) = false := decide_eq_false (by omega)
  have Hls := Lib.hid hls
  have Hf := Lib.hid hf
  have Hn := Lib.hid hn
  clear hls hf hn
  go_enter Try.func6, Try.ntmps6
  go_wp2_with (first
    | (go_at_call 17; refine (awake_s _).mono ?_; rintro e w1 ⟨rfl, hs⟩; replace h0 := Stp.trans h0 hs; replace ha := RdL.keep ha hs; clear hs)
    | (go_at_call 19; refine (fewr_n rs _ Hn.out _ _ _ ha (by omega) Hls.out).mono ?_; rintro e w2 ⟨rfl, hs⟩; rw [Hf.out]; replace h0 := Stp.trans h0 hs; replace ha := RdL.keep ha hs; clear hs))
  go_loopw [7] (fun i wr => ∃ j : Nat, j ≤ n ∧ i = .int .i64 (j : Int) ∧ wr = w2 ∧ Hid (∀ r ∈ rs.take j, (r.length : Int) = 512 * b)) (fun i _ => n - (intOf i).toNat)
  case atStart => exact ⟨0, by omega, rfl, rfl, Lib.hid (by simp)⟩
  case round =>
    obtain ⟨j, hj, rfl, rfl, Hall⟩ := hrel
    by_cases hlt : j < n
    · obtain ⟨r, hr⟩ : ∃ r, rs[j]? = some r := ⟨_, List.getElem?_eq_getElem (by have := Hn.out; omega)⟩
      obtain ⟨g, o, A1, c1, rfl, ca, -⟩ := ha.at_ hr
      obtain ⟨y, hy⟩ : ∃ y, r.length = y := ⟨_, rfl⟩
      have hyl := Hls.out r (List.mem_of_getElem? hr)
      rw [hy] at ca hyl
      have Hr := Lib.hid hr
      have Hy := Lib.hid hy
      clear hr hy
      by_cases he : (y : Int) = 512 * b
      · have g3 : ((y : Int) != 512 * b) = false := by simp [he]
        have He := Lib.hid he
        clear he
        go_wp2_with fail
        go_roundw
        case rel =>
          refine ⟨j + 1, by omega, by go_num, trivial, Lib.hid fun x hx => ?_⟩
          rw [List.take_add_one, Hr.out] at hx
          rcases List.mem_append.1 hx with h | h
          · exact Hall.out x h
          · simp at h
            rw [h, Hy.out]
            exact He.out
        case measure => simp [intOf]; omega
      · have g3 : ((y : Int) != 512 * b) = true := by rw [bne_iff_ne]; exact he
        clear he
        go_wp2_with fail
        all_goals go_ret
        all_goals exact ⟨rfl, h0⟩
    · obtain rfl : j = n := by omega
      have hall : ∀ r ∈ rs, (r.length : Int) = 512 * b := fun r hr => Hall.out r (by rw [List.take_of_length_le (by rw [Hn.out]; exact Nat.le_refl _)]; exact hr)
      obtain ⟨a1, a2, a3⟩ := again hb1 hb2 hall (by have := Hn.out; omega)
      obtain ⟨y, hy⟩ : ∃ y, blocksV rs = y := ⟨_, rfl⟩
      have hyl : y.length ≤ 1200 := by
        rw [← hy, blocksV_yes a1]
        have := flat_le a1
        have := Hn.out
        omega
      rw [hy] at a2 a3
      obtain ⟨yl, hyl'⟩ : ∃ n, y.length = n := ⟨_, rfl⟩
      rw [hyl'] at hyl
      have A1 := Lib.hid a1
      have A2 := Lib.hid a2
      have A3 := Lib.hid a3
      have Hy := Lib.hid hy
      have Hyl := Lib.hid hyl'
      have Hse : Hid ((rs == rs) = true) := Lib.hid (by simp)
      clear a1 a2 a3 hy hyl' hall
      go_wp2_with (first
        | (go_at_call 22; refine (blocks_n rs _ Hn.out _ _ _ ha (by omega) Hls.out).mono ?_; rintro e w5 ⟨D, c2, rfl, hr, hs⟩; rw [Hy.out] at hr ⊢; rw [Hyl.out, A1.out]; have ry := hr; replace h0 := Stp.trans h0 hs; replace ha := RdL.keep ha hs; clear hs hr)
        | (go_at_call 20; refine (group_n b y _ Hyl.out _ _ _ ry (by omega)).mono ?_; rintro e w4 ⟨C, c1, rfl, hr, hs⟩; rw [A3.out] at hr ⊢; rw [Hn.out, A2.out]; have rx := hr; replace h0 := Stp.trans h0 hs; replace ha := RdL.keep ha hs; clear hs hr ry)
        | (go_at_call 24; refine (rsame_n rs rs _ _ Hn.out Hn.out _ _ _ _ _ rx ha (by omega) (by omega)).mono ?_; rintro e w7 ⟨rfl, hs⟩; rw [Hse.out]; replace h0 := Stp.trans h0 hs; clear hs rx))
      all_goals go_ret
      all_goals exact ⟨rfl, h0⟩
/-- RecordAgain, at any arguments. -/
theorem again_walk (rs : List L) (b : Int) (A : Option Addr) (c : Nat) (w : World) (ha : RdL w A c rs) (hl : rs.length < 9223372036854775808) (hls : ∀ l ∈ rs, l.length < 9223372036854775808) :
    Calls Try.prog 6 #[.slice A rs.length c, .int .i64 b] w fun e w' => e = .returned (.bool true) ∧ Stp w w' := by
  cases hf : fewR rs
  · exact again_out rs b A c w ha hl hls (.inl hf)
  · by_cases h1 : b < 1
    · exact again_out rs b A c w ha hl hls (.inr (.inl ⟨hf, decide_eq_true h1⟩))
    · by_cases h2 : 20 < b
      · exact again_out rs b A c w ha hl hls (.inr (.inr ⟨hf, decide_eq_false h1, decide_eq_true h2⟩))
      · exact again_in rs b A c w ha hls hf (by omega) (by omega)
end Go.Proofs.Ytgjdbbhfgfodlaa.Rec
