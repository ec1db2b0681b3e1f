/-
  The law RecordTells of records, walked over the contracts: no statement is proved here.
-/
import Derived.Test.YtgjdbbhfgfodlaaRecC
namespace Go.Proofs.Ytgjdbbhfgfodlaa.Rec
open Go.RowKit Go.Shelf Go.Proofs.Ytgjdbbhfgfodlaa.Str Go.Proofs.Ytgjdbbhfgfodlaa.Base Go.Proofs.Ytgjdbbhfgfodlaa.BlockM Go.Proofs.Ytgjdbbhfgfodlaa.RecM

theorem rgroup_n (b : Int) (ls : List L) (m : Nat) (hm : ls.length = m) (A : Option Addr) (c : Nat) (w : World) (ha : RdL w A c ls) (hl : m < 9223372036854775808) :
    Calls Try.prog 21 #[.slice A m c, .int .i64 b] w fun e w' => ∃ B d, e = .returned (.tuple #[.slice B (groupV ls b).length d, .bool (groupB ls b)]) ∧ RdL w' B d (groupV ls b) ∧ Stp w w' := by
  subst hm
  exact rgroup_s b ls A c w ha hl
theorem rblocks_n (rs : List L) (m : Nat) (hm : rs.length = m) (A : Option Addr) (c : Nat) (w : World) (ha : RdL w A c rs) (hl : m ≤ 4000) (hls : ∀ r ∈ rs, r.length < 9223372036854775808) :
    Calls Try.prog 23 #[.slice A m c] w fun e w' => ∃ B d, e = .returned (.tuple #[.slice B (blocksV rs).length d, .bool (blocksB rs)]) ∧ RdL w' B d (blocksV rs) ∧ Stp w w' := by
  subst hm
  exact rblocks_s rs A c w ha hl hls
theorem rmay_n (r : L) (m : Nat) (hm : r.length = m) (A : Option Addr) (c : Nat) (w : World) (hl : m < 9223372036854775808) :
    Calls Try.prog 25 #[.slice A m c] w fun e w' => e = .returned (.bool (mayR r)) ∧ Stp w w' := by
  subst hm
  exact rmay_r r A c w hl
theorem blocks_len (rs : List L) : (blocksV rs).length ≤ 20 * rs.length := by
  cases h : blocksB rs
  · rw [blocksV_no h]
    simp
  · rw [blocksV_yes h]
    exact flat_le h

set_option maxRecDepth 100000 in
set_option maxHeartbeats 4000000 in
theorem tells_out (ls rs : List L) (b n : Int) (A B : Option Addr) (c d : Nat) (w : World) (ha : RdL w A c ls) (hb : RdL w B d rs) (hl : ls.length < 9223372036854775808) (hk : rs.length < 9223372036854775808)
    (hls : ∀ l ∈ ls, l.length < 9223372036854775808) (hks : ∀ l ∈ rs, l.length < 9223372036854775808) (hin : Block.fewV ls = false ∨ (Block.fewV ls = true ∧ fewR rs = false)) :
    Calls Try.prog 4 #[.slice A ls.length c, .int .i64 b, .slice B rs.length d, .int .i64 n] w fun e w' => e = .returned (.bool true) ∧ Stp w w' := by
  have h0 := Stp.refl w
  have Hls := Lib.hid hls
  have Hks := Lib.hid hks
  clear hls hks
  obtain ⟨f1, hf1⟩ : ∃ f, Block.fewV ls = f := ⟨_, rfl⟩
  obtain ⟨f2, hf2⟩ : ∃ f, fewR rs = f := ⟨_, rfl⟩
  rw [hf1, hf2] at hin
  have Hf1 := Lib.hid hf1
  have Hf2 := Lib.hid hf2
  clear hf1 hf2
  have key : (f1 = false ∧ f2 = false) ∨ (f1 = false ∧ f2 = true) ∨ (f1 = true ∧ f2 = false) := by
    rcases hin with rfl | ⟨rfl, rfl⟩
    · cases f2
      · exact .inl ⟨rfl, rfl⟩
      · exact .inr (.inl ⟨rfl, rfl⟩)
    · exact .inr (.inr ⟨rfl, rfl⟩)
  clear hin
  rcases key with ⟨rfl, rfl⟩ | ⟨rfl, rfl⟩ | ⟨rfl, rfl⟩
  all_goals
    go_enter Try.func4, Try.ntmps4
    go_wp2_with (first
      | (go_at_call 17; refine (awake_s _).mono ?_; rintro e w1 ⟨rfl, hs⟩; replace h0 := Stp.trans h0 hs; replace ha := RdL.keep ha hs; replace hb := RdL.keep hb hs; clear hs)
      | (go_at_call 18; (with_reducible refine (Block.few_s ls _ _ _ ha hl Hls.out).mono ?_); rintro e w2 ⟨rfl, hs⟩; rw [Hf1.out]; replace h0 := Stp.trans h0 hs; replace ha := RdL.keep ha hs; replace hb := RdL.keep hb hs; clear hs)
      | (go_at_call 19; (with_reducible refine (fewr_s rs _ _ _ hb hk Hks.out).mono ?_); rintro e w3 ⟨rfl, hs⟩; rw [Hf2.out]; replace h0 := Stp.trans h0 hs; replace ha := RdL.keep ha hs; replace hb := RdL.keep hb hs; clear hs))
    all_goals go_ret
    all_goals exact ⟨rfl, h0⟩

set_option maxRecDepth 100000 in
set_option maxHeartbeats 4000000 in
theorem tells_in (ls rs : List L) (b n : Int) (A B : Option Addr) (c d : Nat) (w : World) (ha : RdL w A c ls) (hb : RdL w B d rs)
    (hls : ∀ l ∈ ls, l.length < 9223372036854775808) (hks : ∀ l ∈ rs, l.length < 9223372036854775808) (hf1 : Block.fewV ls = true) (hf2 : fewR rs = true) (hn : n < 9223372036854775808) (hn' : -9223372036854775808 ≤ n) :
    Calls Try.prog 4 #[.slice A ls.length c, .int .i64 b, .slice B rs.length d, .int .i64 n] w fun e w' => e = .returned (.bool true) ∧ Stp w w' := by
  have h0 := Stp.refl w
  have hp60 := (Block.fewV_iff.1 hf1).1
  have hq60 := (fewR_iff.1 hf2).1.1
  have hxl := group_len ls b
  have hyl := blocks_len rs
  obtain ⟨x, hx⟩ : ∃ x, groupV ls b = x := ⟨_, rfl⟩
  obtain ⟨y, hy⟩ : ∃ x, blocksV rs = x := ⟨_, rfl⟩
  obtain ⟨i1, hi1⟩ : ∃ x, groupB ls b = x := ⟨_, rfl⟩
  obtain ⟨i2, hi2⟩ : ∃ x, blocksB rs = x := ⟨_, rfl⟩
  obtain ⟨z, hz⟩ : ∃ x, rmanyV n b = x := ⟨_, rfl⟩
  obtain ⟨p, hp⟩ : ∃ n, ls.length = n := ⟨_, rfl⟩
  obtain ⟨q, hq⟩ : ∃ m, rs.length = m := ⟨_, rfl⟩
  obtain ⟨xl, hxl'⟩ : ∃ m, x.length = m := ⟨_, rfl⟩
  obtain ⟨yl, hyl'⟩ : ∃ m, y.length = m := ⟨_, rfl⟩
  rw [hx, hxl', hp] at hxl
  rw [hy, hyl', hq] at hyl
  rw [hp] at hp60 ⊢
  rw [hq] at hq60 ⊢
  have Hls := Lib.hid hls
  have Hks := Lib.hid hks
  have Hf1 := Lib.hid hf1
  have Hf2 := Lib.hid hf2
  have Hx := Lib.hid hx
  have Hy := Lib.hid hy
  have Hz := Lib.hid hz
  have I1 := Lib.hid hi1
  have I2 := Lib.hid hi2
  have Hp := Lib.hid hp
  have Hq := Lib.hid hq
  have Hxl := Lib.hid hxl'
  have Hyl := Lib.hid hyl'
  have Hs1 : Hid ((x == x) = true) := Lib.hid (by simp)
  have Hs2 : Hid ((y == y) = true) := Lib.hid (by simp)
  clear hls hks hf1 hf2 hx hy hi1 hi2 hz hp hq hxl' hyl'
  go_enter Try.func4, Try.ntmps4
  go_wp2_with (first
    | (go_at_call 17; refine (awake_s _).mono ?_; rintro e w1 ⟨rfl, hs⟩; replace h0 := Stp.trans h0 hs; replace ha := RdL.keep ha hs; replace hb := RdL.keep hb hs; clear hs)
    | (go_at_call 18; (with_reducible refine (few_n ls _ Hp.out _ _ _ ha (by omega) Hls.out).mono ?_); rintro e w2 ⟨rfl, hs⟩; rw [Hf1.out]; replace h0 := Stp.trans h0 hs; replace ha := RdL.keep ha hs; replace hb := RdL.keep hb hs; clear hs)
    | (go_at_call 19; (with_reducible refine (fewr_n rs _ Hq.out _ _ _ hb (by omega) Hks.out).mono ?_); rintro e w3 ⟨rfl, hs⟩; rw [Hf2.out]; replace h0 := Stp.trans h0 hs; replace ha := RdL.keep ha hs; replace hb := RdL.keep hb hs; clear hs)
    | (go_at_call 20; (with_reducible refine (group_n b ls _ Hp.out _ _ _ ha (by omega)).mono ?_); rintro e w6 ⟨C, c1, rfl, hr, hs⟩; rw [Hx.out] at hr ⊢; rw [Hxl.out, I1.out]; have r1 := hr; replace h0 := Stp.trans h0 hs; replace ha := RdL.keep ha hs; replace hb := RdL.keep hb hs; clear hs hr)
    | (go_at_call 21; (with_reducible refine (rgroup_n b ls _ Hp.out _ _ _ ha (by omega)).mono ?_); rintro e w7 ⟨D, c2, rfl, hr, hs⟩; rw [Hx.out] at hr ⊢; rw [Hxl.out, I1.out]; have r2 := hr; replace h0 := Stp.trans h0 hs; replace hb := RdL.keep hb hs; replace r1 := RdL.keep r1 hs; clear hs hr ha)
    | (go_at_call 22; (with_reducible refine (blocks_n rs _ Hq.out _ _ _ hb (by omega) Hks.out).mono ?_); rintro e w8 ⟨E, c3, rfl, hr, hs⟩; rw [Hy.out] at hr ⊢; rw [Hyl.out, I2.out]; have r3 := hr; replace h0 := Stp.trans h0 hs; replace hb := RdL.keep hb hs; replace r1 := RdL.keep r1 hs; replace r2 := RdL.keep r2 hs; clear hs hr)
    | (go_at_call 23; (with_reducible refine (rblocks_n rs _ Hq.out _ _ _ hb (by omega) Hks.out).mono ?_); rintro e w9 ⟨G, c4, rfl, hr, hs⟩; rw [Hy.out] at hr ⊢; rw [Hyl.out, I2.out]; have r4 := hr; replace h0 := Stp.trans h0 hs; replace hb := RdL.keep hb hs; replace r1 := RdL.keep r1 hs; replace r2 := RdL.keep r2 hs; replace r3 := RdL.keep r3 hs; clear hs hr)
    | (go_at_call 24; (with_reducible refine (rsame_n x x _ _ Hxl.out Hxl.out _ _ _ _ _ r1 r2 (by omega) (by omega)).mono ?_); rintro e w10 ⟨rfl, hs⟩; rw [Hs1.out]; replace h0 := Stp.trans h0 hs; replace hb := RdL.keep hb hs; replace r3 := RdL.keep r3 hs; replace r4 := RdL.keep r4 hs; clear hs r1 r2)
    | (go_at_call 24; (with_reducible refine (rsame_n y y _ _ Hyl.out Hyl.out _ _ _ _ _ r3 r4 (by omega) (by omega)).mono ?_); rintro e w11 ⟨rfl, hs⟩; rw [Hs2.out]; replace h0 := Stp.trans h0 hs; replace hb := RdL.keep hb hs; clear hs r3 r4))
  go_loopw [22] (fun i wr => ∃ j : Nat, j ≤ q ∧ i = .int .i64 (j : Int) ∧ Hid (Stp w11 wr)) (fun i _ => q - (intOf i).toNat)
  case atStart => exact ⟨0, by omega, rfl, Lib.hid (Stp.refl _)⟩
  case round =>
    obtain ⟨j, hj, rfl, Hs⟩ := hrel
    by_cases hlt : j < q
    · obtain ⟨r, hr⟩ : ∃ r, rs[j]? = some r := ⟨_, List.getElem?_eq_getElem (by have := Hq.out; omega)⟩
      obtain ⟨g, o, A1, c1', rfl, ca, -⟩ := (hb.keep Hs.out).at_ hr
      obtain ⟨y', hy'⟩ : ∃ y, r.length = y := ⟨_, rfl⟩
      have hyl2 := Hks.out r (List.mem_of_getElem? hr)
      rw [hy'] at ca hyl2
      obtain ⟨t, ht⟩ : ∃ t, mayR r = t := ⟨_, rfl⟩
      have Hy' := Lib.hid hy'
      have Ht := Lib.hid ht
      clear hr hy' ht
      go_wp2_with (first
        | (go_at_call 25; refine (rmay_n r _ Hy'.out _ _ _ hyl2).mono ?_; rintro e w12 ⟨rfl, hs⟩; rw [Ht.out]; replace ca := cell_stp hs ca; replace Hs := Lib.hid (Stp.trans Hs.out hs); clear hs)
        | (go_at_call 26; refine (may_n r _ Hy'.out _ _ _ hyl2).mono ?_; rintro e w13 ⟨rfl, hs⟩; rw [Ht.out]; replace Hs := Lib.hid (Stp.trans Hs.out hs); clear hs))
      go_roundw
      case rel => exact ⟨j + 1, by omega, by go_num, Hs⟩
      case measure => simp [intOf]; omega
    · obtain rfl : j = q := by omega
      go_wp2_with (first
        | (go_at_call 27; refine (many_s n b _ hn hn').mono ?_; rintro e w12 ⟨rfl, hs⟩; rw [Hz.out]; replace Hs := Lib.hid (Stp.trans Hs.out hs); clear hs)
        | (go_at_call 28; refine (rmany_r n b _ hn hn').mono ?_; rintro e w13 ⟨rfl, hs⟩; rw [Hz.out]; replace Hs := Lib.hid (Stp.trans Hs.out hs); clear hs))
      all_goals go_ret
      all_goals exact ⟨rfl, Stp.trans h0 Hs.out⟩
/-- RecordTells, at any arguments. -/
theorem tells_walk (ls rs : List L) (b n : Int) (A B : Option Addr) (c d : Nat) (w : World) (ha : RdL w A c ls) (hb : RdL w B d rs) (hl : ls.length < 9223372036854775808) (hk : rs.length < 9223372036854775808)
    (hls : ∀ l ∈ ls, l.length < 9223372036854775808) (hks : ∀ l ∈ rs, l.length < 9223372036854775808) (hn : n < 9223372036854775808) (hn' : -9223372036854775808 ≤ n) :
    Calls Try.prog 4 #[.slice A ls.length c, .int .i64 b, .slice B rs.length d, .int .i64 n] w fun e w' => e = .returned (.bool true) ∧ Stp w w' := by
  cases h1 : Block.fewV ls
  · exact tells_out ls rs b n A B c d w ha hb hl hk hls hks (.inl h1)
  · cases h2 : fewR rs
    · exact tells_out ls rs b n A B c d w ha hb hl hk hls hks (.inr ⟨h1, h2⟩)
    · exact tells_in ls rs b n A B c d w ha hb hls hks h1 h2 hn hn'
end Go.Proofs.Ytgjdbbhfgfodlaa.Rec
