/-
  The laws RecordParts and RecordTells of records, walked over the contracts: no statement is proved here.
-/
import Derived.Test.YtgjdbbhfgfodlaaRecB
import Derived.Test.YtgjdbbhfgfodlaaRecRef
namespace Go.Proofs.Ytgjdbbhfgfodlaa.Rec
open Go.RowKit Go.Shelf Go.Proofs.Ytgjdbbhfgfodlaa.Str Go.Proofs.Ytgjdbbhfgfodlaa.Base Go.Proofs.Ytgjdbbhfgfodlaa.BlockM Go.Proofs.Ytgjdbbhfgfodlaa.RecM

set_option maxRecDepth 100000 in
set_option maxHeartbeats 4000000 in
theorem parts_out (ls ks : List L) (b : Int) (A B : Option Addr) (c d : Nat) (w : World) (ha : RdL w A c ls) (hb : RdL w B d ks) (hl : ls.length < 9223372036854775808) (hk : ks.length < 9223372036854775808)
    (hls : ∀ l ∈ ls, l.length < 9223372036854775808) (hks : ∀ l ∈ ks, l.length < 9223372036854775808) (hin : ¬ (Block.fewV ls = true ∧ Block.fewV ks = true ∧ 1 ≤ b ∧ b ≤ 20 ∧ (ls.length : Int) % b = 0 ∧ mayV ls = true ∧ mayV ks = true)) :
    Calls Try.prog 8 #[.slice A ls.length c, .slice B ks.length d, .int .i64 b] w fun e w' => e = .returned (.bool true) ∧ Stp w w' := by
  have h0 := Stp.refl w
  have Hls := Lib.hid hls
  have Hks := Lib.hid hks
  clear hls hks
  obtain ⟨n, hn⟩ : ∃ n, ls.length = n := ⟨_, rfl⟩
  obtain ⟨m, hm⟩ : ∃ m, ks.length = m := ⟨_, rfl⟩
  obtain ⟨f1, hf1⟩ : ∃ f, Block.fewV ls = f := ⟨_, rfl⟩
  obtain ⟨f2, hf2⟩ : ∃ f, Block.fewV ks = f := ⟨_, rfl⟩
  obtain ⟨m1, hm1⟩ : ∃ f, mayV ls = f := ⟨_, rfl⟩
  obtain ⟨m2, hm2⟩ : ∃ f, mayV ks = f := ⟨_, rfl⟩
  rw [hn] at hl ⊢
  rw [hm] at hk ⊢
  have key : f1 = false ∨ (f1 = true ∧ f2 = false) ∨ (f1 = true ∧ f2 = true ∧ b < 1) ∨ (f1 = true ∧ f2 = true ∧ ¬ b < 1 ∧ 20 < b) ∨ (f1 = true ∧ f2 = true ∧ ¬ b < 1 ∧ ¬ 20 < b ∧ ((n : Int) % b != 0) = true) ∨
      (f1 = true ∧ f2 = true ∧ ¬ b < 1 ∧ ¬ 20 < b ∧ ((n : Int) % b != 0) = false ∧ m1 = false) ∨ (f1 = true ∧ f2 = true ∧ ¬ b < 1 ∧ ¬ 20 < b ∧ ((n : Int) % b != 0) = false ∧ m1 = true ∧ m2 = false) := by
    rw [hf1, hf2, hm1, hm2, hn] at hin
    cases f1
    · exact .inl rfl
    · cases f2
      · exact .inr (.inl ⟨rfl, rfl⟩)
      · by_cases h1 : b < 1
        · exact .inr (.inr (.inl ⟨rfl, rfl, h1⟩))
        · by_cases h2 : 20 < b
          · exact .inr (.inr (.inr (.inl ⟨rfl, rfl, h1, h2⟩)))
          · by_cases h3 : (n : Int) % b = 0
            · have g : ((n : Int) % b != 0) = false := by rw [h3]; rfl
              cases m1
              · exact .inr (.inr (.inr (.inr (.inr (.inl ⟨rfl, rfl, h1, h2, g, rfl⟩)))))
              · cases m2
                · exact .inr (.inr (.inr (.inr (.inr (.inr ⟨rfl, rfl, h1, h2, g, rfl, rfl⟩)))))
                · exact absurd ⟨rfl, rfl, by omega, by omega, h3, rfl, rfl⟩ hin
            · exact .inr (.inr (.inr (.inr (.inl ⟨rfl, rfl, h1, h2, by rw [bne_iff_ne]; exact h3⟩))))
  have Hn := Lib.hid hn
  have Hm := Lib.hid hm
  have Hf1 := Lib.hid hf1
  have Hf2 := Lib.hid hf2
  have Hm1 := Lib.hid hm1
  have Hm2 := Lib.hid hm2
  clear hin hn hm hf1 hf2 hm1 hm2
  rcases key with rfl | ⟨rfl, rfl⟩ | ⟨rfl, rfl, h1⟩ | ⟨rfl, rfl, h1, h2⟩ | ⟨rfl, rfl, h1, h2, g⟩ | ⟨rfl, rfl, h1, h2, g, rfl⟩ | ⟨rfl, rfl, h1, h2, g, rfl, rfl⟩
  all_goals
    go_enter Try.func8, Try.ntmps8
    go_wp2_with (first
      | (go_at_call 17; refine (awake_s _).mono ?_; rintro e w1 ⟨rfl, hs⟩; replace h0 := Stp.trans h0 hs; replace ha := RdL.keep ha hs; replace hb := RdL.keep hb hs; clear hs)
      | (go_at_call 18; (with_reducible refine (few_n ls _ Hn.out _ _ _ ha hl Hls.out).mono ?_); rintro e w2 ⟨rfl, hs⟩; rw [Hf1.out]; replace h0 := Stp.trans h0 hs; replace ha := RdL.keep ha hs; replace hb := RdL.keep hb hs; clear hs)
      | (go_at_call 18; (with_reducible refine (few_n ks _ Hm.out _ _ _ hb hk Hks.out).mono ?_); rintro e w3 ⟨rfl, hs⟩; rw [Hf2.out]; replace h0 := Stp.trans h0 hs; replace ha := RdL.keep ha hs; replace hb := RdL.keep hb hs; clear hs)
      | (go_at_call 29; (with_reducible refine (bmay_n ls _ Hn.out _ _ _ ha hl).mono ?_); rintro e w4 ⟨rfl, hs⟩; rw [Hm1.out]; replace h0 := Stp.trans h0 hs; replace ha := RdL.keep ha hs; replace hb := RdL.keep hb hs; clear hs)
      | (go_at_call 29; (with_reducible refine (bmay_n ks _ Hm.out _ _ _ hb hk).mono ?_); rintro e w5 ⟨rfl, hs⟩; rw [Hm2.out]; replace h0 := Stp.trans h0 hs; replace ha := RdL.keep ha hs; replace hb := RdL.keep hb hs; clear hs))
    all_goals go_ret
    all_goals exact ⟨rfl, h0⟩

set_option maxRecDepth 100000 in
set_option maxHeartbeats 4000000 in
theorem parts_in (ls ks : List L) (b : Int) (A B : Option Addr) (c d : Nat) (w : World) (ha : RdL w A c ls) (hb : RdL w B d ks)
    (hls : ∀ l ∈ ls, l.length < 9223372036854775808) (hks : ∀ l ∈ ks, l.length < 9223372036854775808) (hf1 : Block.fewV ls = true) (hf2 : Block.fewV ks = true) (h1 : 1 ≤ b) (h2 : b ≤ 20) (h3 : (ls.length : Int) % b = 0) (hm1 : mayV ls = true) (hm2 : mayV ks = true) :
    Calls Try.prog 8 #[.slice A ls.length c, .slice B ks.length d, .int .i64 b] w fun e w' => e = .returned (.bool true) ∧ Stp w w' := by
  have h0 := Stp.refl w
  have hn60 := (Block.fewV_iff.1 hf1).1
  have hm60 := (Block.fewV_iff.1 hf2).1
  have hG1 : groupB ls b = true := groupB_iff.2 ⟨⟨h1, h2⟩, by omega, hm1⟩
  have hG2 : groupB ks b = true := groupB_iff.2 ⟨⟨h1, h2⟩, by omega, hm2⟩
  obtain ⟨hG3, hv3⟩ := parts h1 h2 h3 hm1 hm2 (by omega) (by omega)
  obtain ⟨hG4, hv4⟩ := ones hm1 (by omega)
  have hxl := group_len ls b
  have hyl := group_len ks b
  obtain ⟨x, hx⟩ : ∃ x, groupV ls b = x := ⟨_, rfl⟩
  obtain ⟨y, hy⟩ : ∃ x, groupV ks b = x := ⟨_, rfl⟩
  obtain ⟨n, hn⟩ : ∃ n, ls.length = n := ⟨_, rfl⟩
  obtain ⟨m, hm⟩ : ∃ m, ks.length = m := ⟨_, rfl⟩
  obtain ⟨xl, hxl'⟩ : ∃ m, x.length = m := ⟨_, rfl⟩
  obtain ⟨yl, hyl'⟩ : ∃ m, y.length = m := ⟨_, rfl⟩
  have hlk : (ls ++ ks).length = n + m := by rw [List.length_append, hn, hm]
  have hxy : (x ++ y).length = xl + yl := by rw [List.length_append, hxl', hyl']
  rw [hx, hy] at hv3
  rw [hx, hxl', hn] at hxl
  rw [hy, hyl', hm] at hyl
  rw [hn] at hn60 h3 ⊢
  rw [hm] at hm60 ⊢
  have Hls := Lib.hid hls
  have Hks := Lib.hid hks
  have Hf1 := Lib.hid hf1
  have Hf2 := Lib.hid hf2
  have Hm1 := Lib.hid hm1
  have Hm2 := Lib.hid hm2
  have G1 := Lib.hid hG1
  have G2 := Lib.hid hG2
  have G3 := Lib.hid hG3
  have G4 := Lib.hid hG4
  have V3 := Lib.hid hv3
  have V4 := Lib.hid hv4
  have Hx := Lib.hid hx
  have Hy := Lib.hid hy
  have Hn := Lib.hid hn
  have Hm := Lib.hid hm
  have Hxl := Lib.hid hxl'
  have Hyl := Lib.hid hyl'
  have Hlk := Lib.hid hlk
  have Hxy := Lib.hid hxy
  have g1 : ¬ b < 1 := by omega
  have g2 : ¬ 20 < b := by omega
  have g3 : ((n : Int) % b != 0) = false := by rw [h3]; rfl
  have Hs1 : Hid ((x ++ y == x ++ y) = true) := Lib.hid (by simp)
  have Hs2 : Hid ((ls == ls) = true) := Lib.hid (by simp)
  clear hls hks hf1 hf2 hm1 hm2 hG1 hG2 hG3 hG4 hv3 hv4 hx hy hn hm hxl' hyl' hlk hxy h3
  go_enter Try.func8, Try.ntmps8
  go_wp2_with (first
    | (go_at_call 17; refine (awake_s _).mono ?_; rintro e w1 ⟨rfl, hs⟩; replace h0 := Stp.trans h0 hs; replace ha := RdL.keep ha hs; replace hb := RdL.keep hb hs; clear hs)
    | (go_at_call 18; (with_reducible refine (few_n ls _ Hn.out _ _ _ ha (by omega) Hls.out).mono ?_); rintro e w2 ⟨rfl, hs⟩; rw [Hf1.out]; replace h0 := Stp.trans h0 hs; replace ha := RdL.keep ha hs; replace hb := RdL.keep hb hs; clear hs)
    | (go_at_call 18; (with_reducible refine (few_n ks _ Hm.out _ _ _ hb (by omega) Hks.out).mono ?_); rintro e w3 ⟨rfl, hs⟩; rw [Hf2.out]; replace h0 := Stp.trans h0 hs; replace ha := RdL.keep ha hs; replace hb := RdL.keep hb hs; clear hs)
    | (go_at_call 29; (with_reducible refine (bmay_n ls _ Hn.out _ _ _ ha (by omega)).mono ?_); rintro e w4 ⟨rfl, hs⟩; rw [Hm1.out]; replace h0 := Stp.trans h0 hs; replace ha := RdL.keep ha hs; replace hb := RdL.keep hb hs; clear hs)
    | (go_at_call 29; (with_reducible refine (bmay_n ks _ Hm.out _ _ _ hb (by omega)).mono ?_); rintro e w5 ⟨rfl, hs⟩; rw [Hm2.out]; replace h0 := Stp.trans h0 hs; replace ha := RdL.keep ha hs; replace hb := RdL.keep hb hs; clear hs)
    | (go_at_call 20; (with_reducible refine (group_n b ls _ Hn.out _ _ _ ha (by omega)).mono ?_); rintro e w6 ⟨C, c1, rfl, hr, hs⟩; rw [Hx.out] at hr ⊢; rw [Hxl.out, G1.out]; have rx := hr; replace h0 := Stp.trans h0 hs; replace ha := RdL.keep ha hs; replace hb := RdL.keep hb hs; clear hs hr)
    | (go_at_call 20; (with_reducible refine (group_n b ks _ Hm.out _ _ _ hb (by omega)).mono ?_); rintro e w7 ⟨D, c2, rfl, hr, hs⟩; rw [Hy.out] at hr ⊢; rw [Hyl.out, G2.out]; have ry := hr; replace h0 := Stp.trans h0 hs; replace ha := RdL.keep ha hs; replace hb := RdL.keep hb hs; replace rx := RdL.keep rx hs; clear hs hr)
    | (at_builtin; refine Base.wpList_append_rows (P := Try.prog) rfl (.const (.slice none 0 0)) (.tmp 74) 27 rfl 24 Try.underlying27 Block.bytes_info _ rfl (Base.Rows.nil w7 w7.heap.size _) rfl ha Hn.out (by simp; have := Hn.out; omega) (Nat.le_refl _) ?_; intro v1 w8 hr1 hg1; have Hs8 := Lib.hid ((Base.Rows.nil w7 w7.heap.size 24).stp (Stp.refl w7) (Nat.le_refl _) hg1); have Hr1 := Lib.hid hr1; clear hr1 hg1)
    | (at_builtin; refine Base.wpList_append_rows (P := Try.prog) rfl (.tmp 75) (.tmp 76) 27 rfl 24 Try.underlying27 Block.bytes_info _ rfl Hr1.out rfl (hb.keep Hs8.out) Hm.out (by simp; have := Hn.out; have := Hm.out; omega) Hs8.out.size ?_; intro v2 w9 hr2 hg2; have hs := Hr1.out.stp Hs8.out (Nat.le_refl _) hg2; obtain ⟨E, c5, rfl, rz⟩ := hr2.rdL; rw [List.nil_append, Hlk.out]; rw [List.nil_append] at rz; have Rz := Lib.hid rz; replace h0 := Stp.trans h0 hs; replace ha := RdL.keep ha hs; replace hb := RdL.keep hb hs; replace rx := RdL.keep rx hs; replace ry := RdL.keep ry hs; clear hr2 hg2 hs rz)
    | (go_at_call 20; (with_reducible refine (group_n b (ls ++ ks) _ Hlk.out _ _ _ Rz.out (by omega)).mono ?_); rintro e w10 ⟨G, c6, rfl, hr, hs⟩; rw [V3.out] at hr ⊢; rw [Hxy.out, G3.out]; have rg := hr; replace h0 := Stp.trans h0 hs; replace ha := RdL.keep ha hs; replace rx := RdL.keep rx hs; replace ry := RdL.keep ry hs; clear hs hr)
    | (at_builtin; refine Base.wpList_append_rows (P := Try.prog) rfl (.const (.slice none 0 0)) (.tmp 83) 27 rfl 24 Try.underlying27 Block.bytes_info _ rfl (Base.Rows.nil w10 w10.heap.size _) rfl rx Hxl.out (by simp; have := Hxl.out; omega) (Nat.le_refl _) ?_; intro v3 w11 hr1 hg1; have Hs11 := Lib.hid ((Base.Rows.nil w10 w10.heap.size 24).stp (Stp.refl w10) (Nat.le_refl _) hg1); have Hr3 := Lib.hid hr1; clear hr1 hg1)
    | (at_builtin; refine Base.wpList_append_rows (P := Try.prog) rfl (.tmp 84) (.tmp 85) 27 rfl 24 Try.underlying27 Block.bytes_info _ rfl Hr3.out rfl (ry.keep Hs11.out) Hyl.out (by simp; have := Hxl.out; have := Hyl.out; omega) Hs11.out.size ?_; intro v4 w12 hr2 hg2; have hs := Hr3.out.stp Hs11.out (Nat.le_refl _) hg2; obtain ⟨E2, c7, rfl, rz⟩ := hr2.rdL; rw [List.nil_append, Hxy.out]; rw [List.nil_append] at rz; have Rz2 := Lib.hid rz; replace h0 := Stp.trans h0 hs; replace ha := RdL.keep ha hs; replace rg := RdL.keep rg hs; clear hr2 hg2 hs rz)
    | (go_at_call 24; (with_reducible refine (rsame_n (x ++ y) (x ++ y) _ _ Hxy.out Hxy.out _ _ _ _ _ rg Rz2.out (by omega) (by omega)).mono ?_); rintro e w13 ⟨rfl, hs⟩; rw [Hs1.out]; replace h0 := Stp.trans h0 hs; replace ha := RdL.keep ha hs; clear hs rg)
    | (go_at_call 20; (with_reducible refine (group_n 1 ls _ Hn.out _ _ _ ha (by omega)).mono ?_); rintro e w14 ⟨K, c8, rfl, hr, hs⟩; rw [V4.out] at hr ⊢; rw [Hn.out, G4.out]; have ru := hr; replace h0 := Stp.trans h0 hs; replace ha := RdL.keep ha hs; clear hs hr)
    | (go_at_call 24; (with_reducible refine (rsame_n ls ls _ _ Hn.out Hn.out _ _ _ _ _ ru ha (by omega) (by omega)).mono ?_); rintro e w15 ⟨rfl, hs⟩; rw [Hs2.out]; replace h0 := Stp.trans h0 hs; clear hs ru ha))
  all_goals go_ret
  all_goals exact ⟨rfl, h0⟩
/-- RecordParts, at any arguments. -/
theorem parts_walk (ls ks : List L) (b : Int) (A B : Option Addr) (c d : Nat) (w : World) (ha : RdL w A c ls) (hb : RdL w B d ks) (hl : ls.length < 9223372036854775808) (hk : ks.length < 9223372036854775808)
    (hls : ∀ l ∈ ls, l.length < 9223372036854775808) (hks : ∀ l ∈ ks, l.length < 9223372036854775808) :
    Calls Try.prog 8 #[.slice A ls.length c, .slice B ks.length d, .int .i64 b] w fun e w' => e = .returned (.bool true) ∧ Stp w w' := by
  by_cases hin : Block.fewV ls = true ∧ Block.fewV ks = true ∧ 1 ≤ b ∧ b ≤ 20 ∧ (ls.length : Int) % b = 0 ∧ mayV ls = true ∧ mayV ks = true
  · obtain ⟨f1, f2, h1, h2, h3, m1, m2⟩ := hin
    exact parts_in ls ks b A B c d w ha hb hls hks f1 f2 h1 h2 h3 m1 m2
  · exact parts_out ls ks b A B c d w ha hb hl hk hls hks hin
end Go.Proofs.Ytgjdbbhfgfodlaa.Rec
