/-
  The walk of the statement HeadBack: the law returns true and writes nothing that was there; the statement itself is proved in a text of its own.
-/
import Derived.Test.YtjbihmbnfkpbpaaHeadAwake
import Derived.Deep.RegionHeld3
namespace Go.Proofs.Ytjbihmbnfkpbpaa.Head
open Go.RowKit Go.Proofs.Ytjbihmbnfkpbpaa.Base Go.Proofs.Ytjbihmbnfkpbpaa.NumM Go.Proofs.Ytjbihmbnfkpbpaa.Num

theorem zero_small : SmallH zeroH := by constructor <;> decide
theorem getH_small (l : L) : SmallH (getH l) := by
  unfold getH
  split
  · rename_i h
    refine small_guess ?_
    apply Classical.byContradiction
    intro hl
    unfold codeB at h
    rw [if_neg hl] at h
    exact absurd h (by decide)
  · exact zero_small
theorem getH_ok {l : L} (h : codeB l = 0) : mayH (getH l) = true ∧ putB (getH l) = l := by
  unfold getH
  rw [if_pos h]
  unfold codeB at h
  split at h
  · split at h
    · exact absurd h (by decide)
    · split at h
      · split at h
        · rename_i hm
          exact ⟨hm.1, by rw [putB_yes hm.1, hm.2]⟩
        · exact absurd h (by decide)
      · exact absurd h (by decide)
  · exact absurd h (by decide)
theorem getH_no {l : L} (h : codeB l ≠ 0) : getH l = zeroH := by unfold getH; rw [if_neg h]

set_option maxHeartbeats 8000000 in
set_option maxRecDepth 100000 in
theorem back_early (h k : Hd) (_ : SmallH h) (_ : SmallH k) (l : L) (A : Option Addr) (c : Nat) (w : World) (ha : RdA w A c (bs l)) (hbig : l.length < 9223372036854775808) (hin : fewB h = false ∨ fewB k = false ∨ 600 < l.length) :
    Calls Try.prog 4 #[hv h, hv k, .slice A l.length c] w fun e w' => e = .returned (.bool true) ∧ Stp w w' := by
  have h0 := Stp.alloc (Stp.alloc (Stp.refl w) (.cells (hcells h) 23)) (.cells (hcells k) 23)
  have hbb : Blk ((w.alloc (.cells (hcells h) 23)).alloc (.cells (hcells k) 23)) w.heap.size 23 (hcells h) := (Blk.new w 23 (hcells h)).alloc _
  have hkk : Blk ((w.alloc (.cells (hcells h) 23)).alloc (.cells (hcells k) 23)) (w.heap.size + 1) 23 (hcells k) := by
    have := Blk.new (w.alloc (.cells (hcells h) 23)) 23 (hcells k)
    rwa [World.size_alloc] at this
  have Ha := Lib.hid (ha.keep h0)
  obtain ⟨kb, hkb⟩ : ∃ x, w.heap.size + 1 = x := ⟨_, rfl⟩
  obtain ⟨hb, hhb⟩ : ∃ x, w.heap.size = x := ⟨_, rfl⟩
  rw [hkb] at hkk
  rw [hhb] at hbb hkb
  have Hb := Lib.hid hbb
  have Hk := Lib.hid hkk
  clear hbb hkk ha
  obtain ⟨f, hf⟩ : ∃ f, fewB h = f := ⟨_, rfl⟩
  obtain ⟨f2, hf2⟩ : ∃ f, fewB k = f := ⟨_, rfl⟩
  rw [hf, hf2] at hin
  have Hf := Lib.hid hf
  have Hf2 := Lib.hid hf2
  have key : f = false ∨ (f = true ∧ f2 = false) ∨ (f = true ∧ f2 = true ∧ decide ((600 : Int) < (l.length : Int)) = true) := by
    cases f
    · exact .inl rfl
    · cases f2
      · exact .inr (.inl ⟨rfl, rfl⟩)
      · rcases hin with e | e | e
        · cases e
        · cases e
        · exact .inr (.inr ⟨rfl, rfl, by simp; omega⟩)
  clear hin hf hf2
  rcases key with rfl | ⟨rfl, rfl⟩ | ⟨rfl, rfl, g1⟩
  all_goals go_enter Try.func4, Try.ntmps4
  all_goals go_wp2_with (first
    | (go_at_call 10; refine (awake_s _).mono ?_; rintro e w1 ⟨rfl, hs⟩; replace Hb := Lib.hid (Hb.out.keep hs Hb.out.lt); replace Hk := Lib.hid (Hk.out.keep hs Hk.out.lt); replace Ha := Lib.hid (Ha.out.keep hs); replace h0 := Stp.trans h0 hs; clear hs; obtain ⟨x0, x1, x2, x3, x4, x5, x6, x7, x8, x9, x10⟩ := hd_cells Hb.out)
    | (go_at_call 11; (with_reducible refine (few_s h _).mono ?_); rintro e w2 ⟨rfl, hs⟩; rw [Hf.out]; replace Hb := Lib.hid (Hb.out.keep hs Hb.out.lt); replace Hk := Lib.hid (Hk.out.keep hs Hk.out.lt); replace Ha := Lib.hid (Ha.out.keep hs); replace h0 := Stp.trans h0 hs; clear hs; clear x0 x1 x2 x3 x4 x5 x6 x7 x8 x9 x10; obtain ⟨y0, y1, y2, y3, y4, y5, y6, y7, y8, y9, y10⟩ := hd_cells Hk.out)
    | (go_at_call 11; (with_reducible refine (few_s k _).mono ?_); rintro e w3 ⟨rfl, hs⟩; rw [Hf2.out]; replace Hb := Lib.hid (Hb.out.keep hs Hb.out.lt); replace Hk := Lib.hid (Hk.out.keep hs Hk.out.lt); replace Ha := Lib.hid (Ha.out.keep hs); replace h0 := Stp.trans h0 hs; clear hs; clear y0 y1 y2 y3 y4 y5 y6 y7 y8 y9 y10; obtain ⟨x0, x1, x2, x3, x4, x5, x6, x7, x8, x9, x10⟩ := hd_cells Hb.out))
  all_goals go_ret
  all_goals exact ⟨rfl, h0⟩

set_option maxHeartbeats 8000000 in
set_option maxRecDepth 100000 in
theorem back_a (h k : Hd) (hsm : SmallH h) (ksm : SmallH k) (l : L) (A : Option Addr) (c : Nat) (w : World) (ha : RdA w A c (bs l)) (hf : fewB h = true) (hf2 : fewB k = true) (hl : l.length ≤ 600) (hm : mayH h = false) :
    Calls Try.prog 4 #[hv h, hv k, .slice A l.length c] w fun e w' => e = .returned (.bool true) ∧ Stp w w' := by
  have h0 := Stp.alloc (Stp.alloc (Stp.refl w) (.cells (hcells h) 23)) (.cells (hcells k) 23)
  have hbb : Blk ((w.alloc (.cells (hcells h) 23)).alloc (.cells (hcells k) 23)) w.heap.size 23 (hcells h) := (Blk.new w 23 (hcells h)).alloc _
  have hkk : Blk ((w.alloc (.cells (hcells h) 23)).alloc (.cells (hcells k) 23)) (w.heap.size + 1) 23 (hcells k) := by
    have := Blk.new (w.alloc (.cells (hcells h) 23)) 23 (hcells k)
    rwa [World.size_alloc] at this
  have Ha := Lib.hid (ha.keep h0)
  obtain ⟨kb, hkb⟩ : ∃ x, w.heap.size + 1 = x := ⟨_, rfl⟩
  obtain ⟨hb, hhb⟩ : ∃ x, w.heap.size = x := ⟨_, rfl⟩
  rw [hkb] at hkk
  rw [hhb] at hbb hkb
  have Hb := Lib.hid hbb
  have Hk := Lib.hid hkk
  clear hbb hkk ha
  have g600 : decide ((600 : Int) < (l.length : Int)) = false := by simp; omega
  have Hf := Lib.hid hf
  have Hf2 := Lib.hid hf2
  have Hs := Lib.hid hsm
  have Hs2 := Lib.hid ksm
  have Hm := Lib.hid hm
  obtain ⟨P, hP⟩ : ∃ P, putB h = P := ⟨_, rfl⟩
  obtain ⟨Q, hQ⟩ : ∃ Q, putB k = Q := ⟨_, rfl⟩
  have HP := Lib.hid hP
  have HQ := Lib.hid hQ
  obtain ⟨m2, hm2⟩ : ∃ m2, mayH k = m2 := ⟨_, rfl⟩
  have Hm2 := Lib.hid hm2
  obtain ⟨G, hG⟩ : ∃ G, getH P = G := ⟨_, rfl⟩
  have HG := Lib.hid hG
  obtain ⟨eP, heP⟩ : ∃ e, codeB P = e := ⟨_, rfl⟩
  have HeP := Lib.hid heP
  clear hG heP hm2
  have hng := noGuard
  obtain ⟨X, hX⟩ : ∃ X, getH l = X := ⟨_, rfl⟩
  obtain ⟨cd, hcd⟩ : ∃ cd, codeB l = cd := ⟨_, rfl⟩
  obtain ⟨PX, hPX⟩ : ∃ PX, putB X = PX := ⟨_, rfl⟩
  obtain ⟨mX, hmX⟩ : ∃ mX, mayH X = mX := ⟨_, rfl⟩
  have key : (X = zeroH ∧ (cd != 0) = true ∧ (cd == 0) = false) ∨ ((cd != 0) = false ∧ (cd == 0) = true ∧ true = mX ∧ l = PX) := by
    by_cases h9 : cd = 0
    · have := getH_ok (l := l) (by rw [hcd]; exact h9)
      rw [hX] at this
      exact .inr ⟨by rw [h9]; rfl, by rw [h9]; rfl, by rw [← hmX]; exact this.1.symm, by rw [← hPX]; exact this.2.symm⟩
    · have := getH_no (l := l) (by rw [hcd]; exact h9)
      rw [hX] at this
      exact .inl ⟨this, by simp [h9], by simp [h9]⟩
  have Hsx := Lib.hid (show SmallH X by rw [← hX]; exact getH_small l)
  have HX := Lib.hid hX
  have Hcd := Lib.hid hcd
  have HPx := Lib.hid hPX
  have Hmx := Lib.hid hmX
  have KeyX := Lib.hid key
  clear key hX hcd hPX hmX hf hf2 hsm ksm hm hP hQ 
  go_enter Try.func4, Try.ntmps4
  go_wp2_with (first
    | (go_at_call 10; refine (awake_s _).mono ?_; rintro e w1 ⟨rfl, hs⟩; replace Hb := Lib.hid (Hb.out.keep hs Hb.out.lt); replace Hk := Lib.hid (Hk.out.keep hs Hk.out.lt); replace Ha := Lib.hid (Ha.out.keep hs); replace h0 := Stp.trans h0 hs; clear hs; obtain ⟨x0, x1, x2, x3, x4, x5, x6, x7, x8, x9, x10⟩ := hd_cells Hb.out)
    | (go_at_call 11; (with_reducible refine (few_s h _).mono ?_); rintro e w2 ⟨rfl, hs⟩; rw [Hf.out]; replace Hb := Lib.hid (Hb.out.keep hs Hb.out.lt); replace Hk := Lib.hid (Hk.out.keep hs Hk.out.lt); replace Ha := Lib.hid (Ha.out.keep hs); replace h0 := Stp.trans h0 hs; clear hs; clear x0 x1 x2 x3 x4 x5 x6 x7 x8 x9 x10; obtain ⟨y0, y1, y2, y3, y4, y5, y6, y7, y8, y9, y10⟩ := hd_cells Hk.out)
    | (go_at_call 11; (with_reducible refine (few_s k _).mono ?_); rintro e w3 ⟨rfl, hs⟩; rw [Hf2.out]; replace Hb := Lib.hid (Hb.out.keep hs Hb.out.lt); replace Hk := Lib.hid (Hk.out.keep hs Hk.out.lt); replace Ha := Lib.hid (Ha.out.keep hs); replace h0 := Stp.trans h0 hs; clear hs; clear y0 y1 y2 y3 y4 y5 y6 y7 y8 y9 y10; obtain ⟨x0, x1, x2, x3, x4, x5, x6, x7, x8, x9, x10⟩ := hd_cells Hb.out)
    | (go_at_call 12; (with_reducible refine (put_s h Hs.out _).mono ?_); rintro e w4 ⟨A4, c4, rfl, hr, hs⟩; rw [Hm.out]; rw [HP.out] at hr ⊢; have Hr4 := Lib.hid hr; replace Hb := Lib.hid (Hb.out.keep hs Hb.out.lt); replace Hk := Lib.hid (Hk.out.keep hs Hk.out.lt); replace Ha := Lib.hid (Ha.out.keep hs); replace h0 := Stp.trans h0 hs; clear hs hr; clear x0 x1 x2 x3 x4 x5 x6 x7 x8 x9 x10; obtain ⟨y0, y1, y2, y3, y4, y5, y6, y7, y8, y9, y10⟩ := hd_cells Hk.out)
    | (go_at_call 12; (with_reducible refine (put_s k Hs2.out _).mono ?_); rintro e w5 ⟨A5, c5, rfl, hr, hs⟩; rw [Hm2.out]; rw [HQ.out] at hr ⊢; have Hr5 := Lib.hid hr; replace Hr4 := Lib.hid (Hr4.out.keep hs); replace Hb := Lib.hid (Hb.out.keep hs Hb.out.lt); replace Hk := Lib.hid (Hk.out.keep hs Hk.out.lt); replace Ha := Lib.hid (Ha.out.keep hs); replace h0 := Stp.trans h0 hs; clear hs hr; clear y0 y1 y2 y3 y4 y5 y6 y7 y8 y9 y10)
    | (go_at_call 14; (with_reducible refine (hget_n P _ _ c4 _ Hr4.out rfl).mono ?_); rintro e w6 ⟨rfl, hs⟩; rw [HeP.out, HG.out]; replace Hr4 := Lib.hid (Hr4.out.keep hs); replace Hr5 := Lib.hid (Hr5.out.keep hs); replace Hb := Lib.hid (Hb.out.keep hs Hb.out.lt); replace Hk := Lib.hid (Hk.out.keep hs Hk.out.lt); replace Ha := Lib.hid (Ha.out.keep hs); replace h0 := Stp.trans h0 hs; clear hs))
  generalize hwq : w6.alloc _ = wq
  have hbq : Blk wq hb 23 (hcells h) := by rw [← hwq]; exact Hb.out.alloc _
  have hkq : Blk wq kb 23 (hcells k) := by rw [← hwq]; exact Hk.out.alloc _
  have hgq : Blk wq w6.heap.size 23 (hcells G) := by rw [← hwq]; exact Blk.new w6 _ _
  have hs6 : Stp w6 wq := by rw [← hwq]; exact Stp.alloc (Stp.refl w6) _
  have hPq := Hr4.out.keep hs6
  have hQq := Hr5.out.keep hs6
  have Haq := Lib.hid (Ha.out.keep hs6)
  have Hq := Lib.hid (Stp.trans h0 hs6)
  obtain ⟨gb, hgb⟩ : ∃ g, w6.heap.size = g := ⟨_, rfl⟩
  rw [hgb] at hgq ⊢
  have key : ∀ W, Stp wq W → (W.cell? ⟨hb, 0, none⟩ = some (.string ⟨h.name.toArray⟩) ∧ W.cell? ⟨hb, 1, none⟩ = some (.string ⟨h.pre.toArray⟩) ∧ W.cell? ⟨hb, 2, none⟩ = some (.string ⟨h.link.toArray⟩) ∧ W.cell? ⟨hb, 3, none⟩ = some (.int .i64 h.mode) ∧ W.cell? ⟨hb, 4, none⟩ = some (.int .i64 h.uid) ∧ W.cell? ⟨hb, 5, none⟩ = some (.int .i64 h.gid) ∧ W.cell? ⟨hb, 6, none⟩ = some (.int .i64 h.size) ∧ W.cell? ⟨hb, 7, none⟩ = some (.int .i64 h.time) ∧ W.cell? ⟨hb, 8, none⟩ = some (.int .u8 (h.ty.toNat : Int)) ∧ W.cell? ⟨hb, 9, none⟩ = some (.int .i64 h.off) ∧ W.cell? ⟨hb, 10, none⟩ = some (.int .i64 h.real)) ∧ (W.cell? ⟨gb, 0, none⟩ = some (.string ⟨G.name.toArray⟩) ∧ W.cell? ⟨gb, 1, none⟩ = some (.string ⟨G.pre.toArray⟩) ∧ W.cell? ⟨gb, 2, none⟩ = some (.string ⟨G.link.toArray⟩) ∧ W.cell? ⟨gb, 3, none⟩ = some (.int .i64 G.mode) ∧ W.cell? ⟨gb, 4, none⟩ = some (.int .i64 G.uid) ∧ W.cell? ⟨gb, 5, none⟩ = some (.int .i64 G.gid) ∧ W.cell? ⟨gb, 6, none⟩ = some (.int .i64 G.size) ∧ W.cell? ⟨gb, 7, none⟩ = some (.int .i64 G.time) ∧ W.cell? ⟨gb, 8, none⟩ = some (.int .u8 (G.ty.toNat : Int)) ∧ W.cell? ⟨gb, 9, none⟩ = some (.int .i64 G.off) ∧ W.cell? ⟨gb, 10, none⟩ = some (.int .i64 G.real)) ∧ (W.cell? ⟨kb, 0, none⟩ = some (.string ⟨k.name.toArray⟩) ∧ W.cell? ⟨kb, 1, none⟩ = some (.string ⟨k.pre.toArray⟩) ∧ W.cell? ⟨kb, 2, none⟩ = some (.string ⟨k.link.toArray⟩) ∧ W.cell? ⟨kb, 3, none⟩ = some (.int .i64 k.mode) ∧ W.cell? ⟨kb, 4, none⟩ = some (.int .i64 k.uid) ∧ W.cell? ⟨kb, 5, none⟩ = some (.int .i64 k.gid) ∧ W.cell? ⟨kb, 6, none⟩ = some (.int .i64 k.size) ∧ W.cell? ⟨kb, 7, none⟩ = some (.int .i64 k.time) ∧ W.cell? ⟨kb, 8, none⟩ = some (.int .u8 (k.ty.toNat : Int)) ∧ W.cell? ⟨kb, 9, none⟩ = some (.int .i64 k.off) ∧ W.cell? ⟨kb, 10, none⟩ = some (.int .i64 k.real)) ∧ (convert 24 9 (.slice A4 P.length c4)).run Try.prog W = .ok (.string ⟨P.toArray⟩) W ∧ (convert 24 9 (.slice A5 Q.length c5)).run Try.prog W = .ok (.string ⟨Q.toArray⟩) W := fun W hW =>
    ⟨hd_cells (hbq.keep hW hbq.lt), hd_cells (hgq.keep hW hgq.lt), hd_cells (hkq.keep hW hkq.lt), str_rd (hPq.keep hW), str_rd (hQq.keep hW)⟩
  have Key := Lib.hid key
  clear key hwq hbq hkq hgq hs6 hPq hQq hgb Hr4 Hr5 Hb Hk Ha h0
  · refine wp_region_held_drew (S := (fun W : World => (W.cell? ⟨hb, 0, none⟩ = some (.string ⟨h.name.toArray⟩) ∧ W.cell? ⟨hb, 1, none⟩ = some (.string ⟨h.pre.toArray⟩) ∧ W.cell? ⟨hb, 2, none⟩ = some (.string ⟨h.link.toArray⟩) ∧ W.cell? ⟨hb, 3, none⟩ = some (.int .i64 h.mode) ∧ W.cell? ⟨hb, 4, none⟩ = some (.int .i64 h.uid) ∧ W.cell? ⟨hb, 5, none⟩ = some (.int .i64 h.gid) ∧ W.cell? ⟨hb, 6, none⟩ = some (.int .i64 h.size) ∧ W.cell? ⟨hb, 7, none⟩ = some (.int .i64 h.time) ∧ W.cell? ⟨hb, 8, none⟩ = some (.int .u8 (h.ty.toNat : Int)) ∧ W.cell? ⟨hb, 9, none⟩ = some (.int .i64 h.off) ∧ W.cell? ⟨hb, 10, none⟩ = some (.int .i64 h.real)) ∧ (W.cell? ⟨gb, 0, none⟩ = some (.string ⟨G.name.toArray⟩) ∧ W.cell? ⟨gb, 1, none⟩ = some (.string ⟨G.pre.toArray⟩) ∧ W.cell? ⟨gb, 2, none⟩ = some (.string ⟨G.link.toArray⟩) ∧ W.cell? ⟨gb, 3, none⟩ = some (.int .i64 G.mode) ∧ W.cell? ⟨gb, 4, none⟩ = some (.int .i64 G.uid) ∧ W.cell? ⟨gb, 5, none⟩ = some (.int .i64 G.gid) ∧ W.cell? ⟨gb, 6, none⟩ = some (.int .i64 G.size) ∧ W.cell? ⟨gb, 7, none⟩ = some (.int .i64 G.time) ∧ W.cell? ⟨gb, 8, none⟩ = some (.int .u8 (G.ty.toNat : Int)) ∧ W.cell? ⟨gb, 9, none⟩ = some (.int .i64 G.off) ∧ W.cell? ⟨gb, 10, none⟩ = some (.int .i64 G.real)) ∧ (W.cell? ⟨kb, 0, none⟩ = some (.string ⟨k.name.toArray⟩) ∧ W.cell? ⟨kb, 1, none⟩ = some (.string ⟨k.pre.toArray⟩) ∧ W.cell? ⟨kb, 2, none⟩ = some (.string ⟨k.link.toArray⟩) ∧ W.cell? ⟨kb, 3, none⟩ = some (.int .i64 k.mode) ∧ W.cell? ⟨kb, 4, none⟩ = some (.int .i64 k.uid) ∧ W.cell? ⟨kb, 5, none⟩ = some (.int .i64 k.gid) ∧ W.cell? ⟨kb, 6, none⟩ = some (.int .i64 k.size) ∧ W.cell? ⟨kb, 7, none⟩ = some (.int .i64 k.time) ∧ W.cell? ⟨kb, 8, none⟩ = some (.int .u8 (k.ty.toNat : Int)) ∧ W.cell? ⟨kb, 9, none⟩ = some (.int .i64 k.off) ∧ W.cell? ⟨kb, 10, none⟩ = some (.int .i64 k.real)) ∧ (convert 24 9 (.slice A4 P.length c4)).run Try.prog W = .ok (.string ⟨P.toArray⟩) W ∧ (convert 24 9 (.slice A5 Q.length c5)).run Try.prog W = .ok (.string ⟨Q.toArray⟩) W)) (by kernel_rfl) (Key.out _ (stp_drew (Stp.refl wq))) (fun hHeld => ?_)
    refine wpAnyH_take (i := 0) (oi := { dst := some 56, op := Go.Op.move (Go.Operand.tmp 11), type := 4, pos := "law.go:54", after := #[], guard := none }) (v := ?v0) rfl (by kernel_rfl) (by kernel_rfl) (by kernel_rfl) (fun _ _ _ h => h) (Or.inl ⟨by rfl, ?hy0⟩) (by assumption) ?rest0
    case hy0 => (intro w hSw; (try dsimp only at hSw); go_simp; try with_reducible rfl)
    try simp only [Act.put, List.setIfInBounds_toArray, List.set_cons_zero, List.set_cons_succ]
    refine wpAnyH_take (i := 1) (oi := { dst := some 57, op := Go.Op.load 23 (Go.Operand.tmp 3), type := 23, pos := "law.go:54", after := #[], guard := none }) (v := ?v1) rfl (by kernel_rfl) (by kernel_rfl) (by kernel_rfl) (fun _ _ _ h => h) (Or.inl ⟨by rfl, ?hy1⟩) (by assumption) ?rest1
    case hy1 => (intro w hSw; (try dsimp only at hSw); go_simp; try with_reducible rfl)
    try simp only [Act.put, List.setIfInBounds_toArray, List.set_cons_zero, List.set_cons_succ]
    refine wpAnyH_ready (rs := [2]) (by kernel_rfl) (by simp) ?_
    refine AllReadyH.cons (o := { dst := some 58, op := Go.Op.call { callee := Go.Callee.value (Go.Operand.func 17), args := #[Go.Operand.tmp 57], argTypes := #[23] }, type := 4, pos := "law.go:54", after := #[{ on := 1, ground := Go.Ground.data }], guard := none }) rfl (fun K hK => ?_) AllReadyH.nil
    go_simp
    refine (may_any h Hs.out _).mono ?_
    rintro e w8 ⟨rfl, hs⟩
    rw [Hm.out]
    have K8 := Lib.hid (Stp.trans (stp_drew (Stp.refl wq)) hs)
    clear hs
    go_wp2_with fail
    refine hK.out _ _ (Key.out _ K8.out) (fun hHeld2 => ?_)
    clear hK K hHeld
    have hHeld := hHeld2
    clear hHeld2
    try simp only [Act.put, List.setIfInBounds_toArray, List.set_cons_zero, List.set_cons_succ]
    refine wpAnyH_take (i := 3) (oi := { dst := some 59, op := Go.Op.binOp Go.BinOp.neq 4 (Go.Operand.tmp 56) (Go.Operand.tmp 58) 4, type := 4, pos := "law.go:54", after := #[{ on := 0, ground := Go.Ground.data }, { on := 2, ground := Go.Ground.data }], guard := none }) (v := ?v3) rfl (by kernel_rfl) (by kernel_rfl) (by kernel_rfl) (fun _ _ _ h => h) (Or.inl ⟨by rfl, ?hy3⟩) (by assumption) ?rest3
    case hy3 => (intro w hSw; (try dsimp only at hSw); go_simp; try with_reducible rfl)
    try simp only [Act.put, List.setIfInBounds_toArray, List.set_cons_zero, List.set_cons_succ]
    refine wpAnyH_take (i := 4) (oi := { dst := some 60, op := Go.Op.move (Go.Operand.tmp 59), type := 4, pos := "law.go:54", after := #[{ on := 3, ground := Go.Ground.data }, { on := 2, ground := Go.Ground.chain }], guard := none }) (v := ?v4) rfl (by kernel_rfl) (by kernel_rfl) (by kernel_rfl) (fun _ _ _ h => h) (Or.inl ⟨by rfl, ?hy4⟩) (by assumption) ?rest4
    case hy4 => (intro w hSw; (try dsimp only at hSw); go_simp; try with_reducible rfl)
    try simp only [Act.put, List.setIfInBounds_toArray, List.set_cons_zero, List.set_cons_succ]
    refine wpAnyH_take (i := 5) (oi := { dst := some 61, op := Go.Op.move (Go.Operand.tmp 11), type := 4, pos := "law.go:54", after := #[{ on := 4, ground := Go.Ground.guard }], guard := some (4, false) }) (v := ?v5) rfl (by kernel_rfl) (by kernel_rfl) (by kernel_rfl) (fun _ _ _ h => h) (Or.inl ⟨by rfl, ?hy5⟩) (by assumption) ?rest5
    case hy5 => (intro w hSw; (try dsimp only at hSw); go_simp; try with_reducible rfl)
    try simp only [Act.put, List.setIfInBounds_toArray, List.set_cons_zero, List.set_cons_succ]
    refine wpAnyH_take (i := 6) (oi := { dst := some 62, op := Go.Op.move (Go.Operand.tmp 61), type := 4, pos := "law.go:54", after := #[{ on := 5, ground := Go.Ground.data }, { on := 4, ground := Go.Ground.chain }, { on := 4, ground := Go.Ground.guard }], guard := some (4, false) }) (v := ?v6) rfl (by kernel_rfl) (by kernel_rfl) (by kernel_rfl) (fun _ _ _ h => h) (Or.inl ⟨by rfl, ?hy6⟩) (by assumption) ?rest6
    case hy6 => (intro w hSw; (try dsimp only at hSw); go_simp; try with_reducible rfl)
    try simp only [Act.put, List.setIfInBounds_toArray, List.set_cons_zero, List.set_cons_succ]
    refine wpAnyH_take (i := 7) (oi := { dst := some 63, op := Go.Op.move (Go.Operand.tmp 15), type := 29, pos := "law.go:54", after := #[{ on := 6, ground := Go.Ground.guard }], guard := some (6, true) }) (v := undef) rfl (by kernel_rfl) (by kernel_rfl) (by kernel_rfl) (fun _ _ _ h => h) (Or.inr ⟨by rfl, rfl⟩) (by assumption) ?_
    try simp only [Act.put, List.setIfInBounds_toArray, List.set_cons_zero, List.set_cons_succ]
    refine wpAnyH_take (i := 8) (oi := { dst := some 64, op := Go.Op.binOp Go.BinOp.neq 29 (Go.Operand.tmp 63) (Go.Operand.const (Go.Value.int Go.IntKind.i64 0)) 29, type := 4, pos := "law.go:54", after := #[{ on := 7, ground := Go.Ground.data }, { on := 6, ground := Go.Ground.guard }], guard := some (6, true) }) (v := undef) rfl (by kernel_rfl) (by kernel_rfl) (by kernel_rfl) (fun _ _ _ h => h) (Or.inr ⟨by rfl, rfl⟩) (by assumption) ?_
    try simp only [Act.put, List.setIfInBounds_toArray, List.set_cons_zero, List.set_cons_succ]
    refine wpAnyH_take (i := 9) (oi := { dst := some 65, op := Go.Op.move (Go.Operand.tmp 64), type := 4, pos := "law.go:54", after := #[{ on := 8, ground := Go.Ground.data }, { on := 6, ground := Go.Ground.chain }, { on := 6, ground := Go.Ground.guard }], guard := some (6, true) }) (v := undef) rfl (by kernel_rfl) (by kernel_rfl) (by kernel_rfl) (fun _ _ _ h => h) (Or.inr ⟨by rfl, rfl⟩) (by assumption) ?_
    try simp only [Act.put, List.setIfInBounds_toArray, List.set_cons_zero, List.set_cons_succ]
    refine wpAnyH_take (i := 10) (oi := { dst := some 66, op := Go.Op.load 23 (Go.Operand.tmp 14), type := 23, pos := "law.go:54", after := #[{ on := 9, ground := Go.Ground.guard }], guard := some (9, false) }) (v := undef) rfl (by kernel_rfl) (by kernel_rfl) (by kernel_rfl) (fun _ _ _ h => h) (Or.inr ⟨by rfl, rfl⟩) (by assumption) ?_
    try simp only [Act.put, List.setIfInBounds_toArray, List.set_cons_zero, List.set_cons_succ]
    refine wpAnyH_take (i := 11) (oi := { dst := some 67, op := Go.Op.load 23 (Go.Operand.tmp 3), type := 23, pos := "law.go:54", after := #[{ on := 9, ground := Go.Ground.guard }], guard := some (9, false) }) (v := undef) rfl (by kernel_rfl) (by kernel_rfl) (by kernel_rfl) (fun _ _ _ h => h) (Or.inr ⟨by rfl, rfl⟩) (by assumption) ?_
    try simp only [Act.put, List.setIfInBounds_toArray, List.set_cons_zero, List.set_cons_succ]
    refine wpAnyH_take (i := 12) (oi := { dst := some 68, op := Go.Op.binOp Go.BinOp.neq 23 (Go.Operand.tmp 66) (Go.Operand.tmp 67) 23, type := 4, pos := "law.go:54", after := #[{ on := 10, ground := Go.Ground.data }, { on := 11, ground := Go.Ground.data }, { on := 9, ground := Go.Ground.guard }], guard := some (9, false) }) (v := undef) rfl (by kernel_rfl) (by kernel_rfl) (by kernel_rfl) (fun _ _ _ h => h) (Or.inr ⟨by rfl, rfl⟩) (by assumption) ?_
    try simp only [Act.put, List.setIfInBounds_toArray, List.set_cons_zero, List.set_cons_succ]
    refine wpAnyH_take (i := 13) (oi := { dst := some 69, op := Go.Op.pick (Go.Operand.tmp 65) (Go.Operand.const (Go.Value.bool true)) (Go.Operand.tmp 68), type := 4, pos := "law.go:54", after := #[{ on := 9, ground := Go.Ground.data }, { on := 12, ground := Go.Ground.data }, { on := 6, ground := Go.Ground.guard }], guard := some (6, true) }) (v := undef) rfl (by kernel_rfl) (by kernel_rfl) (by kernel_rfl) (fun _ _ _ h => h) (Or.inr ⟨by rfl, rfl⟩) (by assumption) ?_
    try simp only [Act.put, List.setIfInBounds_toArray, List.set_cons_zero, List.set_cons_succ]
    refine wpAnyH_take (i := 14) (oi := { dst := some 70, op := Go.Op.move (Go.Operand.tmp 69), type := 4, pos := "law.go:54", after := #[{ on := 13, ground := Go.Ground.data }, { on := 9, ground := Go.Ground.chain }, { on := 6, ground := Go.Ground.guard }], guard := some (6, true) }) (v := undef) rfl (by kernel_rfl) (by kernel_rfl) (by kernel_rfl) (fun _ _ _ h => h) (Or.inr ⟨by rfl, rfl⟩) (by assumption) ?_
    try simp only [Act.put, List.setIfInBounds_toArray, List.set_cons_zero, List.set_cons_succ]
    refine wpAnyH_take (i := 15) (oi := { dst := some 71, op := Go.Op.move (Go.Operand.tmp 10), type := 24, pos := "law.go:54", after := #[{ on := 14, ground := Go.Ground.guard }], guard := some (14, false) }) (v := undef) rfl (by kernel_rfl) (by kernel_rfl) (by kernel_rfl) (fun _ _ _ h => h) (Or.inr ⟨by rfl, rfl⟩) (by assumption) ?_
    try simp only [Act.put, List.setIfInBounds_toArray, List.set_cons_zero, List.set_cons_succ]
    refine wpAnyH_take (i := 16) (oi := { dst := some 72, op := Go.Op.call { callee := Go.Callee.builtin Go.Builtin.len, args := #[Go.Operand.tmp 71], argTypes := #[24] }, type := 3, pos := "law.go:54", after := #[{ on := 15, ground := Go.Ground.data }, { on := 14, ground := Go.Ground.guard }], guard := some (14, false) }) (v := undef) rfl (by kernel_rfl) (by kernel_rfl) (by kernel_rfl) (fun _ _ _ h => h) (Or.inr ⟨by rfl, rfl⟩) (by assumption) ?_
    try simp only [Act.put, List.setIfInBounds_toArray, List.set_cons_zero, List.set_cons_succ]
    refine wpAnyH_take (i := 17) (oi := { dst := some 73, op := Go.Op.binOp Go.BinOp.neq 3 (Go.Operand.tmp 72) (Go.Operand.const (Go.Value.int Go.IntKind.i64 512)) 3, type := 4, pos := "law.go:54", after := #[{ on := 16, ground := Go.Ground.data }, { on := 14, ground := Go.Ground.guard }], guard := some (14, false) }) (v := undef) rfl (by kernel_rfl) (by kernel_rfl) (by kernel_rfl) (fun _ _ _ h => h) (Or.inr ⟨by rfl, rfl⟩) (by assumption) ?_
    try simp only [Act.put, List.setIfInBounds_toArray, List.set_cons_zero, List.set_cons_succ]
    refine wpAnyH_take (i := 18) (oi := { dst := some 74, op := Go.Op.pick (Go.Operand.tmp 70) (Go.Operand.const (Go.Value.bool true)) (Go.Operand.tmp 73), type := 4, pos := "law.go:54", after := #[{ on := 14, ground := Go.Ground.data }, { on := 17, ground := Go.Ground.data }, { on := 6, ground := Go.Ground.guard }], guard := some (6, true) }) (v := undef) rfl (by kernel_rfl) (by kernel_rfl) (by kernel_rfl) (fun _ _ _ h => h) (Or.inr ⟨by rfl, rfl⟩) (by assumption) ?_
    try simp only [Act.put, List.setIfInBounds_toArray, List.set_cons_zero, List.set_cons_succ]
    refine wpAnyH_take (i := 19) (oi := { dst := some 75, op := Go.Op.pick (Go.Operand.tmp 62) (Go.Operand.tmp 74) (Go.Operand.const (Go.Value.bool false)), type := 4, pos := "law.go:54", after := #[{ on := 6, ground := Go.Ground.data }, { on := 18, ground := Go.Ground.data }, { on := 4, ground := Go.Ground.guard }], guard := some (4, false) }) (v := ?v19) rfl (by kernel_rfl) (by kernel_rfl) (by kernel_rfl) (fun _ _ _ h => h) (Or.inl ⟨by rfl, ?hy19⟩) (by assumption) ?rest19
    case hy19 => (intro w hSw; (try dsimp only at hSw); go_simp; try with_reducible rfl)
    try simp only [Act.put, List.setIfInBounds_toArray, List.set_cons_zero, List.set_cons_succ]
    refine wpAnyH_take (i := 20) (oi := { dst := some 76, op := Go.Op.pick (Go.Operand.tmp 60) (Go.Operand.const (Go.Value.bool true)) (Go.Operand.tmp 75), type := 4, pos := "law.go:54", after := #[{ on := 4, ground := Go.Ground.data }, { on := 19, ground := Go.Ground.data }], guard := none }) (v := ?v20) rfl (by kernel_rfl) (by kernel_rfl) (by kernel_rfl) (fun _ _ _ h => h) (Or.inl ⟨by rfl, ?hy20⟩) (by assumption) ?rest20
    case hy20 => (intro w hSw; (try dsimp only at hSw); go_simp; try with_reducible rfl)
    try simp only [Act.put, List.setIfInBounds_toArray, List.set_cons_zero, List.set_cons_succ]
    refine wpAnyH_take (i := 21) (oi := { dst := some 77, op := Go.Op.move (Go.Operand.tmp 76), type := 4, pos := "law.go:54", after := #[{ on := 20, ground := Go.Ground.data }, { on := 14, ground := Go.Ground.chain }], guard := none }) (v := ?v21) rfl (by kernel_rfl) (by kernel_rfl) (by kernel_rfl) (fun _ _ _ h => h) (Or.inl ⟨by rfl, ?hy21⟩) (by assumption) ?rest21
    case hy21 => (intro w hSw; (try dsimp only at hSw); go_simp; try with_reducible rfl)
    try simp only [Act.put, List.setIfInBounds_toArray, List.set_cons_zero, List.set_cons_succ]
    refine wpAnyH_take (i := 22) (oi := { dst := some 78, op := Go.Op.move (Go.Operand.tmp 11), type := 4, pos := "law.go:54", after := #[{ on := 21, ground := Go.Ground.guard }], guard := some (21, false) }) (v := ?v22) rfl (by kernel_rfl) (by kernel_rfl) (by kernel_rfl) (fun _ _ _ h => h) (Or.inl ⟨by rfl, ?hy22⟩) (by assumption) ?rest22
    case hy22 => (intro w hSw; (try dsimp only at hSw); go_simp; try with_reducible rfl)
    try simp only [Act.put, List.setIfInBounds_toArray, List.set_cons_zero, List.set_cons_succ]
    refine wpAnyH_take (i := 23) (oi := { dst := some 79, op := Go.Op.move (Go.Operand.tmp 78), type := 4, pos := "law.go:54", after := #[{ on := 22, ground := Go.Ground.data }, { on := 21, ground := Go.Ground.chain }, { on := 21, ground := Go.Ground.guard }], guard := some (21, false) }) (v := ?v23) rfl (by kernel_rfl) (by kernel_rfl) (by kernel_rfl) (fun _ _ _ h => h) (Or.inl ⟨by rfl, ?hy23⟩) (by assumption) ?rest23
    case hy23 => (intro w hSw; (try dsimp only at hSw); go_simp; try with_reducible rfl)
    try simp only [Act.put, List.setIfInBounds_toArray, List.set_cons_zero, List.set_cons_succ]
    refine wpAnyH_take (i := 24) (oi := { dst := some 80, op := Go.Op.move (Go.Operand.tmp 13), type := 4, pos := "law.go:54", after := #[{ on := 23, ground := Go.Ground.guard }], guard := some (23, true) }) (v := undef) rfl (by kernel_rfl) (by kernel_rfl) (by kernel_rfl) (fun _ _ _ h => h) (Or.inr ⟨by rfl, rfl⟩) (by assumption) ?_
    try simp only [Act.put, List.setIfInBounds_toArray, List.set_cons_zero, List.set_cons_succ]
    refine wpAnyH_take (i := 25) (oi := { dst := some 81, op := Go.Op.pick (Go.Operand.tmp 79) (Go.Operand.tmp 80) (Go.Operand.const (Go.Value.bool false)), type := 4, pos := "law.go:54", after := #[{ on := 23, ground := Go.Ground.data }, { on := 24, ground := Go.Ground.data }, { on := 21, ground := Go.Ground.guard }], guard := some (21, false) }) (v := ?v25) rfl (by kernel_rfl) (by kernel_rfl) (by kernel_rfl) (fun _ _ _ h => h) (Or.inl ⟨by rfl, ?hy25⟩) (by assumption) ?rest25
    case hy25 => (intro w hSw; (try dsimp only at hSw); go_simp; try with_reducible rfl)
    try simp only [Act.put, List.setIfInBounds_toArray, List.set_cons_zero, List.set_cons_succ]
    refine wpAnyH_take (i := 26) (oi := { dst := some 82, op := Go.Op.move (Go.Operand.tmp 81), type := 4, pos := "law.go:54", after := #[{ on := 25, ground := Go.Ground.data }, { on := 23, ground := Go.Ground.chain }, { on := 21, ground := Go.Ground.guard }], guard := some (21, false) }) (v := ?v26) rfl (by kernel_rfl) (by kernel_rfl) (by kernel_rfl) (fun _ _ _ h => h) (Or.inl ⟨by rfl, ?hy26⟩) (by assumption) ?rest26
    case hy26 => (intro w hSw; (try dsimp only at hSw); go_simp; try with_reducible rfl)
    try simp only [Act.put, List.setIfInBounds_toArray, List.set_cons_zero, List.set_cons_succ]
    refine wpAnyH_take (i := 27) (oi := { dst := some 83, op := Go.Op.move (Go.Operand.tmp 10), type := 24, pos := "law.go:54", after := #[{ on := 26, ground := Go.Ground.guard }], guard := some (26, true) }) (v := undef) rfl (by kernel_rfl) (by kernel_rfl) (by kernel_rfl) (fun _ _ _ h => h) (Or.inr ⟨by rfl, rfl⟩) (by assumption) ?_
    try simp only [Act.put, List.setIfInBounds_toArray, List.set_cons_zero, List.set_cons_succ]
    refine wpAnyH_take (i := 28) (oi := { dst := some 84, op := Go.Op.convert 24 9 (Go.Operand.tmp 83), type := 9, pos := "law.go:54", after := #[{ on := 27, ground := Go.Ground.data }, { on := 26, ground := Go.Ground.guard }], guard := some (26, true) }) (v := undef) rfl (by kernel_rfl) (by kernel_rfl) (by kernel_rfl) (fun _ _ _ h => h) (Or.inr ⟨by rfl, rfl⟩) (by assumption) ?_
    try simp only [Act.put, List.setIfInBounds_toArray, List.set_cons_zero, List.set_cons_succ]
    refine wpAnyH_take (i := 29) (oi := { dst := some 85, op := Go.Op.move (Go.Operand.tmp 12), type := 24, pos := "law.go:54", after := #[{ on := 26, ground := Go.Ground.guard }], guard := some (26, true) }) (v := undef) rfl (by kernel_rfl) (by kernel_rfl) (by kernel_rfl) (fun _ _ _ h => h) (Or.inr ⟨by rfl, rfl⟩) (by assumption) ?_
    try simp only [Act.put, List.setIfInBounds_toArray, List.set_cons_zero, List.set_cons_succ]
    refine wpAnyH_take (i := 30) (oi := { dst := some 86, op := Go.Op.convert 24 9 (Go.Operand.tmp 85), type := 9, pos := "law.go:54", after := #[{ on := 29, ground := Go.Ground.data }, { on := 26, ground := Go.Ground.guard }], guard := some (26, true) }) (v := undef) rfl (by kernel_rfl) (by kernel_rfl) (by kernel_rfl) (fun _ _ _ h => h) (Or.inr ⟨by rfl, rfl⟩) (by assumption) ?_
    try simp only [Act.put, List.setIfInBounds_toArray, List.set_cons_zero, List.set_cons_succ]
    refine wpAnyH_take (i := 31) (oi := { dst := some 87, op := Go.Op.binOp Go.BinOp.eql 9 (Go.Operand.tmp 84) (Go.Operand.tmp 86) 9, type := 4, pos := "law.go:54", after := #[{ on := 28, ground := Go.Ground.data }, { on := 30, ground := Go.Ground.data }, { on := 26, ground := Go.Ground.guard }], guard := some (26, true) }) (v := undef) rfl (by kernel_rfl) (by kernel_rfl) (by kernel_rfl) (fun _ _ _ h => h) (Or.inr ⟨by rfl, rfl⟩) (by assumption) ?_
    try simp only [Act.put, List.setIfInBounds_toArray, List.set_cons_zero, List.set_cons_succ]
    refine wpAnyH_take (i := 32) (oi := { dst := some 88, op := Go.Op.load 23 (Go.Operand.tmp 3), type := 23, pos := "law.go:54", after := #[{ on := 26, ground := Go.Ground.guard }], guard := some (26, true) }) (v := undef) rfl (by kernel_rfl) (by kernel_rfl) (by kernel_rfl) (fun _ _ _ h => h) (Or.inr ⟨by rfl, rfl⟩) (by assumption) ?_
    try simp only [Act.put, List.setIfInBounds_toArray, List.set_cons_zero, List.set_cons_succ]
    refine wpAnyH_take (i := 33) (oi := { dst := some 89, op := Go.Op.load 23 (Go.Operand.tmp 4), type := 23, pos := "law.go:54", after := #[{ on := 26, ground := Go.Ground.guard }], guard := some (26, true) }) (v := undef) rfl (by kernel_rfl) (by kernel_rfl) (by kernel_rfl) (fun _ _ _ h => h) (Or.inr ⟨by rfl, rfl⟩) (by assumption) ?_
    try simp only [Act.put, List.setIfInBounds_toArray, List.set_cons_zero, List.set_cons_succ]
    refine wpAnyH_take (i := 34) (oi := { dst := some 90, op := Go.Op.binOp Go.BinOp.eql 23 (Go.Operand.tmp 88) (Go.Operand.tmp 89) 23, type := 4, pos := "law.go:54", after := #[{ on := 32, ground := Go.Ground.data }, { on := 33, ground := Go.Ground.data }, { on := 26, ground := Go.Ground.guard }], guard := some (26, true) }) (v := undef) rfl (by kernel_rfl) (by kernel_rfl) (by kernel_rfl) (fun _ _ _ h => h) (Or.inr ⟨by rfl, rfl⟩) (by assumption) ?_
    try simp only [Act.put, List.setIfInBounds_toArray, List.set_cons_zero, List.set_cons_succ]
    refine wpAnyH_take (i := 35) (oi := { dst := some 91, op := Go.Op.binOp Go.BinOp.neq 4 (Go.Operand.tmp 87) (Go.Operand.tmp 90) 4, type := 4, pos := "law.go:54", after := #[{ on := 31, ground := Go.Ground.data }, { on := 34, ground := Go.Ground.data }, { on := 26, ground := Go.Ground.guard }], guard := some (26, true) }) (v := undef) rfl (by kernel_rfl) (by kernel_rfl) (by kernel_rfl) (fun _ _ _ h => h) (Or.inr ⟨by rfl, rfl⟩) (by assumption) ?_
    try simp only [Act.put, List.setIfInBounds_toArray, List.set_cons_zero, List.set_cons_succ]
    refine wpAnyH_take (i := 36) (oi := { dst := some 92, op := Go.Op.pick (Go.Operand.tmp 82) (Go.Operand.tmp 91) (Go.Operand.const (Go.Value.bool false)), type := 4, pos := "law.go:54", after := #[{ on := 26, ground := Go.Ground.data }, { on := 35, ground := Go.Ground.data }, { on := 21, ground := Go.Ground.guard }], guard := some (21, false) }) (v := ?v36) rfl (by kernel_rfl) (by kernel_rfl) (by kernel_rfl) (fun _ _ _ h => h) (Or.inl ⟨by rfl, ?hy36⟩) (by assumption) ?rest36
    case hy36 => (intro w hSw; (try dsimp only at hSw); go_simp; try with_reducible rfl)
    try simp only [Act.put, List.setIfInBounds_toArray, List.set_cons_zero, List.set_cons_succ]
    refine wpAnyH_take (i := 37) (oi := { dst := some 93, op := Go.Op.pick (Go.Operand.tmp 77) (Go.Operand.const (Go.Value.bool true)) (Go.Operand.tmp 92), type := 4, pos := "law.go:54", after := #[{ on := 21, ground := Go.Ground.data }, { on := 36, ground := Go.Ground.data }], guard := none }) (v := ?v37) rfl (by kernel_rfl) (by kernel_rfl) (by kernel_rfl) (fun _ _ _ h => h) (Or.inl ⟨by rfl, ?hy37⟩) (by assumption) ?rest37
    case hy37 => (intro w hSw; (try dsimp only at hSw); go_simp; try with_reducible rfl)
    try simp only [Act.put, List.setIfInBounds_toArray, List.set_cons_zero, List.set_cons_succ]
    refine wpAnyH_done (by kernel_rfl) ?_ _
    clear hHeld
    have H8 := Lib.hid (Stp.trans Hq.out K8.out)
    have Ha8 := Lib.hid (Haq.out.keep K8.out)
    clear Key Haq Hq K8
    have hz : X = zeroH → ∀ w, (Op.equalIn 10000 23 (hv X) (.agg #[.string ⟨#[]⟩, .string ⟨#[]⟩, .string ⟨#[]⟩, .int .i64 0, .int .i64 0, .int .i64 0, .int .i64 0, .int .i64 0, .int .u8 0, .int .i64 0, .int .i64 0])).run Try.prog w = .ok true w := fun hX0 w => by
      rw [hX0]
      have := eq_heads zeroH zeroH w
      rw [decide_eq_true rfl] at this
      exact this
    rcases KeyX.out with ⟨hX0, k1, k2⟩ | ⟨k1, k2, rfl, rfl⟩
    all_goals (first | (replace hz := hz hX0; clear hX0) | clear hz)
    all_goals go_wp2_with (first
      | (go_at_call 14; (with_reducible refine (hget_n l _ _ c _ Ha8.out rfl).mono ?_); rintro e w9 ⟨rfl, hs⟩; rw [Hcd.out, HX.out]; have Ha9 := Lib.hid (Ha8.out.keep hs); have H9 := Lib.hid (Stp.trans H8.out hs); clear hs)
      | (go_at_call 12; (with_reducible refine (put_s X Hsx.out _).mono ?_); rintro e w10 ⟨A6, c6, rfl, hr, hs⟩; rw [Hmx.out]; rw [HPx.out] at hr ⊢; have hcx := str_rd hr; have hcb := str_rd ((Ha9.out.keep (Stp.alloc (Stp.refl w9) (.cells (hcells X) 23))).keep hs); have H10 := Lib.hid (Stp.trans (Stp.alloc H9.out (.cells (hcells X) 23)) hs); obtain ⟨x0, x1, x2, x3, x4, x5, x6, x7, x8, x9, x10⟩ := hd_cells ((Blk.new w9 23 (hcells X)).keep hs (Blk.new w9 23 (hcells X)).lt); clear hs hr))
    all_goals go_ret
    all_goals exact ⟨rfl, H10.out⟩

set_option maxHeartbeats 8000000 in
set_option maxRecDepth 100000 in
theorem back_b (h k : Hd) (hsm : SmallH h) (ksm : SmallH k) (l : L) (A : Option Addr) (c : Nat) (w : World) (ha : RdA w A c (bs l)) (hf : fewB h = true) (hf2 : fewB k = true) (hl : l.length ≤ 600) (hm : mayH h = true) (hm2 : mayH k = false) :
    Calls Try.prog 4 #[hv h, hv k, .slice A l.length c] w fun e w' => e = .returned (.bool true) ∧ Stp w w' := by
  have h0 := Stp.alloc (Stp.alloc (Stp.refl w) (.cells (hcells h) 23)) (.cells (hcells k) 23)
  have hbb : Blk ((w.alloc (.cells (hcells h) 23)).alloc (.cells (hcells k) 23)) w.heap.size 23 (hcells h) := (Blk.new w 23 (hcells h)).alloc _
  have hkk : Blk ((w.alloc (.cells (hcells h) 23)).alloc (.cells (hcells k) 23)) (w.heap.size + 1) 23 (hcells k) := by
    have := Blk.new (w.alloc (.cells (hcells h) 23)) 23 (hcells k)
    rwa [World.size_alloc] at this
  have Ha := Lib.hid (ha.keep h0)
  obtain ⟨kb, hkb⟩ : ∃ x, w.heap.size + 1 = x := ⟨_, rfl⟩
  obtain ⟨hb, hhb⟩ : ∃ x, w.heap.size = x := ⟨_, rfl⟩
  rw [hkb] at hkk
  rw [hhb] at hbb hkb
  have Hb := Lib.hid hbb
  have Hk := Lib.hid hkk
  clear hbb hkk ha
  have g600 : decide ((600 : Int) < (l.length : Int)) = false := by simp; omega
  have Hf := Lib.hid hf
  have Hf2 := Lib.hid hf2
  have Hs := Lib.hid hsm
  have Hs2 := Lib.hid ksm
  have Hm := Lib.hid hm
  obtain ⟨P, hP⟩ : ∃ P, putB h = P := ⟨_, rfl⟩
  obtain ⟨Q, hQ⟩ : ∃ Q, putB k = Q := ⟨_, rfl⟩
  have HP := Lib.hid hP
  have HQ := Lib.hid hQ
  have Hm2 := Lib.hid hm2
  obtain ⟨G, hG⟩ : ∃ G, h = G := ⟨_, rfl⟩
  have HG := Lib.hid (show getH P = G by rw [← hG, ← hP, putB_yes hm]; exact get_blk hm hsm)
  have HeP := Lib.hid (show codeB P = 0 by rw [← hP, putB_yes hm]; exact code_blk hm hsm)
  have gP : ((P.length : Int) != 512) = false := by rw [← hP, putB_yes hm, blk_length hm hsm]; rfl
  have heq : ∀ w, (Op.equalIn 10000 23 (hv G) (hv h)).run Try.prog w = .ok true w := fun w => by rw [← hG, eq_heads, decide_eq_true rfl]
  have HGh := Lib.hid hG
  clear hG
  have hng := noGuard
  obtain ⟨X, hX⟩ : ∃ X, getH l = X := ⟨_, rfl⟩
  obtain ⟨cd, hcd⟩ : ∃ cd, codeB l = cd := ⟨_, rfl⟩
  obtain ⟨PX, hPX⟩ : ∃ PX, putB X = PX := ⟨_, rfl⟩
  obtain ⟨mX, hmX⟩ : ∃ mX, mayH X = mX := ⟨_, rfl⟩
  have key : (X = zeroH ∧ (cd != 0) = true ∧ (cd == 0) = false) ∨ ((cd != 0) = false ∧ (cd == 0) = true ∧ true = mX ∧ l = PX) := by
    by_cases h9 : cd = 0
    · have := getH_ok (l := l) (by rw [hcd]; exact h9)
      rw [hX] at this
      exact .inr ⟨by rw [h9]; rfl, by rw [h9]; rfl, by rw [← hmX]; exact this.1.symm, by rw [← hPX]; exact this.2.symm⟩
    · have := getH_no (l := l) (by rw [hcd]; exact h9)
      rw [hX] at this
      exact .inl ⟨this, by simp [h9], by simp [h9]⟩
  have Hsx := Lib.hid (show SmallH X by rw [← hX]; exact getH_small l)
  have HX := Lib.hid hX
  have Hcd := Lib.hid hcd
  have HPx := Lib.hid hPX
  have Hmx := Lib.hid hmX
  have KeyX := Lib.hid key
  clear key hX hcd hPX hmX hf hf2 hsm ksm hm hP hQ hm2 
  go_enter Try.func4, Try.ntmps4
  go_wp2_with (first
    | (go_at_call 10; refine (awake_s _).mono ?_; rintro e w1 ⟨rfl, hs⟩; replace Hb := Lib.hid (Hb.out.keep hs Hb.out.lt); replace Hk := Lib.hid (Hk.out.keep hs Hk.out.lt); replace Ha := Lib.hid (Ha.out.keep hs); replace h0 := Stp.trans h0 hs; clear hs; obtain ⟨x0, x1, x2, x3, x4, x5, x6, x7, x8, x9, x10⟩ := hd_cells Hb.out)
    | (go_at_call 11; (with_reducible refine (few_s h _).mono ?_); rintro e w2 ⟨rfl, hs⟩; rw [Hf.out]; replace Hb := Lib.hid (Hb.out.keep hs Hb.out.lt); replace Hk := Lib.hid (Hk.out.keep hs Hk.out.lt); replace Ha := Lib.hid (Ha.out.keep hs); replace h0 := Stp.trans h0 hs; clear hs; clear x0 x1 x2 x3 x4 x5 x6 x7 x8 x9 x10; obtain ⟨y0, y1, y2, y3, y4, y5, y6, y7, y8, y9, y10⟩ := hd_cells Hk.out)
    | (go_at_call 11; (with_reducible refine (few_s k _).mono ?_); rintro e w3 ⟨rfl, hs⟩; rw [Hf2.out]; replace Hb := Lib.hid (Hb.out.keep hs Hb.out.lt); replace Hk := Lib.hid (Hk.out.keep hs Hk.out.lt); replace Ha := Lib.hid (Ha.out.keep hs); replace h0 := Stp.trans h0 hs; clear hs; clear y0 y1 y2 y3 y4 y5 y6 y7 y8 y9 y10; obtain ⟨x0, x1, x2, x3, x4, x5, x6, x7, x8, x9, x10⟩ := hd_cells Hb.out)
    | (go_at_call 12; (with_reducible refine (put_s h Hs.out _).mono ?_); rintro e w4 ⟨A4, c4, rfl, hr, hs⟩; rw [Hm.out]; rw [HP.out] at hr ⊢; have Hr4 := Lib.hid hr; replace Hb := Lib.hid (Hb.out.keep hs Hb.out.lt); replace Hk := Lib.hid (Hk.out.keep hs Hk.out.lt); replace Ha := Lib.hid (Ha.out.keep hs); replace h0 := Stp.trans h0 hs; clear hs hr; clear x0 x1 x2 x3 x4 x5 x6 x7 x8 x9 x10; obtain ⟨y0, y1, y2, y3, y4, y5, y6, y7, y8, y9, y10⟩ := hd_cells Hk.out)
    | (go_at_call 12; (with_reducible refine (put_s k Hs2.out _).mono ?_); rintro e w5 ⟨A5, c5, rfl, hr, hs⟩; rw [Hm2.out]; rw [HQ.out] at hr ⊢; have Hr5 := Lib.hid hr; replace Hr4 := Lib.hid (Hr4.out.keep hs); replace Hb := Lib.hid (Hb.out.keep hs Hb.out.lt); replace Hk := Lib.hid (Hk.out.keep hs Hk.out.lt); replace Ha := Lib.hid (Ha.out.keep hs); replace h0 := Stp.trans h0 hs; clear hs hr; clear y0 y1 y2 y3 y4 y5 y6 y7 y8 y9 y10)
    | (go_at_call 14; (with_reducible refine (hget_n P _ _ c4 _ Hr4.out rfl).mono ?_); rintro e w6 ⟨rfl, hs⟩; rw [HeP.out, HG.out]; replace Hr4 := Lib.hid (Hr4.out.keep hs); replace Hr5 := Lib.hid (Hr5.out.keep hs); replace Hb := Lib.hid (Hb.out.keep hs Hb.out.lt); replace Hk := Lib.hid (Hk.out.keep hs Hk.out.lt); replace Ha := Lib.hid (Ha.out.keep hs); replace h0 := Stp.trans h0 hs; clear hs))
  generalize hwq : w6.alloc _ = wq
  have hbq : Blk wq hb 23 (hcells h) := by rw [← hwq]; exact Hb.out.alloc _
  have hkq : Blk wq kb 23 (hcells k) := by rw [← hwq]; exact Hk.out.alloc _
  have hgq : Blk wq w6.heap.size 23 (hcells G) := by rw [← hwq]; exact Blk.new w6 _ _
  have hs6 : Stp w6 wq := by rw [← hwq]; exact Stp.alloc (Stp.refl w6) _
  have hPq := Hr4.out.keep hs6
  have hQq := Hr5.out.keep hs6
  have Haq := Lib.hid (Ha.out.keep hs6)
  have Hq := Lib.hid (Stp.trans h0 hs6)
  obtain ⟨gb, hgb⟩ : ∃ g, w6.heap.size = g := ⟨_, rfl⟩
  rw [hgb] at hgq ⊢
  have key : ∀ W, Stp wq W → (W.cell? ⟨hb, 0, none⟩ = some (.string ⟨h.name.toArray⟩) ∧ W.cell? ⟨hb, 1, none⟩ = some (.string ⟨h.pre.toArray⟩) ∧ W.cell? ⟨hb, 2, none⟩ = some (.string ⟨h.link.toArray⟩) ∧ W.cell? ⟨hb, 3, none⟩ = some (.int .i64 h.mode) ∧ W.cell? ⟨hb, 4, none⟩ = some (.int .i64 h.uid) ∧ W.cell? ⟨hb, 5, none⟩ = some (.int .i64 h.gid) ∧ W.cell? ⟨hb, 6, none⟩ = some (.int .i64 h.size) ∧ W.cell? ⟨hb, 7, none⟩ = some (.int .i64 h.time) ∧ W.cell? ⟨hb, 8, none⟩ = some (.int .u8 (h.ty.toNat : Int)) ∧ W.cell? ⟨hb, 9, none⟩ = some (.int .i64 h.off) ∧ W.cell? ⟨hb, 10, none⟩ = some (.int .i64 h.real)) ∧ (W.cell? ⟨gb, 0, none⟩ = some (.string ⟨G.name.toArray⟩) ∧ W.cell? ⟨gb, 1, none⟩ = some (.string ⟨G.pre.toArray⟩) ∧ W.cell? ⟨gb, 2, none⟩ = some (.string ⟨G.link.toArray⟩) ∧ W.cell? ⟨gb, 3, none⟩ = some (.int .i64 G.mode) ∧ W.cell? ⟨gb, 4, none⟩ = some (.int .i64 G.uid) ∧ W.cell? ⟨gb, 5, none⟩ = some (.int .i64 G.gid) ∧ W.cell? ⟨gb, 6, none⟩ = some (.int .i64 G.size) ∧ W.cell? ⟨gb, 7, none⟩ = some (.int .i64 G.time) ∧ W.cell? ⟨gb, 8, none⟩ = some (.int .u8 (G.ty.toNat : Int)) ∧ W.cell? ⟨gb, 9, none⟩ = some (.int .i64 G.off) ∧ W.cell? ⟨gb, 10, none⟩ = some (.int .i64 G.real)) ∧ (W.cell? ⟨kb, 0, none⟩ = some (.string ⟨k.name.toArray⟩) ∧ W.cell? ⟨kb, 1, none⟩ = some (.string ⟨k.pre.toArray⟩) ∧ W.cell? ⟨kb, 2, none⟩ = some (.string ⟨k.link.toArray⟩) ∧ W.cell? ⟨kb, 3, none⟩ = some (.int .i64 k.mode) ∧ W.cell? ⟨kb, 4, none⟩ = some (.int .i64 k.uid) ∧ W.cell? ⟨kb, 5, none⟩ = some (.int .i64 k.gid) ∧ W.cell? ⟨kb, 6, none⟩ = some (.int .i64 k.size) ∧ W.cell? ⟨kb, 7, none⟩ = some (.int .i64 k.time) ∧ W.cell? ⟨kb, 8, none⟩ = some (.int .u8 (k.ty.toNat : Int)) ∧ W.cell? ⟨kb, 9, none⟩ = some (.int .i64 k.off) ∧ W.cell? ⟨kb, 10, none⟩ = some (.int .i64 k.real)) ∧ (convert 24 9 (.slice A4 P.length c4)).run Try.prog W = .ok (.string ⟨P.toArray⟩) W ∧ (convert 24 9 (.slice A5 Q.length c5)).run Try.prog W = .ok (.string ⟨Q.toArray⟩) W := fun W hW =>
    ⟨hd_cells (hbq.keep hW hbq.lt), hd_cells (hgq.keep hW hgq.lt), hd_cells (hkq.keep hW hkq.lt), str_rd (hPq.keep hW), str_rd (hQq.keep hW)⟩
  have Key := Lib.hid key
  clear key hwq hbq hkq hgq hs6 hPq hQq hgb Hr4 Hr5 Hb Hk Ha h0
  · refine wp_region_held_drew (S := (fun W : World => (W.cell? ⟨hb, 0, none⟩ = some (.string ⟨h.name.toArray⟩) ∧ W.cell? ⟨hb, 1, none⟩ = some (.string ⟨h.pre.toArray⟩) ∧ W.cell? ⟨hb, 2, none⟩ = some (.string ⟨h.link.toArray⟩) ∧ W.cell? ⟨hb, 3, none⟩ = some (.int .i64 h.mode) ∧ W.cell? ⟨hb, 4, none⟩ = some (.int .i64 h.uid) ∧ W.cell? ⟨hb, 5, none⟩ = some (.int .i64 h.gid) ∧ W.cell? ⟨hb, 6, none⟩ = some (.int .i64 h.size) ∧ W.cell? ⟨hb, 7, none⟩ = some (.int .i64 h.time) ∧ W.cell? ⟨hb, 8, none⟩ = some (.int .u8 (h.ty.toNat : Int)) ∧ W.cell? ⟨hb, 9, none⟩ = some (.int .i64 h.off) ∧ W.cell? ⟨hb, 10, none⟩ = some (.int .i64 h.real)) ∧ (W.cell? ⟨gb, 0, none⟩ = some (.string ⟨G.name.toArray⟩) ∧ W.cell? ⟨gb, 1, none⟩ = some (.string ⟨G.pre.toArray⟩) ∧ W.cell? ⟨gb, 2, none⟩ = some (.string ⟨G.link.toArray⟩) ∧ W.cell? ⟨gb, 3, none⟩ = some (.int .i64 G.mode) ∧ W.cell? ⟨gb, 4, none⟩ = some (.int .i64 G.uid) ∧ W.cell? ⟨gb, 5, none⟩ = some (.int .i64 G.gid) ∧ W.cell? ⟨gb, 6, none⟩ = some (.int .i64 G.size) ∧ W.cell? ⟨gb, 7, none⟩ = some (.int .i64 G.time) ∧ W.cell? ⟨gb, 8, none⟩ = some (.int .u8 (G.ty.toNat : Int)) ∧ W.cell? ⟨gb, 9, none⟩ = some (.int .i64 G.off) ∧ W.cell? ⟨gb, 10, none⟩ = some (.int .i64 G.real)) ∧ (W.cell? ⟨kb, 0, none⟩ = some (.string ⟨k.name.toArray⟩) ∧ W.cell? ⟨kb, 1, none⟩ = some (.string ⟨k.pre.toArray⟩) ∧ W.cell? ⟨kb, 2, none⟩ = some (.string ⟨k.link.toArray⟩) ∧ W.cell? ⟨kb, 3, none⟩ = some (.int .i64 k.mode) ∧ W.cell? ⟨kb, 4, none⟩ = some (.int .i64 k.uid) ∧ W.cell? ⟨kb, 5, none⟩ = some (.int .i64 k.gid) ∧ W.cell? ⟨kb, 6, none⟩ = some (.int .i64 k.size) ∧ W.cell? ⟨kb, 7, none⟩ = some (.int .i64 k.time) ∧ W.cell? ⟨kb, 8, none⟩ = some (.int .u8 (k.ty.toNat : Int)) ∧ W.cell? ⟨kb, 9, none⟩ = some (.int .i64 k.off) ∧ W.cell? ⟨kb, 10, none⟩ = some (.int .i64 k.real)) ∧ (convert 24 9 (.slice A4 P.length c4)).run Try.prog W = .ok (.string ⟨P.toArray⟩) W ∧ (convert 24 9 (.slice A5 Q.length c5)).run Try.prog W = .ok (.string ⟨Q.toArray⟩) W)) (by kernel_rfl) (Key.out _ (stp_drew (Stp.refl wq))) (fun hHeld => ?_)
    refine wpAnyH_take (i := 0) (oi := { dst := some 56, op := Go.Op.move (Go.Operand.tmp 11), type := 4, pos := "law.go:54", after := #[], guard := none }) (v := ?v0) rfl (by kernel_rfl) (by kernel_rfl) (by kernel_rfl) (fun _ _ _ h => h) (Or.inl ⟨by rfl, ?hy0⟩) (by assumption) ?rest0
    case hy0 => (intro w hSw; (try dsimp only at hSw); go_simp; try with_reducible rfl)
    try simp only [Act.put, List.setIfInBounds_toArray, List.set_cons_zero, List.set_cons_succ]
    refine wpAnyH_take (i := 1) (oi := { dst := some 57, op := Go.Op.load 23 (Go.Operand.tmp 3), type := 23, pos := "law.go:54", after := #[], guard := none }) (v := ?v1) rfl (by kernel_rfl) (by kernel_rfl) (by kernel_rfl) (fun _ _ _ h => h) (Or.inl ⟨by rfl, ?hy1⟩) (by assumption) ?rest1
    case hy1 => (intro w hSw; (try dsimp only at hSw); go_simp; try with_reducible rfl)
    try simp only [Act.put, List.setIfInBounds_toArray, List.set_cons_zero, List.set_cons_succ]
    refine wpAnyH_ready (rs := [2]) (by kernel_rfl) (by simp) ?_
    refine AllReadyH.cons (o := { dst := some 58, op := Go.Op.call { callee := Go.Callee.value (Go.Operand.func 17), args := #[Go.Operand.tmp 57], argTypes := #[23] }, type := 4, pos := "law.go:54", after := #[{ on := 1, ground := Go.Ground.data }], guard := none }) rfl (fun K hK => ?_) AllReadyH.nil
    go_simp
    refine (may_any h Hs.out _).mono ?_
    rintro e w8 ⟨rfl, hs⟩
    rw [Hm.out]
    have K8 := Lib.hid (Stp.trans (stp_drew (Stp.refl wq)) hs)
    clear hs
    go_wp2_with fail
    refine hK.out _ _ (Key.out _ K8.out) (fun hHeld2 => ?_)
    clear hK K hHeld
    have hHeld := hHeld2
    clear hHeld2
    try simp only [Act.put, List.setIfInBounds_toArray, List.set_cons_zero, List.set_cons_succ]
    refine wpAnyH_take (i := 3) (oi := { dst := some 59, op := Go.Op.binOp Go.BinOp.neq 4 (Go.Operand.tmp 56) (Go.Operand.tmp 58) 4, type := 4, pos := "law.go:54", after := #[{ on := 0, ground := Go.Ground.data }, { on := 2, ground := Go.Ground.data }], guard := none }) (v := ?v3) rfl (by kernel_rfl) (by kernel_rfl) (by kernel_rfl) (fun _ _ _ h => h) (Or.inl ⟨by rfl, ?hy3⟩) (by assumption) ?rest3
    case hy3 => (intro w hSw; (try dsimp only at hSw); go_simp; try with_reducible rfl)
    try simp only [Act.put, List.setIfInBounds_toArray, List.set_cons_zero, List.set_cons_succ]
    refine wpAnyH_take (i := 4) (oi := { dst := some 60, op := Go.Op.move (Go.Operand.tmp 59), type := 4, pos := "law.go:54", after := #[{ on := 3, ground := Go.Ground.data }, { on := 2, ground := Go.Ground.chain }], guard := none }) (v := ?v4) rfl (by kernel_rfl) (by kernel_rfl) (by kernel_rfl) (fun _ _ _ h => h) (Or.inl ⟨by rfl, ?hy4⟩) (by assumption) ?rest4
    case hy4 => (intro w hSw; (try dsimp only at hSw); go_simp; try with_reducible rfl)
    try simp only [Act.put, List.setIfInBounds_toArray, List.set_cons_zero, List.set_cons_succ]
    refine wpAnyH_take (i := 5) (oi := { dst := some 61, op := Go.Op.move (Go.Operand.tmp 11), type := 4, pos := "law.go:54", after := #[{ on := 4, ground := Go.Ground.guard }], guard := some (4, false) }) (v := ?v5) rfl (by kernel_rfl) (by kernel_rfl) (by kernel_rfl) (fun _ _ _ h => h) (Or.inl ⟨by rfl, ?hy5⟩) (by assumption) ?rest5
    case hy5 => (intro w hSw; (try dsimp only at hSw); go_simp; try with_reducible rfl)
    try simp only [Act.put, List.setIfInBounds_toArray, List.set_cons_zero, List.set_cons_succ]
    refine wpAnyH_take (i := 6) (oi := { dst := some 62, op := Go.Op.move (Go.Operand.tmp 61), type := 4, pos := "law.go:54", after := #[{ on := 5, ground := Go.Ground.data }, { on := 4, ground := Go.Ground.chain }, { on := 4, ground := Go.Ground.guard }], guard := some (4, false) }) (v := ?v6) rfl (by kernel_rfl) (by kernel_rfl) (by kernel_rfl) (fun _ _ _ h => h) (Or.inl ⟨by rfl, ?hy6⟩) (by assumption) ?rest6
    case hy6 => (intro w hSw; (try dsimp only at hSw); go_simp; try with_reducible rfl)
    try simp only [Act.put, List.setIfInBounds_toArray, List.set_cons_zero, List.set_cons_succ]
    refine wpAnyH_take (i := 7) (oi := { dst := some 63, op := Go.Op.move (Go.Operand.tmp 15), type := 29, pos := "law.go:54", after := #[{ on := 6, ground := Go.Ground.guard }], guard := some (6, true) }) (v := ?v7) rfl (by kernel_rfl) (by kernel_rfl) (by kernel_rfl) (fun _ _ _ h => h) (Or.inl ⟨by rfl, ?hy7⟩) (by assumption) ?rest7
    case hy7 => (intro w hSw; (try dsimp only at hSw); go_simp; try with_reducible rfl)
    try simp only [Act.put, List.setIfInBounds_toArray, List.set_cons_zero, List.set_cons_succ]
    refine wpAnyH_take (i := 8) (oi := { dst := some 64, op := Go.Op.binOp Go.BinOp.neq 29 (Go.Operand.tmp 63) (Go.Operand.const (Go.Value.int Go.IntKind.i64 0)) 29, type := 4, pos := "law.go:54", after := #[{ on := 7, ground := Go.Ground.data }, { on := 6, ground := Go.Ground.guard }], guard := some (6, true) }) (v := ?v8) rfl (by kernel_rfl) (by kernel_rfl) (by kernel_rfl) (fun _ _ _ h => h) (Or.inl ⟨by rfl, ?hy8⟩) (by assumption) ?rest8
    case hy8 => (intro w hSw; (try dsimp only at hSw); go_simp; try with_reducible rfl)
    try simp only [Act.put, List.setIfInBounds_toArray, List.set_cons_zero, List.set_cons_succ]
    refine wpAnyH_take (i := 9) (oi := { dst := some 65, op := Go.Op.move (Go.Operand.tmp 64), type := 4, pos := "law.go:54", after := #[{ on := 8, ground := Go.Ground.data }, { on := 6, ground := Go.Ground.chain }, { on := 6, ground := Go.Ground.guard }], guard := some (6, true) }) (v := ?v9) rfl (by kernel_rfl) (by kernel_rfl) (by kernel_rfl) (fun _ _ _ h => h) (Or.inl ⟨by rfl, ?hy9⟩) (by assumption) ?rest9
    case hy9 => (intro w hSw; (try dsimp only at hSw); go_simp; try with_reducible rfl)
    try simp only [Act.put, List.setIfInBounds_toArray, List.set_cons_zero, List.set_cons_succ]
    refine wpAnyH_take (i := 10) (oi := { dst := some 66, op := Go.Op.load 23 (Go.Operand.tmp 14), type := 23, pos := "law.go:54", after := #[{ on := 9, ground := Go.Ground.guard }], guard := some (9, false) }) (v := ?v10) rfl (by kernel_rfl) (by kernel_rfl) (by kernel_rfl) (fun _ _ _ h => h) (Or.inl ⟨by rfl, ?hy10⟩) (by assumption) ?rest10
    case hy10 => (intro w hSw; (try dsimp only at hSw); go_simp; try with_reducible rfl)
    try simp only [Act.put, List.setIfInBounds_toArray, List.set_cons_zero, List.set_cons_succ]
    refine wpAnyH_take (i := 11) (oi := { dst := some 67, op := Go.Op.load 23 (Go.Operand.tmp 3), type := 23, pos := "law.go:54", after := #[{ on := 9, ground := Go.Ground.guard }], guard := some (9, false) }) (v := ?v11) rfl (by kernel_rfl) (by kernel_rfl) (by kernel_rfl) (fun _ _ _ h => h) (Or.inl ⟨by rfl, ?hy11⟩) (by assumption) ?rest11
    case hy11 => (intro w hSw; (try dsimp only at hSw); go_simp; try with_reducible rfl)
    try simp only [Act.put, List.setIfInBounds_toArray, List.set_cons_zero, List.set_cons_succ]
    refine wpAnyH_take (i := 12) (oi := { dst := some 68, op := Go.Op.binOp Go.BinOp.neq 23 (Go.Operand.tmp 66) (Go.Operand.tmp 67) 23, type := 4, pos := "law.go:54", after := #[{ on := 10, ground := Go.Ground.data }, { on := 11, ground := Go.Ground.data }, { on := 9, ground := Go.Ground.guard }], guard := some (9, false) }) (v := ?v12) rfl (by kernel_rfl) (by kernel_rfl) (by kernel_rfl) (fun _ _ _ h => h) (Or.inl ⟨by rfl, ?hy12⟩) (by assumption) ?rest12
    case hy12 => (intro w hSw; (try dsimp only at hSw); go_simp; try with_reducible rfl)
    try simp only [Act.put, List.setIfInBounds_toArray, List.set_cons_zero, List.set_cons_succ]
    refine wpAnyH_take (i := 13) (oi := { dst := some 69, op := Go.Op.pick (Go.Operand.tmp 65) (Go.Operand.const (Go.Value.bool true)) (Go.Operand.tmp 68), type := 4, pos := "law.go:54", after := #[{ on := 9, ground := Go.Ground.data }, { on := 12, ground := Go.Ground.data }, { on := 6, ground := Go.Ground.guard }], guard := some (6, true) }) (v := ?v13) rfl (by kernel_rfl) (by kernel_rfl) (by kernel_rfl) (fun _ _ _ h => h) (Or.inl ⟨by rfl, ?hy13⟩) (by assumption) ?rest13
    case hy13 => (intro w hSw; (try dsimp only at hSw); go_simp; try with_reducible rfl)
    try simp only [Act.put, List.setIfInBounds_toArray, List.set_cons_zero, List.set_cons_succ]
    refine wpAnyH_take (i := 14) (oi := { dst := some 70, op := Go.Op.move (Go.Operand.tmp 69), type := 4, pos := "law.go:54", after := #[{ on := 13, ground := Go.Ground.data }, { on := 9, ground := Go.Ground.chain }, { on := 6, ground := Go.Ground.guard }], guard := some (6, true) }) (v := ?v14) rfl (by kernel_rfl) (by kernel_rfl) (by kernel_rfl) (fun _ _ _ h => h) (Or.inl ⟨by rfl, ?hy14⟩) (by assumption) ?rest14
    case hy14 => (intro w hSw; (try dsimp only at hSw); go_simp; try with_reducible rfl)
    try simp only [Act.put, List.setIfInBounds_toArray, List.set_cons_zero, List.set_cons_succ]
    refine wpAnyH_take (i := 15) (oi := { dst := some 71, op := Go.Op.move (Go.Operand.tmp 10), type := 24, pos := "law.go:54", after := #[{ on := 14, ground := Go.Ground.guard }], guard := some (14, false) }) (v := ?v15) rfl (by kernel_rfl) (by kernel_rfl) (by kernel_rfl) (fun _ _ _ h => h) (Or.inl ⟨by rfl, ?hy15⟩) (by assumption) ?rest15
    case hy15 => (intro w hSw; (try dsimp only at hSw); go_simp; try with_reducible rfl)
    try simp only [Act.put, List.setIfInBounds_toArray, List.set_cons_zero, List.set_cons_succ]
    refine wpAnyH_take (i := 16) (oi := { dst := some 72, op := Go.Op.call { callee := Go.Callee.builtin Go.Builtin.len, args := #[Go.Operand.tmp 71], argTypes := #[24] }, type := 3, pos := "law.go:54", after := #[{ on := 15, ground := Go.Ground.data }, { on := 14, ground := Go.Ground.guard }], guard := some (14, false) }) (v := ?v16) rfl (by kernel_rfl) (by kernel_rfl) (by kernel_rfl) (fun _ _ _ h => h) (Or.inl ⟨by rfl, ?hy16⟩) (by assumption) ?rest16
    case hy16 => (intro w hSw; (try dsimp only at hSw); go_simp; try with_reducible rfl)
    try simp only [Act.put, List.setIfInBounds_toArray, List.set_cons_zero, List.set_cons_succ]
    refine wpAnyH_take (i := 17) (oi := { dst := some 73, op := Go.Op.binOp Go.BinOp.neq 3 (Go.Operand.tmp 72) (Go.Operand.const (Go.Value.int Go.IntKind.i64 512)) 3, type := 4, pos := "law.go:54", after := #[{ on := 16, ground := Go.Ground.data }, { on := 14, ground := Go.Ground.guard }], guard := some (14, false) }) (v := ?v17) rfl (by kernel_rfl) (by kernel_rfl) (by kernel_rfl) (fun _ _ _ h => h) (Or.inl ⟨by rfl, ?hy17⟩) (by assumption) ?rest17
    case hy17 => (intro w hSw; (try dsimp only at hSw); go_simp; try with_reducible rfl)
    try simp only [Act.put, List.setIfInBounds_toArray, List.set_cons_zero, List.set_cons_succ]
    refine wpAnyH_take (i := 18) (oi := { dst := some 74, op := Go.Op.pick (Go.Operand.tmp 70) (Go.Operand.const (Go.Value.bool true)) (Go.Operand.tmp 73), type := 4, pos := "law.go:54", after := #[{ on := 14, ground := Go.Ground.data }, { on := 17, ground := Go.Ground.data }, { on := 6, ground := Go.Ground.guard }], guard := some (6, true) }) (v := ?v18) rfl (by kernel_rfl) (by kernel_rfl) (by kernel_rfl) (fun _ _ _ h => h) (Or.inl ⟨by rfl, ?hy18⟩) (by assumption) ?rest18
    case hy18 => (intro w hSw; (try dsimp only at hSw); go_simp; try with_reducible rfl)
    try simp only [Act.put, List.setIfInBounds_toArray, List.set_cons_zero, List.set_cons_succ]
    refine wpAnyH_take (i := 19) (oi := { dst := some 75, op := Go.Op.pick (Go.Operand.tmp 62) (Go.Operand.tmp 74) (Go.Operand.const (Go.Value.bool false)), type := 4, pos := "law.go:54", after := #[{ on := 6, ground := Go.Ground.data }, { on := 18, ground := Go.Ground.data }, { on := 4, ground := Go.Ground.guard }], guard := some (4, false) }) (v := ?v19) rfl (by kernel_rfl) (by kernel_rfl) (by kernel_rfl) (fun _ _ _ h => h) (Or.inl ⟨by rfl, ?hy19⟩) (by assumption) ?rest19
    case hy19 => (intro w hSw; (try dsimp only at hSw); go_simp; try with_reducible rfl)
    try simp only [Act.put, List.setIfInBounds_toArray, List.set_cons_zero, List.set_cons_succ]
    refine wpAnyH_take (i := 20) (oi := { dst := some 76, op := Go.Op.pick (Go.Operand.tmp 60) (Go.Operand.const (Go.Value.bool true)) (Go.Operand.tmp 75), type := 4, pos := "law.go:54", after := #[{ on := 4, ground := Go.Ground.data }, { on := 19, ground := Go.Ground.data }], guard := none }) (v := ?v20) rfl (by kernel_rfl) (by kernel_rfl) (by kernel_rfl) (fun _ _ _ h => h) (Or.inl ⟨by rfl, ?hy20⟩) (by assumption) ?rest20
    case hy20 => (intro w hSw; (try dsimp only at hSw); go_simp; try with_reducible rfl)
    try simp only [Act.put, List.setIfInBounds_toArray, List.set_cons_zero, List.set_cons_succ]
    refine wpAnyH_take (i := 21) (oi := { dst := some 77, op := Go.Op.move (Go.Operand.tmp 76), type := 4, pos := "law.go:54", after := #[{ on := 20, ground := Go.Ground.data }, { on := 14, ground := Go.Ground.chain }], guard := none }) (v := ?v21) rfl (by kernel_rfl) (by kernel_rfl) (by kernel_rfl) (fun _ _ _ h => h) (Or.inl ⟨by rfl, ?hy21⟩) (by assumption) ?rest21
    case hy21 => (intro w hSw; (try dsimp only at hSw); go_simp; try with_reducible rfl)
    try simp only [Act.put, List.setIfInBounds_toArray, List.set_cons_zero, List.set_cons_succ]
    refine wpAnyH_take (i := 22) (oi := { dst := some 78, op := Go.Op.move (Go.Operand.tmp 11), type := 4, pos := "law.go:54", after := #[{ on := 21, ground := Go.Ground.guard }], guard := some (21, false) }) (v := ?v22) rfl (by kernel_rfl) (by kernel_rfl) (by kernel_rfl) (fun _ _ _ h => h) (Or.inl ⟨by rfl, ?hy22⟩) (by assumption) ?rest22
    case hy22 => (intro w hSw; (try dsimp only at hSw); go_simp; try with_reducible rfl)
    try simp only [Act.put, List.setIfInBounds_toArray, List.set_cons_zero, List.set_cons_succ]
    refine wpAnyH_take (i := 23) (oi := { dst := some 79, op := Go.Op.move (Go.Operand.tmp 78), type := 4, pos := "law.go:54", after := #[{ on := 22, ground := Go.Ground.data }, { on := 21, ground := Go.Ground.chain }, { on := 21, ground := Go.Ground.guard }], guard := some (21, false) }) (v := ?v23) rfl (by kernel_rfl) (by kernel_rfl) (by kernel_rfl) (fun _ _ _ h => h) (Or.inl ⟨by rfl, ?hy23⟩) (by assumption) ?rest23
    case hy23 => (intro w hSw; (try dsimp only at hSw); go_simp; try with_reducible rfl)
    try simp only [Act.put, List.setIfInBounds_toArray, List.set_cons_zero, List.set_cons_succ]
    refine wpAnyH_take (i := 24) (oi := { dst := some 80, op := Go.Op.move (Go.Operand.tmp 13), type := 4, pos := "law.go:54", after := #[{ on := 23, ground := Go.Ground.guard }], guard := some (23, true) }) (v := ?v24) rfl (by kernel_rfl) (by kernel_rfl) (by kernel_rfl) (fun _ _ _ h => h) (Or.inl ⟨by rfl, ?hy24⟩) (by assumption) ?rest24
    case hy24 => (intro w hSw; (try dsimp only at hSw); go_simp; try with_reducible rfl)
    try simp only [Act.put, List.setIfInBounds_toArray, List.set_cons_zero, List.set_cons_succ]
    refine wpAnyH_take (i := 25) (oi := { dst := some 81, op := Go.Op.pick (Go.Operand.tmp 79) (Go.Operand.tmp 80) (Go.Operand.const (Go.Value.bool false)), type := 4, pos := "law.go:54", after := #[{ on := 23, ground := Go.Ground.data }, { on := 24, ground := Go.Ground.data }, { on := 21, ground := Go.Ground.guard }], guard := some (21, false) }) (v := ?v25) rfl (by kernel_rfl) (by kernel_rfl) (by kernel_rfl) (fun _ _ _ h => h) (Or.inl ⟨by rfl, ?hy25⟩) (by assumption) ?rest25
    case hy25 => (intro w hSw; (try dsimp only at hSw); go_simp; try with_reducible rfl)
    try simp only [Act.put, List.setIfInBounds_toArray, List.set_cons_zero, List.set_cons_succ]
    refine wpAnyH_take (i := 26) (oi := { dst := some 82, op := Go.Op.move (Go.Operand.tmp 81), type := 4, pos := "law.go:54", after := #[{ on := 25, ground := Go.Ground.data }, { on := 23, ground := Go.Ground.chain }, { on := 21, ground := Go.Ground.guard }], guard := some (21, false) }) (v := ?v26) rfl (by kernel_rfl) (by kernel_rfl) (by kernel_rfl) (fun _ _ _ h => h) (Or.inl ⟨by rfl, ?hy26⟩) (by assumption) ?rest26
    case hy26 => (intro w hSw; (try dsimp only at hSw); go_simp; try with_reducible rfl)
    try simp only [Act.put, List.setIfInBounds_toArray, List.set_cons_zero, List.set_cons_succ]
    refine wpAnyH_take (i := 27) (oi := { dst := some 83, op := Go.Op.move (Go.Operand.tmp 10), type := 24, pos := "law.go:54", after := #[{ on := 26, ground := Go.Ground.guard }], guard := some (26, true) }) (v := undef) rfl (by kernel_rfl) (by kernel_rfl) (by kernel_rfl) (fun _ _ _ h => h) (Or.inr ⟨by rfl, rfl⟩) (by assumption) ?_
    try simp only [Act.put, List.setIfInBounds_toArray, List.set_cons_zero, List.set_cons_succ]
    refine wpAnyH_take (i := 28) (oi := { dst := some 84, op := Go.Op.convert 24 9 (Go.Operand.tmp 83), type := 9, pos := "law.go:54", after := #[{ on := 27, ground := Go.Ground.data }, { on := 26, ground := Go.Ground.guard }], guard := some (26, true) }) (v := undef) rfl (by kernel_rfl) (by kernel_rfl) (by kernel_rfl) (fun _ _ _ h => h) (Or.inr ⟨by rfl, rfl⟩) (by assumption) ?_
    try simp only [Act.put, List.setIfInBounds_toArray, List.set_cons_zero, List.set_cons_succ]
    refine wpAnyH_take (i := 29) (oi := { dst := some 85, op := Go.Op.move (Go.Operand.tmp 12), type := 24, pos := "law.go:54", after := #[{ on := 26, ground := Go.Ground.guard }], guard := some (26, true) }) (v := undef) rfl (by kernel_rfl) (by kernel_rfl) (by kernel_rfl) (fun _ _ _ h => h) (Or.inr ⟨by rfl, rfl⟩) (by assumption) ?_
    try simp only [Act.put, List.setIfInBounds_toArray, List.set_cons_zero, List.set_cons_succ]
    refine wpAnyH_take (i := 30) (oi := { dst := some 86, op := Go.Op.convert 24 9 (Go.Operand.tmp 85), type := 9, pos := "law.go:54", after := #[{ on := 29, ground := Go.Ground.data }, { on := 26, ground := Go.Ground.guard }], guard := some (26, true) }) (v := undef) rfl (by kernel_rfl) (by kernel_rfl) (by kernel_rfl) (fun _ _ _ h => h) (Or.inr ⟨by rfl, rfl⟩) (by assumption) ?_
    try simp only [Act.put, List.setIfInBounds_toArray, List.set_cons_zero, List.set_cons_succ]
    refine wpAnyH_take (i := 31) (oi := { dst := some 87, op := Go.Op.binOp Go.BinOp.eql 9 (Go.Operand.tmp 84) (Go.Operand.tmp 86) 9, type := 4, pos := "law.go:54", after := #[{ on := 28, ground := Go.Ground.data }, { on := 30, ground := Go.Ground.data }, { on := 26, ground := Go.Ground.guard }], guard := some (26, true) }) (v := undef) rfl (by kernel_rfl) (by kernel_rfl) (by kernel_rfl) (fun _ _ _ h => h) (Or.inr ⟨by rfl, rfl⟩) (by assumption) ?_
    try simp only [Act.put, List.setIfInBounds_toArray, List.set_cons_zero, List.set_cons_succ]
    refine wpAnyH_take (i := 32) (oi := { dst := some 88, op := Go.Op.load 23 (Go.Operand.tmp 3), type := 23, pos := "law.go:54", after := #[{ on := 26, ground := Go.Ground.guard }], guard := some (26, true) }) (v := undef) rfl (by kernel_rfl) (by kernel_rfl) (by kernel_rfl) (fun _ _ _ h => h) (Or.inr ⟨by rfl, rfl⟩) (by assumption) ?_
    try simp only [Act.put, List.setIfInBounds_toArray, List.set_cons_zero, List.set_cons_succ]
    refine wpAnyH_take (i := 33) (oi := { dst := some 89, op := Go.Op.load 23 (Go.Operand.tmp 4), type := 23, pos := "law.go:54", after := #[{ on := 26, ground := Go.Ground.guard }], guard := some (26, true) }) (v := undef) rfl (by kernel_rfl) (by kernel_rfl) (by kernel_rfl) (fun _ _ _ h => h) (Or.inr ⟨by rfl, rfl⟩) (by assumption) ?_
    try simp only [Act.put, List.setIfInBounds_toArray, List.set_cons_zero, List.set_cons_succ]
    refine wpAnyH_take (i := 34) (oi := { dst := some 90, op := Go.Op.binOp Go.BinOp.eql 23 (Go.Operand.tmp 88) (Go.Operand.tmp 89) 23, type := 4, pos := "law.go:54", after := #[{ on := 32, ground := Go.Ground.data }, { on := 33, ground := Go.Ground.data }, { on := 26, ground := Go.Ground.guard }], guard := some (26, true) }) (v := undef) rfl (by kernel_rfl) (by kernel_rfl) (by kernel_rfl) (fun _ _ _ h => h) (Or.inr ⟨by rfl, rfl⟩) (by assumption) ?_
    try simp only [Act.put, List.setIfInBounds_toArray, List.set_cons_zero, List.set_cons_succ]
    refine wpAnyH_take (i := 35) (oi := { dst := some 91, op := Go.Op.binOp Go.BinOp.neq 4 (Go.Operand.tmp 87) (Go.Operand.tmp 90) 4, type := 4, pos := "law.go:54", after := #[{ on := 31, ground := Go.Ground.data }, { on := 34, ground := Go.Ground.data }, { on := 26, ground := Go.Ground.guard }], guard := some (26, true) }) (v := undef) rfl (by kernel_rfl) (by kernel_rfl) (by kernel_rfl) (fun _ _ _ h => h) (Or.inr ⟨by rfl, rfl⟩) (by assumption) ?_
    try simp only [Act.put, List.setIfInBounds_toArray, List.set_cons_zero, List.set_cons_succ]
    refine wpAnyH_take (i := 36) (oi := { dst := some 92, op := Go.Op.pick (Go.Operand.tmp 82) (Go.Operand.tmp 91) (Go.Operand.const (Go.Value.bool false)), type := 4, pos := "law.go:54", after := #[{ on := 26, ground := Go.Ground.data }, { on := 35, ground := Go.Ground.data }, { on := 21, ground := Go.Ground.guard }], guard := some (21, false) }) (v := ?v36) rfl (by kernel_rfl) (by kernel_rfl) (by kernel_rfl) (fun _ _ _ h => h) (Or.inl ⟨by rfl, ?hy36⟩) (by assumption) ?rest36
    case hy36 => (intro w hSw; (try dsimp only at hSw); go_simp; try with_reducible rfl)
    try simp only [Act.put, List.setIfInBounds_toArray, List.set_cons_zero, List.set_cons_succ]
    refine wpAnyH_take (i := 37) (oi := { dst := some 93, op := Go.Op.pick (Go.Operand.tmp 77) (Go.Operand.const (Go.Value.bool true)) (Go.Operand.tmp 92), type := 4, pos := "law.go:54", after := #[{ on := 21, ground := Go.Ground.data }, { on := 36, ground := Go.Ground.data }], guard := none }) (v := ?v37) rfl (by kernel_rfl) (by kernel_rfl) (by kernel_rfl) (fun _ _ _ h => h) (Or.inl ⟨by rfl, ?hy37⟩) (by assumption) ?rest37
    case hy37 => (intro w hSw; (try dsimp only at hSw); go_simp; try with_reducible rfl)
    try simp only [Act.put, List.setIfInBounds_toArray, List.set_cons_zero, List.set_cons_succ]
    refine wpAnyH_done (by kernel_rfl) ?_ _
    clear hHeld
    have H8 := Lib.hid (Stp.trans Hq.out K8.out)
    have Ha8 := Lib.hid (Haq.out.keep K8.out)
    clear Key Haq Hq K8
    have hz : X = zeroH → ∀ w, (Op.equalIn 10000 23 (hv X) (.agg #[.string ⟨#[]⟩, .string ⟨#[]⟩, .string ⟨#[]⟩, .int .i64 0, .int .i64 0, .int .i64 0, .int .i64 0, .int .i64 0, .int .u8 0, .int .i64 0, .int .i64 0])).run Try.prog w = .ok true w := fun hX0 w => by
      rw [hX0]
      have := eq_heads zeroH zeroH w
      rw [decide_eq_true rfl] at this
      exact this
    rcases KeyX.out with ⟨hX0, k1, k2⟩ | ⟨k1, k2, rfl, rfl⟩
    all_goals (first | (replace hz := hz hX0; clear hX0) | clear hz)
    all_goals go_wp2_with (first
      | (go_at_call 14; (with_reducible refine (hget_n l _ _ c _ Ha8.out rfl).mono ?_); rintro e w9 ⟨rfl, hs⟩; rw [Hcd.out, HX.out]; have Ha9 := Lib.hid (Ha8.out.keep hs); have H9 := Lib.hid (Stp.trans H8.out hs); clear hs)
      | (go_at_call 12; (with_reducible refine (put_s X Hsx.out _).mono ?_); rintro e w10 ⟨A6, c6, rfl, hr, hs⟩; rw [Hmx.out]; rw [HPx.out] at hr ⊢; have hcx := str_rd hr; have hcb := str_rd ((Ha9.out.keep (Stp.alloc (Stp.refl w9) (.cells (hcells X) 23))).keep hs); have H10 := Lib.hid (Stp.trans (Stp.alloc H9.out (.cells (hcells X) 23)) hs); obtain ⟨x0, x1, x2, x3, x4, x5, x6, x7, x8, x9, x10⟩ := hd_cells ((Blk.new w9 23 (hcells X)).keep hs (Blk.new w9 23 (hcells X)).lt); clear hs hr))
    all_goals go_ret
    all_goals exact ⟨rfl, H10.out⟩

set_option maxHeartbeats 8000000 in
set_option maxRecDepth 100000 in
theorem back_c (h k : Hd) (hsm : SmallH h) (ksm : SmallH k) (l : L) (A : Option Addr) (c : Nat) (w : World) (ha : RdA w A c (bs l)) (hf : fewB h = true) (hf2 : fewB k = true) (hl : l.length ≤ 600) (hm : mayH h = true) (hm2 : mayH k = true) :
    Calls Try.prog 4 #[hv h, hv k, .slice A l.length c] w fun e w' => e = .returned (.bool true) ∧ Stp w w' := by
  have h0 := Stp.alloc (Stp.alloc (Stp.refl w) (.cells (hcells h) 23)) (.cells (hcells k) 23)
  have hbb : Blk ((w.alloc (.cells (hcells h) 23)).alloc (.cells (hcells k) 23)) w.heap.size 23 (hcells h) := (Blk.new w 23 (hcells h)).alloc _
  have hkk : Blk ((w.alloc (.cells (hcells h) 23)).alloc (.cells (hcells k) 23)) (w.heap.size + 1) 23 (hcells k) := by
    have := Blk.new (w.alloc (.cells (hcells h) 23)) 23 (hcells k)
    rwa [World.size_alloc] at this
  have Ha := Lib.hid (ha.keep h0)
  obtain ⟨kb, hkb⟩ : ∃ x, w.heap.size + 1 = x := ⟨_, rfl⟩
  obtain ⟨hb, hhb⟩ : ∃ x, w.heap.size = x := ⟨_, rfl⟩
  rw [hkb] at hkk
  rw [hhb] at hbb hkb
  have Hb := Lib.hid hbb
  have Hk := Lib.hid hkk
  clear hbb hkk ha
  have g600 : decide ((600 : Int) < (l.length : Int)) = false := by simp; omega
  have Hf := Lib.hid hf
  have Hf2 := Lib.hid hf2
  have Hs := Lib.hid hsm
  have Hs2 := Lib.hid ksm
  have Hm := Lib.hid hm
  obtain ⟨P, hP⟩ : ∃ P, putB h = P := ⟨_, rfl⟩
  obtain ⟨Q, hQ⟩ : ∃ Q, putB k = Q := ⟨_, rfl⟩
  have HP := Lib.hid hP
  have HQ := Lib.hid hQ
  have Hm2 := Lib.hid hm2
  obtain ⟨G, hG⟩ : ∃ G, h = G := ⟨_, rfl⟩
  have HG := Lib.hid (show getH P = G by rw [← hG, ← hP, putB_yes hm]; exact get_blk hm hsm)
  have HeP := Lib.hid (show codeB P = 0 by rw [← hP, putB_yes hm]; exact code_blk hm hsm)
  have gP : ((P.length : Int) != 512) = false := by rw [← hP, putB_yes hm, blk_length hm hsm]; rfl
  have heq : ∀ w, (Op.equalIn 10000 23 (hv G) (hv h)).run Try.prog w = .ok true w := fun w => by rw [← hG, eq_heads, decide_eq_true rfl]
  have HGh := Lib.hid hG
  clear hG
  obtain ⟨d, hd⟩ : ∃ d, decide (h = k) = d := ⟨_, rfl⟩
  have hpq : (P == Q) = d := by
    rw [← hd, ← hP, ← hQ, putB_yes hm, putB_yes hm2, Bool.eq_iff_iff, beq_iff_eq, decide_eq_true_eq]
    exact ⟨fun e => blk_inj hm hm2 hsm ksm e, fun e => by rw [e]⟩
  have heqk := eq_heads h k
  rw [hd] at heqk
  clear hd
  have hng := noGuard
  obtain ⟨X, hX⟩ : ∃ X, getH l = X := ⟨_, rfl⟩
  obtain ⟨cd, hcd⟩ : ∃ cd, codeB l = cd := ⟨_, rfl⟩
  obtain ⟨PX, hPX⟩ : ∃ PX, putB X = PX := ⟨_, rfl⟩
  obtain ⟨mX, hmX⟩ : ∃ mX, mayH X = mX := ⟨_, rfl⟩
  have key : (X = zeroH ∧ (cd != 0) = true ∧ (cd == 0) = false) ∨ ((cd != 0) = false ∧ (cd == 0) = true ∧ true = mX ∧ l = PX) := by
    by_cases h9 : cd = 0
    · have := getH_ok (l := l) (by rw [hcd]; exact h9)
      rw [hX] at this
      exact .inr ⟨by rw [h9]; rfl, by rw [h9]; rfl, by rw [← hmX]; exact this.1.symm, by rw [← hPX]; exact this.2.symm⟩
    · have := getH_no (l := l) (by rw [hcd]; exact h9)
      rw [hX] at this
      exact .inl ⟨this, by simp [h9], by simp [h9]⟩
  have Hsx := Lib.hid (show SmallH X by rw [← hX]; exact getH_small l)
  have HX := Lib.hid hX
  have Hcd := Lib.hid hcd
  have HPx := Lib.hid hPX
  have Hmx := Lib.hid hmX
  have KeyX := Lib.hid key
  clear key hX hcd hPX hmX hf hf2 hsm ksm hm hP hQ hm2 
  go_enter Try.func4, Try.ntmps4
  go_wp2_with (first
    | (go_at_call 10; refine (awake_s _).mono ?_; rintro e w1 ⟨rfl, hs⟩; replace Hb := Lib.hid (Hb.out.keep hs Hb.out.lt); replace Hk := Lib.hid (Hk.out.keep hs Hk.out.lt); replace Ha := Lib.hid (Ha.out.keep hs); replace h0 := Stp.trans h0 hs; clear hs; obtain ⟨x0, x1, x2, x3, x4, x5, x6, x7, x8, x9, x10⟩ := hd_cells Hb.out)
    | (go_at_call 11; (with_reducible refine (few_s h _).mono ?_); rintro e w2 ⟨rfl, hs⟩; rw [Hf.out]; replace Hb := Lib.hid (Hb.out.keep hs Hb.out.lt); replace Hk := Lib.hid (Hk.out.keep hs Hk.out.lt); replace Ha := Lib.hid (Ha.out.keep hs); replace h0 := Stp.trans h0 hs; clear hs; clear x0 x1 x2 x3 x4 x5 x6 x7 x8 x9 x10; obtain ⟨y0, y1, y2, y3, y4, y5, y6, y7, y8, y9, y10⟩ := hd_cells Hk.out)
    | (go_at_call 11; (with_reducible refine (few_s k _).mono ?_); rintro e w3 ⟨rfl, hs⟩; rw [Hf2.out]; replace Hb := Lib.hid (Hb.out.keep hs Hb.out.lt); replace Hk := Lib.hid (Hk.out.keep hs Hk.out.lt); replace Ha := Lib.hid (Ha.out.keep hs); replace h0 := Stp.trans h0 hs; clear hs; clear y0 y1 y2 y3 y4 y5 y6 y7 y8 y9 y10; obtain ⟨x0, x1, x2, x3, x4, x5, x6, x7, x8, x9, x10⟩ := hd_cells Hb.out)
    | (go_at_call 12; (with_reducible refine (put_s h Hs.out _).mono ?_); rintro e w4 ⟨A4, c4, rfl, hr, hs⟩; rw [Hm.out]; rw [HP.out] at hr ⊢; have Hr4 := Lib.hid hr; replace Hb := Lib.hid (Hb.out.keep hs Hb.out.lt); replace Hk := Lib.hid (Hk.out.keep hs Hk.out.lt); replace Ha := Lib.hid (Ha.out.keep hs); replace h0 := Stp.trans h0 hs; clear hs hr; clear x0 x1 x2 x3 x4 x5 x6 x7 x8 x9 x10; obtain ⟨y0, y1, y2, y3, y4, y5, y6, y7, y8, y9, y10⟩ := hd_cells Hk.out)
    | (go_at_call 12; (with_reducible refine (put_s k Hs2.out _).mono ?_); rintro e w5 ⟨A5, c5, rfl, hr, hs⟩; rw [Hm2.out]; rw [HQ.out] at hr ⊢; have Hr5 := Lib.hid hr; replace Hr4 := Lib.hid (Hr4.out.keep hs); replace Hb := Lib.hid (Hb.out.keep hs Hb.out.lt); replace Hk := Lib.hid (Hk.out.keep hs Hk.out.lt); replace Ha := Lib.hid (Ha.out.keep hs); replace h0 := Stp.trans h0 hs; clear hs hr; clear y0 y1 y2 y3 y4 y5 y6 y7 y8 y9 y10)
    | (go_at_call 14; (with_reducible refine (hget_n P _ _ c4 _ Hr4.out rfl).mono ?_); rintro e w6 ⟨rfl, hs⟩; rw [HeP.out, HG.out]; replace Hr4 := Lib.hid (Hr4.out.keep hs); replace Hr5 := Lib.hid (Hr5.out.keep hs); replace Hb := Lib.hid (Hb.out.keep hs Hb.out.lt); replace Hk := Lib.hid (Hk.out.keep hs Hk.out.lt); replace Ha := Lib.hid (Ha.out.keep hs); replace h0 := Stp.trans h0 hs; clear hs))
  generalize hwq : w6.alloc _ = wq
  have hbq : Blk wq hb 23 (hcells h) := by rw [← hwq]; exact Hb.out.alloc _
  have hkq : Blk wq kb 23 (hcells k) := by rw [← hwq]; exact Hk.out.alloc _
  have hgq : Blk wq w6.heap.size 23 (hcells G) := by rw [← hwq]; exact Blk.new w6 _ _
  have hs6 : Stp w6 wq := by rw [← hwq]; exact Stp.alloc (Stp.refl w6) _
  have hPq := Hr4.out.keep hs6
  have hQq := Hr5.out.keep hs6
  have Haq := Lib.hid (Ha.out.keep hs6)
  have Hq := Lib.hid (Stp.trans h0 hs6)
  obtain ⟨gb, hgb⟩ : ∃ g, w6.heap.size = g := ⟨_, rfl⟩
  rw [hgb] at hgq ⊢
  have key : ∀ W, Stp wq W → (W.cell? ⟨hb, 0, none⟩ = some (.string ⟨h.name.toArray⟩) ∧ W.cell? ⟨hb, 1, none⟩ = some (.string ⟨h.pre.toArray⟩) ∧ W.cell? ⟨hb, 2, none⟩ = some (.string ⟨h.link.toArray⟩) ∧ W.cell? ⟨hb, 3, none⟩ = some (.int .i64 h.mode) ∧ W.cell? ⟨hb, 4, none⟩ = some (.int .i64 h.uid) ∧ W.cell? ⟨hb, 5, none⟩ = some (.int .i64 h.gid) ∧ W.cell? ⟨hb, 6, none⟩ = some (.int .i64 h.size) ∧ W.cell? ⟨hb, 7, none⟩ = some (.int .i64 h.time) ∧ W.cell? ⟨hb, 8, none⟩ = some (.int .u8 (h.ty.toNat : Int)) ∧ W.cell? ⟨hb, 9, none⟩ = some (.int .i64 h.off) ∧ W.cell? ⟨hb, 10, none⟩ = some (.int .i64 h.real)) ∧ (W.cell? ⟨gb, 0, none⟩ = some (.string ⟨G.name.toArray⟩) ∧ W.cell? ⟨gb, 1, none⟩ = some (.string ⟨G.pre.toArray⟩) ∧ W.cell? ⟨gb, 2, none⟩ = some (.string ⟨G.link.toArray⟩) ∧ W.cell? ⟨gb, 3, none⟩ = some (.int .i64 G.mode) ∧ W.cell? ⟨gb, 4, none⟩ = some (.int .i64 G.uid) ∧ W.cell? ⟨gb, 5, none⟩ = some (.int .i64 G.gid) ∧ W.cell? ⟨gb, 6, none⟩ = some (.int .i64 G.size) ∧ W.cell? ⟨gb, 7, none⟩ = some (.int .i64 G.time) ∧ W.cell? ⟨gb, 8, none⟩ = some (.int .u8 (G.ty.toNat : Int)) ∧ W.cell? ⟨gb, 9, none⟩ = some (.int .i64 G.off) ∧ W.cell? ⟨gb, 10, none⟩ = some (.int .i64 G.real)) ∧ (W.cell? ⟨kb, 0, none⟩ = some (.string ⟨k.name.toArray⟩) ∧ W.cell? ⟨kb, 1, none⟩ = some (.string ⟨k.pre.toArray⟩) ∧ W.cell? ⟨kb, 2, none⟩ = some (.string ⟨k.link.toArray⟩) ∧ W.cell? ⟨kb, 3, none⟩ = some (.int .i64 k.mode) ∧ W.cell? ⟨kb, 4, none⟩ = some (.int .i64 k.uid) ∧ W.cell? ⟨kb, 5, none⟩ = some (.int .i64 k.gid) ∧ W.cell? ⟨kb, 6, none⟩ = some (.int .i64 k.size) ∧ W.cell? ⟨kb, 7, none⟩ = some (.int .i64 k.time) ∧ W.cell? ⟨kb, 8, none⟩ = some (.int .u8 (k.ty.toNat : Int)) ∧ W.cell? ⟨kb, 9, none⟩ = some (.int .i64 k.off) ∧ W.cell? ⟨kb, 10, none⟩ = some (.int .i64 k.real)) ∧ (convert 24 9 (.slice A4 P.length c4)).run Try.prog W = .ok (.string ⟨P.toArray⟩) W ∧ (convert 24 9 (.slice A5 Q.length c5)).run Try.prog W = .ok (.string ⟨Q.toArray⟩) W := fun W hW =>
    ⟨hd_cells (hbq.keep hW hbq.lt), hd_cells (hgq.keep hW hgq.lt), hd_cells (hkq.keep hW hkq.lt), str_rd (hPq.keep hW), str_rd (hQq.keep hW)⟩
  have Key := Lib.hid key
  clear key hwq hbq hkq hgq hs6 hPq hQq hgb Hr4 Hr5 Hb Hk Ha h0
  cases d
  · refine wp_region_held_drew (S := (fun W : World => (W.cell? ⟨hb, 0, none⟩ = some (.string ⟨h.name.toArray⟩) ∧ W.cell? ⟨hb, 1, none⟩ = some (.string ⟨h.pre.toArray⟩) ∧ W.cell? ⟨hb, 2, none⟩ = some (.string ⟨h.link.toArray⟩) ∧ W.cell? ⟨hb, 3, none⟩ = some (.int .i64 h.mode) ∧ W.cell? ⟨hb, 4, none⟩ = some (.int .i64 h.uid) ∧ W.cell? ⟨hb, 5, none⟩ = some (.int .i64 h.gid) ∧ W.cell? ⟨hb, 6, none⟩ = some (.int .i64 h.size) ∧ W.cell? ⟨hb, 7, none⟩ = some (.int .i64 h.time) ∧ W.cell? ⟨hb, 8, none⟩ = some (.int .u8 (h.ty.toNat : Int)) ∧ W.cell? ⟨hb, 9, none⟩ = some (.int .i64 h.off) ∧ W.cell? ⟨hb, 10, none⟩ = some (.int .i64 h.real)) ∧ (W.cell? ⟨gb, 0, none⟩ = some (.string ⟨G.name.toArray⟩) ∧ W.cell? ⟨gb, 1, none⟩ = some (.string ⟨G.pre.toArray⟩) ∧ W.cell? ⟨gb, 2, none⟩ = some (.string ⟨G.link.toArray⟩) ∧ W.cell? ⟨gb, 3, none⟩ = some (.int .i64 G.mode) ∧ W.cell? ⟨gb, 4, none⟩ = some (.int .i64 G.uid) ∧ W.cell? ⟨gb, 5, none⟩ = some (.int .i64 G.gid) ∧ W.cell? ⟨gb, 6, none⟩ = some (.int .i64 G.size) ∧ W.cell? ⟨gb, 7, none⟩ = some (.int .i64 G.time) ∧ W.cell? ⟨gb, 8, none⟩ = some (.int .u8 (G.ty.toNat : Int)) ∧ W.cell? ⟨gb, 9, none⟩ = some (.int .i64 G.off) ∧ W.cell? ⟨gb, 10, none⟩ = some (.int .i64 G.real)) ∧ (W.cell? ⟨kb, 0, none⟩ = some (.string ⟨k.name.toArray⟩) ∧ W.cell? ⟨kb, 1, none⟩ = some (.string ⟨k.pre.toArray⟩) ∧ W.cell? ⟨kb, 2, none⟩ = some (.string ⟨k.link.toArray⟩) ∧ W.cell? ⟨kb, 3, none⟩ = some (.int .i64 k.mode) ∧ W.cell? ⟨kb, 4, none⟩ = some (.int .i64 k.uid) ∧ W.cell? ⟨kb, 5, none⟩ = some (.int .i64 k.gid) ∧ W.cell? ⟨kb, 6, none⟩ = some (.int .i64 k.size) ∧ W.cell? ⟨kb, 7, none⟩ = some (.int .i64 k.time) ∧ W.cell? ⟨kb, 8, none⟩ = some (.int .u8 (k.ty.toNat : Int)) ∧ W.cell? ⟨kb, 9, none⟩ = some (.int .i64 k.off) ∧ W.cell? ⟨kb, 10, none⟩ = some (.int .i64 k.real)) ∧ (convert 24 9 (.slice A4 P.length c4)).run Try.prog W = .ok (.string ⟨P.toArray⟩) W ∧ (convert 24 9 (.slice A5 Q.length c5)).run Try.prog W = .ok (.string ⟨Q.toArray⟩) W)) (by kernel_rfl) (Key.out _ (stp_drew (Stp.refl wq))) (fun hHeld => ?_)
    refine wpAnyH_take (i := 0) (oi := { dst := some 56, op := Go.Op.move (Go.Operand.tmp 11), type := 4, pos := "law.go:54", after := #[], guard := none }) (v := ?v0a) rfl (by kernel_rfl) (by kernel_rfl) (by kernel_rfl) (fun _ _ _ h => h) (Or.inl ⟨by rfl, ?hy0a⟩) (by assumption) ?rest0a
    case hy0a => (intro w hSw; (try dsimp only at hSw); go_simp; try with_reducible rfl)
    try simp only [Act.put, List.setIfInBounds_toArray, List.set_cons_zero, List.set_cons_succ]
    refine wpAnyH_take (i := 1) (oi := { dst := some 57, op := Go.Op.load 23 (Go.Operand.tmp 3), type := 23, pos := "law.go:54", after := #[], guard := none }) (v := ?v1a) rfl (by kernel_rfl) (by kernel_rfl) (by kernel_rfl) (fun _ _ _ h => h) (Or.inl ⟨by rfl, ?hy1a⟩) (by assumption) ?rest1a
    case hy1a => (intro w hSw; (try dsimp only at hSw); go_simp; try with_reducible rfl)
    try simp only [Act.put, List.setIfInBounds_toArray, List.set_cons_zero, List.set_cons_succ]
    refine wpAnyH_ready (rs := [2]) (by kernel_rfl) (by simp) ?_
    refine AllReadyH.cons (o := { dst := some 58, op := Go.Op.call { callee := Go.Callee.value (Go.Operand.func 17), args := #[Go.Operand.tmp 57], argTypes := #[23] }, type := 4, pos := "law.go:54", after := #[{ on := 1, ground := Go.Ground.data }], guard := none }) rfl (fun K hK => ?_) AllReadyH.nil
    go_simp
    refine (may_any h Hs.out _).mono ?_
    rintro e w8 ⟨rfl, hs⟩
    rw [Hm.out]
    have K8 := Lib.hid (Stp.trans (stp_drew (Stp.refl wq)) hs)
    clear hs
    go_wp2_with fail
    refine hK.out _ _ (Key.out _ K8.out) (fun hHeld2 => ?_)
    clear hK K hHeld
    have hHeld := hHeld2
    clear hHeld2
    try simp only [Act.put, List.setIfInBounds_toArray, List.set_cons_zero, List.set_cons_succ]
    refine wpAnyH_take (i := 3) (oi := { dst := some 59, op := Go.Op.binOp Go.BinOp.neq 4 (Go.Operand.tmp 56) (Go.Operand.tmp 58) 4, type := 4, pos := "law.go:54", after := #[{ on := 0, ground := Go.Ground.data }, { on := 2, ground := Go.Ground.data }], guard := none }) (v := ?v3a) rfl (by kernel_rfl) (by kernel_rfl) (by kernel_rfl) (fun _ _ _ h => h) (Or.inl ⟨by rfl, ?hy3a⟩) (by assumption) ?rest3a
    case hy3a => (intro w hSw; (try dsimp only at hSw); go_simp; try with_reducible rfl)
    try simp only [Act.put, List.setIfInBounds_toArray, List.set_cons_zero, List.set_cons_succ]
    refine wpAnyH_take (i := 4) (oi := { dst := some 60, op := Go.Op.move (Go.Operand.tmp 59), type := 4, pos := "law.go:54", after := #[{ on := 3, ground := Go.Ground.data }, { on := 2, ground := Go.Ground.chain }], guard := none }) (v := ?v4a) rfl (by kernel_rfl) (by kernel_rfl) (by kernel_rfl) (fun _ _ _ h => h) (Or.inl ⟨by rfl, ?hy4a⟩) (by assumption) ?rest4a
    case hy4a => (intro w hSw; (try dsimp only at hSw); go_simp; try with_reducible rfl)
    try simp only [Act.put, List.setIfInBounds_toArray, List.set_cons_zero, List.set_cons_succ]
    refine wpAnyH_take (i := 5) (oi := { dst := some 61, op := Go.Op.move (Go.Operand.tmp 11), type := 4, pos := "law.go:54", after := #[{ on := 4, ground := Go.Ground.guard }], guard := some (4, false) }) (v := ?v5a) rfl (by kernel_rfl) (by kernel_rfl) (by kernel_rfl) (fun _ _ _ h => h) (Or.inl ⟨by rfl, ?hy5a⟩) (by assumption) ?rest5a
    case hy5a => (intro w hSw; (try dsimp only at hSw); go_simp; try with_reducible rfl)
    try simp only [Act.put, List.setIfInBounds_toArray, List.set_cons_zero, List.set_cons_succ]
    refine wpAnyH_take (i := 6) (oi := { dst := some 62, op := Go.Op.move (Go.Operand.tmp 61), type := 4, pos := "law.go:54", after := #[{ on := 5, ground := Go.Ground.data }, { on := 4, ground := Go.Ground.chain }, { on := 4, ground := Go.Ground.guard }], guard := some (4, false) }) (v := ?v6a) rfl (by kernel_rfl) (by kernel_rfl) (by kernel_rfl) (fun _ _ _ h => h) (Or.inl ⟨by rfl, ?hy6a⟩) (by assumption) ?rest6a
    case hy6a => (intro w hSw; (try dsimp only at hSw); go_simp; try with_reducible rfl)
    try simp only [Act.put, List.setIfInBounds_toArray, List.set_cons_zero, List.set_cons_succ]
    refine wpAnyH_take (i := 7) (oi := { dst := some 63, op := Go.Op.move (Go.Operand.tmp 15), type := 29, pos := "law.go:54", after := #[{ on := 6, ground := Go.Ground.guard }], guard := some (6, true) }) (v := ?v7a) rfl (by kernel_rfl) (by kernel_rfl) (by kernel_rfl) (fun _ _ _ h => h) (Or.inl ⟨by rfl, ?hy7a⟩) (by assumption) ?rest7a
    case hy7a => (intro w hSw; (try dsimp only at hSw); go_simp; try with_reducible rfl)
    try simp only [Act.put, List.setIfInBounds_toArray, List.set_cons_zero, List.set_cons_succ]
    refine wpAnyH_take (i := 8) (oi := { dst := some 64, op := Go.Op.binOp Go.BinOp.neq 29 (Go.Operand.tmp 63) (Go.Operand.const (Go.Value.int Go.IntKind.i64 0)) 29, type := 4, pos := "law.go:54", after := #[{ on := 7, ground := Go.Ground.data }, { on := 6, ground := Go.Ground.guard }], guard := some (6, true) }) (v := ?v8a) rfl (by kernel_rfl) (by kernel_rfl) (by kernel_rfl) (fun _ _ _ h => h) (Or.inl ⟨by rfl, ?hy8a⟩) (by assumption) ?rest8a
    case hy8a => (intro w hSw; (try dsimp only at hSw); go_simp; try with_reducible rfl)
    try simp only [Act.put, List.setIfInBounds_toArray, List.set_cons_zero, List.set_cons_succ]
    refine wpAnyH_take (i := 9) (oi := { dst := some 65, op := Go.Op.move (Go.Operand.tmp 64), type := 4, pos := "law.go:54", after := #[{ on := 8, ground := Go.Ground.data }, { on := 6, ground := Go.Ground.chain }, { on := 6, ground := Go.Ground.guard }], guard := some (6, true) }) (v := ?v9a) rfl (by kernel_rfl) (by kernel_rfl) (by kernel_rfl) (fun _ _ _ h => h) (Or.inl ⟨by rfl, ?hy9a⟩) (by assumption) ?rest9a
    case hy9a => (intro w hSw; (try dsimp only at hSw); go_simp; try with_reducible rfl)
    try simp only [Act.put, List.setIfInBounds_toArray, List.set_cons_zero, List.set_cons_succ]
    refine wpAnyH_take (i := 10) (oi := { dst := some 66, op := Go.Op.load 23 (Go.Operand.tmp 14), type := 23, pos := "law.go:54", after := #[{ on := 9, ground := Go.Ground.guard }], guard := some (9, false) }) (v := ?v10a) rfl (by kernel_rfl) (by kernel_rfl) (by kernel_rfl) (fun _ _ _ h => h) (Or.inl ⟨by rfl, ?hy10a⟩) (by assumption) ?rest10a
    case hy10a => (intro w hSw; (try dsimp only at hSw); go_simp; try with_reducible rfl)
    try simp only [Act.put, List.setIfInBounds_toArray, List.set_cons_zero, List.set_cons_succ]
    refine wpAnyH_take (i := 11) (oi := { dst := some 67, op := Go.Op.load 23 (Go.Operand.tmp 3), type := 23, pos := "law.go:54", after := #[{ on := 9, ground := Go.Ground.guard }], guard := some (9, false) }) (v := ?v11a) rfl (by kernel_rfl) (by kernel_rfl) (by kernel_rfl) (fun _ _ _ h => h) (Or.inl ⟨by rfl, ?hy11a⟩) (by assumption) ?rest11a
    case hy11a => (intro w hSw; (try dsimp only at hSw); go_simp; try with_reducible rfl)
    try simp only [Act.put, List.setIfInBounds_toArray, List.set_cons_zero, List.set_cons_succ]
    refine wpAnyH_take (i := 12) (oi := { dst := some 68, op := Go.Op.binOp Go.BinOp.neq 23 (Go.Operand.tmp 66) (Go.Operand.tmp 67) 23, type := 4, pos := "law.go:54", after := #[{ on := 10, ground := Go.Ground.data }, { on := 11, ground := Go.Ground.data }, { on := 9, ground := Go.Ground.guard }], guard := some (9, false) }) (v := ?v12a) rfl (by kernel_rfl) (by kernel_rfl) (by kernel_rfl) (fun _ _ _ h => h) (Or.inl ⟨by rfl, ?hy12a⟩) (by assumption) ?rest12a
    case hy12a => (intro w hSw; (try dsimp only at hSw); go_simp; try with_reducible rfl)
    try simp only [Act.put, List.setIfInBounds_toArray, List.set_cons_zero, List.set_cons_succ]
    refine wpAnyH_take (i := 13) (oi := { dst := some 69, op := Go.Op.pick (Go.Operand.tmp 65) (Go.Operand.const (Go.Value.bool true)) (Go.Operand.tmp 68), type := 4, pos := "law.go:54", after := #[{ on := 9, ground := Go.Ground.data }, { on := 12, ground := Go.Ground.data }, { on := 6, ground := Go.Ground.guard }], guard := some (6, true) }) (v := ?v13a) rfl (by kernel_rfl) (by kernel_rfl) (by kernel_rfl) (fun _ _ _ h => h) (Or.inl ⟨by rfl, ?hy13a⟩) (by assumption) ?rest13a
    case hy13a => (intro w hSw; (try dsimp only at hSw); go_simp; try with_reducible rfl)
    try simp only [Act.put, List.setIfInBounds_toArray, List.set_cons_zero, List.set_cons_succ]
    refine wpAnyH_take (i := 14) (oi := { dst := some 70, op := Go.Op.move (Go.Operand.tmp 69), type := 4, pos := "law.go:54", after := #[{ on := 13, ground := Go.Ground.data }, { on := 9, ground := Go.Ground.chain }, { on := 6, ground := Go.Ground.guard }], guard := some (6, true) }) (v := ?v14a) rfl (by kernel_rfl) (by kernel_rfl) (by kernel_rfl) (fun _ _ _ h => h) (Or.inl ⟨by rfl, ?hy14a⟩) (by assumption) ?rest14a
    case hy14a => (intro w hSw; (try dsimp only at hSw); go_simp; try with_reducible rfl)
    try simp only [Act.put, List.setIfInBounds_toArray, List.set_cons_zero, List.set_cons_succ]
    refine wpAnyH_take (i := 15) (oi := { dst := some 71, op := Go.Op.move (Go.Operand.tmp 10), type := 24, pos := "law.go:54", after := #[{ on := 14, ground := Go.Ground.guard }], guard := some (14, false) }) (v := ?v15a) rfl (by kernel_rfl) (by kernel_rfl) (by kernel_rfl) (fun _ _ _ h => h) (Or.inl ⟨by rfl, ?hy15a⟩) (by assumption) ?rest15a
    case hy15a => (intro w hSw; (try dsimp only at hSw); go_simp; try with_reducible rfl)
    try simp only [Act.put, List.setIfInBounds_toArray, List.set_cons_zero, List.set_cons_succ]
    refine wpAnyH_take (i := 16) (oi := { dst := some 72, op := Go.Op.call { callee := Go.Callee.builtin Go.Builtin.len, args := #[Go.Operand.tmp 71], argTypes := #[24] }, type := 3, pos := "law.go:54", after := #[{ on := 15, ground := Go.Ground.data }, { on := 14, ground := Go.Ground.guard }], guard := some (14, false) }) (v := ?v16a) rfl (by kernel_rfl) (by kernel_rfl) (by kernel_rfl) (fun _ _ _ h => h) (Or.inl ⟨by rfl, ?hy16a⟩) (by assumption) ?rest16a
    case hy16a => (intro w hSw; (try dsimp only at hSw); go_simp; try with_reducible rfl)
    try simp only [Act.put, List.setIfInBounds_toArray, List.set_cons_zero, List.set_cons_succ]
    refine wpAnyH_take (i := 17) (oi := { dst := some 73, op := Go.Op.binOp Go.BinOp.neq 3 (Go.Operand.tmp 72) (Go.Operand.const (Go.Value.int Go.IntKind.i64 512)) 3, type := 4, pos := "law.go:54", after := #[{ on := 16, ground := Go.Ground.data }, { on := 14, ground := Go.Ground.guard }], guard := some (14, false) }) (v := ?v17a) rfl (by kernel_rfl) (by kernel_rfl) (by kernel_rfl) (fun _ _ _ h => h) (Or.inl ⟨by rfl, ?hy17a⟩) (by assumption) ?rest17a
    case hy17a => (intro w hSw; (try dsimp only at hSw); go_simp; try with_reducible rfl)
    try simp only [Act.put, List.setIfInBounds_toArray, List.set_cons_zero, List.set_cons_succ]
    refine wpAnyH_take (i := 18) (oi := { dst := some 74, op := Go.Op.pick (Go.Operand.tmp 70) (Go.Operand.const (Go.Value.bool true)) (Go.Operand.tmp 73), type := 4, pos := "law.go:54", after := #[{ on := 14, ground := Go.Ground.data }, { on := 17, ground := Go.Ground.data }, { on := 6, ground := Go.Ground.guard }], guard := some (6, true) }) (v := ?v18a) rfl (by kernel_rfl) (by kernel_rfl) (by kernel_rfl) (fun _ _ _ h => h) (Or.inl ⟨by rfl, ?hy18a⟩) (by assumption) ?rest18a
    case hy18a => (intro w hSw; (try dsimp only at hSw); go_simp; try with_reducible rfl)
    try simp only [Act.put, List.setIfInBounds_toArray, List.set_cons_zero, List.set_cons_succ]
    refine wpAnyH_take (i := 19) (oi := { dst := some 75, op := Go.Op.pick (Go.Operand.tmp 62) (Go.Operand.tmp 74) (Go.Operand.const (Go.Value.bool false)), type := 4, pos := "law.go:54", after := #[{ on := 6, ground := Go.Ground.data }, { on := 18, ground := Go.Ground.data }, { on := 4, ground := Go.Ground.guard }], guard := some (4, false) }) (v := ?v19a) rfl (by kernel_rfl) (by kernel_rfl) (by kernel_rfl) (fun _ _ _ h => h) (Or.inl ⟨by rfl, ?hy19a⟩) (by assumption) ?rest19a
    case hy19a => (intro w hSw; (try dsimp only at hSw); go_simp; try with_reducible rfl)
    try simp only [Act.put, List.setIfInBounds_toArray, List.set_cons_zero, List.set_cons_succ]
    refine wpAnyH_take (i := 20) (oi := { dst := some 76, op := Go.Op.pick (Go.Operand.tmp 60) (Go.Operand.const (Go.Value.bool true)) (Go.Operand.tmp 75), type := 4, pos := "law.go:54", after := #[{ on := 4, ground := Go.Ground.data }, { on := 19, ground := Go.Ground.data }], guard := none }) (v := ?v20a) rfl (by kernel_rfl) (by kernel_rfl) (by kernel_rfl) (fun _ _ _ h => h) (Or.inl ⟨by rfl, ?hy20a⟩) (by assumption) ?rest20a
    case hy20a => (intro w hSw; (try dsimp only at hSw); go_simp; try with_reducible rfl)
    try simp only [Act.put, List.setIfInBounds_toArray, List.set_cons_zero, List.set_cons_succ]
    refine wpAnyH_take (i := 21) (oi := { dst := some 77, op := Go.Op.move (Go.Operand.tmp 76), type := 4, pos := "law.go:54", after := #[{ on := 20, ground := Go.Ground.data }, { on := 14, ground := Go.Ground.chain }], guard := none }) (v := ?v21a) rfl (by kernel_rfl) (by kernel_rfl) (by kernel_rfl) (fun _ _ _ h => h) (Or.inl ⟨by rfl, ?hy21a⟩) (by assumption) ?rest21a
    case hy21a => (intro w hSw; (try dsimp only at hSw); go_simp; try with_reducible rfl)
    try simp only [Act.put, List.setIfInBounds_toArray, List.set_cons_zero, List.set_cons_succ]
    refine wpAnyH_take (i := 22) (oi := { dst := some 78, op := Go.Op.move (Go.Operand.tmp 11), type := 4, pos := "law.go:54", after := #[{ on := 21, ground := Go.Ground.guard }], guard := some (21, false) }) (v := ?v22a) rfl (by kernel_rfl) (by kernel_rfl) (by kernel_rfl) (fun _ _ _ h => h) (Or.inl ⟨by rfl, ?hy22a⟩) (by assumption) ?rest22a
    case hy22a => (intro w hSw; (try dsimp only at hSw); go_simp; try with_reducible rfl)
    try simp only [Act.put, List.setIfInBounds_toArray, List.set_cons_zero, List.set_cons_succ]
    refine wpAnyH_take (i := 23) (oi := { dst := some 79, op := Go.Op.move (Go.Operand.tmp 78), type := 4, pos := "law.go:54", after := #[{ on := 22, ground := Go.Ground.data }, { on := 21, ground := Go.Ground.chain }, { on := 21, ground := Go.Ground.guard }], guard := some (21, false) }) (v := ?v23a) rfl (by kernel_rfl) (by kernel_rfl) (by kernel_rfl) (fun _ _ _ h => h) (Or.inl ⟨by rfl, ?hy23a⟩) (by assumption) ?rest23a
    case hy23a => (intro w hSw; (try dsimp only at hSw); go_simp; try with_reducible rfl)
    try simp only [Act.put, List.setIfInBounds_toArray, List.set_cons_zero, List.set_cons_succ]
    refine wpAnyH_take (i := 24) (oi := { dst := some 80, op := Go.Op.move (Go.Operand.tmp 13), type := 4, pos := "law.go:54", after := #[{ on := 23, ground := Go.Ground.guard }], guard := some (23, true) }) (v := ?v24a) rfl (by kernel_rfl) (by kernel_rfl) (by kernel_rfl) (fun _ _ _ h => h) (Or.inl ⟨by rfl, ?hy24a⟩) (by assumption) ?rest24a
    case hy24a => (intro w hSw; (try dsimp only at hSw); go_simp; try with_reducible rfl)
    try simp only [Act.put, List.setIfInBounds_toArray, List.set_cons_zero, List.set_cons_succ]
    refine wpAnyH_take (i := 25) (oi := { dst := some 81, op := Go.Op.pick (Go.Operand.tmp 79) (Go.Operand.tmp 80) (Go.Operand.const (Go.Value.bool false)), type := 4, pos := "law.go:54", after := #[{ on := 23, ground := Go.Ground.data }, { on := 24, ground := Go.Ground.data }, { on := 21, ground := Go.Ground.guard }], guard := some (21, false) }) (v := ?v25a) rfl (by kernel_rfl) (by kernel_rfl) (by kernel_rfl) (fun _ _ _ h => h) (Or.inl ⟨by rfl, ?hy25a⟩) (by assumption) ?rest25a
    case hy25a => (intro w hSw; (try dsimp only at hSw); go_simp; try with_reducible rfl)
    try simp only [Act.put, List.setIfInBounds_toArray, List.set_cons_zero, List.set_cons_succ]
    refine wpAnyH_take (i := 26) (oi := { dst := some 82, op := Go.Op.move (Go.Operand.tmp 81), type := 4, pos := "law.go:54", after := #[{ on := 25, ground := Go.Ground.data }, { on := 23, ground := Go.Ground.chain }, { on := 21, ground := Go.Ground.guard }], guard := some (21, false) }) (v := ?v26a) rfl (by kernel_rfl) (by kernel_rfl) (by kernel_rfl) (fun _ _ _ h => h) (Or.inl ⟨by rfl, ?hy26a⟩) (by assumption) ?rest26a
    case hy26a => (intro w hSw; (try dsimp only at hSw); go_simp; try with_reducible rfl)
    try simp only [Act.put, List.setIfInBounds_toArray, List.set_cons_zero, List.set_cons_succ]
    refine wpAnyH_take (i := 27) (oi := { dst := some 83, op := Go.Op.move (Go.Operand.tmp 10), type := 24, pos := "law.go:54", after := #[{ on := 26, ground := Go.Ground.guard }], guard := some (26, true) }) (v := ?v27a) rfl (by kernel_rfl) (by kernel_rfl) (by kernel_rfl) (fun _ _ _ h => h) (Or.inl ⟨by rfl, ?hy27a⟩) (by assumption) ?rest27a
    case hy27a => (intro w hSw; (try dsimp only at hSw); go_simp; try with_reducible rfl)
    try simp only [Act.put, List.setIfInBounds_toArray, List.set_cons_zero, List.set_cons_succ]
    refine wpAnyH_take (i := 28) (oi := { dst := some 84, op := Go.Op.convert 24 9 (Go.Operand.tmp 83), type := 9, pos := "law.go:54", after := #[{ on := 27, ground := Go.Ground.data }, { on := 26, ground := Go.Ground.guard }], guard := some (26, true) }) (v := ?v28a) rfl (by kernel_rfl) (by kernel_rfl) (by kernel_rfl) (fun _ _ _ h => h) (Or.inl ⟨by rfl, ?hy28a⟩) (by assumption) ?rest28a
    case hy28a => (intro w hSw; (try dsimp only at hSw); go_simp; try with_reducible rfl)
    try simp only [Act.put, List.setIfInBounds_toArray, List.set_cons_zero, List.set_cons_succ]
    refine wpAnyH_take (i := 29) (oi := { dst := some 85, op := Go.Op.move (Go.Operand.tmp 12), type := 24, pos := "law.go:54", after := #[{ on := 26, ground := Go.Ground.guard }], guard := some (26, true) }) (v := ?v29a) rfl (by kernel_rfl) (by kernel_rfl) (by kernel_rfl) (fun _ _ _ h => h) (Or.inl ⟨by rfl, ?hy29a⟩) (by assumption) ?rest29a
    case hy29a => (intro w hSw; (try dsimp only at hSw); go_simp; try with_reducible rfl)
    try simp only [Act.put, List.setIfInBounds_toArray, List.set_cons_zero, List.set_cons_succ]
    refine wpAnyH_take (i := 30) (oi := { dst := some 86, op := Go.Op.convert 24 9 (Go.Operand.tmp 85), type := 9, pos := "law.go:54", after := #[{ on := 29, ground := Go.Ground.data }, { on := 26, ground := Go.Ground.guard }], guard := some (26, true) }) (v := ?v30a) rfl (by kernel_rfl) (by kernel_rfl) (by kernel_rfl) (fun _ _ _ h => h) (Or.inl ⟨by rfl, ?hy30a⟩) (by assumption) ?rest30a
    case hy30a => (intro w hSw; (try dsimp only at hSw); go_simp; try with_reducible rfl)
    try simp only [Act.put, List.setIfInBounds_toArray, List.set_cons_zero, List.set_cons_succ]
    refine wpAnyH_take (i := 31) (oi := { dst := some 87, op := Go.Op.binOp Go.BinOp.eql 9 (Go.Operand.tmp 84) (Go.Operand.tmp 86) 9, type := 4, pos := "law.go:54", after := #[{ on := 28, ground := Go.Ground.data }, { on := 30, ground := Go.Ground.data }, { on := 26, ground := Go.Ground.guard }], guard := some (26, true) }) (v := ?v31a) rfl (by kernel_rfl) (by kernel_rfl) (by kernel_rfl) (fun _ _ _ h => h) (Or.inl ⟨by rfl, ?hy31a⟩) (by assumption) ?rest31a
    case hy31a => (intro w hSw; (try dsimp only at hSw); go_simp; try with_reducible rfl)
    try simp only [Act.put, List.setIfInBounds_toArray, List.set_cons_zero, List.set_cons_succ]
    refine wpAnyH_take (i := 32) (oi := { dst := some 88, op := Go.Op.load 23 (Go.Operand.tmp 3), type := 23, pos := "law.go:54", after := #[{ on := 26, ground := Go.Ground.guard }], guard := some (26, true) }) (v := ?v32a) rfl (by kernel_rfl) (by kernel_rfl) (by kernel_rfl) (fun _ _ _ h => h) (Or.inl ⟨by rfl, ?hy32a⟩) (by assumption) ?rest32a
    case hy32a => (intro w hSw; (try dsimp only at hSw); go_simp; try with_reducible rfl)
    try simp only [Act.put, List.setIfInBounds_toArray, List.set_cons_zero, List.set_cons_succ]
    refine wpAnyH_take (i := 33) (oi := { dst := some 89, op := Go.Op.load 23 (Go.Operand.tmp 4), type := 23, pos := "law.go:54", after := #[{ on := 26, ground := Go.Ground.guard }], guard := some (26, true) }) (v := ?v33a) rfl (by kernel_rfl) (by kernel_rfl) (by kernel_rfl) (fun _ _ _ h => h) (Or.inl ⟨by rfl, ?hy33a⟩) (by assumption) ?rest33a
    case hy33a => (intro w hSw; (try dsimp only at hSw); go_simp; try with_reducible rfl)
    try simp only [Act.put, List.setIfInBounds_toArray, List.set_cons_zero, List.set_cons_succ]
    refine wpAnyH_take (i := 34) (oi := { dst := some 90, op := Go.Op.binOp Go.BinOp.eql 23 (Go.Operand.tmp 88) (Go.Operand.tmp 89) 23, type := 4, pos := "law.go:54", after := #[{ on := 32, ground := Go.Ground.data }, { on := 33, ground := Go.Ground.data }, { on := 26, ground := Go.Ground.guard }], guard := some (26, true) }) (v := ?v34a) rfl (by kernel_rfl) (by kernel_rfl) (by kernel_rfl) (fun _ _ _ h => h) (Or.inl ⟨by rfl, ?hy34a⟩) (by assumption) ?rest34a
    case hy34a => (intro w hSw; (try dsimp only at hSw); go_simp; try with_reducible rfl)
    try simp only [Act.put, List.setIfInBounds_toArray, List.set_cons_zero, List.set_cons_succ]
    refine wpAnyH_take (i := 35) (oi := { dst := some 91, op := Go.Op.binOp Go.BinOp.neq 4 (Go.Operand.tmp 87) (Go.Operand.tmp 90) 4, type := 4, pos := "law.go:54", after := #[{ on := 31, ground := Go.Ground.data }, { on := 34, ground := Go.Ground.data }, { on := 26, ground := Go.Ground.guard }], guard := some (26, true) }) (v := ?v35a) rfl (by kernel_rfl) (by kernel_rfl) (by kernel_rfl) (fun _ _ _ h => h) (Or.inl ⟨by rfl, ?hy35a⟩) (by assumption) ?rest35a
    case hy35a => (intro w hSw; (try dsimp only at hSw); go_simp; try with_reducible rfl)
    try simp only [Act.put, List.setIfInBounds_toArray, List.set_cons_zero, List.set_cons_succ]
    refine wpAnyH_take (i := 36) (oi := { dst := some 92, op := Go.Op.pick (Go.Operand.tmp 82) (Go.Operand.tmp 91) (Go.Operand.const (Go.Value.bool false)), type := 4, pos := "law.go:54", after := #[{ on := 26, ground := Go.Ground.data }, { on := 35, ground := Go.Ground.data }, { on := 21, ground := Go.Ground.guard }], guard := some (21, false) }) (v := ?v36a) rfl (by kernel_rfl) (by kernel_rfl) (by kernel_rfl) (fun _ _ _ h => h) (Or.inl ⟨by rfl, ?hy36a⟩) (by assumption) ?rest36a
    case hy36a => (intro w hSw; (try dsimp only at hSw); go_simp; try with_reducible rfl)
    try simp only [Act.put, List.setIfInBounds_toArray, List.set_cons_zero, List.set_cons_succ]
    refine wpAnyH_take (i := 37) (oi := { dst := some 93, op := Go.Op.pick (Go.Operand.tmp 77) (Go.Operand.const (Go.Value.bool true)) (Go.Operand.tmp 92), type := 4, pos := "law.go:54", after := #[{ on := 21, ground := Go.Ground.data }, { on := 36, ground := Go.Ground.data }], guard := none }) (v := ?v37a) rfl (by kernel_rfl) (by kernel_rfl) (by kernel_rfl) (fun _ _ _ h => h) (Or.inl ⟨by rfl, ?hy37a⟩) (by assumption) ?rest37a
    case hy37a => (intro w hSw; (try dsimp only at hSw); go_simp; try with_reducible rfl)
    try simp only [Act.put, List.setIfInBounds_toArray, List.set_cons_zero, List.set_cons_succ]
    refine wpAnyH_done (by kernel_rfl) ?_ _
    clear hHeld
    have H8 := Lib.hid (Stp.trans Hq.out K8.out)
    have Ha8 := Lib.hid (Haq.out.keep K8.out)
    clear Key Haq Hq K8
    have hz : X = zeroH → ∀ w, (Op.equalIn 10000 23 (hv X) (.agg #[.string ⟨#[]⟩, .string ⟨#[]⟩, .string ⟨#[]⟩, .int .i64 0, .int .i64 0, .int .i64 0, .int .i64 0, .int .i64 0, .int .u8 0, .int .i64 0, .int .i64 0])).run Try.prog w = .ok true w := fun hX0 w => by
      rw [hX0]
      have := eq_heads zeroH zeroH w
      rw [decide_eq_true rfl] at this
      exact this
    rcases KeyX.out with ⟨hX0, k1, k2⟩ | ⟨k1, k2, rfl, rfl⟩
    all_goals (first | (replace hz := hz hX0; clear hX0) | clear hz)
    all_goals go_wp2_with (first
      | (go_at_call 14; (with_reducible refine (hget_n l _ _ c _ Ha8.out rfl).mono ?_); rintro e w9 ⟨rfl, hs⟩; rw [Hcd.out, HX.out]; have Ha9 := Lib.hid (Ha8.out.keep hs); have H9 := Lib.hid (Stp.trans H8.out hs); clear hs)
      | (go_at_call 12; (with_reducible refine (put_s X Hsx.out _).mono ?_); rintro e w10 ⟨A6, c6, rfl, hr, hs⟩; rw [Hmx.out]; rw [HPx.out] at hr ⊢; have hcx := str_rd hr; have hcb := str_rd ((Ha9.out.keep (Stp.alloc (Stp.refl w9) (.cells (hcells X) 23))).keep hs); have H10 := Lib.hid (Stp.trans (Stp.alloc H9.out (.cells (hcells X) 23)) hs); obtain ⟨x0, x1, x2, x3, x4, x5, x6, x7, x8, x9, x10⟩ := hd_cells ((Blk.new w9 23 (hcells X)).keep hs (Blk.new w9 23 (hcells X)).lt); clear hs hr))
    all_goals go_ret
    all_goals exact ⟨rfl, H10.out⟩
  · refine wp_region_held_drew (S := (fun W : World => (W.cell? ⟨hb, 0, none⟩ = some (.string ⟨h.name.toArray⟩) ∧ W.cell? ⟨hb, 1, none⟩ = some (.string ⟨h.pre.toArray⟩) ∧ W.cell? ⟨hb, 2, none⟩ = some (.string ⟨h.link.toArray⟩) ∧ W.cell? ⟨hb, 3, none⟩ = some (.int .i64 h.mode) ∧ W.cell? ⟨hb, 4, none⟩ = some (.int .i64 h.uid) ∧ W.cell? ⟨hb, 5, none⟩ = some (.int .i64 h.gid) ∧ W.cell? ⟨hb, 6, none⟩ = some (.int .i64 h.size) ∧ W.cell? ⟨hb, 7, none⟩ = some (.int .i64 h.time) ∧ W.cell? ⟨hb, 8, none⟩ = some (.int .u8 (h.ty.toNat : Int)) ∧ W.cell? ⟨hb, 9, none⟩ = some (.int .i64 h.off) ∧ W.cell? ⟨hb, 10, none⟩ = some (.int .i64 h.real)) ∧ (W.cell? ⟨gb, 0, none⟩ = some (.string ⟨G.name.toArray⟩) ∧ W.cell? ⟨gb, 1, none⟩ = some (.string ⟨G.pre.toArray⟩) ∧ W.cell? ⟨gb, 2, none⟩ = some (.string ⟨G.link.toArray⟩) ∧ W.cell? ⟨gb, 3, none⟩ = some (.int .i64 G.mode) ∧ W.cell? ⟨gb, 4, none⟩ = some (.int .i64 G.uid) ∧ W.cell? ⟨gb, 5, none⟩ = some (.int .i64 G.gid) ∧ W.cell? ⟨gb, 6, none⟩ = some (.int .i64 G.size) ∧ W.cell? ⟨gb, 7, none⟩ = some (.int .i64 G.time) ∧ W.cell? ⟨gb, 8, none⟩ = some (.int .u8 (G.ty.toNat : Int)) ∧ W.cell? ⟨gb, 9, none⟩ = some (.int .i64 G.off) ∧ W.cell? ⟨gb, 10, none⟩ = some (.int .i64 G.real)) ∧ (W.cell? ⟨kb, 0, none⟩ = some (.string ⟨k.name.toArray⟩) ∧ W.cell? ⟨kb, 1, none⟩ = some (.string ⟨k.pre.toArray⟩) ∧ W.cell? ⟨kb, 2, none⟩ = some (.string ⟨k.link.toArray⟩) ∧ W.cell? ⟨kb, 3, none⟩ = some (.int .i64 k.mode) ∧ W.cell? ⟨kb, 4, none⟩ = some (.int .i64 k.uid) ∧ W.cell? ⟨kb, 5, none⟩ = some (.int .i64 k.gid) ∧ W.cell? ⟨kb, 6, none⟩ = some (.int .i64 k.size) ∧ W.cell? ⟨kb, 7, none⟩ = some (.int .i64 k.time) ∧ W.cell? ⟨kb, 8, none⟩ = some (.int .u8 (k.ty.toNat : Int)) ∧ W.cell? ⟨kb, 9, none⟩ = some (.int .i64 k.off) ∧ W.cell? ⟨kb, 10, none⟩ = some (.int .i64 k.real)) ∧ (convert 24 9 (.slice A4 P.length c4)).run Try.prog W = .ok (.string ⟨P.toArray⟩) W ∧ (convert 24 9 (.slice A5 Q.length c5)).run Try.prog W = .ok (.string ⟨Q.toArray⟩) W)) (by kernel_rfl) (Key.out _ (stp_drew (Stp.refl wq))) (fun hHeld => ?_)
    refine wpAnyH_take (i := 0) (oi := { dst := some 56, op := Go.Op.move (Go.Operand.tmp 11), type := 4, pos := "law.go:54", after := #[], guard := none }) (v := ?v0b) rfl (by kernel_rfl) (by kernel_rfl) (by kernel_rfl) (fun _ _ _ h => h) (Or.inl ⟨by rfl, ?hy0b⟩) (by assumption) ?rest0b
    case hy0b => (intro w hSw; (try dsimp only at hSw); go_simp; try with_reducible rfl)
    try simp only [Act.put, List.setIfInBounds_toArray, List.set_cons_zero, List.set_cons_succ]
    refine wpAnyH_take (i := 1) (oi := { dst := some 57, op := Go.Op.load 23 (Go.Operand.tmp 3), type := 23, pos := "law.go:54", after := #[], guard := none }) (v := ?v1b) rfl (by kernel_rfl) (by kernel_rfl) (by kernel_rfl) (fun _ _ _ h => h) (Or.inl ⟨by rfl, ?hy1b⟩) (by assumption) ?rest1b
    case hy1b => (intro w hSw; (try dsimp only at hSw); go_simp; try with_reducible rfl)
    try simp only [Act.put, List.setIfInBounds_toArray, List.set_cons_zero, List.set_cons_succ]
    refine wpAnyH_ready (rs := [2]) (by kernel_rfl) (by simp) ?_
    refine AllReadyH.cons (o := { dst := some 58, op := Go.Op.call { callee := Go.Callee.value (Go.Operand.func 17), args := #[Go.Operand.tmp 57], argTypes := #[23] }, type := 4, pos := "law.go:54", after := #[{ on := 1, ground := Go.Ground.data }], guard := none }) rfl (fun K hK => ?_) AllReadyH.nil
    go_simp
    refine (may_any h Hs.out _).mono ?_
    rintro e w8 ⟨rfl, hs⟩
    rw [Hm.out]
    have K8 := Lib.hid (Stp.trans (stp_drew (Stp.refl wq)) hs)
    clear hs
    go_wp2_with fail
    refine hK.out _ _ (Key.out _ K8.out) (fun hHeld2 => ?_)
    clear hK K hHeld
    have hHeld := hHeld2
    clear hHeld2
    try simp only [Act.put, List.setIfInBounds_toArray, List.set_cons_zero, List.set_cons_succ]
    refine wpAnyH_take (i := 3) (oi := { dst := some 59, op := Go.Op.binOp Go.BinOp.neq 4 (Go.Operand.tmp 56) (Go.Operand.tmp 58) 4, type := 4, pos := "law.go:54", after := #[{ on := 0, ground := Go.Ground.data }, { on := 2, ground := Go.Ground.data }], guard := none }) (v := ?v3b) rfl (by kernel_rfl) (by kernel_rfl) (by kernel_rfl) (fun _ _ _ h => h) (Or.inl ⟨by rfl, ?hy3b⟩) (by assumption) ?rest3b
    case hy3b => (intro w hSw; (try dsimp only at hSw); go_simp; try with_reducible rfl)
    try simp only [Act.put, List.setIfInBounds_toArray, List.set_cons_zero, List.set_cons_succ]
    refine wpAnyH_take (i := 4) (oi := { dst := some 60, op := Go.Op.move (Go.Operand.tmp 59), type := 4, pos := "law.go:54", after := #[{ on := 3, ground := Go.Ground.data }, { on := 2, ground := Go.Ground.chain }], guard := none }) (v := ?v4b) rfl (by kernel_rfl) (by kernel_rfl) (by kernel_rfl) (fun _ _ _ h => h) (Or.inl ⟨by rfl, ?hy4b⟩) (by assumption) ?rest4b
    case hy4b => (intro w hSw; (try dsimp only at hSw); go_simp; try with_reducible rfl)
    try simp only [Act.put, List.setIfInBounds_toArray, List.set_cons_zero, List.set_cons_succ]
    refine wpAnyH_take (i := 5) (oi := { dst := some 61, op := Go.Op.move (Go.Operand.tmp 11), type := 4, pos := "law.go:54", after := #[{ on := 4, ground := Go.Ground.guard }], guard := some (4, false) }) (v := ?v5b) rfl (by kernel_rfl) (by kernel_rfl) (by kernel_rfl) (fun _ _ _ h => h) (Or.inl ⟨by rfl, ?hy5b⟩) (by assumption) ?rest5b
    case hy5b => (intro w hSw; (try dsimp only at hSw); go_simp; try with_reducible rfl)
    try simp only [Act.put, List.setIfInBounds_toArray, List.set_cons_zero, List.set_cons_succ]
    refine wpAnyH_take (i := 6) (oi := { dst := some 62, op := Go.Op.move (Go.Operand.tmp 61), type := 4, pos := "law.go:54", after := #[{ on := 5, ground := Go.Ground.data }, { on := 4, ground := Go.Ground.chain }, { on := 4, ground := Go.Ground.guard }], guard := some (4, false) }) (v := ?v6b) rfl (by kernel_rfl) (by kernel_rfl) (by kernel_rfl) (fun _ _ _ h => h) (Or.inl ⟨by rfl, ?hy6b⟩) (by assumption) ?rest6b
    case hy6b => (intro w hSw; (try dsimp only at hSw); go_simp; try with_reducible rfl)
    try simp only [Act.put, List.setIfInBounds_toArray, List.set_cons_zero, List.set_cons_succ]
    refine wpAnyH_take (i := 7) (oi := { dst := some 63, op := Go.Op.move (Go.Operand.tmp 15), type := 29, pos := "law.go:54", after := #[{ on := 6, ground := Go.Ground.guard }], guard := some (6, true) }) (v := ?v7b) rfl (by kernel_rfl) (by kernel_rfl) (by kernel_rfl) (fun _ _ _ h => h) (Or.inl ⟨by rfl, ?hy7b⟩) (by assumption) ?rest7b
    case hy7b => (intro w hSw; (try dsimp only at hSw); go_simp; try with_reducible rfl)
    try simp only [Act.put, List.setIfInBounds_toArray, List.set_cons_zero, List.set_cons_succ]
    refine wpAnyH_take (i := 8) (oi := { dst := some 64, op := Go.Op.binOp Go.BinOp.neq 29 (Go.Operand.tmp 63) (Go.Operand.const (Go.Value.int Go.IntKind.i64 0)) 29, type := 4, pos := "law.go:54", after := #[{ on := 7, ground := Go.Ground.data }, { on := 6, ground := Go.Ground.guard }], guard := some (6, true) }) (v := ?v8b) rfl (by kernel_rfl) (by kernel_rfl) (by kernel_rfl) (fun _ _ _ h => h) (Or.inl ⟨by rfl, ?hy8b⟩) (by assumption) ?rest8b
    case hy8b => (intro w hSw; (try dsimp only at hSw); go_simp; try with_reducible rfl)
    try simp only [Act.put, List.setIfInBounds_toArray, List.set_cons_zero, List.set_cons_succ]
    refine wpAnyH_take (i := 9) (oi := { dst := some 65, op := Go.Op.move (Go.Operand.tmp 64), type := 4, pos := "law.go:54", after := #[{ on := 8, ground := Go.Ground.data }, { on := 6, ground := Go.Ground.chain }, { on := 6, ground := Go.Ground.guard }], guard := some (6, true) }) (v := ?v9b) rfl (by kernel_rfl) (by kernel_rfl) (by kernel_rfl) (fun _ _ _ h => h) (Or.inl ⟨by rfl, ?hy9b⟩) (by assumption) ?rest9b
    case hy9b => (intro w hSw; (try dsimp only at hSw); go_simp; try with_reducible rfl)
    try simp only [Act.put, List.setIfInBounds_toArray, List.set_cons_zero, List.set_cons_succ]
    refine wpAnyH_take (i := 10) (oi := { dst := some 66, op := Go.Op.load 23 (Go.Operand.tmp 14), type := 23, pos := "law.go:54", after := #[{ on := 9, ground := Go.Ground.guard }], guard := some (9, false) }) (v := ?v10b) rfl (by kernel_rfl) (by kernel_rfl) (by kernel_rfl) (fun _ _ _ h => h) (Or.inl ⟨by rfl, ?hy10b⟩) (by assumption) ?rest10b
    case hy10b => (intro w hSw; (try dsimp only at hSw); go_simp; try with_reducible rfl)
    try simp only [Act.put, List.setIfInBounds_toArray, List.set_cons_zero, List.set_cons_succ]
    refine wpAnyH_take (i := 11) (oi := { dst := some 67, op := Go.Op.load 23 (Go.Operand.tmp 3), type := 23, pos := "law.go:54", after := #[{ on := 9, ground := Go.Ground.guard }], guard := some (9, false) }) (v := ?v11b) rfl (by kernel_rfl) (by kernel_rfl) (by kernel_rfl) (fun _ _ _ h => h) (Or.inl ⟨by rfl, ?hy11b⟩) (by assumption) ?rest11b
    case hy11b => (intro w hSw; (try dsimp only at hSw); go_simp; try with_reducible rfl)
    try simp only [Act.put, List.setIfInBounds_toArray, List.set_cons_zero, List.set_cons_succ]
    refine wpAnyH_take (i := 12) (oi := { dst := some 68, op := Go.Op.binOp Go.BinOp.neq 23 (Go.Operand.tmp 66) (Go.Operand.tmp 67) 23, type := 4, pos := "law.go:54", after := #[{ on := 10, ground := Go.Ground.data }, { on := 11, ground := Go.Ground.data }, { on := 9, ground := Go.Ground.guard }], guard := some (9, false) }) (v := ?v12b) rfl (by kernel_rfl) (by kernel_rfl) (by kernel_rfl) (fun _ _ _ h => h) (Or.inl ⟨by rfl, ?hy12b⟩) (by assumption) ?rest12b
    case hy12b => (intro w hSw; (try dsimp only at hSw); go_simp; try with_reducible rfl)
    try simp only [Act.put, List.setIfInBounds_toArray, List.set_cons_zero, List.set_cons_succ]
    refine wpAnyH_take (i := 13) (oi := { dst := some 69, op := Go.Op.pick (Go.Operand.tmp 65) (Go.Operand.const (Go.Value.bool true)) (Go.Operand.tmp 68), type := 4, pos := "law.go:54", after := #[{ on := 9, ground := Go.Ground.data }, { on := 12, ground := Go.Ground.data }, { on := 6, ground := Go.Ground.guard }], guard := some (6, true) }) (v := ?v13b) rfl (by kernel_rfl) (by kernel_rfl) (by kernel_rfl) (fun _ _ _ h => h) (Or.inl ⟨by rfl, ?hy13b⟩) (by assumption) ?rest13b
    case hy13b => (intro w hSw; (try dsimp only at hSw); go_simp; try with_reducible rfl)
    try simp only [Act.put, List.setIfInBounds_toArray, List.set_cons_zero, List.set_cons_succ]
    refine wpAnyH_take (i := 14) (oi := { dst := some 70, op := Go.Op.move (Go.Operand.tmp 69), type := 4, pos := "law.go:54", after := #[{ on := 13, ground := Go.Ground.data }, { on := 9, ground := Go.Ground.chain }, { on := 6, ground := Go.Ground.guard }], guard := some (6, true) }) (v := ?v14b) rfl (by kernel_rfl) (by kernel_rfl) (by kernel_rfl) (fun _ _ _ h => h) (Or.inl ⟨by rfl, ?hy14b⟩) (by assumption) ?rest14b
    case hy14b => (intro w hSw; (try dsimp only at hSw); go_simp; try with_reducible rfl)
    try simp only [Act.put, List.setIfInBounds_toArray, List.set_cons_zero, List.set_cons_succ]
    refine wpAnyH_take (i := 15) (oi := { dst := some 71, op := Go.Op.move (Go.Operand.tmp 10), type := 24, pos := "law.go:54", after := #[{ on := 14, ground := Go.Ground.guard }], guard := some (14, false) }) (v := ?v15b) rfl (by kernel_rfl) (by kernel_rfl) (by kernel_rfl) (fun _ _ _ h => h) (Or.inl ⟨by rfl, ?hy15b⟩) (by assumption) ?rest15b
    case hy15b => (intro w hSw; (try dsimp only at hSw); go_simp; try with_reducible rfl)
    try simp only [Act.put, List.setIfInBounds_toArray, List.set_cons_zero, List.set_cons_succ]
    refine wpAnyH_take (i := 16) (oi := { dst := some 72, op := Go.Op.call { callee := Go.Callee.builtin Go.Builtin.len, args := #[Go.Operand.tmp 71], argTypes := #[24] }, type := 3, pos := "law.go:54", after := #[{ on := 15, ground := Go.Ground.data }, { on := 14, ground := Go.Ground.guard }], guard := some (14, false) }) (v := ?v16b) rfl (by kernel_rfl) (by kernel_rfl) (by kernel_rfl) (fun _ _ _ h => h) (Or.inl ⟨by rfl, ?hy16b⟩) (by assumption) ?rest16b
    case hy16b => (intro w hSw; (try dsimp only at hSw); go_simp; try with_reducible rfl)
    try simp only [Act.put, List.setIfInBounds_toArray, List.set_cons_zero, List.set_cons_succ]
    refine wpAnyH_take (i := 17) (oi := { dst := some 73, op := Go.Op.binOp Go.BinOp.neq 3 (Go.Operand.tmp 72) (Go.Operand.const (Go.Value.int Go.IntKind.i64 512)) 3, type := 4, pos := "law.go:54", after := #[{ on := 16, ground := Go.Ground.data }, { on := 14, ground := Go.Ground.guard }], guard := some (14, false) }) (v := ?v17b) rfl (by kernel_rfl) (by kernel_rfl) (by kernel_rfl) (fun _ _ _ h => h) (Or.inl ⟨by rfl, ?hy17b⟩) (by assumption) ?rest17b
    case hy17b => (intro w hSw; (try dsimp only at hSw); go_simp; try with_reducible rfl)
    try simp only [Act.put, List.setIfInBounds_toArray, List.set_cons_zero, List.set_cons_succ]
    refine wpAnyH_take (i := 18) (oi := { dst := some 74, op := Go.Op.pick (Go.Operand.tmp 70) (Go.Operand.const (Go.Value.bool true)) (Go.Operand.tmp 73), type := 4, pos := "law.go:54", after := #[{ on := 14, ground := Go.Ground.data }, { on := 17, ground := Go.Ground.data }, { on := 6, ground := Go.Ground.guard }], guard := some (6, true) }) (v := ?v18b) rfl (by kernel_rfl) (by kernel_rfl) (by kernel_rfl) (fun _ _ _ h => h) (Or.inl ⟨by rfl, ?hy18b⟩) (by assumption) ?rest18b
    case hy18b => (intro w hSw; (try dsimp only at hSw); go_simp; try with_reducible rfl)
    try simp only [Act.put, List.setIfInBounds_toArray, List.set_cons_zero, List.set_cons_succ]
    refine wpAnyH_take (i := 19) (oi := { dst := some 75, op := Go.Op.pick (Go.Operand.tmp 62) (Go.Operand.tmp 74) (Go.Operand.const (Go.Value.bool false)), type := 4, pos := "law.go:54", after := #[{ on := 6, ground := Go.Ground.data }, { on := 18, ground := Go.Ground.data }, { on := 4, ground := Go.Ground.guard }], guard := some (4, false) }) (v := ?v19b) rfl (by kernel_rfl) (by kernel_rfl) (by kernel_rfl) (fun _ _ _ h => h) (Or.inl ⟨by rfl, ?hy19b⟩) (by assumption) ?rest19b
    case hy19b => (intro w hSw; (try dsimp only at hSw); go_simp; try with_reducible rfl)
    try simp only [Act.put, List.setIfInBounds_toArray, List.set_cons_zero, List.set_cons_succ]
    refine wpAnyH_take (i := 20) (oi := { dst := some 76, op := Go.Op.pick (Go.Operand.tmp 60) (Go.Operand.const (Go.Value.bool true)) (Go.Operand.tmp 75), type := 4, pos := "law.go:54", after := #[{ on := 4, ground := Go.Ground.data }, { on := 19, ground := Go.Ground.data }], guard := none }) (v := ?v20b) rfl (by kernel_rfl) (by kernel_rfl) (by kernel_rfl) (fun _ _ _ h => h) (Or.inl ⟨by rfl, ?hy20b⟩) (by assumption) ?rest20b
    case hy20b => (intro w hSw; (try dsimp only at hSw); go_simp; try with_reducible rfl)
    try simp only [Act.put, List.setIfInBounds_toArray, List.set_cons_zero, List.set_cons_succ]
    refine wpAnyH_take (i := 21) (oi := { dst := some 77, op := Go.Op.move (Go.Operand.tmp 76), type := 4, pos := "law.go:54", after := #[{ on := 20, ground := Go.Ground.data }, { on := 14, ground := Go.Ground.chain }], guard := none }) (v := ?v21b) rfl (by kernel_rfl) (by kernel_rfl) (by kernel_rfl) (fun _ _ _ h => h) (Or.inl ⟨by rfl, ?hy21b⟩) (by assumption) ?rest21b
    case hy21b => (intro w hSw; (try dsimp only at hSw); go_simp; try with_reducible rfl)
    try simp only [Act.put, List.setIfInBounds_toArray, List.set_cons_zero, List.set_cons_succ]
    refine wpAnyH_take (i := 22) (oi := { dst := some 78, op := Go.Op.move (Go.Operand.tmp 11), type := 4, pos := "law.go:54", after := #[{ on := 21, ground := Go.Ground.guard }], guard := some (21, false) }) (v := ?v22b) rfl (by kernel_rfl) (by kernel_rfl) (by kernel_rfl) (fun _ _ _ h => h) (Or.inl ⟨by rfl, ?hy22b⟩) (by assumption) ?rest22b
    case hy22b => (intro w hSw; (try dsimp only at hSw); go_simp; try with_reducible rfl)
    try simp only [Act.put, List.setIfInBounds_toArray, List.set_cons_zero, List.set_cons_succ]
    refine wpAnyH_take (i := 23) (oi := { dst := some 79, op := Go.Op.move (Go.Operand.tmp 78), type := 4, pos := "law.go:54", after := #[{ on := 22, ground := Go.Ground.data }, { on := 21, ground := Go.Ground.chain }, { on := 21, ground := Go.Ground.guard }], guard := some (21, false) }) (v := ?v23b) rfl (by kernel_rfl) (by kernel_rfl) (by kernel_rfl) (fun _ _ _ h => h) (Or.inl ⟨by rfl, ?hy23b⟩) (by assumption) ?rest23b
    case hy23b => (intro w hSw; (try dsimp only at hSw); go_simp; try with_reducible rfl)
    try simp only [Act.put, List.setIfInBounds_toArray, List.set_cons_zero, List.set_cons_succ]
    refine wpAnyH_take (i := 24) (oi := { dst := some 80, op := Go.Op.move (Go.Operand.tmp 13), type := 4, pos := "law.go:54", after := #[{ on := 23, ground := Go.Ground.guard }], guard := some (23, true) }) (v := ?v24b) rfl (by kernel_rfl) (by kernel_rfl) (by kernel_rfl) (fun _ _ _ h => h) (Or.inl ⟨by rfl, ?hy24b⟩) (by assumption) ?rest24b
    case hy24b => (intro w hSw; (try dsimp only at hSw); go_simp; try with_reducible rfl)
    try simp only [Act.put, List.setIfInBounds_toArray, List.set_cons_zero, List.set_cons_succ]
    refine wpAnyH_take (i := 25) (oi := { dst := some 81, op := Go.Op.pick (Go.Operand.tmp 79) (Go.Operand.tmp 80) (Go.Operand.const (Go.Value.bool false)), type := 4, pos := "law.go:54", after := #[{ on := 23, ground := Go.Ground.data }, { on := 24, ground := Go.Ground.data }, { on := 21, ground := Go.Ground.guard }], guard := some (21, false) }) (v := ?v25b) rfl (by kernel_rfl) (by kernel_rfl) (by kernel_rfl) (fun _ _ _ h => h) (Or.inl ⟨by rfl, ?hy25b⟩) (by assumption) ?rest25b
    case hy25b => (intro w hSw; (try dsimp only at hSw); go_simp; try with_reducible rfl)
    try simp only [Act.put, List.setIfInBounds_toArray, List.set_cons_zero, List.set_cons_succ]
    refine wpAnyH_take (i := 26) (oi := { dst := some 82, op := Go.Op.move (Go.Operand.tmp 81), type := 4, pos := "law.go:54", after := #[{ on := 25, ground := Go.Ground.data }, { on := 23, ground := Go.Ground.chain }, { on := 21, ground := Go.Ground.guard }], guard := some (21, false) }) (v := ?v26b) rfl (by kernel_rfl) (by kernel_rfl) (by kernel_rfl) (fun _ _ _ h => h) (Or.inl ⟨by rfl, ?hy26b⟩) (by assumption) ?rest26b
    case hy26b => (intro w hSw; (try dsimp only at hSw); go_simp; try with_reducible rfl)
    try simp only [Act.put, List.setIfInBounds_toArray, List.set_cons_zero, List.set_cons_succ]
    refine wpAnyH_take (i := 27) (oi := { dst := some 83, op := Go.Op.move (Go.Operand.tmp 10), type := 24, pos := "law.go:54", after := #[{ on := 26, ground := Go.Ground.guard }], guard := some (26, true) }) (v := ?v27b) rfl (by kernel_rfl) (by kernel_rfl) (by kernel_rfl) (fun _ _ _ h => h) (Or.inl ⟨by rfl, ?hy27b⟩) (by assumption) ?rest27b
    case hy27b => (intro w hSw; (try dsimp only at hSw); go_simp; try with_reducible rfl)
    try simp only [Act.put, List.setIfInBounds_toArray, List.set_cons_zero, List.set_cons_succ]
    refine wpAnyH_take (i := 28) (oi := { dst := some 84, op := Go.Op.convert 24 9 (Go.Operand.tmp 83), type := 9, pos := "law.go:54", after := #[{ on := 27, ground := Go.Ground.data }, { on := 26, ground := Go.Ground.guard }], guard := some (26, true) }) (v := ?v28b) rfl (by kernel_rfl) (by kernel_rfl) (by kernel_rfl) (fun _ _ _ h => h) (Or.inl ⟨by rfl, ?hy28b⟩) (by assumption) ?rest28b
    case hy28b => (intro w hSw; (try dsimp only at hSw); go_simp; try with_reducible rfl)
    try simp only [Act.put, List.setIfInBounds_toArray, List.set_cons_zero, List.set_cons_succ]
    refine wpAnyH_take (i := 29) (oi := { dst := some 85, op := Go.Op.move (Go.Operand.tmp 12), type := 24, pos := "law.go:54", after := #[{ on := 26, ground := Go.Ground.guard }], guard := some (26, true) }) (v := ?v29b) rfl (by kernel_rfl) (by kernel_rfl) (by kernel_rfl) (fun _ _ _ h => h) (Or.inl ⟨by rfl, ?hy29b⟩) (by assumption) ?rest29b
    case hy29b => (intro w hSw; (try dsimp only at hSw); go_simp; try with_reducible rfl)
    try simp only [Act.put, List.setIfInBounds_toArray, List.set_cons_zero, List.set_cons_succ]
    refine wpAnyH_take (i := 30) (oi := { dst := some 86, op := Go.Op.convert 24 9 (Go.Operand.tmp 85), type := 9, pos := "law.go:54", after := #[{ on := 29, ground := Go.Ground.data }, { on := 26, ground := Go.Ground.guard }], guard := some (26, true) }) (v := ?v30b) rfl (by kernel_rfl) (by kernel_rfl) (by kernel_rfl) (fun _ _ _ h => h) (Or.inl ⟨by rfl, ?hy30b⟩) (by assumption) ?rest30b
    case hy30b => (intro w hSw; (try dsimp only at hSw); go_simp; try with_reducible rfl)
    try simp only [Act.put, List.setIfInBounds_toArray, List.set_cons_zero, List.set_cons_succ]
    refine wpAnyH_take (i := 31) (oi := { dst := some 87, op := Go.Op.binOp Go.BinOp.eql 9 (Go.Operand.tmp 84) (Go.Operand.tmp 86) 9, type := 4, pos := "law.go:54", after := #[{ on := 28, ground := Go.Ground.data }, { on := 30, ground := Go.Ground.data }, { on := 26, ground := Go.Ground.guard }], guard := some (26, true) }) (v := ?v31b) rfl (by kernel_rfl) (by kernel_rfl) (by kernel_rfl) (fun _ _ _ h => h) (Or.inl ⟨by rfl, ?hy31b⟩) (by assumption) ?rest31b
    case hy31b => (intro w hSw; (try dsimp only at hSw); go_simp; try with_reducible rfl)
    try simp only [Act.put, List.setIfInBounds_toArray, List.set_cons_zero, List.set_cons_succ]
    refine wpAnyH_take (i := 32) (oi := { dst := some 88, op := Go.Op.load 23 (Go.Operand.tmp 3), type := 23, pos := "law.go:54", after := #[{ on := 26, ground := Go.Ground.guard }], guard := some (26, true) }) (v := ?v32b) rfl (by kernel_rfl) (by kernel_rfl) (by kernel_rfl) (fun _ _ _ h => h) (Or.inl ⟨by rfl, ?hy32b⟩) (by assumption) ?rest32b
    case hy32b => (intro w hSw; (try dsimp only at hSw); go_simp; try with_reducible rfl)
    try simp only [Act.put, List.setIfInBounds_toArray, List.set_cons_zero, List.set_cons_succ]
    refine wpAnyH_take (i := 33) (oi := { dst := some 89, op := Go.Op.load 23 (Go.Operand.tmp 4), type := 23, pos := "law.go:54", after := #[{ on := 26, ground := Go.Ground.guard }], guard := some (26, true) }) (v := ?v33b) rfl (by kernel_rfl) (by kernel_rfl) (by kernel_rfl) (fun _ _ _ h => h) (Or.inl ⟨by rfl, ?hy33b⟩) (by assumption) ?rest33b
    case hy33b => (intro w hSw; (try dsimp only at hSw); go_simp; try with_reducible rfl)
    try simp only [Act.put, List.setIfInBounds_toArray, List.set_cons_zero, List.set_cons_succ]
    refine wpAnyH_take (i := 34) (oi := { dst := some 90, op := Go.Op.binOp Go.BinOp.eql 23 (Go.Operand.tmp 88) (Go.Operand.tmp 89) 23, type := 4, pos := "law.go:54", after := #[{ on := 32, ground := Go.Ground.data }, { on := 33, ground := Go.Ground.data }, { on := 26, ground := Go.Ground.guard }], guard := some (26, true) }) (v := ?v34b) rfl (by kernel_rfl) (by kernel_rfl) (by kernel_rfl) (fun _ _ _ h => h) (Or.inl ⟨by rfl, ?hy34b⟩) (by assumption) ?rest34b
    case hy34b => (intro w hSw; (try dsimp only at hSw); go_simp; try with_reducible rfl)
    try simp only [Act.put, List.setIfInBounds_toArray, List.set_cons_zero, List.set_cons_succ]
    refine wpAnyH_take (i := 35) (oi := { dst := some 91, op := Go.Op.binOp Go.BinOp.neq 4 (Go.Operand.tmp 87) (Go.Operand.tmp 90) 4, type := 4, pos := "law.go:54", after := #[{ on := 31, ground := Go.Ground.data }, { on := 34, ground := Go.Ground.data }, { on := 26, ground := Go.Ground.guard }], guard := some (26, true) }) (v := ?v35b) rfl (by kernel_rfl) (by kernel_rfl) (by kernel_rfl) (fun _ _ _ h => h) (Or.inl ⟨by rfl, ?hy35b⟩) (by assumption) ?rest35b
    case hy35b => (intro w hSw; (try dsimp only at hSw); go_simp; try with_reducible rfl)
    try simp only [Act.put, List.setIfInBounds_toArray, List.set_cons_zero, List.set_cons_succ]
    refine wpAnyH_take (i := 36) (oi := { dst := some 92, op := Go.Op.pick (Go.Operand.tmp 82) (Go.Operand.tmp 91) (Go.Operand.const (Go.Value.bool false)), type := 4, pos := "law.go:54", after := #[{ on := 26, ground := Go.Ground.data }, { on := 35, ground := Go.Ground.data }, { on := 21, ground := Go.Ground.guard }], guard := some (21, false) }) (v := ?v36b) rfl (by kernel_rfl) (by kernel_rfl) (by kernel_rfl) (fun _ _ _ h => h) (Or.inl ⟨by rfl, ?hy36b⟩) (by assumption) ?rest36b
    case hy36b => (intro w hSw; (try dsimp only at hSw); go_simp; try with_reducible rfl)
    try simp only [Act.put, List.setIfInBounds_toArray, List.set_cons_zero, List.set_cons_succ]
    refine wpAnyH_take (i := 37) (oi := { dst := some 93, op := Go.Op.pick (Go.Operand.tmp 77) (Go.Operand.const (Go.Value.bool true)) (Go.Operand.tmp 92), type := 4, pos := "law.go:54", after := #[{ on := 21, ground := Go.Ground.data }, { on := 36, ground := Go.Ground.data }], guard := none }) (v := ?v37b) rfl (by kernel_rfl) (by kernel_rfl) (by kernel_rfl) (fun _ _ _ h => h) (Or.inl ⟨by rfl, ?hy37b⟩) (by assumption) ?rest37b
    case hy37b => (intro w hSw; (try dsimp only at hSw); go_simp; try with_reducible rfl)
    try simp only [Act.put, List.setIfInBounds_toArray, List.set_cons_zero, List.set_cons_succ]
    refine wpAnyH_done (by kernel_rfl) ?_ _
    clear hHeld
    have H8 := Lib.hid (Stp.trans Hq.out K8.out)
    have Ha8 := Lib.hid (Haq.out.keep K8.out)
    clear Key Haq Hq K8
    have hz : X = zeroH → ∀ w, (Op.equalIn 10000 23 (hv X) (.agg #[.string ⟨#[]⟩, .string ⟨#[]⟩, .string ⟨#[]⟩, .int .i64 0, .int .i64 0, .int .i64 0, .int .i64 0, .int .i64 0, .int .u8 0, .int .i64 0, .int .i64 0])).run Try.prog w = .ok true w := fun hX0 w => by
      rw [hX0]
      have := eq_heads zeroH zeroH w
      rw [decide_eq_true rfl] at this
      exact this
    rcases KeyX.out with ⟨hX0, k1, k2⟩ | ⟨k1, k2, rfl, rfl⟩
    all_goals (first | (replace hz := hz hX0; clear hX0) | clear hz)
    all_goals go_wp2_with (first
      | (go_at_call 14; (with_reducible refine (hget_n l _ _ c _ Ha8.out rfl).mono ?_); rintro e w9 ⟨rfl, hs⟩; rw [Hcd.out, HX.out]; have Ha9 := Lib.hid (Ha8.out.keep hs); have H9 := Lib.hid (Stp.trans H8.out hs); clear hs)
      | (go_at_call 12; (with_reducible refine (put_s X Hsx.out _).mono ?_); rintro e w10 ⟨A6, c6, rfl, hr, hs⟩; rw [Hmx.out]; rw [HPx.out] at hr ⊢; have hcx := str_rd hr; have hcb := str_rd ((Ha9.out.keep (Stp.alloc (Stp.refl w9) (.cells (hcells X) 23))).keep hs); have H10 := Lib.hid (Stp.trans (Stp.alloc H9.out (.cells (hcells X) 23)) hs); obtain ⟨x0, x1, x2, x3, x4, x5, x6, x7, x8, x9, x10⟩ := hd_cells ((Blk.new w9 23 (hcells X)).keep hs (Blk.new w9 23 (hcells X)).lt); clear hs hr))
    all_goals go_ret
    all_goals exact ⟨rfl, H10.out⟩

theorem back_any (h k : Hd) (hsm : SmallH h) (ksm : SmallH k) (l : L) (v : Value) (w : World) (hv2 : Rd w w.heap.size v (bs l)) (hbig : l.length < 9223372036854775808) :
    Calls Try.prog 4 #[hv h, hv k, v] w fun e w' => e = .returned (.bool true) ∧ Below w.heap.size w w' := by
  obtain ⟨A, cap, rfl, ha⟩ := RdA.of hv2
  rw [bs_length]
  by_cases hin : fewB h = false ∨ fewB k = false ∨ 600 < l.length
  · exact back_early h k hsm ksm l A cap w ha hbig hin
  · simp only [not_or, Bool.not_eq_false] at hin
    obtain ⟨h1, h2, h3⟩ := hin
    cases hm : mayH h
    · exact back_a h k hsm ksm l A cap w ha h1 h2 (by omega) hm
    · cases hm2 : mayH k
      · exact back_b h k hsm ksm l A cap w ha h1 h2 (by omega) hm hm2
      · exact back_c h k hsm ksm l A cap w ha h1 h2 (by omega) hm hm2
end Go.Proofs.Ytjbihmbnfkpbpaa.Head
