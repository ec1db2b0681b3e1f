/-
  The document's May of a header, where the early tests hold: no statement is proved here.
-/
import Derived.Test.YtcgdeeinnfkgkaaGreatHeadRef3
namespace Go.Proofs.YtcgdeeinnfkgkaaGreat.Head
open Go.RowKit Go.Proofs.YtcgdeeinnfkgkaaGreat.Base Go.Proofs.YtcgdeeinnfkgkaaGreat.NumM Go.Proofs.YtcgdeeinnfkgkaaGreat.Num

set_option maxHeartbeats 8000000 in
set_option maxRecDepth 100000 in
theorem rmay_late (h : Hd) (hsm : SmallH h) (w : World) (hn : h.name ≠ []) (h1 : okT h.name 100 = true) (h2 : okT h.link 100 = true) (h3 : okT h.pre 155 = true) (h4 : putOk h.mode 8 = true) (h5 : putOk h.uid 8 = true) (h6 : putOk h.gid 8 = true) (h7 : putOk h.size 12 = true) (h8 : putOk h.time 12 = true) :
    Calls Tryz.prog 53 #[hv h] w fun e w' => e = .returned (.bool (mayH h)) ∧ Stp w w' := by
  have hl := may_of hn h1 h2 h3 h4 h5 h6 h7 h8
  rw [typs_is] at hl
  have hnn : (h.name == []) = false := by cases hq : h.name <;> simp_all
  obtain ⟨r, hr⟩ : ∃ r, mayH h = r := ⟨_, rfl⟩
  rw [hr] at hl ⊢
  have ename := h1
  have elink := h2
  have epre := h3
  have emode := h4
  have euid := h5
  have egid := h6
  have esize := h7
  have etime := h8
  obtain ⟨boff, eoff⟩ : ∃ b, putOk h.off 12 = b := ⟨_, rfl⟩
  obtain ⟨breal, ereal⟩ : ∃ b, putOk h.real 12 = b := ⟨_, rfl⟩
  rw [eoff, ereal] at hl
  obtain ⟨pe, hpe⟩ : ∃ b, (h.pre == []) = b := ⟨_, rfl⟩
  obtain ⟨oz, hoz⟩ : ∃ b, (h.off == 0) = b := ⟨_, rfl⟩
  obtain ⟨rz, hrz⟩ : ∃ b, (h.real == 0) = b := ⟨_, rfl⟩
  have hpe2 : h.pre.isEmpty = pe := by rw [← hpe]; cases h.pre <;> rfl
  have hoz2 : decide (h.off = 0) = oz := by rw [← hoz]; exact (Bool.eq_iff_iff.2 (by simp))
  have hrz2 : decide (h.real = 0) = rz := by rw [← hrz]; exact (Bool.eq_iff_iff.2 (by simp))
  rw [hpe2, hoz2, hrz2] at hl
  clear hpe2 hoz2 hrz2
  have key : (h.ty = 48 ∧ r = (oz && rz)) ∨ (h.ty = 49 ∧ r = (oz && rz)) ∨ (h.ty = 50 ∧ r = (oz && rz)) ∨ (h.ty = 53 ∧ r = (oz && rz)) ∨ (h.ty = 75 ∧ r = (oz && rz)) ∨ (h.ty = 76 ∧ r = (oz && rz)) ∨ (h.ty = 86 ∧ r = (oz && rz)) ∨ (h.ty = 77 ∧ r = (pe && (boff && breal))) ∨ (((h.ty.toNat : Int) == 48) = false ∧ ((h.ty.toNat : Int) == 49) = false ∧ ((h.ty.toNat : Int) == 50) = false ∧ ((h.ty.toNat : Int) == 53) = false ∧ ((h.ty.toNat : Int) == 75) = false ∧ ((h.ty.toNat : Int) == 76) = false ∧ ((h.ty.toNat : Int) == 86) = false ∧ ((h.ty.toNat : Int) == 77) = false ∧ r = false) := by
    have q : ∀ n : Nat, n < 256 → h.ty = UInt8.ofNat n ∨ ((h.ty.toNat : Int) == (n : Int)) = false := fun n hn => by
      rw [ty_eq _ _ hn]
      by_cases e : h.ty = UInt8.ofNat n
      · exact .inl e
      · exact .inr (decide_eq_false e)
    rcases q 48 (by omega) with e | q1
    · exact .inl ⟨e, by rw [hl, e]; rfl⟩
    rcases q 49 (by omega) with e | q2
    · exact .inr (.inl ⟨e, by rw [hl, e]; rfl⟩)
    rcases q 50 (by omega) with e | q3
    · exact .inr (.inr (.inl ⟨e, by rw [hl, e]; rfl⟩))
    rcases q 53 (by omega) with e | q4
    · exact .inr (.inr (.inr (.inl ⟨e, by rw [hl, e]; rfl⟩)))
    rcases q 75 (by omega) with e | q5
    · exact .inr (.inr (.inr (.inr (.inl ⟨e, by rw [hl, e]; rfl⟩))))
    rcases q 76 (by omega) with e | q6
    · exact .inr (.inr (.inr (.inr (.inr (.inl ⟨e, by rw [hl, e]; rfl⟩)))))
    rcases q 86 (by omega) with e | q7
    · exact .inr (.inr (.inr (.inr (.inr (.inr (.inl ⟨e, by rw [hl, e]; rfl⟩))))))
    rcases q 77 (by omega) with e | q8
    · exact .inr (.inr (.inr (.inr (.inr (.inr (.inr (.inl ⟨e, by rw [hl, e]; rfl⟩)))))))
    refine .inr (.inr (.inr (.inr (.inr (.inr (.inr (.inr ⟨q1, q2, q3, q4, q5, q6, q7, q8, ?_⟩)))))))
    rw [hl]
    replace q1 : ((h.ty.toNat : Int) == 48) = false := q1
    replace q2 : ((h.ty.toNat : Int) == 49) = false := q2
    replace q3 : ((h.ty.toNat : Int) == 50) = false := q3
    replace q4 : ((h.ty.toNat : Int) == 53) = false := q4
    replace q5 : ((h.ty.toNat : Int) == 75) = false := q5
    replace q6 : ((h.ty.toNat : Int) == 76) = false := q6
    replace q7 : ((h.ty.toNat : Int) == 86) = false := q7
    replace q8 : ((h.ty.toNat : Int) == 77) = false := q8
    simp only [q1, q2, q3, q4, q5, q6, q7, q8, Bool.or_self, Bool.false_and]
  have Wname := Lib.hid ename
  have Wlink := Lib.hid elink
  have Wpre := Lib.hid epre
  have Nmode := Lib.hid emode
  have Nuid := Lib.hid euid
  have Ngid := Lib.hid egid
  have Nsize := Lib.hid esize
  have Ntime := Lib.hid etime
  have Noff := Lib.hid eoff
  have Nreal := Lib.hid ereal
  clear ename elink epre emode euid egid esize etime eoff ereal
  clear h1 h2 h3 h4 h5 h6 h7 h8 hn hl hr
  have key2 : (∃ t : UInt8, h.ty = t ∧ r = (oz && rz) ∧ (t = 48 ∨ t = 49 ∨ t = 50 ∨ t = 53 ∨ t = 75 ∨ t = 76 ∨ t = 86)) ∨ (h.ty = 77 ∧ r = (pe && (boff && breal))) ∨ (((h.ty.toNat : Int) == 48) = false ∧ ((h.ty.toNat : Int) == 49) = false ∧ ((h.ty.toNat : Int) == 50) = false ∧ ((h.ty.toNat : Int) == 53) = false ∧ ((h.ty.toNat : Int) == 75) = false ∧ ((h.ty.toNat : Int) == 76) = false ∧ ((h.ty.toNat : Int) == 86) = false ∧ ((h.ty.toNat : Int) == 77) = false ∧ r = false) := by
    rcases key with ⟨e, k⟩ | ⟨e, k⟩ | ⟨e, k⟩ | ⟨e, k⟩ | ⟨e, k⟩ | ⟨e, k⟩ | ⟨e, k⟩ | k | k
    · exact .inl ⟨_, e, k, by decide⟩
    · exact .inl ⟨_, e, k, by decide⟩
    · exact .inl ⟨_, e, k, by decide⟩
    · exact .inl ⟨_, e, k, by decide⟩
    · exact .inl ⟨_, e, k, by decide⟩
    · exact .inl ⟨_, e, k, by decide⟩
    · exact .inl ⟨_, e, k, by decide⟩
    · exact .inr (.inl k)
    · exact .inr (.inr k)
  clear key
  have h0 := Stp.alloc (Stp.refl w) (.cells (hcells h) 55)
  have Hb := Lib.hid (Blk.new w 55 (hcells h))
  have Hs := Lib.hid hsm
  clear hsm
  obtain ⟨x0, x1, x2, x3, x4, x5, x6, x7, x8, x9, x10⟩ := hd_cells Hb.out
  rcases key2 with ⟨t, ht, hk, hor⟩ | ⟨ht, hk⟩ | ⟨q1, q2, q3, q4, q5, q6, q7, q8, hk⟩
  · rw [ht] at x8
    have Ht := Lib.hid ht
    clear ht
    rcases hor with rfl | rfl | rfl | rfl | rfl | rfl | rfl
    all_goals (cases oz <;> cases rz)
    all_goals subst hk
    all_goals go_enter Tryz.func53, Tryz.ntmps53
    all_goals go_wp2_with (first
    | (go_at_call 80; (with_reducible refine (rword_i h.name 100 100 rfl Hs.out.name _).mono ?_); rintro e w' ⟨rfl, hs⟩; rw [Wname.out]; replace Hb := Lib.hid (Hb.out.keep hs Hb.out.lt); replace h0 := Stp.trans h0 hs; clear hs; clear x0 x1 x2 x3 x4 x5 x6 x7 x8 x9 x10; obtain ⟨x0, x1, x2, x3, x4, x5, x6, x7, x8, x9, x10⟩ := hd_cells Hb.out; rw [Ht.out] at x8)
    | (go_at_call 80; (with_reducible refine (rword_i h.link 100 100 rfl Hs.out.link _).mono ?_); rintro e w' ⟨rfl, hs⟩; rw [Wlink.out]; replace Hb := Lib.hid (Hb.out.keep hs Hb.out.lt); replace h0 := Stp.trans h0 hs; clear hs; clear x0 x1 x2 x3 x4 x5 x6 x7 x8 x9 x10; obtain ⟨x0, x1, x2, x3, x4, x5, x6, x7, x8, x9, x10⟩ := hd_cells Hb.out; rw [Ht.out] at x8)
    | (go_at_call 80; (with_reducible refine (rword_i h.pre 155 155 rfl Hs.out.pre _).mono ?_); rintro e w' ⟨rfl, hs⟩; rw [Wpre.out]; replace Hb := Lib.hid (Hb.out.keep hs Hb.out.lt); replace h0 := Stp.trans h0 hs; clear hs; clear x0 x1 x2 x3 x4 x5 x6 x7 x8 x9 x10; obtain ⟨x0, x1, x2, x3, x4, x5, x6, x7, x8, x9, x10⟩ := hd_cells Hb.out; rw [Ht.out] at x8)
    | (go_at_call 81; (with_reducible refine (rfits_s h.mode 8 Hs.out.mode _).mono ?_); rintro e w' ⟨rfl, hs⟩; rw [Nmode.out]; replace Hb := Lib.hid (Hb.out.keep hs Hb.out.lt); replace h0 := Stp.trans h0 hs; clear hs; clear x0 x1 x2 x3 x4 x5 x6 x7 x8 x9 x10; obtain ⟨x0, x1, x2, x3, x4, x5, x6, x7, x8, x9, x10⟩ := hd_cells Hb.out; rw [Ht.out] at x8)
    | (go_at_call 81; (with_reducible refine (rfits_s h.uid 8 Hs.out.uid _).mono ?_); rintro e w' ⟨rfl, hs⟩; rw [Nuid.out]; replace Hb := Lib.hid (Hb.out.keep hs Hb.out.lt); replace h0 := Stp.trans h0 hs; clear hs; clear x0 x1 x2 x3 x4 x5 x6 x7 x8 x9 x10; obtain ⟨x0, x1, x2, x3, x4, x5, x6, x7, x8, x9, x10⟩ := hd_cells Hb.out; rw [Ht.out] at x8)
    | (go_at_call 81; (with_reducible refine (rfits_s h.gid 8 Hs.out.gid _).mono ?_); rintro e w' ⟨rfl, hs⟩; rw [Ngid.out]; replace Hb := Lib.hid (Hb.out.keep hs Hb.out.lt); replace h0 := Stp.trans h0 hs; clear hs; clear x0 x1 x2 x3 x4 x5 x6 x7 x8 x9 x10; obtain ⟨x0, x1, x2, x3, x4, x5, x6, x7, x8, x9, x10⟩ := hd_cells Hb.out; rw [Ht.out] at x8)
    | (go_at_call 81; (with_reducible refine (rfits_s h.size 12 Hs.out.size _).mono ?_); rintro e w' ⟨rfl, hs⟩; rw [Nsize.out]; replace Hb := Lib.hid (Hb.out.keep hs Hb.out.lt); replace h0 := Stp.trans h0 hs; clear hs; clear x0 x1 x2 x3 x4 x5 x6 x7 x8 x9 x10; obtain ⟨x0, x1, x2, x3, x4, x5, x6, x7, x8, x9, x10⟩ := hd_cells Hb.out; rw [Ht.out] at x8)
    | (go_at_call 81; (with_reducible refine (rfits_s h.time 12 Hs.out.time _).mono ?_); rintro e w' ⟨rfl, hs⟩; rw [Ntime.out]; replace Hb := Lib.hid (Hb.out.keep hs Hb.out.lt); replace h0 := Stp.trans h0 hs; clear hs; clear x0 x1 x2 x3 x4 x5 x6 x7 x8 x9 x10; obtain ⟨x0, x1, x2, x3, x4, x5, x6, x7, x8, x9, x10⟩ := hd_cells Hb.out; rw [Ht.out] at x8)
    | (go_at_call 81; (with_reducible refine (rfits_s h.off 12 Hs.out.off _).mono ?_); rintro e w' ⟨rfl, hs⟩; rw [Noff.out]; replace Hb := Lib.hid (Hb.out.keep hs Hb.out.lt); replace h0 := Stp.trans h0 hs; clear hs; clear x0 x1 x2 x3 x4 x5 x6 x7 x8 x9 x10; obtain ⟨x0, x1, x2, x3, x4, x5, x6, x7, x8, x9, x10⟩ := hd_cells Hb.out; rw [Ht.out] at x8)
    | (go_at_call 81; (with_reducible refine (rfits_s h.real 12 Hs.out.real _).mono ?_); rintro e w' ⟨rfl, hs⟩; rw [Nreal.out]; replace Hb := Lib.hid (Hb.out.keep hs Hb.out.lt); replace h0 := Stp.trans h0 hs; clear hs; clear x0 x1 x2 x3 x4 x5 x6 x7 x8 x9 x10; obtain ⟨x0, x1, x2, x3, x4, x5, x6, x7, x8, x9, x10⟩ := hd_cells Hb.out; rw [Ht.out] at x8))
    all_goals go_ret
    all_goals exact ⟨rfl, h0⟩
  · rw [ht] at x8
    have Ht := Lib.hid ht
    clear ht
    cases pe <;> cases boff <;> cases breal
    all_goals subst hk
    all_goals go_enter Tryz.func53, Tryz.ntmps53
    all_goals go_wp2_with (first
    | (go_at_call 80; (with_reducible refine (rword_i h.name 100 100 rfl Hs.out.name _).mono ?_); rintro e w' ⟨rfl, hs⟩; rw [Wname.out]; replace Hb := Lib.hid (Hb.out.keep hs Hb.out.lt); replace h0 := Stp.trans h0 hs; clear hs; clear x0 x1 x2 x3 x4 x5 x6 x7 x8 x9 x10; obtain ⟨x0, x1, x2, x3, x4, x5, x6, x7, x8, x9, x10⟩ := hd_cells Hb.out; rw [Ht.out] at x8)
    | (go_at_call 80; (with_reducible refine (rword_i h.link 100 100 rfl Hs.out.link _).mono ?_); rintro e w' ⟨rfl, hs⟩; rw [Wlink.out]; replace Hb := Lib.hid (Hb.out.keep hs Hb.out.lt); replace h0 := Stp.trans h0 hs; clear hs; clear x0 x1 x2 x3 x4 x5 x6 x7 x8 x9 x10; obtain ⟨x0, x1, x2, x3, x4, x5, x6, x7, x8, x9, x10⟩ := hd_cells Hb.out; rw [Ht.out] at x8)
    | (go_at_call 80; (with_reducible refine (rword_i h.pre 155 155 rfl Hs.out.pre _).mono ?_); rintro e w' ⟨rfl, hs⟩; rw [Wpre.out]; replace Hb := Lib.hid (Hb.out.keep hs Hb.out.lt); replace h0 := Stp.trans h0 hs; clear hs; clear x0 x1 x2 x3 x4 x5 x6 x7 x8 x9 x10; obtain ⟨x0, x1, x2, x3, x4, x5, x6, x7, x8, x9, x10⟩ := hd_cells Hb.out; rw [Ht.out] at x8)
    | (go_at_call 81; (with_reducible refine (rfits_s h.mode 8 Hs.out.mode _).mono ?_); rintro e w' ⟨rfl, hs⟩; rw [Nmode.out]; replace Hb := Lib.hid (Hb.out.keep hs Hb.out.lt); replace h0 := Stp.trans h0 hs; clear hs; clear x0 x1 x2 x3 x4 x5 x6 x7 x8 x9 x10; obtain ⟨x0, x1, x2, x3, x4, x5, x6, x7, x8, x9, x10⟩ := hd_cells Hb.out; rw [Ht.out] at x8)
    | (go_at_call 81; (with_reducible refine (rfits_s h.uid 8 Hs.out.uid _).mono ?_); rintro e w' ⟨rfl, hs⟩; rw [Nuid.out]; replace Hb := Lib.hid (Hb.out.keep hs Hb.out.lt); replace h0 := Stp.trans h0 hs; clear hs; clear x0 x1 x2 x3 x4 x5 x6 x7 x8 x9 x10; obtain ⟨x0, x1, x2, x3, x4, x5, x6, x7, x8, x9, x10⟩ := hd_cells Hb.out; rw [Ht.out] at x8)
    | (go_at_call 81; (with_reducible refine (rfits_s h.gid 8 Hs.out.gid _).mono ?_); rintro e w' ⟨rfl, hs⟩; rw [Ngid.out]; replace Hb := Lib.hid (Hb.out.keep hs Hb.out.lt); replace h0 := Stp.trans h0 hs; clear hs; clear x0 x1 x2 x3 x4 x5 x6 x7 x8 x9 x10; obtain ⟨x0, x1, x2, x3, x4, x5, x6, x7, x8, x9, x10⟩ := hd_cells Hb.out; rw [Ht.out] at x8)
    | (go_at_call 81; (with_reducible refine (rfits_s h.size 12 Hs.out.size _).mono ?_); rintro e w' ⟨rfl, hs⟩; rw [Nsize.out]; replace Hb := Lib.hid (Hb.out.keep hs Hb.out.lt); replace h0 := Stp.trans h0 hs; clear hs; clear x0 x1 x2 x3 x4 x5 x6 x7 x8 x9 x10; obtain ⟨x0, x1, x2, x3, x4, x5, x6, x7, x8, x9, x10⟩ := hd_cells Hb.out; rw [Ht.out] at x8)
    | (go_at_call 81; (with_reducible refine (rfits_s h.time 12 Hs.out.time _).mono ?_); rintro e w' ⟨rfl, hs⟩; rw [Ntime.out]; replace Hb := Lib.hid (Hb.out.keep hs Hb.out.lt); replace h0 := Stp.trans h0 hs; clear hs; clear x0 x1 x2 x3 x4 x5 x6 x7 x8 x9 x10; obtain ⟨x0, x1, x2, x3, x4, x5, x6, x7, x8, x9, x10⟩ := hd_cells Hb.out; rw [Ht.out] at x8)
    | (go_at_call 81; (with_reducible refine (rfits_s h.off 12 Hs.out.off _).mono ?_); rintro e w' ⟨rfl, hs⟩; rw [Noff.out]; replace Hb := Lib.hid (Hb.out.keep hs Hb.out.lt); replace h0 := Stp.trans h0 hs; clear hs; clear x0 x1 x2 x3 x4 x5 x6 x7 x8 x9 x10; obtain ⟨x0, x1, x2, x3, x4, x5, x6, x7, x8, x9, x10⟩ := hd_cells Hb.out; rw [Ht.out] at x8)
    | (go_at_call 81; (with_reducible refine (rfits_s h.real 12 Hs.out.real _).mono ?_); rintro e w' ⟨rfl, hs⟩; rw [Nreal.out]; replace Hb := Lib.hid (Hb.out.keep hs Hb.out.lt); replace h0 := Stp.trans h0 hs; clear hs; clear x0 x1 x2 x3 x4 x5 x6 x7 x8 x9 x10; obtain ⟨x0, x1, x2, x3, x4, x5, x6, x7, x8, x9, x10⟩ := hd_cells Hb.out; rw [Ht.out] at x8))
    all_goals go_ret
    all_goals exact ⟨rfl, h0⟩
  · subst hk
    go_enter Tryz.func53, Tryz.ntmps53
    go_wp2_with (first
    | (go_at_call 80; (with_reducible refine (rword_i h.name 100 100 rfl Hs.out.name _).mono ?_); rintro e w' ⟨rfl, hs⟩; rw [Wname.out]; replace Hb := Lib.hid (Hb.out.keep hs Hb.out.lt); replace h0 := Stp.trans h0 hs; clear hs; clear x0 x1 x2 x3 x4 x5 x6 x7 x8 x9 x10; obtain ⟨x0, x1, x2, x3, x4, x5, x6, x7, x8, x9, x10⟩ := hd_cells Hb.out)
    | (go_at_call 80; (with_reducible refine (rword_i h.link 100 100 rfl Hs.out.link _).mono ?_); rintro e w' ⟨rfl, hs⟩; rw [Wlink.out]; replace Hb := Lib.hid (Hb.out.keep hs Hb.out.lt); replace h0 := Stp.trans h0 hs; clear hs; clear x0 x1 x2 x3 x4 x5 x6 x7 x8 x9 x10; obtain ⟨x0, x1, x2, x3, x4, x5, x6, x7, x8, x9, x10⟩ := hd_cells Hb.out)
    | (go_at_call 80; (with_reducible refine (rword_i h.pre 155 155 rfl Hs.out.pre _).mono ?_); rintro e w' ⟨rfl, hs⟩; rw [Wpre.out]; replace Hb := Lib.hid (Hb.out.keep hs Hb.out.lt); replace h0 := Stp.trans h0 hs; clear hs; clear x0 x1 x2 x3 x4 x5 x6 x7 x8 x9 x10; obtain ⟨x0, x1, x2, x3, x4, x5, x6, x7, x8, x9, x10⟩ := hd_cells Hb.out)
    | (go_at_call 81; (with_reducible refine (rfits_s h.mode 8 Hs.out.mode _).mono ?_); rintro e w' ⟨rfl, hs⟩; rw [Nmode.out]; replace Hb := Lib.hid (Hb.out.keep hs Hb.out.lt); replace h0 := Stp.trans h0 hs; clear hs; clear x0 x1 x2 x3 x4 x5 x6 x7 x8 x9 x10; obtain ⟨x0, x1, x2, x3, x4, x5, x6, x7, x8, x9, x10⟩ := hd_cells Hb.out)
    | (go_at_call 81; (with_reducible refine (rfits_s h.uid 8 Hs.out.uid _).mono ?_); rintro e w' ⟨rfl, hs⟩; rw [Nuid.out]; replace Hb := Lib.hid (Hb.out.keep hs Hb.out.lt); replace h0 := Stp.trans h0 hs; clear hs; clear x0 x1 x2 x3 x4 x5 x6 x7 x8 x9 x10; obtain ⟨x0, x1, x2, x3, x4, x5, x6, x7, x8, x9, x10⟩ := hd_cells Hb.out)
    | (go_at_call 81; (with_reducible refine (rfits_s h.gid 8 Hs.out.gid _).mono ?_); rintro e w' ⟨rfl, hs⟩; rw [Ngid.out]; replace Hb := Lib.hid (Hb.out.keep hs Hb.out.lt); replace h0 := Stp.trans h0 hs; clear hs; clear x0 x1 x2 x3 x4 x5 x6 x7 x8 x9 x10; obtain ⟨x0, x1, x2, x3, x4, x5, x6, x7, x8, x9, x10⟩ := hd_cells Hb.out)
    | (go_at_call 81; (with_reducible refine (rfits_s h.size 12 Hs.out.size _).mono ?_); rintro e w' ⟨rfl, hs⟩; rw [Nsize.out]; replace Hb := Lib.hid (Hb.out.keep hs Hb.out.lt); replace h0 := Stp.trans h0 hs; clear hs; clear x0 x1 x2 x3 x4 x5 x6 x7 x8 x9 x10; obtain ⟨x0, x1, x2, x3, x4, x5, x6, x7, x8, x9, x10⟩ := hd_cells Hb.out)
    | (go_at_call 81; (with_reducible refine (rfits_s h.time 12 Hs.out.time _).mono ?_); rintro e w' ⟨rfl, hs⟩; rw [Ntime.out]; replace Hb := Lib.hid (Hb.out.keep hs Hb.out.lt); replace h0 := Stp.trans h0 hs; clear hs; clear x0 x1 x2 x3 x4 x5 x6 x7 x8 x9 x10; obtain ⟨x0, x1, x2, x3, x4, x5, x6, x7, x8, x9, x10⟩ := hd_cells Hb.out)
    | (go_at_call 81; (with_reducible refine (rfits_s h.off 12 Hs.out.off _).mono ?_); rintro e w' ⟨rfl, hs⟩; rw [Noff.out]; replace Hb := Lib.hid (Hb.out.keep hs Hb.out.lt); replace h0 := Stp.trans h0 hs; clear hs; clear x0 x1 x2 x3 x4 x5 x6 x7 x8 x9 x10; obtain ⟨x0, x1, x2, x3, x4, x5, x6, x7, x8, x9, x10⟩ := hd_cells Hb.out)
    | (go_at_call 81; (with_reducible refine (rfits_s h.real 12 Hs.out.real _).mono ?_); rintro e w' ⟨rfl, hs⟩; rw [Nreal.out]; replace Hb := Lib.hid (Hb.out.keep hs Hb.out.lt); replace h0 := Stp.trans h0 hs; clear hs; clear x0 x1 x2 x3 x4 x5 x6 x7 x8 x9 x10; obtain ⟨x0, x1, x2, x3, x4, x5, x6, x7, x8, x9, x10⟩ := hd_cells Hb.out))
    go_ret
    exact ⟨rfl, h0⟩
end Go.Proofs.YtcgdeeinnfkgkaaGreat.Head
