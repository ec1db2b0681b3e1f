/-
  The document's May of a header, where an early test fails: no statement is proved here.
  The document's May of a header, where the early tests hold: no statement is proved here.
  The document's block of a header of type M: no statement is proved here.
-/
import Derived.Test.YtopihahjjcpnpaaGreatDoorHeadRef3
import Derived.Deep.RegionHeld3
namespace Go.Proofs.YtopihahjjcpnpaaGreatDoor.Head
open Go.RowKit Go.Proofs.YtopihahjjcpnpaaGreatDoor.Base Go.Proofs.YtopihahjjcpnpaaGreatDoor.NumM Go.Proofs.YtopihahjjcpnpaaGreatDoor.Num

set_option maxHeartbeats 8000000 in
set_option maxRecDepth 100000 in
theorem rmay_early (h : Hd) (hsm : SmallH h) (w : World) (hx : h.name = [] ∨ okT h.name 100 = false ∨ okT h.link 100 = false ∨ okT h.pre 155 = false ∨ putOk h.mode 8 = false ∨ putOk h.uid 8 = false ∨ putOk h.gid 8 = false ∨ putOk h.size 12 = false ∨ putOk h.time 12 = false) :
    Calls Tryz.prog 111 #[hv h] w fun e w' => e = .returned (.bool false) ∧ Stp w w' := by
  obtain ⟨bname, ename⟩ : ∃ b, okT h.name 100 = b := ⟨_, rfl⟩
  obtain ⟨blink, elink⟩ : ∃ b, okT h.link 100 = b := ⟨_, rfl⟩
  obtain ⟨bpre, epre⟩ : ∃ b, okT h.pre 155 = b := ⟨_, rfl⟩
  obtain ⟨bmode, emode⟩ : ∃ b, putOk h.mode 8 = b := ⟨_, rfl⟩
  obtain ⟨buid, euid⟩ : ∃ b, putOk h.uid 8 = b := ⟨_, rfl⟩
  obtain ⟨bgid, egid⟩ : ∃ b, putOk h.gid 8 = b := ⟨_, rfl⟩
  obtain ⟨bsize, esize⟩ : ∃ b, putOk h.size 12 = b := ⟨_, rfl⟩
  obtain ⟨btime, etime⟩ : ∃ b, putOk h.time 12 = b := ⟨_, rfl⟩
  obtain ⟨boff, eoff⟩ : ∃ b, putOk h.off 12 = b := ⟨_, rfl⟩
  obtain ⟨breal, ereal⟩ : ∃ b, putOk h.real 12 = b := ⟨_, rfl⟩
  obtain ⟨nn, hnn⟩ : ∃ b, (h.name == []) = b := ⟨_, rfl⟩
  have key : bname = false ∨ (bname = true ∧ blink = false) ∨ (bname = true ∧ blink = true ∧ bpre = false) ∨ (bname = true ∧ blink = true ∧ bpre = true ∧ bmode = false) ∨ (bname = true ∧ blink = true ∧ bpre = true ∧ bmode = true ∧ buid = false) ∨ (bname = true ∧ blink = true ∧ bpre = true ∧ bmode = true ∧ buid = true ∧ bgid = false) ∨ (bname = true ∧ blink = true ∧ bpre = true ∧ bmode = true ∧ buid = true ∧ bgid = true ∧ bsize = false) ∨ (bname = true ∧ blink = true ∧ bpre = true ∧ bmode = true ∧ buid = true ∧ bgid = true ∧ bsize = true ∧ btime = false) ∨ (bname = true ∧ blink = true ∧ bpre = true ∧ bmode = true ∧ buid = true ∧ bgid = true ∧ bsize = true ∧ btime = true ∧ nn = true) := by
    rw [ename, elink, epre, emode, euid, egid, esize, etime] at hx
    have hx2 : nn = true ∨ bname = false ∨ blink = false ∨ bpre = false ∨ bmode = false ∨ buid = false ∨ bgid = false ∨ bsize = false ∨ btime = false := by
      rcases hx with e | e
      · left; rw [← hnn, e]; rfl
      · right; exact e
    clear hx hnn ename elink epre emode euid egid esize etime eoff ereal
    cases bname
    · exact .inl rfl
    cases blink
    · exact .inr (.inl ⟨rfl, rfl⟩)
    cases bpre
    · exact .inr (.inr (.inl ⟨rfl, rfl, rfl⟩))
    cases bmode
    · exact .inr (.inr (.inr (.inl ⟨rfl, rfl, rfl, rfl⟩)))
    cases buid
    · exact .inr (.inr (.inr (.inr (.inl ⟨rfl, rfl, rfl, rfl, rfl⟩))))
    cases bgid
    · exact .inr (.inr (.inr (.inr (.inr (.inl ⟨rfl, rfl, rfl, rfl, rfl, rfl⟩)))))
    cases bsize
    · exact .inr (.inr (.inr (.inr (.inr (.inr (.inl ⟨rfl, rfl, rfl, rfl, rfl, rfl, rfl⟩))))))
    cases btime
    · exact .inr (.inr (.inr (.inr (.inr (.inr (.inr (.inl ⟨rfl, rfl, rfl, rfl, rfl, rfl, rfl, rfl⟩)))))))
    have hnt : nn = true := by simpa using hx2
    exact .inr (.inr (.inr (.inr (.inr (.inr (.inr (.inr (⟨rfl, rfl, rfl, rfl, rfl, rfl, rfl, rfl, hnt⟩))))))))
  have Wname := Lib.hid ename
  have Wlink := Lib.hid elink
  have Wpre := Lib.hid epre
  have Nmode := Lib.hid emode
  have Nuid := Lib.hid euid
  have Ngid := Lib.hid egid
  have Nsize := Lib.hid esize
  have Ntime := Lib.hid etime
  have Noff := Lib.hid eoff
  have Nreal := Lib.hid ereal
  clear ename elink epre emode euid egid esize etime eoff ereal
  clear hx
  have h0 := Stp.alloc (Stp.refl w) (.cells (hcells h) 76)
  have Hb := Lib.hid (Blk.new w 76 (hcells h))
  have Hs := Lib.hid hsm
  clear hsm
  obtain ⟨x0, x1, x2, x3, x4, x5, x6, x7, x8, x9, x10⟩ := hd_cells Hb.out
  rcases key with rfl | ⟨rfl, rfl⟩ | ⟨rfl, rfl, rfl⟩ | ⟨rfl, rfl, rfl, rfl⟩ | ⟨rfl, rfl, rfl, rfl, rfl⟩ | ⟨rfl, rfl, rfl, rfl, rfl, rfl⟩ | ⟨rfl, rfl, rfl, rfl, rfl, rfl, rfl⟩ | ⟨rfl, rfl, rfl, rfl, rfl, rfl, rfl, rfl⟩ | ⟨rfl, rfl, rfl, rfl, rfl, rfl, rfl, rfl, rfl⟩
  all_goals go_enter Tryz.func111, Tryz.ntmps111
  all_goals go_wp2_with (first
    | (go_at_call 148; (with_reducible refine (rword_i h.name 100 100 rfl Hs.out.name _).mono ?_); rintro e w' ⟨rfl, hs⟩; rw [Wname.out]; replace Hb := Lib.hid (Hb.out.keep hs Hb.out.lt); replace h0 := Stp.trans h0 hs; clear hs; clear x0 x1 x2 x3 x4 x5 x6 x7 x8 x9 x10; obtain ⟨x0, x1, x2, x3, x4, x5, x6, x7, x8, x9, x10⟩ := hd_cells Hb.out)
    | (go_at_call 148; (with_reducible refine (rword_i h.link 100 100 rfl Hs.out.link _).mono ?_); rintro e w' ⟨rfl, hs⟩; rw [Wlink.out]; replace Hb := Lib.hid (Hb.out.keep hs Hb.out.lt); replace h0 := Stp.trans h0 hs; clear hs; clear x0 x1 x2 x3 x4 x5 x6 x7 x8 x9 x10; obtain ⟨x0, x1, x2, x3, x4, x5, x6, x7, x8, x9, x10⟩ := hd_cells Hb.out)
    | (go_at_call 148; (with_reducible refine (rword_i h.pre 155 155 rfl Hs.out.pre _).mono ?_); rintro e w' ⟨rfl, hs⟩; rw [Wpre.out]; replace Hb := Lib.hid (Hb.out.keep hs Hb.out.lt); replace h0 := Stp.trans h0 hs; clear hs; clear x0 x1 x2 x3 x4 x5 x6 x7 x8 x9 x10; obtain ⟨x0, x1, x2, x3, x4, x5, x6, x7, x8, x9, x10⟩ := hd_cells Hb.out)
    | (go_at_call 149; (with_reducible refine (rfits_s h.mode 8 Hs.out.mode _).mono ?_); rintro e w' ⟨rfl, hs⟩; rw [Nmode.out]; replace Hb := Lib.hid (Hb.out.keep hs Hb.out.lt); replace h0 := Stp.trans h0 hs; clear hs; clear x0 x1 x2 x3 x4 x5 x6 x7 x8 x9 x10; obtain ⟨x0, x1, x2, x3, x4, x5, x6, x7, x8, x9, x10⟩ := hd_cells Hb.out)
    | (go_at_call 149; (with_reducible refine (rfits_s h.uid 8 Hs.out.uid _).mono ?_); rintro e w' ⟨rfl, hs⟩; rw [Nuid.out]; replace Hb := Lib.hid (Hb.out.keep hs Hb.out.lt); replace h0 := Stp.trans h0 hs; clear hs; clear x0 x1 x2 x3 x4 x5 x6 x7 x8 x9 x10; obtain ⟨x0, x1, x2, x3, x4, x5, x6, x7, x8, x9, x10⟩ := hd_cells Hb.out)
    | (go_at_call 149; (with_reducible refine (rfits_s h.gid 8 Hs.out.gid _).mono ?_); rintro e w' ⟨rfl, hs⟩; rw [Ngid.out]; replace Hb := Lib.hid (Hb.out.keep hs Hb.out.lt); replace h0 := Stp.trans h0 hs; clear hs; clear x0 x1 x2 x3 x4 x5 x6 x7 x8 x9 x10; obtain ⟨x0, x1, x2, x3, x4, x5, x6, x7, x8, x9, x10⟩ := hd_cells Hb.out)
    | (go_at_call 149; (with_reducible refine (rfits_s h.size 12 Hs.out.size _).mono ?_); rintro e w' ⟨rfl, hs⟩; rw [Nsize.out]; replace Hb := Lib.hid (Hb.out.keep hs Hb.out.lt); replace h0 := Stp.trans h0 hs; clear hs; clear x0 x1 x2 x3 x4 x5 x6 x7 x8 x9 x10; obtain ⟨x0, x1, x2, x3, x4, x5, x6, x7, x8, x9, x10⟩ := hd_cells Hb.out)
    | (go_at_call 149; (with_reducible refine (rfits_s h.time 12 Hs.out.time _).mono ?_); rintro e w' ⟨rfl, hs⟩; rw [Ntime.out]; replace Hb := Lib.hid (Hb.out.keep hs Hb.out.lt); replace h0 := Stp.trans h0 hs; clear hs; clear x0 x1 x2 x3 x4 x5 x6 x7 x8 x9 x10; obtain ⟨x0, x1, x2, x3, x4, x5, x6, x7, x8, x9, x10⟩ := hd_cells Hb.out)
    | (go_at_call 149; (with_reducible refine (rfits_s h.off 12 Hs.out.off _).mono ?_); rintro e w' ⟨rfl, hs⟩; rw [Noff.out]; replace Hb := Lib.hid (Hb.out.keep hs Hb.out.lt); replace h0 := Stp.trans h0 hs; clear hs; clear x0 x1 x2 x3 x4 x5 x6 x7 x8 x9 x10; obtain ⟨x0, x1, x2, x3, x4, x5, x6, x7, x8, x9, x10⟩ := hd_cells Hb.out)
    | (go_at_call 149; (with_reducible refine (rfits_s h.real 12 Hs.out.real _).mono ?_); rintro e w' ⟨rfl, hs⟩; rw [Nreal.out]; replace Hb := Lib.hid (Hb.out.keep hs Hb.out.lt); replace h0 := Stp.trans h0 hs; clear hs; clear x0 x1 x2 x3 x4 x5 x6 x7 x8 x9 x10; obtain ⟨x0, x1, x2, x3, x4, x5, x6, x7, x8, x9, x10⟩ := hd_cells Hb.out))
  all_goals go_ret
  all_goals exact ⟨rfl, h0⟩
end Go.Proofs.YtopihahjjcpnpaaGreatDoor.Head

namespace Go.Proofs.YtopihahjjcpnpaaGreatDoor.Head
open Go.RowKit Go.Proofs.YtopihahjjcpnpaaGreatDoor.Base Go.Proofs.YtopihahjjcpnpaaGreatDoor.NumM Go.Proofs.YtopihahjjcpnpaaGreatDoor.Num

set_option maxHeartbeats 8000000 in
set_option maxRecDepth 100000 in
theorem rmay_late (h : Hd) (hsm : SmallH h) (w : World) (hn : h.name ≠ []) (h1 : okT h.name 100 = true) (h2 : okT h.link 100 = true) (h3 : okT h.pre 155 = true) (h4 : putOk h.mode 8 = true) (h5 : putOk h.uid 8 = true) (h6 : putOk h.gid 8 = true) (h7 : putOk h.size 12 = true) (h8 : putOk h.time 12 = true) :
    Calls Tryz.prog 111 #[hv h] w fun e w' => e = .returned (.bool (mayH h)) ∧ Stp w w' := by
  have hl := may_of hn h1 h2 h3 h4 h5 h6 h7 h8
  rw [typs_is] at hl
  have hnn : (h.name == []) = false := by cases hq : h.name <;> simp_all
  obtain ⟨r, hr⟩ : ∃ r, mayH h = r := ⟨_, rfl⟩
  rw [hr] at hl ⊢
  have ename := h1
  have elink := h2
  have epre := h3
  have emode := h4
  have euid := h5
  have egid := h6
  have esize := h7
  have etime := h8
  obtain ⟨boff, eoff⟩ : ∃ b, putOk h.off 12 = b := ⟨_, rfl⟩
  obtain ⟨breal, ereal⟩ : ∃ b, putOk h.real 12 = b := ⟨_, rfl⟩
  rw [eoff, ereal] at hl
  obtain ⟨pe, hpe⟩ : ∃ b, (h.pre == []) = b := ⟨_, rfl⟩
  obtain ⟨oz, hoz⟩ : ∃ b, (h.off == 0) = b := ⟨_, rfl⟩
  obtain ⟨rz, hrz⟩ : ∃ b, (h.real == 0) = b := ⟨_, rfl⟩
  have hpe2 : h.pre.isEmpty = pe := by rw [← hpe]; cases h.pre <;> rfl
  have hoz2 : decide (h.off = 0) = oz := by rw [← hoz]; exact (Bool.eq_iff_iff.2 (by simp))
  have hrz2 : decide (h.real = 0) = rz := by rw [← hrz]; exact (Bool.eq_iff_iff.2 (by simp))
  rw [hpe2, hoz2, hrz2] at hl
  clear hpe2 hoz2 hrz2
  have key : (h.ty = 48 ∧ r = (oz && rz)) ∨ (h.ty = 49 ∧ r = (oz && rz)) ∨ (h.ty = 50 ∧ r = (oz && rz)) ∨ (h.ty = 53 ∧ r = (oz && rz)) ∨ (h.ty = 75 ∧ r = (oz && rz)) ∨ (h.ty = 76 ∧ r = (oz && rz)) ∨ (h.ty = 86 ∧ r = (oz && rz)) ∨ (h.ty = 77 ∧ r = (pe && (boff && breal))) ∨ (((h.ty.toNat : Int) == 48) = false ∧ ((h.ty.toNat : Int) == 49) = false ∧ ((h.ty.toNat : Int) == 50) = false ∧ ((h.ty.toNat : Int) == 53) = false ∧ ((h.ty.toNat : Int) == 75) = false ∧ ((h.ty.toNat : Int) == 76) = false ∧ ((h.ty.toNat : Int) == 86) = false ∧ ((h.ty.toNat : Int) == 77) = false ∧ r = false) := by
    have q : ∀ n : Nat, n < 256 → h.ty = UInt8.ofNat n ∨ ((h.ty.toNat : Int) == (n : Int)) = false := fun n hn => by
      rw [ty_eq _ _ hn]
      by_cases e : h.ty = UInt8.ofNat n
      · exact .inl e
      · exact .inr (decide_eq_false e)
    rcases q 48 (by omega) with e | q1
    · exact .inl ⟨e, by rw [hl, e]; rfl⟩
    rcases q 49 (by omega) with e | q2
    · exact .inr (.inl ⟨e, by rw [hl, e]; rfl⟩)
    rcases q 50 (by omega) with e | q3
    · exact .inr (.inr (.inl ⟨e, by rw [hl, e]; rfl⟩))
    rcases q 53 (by omega) with e | q4
    · exact .inr (.inr (.inr (.inl ⟨e, by rw [hl, e]; rfl⟩)))
    rcases q 75 (by omega) with e | q5
    · exact .inr (.inr (.inr (.inr (.inl ⟨e, by rw [hl, e]; rfl⟩))))
    rcases q 76 (by omega) with e | q6
    · exact .inr (.inr (.inr (.inr (.inr (.inl ⟨e, by rw [hl, e]; rfl⟩)))))
    rcases q 86 (by omega) with e | q7
    · exact .inr (.inr (.inr (.inr (.inr (.inr (.inl ⟨e, by rw [hl, e]; rfl⟩))))))
    rcases q 77 (by omega) with e | q8
    · exact .inr (.inr (.inr (.inr (.inr (.inr (.inr (.inl ⟨e, by rw [hl, e]; rfl⟩)))))))
    refine .inr (.inr (.inr (.inr (.inr (.inr (.inr (.inr ⟨q1, q2, q3, q4, q5, q6, q7, q8, ?_⟩)))))))
    rw [hl]
    replace q1 : ((h.ty.toNat : Int) == 48) = false := q1
    replace q2 : ((h.ty.toNat : Int) == 49) = false := q2
    replace q3 : ((h.ty.toNat : Int) == 50) = false := q3
    replace q4 : ((h.ty.toNat : Int) == 53) = false := q4
    replace q5 : ((h.ty.toNat : Int) == 75) = false := q5
    replace q6 : ((h.ty.toNat : Int) == 76) = false := q6
    replace q7 : ((h.ty.toNat : Int) == 86) = false := q7
    replace q8 : ((h.ty.toNat : Int) == 77) = false := q8
    simp only [q1, q2, q3, q4, q5, q6, q7, q8, Bool.or_self, Bool.false_and]
  have Wname := Lib.hid ename
  have Wlink := Lib.hid elink
  have Wpre := Lib.hid epre
  have Nmode := Lib.hid emode
  have Nuid := Lib.hid euid
  have Ngid := Lib.hid egid
  have Nsize := Lib.hid esize
  have Ntime := Lib.hid etime
  have Noff := Lib.hid eoff
  have Nreal := Lib.hid ereal
  clear ename elink epre emode euid egid esize etime eoff ereal
  clear h1 h2 h3 h4 h5 h6 h7 h8 hn hl hr
  have key2 : (∃ t : UInt8, h.ty = t ∧ r = (oz && rz) ∧ (t = 48 ∨ t = 49 ∨ t = 50 ∨ t = 53 ∨ t = 75 ∨ t = 76 ∨ t = 86)) ∨ (h.ty = 77 ∧ r = (pe && (boff && breal))) ∨ (((h.ty.toNat : Int) == 48) = false ∧ ((h.ty.toNat : Int) == 49) = false ∧ ((h.ty.toNat : Int) == 50) = false ∧ ((h.ty.toNat : Int) == 53) = false ∧ ((h.ty.toNat : Int) == 75) = false ∧ ((h.ty.toNat : Int) == 76) = false ∧ ((h.ty.toNat : Int) == 86) = false ∧ ((h.ty.toNat : Int) == 77) = false ∧ r = false) := by
    rcases key with ⟨e, k⟩ | ⟨e, k⟩ | ⟨e, k⟩ | ⟨e, k⟩ | ⟨e, k⟩ | ⟨e, k⟩ | ⟨e, k⟩ | k | k
    · exact .inl ⟨_, e, k, by decide⟩
    · exact .inl ⟨_, e, k, by decide⟩
    · exact .inl ⟨_, e, k, by decide⟩
    · exact .inl ⟨_, e, k, by decide⟩
    · exact .inl ⟨_, e, k, by decide⟩
    · exact .inl ⟨_, e, k, by decide⟩
    · exact .inl ⟨_, e, k, by decide⟩
    · exact .inr (.inl k)
    · exact .inr (.inr k)
  clear key
  have h0 := Stp.alloc (Stp.refl w) (.cells (hcells h) 76)
  have Hb := Lib.hid (Blk.new w 76 (hcells h))
  have Hs := Lib.hid hsm
  clear hsm
  obtain ⟨x0, x1, x2, x3, x4, x5, x6, x7, x8, x9, x10⟩ := hd_cells Hb.out
  rcases key2 with ⟨t, ht, hk, hor⟩ | ⟨ht, hk⟩ | ⟨q1, q2, q3, q4, q5, q6, q7, q8, hk⟩
  · rw [ht] at x8
    have Ht := Lib.hid ht
    clear ht
    rcases hor with rfl | rfl | rfl | rfl | rfl | rfl | rfl
    all_goals (cases oz <;> cases rz)
    all_goals subst hk
    all_goals go_enter Tryz.func111, Tryz.ntmps111
    all_goals go_wp2_with (first
    | (go_at_call 148; (with_reducible refine (rword_i h.name 100 100 rfl Hs.out.name _).mono ?_); rintro e w' ⟨rfl, hs⟩; rw [Wname.out]; replace Hb := Lib.hid (Hb.out.keep hs Hb.out.lt); replace h0 := Stp.trans h0 hs; clear hs; clear x0 x1 x2 x3 x4 x5 x6 x7 x8 x9 x10; obtain ⟨x0, x1, x2, x3, x4, x5, x6, x7, x8, x9, x10⟩ := hd_cells Hb.out; rw [Ht.out] at x8)
    | (go_at_call 148; (with_reducible refine (rword_i h.link 100 100 rfl Hs.out.link _).mono ?_); rintro e w' ⟨rfl, hs⟩; rw [Wlink.out]; replace Hb := Lib.hid (Hb.out.keep hs Hb.out.lt); replace h0 := Stp.trans h0 hs; clear hs; clear x0 x1 x2 x3 x4 x5 x6 x7 x8 x9 x10; obtain ⟨x0, x1, x2, x3, x4, x5, x6, x7, x8, x9, x10⟩ := hd_cells Hb.out; rw [Ht.out] at x8)
    | (go_at_call 148; (with_reducible refine (rword_i h.pre 155 155 rfl Hs.out.pre _).mono ?_); rintro e w' ⟨rfl, hs⟩; rw [Wpre.out]; replace Hb := Lib.hid (Hb.out.keep hs Hb.out.lt); replace h0 := Stp.trans h0 hs; clear hs; clear x0 x1 x2 x3 x4 x5 x6 x7 x8 x9 x10; obtain ⟨x0, x1, x2, x3, x4, x5, x6, x7, x8, x9, x10⟩ := hd_cells Hb.out; rw [Ht.out] at x8)
    | (go_at_call 149; (with_reducible refine (rfits_s h.mode 8 Hs.out.mode _).mono ?_); rintro e w' ⟨rfl, hs⟩; rw [Nmode.out]; replace Hb := Lib.hid (Hb.out.keep hs Hb.out.lt); replace h0 := Stp.trans h0 hs; clear hs; clear x0 x1 x2 x3 x4 x5 x6 x7 x8 x9 x10; obtain ⟨x0, x1, x2, x3, x4, x5, x6, x7, x8, x9, x10⟩ := hd_cells Hb.out; rw [Ht.out] at x8)
    | (go_at_call 149; (with_reducible refine (rfits_s h.uid 8 Hs.out.uid _).mono ?_); rintro e w' ⟨rfl, hs⟩; rw [Nuid.out]; replace Hb := Lib.hid (Hb.out.keep hs Hb.out.lt); replace h0 := Stp.trans h0 hs; clear hs; clear x0 x1 x2 x3 x4 x5 x6 x7 x8 x9 x10; obtain ⟨x0, x1, x2, x3, x4, x5, x6, x7, x8, x9, x10⟩ := hd_cells Hb.out; rw [Ht.out] at x8)
    | (go_at_call 149; (with_reducible refine (rfits_s h.gid 8 Hs.out.gid _).mono ?_); rintro e w' ⟨rfl, hs⟩; rw [Ngid.out]; replace Hb := Lib.hid (Hb.out.keep hs Hb.out.lt); replace h0 := Stp.trans h0 hs; clear hs; clear x0 x1 x2 x3 x4 x5 x6 x7 x8 x9 x10; obtain ⟨x0, x1, x2, x3, x4, x5, x6, x7, x8, x9, x10⟩ := hd_cells Hb.out; rw [Ht.out] at x8)
    | (go_at_call 149; (with_reducible refine (rfits_s h.size 12 Hs.out.size _).mono ?_); rintro e w' ⟨rfl, hs⟩; rw [Nsize.out]; replace Hb := Lib.hid (Hb.out.keep hs Hb.out.lt); replace h0 := Stp.trans h0 hs; clear hs; clear x0 x1 x2 x3 x4 x5 x6 x7 x8 x9 x10; obtain ⟨x0, x1, x2, x3, x4, x5, x6, x7, x8, x9, x10⟩ := hd_cells Hb.out; rw [Ht.out] at x8)
    | (go_at_call 149; (with_reducible refine (rfits_s h.time 12 Hs.out.time _).mono ?_); rintro e w' ⟨rfl, hs⟩; rw [Ntime.out]; replace Hb := Lib.hid (Hb.out.keep hs Hb.out.lt); replace h0 := Stp.trans h0 hs; clear hs; clear x0 x1 x2 x3 x4 x5 x6 x7 x8 x9 x10; obtain ⟨x0, x1, x2, x3, x4, x5, x6, x7, x8, x9, x10⟩ := hd_cells Hb.out; rw [Ht.out] at x8)
    | (go_at_call 149; (with_reducible refine (rfits_s h.off 12 Hs.out.off _).mono ?_); rintro e w' ⟨rfl, hs⟩; rw [Noff.out]; replace Hb := Lib.hid (Hb.out.keep hs Hb.out.lt); replace h0 := Stp.trans h0 hs; clear hs; clear x0 x1 x2 x3 x4 x5 x6 x7 x8 x9 x10; obtain ⟨x0, x1, x2, x3, x4, x5, x6, x7, x8, x9, x10⟩ := hd_cells Hb.out; rw [Ht.out] at x8)
    | (go_at_call 149; (with_reducible refine (rfits_s h.real 12 Hs.out.real _).mono ?_); rintro e w' ⟨rfl, hs⟩; rw [Nreal.out]; replace Hb := Lib.hid (Hb.out.keep hs Hb.out.lt); replace h0 := Stp.trans h0 hs; clear hs; clear x0 x1 x2 x3 x4 x5 x6 x7 x8 x9 x10; obtain ⟨x0, x1, x2, x3, x4, x5, x6, x7, x8, x9, x10⟩ := hd_cells Hb.out; rw [Ht.out] at x8))
    all_goals go_ret
    all_goals exact ⟨rfl, h0⟩
  · rw [ht] at x8
    have Ht := Lib.hid ht
    clear ht
    cases pe <;> cases boff <;> cases breal
    all_goals subst hk
    all_goals go_enter Tryz.func111, Tryz.ntmps111
    all_goals go_wp2_with (first
    | (go_at_call 148; (with_reducible refine (rword_i h.name 100 100 rfl Hs.out.name _).mono ?_); rintro e w' ⟨rfl, hs⟩; rw [Wname.out]; replace Hb := Lib.hid (Hb.out.keep hs Hb.out.lt); replace h0 := Stp.trans h0 hs; clear hs; clear x0 x1 x2 x3 x4 x5 x6 x7 x8 x9 x10; obtain ⟨x0, x1, x2, x3, x4, x5, x6, x7, x8, x9, x10⟩ := hd_cells Hb.out; rw [Ht.out] at x8)
    | (go_at_call 148; (with_reducible refine (rword_i h.link 100 100 rfl Hs.out.link _).mono ?_); rintro e w' ⟨rfl, hs⟩; rw [Wlink.out]; replace Hb := Lib.hid (Hb.out.keep hs Hb.out.lt); replace h0 := Stp.trans h0 hs; clear hs; clear x0 x1 x2 x3 x4 x5 x6 x7 x8 x9 x10; obtain ⟨x0, x1, x2, x3, x4, x5, x6, x7, x8, x9, x10⟩ := hd_cells Hb.out; rw [Ht.out] at x8)
    | (go_at_call 148; (with_reducible refine (rword_i h.pre 155 155 rfl Hs.out.pre _).mono ?_); rintro e w' ⟨rfl, hs⟩; rw [Wpre.out]; replace Hb := Lib.hid (Hb.out.keep hs Hb.out.lt); replace h0 := Stp.trans h0 hs; clear hs; clear x0 x1 x2 x3 x4 x5 x6 x7 x8 x9 x10; obtain ⟨x0, x1, x2, x3, x4, x5, x6, x7, x8, x9, x10⟩ := hd_cells Hb.out; rw [Ht.out] at x8)
    | (go_at_call 149; (with_reducible refine (rfits_s h.mode 8 Hs.out.mode _).mono ?_); rintro e w' ⟨rfl, hs⟩; rw [Nmode.out]; replace Hb := Lib.hid (Hb.out.keep hs Hb.out.lt); replace h0 := Stp.trans h0 hs; clear hs; clear x0 x1 x2 x3 x4 x5 x6 x7 x8 x9 x10; obtain ⟨x0, x1, x2, x3, x4, x5, x6, x7, x8, x9, x10⟩ := hd_cells Hb.out; rw [Ht.out] at x8)
    | (go_at_call 149; (with_reducible refine (rfits_s h.uid 8 Hs.out.uid _).mono ?_); rintro e w' ⟨rfl, hs⟩; rw [Nuid.out]; replace Hb := Lib.hid (Hb.out.keep hs Hb.out.lt); replace h0 := Stp.trans h0 hs; clear hs; clear x0 x1 x2 x3 x4 x5 x6 x7 x8 x9 x10; obtain ⟨x0, x1, x2, x3, x4, x5, x6, x7, x8, x9, x10⟩ := hd_cells Hb.out; rw [Ht.out] at x8)
    | (go_at_call 149; (with_reducible refine (rfits_s h.gid 8 Hs.out.gid _).mono ?_); rintro e w' ⟨rfl, hs⟩; rw [Ngid.out]; replace Hb := Lib.hid (Hb.out.keep hs Hb.out.lt); replace h0 := Stp.trans h0 hs; clear hs; clear x0 x1 x2 x3 x4 x5 x6 x7 x8 x9 x10; obtain ⟨x0, x1, x2, x3, x4, x5, x6, x7, x8, x9, x10⟩ := hd_cells Hb.out; rw [Ht.out] at x8)
    | (go_at_call 149; (with_reducible refine (rfits_s h.size 12 Hs.out.size _).mono ?_); rintro e w' ⟨rfl, hs⟩; rw [Nsize.out]; replace Hb := Lib.hid (Hb.out.keep hs Hb.out.lt); replace h0 := Stp.trans h0 hs; clear hs; clear x0 x1 x2 x3 x4 x5 x6 x7 x8 x9 x10; obtain ⟨x0, x1, x2, x3, x4, x5, x6, x7, x8, x9, x10⟩ := hd_cells Hb.out; rw [Ht.out] at x8)
    | (go_at_call 149; (with_reducible refine (rfits_s h.time 12 Hs.out.time _).mono ?_); rintro e w' ⟨rfl, hs⟩; rw [Ntime.out]; replace Hb := Lib.hid (Hb.out.keep hs Hb.out.lt); replace h0 := Stp.trans h0 hs; clear hs; clear x0 x1 x2 x3 x4 x5 x6 x7 x8 x9 x10; obtain ⟨x0, x1, x2, x3, x4, x5, x6, x7, x8, x9, x10⟩ := hd_cells Hb.out; rw [Ht.out] at x8)
    | (go_at_call 149; (with_reducible refine (rfits_s h.off 12 Hs.out.off _).mono ?_); rintro e w' ⟨rfl, hs⟩; rw [Noff.out]; replace Hb := Lib.hid (Hb.out.keep hs Hb.out.lt); replace h0 := Stp.trans h0 hs; clear hs; clear x0 x1 x2 x3 x4 x5 x6 x7 x8 x9 x10; obtain ⟨x0, x1, x2, x3, x4, x5, x6, x7, x8, x9, x10⟩ := hd_cells Hb.out; rw [Ht.out] at x8)
    | (go_at_call 149; (with_reducible refine (rfits_s h.real 12 Hs.out.real _).mono ?_); rintro e w' ⟨rfl, hs⟩; rw [Nreal.out]; replace Hb := Lib.hid (Hb.out.keep hs Hb.out.lt); replace h0 := Stp.trans h0 hs; clear hs; clear x0 x1 x2 x3 x4 x5 x6 x7 x8 x9 x10; obtain ⟨x0, x1, x2, x3, x4, x5, x6, x7, x8, x9, x10⟩ := hd_cells Hb.out; rw [Ht.out] at x8))
    all_goals go_ret
    all_goals exact ⟨rfl, h0⟩
  · subst hk
    go_enter Tryz.func111, Tryz.ntmps111
    go_wp2_with (first
    | (go_at_call 148; (with_reducible refine (rword_i h.name 100 100 rfl Hs.out.name _).mono ?_); rintro e w' ⟨rfl, hs⟩; rw [Wname.out]; replace Hb := Lib.hid (Hb.out.keep hs Hb.out.lt); replace h0 := Stp.trans h0 hs; clear hs; clear x0 x1 x2 x3 x4 x5 x6 x7 x8 x9 x10; obtain ⟨x0, x1, x2, x3, x4, x5, x6, x7, x8, x9, x10⟩ := hd_cells Hb.out)
    | (go_at_call 148; (with_reducible refine (rword_i h.link 100 100 rfl Hs.out.link _).mono ?_); rintro e w' ⟨rfl, hs⟩; rw [Wlink.out]; replace Hb := Lib.hid (Hb.out.keep hs Hb.out.lt); replace h0 := Stp.trans h0 hs; clear hs; clear x0 x1 x2 x3 x4 x5 x6 x7 x8 x9 x10; obtain ⟨x0, x1, x2, x3, x4, x5, x6, x7, x8, x9, x10⟩ := hd_cells Hb.out)
    | (go_at_call 148; (with_reducible refine (rword_i h.pre 155 155 rfl Hs.out.pre _).mono ?_); rintro e w' ⟨rfl, hs⟩; rw [Wpre.out]; replace Hb := Lib.hid (Hb.out.keep hs Hb.out.lt); replace h0 := Stp.trans h0 hs; clear hs; clear x0 x1 x2 x3 x4 x5 x6 x7 x8 x9 x10; obtain ⟨x0, x1, x2, x3, x4, x5, x6, x7, x8, x9, x10⟩ := hd_cells Hb.out)
    | (go_at_call 149; (with_reducible refine (rfits_s h.mode 8 Hs.out.mode _).mono ?_); rintro e w' ⟨rfl, hs⟩; rw [Nmode.out]; replace Hb := Lib.hid (Hb.out.keep hs Hb.out.lt); replace h0 := Stp.trans h0 hs; clear hs; clear x0 x1 x2 x3 x4 x5 x6 x7 x8 x9 x10; obtain ⟨x0, x1, x2, x3, x4, x5, x6, x7, x8, x9, x10⟩ := hd_cells Hb.out)
    | (go_at_call 149; (with_reducible refine (rfits_s h.uid 8 Hs.out.uid _).mono ?_); rintro e w' ⟨rfl, hs⟩; rw [Nuid.out]; replace Hb := Lib.hid (Hb.out.keep hs Hb.out.lt); replace h0 := Stp.trans h0 hs; clear hs; clear x0 x1 x2 x3 x4 x5 x6 x7 x8 x9 x10; obtain ⟨x0, x1, x2, x3, x4, x5, x6, x7, x8, x9, x10⟩ := hd_cells Hb.out)
    | (go_at_call 149; (with_reducible refine (rfits_s h.gid 8 Hs.out.gid _).mono ?_); rintro e w' ⟨rfl, hs⟩; rw [Ngid.out]; replace Hb := Lib.hid (Hb.out.keep hs Hb.out.lt); replace h0 := Stp.trans h0 hs; clear hs; clear x0 x1 x2 x3 x4 x5 x6 x7 x8 x9 x10; obtain ⟨x0, x1, x2, x3, x4, x5, x6, x7, x8, x9, x10⟩ := hd_cells Hb.out)
    | (go_at_call 149; (with_reducible refine (rfits_s h.size 12 Hs.out.size _).mono ?_); rintro e w' ⟨rfl, hs⟩; rw [Nsize.out]; replace Hb := Lib.hid (Hb.out.keep hs Hb.out.lt); replace h0 := Stp.trans h0 hs; clear hs; clear x0 x1 x2 x3 x4 x5 x6 x7 x8 x9 x10; obtain ⟨x0, x1, x2, x3, x4, x5, x6, x7, x8, x9, x10⟩ := hd_cells Hb.out)
    | (go_at_call 149; (with_reducible refine (rfits_s h.time 12 Hs.out.time _).mono ?_); rintro e w' ⟨rfl, hs⟩; rw [Ntime.out]; replace Hb := Lib.hid (Hb.out.keep hs Hb.out.lt); replace h0 := Stp.trans h0 hs; clear hs; clear x0 x1 x2 x3 x4 x5 x6 x7 x8 x9 x10; obtain ⟨x0, x1, x2, x3, x4, x5, x6, x7, x8, x9, x10⟩ := hd_cells Hb.out)
    | (go_at_call 149; (with_reducible refine (rfits_s h.off 12 Hs.out.off _).mono ?_); rintro e w' ⟨rfl, hs⟩; rw [Noff.out]; replace Hb := Lib.hid (Hb.out.keep hs Hb.out.lt); replace h0 := Stp.trans h0 hs; clear hs; clear x0 x1 x2 x3 x4 x5 x6 x7 x8 x9 x10; obtain ⟨x0, x1, x2, x3, x4, x5, x6, x7, x8, x9, x10⟩ := hd_cells Hb.out)
    | (go_at_call 149; (with_reducible refine (rfits_s h.real 12 Hs.out.real _).mono ?_); rintro e w' ⟨rfl, hs⟩; rw [Nreal.out]; replace Hb := Lib.hid (Hb.out.keep hs Hb.out.lt); replace h0 := Stp.trans h0 hs; clear hs; clear x0 x1 x2 x3 x4 x5 x6 x7 x8 x9 x10; obtain ⟨x0, x1, x2, x3, x4, x5, x6, x7, x8, x9, x10⟩ := hd_cells Hb.out))
    go_ret
    exact ⟨rfl, h0⟩
end Go.Proofs.YtopihahjjcpnpaaGreatDoor.Head

namespace Go.Proofs.YtopihahjjcpnpaaGreatDoor.Head
open Go.RowKit Go.Proofs.YtopihahjjcpnpaaGreatDoor.Base Go.Proofs.YtopihahjjcpnpaaGreatDoor.NumM Go.Proofs.YtopihahjjcpnpaaGreatDoor.Num

set_option linter.unusedSimpArgs false in
set_option maxHeartbeats 8000000 in
set_option maxRecDepth 100000 in
theorem rputH_m (h : Hd) (hs : SmallH h) (hmay : ∀ w : World, Calls Tryz.prog 111 #[hv h] w fun e w' => e = .returned (.bool (mayH h)) ∧ Stp w w') (w : World) (hm : mayH h = true) (ht : h.ty = 77) :
    Calls Tryz.prog 73 #[hv h] w fun e w' => ∃ A cap, e = .returned (.tuple #[.slice A 512 cap, .bool true]) ∧ RdA w' A cap (bs (blk h)) ∧ Stp w w' := by
  have Hmay := Lib.hid hmay
  clear hmay
  have h0 := Stp.refl w
  have f := mayF hm
  have Hf := Lib.hid f
  have Hs := Lib.hid hs
  have Hm := Lib.hid hm
  have Ht := Lib.hid ht
  obtain ⟨B0, e0⟩ : ∃ B, lay (zeros 512) 0 h.name = B := ⟨_, rfl⟩
  have E0 := Lib.hid e0
  have L0 := Lib.hid (show B0.length = 512 by rw [← e0, lay_length (by rw [zeros_length 512]; have := f.name; omega), zeros_length 512])
  obtain ⟨B1, e1⟩ : ∃ B, lay B0 100 (putV h.mode 8) = B := ⟨_, rfl⟩
  have E1 := Lib.hid e1
  have L1 := Lib.hid (show B1.length = 512 by rw [← e1, lay_length (by rw [L0.out]; have q := putV_length (w := 8) f.mode; have q2 : (putV h.mode 8).length = 8 := q; omega), L0.out])
  obtain ⟨B2, e2⟩ : ∃ B, lay B1 108 (putV h.uid 8) = B := ⟨_, rfl⟩
  have E2 := Lib.hid e2
  have L2 := Lib.hid (show B2.length = 512 by rw [← e2, lay_length (by rw [L1.out]; have q := putV_length (w := 8) f.uid; have q2 : (putV h.uid 8).length = 8 := q; omega), L1.out])
  obtain ⟨B3, e3⟩ : ∃ B, lay B2 116 (putV h.gid 8) = B := ⟨_, rfl⟩
  have E3 := Lib.hid e3
  have L3 := Lib.hid (show B3.length = 512 by rw [← e3, lay_length (by rw [L2.out]; have q := putV_length (w := 8) f.gid; have q2 : (putV h.gid 8).length = 8 := q; omega), L2.out])
  obtain ⟨B4, e4⟩ : ∃ B, lay B3 124 (putV h.size 12) = B := ⟨_, rfl⟩
  have E4 := Lib.hid e4
  have L4 := Lib.hid (show B4.length = 512 by rw [← e4, lay_length (by rw [L3.out]; have q := putV_length (w := 12) f.size; have q2 : (putV h.size 12).length = 12 := q; omega), L3.out])
  obtain ⟨B5, e5⟩ : ∃ B, lay B4 136 (putV h.time 12) = B := ⟨_, rfl⟩
  have E5 := Lib.hid e5
  have L5 := Lib.hid (show B5.length = 512 by rw [← e5, lay_length (by rw [L4.out]; have q := putV_length (w := 12) f.time; have q2 : (putV h.time 12).length = 12 := q; omega), L4.out])
  obtain ⟨B6, e6⟩ : ∃ B, lay B5 156 [h.ty] = B := ⟨_, rfl⟩
  have E6 := Lib.hid e6
  have L6 := Lib.hid (show B6.length = 512 by rw [← e6, lay_length (by rw [L5.out]; simp), L5.out])
  obtain ⟨B7, e7⟩ : ∃ B, lay B6 157 h.link = B := ⟨_, rfl⟩
  have E7 := Lib.hid e7
  have L7 := Lib.hid (show B7.length = 512 by rw [← e7, lay_length (by rw [L6.out]; have := f.link; omega), L6.out])
  obtain ⟨B8, e8⟩ : ∃ B, lay B7 257 magic = B := ⟨_, rfl⟩
  have E8 := Lib.hid e8
  have L8 := Lib.hid (show B8.length = 512 by rw [← e8, lay_length (by rw [L7.out]; decide), L7.out])
  obtain ⟨B9, e9⟩ : ∃ B, lay B8 369 (putV h.off 12) = B := ⟨_, rfl⟩
  have E9 := Lib.hid e9
  have L9 := Lib.hid (show B9.length = 512 by rw [← e9, lay_length (by rw [L8.out]; have q := putV_length (w := 12) (f.more ht).2.1; have q2 : (putV h.off 12).length = 12 := q; omega), L8.out])
  obtain ⟨B10, e10⟩ : ∃ B, lay B9 483 (putV h.real 12) = B := ⟨_, rfl⟩
  have E10 := Lib.hid e10
  have L10 := Lib.hid (show B10.length = 512 by rw [← e10, lay_length (by rw [L9.out]; have q := putV_length (w := 12) (f.more ht).2.2; have q2 : (putV h.real 12).length = 12 := q; omega), L9.out])
  have hraw : B10 = rawH h := by
    rw [← e10, ← e9, ← e8, ← e7, ← e6, ← e5, ← e4, ← e3, ← e2, ← e1, ← e0]
    exact rraw_m hm ht
  have hfin : lay B10 148 (sumT B10) = blk h := by rw [hraw]; rfl
  have Hfin := Lib.hid hfin
  have HEl := Lib.hid (show (blk h).length = 512 by rw [← hfin, lay_length (by rw [sumT_length, L10.out]; omega), L10.out])
  have g77 : ((h.ty.toNat : Int) == 77) = true := by rw [is77]; exact decide_eq_true ht
  have Hb0 := Lib.hid (Blk.new w 76 (hcells h))
  obtain ⟨hb, hhb⟩ : ∃ b, w.heap.size = b := ⟨_, rfl⟩
  rw [hhb] at Hb0
  clear e0 e1 e2 e3 e4 e5 e6 e7 e8 e9 e10 hraw hfin hm hs ht f
  go_enter Tryz.func73, Tryz.ntmps73
  go_wp2_with (go_at_call 111; refine (Hmay.out _).mono ?_; rintro e w1 ⟨rfl, hs⟩; have H1 := Lib.hid (Stp.trans (Stp.alloc h0 (.cells (hcells h) 76)) hs); have Hb1 := Lib.hid (Hb0.out.keep hs Hb0.out.lt); clear hs Hb0; rw [Hm.out])
  have key : ∀ W, Stp w1 W → W.cell? ⟨hb, 0, none⟩ = some (.string ⟨h.name.toArray⟩) := fun W hW => (hd_cells (Hb1.out.keep hW Hb1.out.lt)).1
  have Key := Lib.hid key
  clear key
  refine wp_region_held_drew (S := fun W : World => W.cell? ⟨hb, 0, none⟩ = some (.string ⟨h.name.toArray⟩)) (by kernel_rfl) (Key.out _ (stp_drew (Stp.refl w1))) (fun hHeld => ?_)
  refine wpAnyH_take (i := 1) (v := ?v1) rfl (by kernel_rfl) (by kernel_rfl) (by kernel_rfl) (fun _ _ _ h => h) (Or.inl ⟨by rfl, ?hy1⟩) (by assumption) ?rest1
  case hy1 => (intro w hSw; (try dsimp only at hSw); go_simp; try with_reducible rfl)
  try simp only [Act.put, List.setIfInBounds_toArray, List.set_cons_zero, List.set_cons_succ]
  refine wpAnyH_take (i := 2) (v := ?v2) rfl (by kernel_rfl) (by kernel_rfl) (by kernel_rfl) (fun _ _ _ h => h) (Or.inl ⟨by rfl, ?hy2⟩) (by assumption) ?rest2
  case hy2 => (intro w hSw; (try dsimp only at hSw); go_simp; try with_reducible rfl)
  try simp only [Act.put, List.setIfInBounds_toArray, List.set_cons_zero, List.set_cons_succ]
  refine wpAnyH_ready (rs := [0, 3]) (by kernel_rfl) (by simp) ?_
  refine AllReadyH.cons rfl (fun K hK => ?_) (AllReadyH.cons rfl (fun K hK => ?_) AllReadyH.nil)
  · rw [if_pos (by rfl)]
    refine opwp_make _ _ _ _ rfl 5 (.int .u8 0) 1 Tryz.underlying43 byte_info rfl .i64 .i64 _ 512 rfl rfl rfl (by omega) (by unfold maxLen; omega) ?_
    intro w2 hb2 _ hg2
    have hbg : hb < w1.drew.heap.size := Hb1.out.lt
    have hl1 : w1.heap.size ≤ w1.drew.heap.size := Nat.le_refl _
    have hlg : w.heap.size ≤ w1.drew.heap.size := H1.out.size
    generalize w1.drew.heap.size = g at hb2 hbg hlg hl1 ⊢
    have hne : hb ≠ g := Nat.ne_of_lt hbg
    have T2 := Lib.hid (Stp.trans (stp_drew (Stp.refl w1)) (stp_none hg2))
    have Hb2 := Lib.hid hb2
    clear hb2 hg2 hbg
    refine hK.out _ _ (Key.out _ (T2.out)) (fun hHeld2 => ?_)
    clear hK K hHeld
    have hHeld := hHeld2
    clear hHeld2
    try simp only [Act.put, List.setIfInBounds_toArray, List.set_cons_zero, List.set_cons_succ]
    refine wpAnyH_ready (rs := [3]) (by kernel_rfl) (by simp) ?_
    refine AllReadyH.cons rfl (fun K hK => ?_) AllReadyH.nil
    rw [if_pos (by rfl)]
    refine opwp_bytes _ 9 43 (.tmp 12) rfl 5 Tryz.underlying9 Tryz.underlying43 Tryz.underlying5 _ rfl (by show h.name.toArray.size ≤ maxLen; rw [List.size_toArray]; have := Hf.out.name; unfold maxLen; omega) ?_
    intro v w3 hv hg3
    obtain ⟨A, c, rfl, hr, ho⟩ := own_lay2 (show Base.Own w3 w2.heap.size 5 v (bs h.name) by simpa using hv)
    have T3 := Lib.hid (Stp.trans T2.out (stp_none hg3))
    have Hd3 := Lib.hid (show Blk w3 g 5 (bs (zeros 512)).toArray by rw [bs_zeros]; exact Hb2.out.grown hg3 (by simp))
    have Hb3 := Lib.hid (Hb1.out.keep T3.out Hb1.out.lt)
    have H3 := Lib.hid (Stp.trans H1.out T3.out)
    have Hr := Lib.hid hr
    have Hne := Lib.hid (show ∀ a, A = some a → a.block ≠ g from fun a ha => Nat.ne_of_gt (Nat.lt_of_lt_of_le Hb2.out.lt (ho a ha).1))
    clear hv hg3 hr ho T2 Hb2
    refine hK.out _ _ (Key.out _ (T3.out)) (fun hHeld2 => ?_)
    clear hK K hHeld
    have hHeld := hHeld2
    clear hHeld2
    try simp only [Act.put, List.setIfInBounds_toArray, List.set_cons_zero, List.set_cons_succ]
    refine wpAnyH_ready (rs := [4]) (by kernel_rfl) (by simp) ?_
    refine AllReadyH.cons rfl (fun K hK => ?_) AllReadyH.nil
    go_simp
    refine (rlay_i g 0 0 rfl (zeros 512) h.name A _ c rfl w3 Hd3.out (zeros_length 512) (by have := Hf.out.name; omega) Hr.out Hne.out).mono ?_
    rintro e w4 ⟨rfl, h4, h5⟩
    rw [E0.out] at h4
    have Hd := Lib.hid h4
    have Hb := Lib.hid (Hb3.out.grown h5 (fun q => hne (Option.some.inj q)))
    have H := Lib.hid (stp_at H3.out h5 hlg)
    have T4 := Lib.hid (stp_at T3.out h5 hl1)
    clear h4 h5
    go_wp2_with fail
    refine hK.out _ _ (Key.out _ (T4.out)) (fun hHeld2 => ?_)
    clear hK K hHeld
    have hHeld := hHeld2
    clear hHeld2
    try simp only [Act.put, List.setIfInBounds_toArray, List.set_cons_zero, List.set_cons_succ]
    refine wpAnyH_take (i := 5) (v := ?v5a) rfl (by kernel_rfl) (by kernel_rfl) (by kernel_rfl) (fun _ _ _ h => h) (Or.inl ⟨by rfl, ?hy5a⟩) (by assumption) ?rest5a
    case hy5a => (intro w hSw; (try dsimp only at hSw); go_simp; try with_reducible rfl)
    try simp only [Act.put, List.setIfInBounds_toArray, List.set_cons_zero, List.set_cons_succ]
    refine wpAnyH_done (by kernel_rfl) ?_ _
    clear hHeld Key Hd3 Hb3 H3 T3 T4 Hr Hne hl1 Hb1 H1
    obtain ⟨x0, x1, x2, x3, x4, x5, x6, x7, x8, x9, x10⟩ := hd_cells Hb.out
    go_wp2_with (first
      | (go_at_call 113; (with_reducible refine (rnumber_i g 100 8 100 8 rfl rfl h.mode Hs.out.mode Hf.out.mode B0 _ Hd.out L0.out (by omega)).mono ?_); rintro e w' ⟨rfl, hd, hg⟩; rw [E1.out] at hd; replace Hd := Lib.hid hd; replace Hb := Lib.hid (Hb.out.grown hg (fun q => hne (Option.some.inj q))); replace H := Lib.hid (stp_at H.out hg hlg); clear hd hg; clear x0 x1 x2 x3 x4 x5 x6 x7 x8 x9 x10; obtain ⟨x0, x1, x2, x3, x4, x5, x6, x7, x8, x9, x10⟩ := hd_cells Hb.out)
      | (go_at_call 113; (with_reducible refine (rnumber_i g 108 8 108 8 rfl rfl h.uid Hs.out.uid Hf.out.uid B1 _ Hd.out L1.out (by omega)).mono ?_); rintro e w' ⟨rfl, hd, hg⟩; rw [E2.out] at hd; replace Hd := Lib.hid hd; replace Hb := Lib.hid (Hb.out.grown hg (fun q => hne (Option.some.inj q))); replace H := Lib.hid (stp_at H.out hg hlg); clear hd hg; clear x0 x1 x2 x3 x4 x5 x6 x7 x8 x9 x10; obtain ⟨x0, x1, x2, x3, x4, x5, x6, x7, x8, x9, x10⟩ := hd_cells Hb.out)
      | (go_at_call 113; (with_reducible refine (rnumber_i g 116 8 116 8 rfl rfl h.gid Hs.out.gid Hf.out.gid B2 _ Hd.out L2.out (by omega)).mono ?_); rintro e w' ⟨rfl, hd, hg⟩; rw [E3.out] at hd; replace Hd := Lib.hid hd; replace Hb := Lib.hid (Hb.out.grown hg (fun q => hne (Option.some.inj q))); replace H := Lib.hid (stp_at H.out hg hlg); clear hd hg; clear x0 x1 x2 x3 x4 x5 x6 x7 x8 x9 x10; obtain ⟨x0, x1, x2, x3, x4, x5, x6, x7, x8, x9, x10⟩ := hd_cells Hb.out)
      | (go_at_call 113; (with_reducible refine (rnumber_i g 124 12 124 12 rfl rfl h.size Hs.out.size Hf.out.size B3 _ Hd.out L3.out (by omega)).mono ?_); rintro e w' ⟨rfl, hd, hg⟩; rw [E4.out] at hd; replace Hd := Lib.hid hd; replace Hb := Lib.hid (Hb.out.grown hg (fun q => hne (Option.some.inj q))); replace H := Lib.hid (stp_at H.out hg hlg); clear hd hg; clear x0 x1 x2 x3 x4 x5 x6 x7 x8 x9 x10; obtain ⟨x0, x1, x2, x3, x4, x5, x6, x7, x8, x9, x10⟩ := hd_cells Hb.out)
      | (go_at_call 113; (with_reducible refine (rnumber_i g 136 12 136 12 rfl rfl h.time Hs.out.time Hf.out.time B4 _ Hd.out L4.out (by omega)).mono ?_); rintro e w5 ⟨rfl, hd, hg⟩; rw [E5.out] at hd; replace Hd := Lib.hid hd; replace Hb := Lib.hid (Hb.out.grown hg (fun q => hne (Option.some.inj q))); replace H := Lib.hid (stp_at H.out hg hlg); clear hd hg; clear x0 x1 x2 x3 x4 x5 x6 x7 x8 x9 x10; obtain ⟨x0, x1, x2, x3, x4, x5, x6, x7, x8, x9, x10⟩ := hd_cells Hb.out; obtain ⟨z, c156⟩ : ∃ z, w5.cell? ⟨g, 156, none⟩ = some z := ⟨_, by rw [Hd.out.cell]; exact Array.getElem?_eq_getElem (by simp [bs_length, L5.out])⟩; have f156 := Hd.out.free 156; obtain ⟨-, y1, y2, -, -, -, -, -, y8, -, -⟩ := hd_cells (Hb.out.far (p := ⟨g, 156, none⟩) hne (.int .u8 (h.ty.toNat : Int))); clear x0 x1 x2 x3 x4 x5 x6 x7 x9 x10)
      | (refine wpList_bytes (P := Tryz.prog) (o := ⟨some 42, _, _, _, _, _⟩) _ rfl 9 43 (.tmp 41) rfl 5 Tryz.underlying9 Tryz.underlying43 Tryz.underlying5 _ rfl (by show h.link.toArray.size ≤ maxLen; rw [List.size_toArray]; have := Hf.out.link; unfold maxLen; omega) ?_; intro v w6 hv hgv hat; clear hat; obtain ⟨A7, c7, rfl, hr7, ho7⟩ := own_lay2 (show Base.Own w6 w5.heap.size 5 v (bs h.link) by simpa using hv); have Hr7 := Lib.hid hr7; have hds := Hd.out.put 156 (.int .u8 (h.ty.toNat : Int)); have Hne7 := Lib.hid (show ∀ a, A7 = some a → a.block ≠ g from fun a ha => Nat.ne_of_gt (Nat.lt_of_lt_of_le Hd.out.lt (ho7 a ha).1)); clear hr7 ho7; replace hds := hds.grown hgv (by simp); rw [bs_set, ← lay_one _ (by rw [L5.out]; omega), E6.out] at hds; replace Hd := Lib.hid hds; clear hds; replace H := Lib.hid (Stp.trans (show Stp w (w5.setCell ⟨g, 156, none⟩ (.int .u8 (h.ty.toNat : Int))) from Below.setCell H.out (p := ⟨g, 156, none⟩) hlg _) (stp_none hgv)); replace Hb := Lib.hid ((Hb.out.far (p := ⟨g, 156, none⟩) hne (.int .u8 (h.ty.toNat : Int))).grown hgv (by simp)); clear c156 f156 y1 y2 y8 x8; obtain ⟨x0, x1, x2, x3, x4, x5, x6, x7, x8, x9, x10⟩ := hd_cells Hb.out; clear hv hgv)
      | (go_at_call 112; (with_reducible refine (rlay_i g 157 157 rfl B6 h.link A7 _ c7 rfl _ Hd.out L6.out (by have := Hf.out.link; omega) Hr7.out Hne7.out).mono ?_); rintro e w7 ⟨rfl, hd, hg⟩; rw [E7.out] at hd; replace Hd := Lib.hid hd; replace Hb := Lib.hid (Hb.out.grown hg (fun q => hne (Option.some.inj q))); replace H := Lib.hid (stp_at H.out hg hlg); clear hd hg; clear x0 x1 x2 x3 x4 x5 x6 x7 x8 x9 x10; obtain ⟨x0, x1, x2, x3, x4, x5, x6, x7, x8, x9, x10⟩ := hd_cells Hb.out; clear Hr7 Hne7; have Hne8 := Lib.hid (show ∀ a, some (⟨w7.heap.size, 0, none⟩ : Addr) = some a → a.block ≠ g from fun a ha => by cases ha; exact Nat.ne_of_gt Hd.out.lt))
      | (go_at_call 112; (with_reducible refine (rlay_i g 257 257 rfl B7 magic (some ⟨w7.heap.size, 0, none⟩) 8 8 magic_len _ (Hd.out.alloc _) L7.out magic_room (rd_magic2 w7) Hne8.out).mono ?_); replace Hb := Lib.hid (Hb.out.alloc (.cells #[.int .u8 117, .int .u8 115, .int .u8 116, .int .u8 97, .int .u8 114, .int .u8 0, .int .u8 48, .int .u8 48] 5)); replace H := Lib.hid (Stp.alloc H.out (.cells #[.int .u8 117, .int .u8 115, .int .u8 116, .int .u8 97, .int .u8 114, .int .u8 0, .int .u8 48, .int .u8 48] 5)); rintro e w8 ⟨rfl, hd, hg⟩; rw [E8.out] at hd; replace Hd := Lib.hid hd; replace Hb := Lib.hid (Hb.out.grown hg (fun q => hne (Option.some.inj q))); replace H := Lib.hid (stp_at H.out hg hlg); clear hd hg; clear x0 x1 x2 x3 x4 x5 x6 x7 x8 x9 x10; obtain ⟨x0, x1, x2, x3, x4, x5, x6, x7, x8, x9, x10⟩ := hd_cells Hb.out; clear Hne8)
      | (go_at_call 113; (with_reducible refine (rnumber_i g 369 12 369 12 rfl rfl h.off Hs.out.off (Hf.out.more Ht.out).2.1 B8 _ Hd.out L8.out (by omega)).mono ?_); rintro e w' ⟨rfl, hd, hg⟩; rw [E9.out] at hd; replace Hd := Lib.hid hd; replace Hb := Lib.hid (Hb.out.grown hg (fun q => hne (Option.some.inj q))); replace H := Lib.hid (stp_at H.out hg hlg); clear hd hg; clear x0 x1 x2 x3 x4 x5 x6 x7 x8 x9 x10; obtain ⟨x0, x1, x2, x3, x4, x5, x6, x7, x8, x9, x10⟩ := hd_cells Hb.out)
      | (go_at_call 113; (with_reducible refine (rnumber_i g 483 12 483 12 rfl rfl h.real Hs.out.real (Hf.out.more Ht.out).2.2 B9 _ Hd.out L9.out (by omega)).mono ?_); rintro e w' ⟨rfl, hd, hg⟩; rw [E10.out] at hd; replace Hd := Lib.hid hd; replace Hb := Lib.hid (Hb.out.grown hg (fun q => hne (Option.some.inj q))); replace H := Lib.hid (stp_at H.out hg hlg); clear hd hg; clear x0 x1 x2 x3 x4 x5 x6 x7 x8 x9 x10; obtain ⟨x0, x1, x2, x3, x4, x5, x6, x7, x8, x9, x10⟩ := hd_cells Hb.out)
      | (go_at_call 115; (with_reducible refine (rsum_i B10 512 L10.out _ _ _ (rdA_blk Hd.out L10.out)).mono ?_); rintro e w11 ⟨rfl, hs⟩; replace Hd := Lib.hid (Hd.out.keep hs Hd.out.lt); replace H := Lib.hid (Stp.trans H.out hs); clear hs Hb; clear x0 x1 x2 x3 x4 x5 x6 x7 x8 x9 x10)
      | (go_at_call 114; (with_reducible refine (rsign_s B10 L10.out _).mono ?_); rintro e w12 ⟨v, rfl, hv, hs⟩; obtain ⟨A12, c12, rfl, hr12, ho12⟩ := own_lay2 hv; have Hr12 := Lib.hid hr12; have Hne12 := Lib.hid (show ∀ a, A12 = some a → a.block ≠ g from fun a ha => Nat.ne_of_gt (Nat.lt_of_lt_of_le Hd.out.lt (ho12 a ha).1)); replace Hd := Lib.hid (Hd.out.keep hs Hd.out.lt); replace H := Lib.hid (Stp.trans H.out hs); clear hs hv hr12 ho12)
      | (go_at_call 112; (with_reducible refine (rlay_i g 148 148 rfl B10 (sumT B10) A12 _ c12 rfl _ Hd.out L10.out (by rw [sumT_length]; omega) Hr12.out Hne12.out).mono ?_); rintro e w13 ⟨rfl, hd, hg⟩; rw [Hfin.out] at hd; replace Hd := Lib.hid hd; replace H := Lib.hid (stp_at H.out hg hlg); clear hd hg Hr12 Hne12))
    go_ret2
    exact ⟨_, _, rfl, rdA_blk Hd.out HEl.out, H.out⟩
  · rw [if_pos (by rfl)]
    refine opwp_bytes _ 9 43 (.tmp 12) rfl 5 Tryz.underlying9 Tryz.underlying43 Tryz.underlying5 _ rfl (by show h.name.toArray.size ≤ maxLen; rw [List.size_toArray]; have := Hf.out.name; unfold maxLen; omega) ?_
    intro v w2 hv hg2
    obtain ⟨A, c, rfl, hr, ho⟩ := own_lay2 (show Base.Own w2 w1.drew.heap.size 5 v (bs h.name) by simpa using hv)
    have T2 := Lib.hid (Stp.trans (stp_drew (Stp.refl w1)) (stp_none hg2))
    have Hr2 := Lib.hid hr
    have Ho := Lib.hid ho
    clear hv hg2 hr ho
    refine hK.out _ _ (Key.out _ (T2.out)) (fun hHeld2 => ?_)
    clear hK K hHeld
    have hHeld := hHeld2
    clear hHeld2
    try simp only [Act.put, List.setIfInBounds_toArray, List.set_cons_zero, List.set_cons_succ]
    refine wpAnyH_ready (rs := [0]) (by kernel_rfl) (by simp) ?_
    refine AllReadyH.cons rfl (fun K hK => ?_) AllReadyH.nil
    rw [if_pos (by rfl)]
    refine opwp_make _ _ _ _ rfl 5 (.int .u8 0) 1 Tryz.underlying43 byte_info rfl .i64 .i64 _ 512 rfl rfl rfl (by omega) (by unfold maxLen; omega) ?_
    intro w3 hb3 _ hg3
    have hbg : hb < w2.heap.size := Nat.lt_of_lt_of_le Hb1.out.lt T2.out.size
    have hl1 : w1.heap.size ≤ w2.heap.size := T2.out.size
    have hlg : w.heap.size ≤ w2.heap.size := Nat.le_trans H1.out.size T2.out.size
    have hne2 : ∀ a, A = some a → a.block ≠ w2.heap.size := fun a ha => Nat.ne_of_lt (Ho.out a ha).2
    generalize w2.heap.size = g at hb3 hbg hlg hl1 hne2 ⊢
    have hne : hb ≠ g := Nat.ne_of_lt hbg
    have T3 := Lib.hid (Stp.trans T2.out (stp_none hg3))
    have Hd3 := Lib.hid (show Blk w3 g 5 (bs (zeros 512)).toArray by rw [bs_zeros]; exact hb3)
    have Hb3 := Lib.hid (Hb1.out.keep T3.out Hb1.out.lt)
    have H3 := Lib.hid (Stp.trans H1.out T3.out)
    have Hr := Lib.hid (Hr2.out.keep (stp_none hg3))
    have Hne := Lib.hid hne2
    clear hb3 hg3 hbg hne2 T2 Hr2 Ho
    refine hK.out _ _ (Key.out _ (T3.out)) (fun hHeld2 => ?_)
    clear hK K hHeld
    have hHeld := hHeld2
    clear hHeld2
    try simp only [Act.put, List.setIfInBounds_toArray, List.set_cons_zero, List.set_cons_succ]
    refine wpAnyH_ready (rs := [4]) (by kernel_rfl) (by simp) ?_
    refine AllReadyH.cons rfl (fun K hK => ?_) AllReadyH.nil
    go_simp
    refine (rlay_i g 0 0 rfl (zeros 512) h.name A _ c rfl w3 Hd3.out (zeros_length 512) (by have := Hf.out.name; omega) Hr.out Hne.out).mono ?_
    rintro e w4 ⟨rfl, h4, h5⟩
    rw [E0.out] at h4
    have Hd := Lib.hid h4
    have Hb := Lib.hid (Hb3.out.grown h5 (fun q => hne (Option.some.inj q)))
    have H := Lib.hid (stp_at H3.out h5 hlg)
    have T4 := Lib.hid (stp_at T3.out h5 hl1)
    clear h4 h5
    go_wp2_with fail
    refine hK.out _ _ (Key.out _ (T4.out)) (fun hHeld2 => ?_)
    clear hK K hHeld
    have hHeld := hHeld2
    clear hHeld2
    try simp only [Act.put, List.setIfInBounds_toArray, List.set_cons_zero, List.set_cons_succ]
    refine wpAnyH_take (i := 5) (v := ?v5b) rfl (by kernel_rfl) (by kernel_rfl) (by kernel_rfl) (fun _ _ _ h => h) (Or.inl ⟨by rfl, ?hy5b⟩) (by assumption) ?rest5b
    case hy5b => (intro w hSw; (try dsimp only at hSw); go_simp; try with_reducible rfl)
    try simp only [Act.put, List.setIfInBounds_toArray, List.set_cons_zero, List.set_cons_succ]
    refine wpAnyH_done (by kernel_rfl) ?_ _
    clear hHeld Key Hd3 Hb3 H3 T3 T4 Hr Hne hl1 Hb1 H1
    obtain ⟨x0, x1, x2, x3, x4, x5, x6, x7, x8, x9, x10⟩ := hd_cells Hb.out
    go_wp2_with (first
      | (go_at_call 113; (with_reducible refine (rnumber_i g 100 8 100 8 rfl rfl h.mode Hs.out.mode Hf.out.mode B0 _ Hd.out L0.out (by omega)).mono ?_); rintro e w' ⟨rfl, hd, hg⟩; rw [E1.out] at hd; replace Hd := Lib.hid hd; replace Hb := Lib.hid (Hb.out.grown hg (fun q => hne (Option.some.inj q))); replace H := Lib.hid (stp_at H.out hg hlg); clear hd hg; clear x0 x1 x2 x3 x4 x5 x6 x7 x8 x9 x10; obtain ⟨x0, x1, x2, x3, x4, x5, x6, x7, x8, x9, x10⟩ := hd_cells Hb.out)
      | (go_at_call 113; (with_reducible refine (rnumber_i g 108 8 108 8 rfl rfl h.uid Hs.out.uid Hf.out.uid B1 _ Hd.out L1.out (by omega)).mono ?_); rintro e w' ⟨rfl, hd, hg⟩; rw [E2.out] at hd; replace Hd := Lib.hid hd; replace Hb := Lib.hid (Hb.out.grown hg (fun q => hne (Option.some.inj q))); replace H := Lib.hid (stp_at H.out hg hlg); clear hd hg; clear x0 x1 x2 x3 x4 x5 x6 x7 x8 x9 x10; obtain ⟨x0, x1, x2, x3, x4, x5, x6, x7, x8, x9, x10⟩ := hd_cells Hb.out)
      | (go_at_call 113; (with_reducible refine (rnumber_i g 116 8 116 8 rfl rfl h.gid Hs.out.gid Hf.out.gid B2 _ Hd.out L2.out (by omega)).mono ?_); rintro e w' ⟨rfl, hd, hg⟩; rw [E3.out] at hd; replace Hd := Lib.hid hd; replace Hb := Lib.hid (Hb.out.grown hg (fun q => hne (Option.some.inj q))); replace H := Lib.hid (stp_at H.out hg hlg); clear hd hg; clear x0 x1 x2 x3 x4 x5 x6 x7 x8 x9 x10; obtain ⟨x0, x1, x2, x3, x4, x5, x6, x7, x8, x9, x10⟩ := hd_cells Hb.out)
      | (go_at_call 113; (with_reducible refine (rnumber_i g 124 12 124 12 rfl rfl h.size Hs.out.size Hf.out.size B3 _ Hd.out L3.out (by omega)).mono ?_); rintro e w' ⟨rfl, hd, hg⟩; rw [E4.out] at hd; replace Hd := Lib.hid hd; replace Hb := Lib.hid (Hb.out.grown hg (fun q => hne (Option.some.inj q))); replace H := Lib.hid (stp_at H.out hg hlg); clear hd hg; clear x0 x1 x2 x3 x4 x5 x6 x7 x8 x9 x10; obtain ⟨x0, x1, x2, x3, x4, x5, x6, x7, x8, x9, x10⟩ := hd_cells Hb.out)
      | (go_at_call 113; (with_reducible refine (rnumber_i g 136 12 136 12 rfl rfl h.time Hs.out.time Hf.out.time B4 _ Hd.out L4.out (by omega)).mono ?_); rintro e w5 ⟨rfl, hd, hg⟩; rw [E5.out] at hd; replace Hd := Lib.hid hd; replace Hb := Lib.hid (Hb.out.grown hg (fun q => hne (Option.some.inj q))); replace H := Lib.hid (stp_at H.out hg hlg); clear hd hg; clear x0 x1 x2 x3 x4 x5 x6 x7 x8 x9 x10; obtain ⟨x0, x1, x2, x3, x4, x5, x6, x7, x8, x9, x10⟩ := hd_cells Hb.out; obtain ⟨z, c156⟩ : ∃ z, w5.cell? ⟨g, 156, none⟩ = some z := ⟨_, by rw [Hd.out.cell]; exact Array.getElem?_eq_getElem (by simp [bs_length, L5.out])⟩; have f156 := Hd.out.free 156; obtain ⟨-, y1, y2, -, -, -, -, -, y8, -, -⟩ := hd_cells (Hb.out.far (p := ⟨g, 156, none⟩) hne (.int .u8 (h.ty.toNat : Int))); clear x0 x1 x2 x3 x4 x5 x6 x7 x9 x10)
      | (refine wpList_bytes (P := Tryz.prog) (o := ⟨some 42, _, _, _, _, _⟩) _ rfl 9 43 (.tmp 41) rfl 5 Tryz.underlying9 Tryz.underlying43 Tryz.underlying5 _ rfl (by show h.link.toArray.size ≤ maxLen; rw [List.size_toArray]; have := Hf.out.link; unfold maxLen; omega) ?_; intro v w6 hv hgv hat; clear hat; obtain ⟨A7, c7, rfl, hr7, ho7⟩ := own_lay2 (show Base.Own w6 w5.heap.size 5 v (bs h.link) by simpa using hv); have Hr7 := Lib.hid hr7; have hds := Hd.out.put 156 (.int .u8 (h.ty.toNat : Int)); have Hne7 := Lib.hid (show ∀ a, A7 = some a → a.block ≠ g from fun a ha => Nat.ne_of_gt (Nat.lt_of_lt_of_le Hd.out.lt (ho7 a ha).1)); clear hr7 ho7; replace hds := hds.grown hgv (by simp); rw [bs_set, ← lay_one _ (by rw [L5.out]; omega), E6.out] at hds; replace Hd := Lib.hid hds; clear hds; replace H := Lib.hid (Stp.trans (show Stp w (w5.setCell ⟨g, 156, none⟩ (.int .u8 (h.ty.toNat : Int))) from Below.setCell H.out (p := ⟨g, 156, none⟩) hlg _) (stp_none hgv)); replace Hb := Lib.hid ((Hb.out.far (p := ⟨g, 156, none⟩) hne (.int .u8 (h.ty.toNat : Int))).grown hgv (by simp)); clear c156 f156 y1 y2 y8 x8; obtain ⟨x0, x1, x2, x3, x4, x5, x6, x7, x8, x9, x10⟩ := hd_cells Hb.out; clear hv hgv)
      | (go_at_call 112; (with_reducible refine (rlay_i g 157 157 rfl B6 h.link A7 _ c7 rfl _ Hd.out L6.out (by have := Hf.out.link; omega) Hr7.out Hne7.out).mono ?_); rintro e w7 ⟨rfl, hd, hg⟩; rw [E7.out] at hd; replace Hd := Lib.hid hd; replace Hb := Lib.hid (Hb.out.grown hg (fun q => hne (Option.some.inj q))); replace H := Lib.hid (stp_at H.out hg hlg); clear hd hg; clear x0 x1 x2 x3 x4 x5 x6 x7 x8 x9 x10; obtain ⟨x0, x1, x2, x3, x4, x5, x6, x7, x8, x9, x10⟩ := hd_cells Hb.out; clear Hr7 Hne7; have Hne8 := Lib.hid (show ∀ a, some (⟨w7.heap.size, 0, none⟩ : Addr) = some a → a.block ≠ g from fun a ha => by cases ha; exact Nat.ne_of_gt Hd.out.lt))
      | (go_at_call 112; (with_reducible refine (rlay_i g 257 257 rfl B7 magic (some ⟨w7.heap.size, 0, none⟩) 8 8 magic_len _ (Hd.out.alloc _) L7.out magic_room (rd_magic2 w7) Hne8.out).mono ?_); replace Hb := Lib.hid (Hb.out.alloc (.cells #[.int .u8 117, .int .u8 115, .int .u8 116, .int .u8 97, .int .u8 114, .int .u8 0, .int .u8 48, .int .u8 48] 5)); replace H := Lib.hid (Stp.alloc H.out (.cells #[.int .u8 117, .int .u8 115, .int .u8 116, .int .u8 97, .int .u8 114, .int .u8 0, .int .u8 48, .int .u8 48] 5)); rintro e w8 ⟨rfl, hd, hg⟩; rw [E8.out] at hd; replace Hd := Lib.hid hd; replace Hb := Lib.hid (Hb.out.grown hg (fun q => hne (Option.some.inj q))); replace H := Lib.hid (stp_at H.out hg hlg); clear hd hg; clear x0 x1 x2 x3 x4 x5 x6 x7 x8 x9 x10; obtain ⟨x0, x1, x2, x3, x4, x5, x6, x7, x8, x9, x10⟩ := hd_cells Hb.out; clear Hne8)
      | (go_at_call 113; (with_reducible refine (rnumber_i g 369 12 369 12 rfl rfl h.off Hs.out.off (Hf.out.more Ht.out).2.1 B8 _ Hd.out L8.out (by omega)).mono ?_); rintro e w' ⟨rfl, hd, hg⟩; rw [E9.out] at hd; replace Hd := Lib.hid hd; replace Hb := Lib.hid (Hb.out.grown hg (fun q => hne (Option.some.inj q))); replace H := Lib.hid (stp_at H.out hg hlg); clear hd hg; clear x0 x1 x2 x3 x4 x5 x6 x7 x8 x9 x10; obtain ⟨x0, x1, x2, x3, x4, x5, x6, x7, x8, x9, x10⟩ := hd_cells Hb.out)
      | (go_at_call 113; (with_reducible refine (rnumber_i g 483 12 483 12 rfl rfl h.real Hs.out.real (Hf.out.more Ht.out).2.2 B9 _ Hd.out L9.out (by omega)).mono ?_); rintro e w' ⟨rfl, hd, hg⟩; rw [E10.out] at hd; replace Hd := Lib.hid hd; replace Hb := Lib.hid (Hb.out.grown hg (fun q => hne (Option.some.inj q))); replace H := Lib.hid (stp_at H.out hg hlg); clear hd hg; clear x0 x1 x2 x3 x4 x5 x6 x7 x8 x9 x10; obtain ⟨x0, x1, x2, x3, x4, x5, x6, x7, x8, x9, x10⟩ := hd_cells Hb.out)
      | (go_at_call 115; (with_reducible refine (rsum_i B10 512 L10.out _ _ _ (rdA_blk Hd.out L10.out)).mono ?_); rintro e w11 ⟨rfl, hs⟩; replace Hd := Lib.hid (Hd.out.keep hs Hd.out.lt); replace H := Lib.hid (Stp.trans H.out hs); clear hs Hb; clear x0 x1 x2 x3 x4 x5 x6 x7 x8 x9 x10)
      | (go_at_call 114; (with_reducible refine (rsign_s B10 L10.out _).mono ?_); rintro e w12 ⟨v, rfl, hv, hs⟩; obtain ⟨A12, c12, rfl, hr12, ho12⟩ := own_lay2 hv; have Hr12 := Lib.hid hr12; have Hne12 := Lib.hid (show ∀ a, A12 = some a → a.block ≠ g from fun a ha => Nat.ne_of_gt (Nat.lt_of_lt_of_le Hd.out.lt (ho12 a ha).1)); replace Hd := Lib.hid (Hd.out.keep hs Hd.out.lt); replace H := Lib.hid (Stp.trans H.out hs); clear hs hv hr12 ho12)
      | (go_at_call 112; (with_reducible refine (rlay_i g 148 148 rfl B10 (sumT B10) A12 _ c12 rfl _ Hd.out L10.out (by rw [sumT_length]; omega) Hr12.out Hne12.out).mono ?_); rintro e w13 ⟨rfl, hd, hg⟩; rw [Hfin.out] at hd; replace Hd := Lib.hid hd; replace H := Lib.hid (stp_at H.out hg hlg); clear hd hg Hr12 Hne12))
    go_ret2
    exact ⟨_, _, rfl, rdA_blk Hd.out HEl.out, H.out⟩
end Go.Proofs.YtopihahjjcpnpaaGreatDoor.Head

