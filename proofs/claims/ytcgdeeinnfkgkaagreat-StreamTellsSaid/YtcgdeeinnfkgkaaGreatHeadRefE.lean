/-
  The document's May of a header, where an early test fails: no statement is proved here.
-/
import Derived.Test.YtcgdeeinnfkgkaaGreatHeadRef3
namespace Go.Proofs.YtcgdeeinnfkgkaaGreat.Head
open Go.RowKit Go.Proofs.YtcgdeeinnfkgkaaGreat.Base Go.Proofs.YtcgdeeinnfkgkaaGreat.NumM Go.Proofs.YtcgdeeinnfkgkaaGreat.Num

set_option maxHeartbeats 8000000 in
set_option maxRecDepth 100000 in
theorem rmay_early (h : Hd) (hsm : SmallH h) (w : World) (hx : h.name = [] ∨ okT h.name 100 = false ∨ okT h.link 100 = false ∨ okT h.pre 155 = false ∨ putOk h.mode 8 = false ∨ putOk h.uid 8 = false ∨ putOk h.gid 8 = false ∨ putOk h.size 12 = false ∨ putOk h.time 12 = false) :
    Calls Tryz.prog 53 #[hv h] w fun e w' => e = .returned (.bool false) ∧ Stp w w' := by
  obtain ⟨bname, ename⟩ : ∃ b, okT h.name 100 = b := ⟨_, rfl⟩
  obtain ⟨blink, elink⟩ : ∃ b, okT h.link 100 = b := ⟨_, rfl⟩
  obtain ⟨bpre, epre⟩ : ∃ b, okT h.pre 155 = b := ⟨_, rfl⟩
  obtain ⟨bmode, emode⟩ : ∃ b, putOk h.mode 8 = b := ⟨_, rfl⟩
  obtain ⟨buid, euid⟩ : ∃ b, putOk h.uid 8 = b := ⟨_, rfl⟩
  obtain ⟨bgid, egid⟩ : ∃ b, putOk h.gid 8 = b := ⟨_, rfl⟩
  obtain ⟨bsize, esize⟩ : ∃ b, putOk h.size 12 = b := ⟨_, rfl⟩
  obtain ⟨btime, etime⟩ : ∃ b, putOk h.time 12 = b := ⟨_, rfl⟩
  obtain ⟨boff, eoff⟩ : ∃ b, putOk h.off 12 = b := ⟨_, rfl⟩
  obtain ⟨breal, ereal⟩ : ∃ b, putOk h.real 12 = b := ⟨_, rfl⟩
  obtain ⟨nn, hnn⟩ : ∃ b, (h.name == []) = b := ⟨_, rfl⟩
  have key : bname = false ∨ (bname = true ∧ blink = false) ∨ (bname = true ∧ blink = true ∧ bpre = false) ∨ (bname = true ∧ blink = true ∧ bpre = true ∧ bmode = false) ∨ (bname = true ∧ blink = true ∧ bpre = true ∧ bmode = true ∧ buid = false) ∨ (bname = true ∧ blink = true ∧ bpre = true ∧ bmode = true ∧ buid = true ∧ bgid = false) ∨ (bname = true ∧ blink = true ∧ bpre = true ∧ bmode = true ∧ buid = true ∧ bgid = true ∧ bsize = false) ∨ (bname = true ∧ blink = true ∧ bpre = true ∧ bmode = true ∧ buid = true ∧ bgid = true ∧ bsize = true ∧ btime = false) ∨ (bname = true ∧ blink = true ∧ bpre = true ∧ bmode = true ∧ buid = true ∧ bgid = true ∧ bsize = true ∧ btime = true ∧ nn = true) := by
    rw [ename, elink, epre, emode, euid, egid, esize, etime] at hx
    have hx2 : nn = true ∨ bname = false ∨ blink = false ∨ bpre = false ∨ bmode = false ∨ buid = false ∨ bgid = false ∨ bsize = false ∨ btime = false := by
      rcases hx with e | e
      · left; rw [← hnn, e]; rfl
      · right; exact e
    clear hx hnn ename elink epre emode euid egid esize etime eoff ereal
    cases bname
    · exact .inl rfl
    cases blink
    · exact .inr (.inl ⟨rfl, rfl⟩)
    cases bpre
    · exact .inr (.inr (.inl ⟨rfl, rfl, rfl⟩))
    cases bmode
    · exact .inr (.inr (.inr (.inl ⟨rfl, rfl, rfl, rfl⟩)))
    cases buid
    · exact .inr (.inr (.inr (.inr (.inl ⟨rfl, rfl, rfl, rfl, rfl⟩))))
    cases bgid
    · exact .inr (.inr (.inr (.inr (.inr (.inl ⟨rfl, rfl, rfl, rfl, rfl, rfl⟩)))))
    cases bsize
    · exact .inr (.inr (.inr (.inr (.inr (.inr (.inl ⟨rfl, rfl, rfl, rfl, rfl, rfl, rfl⟩))))))
    cases btime
    · exact .inr (.inr (.inr (.inr (.inr (.inr (.inr (.inl ⟨rfl, rfl, rfl, rfl, rfl, rfl, rfl, rfl⟩)))))))
    have hnt : nn = true := by simpa using hx2
    exact .inr (.inr (.inr (.inr (.inr (.inr (.inr (.inr (⟨rfl, rfl, rfl, rfl, rfl, rfl, rfl, rfl, hnt⟩))))))))
  have Wname := Lib.hid ename
  have Wlink := Lib.hid elink
  have Wpre := Lib.hid epre
  have Nmode := Lib.hid emode
  have Nuid := Lib.hid euid
  have Ngid := Lib.hid egid
  have Nsize := Lib.hid esize
  have Ntime := Lib.hid etime
  have Noff := Lib.hid eoff
  have Nreal := Lib.hid ereal
  clear ename elink epre emode euid egid esize etime eoff ereal
  clear hx
  have h0 := Stp.alloc (Stp.refl w) (.cells (hcells h) 55)
  have Hb := Lib.hid (Blk.new w 55 (hcells h))
  have Hs := Lib.hid hsm
  clear hsm
  obtain ⟨x0, x1, x2, x3, x4, x5, x6, x7, x8, x9, x10⟩ := hd_cells Hb.out
  rcases key with rfl | ⟨rfl, rfl⟩ | ⟨rfl, rfl, rfl⟩ | ⟨rfl, rfl, rfl, rfl⟩ | ⟨rfl, rfl, rfl, rfl, rfl⟩ | ⟨rfl, rfl, rfl, rfl, rfl, rfl⟩ | ⟨rfl, rfl, rfl, rfl, rfl, rfl, rfl⟩ | ⟨rfl, rfl, rfl, rfl, rfl, rfl, rfl, rfl⟩ | ⟨rfl, rfl, rfl, rfl, rfl, rfl, rfl, rfl, rfl⟩
  all_goals go_enter Tryz.func53, Tryz.ntmps53
  all_goals go_wp2_with (first
    | (go_at_call 80; (with_reducible refine (rword_i h.name 100 100 rfl Hs.out.name _).mono ?_); rintro e w' ⟨rfl, hs⟩; rw [Wname.out]; replace Hb := Lib.hid (Hb.out.keep hs Hb.out.lt); replace h0 := Stp.trans h0 hs; clear hs; clear x0 x1 x2 x3 x4 x5 x6 x7 x8 x9 x10; obtain ⟨x0, x1, x2, x3, x4, x5, x6, x7, x8, x9, x10⟩ := hd_cells Hb.out)
    | (go_at_call 80; (with_reducible refine (rword_i h.link 100 100 rfl Hs.out.link _).mono ?_); rintro e w' ⟨rfl, hs⟩; rw [Wlink.out]; replace Hb := Lib.hid (Hb.out.keep hs Hb.out.lt); replace h0 := Stp.trans h0 hs; clear hs; clear x0 x1 x2 x3 x4 x5 x6 x7 x8 x9 x10; obtain ⟨x0, x1, x2, x3, x4, x5, x6, x7, x8, x9, x10⟩ := hd_cells Hb.out)
    | (go_at_call 80; (with_reducible refine (rword_i h.pre 155 155 rfl Hs.out.pre _).mono ?_); rintro e w' ⟨rfl, hs⟩; rw [Wpre.out]; replace Hb := Lib.hid (Hb.out.keep hs Hb.out.lt); replace h0 := Stp.trans h0 hs; clear hs; clear x0 x1 x2 x3 x4 x5 x6 x7 x8 x9 x10; obtain ⟨x0, x1, x2, x3, x4, x5, x6, x7, x8, x9, x10⟩ := hd_cells Hb.out)
    | (go_at_call 81; (with_reducible refine (rfits_s h.mode 8 Hs.out.mode _).mono ?_); rintro e w' ⟨rfl, hs⟩; rw [Nmode.out]; replace Hb := Lib.hid (Hb.out.keep hs Hb.out.lt); replace h0 := Stp.trans h0 hs; clear hs; clear x0 x1 x2 x3 x4 x5 x6 x7 x8 x9 x10; obtain ⟨x0, x1, x2, x3, x4, x5, x6, x7, x8, x9, x10⟩ := hd_cells Hb.out)
    | (go_at_call 81; (with_reducible refine (rfits_s h.uid 8 Hs.out.uid _).mono ?_); rintro e w' ⟨rfl, hs⟩; rw [Nuid.out]; replace Hb := Lib.hid (Hb.out.keep hs Hb.out.lt); replace h0 := Stp.trans h0 hs; clear hs; clear x0 x1 x2 x3 x4 x5 x6 x7 x8 x9 x10; obtain ⟨x0, x1, x2, x3, x4, x5, x6, x7, x8, x9, x10⟩ := hd_cells Hb.out)
    | (go_at_call 81; (with_reducible refine (rfits_s h.gid 8 Hs.out.gid _).mono ?_); rintro e w' ⟨rfl, hs⟩; rw [Ngid.out]; replace Hb := Lib.hid (Hb.out.keep hs Hb.out.lt); replace h0 := Stp.trans h0 hs; clear hs; clear x0 x1 x2 x3 x4 x5 x6 x7 x8 x9 x10; obtain ⟨x0, x1, x2, x3, x4, x5, x6, x7, x8, x9, x10⟩ := hd_cells Hb.out)
    | (go_at_call 81; (with_reducible refine (rfits_s h.size 12 Hs.out.size _).mono ?_); rintro e w' ⟨rfl, hs⟩; rw [Nsize.out]; replace Hb := Lib.hid (Hb.out.keep hs Hb.out.lt); replace h0 := Stp.trans h0 hs; clear hs; clear x0 x1 x2 x3 x4 x5 x6 x7 x8 x9 x10; obtain ⟨x0, x1, x2, x3, x4, x5, x6, x7, x8, x9, x10⟩ := hd_cells Hb.out)
    | (go_at_call 81; (with_reducible refine (rfits_s h.time 12 Hs.out.time _).mono ?_); rintro e w' ⟨rfl, hs⟩; rw [Ntime.out]; replace Hb := Lib.hid (Hb.out.keep hs Hb.out.lt); replace h0 := Stp.trans h0 hs; clear hs; clear x0 x1 x2 x3 x4 x5 x6 x7 x8 x9 x10; obtain ⟨x0, x1, x2, x3, x4, x5, x6, x7, x8, x9, x10⟩ := hd_cells Hb.out)
    | (go_at_call 81; (with_reducible refine (rfits_s h.off 12 Hs.out.off _).mono ?_); rintro e w' ⟨rfl, hs⟩; rw [Noff.out]; replace Hb := Lib.hid (Hb.out.keep hs Hb.out.lt); replace h0 := Stp.trans h0 hs; clear hs; clear x0 x1 x2 x3 x4 x5 x6 x7 x8 x9 x10; obtain ⟨x0, x1, x2, x3, x4, x5, x6, x7, x8, x9, x10⟩ := hd_cells Hb.out)
    | (go_at_call 81; (with_reducible refine (rfits_s h.real 12 Hs.out.real _).mono ?_); rintro e w' ⟨rfl, hs⟩; rw [Nreal.out]; replace Hb := Lib.hid (Hb.out.keep hs Hb.out.lt); replace h0 := Stp.trans h0 hs; clear hs; clear x0 x1 x2 x3 x4 x5 x6 x7 x8 x9 x10; obtain ⟨x0, x1, x2, x3, x4, x5, x6, x7, x8, x9, x10⟩ := hd_cells Hb.out))
  all_goals go_ret
  all_goals exact ⟨rfl, h0⟩
end Go.Proofs.YtcgdeeinnfkgkaaGreat.Head
