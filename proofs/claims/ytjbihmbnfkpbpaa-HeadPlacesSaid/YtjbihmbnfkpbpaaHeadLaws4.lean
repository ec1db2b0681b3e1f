/-
  The walk of the statement HeadPlaces: the law returns true and writes nothing that was there; the statement itself is proved in a text of its own.
-/
import Derived.Test.YtjbihmbnfkpbpaaHeadAwake
namespace Go.Proofs.Ytjbihmbnfkpbpaa.Head
open Go.RowKit Go.Proofs.Ytjbihmbnfkpbpaa.Base Go.Proofs.Ytjbihmbnfkpbpaa.NumM Go.Proofs.Ytjbihmbnfkpbpaa.Num

theorem blk_name {h : Hd} (hm : mayH h = true) : sub (blk h) 0 h.name.length = h.name := by
  rw [blk_sg hm, sub_name hm _ (sumT_length _) _ (mayF hm).name]
  exact pad_take
theorem blk_link {h : Hd} (hm : mayH h = true) : sub (blk h) 157 h.link.length = h.link := by
  rw [blk_sg hm, sub_link hm _ (sumT_length _) _ (mayF hm).link]
  exact pad_take
theorem blk_pre {h : Hd} (hm : mayH h = true) (ht : h.ty ≠ 77) : sub (blk h) 345 h.pre.length = h.pre := by
  rw [blk_sg hm, sub_pre hm ht _ (sumT_length _) _ (mayF hm).pre]
  exact pad_take
theorem blk_size {h : Hd} (hm : mayH h = true) : sub (blk h) 124 12 = putV h.size 12 := by
  have hp : (putV h.size 12).length = 12 := putV_length (mayF hm).size
  rw [blk_sg hm, sub_size hm _ (sumT_length _) _ (Nat.le_refl _), pad_full hp, take_all hp]
theorem blk_off {h : Hd} (hm : mayH h = true) (ht : h.ty = 77) : sub (blk h) 369 12 = putV h.off 12 := by
  have hp : (putV h.off 12).length = 12 := putV_length ((mayF hm).more ht).2.1
  rw [blk_sg hm, sub_off hm ht _ (sumT_length _) _ (Nat.le_refl _), pad_full hp, take_all hp]
theorem blk_real {h : Hd} (hm : mayH h = true) (ht : h.ty = 77) : sub (blk h) 483 12 = putV h.real 12 := by
  have hp : (putV h.real 12).length = 12 := putV_length ((mayF hm).more ht).2.2
  rw [blk_sg hm, sub_real hm ht _ (sumT_length _) _ (Nat.le_refl _), pad_full hp, take_all hp]
theorem blk_mag {h : Hd} (hm : mayH h = true) : sub (blk h) 257 8 = magic := by
  rw [blk_sg hm, sub_magic hm _ (sumT_length _) _ (Nat.le_refl _), pad_full (by rfl), take_all (by rfl)]
theorem blk_ty {h : Hd} (hm : mayH h = true) : (blk h)[156]? = some h.ty := by
  have e : (sub (blk h) 156 1)[0]? = some h.ty := by
    rw [blk_sg hm, sub_ty hm _ (sumT_length _) _ (Nat.le_refl _)]
    rfl
  rwa [sub_get (by omega)] at e
theorem slice_lh2 (b o n c : Nat) (i m : Nat) (hi : i + m ≤ c) (hc : i < c) (w : World) : (Instr.slice 24 (.slice (some ⟨b, o, none⟩) n c) (some (.int .i64 (i : Int))) (some (.int .i64 ((i : Int) + (m : Int)))) none).run Try.prog w = .ok (.slice (some ⟨b, o + i, none⟩) m (c - i)) w := by
  have he : Try.prog.elem 24 = 5 := by kernel_rfl
  have hs : (sizeOf 5).run Try.prog w = .ok 1 w := by
    have hi : (Try.prog.info? 5).map (·.size) = some 1 := by kernel_rfl
    cases hq : Try.prog.info? 5 with
    | none => simp [hq] at hi
    | some i =>
      have : i.size = 1 := by simpa [hq] using hi
      simp [sizeOf, typeInfo, hq, this]
  rw [run_slice_lh (P := Try.prog) w 24 _ _ _ (by rw [he]; exact Try.underlying24) .i64 .i64 _ _ (by omega) (by omega) (by omega), he, hs]
  simp only [Result.andThen_ok, sliced]
  rw [if_neg (by omega)]
  simp only [Option.map_some, Addr.add_lit, Int.toNat_natCast, Nat.mul_one]
  rw [show ((i : Int) + (m : Int)).toNat - i = m by omega]
theorem slice_h2 (b o n c : Nat) (m : Nat) (hi : m ≤ c) (hc : 0 < c) (w : World) : (Instr.slice 24 (.slice (some ⟨b, o, none⟩) n c) none (some (.int .i64 (m : Int))) none).run Try.prog w = .ok (.slice (some ⟨b, o, none⟩) m c) w := by
  have he : Try.prog.elem 24 = 5 := by kernel_rfl
  have hs : (sizeOf 5).run Try.prog w = .ok 1 w := by
    have hi : (Try.prog.info? 5).map (·.size) = some 1 := by kernel_rfl
    cases hq : Try.prog.info? 5 with
    | none => simp [hq] at hi
    | some i =>
      have : i.size = 1 := by simpa [hq] using hi
      simp [sizeOf, typeInfo, hq, this]
  rw [run_slice_h (P := Try.prog) w 24 _ _ _ (by rw [he]; exact Try.underlying24) .i64 _ (by omega) (by omega), he, hs]
  simp only [Result.andThen_ok, sliced]
  rw [if_neg (by omega)]
  simp only [Option.map_some, Addr.add_lit, Int.toNat_natCast, Nat.zero_mul, Nat.add_zero, Nat.sub_zero]
/-- A piece of a block, as a string, in whatever world that has drawn so often. -/
theorem piece {w : World} {b o c : Nat} {l x : L} (i n : Nat) (h : RdA w (some ⟨b, o, none⟩) c (bs l)) (hn : i + n ≤ l.length) (e : sub l i n = x) (j : Nat) : (convert 24 9 (.slice (some ⟨b, o + i, none⟩) n (c - i))).run Try.prog (w.drewN j) = .ok (.string ⟨x.toArray⟩) (w.drewN j) := by
  rw [← e]
  exact Num.str_of (w.drewN j) _ _ _ (rd_sub h hn)

set_option maxHeartbeats 8000000 in
set_option maxRecDepth 100000 in
theorem places_early (h : Hd) (hsm : SmallH h) (w : World) (hin : fewB h = false ∨ mayH h = false) :
    Calls Try.prog 8 #[hv h] w fun e w' => e = .returned (.bool true) ∧ Stp w w' := by
  have h0 := Stp.alloc (Stp.refl w) (.cells (hcells h) 23)
  have Hb := Lib.hid (Blk.new w 23 (hcells h))
  obtain ⟨hb, hhb⟩ : ∃ x, w.heap.size = x := ⟨_, rfl⟩
  rw [hhb] at Hb
  have hhl : w.heap.size ≤ hb := Nat.le_of_eq hhb
  have Hs := Lib.hid hsm
  obtain ⟨f, hf⟩ : ∃ f, fewB h = f := ⟨_, rfl⟩
  obtain ⟨m, hm⟩ : ∃ m, mayH h = m := ⟨_, rfl⟩
  obtain ⟨B, hB⟩ : ∃ B, putB h = B := ⟨_, rfl⟩
  rw [hf, hm] at hin
  have Hf := Lib.hid hf
  have Hm := Lib.hid hm
  have HB := Lib.hid hB
  have key : f = false ∨ (f = true ∧ m = false) := by
    cases f <;> simp_all
  clear hin hf hm hsm hB
  rcases key with rfl | ⟨rfl, rfl⟩
  · go_enter Try.func8, Try.ntmps8
    go_wp2_with (first
      | (go_at_call 10; refine (awake_s _).mono ?_; rintro e w1 ⟨rfl, hs⟩; replace Hb := Lib.hid (Hb.out.keep hs Hb.out.lt); replace h0 := Stp.trans h0 hs; clear hs; obtain ⟨x0, x1, x2, x3, x4, x5, x6, x7, x8, x9, x10⟩ := hd_cells Hb.out)
      | (go_at_call 11; refine (few_s h _).mono ?_; rintro e w2 ⟨rfl, hs⟩; rw [Hf.out]; replace Hb := Lib.hid (Hb.out.keep hs Hb.out.lt); replace h0 := Stp.trans h0 hs; clear hs; clear x0 x1 x2 x3 x4 x5 x6 x7 x8 x9 x10; obtain ⟨x0, x1, x2, x3, x4, x5, x6, x7, x8, x9, x10⟩ := hd_cells Hb.out)
      | (go_at_call 12; refine (put_s h Hs.out _).mono ?_; rintro e w3 ⟨A, cp, rfl, hr, hs⟩; rw [Hm.out]; rw [HB.out] at hr ⊢; have Hr := Lib.hid hr; replace Hb := Lib.hid (Hb.out.keep hs Hb.out.lt); replace h0 := Stp.trans h0 hs; clear hs hr; clear x0 x1 x2 x3 x4 x5 x6 x7 x8 x9 x10; obtain ⟨x0, x1, x2, x3, x4, x5, x6, x7, x8, x9, x10⟩ := hd_cells Hb.out))
    go_ret
    exact ⟨rfl, h0⟩
  · go_enter Try.func8, Try.ntmps8
    go_wp2_with (first
      | (go_at_call 10; refine (awake_s _).mono ?_; rintro e w1 ⟨rfl, hs⟩; replace Hb := Lib.hid (Hb.out.keep hs Hb.out.lt); replace h0 := Stp.trans h0 hs; clear hs; obtain ⟨x0, x1, x2, x3, x4, x5, x6, x7, x8, x9, x10⟩ := hd_cells Hb.out)
      | (go_at_call 11; refine (few_s h _).mono ?_; rintro e w2 ⟨rfl, hs⟩; rw [Hf.out]; replace Hb := Lib.hid (Hb.out.keep hs Hb.out.lt); replace h0 := Stp.trans h0 hs; clear hs; clear x0 x1 x2 x3 x4 x5 x6 x7 x8 x9 x10; obtain ⟨x0, x1, x2, x3, x4, x5, x6, x7, x8, x9, x10⟩ := hd_cells Hb.out)
      | (go_at_call 12; refine (put_s h Hs.out _).mono ?_; rintro e w3 ⟨A, cp, rfl, hr, hs⟩; rw [Hm.out]; rw [HB.out] at hr ⊢; have Hr := Lib.hid hr; replace Hb := Lib.hid (Hb.out.keep hs Hb.out.lt); replace h0 := Stp.trans h0 hs; clear hs hr; clear x0 x1 x2 x3 x4 x5 x6 x7 x8 x9 x10; obtain ⟨x0, x1, x2, x3, x4, x5, x6, x7, x8, x9, x10⟩ := hd_cells Hb.out))
    go_ret
    exact ⟨rfl, h0⟩

set_option maxHeartbeats 8000000 in
set_option maxRecDepth 100000 in
theorem places_n (h : Hd) (hsm : SmallH h) (w : World) (hf : fewB h = true) (hm : mayH h = true) (ht : h.ty ≠ 77) :
    Calls Try.prog 8 #[hv h] w fun e w' => e = .returned (.bool true) ∧ Stp w w' := by
  have h0 := Stp.alloc (Stp.refl w) (.cells (hcells h) 23)
  have Hb := Lib.hid (Blk.new w 23 (hcells h))
  obtain ⟨hb, hhb⟩ : ∃ x, w.heap.size = x := ⟨_, rfl⟩
  rw [hhb] at Hb
  have hhl : w.heap.size ≤ hb := Nat.le_of_eq hhb
  have hbl := blk_length hm hsm
  have hpb := putB_yes hm
  have q1 := blk_name hm
  have q2 := blk_link hm
  have q3 := blk_size hm
  have q4 := blk_mag hm
  have q5 := blk_ty hm
  have q6 := blk_pre hm ht
  have f3 := (mayF hm).pre
  have f1 := (mayF hm).name
  have f2 := (mayF hm).link
  have g77 : ((h.ty.toNat : Int) == 77) = false := by rw [is77]; simp [ht]
  have Hs := Lib.hid hsm
  have Hf := Lib.hid hf
  have Hm := Lib.hid hm
  obtain ⟨B, hB⟩ : ∃ B, blk h = B := ⟨_, rfl⟩
  rw [hB] at hbl hpb q1 q2 q3 q4 q5 q6
  have HB := Lib.hid hpb
  have Hl := Lib.hid hbl
  have Q1 := Lib.hid q1
  have Q2 := Lib.hid q2
  have Q3 := Lib.hid q3
  have Q4 := Lib.hid q4
  have Q5 := Lib.hid q5
  have Q6 := Lib.hid q6
  have g512 : ((B.length : Int) != 512) = false := by simp; omega
  have g156 : (156 : Int) < (B.length : Int) := by omega
  have Hsz := Lib.hid hsm.size
  have Hof := Lib.hid hsm.off
  have Hre := Lib.hid hsm.real
  clear hbl hpb q1 q2 q3 q4 q5 q6 hB hm hf hsm ht
  go_enter Try.func8, Try.ntmps8
  go_wp2_with (first
    | (go_at_call 10; refine (awake_s _).mono ?_; rintro e w1 ⟨rfl, hs⟩; replace Hb := Lib.hid (Hb.out.keep hs Hb.out.lt); replace h0 := Stp.trans h0 hs; clear hs; obtain ⟨x0, x1, x2, x3, x4, x5, x6, x7, x8, x9, x10⟩ := hd_cells Hb.out)
    | (go_at_call 11; refine (few_s h _).mono ?_; rintro e w2 ⟨rfl, hs⟩; rw [Hf.out]; replace Hb := Lib.hid (Hb.out.keep hs Hb.out.lt); replace h0 := Stp.trans h0 hs; clear hs; clear x0 x1 x2 x3 x4 x5 x6 x7 x8 x9 x10; obtain ⟨x0, x1, x2, x3, x4, x5, x6, x7, x8, x9, x10⟩ := hd_cells Hb.out)
    | (go_at_call 12; refine (put_s h Hs.out _).mono ?_; rintro e w3 ⟨A, cp, rfl, hr, hs⟩; rw [Hm.out]; rw [HB.out] at hr ⊢; have Hr := Lib.hid hr; replace Hb := Lib.hid (Hb.out.keep hs Hb.out.lt); replace h0 := Stp.trans h0 hs; clear hs hr; clear x0 x1 x2 x3 x4 x5 x6 x7 x8 x9 x10; obtain ⟨x0, x1, x2, x3, x4, x5, x6, x7, x8, x9, x10⟩ := hd_cells Hb.out; obtain ⟨b, o, rfl, _⟩ := byte_at Hr.out Q5.out)
    | (go_at_call 20; refine (put_all h.size 12 _ Hsz.out).mono ?_; rintro e w4 ⟨v, rfl, hv4, hs⟩; have Hv4 := Lib.hid hv4; replace Hb := Lib.hid (Hb.out.keep hs Hb.out.lt); replace Hr := Lib.hid (Hr.out.keep hs); replace h0 := Stp.trans h0 hs; clear hs hv4; clear x0 x1 x2 x3 x4 x5 x6 x7 x8 x9 x10; obtain ⟨x0, x1, x2, x3, x4, x5, x6, x7, x8, x9, x10⟩ := hd_cells Hb.out; generalize putOk h.size 12 = ok))
  have hcp := Hr.out.length_le
  rw [bs_length, Hl.out] at hcp
  have s1 := slice_h2 b o B.length cp h.name.length (by omega) (by omega)
  have s2 := slice_lh2 b o B.length cp 157 h.link.length (by omega) (by omega)
  have s3 : ∀ w : World, (Instr.slice 24 (.slice (some ⟨b, o, none⟩) B.length cp) (some (.int .i64 124)) (some (.int .i64 136)) none).run Try.prog w = .ok (.slice (some ⟨b, o + 124, none⟩) 12 (cp - 124)) w := fun w => slice_lh2 b o B.length cp 124 12 (by omega) (by omega) w
  have s4 : ∀ w : World, (Instr.slice 24 (.slice (some ⟨b, o, none⟩) B.length cp) (some (.int .i64 257)) (some (.int .i64 265)) none).run Try.prog w = .ok (.slice (some ⟨b, o + 257, none⟩) 8 (cp - 257)) w := fun w => slice_lh2 b o B.length cp 257 8 (by omega) (by omega) w
  have c1 : ∀ j, (convert 24 9 (.slice (some ⟨b, o, none⟩) h.name.length cp)).run Try.prog (w4.drewN j) = .ok (.string ⟨h.name.toArray⟩) (w4.drewN j) := fun j => piece 0 h.name.length Hr.out (by rw [Hl.out]; omega) Q1.out j
  have c2 := piece 157 h.link.length Hr.out (by rw [Hl.out]; omega) Q2.out
  have c3 := piece 124 12 Hr.out (by rw [Hl.out]; omega) Q3.out
  have c4 : ∀ j, (convert 24 9 (.slice (some ⟨b, o + 257, none⟩) 8 (cp - 257))).run Try.prog (w4.drewN j) = .ok (.string ⟨#[117, 115, 116, 97, 114, 0, 48, 48]⟩) (w4.drewN j) := piece 257 8 Hr.out (by rw [Hl.out]; omega) Q4.out
  have cv : ∀ j, (convert 24 9 v).run Try.prog (w4.drewN j) = .ok (.string ⟨(putV h.size 12).toArray⟩) (w4.drewN j) := fun j => Num.str_of (w4.drewN j) _ _ _ (show Rd (w4.drewN j) _ _ _ from Hv4.out.rd)
  obtain ⟨b', o', e', c5⟩ := byte_at Hr.out Q5.out
  simp only [Option.some.injEq, Addr.mk.injEq, and_true] at e'
  obtain ⟨rfl, rfl⟩ := e'
  generalize putV h.size 12 = pz at c3 cv
  go_quiet (fail)
  clear c1 c2 c3 c4 c5 cv s1 s2 s3 s4 x0 x1 x2 x3 x4 x5 x6 x7 x8 x9 x10
  generalize hq : w4.drewN _ = w5
  have hr5 : RdA w5 (some ⟨b, o, none⟩) cp (bs B) := by rw [← hq]; exact Hr.out
  have hb5 : Blk w5 hb 23 (hcells h) := by rw [← hq]; exact Hb.out
  have h5 : Stp w w5 := by rw [← hq]; exact Stp.drewN h0 _
  clear hq Hr Hb h0 Hv4
  have Hr := Lib.hid hr5
  have Hb := Lib.hid hb5
  have h0 := h5
  clear hr5 h5
  obtain ⟨x0, x1, x2, x3, x4, x5, x6, x7, x8, x9, x10⟩ := hd_cells hb5
  clear hb5
  go_wp2_with fail
  have c6 := piece 345 h.pre.length Hr.out (by rw [Hl.out]; omega) Q6.out
  have s6 := slice_lh2 b o B.length cp 345 h.pre.length (by omega) (by omega)
  go_quiet (fail)
  go_wp2_with fail
  go_ret
  exact ⟨rfl, Stp.drewN h0 _⟩

set_option maxHeartbeats 8000000 in
set_option maxRecDepth 100000 in
theorem places_m (h : Hd) (hsm : SmallH h) (w : World) (hf : fewB h = true) (hm : mayH h = true) (ht : h.ty = 77) :
    Calls Try.prog 8 #[hv h] w fun e w' => e = .returned (.bool true) ∧ Stp w w' := by
  have h0 := Stp.alloc (Stp.refl w) (.cells (hcells h) 23)
  have Hb := Lib.hid (Blk.new w 23 (hcells h))
  obtain ⟨hb, hhb⟩ : ∃ x, w.heap.size = x := ⟨_, rfl⟩
  rw [hhb] at Hb
  have hhl : w.heap.size ≤ hb := Nat.le_of_eq hhb
  have hbl := blk_length hm hsm
  have hpb := putB_yes hm
  have q1 := blk_name hm
  have q2 := blk_link hm
  have q3 := blk_size hm
  have q4 := blk_mag hm
  have q5 := blk_ty hm
  have q6 := blk_off hm ht
  have q7 := blk_real hm ht
  have f1 := (mayF hm).name
  have f2 := (mayF hm).link
  have g77 : ((h.ty.toNat : Int) == 77) = true := by rw [is77]; simp [ht]
  have Hs := Lib.hid hsm
  have Hf := Lib.hid hf
  have Hm := Lib.hid hm
  obtain ⟨B, hB⟩ : ∃ B, blk h = B := ⟨_, rfl⟩
  rw [hB] at hbl hpb q1 q2 q3 q4 q5 q6 q7
  have HB := Lib.hid hpb
  have Hl := Lib.hid hbl
  have Q1 := Lib.hid q1
  have Q2 := Lib.hid q2
  have Q3 := Lib.hid q3
  have Q4 := Lib.hid q4
  have Q5 := Lib.hid q5
  have Q6 := Lib.hid q6
  have Q7 := Lib.hid q7
  have g512 : ((B.length : Int) != 512) = false := by simp; omega
  have g156 : (156 : Int) < (B.length : Int) := by omega
  have Hsz := Lib.hid hsm.size
  have Hof := Lib.hid hsm.off
  have Hre := Lib.hid hsm.real
  clear hbl hpb q1 q2 q3 q4 q5 q6 q7 hB hm hf hsm ht
  go_enter Try.func8, Try.ntmps8
  go_wp2_with (first
    | (go_at_call 10; refine (awake_s _).mono ?_; rintro e w1 ⟨rfl, hs⟩; replace Hb := Lib.hid (Hb.out.keep hs Hb.out.lt); replace h0 := Stp.trans h0 hs; clear hs; obtain ⟨x0, x1, x2, x3, x4, x5, x6, x7, x8, x9, x10⟩ := hd_cells Hb.out)
    | (go_at_call 11; refine (few_s h _).mono ?_; rintro e w2 ⟨rfl, hs⟩; rw [Hf.out]; replace Hb := Lib.hid (Hb.out.keep hs Hb.out.lt); replace h0 := Stp.trans h0 hs; clear hs; clear x0 x1 x2 x3 x4 x5 x6 x7 x8 x9 x10; obtain ⟨x0, x1, x2, x3, x4, x5, x6, x7, x8, x9, x10⟩ := hd_cells Hb.out)
    | (go_at_call 12; refine (put_s h Hs.out _).mono ?_; rintro e w3 ⟨A, cp, rfl, hr, hs⟩; rw [Hm.out]; rw [HB.out] at hr ⊢; have Hr := Lib.hid hr; replace Hb := Lib.hid (Hb.out.keep hs Hb.out.lt); replace h0 := Stp.trans h0 hs; clear hs hr; clear x0 x1 x2 x3 x4 x5 x6 x7 x8 x9 x10; obtain ⟨x0, x1, x2, x3, x4, x5, x6, x7, x8, x9, x10⟩ := hd_cells Hb.out; obtain ⟨b, o, rfl, _⟩ := byte_at Hr.out Q5.out)
    | (go_at_call 20; refine (put_all h.size 12 _ Hsz.out).mono ?_; rintro e w4 ⟨v, rfl, hv4, hs⟩; have Hv4 := Lib.hid hv4; replace Hb := Lib.hid (Hb.out.keep hs Hb.out.lt); replace Hr := Lib.hid (Hr.out.keep hs); replace h0 := Stp.trans h0 hs; clear hs hv4; clear x0 x1 x2 x3 x4 x5 x6 x7 x8 x9 x10; obtain ⟨x0, x1, x2, x3, x4, x5, x6, x7, x8, x9, x10⟩ := hd_cells Hb.out; generalize putOk h.size 12 = ok))
  have hcp := Hr.out.length_le
  rw [bs_length, Hl.out] at hcp
  have s1 := slice_h2 b o B.length cp h.name.length (by omega) (by omega)
  have s2 := slice_lh2 b o B.length cp 157 h.link.length (by omega) (by omega)
  have s3 : ∀ w : World, (Instr.slice 24 (.slice (some ⟨b, o, none⟩) B.length cp) (some (.int .i64 124)) (some (.int .i64 136)) none).run Try.prog w = .ok (.slice (some ⟨b, o + 124, none⟩) 12 (cp - 124)) w := fun w => slice_lh2 b o B.length cp 124 12 (by omega) (by omega) w
  have s4 : ∀ w : World, (Instr.slice 24 (.slice (some ⟨b, o, none⟩) B.length cp) (some (.int .i64 257)) (some (.int .i64 265)) none).run Try.prog w = .ok (.slice (some ⟨b, o + 257, none⟩) 8 (cp - 257)) w := fun w => slice_lh2 b o B.length cp 257 8 (by omega) (by omega) w
  have c1 : ∀ j, (convert 24 9 (.slice (some ⟨b, o, none⟩) h.name.length cp)).run Try.prog (w4.drewN j) = .ok (.string ⟨h.name.toArray⟩) (w4.drewN j) := fun j => piece 0 h.name.length Hr.out (by rw [Hl.out]; omega) Q1.out j
  have c2 := piece 157 h.link.length Hr.out (by rw [Hl.out]; omega) Q2.out
  have c3 := piece 124 12 Hr.out (by rw [Hl.out]; omega) Q3.out
  have c4 : ∀ j, (convert 24 9 (.slice (some ⟨b, o + 257, none⟩) 8 (cp - 257))).run Try.prog (w4.drewN j) = .ok (.string ⟨#[117, 115, 116, 97, 114, 0, 48, 48]⟩) (w4.drewN j) := piece 257 8 Hr.out (by rw [Hl.out]; omega) Q4.out
  have cv : ∀ j, (convert 24 9 v).run Try.prog (w4.drewN j) = .ok (.string ⟨(putV h.size 12).toArray⟩) (w4.drewN j) := fun j => Num.str_of (w4.drewN j) _ _ _ (show Rd (w4.drewN j) _ _ _ from Hv4.out.rd)
  obtain ⟨b', o', e', c5⟩ := byte_at Hr.out Q5.out
  simp only [Option.some.injEq, Addr.mk.injEq, and_true] at e'
  obtain ⟨rfl, rfl⟩ := e'
  generalize putV h.size 12 = pz at c3 cv
  go_quiet (fail)
  clear c1 c2 c3 c4 c5 cv s1 s2 s3 s4 x0 x1 x2 x3 x4 x5 x6 x7 x8 x9 x10
  generalize hq : w4.drewN _ = w5
  have hr5 : RdA w5 (some ⟨b, o, none⟩) cp (bs B) := by rw [← hq]; exact Hr.out
  have hb5 : Blk w5 hb 23 (hcells h) := by rw [← hq]; exact Hb.out
  have h5 : Stp w w5 := by rw [← hq]; exact Stp.drewN h0 _
  clear hq Hr Hb h0 Hv4
  have Hr := Lib.hid hr5
  have Hb := Lib.hid hb5
  have h0 := h5
  clear hr5 h5
  obtain ⟨x0, x1, x2, x3, x4, x5, x6, x7, x8, x9, x10⟩ := hd_cells hb5
  clear hb5
  go_wp2_with (first
    | (go_at_call 20; (with_reducible refine (put_all h.off 12 _ Hof.out).mono ?_); rintro e w6 ⟨v6, rfl, hv6, hs⟩; have Hv6 := Lib.hid hv6; replace Hb := Lib.hid (Hb.out.keep hs Hb.out.lt); replace Hr := Lib.hid (Hr.out.keep hs); replace h0 := Stp.trans h0 hs; clear hs hv6; clear x0 x1 x2 x3 x4 x5 x6 x7 x8 x9 x10; obtain ⟨x0, x1, x2, x3, x4, x5, x6, x7, x8, x9, x10⟩ := hd_cells Hb.out; generalize putOk h.off 12 = ok6)
    | (go_at_call 20; (with_reducible refine (put_all h.real 12 _ Hre.out).mono ?_); rintro e w7 ⟨v7, rfl, hv7, hs⟩; have Hv7 := Lib.hid hv7; replace Hv6 := Lib.hid (Rd.keep Hv6.out.rd hs); replace Hb := Lib.hid (Hb.out.keep hs Hb.out.lt); replace Hr := Lib.hid (Hr.out.keep hs); replace h0 := Stp.trans h0 hs; clear hs hv7; clear x0 x1 x2 x3 x4 x5 x6 x7 x8 x9 x10; generalize putOk h.real 12 = ok7))
  have s7 : ∀ w : World, (Instr.slice 24 (.slice (some ⟨b, o, none⟩) B.length cp) (some (.int .i64 369)) (some (.int .i64 381)) none).run Try.prog w = .ok (.slice (some ⟨b, o + 369, none⟩) 12 (cp - 369)) w := fun w => slice_lh2 b o B.length cp 369 12 (by omega) (by omega) w
  have s8 : ∀ w : World, (Instr.slice 24 (.slice (some ⟨b, o, none⟩) B.length cp) (some (.int .i64 483)) (some (.int .i64 495)) none).run Try.prog w = .ok (.slice (some ⟨b, o + 483, none⟩) 12 (cp - 483)) w := fun w => slice_lh2 b o B.length cp 483 12 (by omega) (by omega) w
  have c7 := piece 369 12 Hr.out (by rw [Hl.out]; omega) Q6.out
  have c8 := piece 483 12 Hr.out (by rw [Hl.out]; omega) Q7.out
  have cv6 : ∀ j, (convert 24 9 v6).run Try.prog (w7.drewN j) = .ok (.string ⟨(putV h.off 12).toArray⟩) (w7.drewN j) := fun j => Num.str_of (w7.drewN j) _ _ _ (show Rd (w7.drewN j) _ _ _ from Hv6.out)
  have cv7 : ∀ j, (convert 24 9 v7).run Try.prog (w7.drewN j) = .ok (.string ⟨(putV h.real 12).toArray⟩) (w7.drewN j) := fun j => Num.str_of (w7.drewN j) _ _ _ (show Rd (w7.drewN j) _ _ _ from Hv7.out.rd)
  generalize putV h.off 12 = p6 at c7 cv6
  generalize putV h.real 12 = p7 at c8 cv7
  go_quiet (fail)
  go_wp2_with fail
  go_ret
  exact ⟨rfl, Stp.drewN h0 _⟩

theorem places_any (h : Hd) (hsm : SmallH h) (w : World) :
    Calls Try.prog 8 #[hv h] w fun e w' => e = .returned (.bool true) ∧ Below w.heap.size w w' := by
  by_cases hin : fewB h = false ∨ mayH h = false
  · exact places_early h hsm w hin
  · simp only [not_or, Bool.not_eq_false] at hin
    by_cases ht : h.ty = 77
    · exact places_m h hsm w hin.1 hin.2 ht
    · exact places_n h hsm w hin.1 hin.2 ht
end Go.Proofs.Ytjbihmbnfkpbpaa.Head
