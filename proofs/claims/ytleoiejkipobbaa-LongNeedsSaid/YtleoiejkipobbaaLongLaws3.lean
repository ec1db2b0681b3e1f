/-
  The walk of LongBack: no statement is proved here.
-/
import Derived.Test.YtleoiejkipobbaaLongLaws
namespace Go.Proofs.Ytleoiejkipobbaa.Long
open Go.RowKit Go.Proofs.Ytleoiejkipobbaa.Str Go.Proofs.Ytleoiejkipobbaa.Base Go.Proofs.Ytleoiejkipobbaa.Node Go.Proofs.Ytleoiejkipobbaa.Head

/-- Two blocks. -/
theorem rdL_two {w : World} {A : Option Addr} {c : Nat} {x y : L} (h : RdL w A c [x, y]) : ∃ b o A1 c1 A2 c2, A = some ⟨b, o, none⟩ ∧ 2 ≤ c ∧ w.cell? ⟨b, o, none⟩ = some (.slice A1 x.length c1) ∧ RdA w A1 c1 (bs x) ∧
    w.cell? ⟨b, o + 1, none⟩ = some (.slice A2 y.length c2) ∧ RdA w A2 c2 (bs y) := by
  obtain ⟨b, o, A1, c1, rfl, e1, r1⟩ := h.at_ (j := 0) (l := x) rfl
  obtain ⟨b', o', A2, c2, q, e2, r2⟩ := h.at_ (j := 1) (l := y) rfl
  simp only [Option.some.injEq, Addr.mk.injEq, and_true] at q
  obtain ⟨rfl, rfl⟩ := q
  exact ⟨b, o, A1, c1, A2, c2, rfl, h.length_le, e1, r1, e2, r2⟩
theorem RdL.tail {w : World} {b o c : Nat} {x : L} {ls : List L} (h : RdL w (some ⟨b, o, none⟩) c (x :: ls)) : RdL w (some ⟨b, o + 1, none⟩) (c - 1) ls := by
  obtain ⟨us, h1, h2, h3⟩ := h
  obtain ⟨u, us, rfl⟩ : ∃ u vs, us = u :: vs := by
    cases us with
    | nil => simp at h1
    | cons u vs => exact ⟨u, vs, rfl⟩
  simp only [List.length_cons, Nat.add_right_cancel_iff] at h1
  have hc := h2.length_le
  rw [List.length_cons] at hc
  refine ⟨us, h1, ?_, fun j l hj => ?_⟩
  · refine ⟨_, _, rfl, by omega, fun _ => ?_⟩
    obtain ⟨b', o', e, hb⟩ := h2.at_ (j := 0) (by simp)
    simp only [Option.some.injEq, Addr.mk.injEq, and_true] at e
    obtain ⟨rfl, rfl⟩ := e
    refine ⟨b, o + 1, rfl, World.block_lt_of_cell? w _ (hb 0 u rfl), fun j v hv => ?_⟩
    have := hb (j + 1) v (by simpa using hv)
    rwa [show o + (j + 1) = o + 1 + j by omega] at this
  · obtain ⟨v, hv, hr⟩ := h3 (j + 1) l (by simpa using hj)
    exact ⟨v, by simpa using hv, hr⟩
theorem slice_tail (b o n c : Nat) (h1 : 1 ≤ n) (h2 : 2 ≤ c) (w : World) : (Instr.slice 37 (.slice (some ⟨b, o, none⟩) n c) (some (.int .i64 1)) none none).run Try.prog w = .ok (.slice (some ⟨b, o + 1, none⟩) (n - 1) (c - 1)) w := by
  have he : Try.prog.elem 37 = 24 := by kernel_rfl
  have hs : (sizeOf 24).run Try.prog w = .ok 1 w := by
    have hi : (Try.prog.info? 24).map (·.size) = some 1 := by kernel_rfl
    cases hq : Try.prog.info? 24 with
    | none => simp [hq] at hi
    | some i =>
      have : i.size = 1 := by simpa [hq] using hi
      simp [sizeOf, typeInfo, hq, this]
  rw [run_slice_l (P := Try.prog) w 37 _ _ _ (by rw [he]; exact Try.underlying37) .i64 1 (by omega) (by omega), he, hs]
  simp only [Result.andThen_ok, sliced]
  rw [if_neg (by simp; omega)]
  rfl

theorem long_text {s : L} (h : textL s = true) : BlockM.textV [BlockM.blk (s ++ [0])] ((s.length : Int) + 1) = s ++ [0] ∧ BlockM.textB [BlockM.blk (s ++ [0])] ((s.length : Int) + 1) = true := by
  have e : (((s ++ [0]).length : Nat) : Int) = (s.length : Int) + 1 := by simp
  rw [← e, ← cut_long h]
  exact ⟨BlockM.cutV_textV _, BlockM.cutV_textB _⟩
theorem text_n (ls : List L) (m : Nat) (hm : ls.length = m) (n : Int) (A : Option Addr) (c : Nat) (w : World) (ha : RdL w A c ls) (hl : ls.length ≤ 1000000) (hn : n < 9223372036854775808) (hn' : -9223372036854775808 ≤ n) :
    Calls Try.prog 34 #[.slice A m c, .int .i64 n] w fun e w' => e = .returned (.tuple #[.string ⟨(BlockM.textV ls n).toArray⟩, .bool (BlockM.textB ls n)]) ∧ Stp w w' := by
  subst hm
  exact Block.text_s ls n A c w ha hl hn hn'
theorem bmay_n (ls : List L) (m : Nat) (hm : ls.length = m) (A : Option Addr) (c : Nat) (w : World) (ha : RdL w A c ls) (hl : ls.length ≤ 1000000) :
    Calls Try.prog 35 #[.slice A m c] w fun e w' => e = .returned (.bool (BlockM.mayV ls)) ∧ Stp w w' := by
  subst hm
  exact Block.may_s ls A c w ha (by omega)
theorem not_ok {k : UInt8} {s : L} (h : putOkL k s = false) (h2 : textL s = true) : ¬ (k.toNat : Int) = 75 ∧ ¬ (k.toNat : Int) = 76 := by
  constructor
  · intro q
    rw [ok_of h2 rfl (.inl q)] at h
    cases h
  · intro q
    rw [ok_of h2 rfl (.inr q)] at h
    cases h

set_option maxRecDepth 100000 in
set_option maxHeartbeats 4000000 in
theorem back_walk (k : UInt8) (s : L) (w : World) (hsz : s.length ≤ 9223372036854775807) :
    Calls Try.prog 5 #[.int .u8 (k.toNat : Int), .string ⟨s.toArray⟩] w fun e w' => e = .returned (.bool true) ∧ Stp w w' := by
  have h0 := Stp.refl w
  cases hok : putOkL k s
  · have Hok := Lib.hid hok
    have Hls := Lib.hid (putLs_no hok)
    obtain ⟨t, ht⟩ : ∃ t, textL s = t := ⟨_, rfl⟩
    have Ht := Lib.hid ht
    have hno : t = true → ¬ (k.toNat : Int) = 75 ∧ ¬ (k.toNat : Int) = 76 := fun h => not_ok hok (ht.trans h)
    have Hno := Lib.hid hno
    clear hok ht hno
    go_enter Try.func5, Try.ntmps5
    go_wp2_with (first
      | (go_at_call 21; refine (awake_s _).mono ?_; rintro e w1 ⟨rfl, hs⟩; replace h0 := Stp.trans h0 hs; clear hs)
      | (go_at_call 23; refine (lput_s k s _ (by omega)).mono ?_; rintro e w2 ⟨A2, c2, rfl, hr, hs⟩; rw [Hls.out, Hok.out]; replace h0 := Stp.trans h0 hs; clear hs hr)
      | (go_at_call 33; refine (text_s s _).mono ?_; rintro e w3 ⟨rfl, hs⟩; rw [Ht.out]; replace h0 := Stp.trans h0 hs; clear hs; rcases t))
    all_goals go_ret
    all_goals first | exact ⟨rfl, h0⟩ | (exfalso; have q := Hno.out trivial; omega)
  · have Hok := Lib.hid hok
    have ht := (putOkL_iff.1 hok).2
    have Hls := Lib.hid (putLs_yes hok)
    have Ht := Lib.hid ht
    have Hm := Lib.hid (llH_may hok)
    have hl3 := (textL_iff.1 ht).2.1
    have Hsm := Lib.hid (llH_small (k := k) (s := s) (by omega))
    have Hg := Lib.hid (get_blk Hm.out Hsm.out)
    have Hc := Lib.hid (code_blk Hm.out Hsm.out)
    have Hbl := Lib.hid (blk_length Hm.out Hsm.out)
    have Ht1 := Lib.hid (long_text ht).1
    have Ht2 := Lib.hid (long_text ht).2
    have Hmay := Lib.hid (show BlockM.mayV [blk (llH k s), BlockM.blk (s ++ [0])] = true by rw [← Hls.out]; exact putLs_may k s)
    obtain ⟨B1, hB1⟩ : ∃ B, blk (llH k s) = B := ⟨_, rfl⟩
    obtain ⟨B2, hB2⟩ : ∃ B, BlockM.blk (s ++ [0]) = B := ⟨_, rfl⟩
    rw [hB1, hB2] at Hls Hmay
    rw [hB1] at Hg Hc Hbl
    rw [hB2] at Ht1 Ht2
    have hadd := add_ll s [0] (by simp; omega)
    clear hok ht hB1 hB2
    go_enter Try.func5, Try.ntmps5
    go_wp2_with (first
      | (go_at_call 21; refine (awake_s _).mono ?_; rintro e w1 ⟨rfl, hs⟩; have H1 := Lib.hid (Stp.trans h0 hs); clear hs)
      | (go_at_call 23; refine (lput_s k s _ (by omega)).mono ?_; rintro e w2 ⟨A2, c2, rfl, hr, hs⟩; rw [Hls.out] at hr; rw [Hls.out, Hok.out]; have H2 := Lib.hid (Stp.trans H1.out hs); obtain ⟨b, o, A3, c3, A4, c4, rfl, hc2, d0, r0, d1, r1⟩ := rdL_two hr; have Hr := Lib.hid hr; have R0 := Lib.hid r0; have hst := slice_tail b o 2 c2 (by omega) hc2; clear hs hr r0 r1 d1)
      | (go_at_call 15; refine (hget_n B1 _ _ c3 _ R0.out rfl).mono ?_; rintro e w3 ⟨rfl, hs⟩; rw [Hc.out, Hg.out]; have H3 := Lib.hid (Stp.trans H2.out hs); have Hr3 := Lib.hid (Hr.out.keep hs); have Hh := Lib.hid (Blk.new w3 23 (hcells (llH k s))); clear hs d0 R0 Hr)
      | (go_at_call 34; (with_reducible refine (text_n [B2] 1 rfl _ _ _ _ (RdL.tail (Hr3.out.keep (Stp.alloc (Stp.refl w3) _))) (by simp) (by omega) (by omega)).mono ?_); rintro e w4 ⟨rfl, hs⟩; rw [Ht1.out, Ht2.out]; have H4 := Lib.hid (Stp.trans (Stp.alloc H3.out (.cells (hcells (llH k s)) 23)) hs); have Hr4 := Lib.hid ((Hr3.out.keep (Stp.alloc (Stp.refl w3) (.cells (hcells (llH k s)) 23))).keep hs); have Hh4 := Lib.hid (Hh.out.keep hs Hh.out.lt); have x6 : w4.cell? ⟨w3.heap.size, 6, none⟩ = some (.int .i64 ((s.length : Int) + 1)) := (hd_cells Hh4.out).2.2.2.2.2.2.1; have x8 : w4.cell? ⟨w3.heap.size, 8, none⟩ = some (.int .u8 (k.toNat : Int)) := (hd_cells Hh4.out).2.2.2.2.2.2.2.2.1; clear hs Hr3 Hh)
      | (go_at_call 35; (with_reducible refine (bmay_n [B1, B2] 2 rfl _ _ _ Hr4.out (by simp)).mono ?_); rintro e w5 ⟨rfl, hs⟩; rw [Hmay.out]; have H5 := Lib.hid (Stp.trans H4.out hs); clear hs x6 x8)
      | (go_at_call 33; refine (text_s s _).mono ?_; rintro e w6 ⟨rfl, hs⟩; rw [Ht.out]; have H6 := Lib.hid (Stp.trans H5.out hs); clear hs))
    all_goals go_ret
    all_goals first | exact ⟨rfl, H6.out⟩ | exact ⟨rfl, H1.out⟩ | trace_state
end Go.Proofs.Ytleoiejkipobbaa.Long
