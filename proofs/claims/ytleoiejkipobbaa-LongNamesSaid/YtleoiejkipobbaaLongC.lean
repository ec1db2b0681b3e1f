/-
  Contracts of package long: no statement is proved here.
-/
import Derived.Test.YtleoiejkipobbaaLongM
import Derived.Test.YtleoiejkipobbaaSlices
import Derived.Test.YtleoiejkipobbaaHeadMay2
import Derived.Test.YtleoiejkipobbaaHeadHlp
import Derived.Test.YtleoiejkipobbaaBlockC
import Derived.Test.YtleoiejkipobbaaPathS
namespace Go.Proofs.Ytleoiejkipobbaa.Long
open Go.RowKit Go.Proofs.Ytleoiejkipobbaa.Str Go.Proofs.Ytleoiejkipobbaa.Base Go.Proofs.Ytleoiejkipobbaa.Node Go.Proofs.Ytleoiejkipobbaa.Head

theorem ty_ne (c : UInt8) (n : Nat) (hn : n < 256) : ((c.toNat : Int) != (n : Int)) = !(decide (c = UInt8.ofNat n)) := by rw [bne, ty_eq c n hn]
theorem index_neg {s : L} {i : Int} (h : Lib.indexByte s 0 = i) : decide (i < 0) = !(s.contains 0) := by
  rw [Bool.eq_iff_iff, decide_eq_true_eq, Bool.not_eq_true', ← Bool.not_eq_true, List.contains_iff_mem, ← PathM.indexByte_neg.trans Iff.rfl, h]
  have := Lib.indexByte_ge s 0
  rw [h] at this
  omega

set_option maxRecDepth 100000 in
theorem text_s (s : L) (w : World) :
    Calls Try.prog 33 #[.string ⟨s.toArray⟩] w fun e w' => e = .returned (.bool (textL s)) ∧ Stp w w' := by
  have h0 := Stp.refl w
  obtain ⟨i, hi⟩ : ∃ i, Lib.indexByte s 0 = i := ⟨_, rfl⟩
  have hx := index_neg hi
  have Hi := Lib.hid hi
  obtain ⟨c, hc⟩ : ∃ c, s.contains 0 = c := ⟨_, rfl⟩
  have ht : textL s = (decide (1 ≤ s.length) && (decide (s.length ≤ 300) && !c)) := by rw [← hc]; rfl
  rw [hc] at hx
  rw [ht]
  clear hi ht hc
  go_enter Try.func33, Try.ntmps33
  go_wp2_with (go_at_call 58; refine (index0_s s i Hi.out _).mono ?_; rintro e w' ⟨rfl, rfl⟩)
  all_goals go_ret
  · refine ⟨congrArg (fun b => Ending.returned (.bool b)) ?_, h0⟩
    rw [decide_eq_true (show 1 ≤ s.length by omega), decide_eq_true (show s.length ≤ 300 by omega)]
    simp
  · refine ⟨congrArg (fun b => Ending.returned (.bool b)) ?_, h0⟩
    show false = _
    rw [decide_eq_false (show ¬ s.length ≤ 300 by omega)]
    simp
  · refine ⟨congrArg (fun b => Ending.returned (.bool b)) ?_, h0⟩
    show false = _
    rw [decide_eq_false (show ¬ 1 ≤ s.length by omega)]
    simp

theorem put_v (h : Hd) (v : Value) (e : v = hv h) (hs : SmallH h) (w : World) :
    Calls Try.prog 13 #[v] w fun e w' => ∃ A cap, e = .returned (.tuple #[.slice A (putB h).length cap, .bool (mayH h)]) ∧ RdA w' A cap (bs (putB h)) ∧ Stp w w' := by
  subst e
  exact put_s h hs w
theorem cut_v (s : L) (v : ByteArray) (e : v = ⟨s.toArray⟩) (ls : List L) (h : BlockM.cutV s = ls) (n : Nat) (hn : ls.length = n) (w : World) (hs : s.length ≤ 1000000) :
    Calls Try.prog 61 #[.string v] w fun e w' => ∃ A cap, e = .returned (.slice A n cap) ∧ RdL w' A cap ls ∧ Stp w w' := by
  subst e h hn
  exact Block.cut_s s w hs

theorem ok_of {k : UInt8} {s : L} {t : Bool} (ht : textL s = t) (h : (!t) = false) (hk : (k.toNat : Int) = 75 ∨ (k.toNat : Int) = 76) : putOkL k s = true := by
  rw [putOkL_iff, ht]
  refine ⟨hk.imp (fun e => UInt8.toNat_inj.1 ?_) (fun e => UInt8.toNat_inj.1 ?_), by simpa using h⟩
  · show k.toNat = 75
    omega
  · show k.toNat = 76
    omega
theorem no_of {k : UInt8} {s : L} {t : Bool} (ht : textL s = t) (h : (!t) = true) : putOkL k s = false := by
  rw [Bool.eq_false_iff]
  intro q
  have := (putOkL_iff.1 q).2
  rw [ht] at this
  simp [this] at h
theorem no_of2 {k : UInt8} {s : L} (h1 : ¬ (k.toNat : Int) = 75) (h2 : ¬ (k.toNat : Int) = 76) : putOkL k s = false := by
  rw [Bool.eq_false_iff]
  intro q
  rcases (putOkL_iff.1 q).1 with rfl | rfl
  · exact h1 rfl
  · exact h2 rfl
theorem llH_v (k : UInt8) (s : L) (kk : Int) (hk : kk = (k.toNat : Int)) : Value.agg #[.string { data := #[46, 47, 46, 47, 64, 76, 111, 110, 103, 76, 105, 110, 107] }, .string { data := #[] }, .string { data := #[] }, .int .i64 0, .int .i64 0, .int .i64 0, .int .i64 ((s.length : Int) + 1), .int .i64 0, .int .u8 kk, .int .i64 0, .int .i64 0] = hv (llH k s) := by subst hk; rfl
theorem slices_info : (Try.prog.info? 24).map (fun i => (i.zero, i.size, i.bytes)) = some (some (.slice none 0 0), 1, 24) := by kernel_rfl

set_option maxRecDepth 100000 in
set_option maxHeartbeats 2000000 in
theorem lput_s (k : UInt8) (s : L) (w : World) (hs : s.length ≤ 900000) :
    Calls Try.prog 23 #[.int .u8 (k.toNat : Int), .string ⟨s.toArray⟩] w fun e w' => ∃ A cap, e = .returned (.tuple #[.slice A (putLs k s).length cap, .bool (putOkL k s)]) ∧ RdL w' A cap (putLs k s) ∧ Stp w w' := by
  have h0 := Stp.refl w
  obtain ⟨t, ht⟩ : ∃ t, textL s = t := ⟨_, rfl⟩
  have Ht := Lib.hid ht
  clear ht
  have Hsz := Lib.hid hs
  have hadd := add_ll s [0] (by simp; omega)
  go_enter Try.func23, Try.ntmps23
  go_wp2_with (first
    | (go_at_call 33; refine (text_s s _).mono ?_; rintro e w1 ⟨rfl, hs1⟩; have H1 := Lib.hid (Stp.trans h0 hs1); clear hs1; rw [Ht.out])
    | (go_at_call 13; go_loud (have Hok := Lib.hid (ok_of (k := k) Ht.out ‹(!t) = false› (by omega)); (with_reducible refine (put_v (llH k s) _ (llH_v k s _ (by omega)) (llH_small (by have := Hsz.out; omega)) _).mono ?_); rintro e w2 ⟨A2, c2, rfl, hr, hs2⟩; rw [putB_yes (llH_may Hok.out)] at hr; rw [putB_yes (llH_may Hok.out), blk_length (llH_may Hok.out) (llH_small (by have := Hsz.out; omega))]; rw [llH_may Hok.out]; have Hr := Lib.hid hr; have H2 := Lib.hid (Stp.trans H1.out hs2); clear hr hs2))
    | (go_at_call 61; go_loud ((with_reducible refine (cut_v (s ++ [0]) _ rfl [BlockM.blk (s ++ [0])] (cut_long (putOkL_iff.1 Hok.out).2) 1 rfl _ (by have := Hsz.out; simp; omega)).mono ?_); rintro e w3 ⟨A3, c3, rfl, hr3, hs3⟩; have Hr3 := Lib.hid hr3; have HR := Lib.hid ((Rows.one (e := 24) Hr.out (blk_length (llH_may Hok.out) (llH_small (by have := Hsz.out; omega)))).keep hs3); have H3 := Lib.hid (Stp.trans (Stp.alloc H2.out (.cells #[.slice A2 512 c2] 24)) hs3); have h23 := H2.out.size; have h32 := hs3.size; rw [World.size_alloc] at h32; clear hr3 hs3))
    | (at_builtin; go_loud (refine wpList_append_rows (P := Try.prog) rfl (.tmp 33) (.tmp 35) 37 rfl 24 Try.underlying37 slices_info _ rfl HR.out rfl Hr3.out rfl (by simp) (by omega) ?_; intro v' w4 hR4 hg4; have H4 := Lib.hid (HR.out.stp H3.out h23 hg4); obtain ⟨A4, c4, rfl, hL4⟩ := hR4.rdL; have HL4 := Lib.hid hL4; clear hR4 hg4 hL4)))
  all_goals go_ret2
  · rw [putLs_no (no_of Ht.out ‹(!t) = true›), no_of Ht.out ‹(!t) = true›]
    exact ⟨none, 0, rfl, RdL.nil _, H1.out⟩
  · rw [putLs_yes Hok.out, Hok.out]
    exact ⟨A4, c4, rfl, HL4.out, H4.out⟩
  · rw [putLs_no (no_of Ht.out ‹(!t) = true›), no_of Ht.out ‹(!t) = true›]
    exact ⟨none, 0, rfl, RdL.nil _, H1.out⟩
  · rw [putLs_yes Hok.out, Hok.out]
    exact ⟨A4, c4, rfl, HL4.out, H4.out⟩
  · have hno := no_of2 (k := k) (s := s) (by assumption) (by assumption)
    rw [putLs_no hno, hno]
    exact ⟨none, 0, rfl, RdL.nil _, h0⟩
theorem lput_v (k : UInt8) (kk : Int) (hk : kk = (k.toNat : Int)) (s : L) (w : World) (hs : s.length ≤ 900000) :
    Calls Try.prog 23 #[.int .u8 kk, .string ⟨s.toArray⟩] w fun e w' => ∃ A cap, e = .returned (.tuple #[.slice A (putLs k s).length cap, .bool (putOkL k s)]) ∧ RdL w' A cap (putLs k s) ∧ Stp w w' := by
  subst hk
  exact lput_s k s w hs
theorem text_v (s : L) (v : ByteArray) (e : v = ⟨s.toArray⟩) (w : World) :
    Calls Try.prog 33 #[.string v] w fun e w' => e = .returned (.bool (textL s)) ∧ Stp w w' := by
  subst e
  exact text_s s w
theorem e75 : (75 : Int) = ((75 : UInt8).toNat : Int) := rfl
theorem e76 : (76 : Int) = ((76 : UInt8).toNat : Int) := rfl
end Go.Proofs.Ytleoiejkipobbaa.Long
