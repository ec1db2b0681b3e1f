/-
  Package label's own contracts: May, Name, Put, Get: no statement is proved here.
-/
import Derived.Test.YtokfhockdakhiaaDoorLabelG
import Derived.Test.YtokfhockdakhiaaDoorLabelI
import Derived.Test.YtokfhockdakhiaaDoorBlockK
import Derived.Test.YtokfhockdakhiaaDoorHeadGet
namespace Go.Proofs.YtokfhockdakhiaaDoor.Label
open Go.RowKit Go.Proofs.YtokfhockdakhiaaDoor.Str Go.Proofs.YtokfhockdakhiaaDoor.Base Go.Proofs.YtokfhockdakhiaaDoor.Head Go.Proofs.YtokfhockdakhiaaDoor.LabelM
set_option linter.unusedVariables false

theorem no_nought (s : L) {i : Int} (hi : Lib.indexByte s 0 = i) : (s.all fun x => x != 0) = decide (i < 0) := by
  subst hi
  rw [indexByte_upto, Bool.eq_iff_iff, decide_eq_true_eq, List.all_eq_true]
  by_cases h : (0 : UInt8) ∈ s
  · rw [if_pos h]
    constructor
    · intro hh
      have := hh 0 h
      simp at this
    · intro hh
      omega
  · rw [if_neg h]
    exact ⟨fun _ => by omega, fun _ x hx => bne_iff_ne.2 fun e => h (e ▸ hx)⟩
def lblB (s : L) : Bool := decide (1 ≤ s.length) && decide (s.length ≤ 88) && s.all fun x => x != 0
theorem mayLb_lbl (s : L) (n : Int) : mayLb s n = (lblB s && decide (1 ≤ n) && decide (n ≤ 999)) := by
  rw [mayLb, lblB, Bool.and_assoc (s.all fun x => x != 0), Bool.and_comm (s.all fun x => x != 0)]
set_option maxRecDepth 100000 in
set_option maxHeartbeats 4000000 in
theorem isLabel_s (s : L) (y : Nat) (hy : s.length = y) (hs : y ≤ 9223372036854775807) (b : Bool) (hb : lblB s = b) (w : World) :
    Calls Tryd.prog 25 #[.string ⟨s.toArray⟩] w fun e w' => e = .returned (.bool b) ∧ w' = w := by
  obtain ⟨i, hi⟩ : ∃ i, Lib.indexByte s 0 = i := ⟨_, rfl⟩
  have hsz : s.toArray.size = y := by rw [← hy]; simp
  obtain ⟨b1, k1⟩ : ∃ b, decide (1 ≤ (y : Int)) = b := ⟨_, rfl⟩
  obtain ⟨b2, k2⟩ : ∃ b, decide ((y : Int) ≤ 88) = b := ⟨_, rfl⟩
  obtain ⟨b3, k3⟩ : ∃ b, decide (i < 0) = b := ⟨_, rfl⟩
  have e1 : decide (1 ≤ y) = b1 := by rw [← k1]; exact decide_eq_decide.2 (by omega)
  have e2 : decide (y ≤ 88) = b2 := by rw [← k2]; exact decide_eq_decide.2 (by omega)
  rw [lblB, no_nought s hi, hy, e1, e2, k3] at hb
  subst hb
  have Hi := Lib.hid hi
  clear hi hy e1 e2
  cases b1 <;> cases b2 <;> cases b3
  all_goals
    go_enter Tryd.func25, Tryd.ntmps25
    go_wp2_with (go_at_call 45; refine (index0_s s i Hi.out _).mono ?_; rintro e w1 ⟨rfl, rfl⟩)
    go_ret
    exact ⟨rfl, rfl⟩
set_option maxRecDepth 100000 in
set_option maxHeartbeats 4000000 in
theorem lmay_s (s : L) (y : Nat) (hy : s.length = y) (hs : y ≤ 9223372036854775807) (n : Int) (b : Bool) (hb : mayLb s n = b) (w : World) :
    Calls Tryd.prog 17 #[.string ⟨s.toArray⟩, .int .i64 n] w fun e w' => e = .returned (.bool b) ∧ w' = w := by
  obtain ⟨b1, k1⟩ : ∃ b, lblB s = b := ⟨_, rfl⟩
  obtain ⟨b2, k2⟩ : ∃ b, decide (1 ≤ n) = b := ⟨_, rfl⟩
  obtain ⟨b3, k3⟩ : ∃ b, decide (n ≤ 999) = b := ⟨_, rfl⟩
  rw [mayLb_lbl, k1, k2, k3] at hb
  subst hb
  have K := Lib.hid k1
  have Hy := Lib.hid hy
  clear k1 hy
  cases b1 <;> cases b2 <;> cases b3
  all_goals
    go_enter Tryd.func17, Tryd.ntmps17
    go_wp2_with (go_at_call 25; refine (isLabel_s s y Hy.out hs _ K.out _).mono ?_; rintro e w1 ⟨rfl, rfl⟩)
    go_ret
    exact ⟨rfl, rfl⟩
set_option maxRecDepth 100000 in
set_option maxHeartbeats 4000000 in
theorem lname_s (s : L) (y : Nat) (hy : s.length = y) (hs : y ≤ 9223372036854775807) (n : Int) (x : L) (b : Bool) (hx : nameB s n = (x, b)) (w : World) (htab : Tab w) :
    Calls Tryd.prog 10 #[.string ⟨s.toArray⟩, .int .i64 n] w fun e w' => e = .returned (.tuple #[.string ⟨x.toArray⟩, .bool b]) ∧ Stp w w' := by
  have HT := Lib.hid htab
  have Hy := Lib.hid hy
  clear htab
  by_cases hm : mayLb s n = true
  · rw [nameB, if_pos hm] at hx
    rw [Prod.mk.injEq] at hx
    obtain ⟨rfl, rfl⟩ := hx
    obtain ⟨-, -, h88, h1, h9⟩ := mayLb_iff.1 hm
    have hd := itoa_of h1
    have hdl := dig_len (n := n.toNat) (by omega) (by omega)
    have hdl3 : (dig n.toNat).length ≤ 3 := by rw [hdl]; split <;> (try split) <;> omega
    obtain ⟨d, hdd⟩ : ∃ d, dig n.toNat = d := ⟨_, rfl⟩
    rw [nameV, hdd]
    rw [hdd] at hd hdl3
    have c1 := fun w => add_ll s volS (by rw [volS_len]; omega) w
    have c2 := fun w => add_ll (s ++ volS) d (by rw [List.length_append, volS_len]; omega) w
    replace c1 : ∀ w, (Op.stringOp .add ⟨s.toArray⟩ ⟨#[32, 86, 111, 108, 117, 109, 101, 32]⟩).run Tryd.prog w = .ok (.string ⟨(s ++ volS).toArray⟩) w := c1
    obtain ⟨u, hu⟩ : ∃ u, s ++ volS = u := ⟨_, rfl⟩
    rw [hu] at c1 c2 ⊢
    have Hm := Lib.hid hm
    have Hd := Lib.hid hd
    clear hm hd hdl hdl3 hdd hu hy h88
    go_enter Tryd.func10, Tryd.ntmps10
    go_wp2_with (first
      | (go_at_call 17; refine (lmay_s s y Hy.out hs n true Hm.out _).mono ?_; rintro e w1 ⟨rfl, rfl⟩)
      | (go_at_call 19; refine (Tryd.strconv_Itoa n (by omega) (by omega) _ HT.out).mono ?_; rintro e w2 ⟨rfl, k, os, rfl⟩; rw [Hd.out]))
    go_ret2
    exact ⟨rfl, Lib.below_grow _ _ (Nat.le_refl _) k os⟩
  · have hm2 : mayLb s n = false := by simpa using hm
    rw [nameB, if_neg hm] at hx
    rw [Prod.mk.injEq] at hx
    obtain ⟨rfl, rfl⟩ := hx
    have Hm := Lib.hid hm2
    clear hm hm2 hy
    go_enter Tryd.func10, Tryd.ntmps10
    go_wp2_with (go_at_call 17; refine (lmay_s s y Hy.out hs n false Hm.out _).mono ?_; rintro e w1 ⟨rfl, rfl⟩)
    go_ret2
    exact ⟨rfl, Stp.refl _⟩
set_option maxRecDepth 100000 in
set_option maxHeartbeats 4000000 in
theorem lput_s (s : L) (y : Nat) (hy : s.length = y) (hs : y ≤ 9223372036854775807) (n : Int) (x : L) (z : Nat) (b : Bool) (hv : putL s n = (x, b)) (hz : x.length = z) (w : World) (htab : Tab w) :
    Calls Tryd.prog 12 #[.string ⟨s.toArray⟩, .int .i64 n] w fun e w' => ∃ A c, e = .returned (.tuple #[.slice A z c, .bool b]) ∧ RdA w' A c (bs x) ∧ Stp w w' := by
  have HT := Lib.hid htab
  have H := Lib.hid (Stp.refl w)
  clear htab
  by_cases hm : mayLb s n = true
  · obtain ⟨h1, h2⟩ := name_may hm
    have hb := blk_length h1 h2
    have hp : putB (headV (nameV s n.toNat)) = Head.blk (headV (nameV s n.toNat)) := if_pos h1
    rw [putL, if_pos hm] at hv
    rw [Prod.mk.injEq] at hv
    obtain ⟨hv1, hv2⟩ := hv
    subst hv1 hv2
    obtain rfl : z = 512 := by rw [← hz, hb]
    have hnb : nameB s n = (nameV s n.toNat, true) := by rw [nameB, if_pos hm]
    obtain ⟨u, hu⟩ : ∃ u, nameV s n.toNat = u := ⟨_, rfl⟩
    rw [hu] at h1 h2 hb hp hnb ⊢
    have C := fun w => put_s (headV u) h2 w
    rw [hp, h1, hb] at C
    replace C := Lib.hid C
    have Hnb := Lib.hid hnb
    have Hy := Lib.hid hy
    clear hm hy hz hnb hp hb hu h1 h2
    go_enter Tryd.func12, Tryd.ntmps12
    go_wp2_with (first
      | (go_at_call 10; refine (lname_s s y Hy.out hs n u true Hnb.out _ HT.out).mono ?_; rintro e w1 ⟨rfl, hs1⟩; replace H := Lib.hid (Stp.trans H.out hs1); clear hs1)
      | (go_at_call 20; refine (C.out _).mono ?_; rintro e w2 ⟨A, c, rfl, hr, hst⟩; have HR := Lib.hid hr; replace H := Lib.hid (Stp.trans H.out hst); clear hr hst))
    go_ret2
    exact ⟨A, c, rfl, HR.out, H.out⟩
  · have hm2 : mayLb s n = false := by simpa using hm
    rw [putL, if_neg hm] at hv
    cases hv
    subst hz
    have Hnb : Hid (nameB s n = ([], false)) := Lib.hid (by rw [nameB, if_neg hm])
    have Hy := Lib.hid hy
    clear hm hm2 hy
    go_enter Tryd.func12, Tryd.ntmps12
    go_wp2_with (go_at_call 10; refine (lname_s s y Hy.out hs n [] false Hnb.out _ HT.out).mono ?_; rintro e w1 ⟨rfl, hs1⟩; replace H := Lib.hid (Stp.trans H.out hs1); clear hs1)
    go_ret2
    exact ⟨none, 0, rfl, RdA.nil _, H.out⟩
theorem get_key {l : L} (hc : codeB l = 0) {g : L} {n : Int} (hg : ∀ (s : L) (k : Nat), 1 ≤ k → k ≤ 999 → (getH l).name = nameV s k → g = s ∧ n = (k : Int)) {x : L} {b : Bool} (hp : putL g n = (x, b)) :
    ((x == l) = true → getL l = (g, n, 0)) ∧ ((x == l) = false → getL l = ([], 0, 11)) := by
  constructor
  · intro h
    obtain rfl := eq_of_beq h
    have hl := (ok_blk hc).2.2
    rw [putL] at hp
    split at hp
    · rename_i hm
      rw [Prod.mk.injEq] at hp
      rw [← hp.1]
      exact getL_put hm
    · rw [Prod.mk.injEq] at hp
      rw [← hp.1] at hl
      cases hl
  · intro h
    refine getL_none hc fun s m hm he => ?_
    obtain ⟨-, -, -, h1, h9⟩ := mayLb_iff.1 hm
    have hh := (put_code hm).2
    rw [he] at hh
    obtain ⟨e1, e2⟩ := hg s m.toNat (by omega) (by omega) (by rw [hh]; rfl)
    obtain rfl : n = m := by omega
    subst e1
    rw [putL, if_pos hm, Prod.mk.injEq] at hp
    rw [← hp.1, he] at h
    simp at h
theorem name_short {l : L} (hc : codeB l = 0) : (getH l).name.length ≤ 100 := by
  obtain ⟨-, -, -, h, -⟩ := may_parts (ok_blk hc).1
  have := okT_le (List.all_eq_true.1 h ((getH l).name, 100) (by unfold txo; split <;> simp))
  exact this
set_option maxRecDepth 100000 in
set_option maxHeartbeats 4000000 in
theorem lget_no (l : L) (hc : codeB l ≠ 0) (A : Option Addr) (c : Nat) (w : World) (ha : RdA w A c (bs l)) :
    Calls Tryd.prog 14 #[.slice A l.length c] w fun e w' => e = .returned (.tuple #[.string ⟨#[]⟩, .int .i64 0, .int .i64 (codeB l)]) ∧ Stp w w' := by
  have H := Lib.hid (Stp.refl w)
  have HB := Lib.hid ha
  obtain ⟨cd, hcd⟩ : ∃ cd, codeB l = cd := ⟨_, rfl⟩
  rw [hcd] at hc ⊢
  have k1 : (cd != 0) = true := by simp [hc]
  have Hc := Lib.hid hcd
  clear hcd hc ha
  go_enter Tryd.func14, Tryd.ntmps14
  go_wp2_with (go_at_call 18; refine (hget_s l A c _ HB.out).mono ?_; rintro e w2 ⟨rfl, hs1⟩; rw [Hc.out]; replace hs1 := Stp.alloc hs1 (.cells (hcells (getH l)) 35); replace H := Lib.hid (Stp.trans H.out hs1); clear hs1)
  go_ret3
  exact ⟨rfl, H.out⟩
set_option maxRecDepth 100000 in
set_option maxHeartbeats 4000000 in
theorem lget_yes (l : L) (hc : codeB l = 0) (s : L) (n e0 : Int) (hv : getL l = (s, n, e0)) (A : Option Addr) (c : Nat) (w : World) (ha : RdA w A c (bs l)) (htab : Tab w) :
    Calls Tryd.prog 14 #[.slice A l.length c] w fun e w' => e = .returned (.tuple #[.string ⟨s.toArray⟩, .int .i64 n, .int .i64 e0]) ∧ Stp w w' := by
  have H := Lib.hid (Stp.refl w)
  have HB := Lib.hid ha
  have HT := Lib.hid htab
  have HS := Lib.hid (name_short hc)
  have HK : Hid (∀ {g : L} {n : Int}, (∀ (s : L) (k : Nat), 1 ≤ k → k ≤ 999 → (getH l).name = nameV s k → g = s ∧ n = (k : Int)) → ∀ {x : L} {b : Bool}, putL g n = (x, b) → ((x == l) = true → getL l = (g, n, 0)) ∧ ((x == l) = false → getL l = ([], 0, 11))) := Lib.hid fun h _ _ hp => get_key hc h hp
  obtain ⟨G, hG⟩ : ∃ G, getH l = G := ⟨_, rfl⟩
  rw [hG] at HS HK
  have HG := Lib.hid hG
  have Hc := Lib.hid hc
  have Hv := Lib.hid hv
  clear hG hc ha htab hv
  go_enter Tryd.func14, Tryd.ntmps14
  go_wp2_with (first
    | (go_at_call 18; refine (hget_s l A c _ HB.out).mono ?_; rintro e w2 ⟨rfl, hs1⟩; rw [HG.out, Hc.out]; replace hs1 := Stp.alloc hs1 (.cells (hcells G) 35); obtain ⟨x0, x1, x2, x3, x4, x5, x6, x7, x8, x9, x10⟩ := hd_cells (Blk.new w2 35 (hcells G)); replace H := Lib.hid (Stp.trans H.out hs1); replace HB := Lib.hid (HB.out.keep hs1); clear hs1)
    | (go_at_call 22; refine (guess_s G.name HS.out _).mono ?_; rintro e w3 ⟨g, m, rfl, hgl, hs1, hgk⟩; replace H := Lib.hid (Stp.trans H.out hs1); replace HB := Lib.hid (HB.out.keep hs1); obtain ⟨⟨x, b⟩, hx⟩ : ∃ r, putL g m = r := ⟨_, rfl⟩; replace HK := Lib.hid (HK.out hgk hx); have HX := Lib.hid hx; have HGL := Lib.hid hgl; clear hs1 hgk hx hgl)
    | (go_at_call 12; refine (lput_s g _ rfl (Nat.le_trans HGL.out (by decide)) m x _ b HX.out rfl _ (HT.out.keep H.out)).mono ?_; rintro e w4 ⟨A4, c4, rfl, hr, hs1⟩; replace H := Lib.hid (Stp.trans H.out hs1); replace HB := Lib.hid (HB.out.keep hs1); have HR := Lib.hid hr; clear hr hs1)
    | (go_at_call 23; refine (equal_s x l A4 A c4 c _ HR.out HB.out).mono ?_; rintro e w5 ⟨rfl, hs1⟩; replace H := Lib.hid (Stp.trans H.out hs1); obtain ⟨q, hq⟩ : ∃ q, (x == l) = q := ⟨_, rfl⟩; rw [hq] at HK ⊢; clear hs1 hq))
  all_goals go_ret3
  · have e1 := HK.out.2 (by simpa using ‹(!q) = true›)
    rw [Hv.out, Prod.mk.injEq, Prod.mk.injEq] at e1
    obtain ⟨rfl, rfl, rfl⟩ := e1
    exact ⟨rfl, H.out⟩
  · have e1 := HK.out.1 (by simpa using ‹(!q) = false›)
    rw [Hv.out, Prod.mk.injEq, Prod.mk.injEq] at e1
    obtain ⟨rfl, rfl, rfl⟩ := e1
    exact ⟨rfl, H.out⟩
theorem lget_s (l : L) (z : Nat) (hz : l.length = z) (s : L) (n e0 : Int) (hg : getL l = (s, n, e0)) (A : Option Addr) (c : Nat) (w : World) (ha : RdA w A c (bs l)) (htab : Tab w) :
    Calls Tryd.prog 14 #[.slice A z c] w fun e w' => e = .returned (.tuple #[.string ⟨s.toArray⟩, .int .i64 n, .int .i64 e0]) ∧ Stp w w' := by
  subst hz
  by_cases hc : codeB l = 0
  · exact lget_yes l hc s n e0 hg A c w ha htab
  · rw [getL, if_pos hc] at hg
    rw [Prod.mk.injEq, Prod.mk.injEq] at hg
    obtain ⟨rfl, rfl, rfl⟩ := hg
    exact lget_no l hc A c w ha
/-- The code's package label keeps its contracts. -/
theorem labelI : LabelI where
  may := fun s y hy hs n b hb w => (lmay_s s y hy hs n b hb w).mono fun e w' ⟨h1, h2⟩ => ⟨h1, h2 ▸ Stp.refl w⟩
  name := fun s y hy hs n x b hx w htab => lname_s s y hy hs n x b hx w htab
  put := fun s y hy hs n x z b hv hz w htab => lput_s s y hy hs n x z b hv hz w htab
  get := fun l z hz s n e0 hg A c w ha htab => lget_s l z hz s n e0 hg A c w ha htab
end Go.Proofs.YtokfhockdakhiaaDoor.Label
