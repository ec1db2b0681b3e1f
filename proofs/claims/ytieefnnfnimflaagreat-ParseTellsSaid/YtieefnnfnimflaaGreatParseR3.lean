/-
  What package parse's code does with the block of a long text: takeName, takeLink. No statement is proved here.
-/
import Derived.Test.YtieefnnfnimflaaGreatParseR2
import Derived.RegionDies
namespace Go.Proofs.YtieefnnfnimflaaGreat.Parse
open Go.RowKit Go.Proofs.YtieefnnfnimflaaGreat.Base Go.Proofs.YtieefnnfnimflaaGreat.Node Go.Proofs.YtieefnnfnimflaaGreat.Long

theorem stp_dr {w w1 : World} (h : Stp w w1) : Stp w w1.drew := Below.drew h
theorem text_yes (g lo : Nat) (s : St) (v : Value) (q : Nat) (hq : s.size = (q : Int) + 1) (h1 : 1 ≤ q) (h2 : q ≤ 300) (b : L) (hb : b.length = 512) (A : Option Addr) (c : Nat) (T : L) (hT : b.take q = T) (ht : textL (b.take q) = true ∧ BlockM.zeroV (b.drop q) = true) (w : World) (h : Lies w g lo s v []) (ha : RdA w A c (bs b)) :
    Calls Tryz.prog 93 #[.pointer (some ⟨g, 0, none⟩), .slice A b.length c] w fun e w' => e = .returned (.string ⟨T.toArray⟩) ∧ Stp w w' := by
  subst hT
  exact (text_p g lo s v q hq h1 h2 b hb A c w h ha).mono fun _ _ hh => ⟨(hh.1.resolve_right (fun hn => hn.1 ht)).2, hh.2⟩
theorem text_no (g lo : Nat) (s : St) (v : Value) (q : Nat) (hq : s.size = (q : Int) + 1) (h1 : 1 ≤ q) (h2 : q ≤ 300) (b : L) (hb : b.length = 512) (A : Option Addr) (c : Nat) (ht : ¬ (textL (b.take q) = true ∧ BlockM.zeroV (b.drop q) = true)) (w : World) (h : Lies w g lo s v []) (ha : RdA w A c (bs b)) :
    Calls Tryz.prog 93 #[.pointer (some ⟨g, 0, none⟩), .slice A b.length c] w fun e w' => e = .panicked [pe 2] ∧ Stp w w' :=
  (text_p g lo s v q hq h1 h2 b hb A c w h ha).mono fun _ _ hh => ⟨(hh.1.resolve_left (fun hn => ht hn.1)).2, hh.2⟩
theorem Lies.all {w : World} {g lo : Nat} {s : St} {v : Value} {xs : List Evt} (h : Lies w g lo s v xs) {W : World} (hW : Stp w W) : W.cell? ⟨g, 0, none⟩ = some (.int .i64 s.phase) ∧ W.cell? ⟨g, 1, none⟩ = some (.string ⟨s.node.path.toArray⟩) ∧ W.cell? ⟨g, 2, none⟩ = some (.string ⟨s.node.link.toArray⟩) ∧ W.cell? ⟨g, 3, none⟩ = some (.int .u8 (s.node.kind.toNat : Int)) ∧ W.cell? ⟨g, 4, none⟩ = some (.int .i64 s.node.mode) ∧ W.cell? ⟨g, 5, none⟩ = some (.int .i64 s.node.uid) ∧ W.cell? ⟨g, 6, none⟩ = some (.int .i64 s.node.gid) ∧ W.cell? ⟨g, 7, none⟩ = some (.int .i64 s.node.time) ∧ W.cell? ⟨g, 8, none⟩ = some (.string ⟨s.node.data.toArray⟩) ∧ W.cell? ⟨g, 9, none⟩ = some (.int .i64 s.size) ∧ W.cell? ⟨g, 10, none⟩ = some (.int .i64 s.left) ∧ W.cell? ⟨g, 11, none⟩ = some (.string ⟨s.text.toArray⟩) ∧ W.cell? ⟨g, 12, none⟩ = some (.string ⟨s.name.toArray⟩) ∧ W.cell? ⟨g, 13, none⟩ = some (.string ⟨s.link.toArray⟩) ∧ (∀ i, W.frozen? ⟨g, i, none⟩ = false) := by
  obtain ⟨q0, q1, q2, q3, q4, q5, q6, q7, q8, q9, q10, q11, q12, q13, -⟩ := (h.keep hW).cells
  exact ⟨q0, q1, q2, q3, q4, q5, q6, q7, q8, q9, q10, q11, q12, q13, (h.keep hW).free⟩

set_option maxRecDepth 100000 in
set_option maxHeartbeats 1000000 in
theorem name_s (g lo : Nat) (s : St) (v : Value) (q : Nat) (hq : s.size = (q : Int) + 1) (h1 : 1 ≤ q) (h2 : q ≤ 300) (b : L) (hb : b.length = 512) (A : Option Addr) (c : Nat) (w : World) (h : Lies w g lo s v []) (ha : RdA w A c (bs b)) :
    Calls Tryz.prog 63 #[.pointer (some ⟨g, 0, none⟩), .slice A b.length c] w fun e w' => Took g lo (if textL (b.take q) = true ∧ BlockM.zeroV (b.drop q) = true then (⟨0, zeroN, 0, 0, [], b.take q, s.link⟩, [], 0) else (s, [], 2)) w e w' := by
  have H := Lib.hid h
  have Key := Lib.hid (fun (W : World) (hW : Stp w W) => h.all hW)
  by_cases hP : textL (b.take q) = true ∧ BlockM.zeroV (b.drop q) = true
  · rw [if_pos hP]
    obtain ⟨T, hT⟩ : ∃ T, b.take q = T := ⟨_, rfl⟩
    have HY := Lib.hid (fun (W : World) (hW : Stp w W) => text_yes g lo s v q hq h1 h2 b hb A c T hT hP W (h.keep hW) (ha.keep hW))
    rw [hT]
    obtain ⟨q0, q1, q2, q3, q4, q5, q6, q7, q8, q9, q10, q11, q12, q13, -⟩ := h.cells
    have hz := h.free
    clear hP hT h ha hb hq h1 h2 Key
    go_enter Tryz.func63, Tryz.ntmps63
    go_region_with (first
      | (go_at_call 93; refine (HY.out w.drew (stp_dr (Stp.refl w))).mono ?_; rintro e w2 ⟨rfl, hs⟩; have H2 := Lib.hid (Stp.trans (stp_dr (Stp.refl w)) hs); clear hs; clear q0 q1 q2 q3 q4 q5 q6 q7 q8 q9 q10 q11 q12 q13 hz; obtain ⟨q0, q1, q2, q3, q4, q5, q6, q7, q8, q9, q10, q11, q12, q13, -⟩ := (H.out.keep H2.out).cells; have hz := (H.out.keep H2.out).free))
    all_goals go_wp2_with fail
    all_goals change bodyPost _ _ _ _ _ (fillP w2 g ⟨0, zeroN, 0, 0, [], T, s.link⟩)
    all_goals go_end0
    all_goals
      have hl := H.out.keep H2.out
      exact took_go (fillP_lies ⟨0, zeroN, 0, 0, [], T, s.link⟩ hl) ((Kp.of_stp H2.out H.out.le).trans (hl.kp (fillP_tch ⟨0, zeroN, 0, 0, [], T, s.link⟩ (Tch.refl g v w2))))
  · rw [if_neg hP]
    have HY := Lib.hid (fun (W : World) (hW : Stp w W) => text_no g lo s v q hq h1 h2 b hb A c hP W (h.keep hW) (ha.keep hW))
    obtain ⟨q0, q1, q2, q3, q4, q5, q6, q7, q8, q9, q10, q11, q12, q13, -⟩ := h.cells
    have hz := h.free
    clear hP h ha hb hq h1 h2 Key
    go_enter Tryz.func63, Tryz.ntmps63
    go_region_dies
    all_goals go_wp2_with (go_at_call 93; refine (HY.out w.drew (stp_dr (Stp.refl w))).mono ?_; rintro e w2 ⟨rfl, hs⟩; exact ⟨rfl, took_no (by decide) (Kp.of_stp (Stp.trans (stp_dr (Stp.refl w)) hs) H.out.le)⟩)

set_option maxRecDepth 100000 in
set_option maxHeartbeats 1000000 in
theorem link_s (g lo : Nat) (s : St) (v : Value) (q : Nat) (hq : s.size = (q : Int) + 1) (h1 : 1 ≤ q) (h2 : q ≤ 300) (b : L) (hb : b.length = 512) (A : Option Addr) (c : Nat) (w : World) (h : Lies w g lo s v []) (ha : RdA w A c (bs b)) :
    Calls Tryz.prog 64 #[.pointer (some ⟨g, 0, none⟩), .slice A b.length c] w fun e w' => Took g lo (if textL (b.take q) = true ∧ BlockM.zeroV (b.drop q) = true then (⟨0, zeroN, 0, 0, [], s.name, b.take q⟩, [], 0) else (s, [], 2)) w e w' := by
  have H := Lib.hid h
  have Key := Lib.hid (fun (W : World) (hW : Stp w W) => h.all hW)
  by_cases hP : textL (b.take q) = true ∧ BlockM.zeroV (b.drop q) = true
  · rw [if_pos hP]
    obtain ⟨T, hT⟩ : ∃ T, b.take q = T := ⟨_, rfl⟩
    have HY := Lib.hid (fun (W : World) (hW : Stp w W) => text_yes g lo s v q hq h1 h2 b hb A c T hT hP W (h.keep hW) (ha.keep hW))
    rw [hT]
    obtain ⟨q0, q1, q2, q3, q4, q5, q6, q7, q8, q9, q10, q11, q12, q13, -⟩ := h.cells
    have hz := h.free
    clear hP hT h ha hb hq h1 h2 Key
    go_enter Tryz.func64, Tryz.ntmps64
    go_region_with (first
      | (go_at_call 93; refine (HY.out w.drew (stp_dr (Stp.refl w))).mono ?_; rintro e w2 ⟨rfl, hs⟩; have H2 := Lib.hid (Stp.trans (stp_dr (Stp.refl w)) hs); clear hs; clear q0 q1 q2 q3 q4 q5 q6 q7 q8 q9 q10 q11 q12 q13 hz; obtain ⟨q0, q1, q2, q3, q4, q5, q6, q7, q8, q9, q10, q11, q12, q13, -⟩ := (H.out.keep H2.out).cells; have hz := (H.out.keep H2.out).free))
    all_goals go_wp2_with fail
    all_goals change bodyPost _ _ _ _ _ (fillP w2 g ⟨0, zeroN, 0, 0, [], s.name, T⟩)
    all_goals go_end0
    all_goals
      have hl := H.out.keep H2.out
      exact took_go (fillP_lies ⟨0, zeroN, 0, 0, [], s.name, T⟩ hl) ((Kp.of_stp H2.out H.out.le).trans (hl.kp (fillP_tch ⟨0, zeroN, 0, 0, [], s.name, T⟩ (Tch.refl g v w2))))
  · rw [if_neg hP]
    have HY := Lib.hid (fun (W : World) (hW : Stp w W) => text_no g lo s v q hq h1 h2 b hb A c hP W (h.keep hW) (ha.keep hW))
    obtain ⟨q0, q1, q2, q3, q4, q5, q6, q7, q8, q9, q10, q11, q12, q13, -⟩ := h.cells
    have hz := h.free
    clear hP h ha hb hq h1 h2 Key
    go_enter Tryz.func64, Tryz.ntmps64
    go_region_dies
    all_goals go_wp2_with (go_at_call 93; refine (HY.out w.drew (stp_dr (Stp.refl w))).mono ?_; rintro e w2 ⟨rfl, hs⟩; exact ⟨rfl, took_no (by decide) (Kp.of_stp (Stp.trans (stp_dr (Stp.refl w)) hs) H.out.le)⟩)
end Go.Proofs.YtieefnnfnimflaaGreat.Parse
