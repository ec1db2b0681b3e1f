/-
  The walks of the statements BlockJoin and BlockTells: no statement is proved here.
-/
import Derived.Test.YtfjkikodljdbeaaBlockRef2
namespace Go.Proofs.Ytfjkikodljdbeaa.Block
open Go.RowKit Go.Shelf Go.Proofs.Ytfjkikodljdbeaa.Base Go.Proofs.Ytfjkikodljdbeaa.BlockM Go.Proofs.Ytfjkikodljdbeaa.Str

/-! ### BlockJoin -/
theorem val_one (ys : List Handed) : ∀ u ∈ ys.map val, u.oneCell' = true := by
  intro u hu
  obtain ⟨x, _, rfl⟩ := List.mem_map.1 hu
  rfl
theorem holds_step {w w' : World} {ys : List Handed} (h : ∀ x ∈ ys, Holds x w) (hs : Stp w w') : ∀ x ∈ ys, Holds x w' := fun x hx => Blk.keep (h x hx) hs (Blk.lt (h x hx))
theorem holds_grown {w w' : World} {lo : Nat} {v : Value} {xs : List Value} {ys : List Handed} (h : ∀ x ∈ ys, Holds x w) (hv : Base.Own w lo 31 v xs) (hg : w.grownBy w' v.ownBlock) : ∀ x ∈ ys, Holds x w' :=
  fun x hx => Blk.grown (h x hx) hg (blk_not_own (h x hx) (by decide) hv)

theorem rd_len {w : World} {A : Option Addr} {c : Nat} {ys : List Handed} {ls : List L} (h : RdA w A c (ys.map val)) (e : ys.map (·.2) = ls) : Rd w w.heap.size (.slice A ls.length c) (ys.map val) := by
  have h' : Rd w w.heap.size (.slice A (ys.map val).length c) (ys.map val) := h
  rwa [List.length_map, ← List.length_map (f := (·.2)), e] at h'
/-- Two lists of blocks, one appended behind the other in a row of the call's own. -/
theorem join_fin {w w2 w4 w5 : World} {v1 v2 : Value} {C : Option Addr} {c3 : Nat} {la lb lab : List L} {ysa ysb : List Handed} (h0 : Stp w w4) (s24 : Stp w2 w4) (rab : RdH w2 C c3 lab)
    (hha : ∀ x ∈ ysa, Holds x w4) (hhb : ∀ x ∈ ysb, Holds x w4) (hv1 : Base.Own w4 w2.heap.size 31 v1 ([] ++ ysa.map val)) (hv2 : Base.Own w5 w2.heap.size 31 v2 ([] ++ ysa.map val ++ ysb.map val)) (hg2 : w4.grownBy w5 v1.ownBlock)
    (ea : ysa.map (·.2) = la) (eb : ysb.map (·.2) = lb) (e5a : ∀ b ∈ la, b.length = 512) (e5b : ∀ b ∈ lb, b.length = 512) (hw : w.heap.size ≤ w2.heap.size) :
    ∃ D c4, v2 = .slice D (la ++ lb).length c4 ∧ RdH w5 D c4 (la ++ lb) ∧ RdH w5 C c3 lab ∧ Stp w w5 := by
  have hrd := hv2.rd
  rw [List.nil_append, ← List.map_append] at hrd
  obtain ⟨D, c4, e, hD⟩ := gathered (bl := la ++ lb) hrd (fun x hx => by
    rcases List.mem_append.1 hx with h | h
    · exact holds_grown hha hv1 hg2 x h
    · exact holds_grown hhb hv1 hg2 x h) (by rw [List.map_append, ea, eb]) (fun b hb => by
    rcases List.mem_append.1 hb with h | h
    · exact e5a b h
    · exact e5b b h)
  have s25 : Stp w2 w5 := Below.grown s24 hg2 s24.size (fun j hj => (hv1.lt j hj).1)
  exact ⟨D, c4, e, hD, rab.keep s25, Below.grown h0 hg2 h0.size (fun j hj => Nat.le_trans hw (hv1.lt j hj).1)⟩

set_option maxRecDepth 100000 in
set_option maxHeartbeats 4000000 in
theorem join_walk (a b : L) (w : World) (ha : a.length ≤ 9223372036854775807) (hb : b.length ≤ 9223372036854775807) :
    Calls Try.prog 8 #[.string ⟨a.toArray⟩, .string ⟨b.toArray⟩] w fun e w' => e = .returned (.bool true) ∧ Stp w w' := by
  have h0 := Stp.refl w
  by_cases hin : a.length ≤ 2500 ∧ b.length ≤ 2500 ∧ a.length % 512 = 0
  · obtain ⟨h1, h2, h3⟩ := hin
    have g1 : decide ((2500 : Int) < (a.length : Int)) = false := decide_eq_false (by omega)
    have g2 : decide ((2500 : Int) < (b.length : Int)) = false := decide_eq_false (by omega)
    have g3 : ((a.length : Int) % 512 != 0) = false := by simp; omega
    have hadd := add_ll a b (by omega)
    have hj := cutV_join (b := b) h3
    obtain ⟨ab, hab⟩ : ∃ ab, a ++ b = ab := ⟨_, rfl⟩
    have hcl : (ab.length : Int) = (a.length : Int) + (b.length : Int) := by rw [← hab, List.length_append]; omega
    rw [hab] at hadd hj
    have habl : ab.length ≤ 5000 := by omega
    have f1 : textB (cutV ab) ((a.length : Int) + (b.length : Int)) = true := by rw [← hcl]; exact cutV_textB ab
    have f2 : textV (cutV ab) ((a.length : Int) + (b.length : Int)) = ab := by rw [← hcl]; exact cutV_textV ab
    have l1 : (cutV a).length ≤ 10 := by rw [cutV_length]; exact manyN_small (by omega)
    have l2 : (cutV b).length ≤ 10 := by rw [cutV_length]; exact manyN_small (by omega)
    have l3 : (cutV ab).length ≤ 10 := by rw [cutV_length]; exact manyN_small (by omega)
    have Hj := Lib.hid hj
    have F1 := Lib.hid f1
    have F2 := Lib.hid f2
    have L1 := Lib.hid l1
    have L2 := Lib.hid l2
    have L3 := Lib.hid l3
    clear hj f1 f2 l1 l2 l3 hab h3
    go_enter Try.func8, Try.ntmps8
    go_wp2_with (first
      | (go_at_call 10; refine (awake_s _).mono ?_; rintro e w' ⟨rfl, hs⟩; replace h0 := Stp.trans h0 hs; clear hs)
      | (go_at_call 15; (with_reducible refine (cut_hd ab _ (by omega)).mono ?_); rintro e w1 ⟨C, c3, rfl, rab, hs⟩; replace h0 := Stp.trans h0 hs; clear hs)
      | (go_at_call 15; (with_reducible refine (cut_hd a _ (by omega)).mono ?_); rintro e w2 ⟨A, c1, rfl, ra, hs⟩; replace h0 := Stp.trans h0 hs; replace rab := RdH.keep rab hs; clear hs; obtain ⟨ysa, ea, e5a, hA, hha⟩ := ra; have hrd := rd_len hA ea; have hla := congrArg List.length ea; rw [List.length_map] at hla; have hw2 := h0.size)
      | (go_at_call 15; (with_reducible refine (cut_hd b _ (by omega)).mono ?_); rintro e w4 ⟨B, c2, rfl, rb, hs⟩; replace h0 := Stp.trans h0 hs; replace s23 := Stp.trans s23 hs; replace hha := holds_step hha hs; replace hv1 := Own.keep hv1 hs; clear hs; obtain ⟨ysb, eb, e5b, hB, hhb⟩ := rb; have hrd2 := rd_len hB eb; have hlb := congrArg List.length eb; rw [List.length_map] at hlb)
      | (at_builtin; refine wpList_append_rd (P := Try.prog) _ rfl (.const (.slice none 0 0)) (.tmp 34) 22 rfl _ 31 (.slice none 0 0) 24 Try.underlying22 bytes_info rfl _ [] rfl (Base.Own.nil _ _ _) _ _ (ysa.map val) rfl hrd (val_one ysa) (by have := L1.out; simp only [List.length_nil, List.length_map]; unfold maxLen; omega) (by have := L1.out; simp only [List.length_nil, List.length_map]; omega) (Nat.le_refl _) ?_; intro v1 w3 hv1 hg1 _; have s23 : Stp w2 w3 := stp_of_grown hg1; replace h0 := Stp.trans h0 s23; replace hha := holds_step hha s23; clear hg1 hA hrd)
      | (at_builtin; refine wpList_append_rd (P := Try.prog) _ rfl (.tmp 35) (.tmp 37) 22 rfl w2.heap.size 31 (.slice none 0 0) 24 Try.underlying22 bytes_info rfl v1 ([] ++ ysa.map val) rfl hv1 _ _ (ysb.map val) rfl hrd2 (val_one ysb) (by have := L1.out; have := L2.out; simp only [List.nil_append, List.length_map]; unfold maxLen; omega) (by have := L1.out; have := L2.out; simp only [List.nil_append, List.length_map]; omega) s23.size ?_; intro v2 w5 hv2 hg2 _; have hfin := join_fin h0 s23 rab hha hhb hv1 hv2 hg2 ea eb e5a e5b hw2; clear hv1 hv2 hg2 hha hhb rab h0 hB hrd2; obtain ⟨D, c4, rfl, rD, rab, h0⟩ := hfin; rw [← Hj.out] at rD ⊢)
      | (go_at_call 14; refine (rsame_s (cutV ab) (cutV ab) _ _ _ _ _ rab.rdL rD.rdL (by have := L3.out; omega) (by have := L3.out; omega)).mono ?_; rintro e w6 ⟨rfl, hs⟩; replace h0 := Stp.trans h0 hs; clear hs rab rD; rw [show (cutV ab == cutV ab) = true by simp])
      | (go_at_call 12; refine (text_s (cutV ab) _ _ _ _ rab.rdL (by have := L3.out; omega) (by omega) (by omega)).mono ?_; rintro e w7 ⟨rfl, hs⟩; replace h0 := Stp.trans h0 hs; clear hs; rw [F1.out, F2.out]))
    all_goals go_ret
    all_goals exact ⟨rfl, h0⟩
  · have key : decide ((2500 : Int) < (a.length : Int)) = true ∨ (decide ((2500 : Int) < (a.length : Int)) = false ∧ decide ((2500 : Int) < (b.length : Int)) = true) ∨
        (decide ((2500 : Int) < (a.length : Int)) = false ∧ decide ((2500 : Int) < (b.length : Int)) = false ∧ ((a.length : Int) % 512 != 0) = true) := by
      simp only [decide_eq_true_eq, decide_eq_false_iff_not, bne_iff_ne]
      omega
    clear hin
    rcases key with g1 | ⟨g1, g2⟩ | ⟨g1, g2, g3⟩
    all_goals
      go_enter Try.func8, Try.ntmps8
      go_wp2_with (go_at_call 10; refine (awake_s _).mono ?_; rintro e w' ⟨rfl, hs⟩; replace h0 := Stp.trans h0 hs; clear hs)
      all_goals go_ret
      all_goals exact ⟨rfl, h0⟩
end Go.Proofs.Ytfjkikodljdbeaa.Block
