/-
  The walk of the statement ParseSafe over package parse's contracts: the statement itself is proved in a text of its own.
-/
import Derived.Test.YtejgnhicgeiceaaParseStaysW
import Derived.Test.YtejgnhicgeiceaaTreeC4
import Derived.Test.YtejgnhicgeiceaaPathK
namespace Go.Proofs.Ytejgnhicgeiceaa.Parse
open Go.RowKit Go.Proofs.Ytejgnhicgeiceaa.Str Go.Proofs.Ytejgnhicgeiceaa.Base Go.Proofs.Ytejgnhicgeiceaa.Node Go.Proofs.Ytejgnhicgeiceaa.Long
open Go.Proofs.Ytejgnhicgeiceaa.Tree (oneB)

/-- What is told, in a block. -/
theorem ev_cells {w : World} {g : Nat} {t : TypeId} {x : Evt} (hb : Blk w g t (ecells x)) :
    w.cell? ⟨g, 0, none⟩ = some (.int .i64 x.kind) ∧ w.cell? ⟨g, 1, none⟩ = some (.string ⟨x.node.path.toArray⟩) ∧ w.cell? ⟨g, 2, none⟩ = some (.string ⟨x.node.link.toArray⟩) ∧ w.cell? ⟨g, 3, none⟩ = some (.int .u8 (x.node.kind.toNat : Int)) ∧ w.cell? ⟨g, 4, none⟩ = some (.int .i64 x.node.mode) ∧
    w.cell? ⟨g, 5, none⟩ = some (.int .i64 x.node.uid) ∧ w.cell? ⟨g, 6, none⟩ = some (.int .i64 x.node.gid) ∧ w.cell? ⟨g, 7, none⟩ = some (.int .i64 x.node.time) ∧ w.cell? ⟨g, 8, none⟩ = some (.string ⟨x.node.data.toArray⟩) ∧ w.cell? ⟨g, 9, none⟩ = some (.string ⟨x.data.toArray⟩) := by
  refine ⟨?_, ?_, ?_, ?_, ?_, ?_, ?_, ?_, ?_, ?_⟩ <;> (rw [hb.cell]; rfl)

theorem bfew_n (ls : List L) (n : Nat) (hn : ls.length = n) (A : Option Addr) (c : Nat) (w : World) (ha : RdL w A c ls) (hl : n < 9223372036854775808) (hls : ∀ l ∈ ls, l.length < 9223372036854775808) :
    Calls Try.prog 17 #[.slice A n c] w fun e w' => e = .returned (.bool (Block.fewV ls)) ∧ Stp w w' := by
  subst hn
  exact Block.few_s ls A c w ha hl hls

set_option maxRecDepth 100000 in
set_option maxHeartbeats 4000000 in
theorem safe_s (I : ParseI) (s : St) (hs : SmallS s) (l : List L) (n : Nat) (hn : l.length = n) (A : Option Addr) (c : Nat) (w : World) (ha : RdL w A c l) (hl : n < 9223372036854775808) (hls : ∀ b ∈ l, b.length < 9223372036854775808) :
    Calls Try.prog 5 #[sv s, .slice A n c] w fun e w' => e = .returned (.bool true) ∧ Stp w w' := by
  have h0 := Stp.alloc (Stp.refl w) (.cells (scells s) 25)
  have Hb := Lib.hid (Blk.new w 25 (scells s))
  have Hr := Lib.hid (ha.keep h0)
  obtain ⟨q0, q1, q2, q3, q4, q5, q6, q7, q8, q9, q10, q11, q12, q13⟩ := st_cells Hb.out
  have HI := Lib.hid I
  have Hs := Lib.hid hs
  have Hls := Lib.hid hls
  have Hn := Lib.hid hn
  obtain ⟨F, hF⟩ : ∃ x, fewS s = x := ⟨_, rfl⟩
  obtain ⟨G, hG⟩ : ∃ x, Block.fewV l = x := ⟨_, rfl⟩
  have HF := Lib.hid hF
  have HG := Lib.hid hG
  obtain ⟨t, y, m, e0, hr⟩ : ∃ t y m e0, runS s l = (t, y, m, e0) := ⟨_, _, _, _, rfl⟩
  have hf := run_facts l s
  rw [hr] at hf
  have HR := Lib.hid hr
  obtain ⟨f1, f2, f3, f4, -⟩ := hf
  simp only at f1 f2 f3 f4
  rw [hn] at f3 f4
  obtain ⟨K, hK⟩ : ∃ x, y.length = x := ⟨_, rfl⟩
  rw [hK] at f2
  have HK := Lib.hid hK
  have F1 := Lib.hid f1
  have hfw : G = true → n ≤ 60 := fun h => by rw [← hn]; exact (Block.fewV_iff.1 (hG.trans h)).1
  clear I hs ha hF hG hr f1 hK hls hn
  cases F
  · go_enter Try.func5, Try.ntmps5
    go_wp2_with (first
      | (go_at_call 10; (with_reducible refine (awake_s HI.out _).mono ?_); rintro e w1 ⟨rfl, hs⟩; replace Hb := Lib.hid (Hb.out.keep hs Hb.out.lt); replace Hr := Lib.hid (Hr.out.keep hs); replace h0 := Stp.trans h0 hs; clear hs q0 q1 q2 q3 q4 q5 q6 q7 q8 q9 q10 q11 q12 q13; obtain ⟨q0, q1, q2, q3, q4, q5, q6, q7, q8, q9, q10, q11, q12, q13⟩ := st_cells Hb.out)
      | (go_at_call 11; (with_reducible refine (fews_s s _).mono ?_); rintro e w2 ⟨rfl, hs⟩; rw [HF.out]; replace Hb := Lib.hid (Hb.out.keep hs Hb.out.lt); replace Hr := Lib.hid (Hr.out.keep hs); replace h0 := Stp.trans h0 hs; clear hs q0 q1 q2 q3 q4 q5 q6 q7 q8 q9 q10 q11 q12 q13; obtain ⟨q0, q1, q2, q3, q4, q5, q6, q7, q8, q9, q10, q11, q12, q13⟩ := st_cells Hb.out)
      | (go_at_call 17; (with_reducible refine (bfew_n l _ Hn.out _ _ _ Hr.out hl Hls.out).mono ?_); rintro e w3 ⟨rfl, hs⟩; rw [HG.out]; replace Hb := Lib.hid (Hb.out.keep hs Hb.out.lt); replace Hr := Lib.hid (Hr.out.keep hs); replace h0 := Stp.trans h0 hs; clear hs q0 q1 q2 q3 q4 q5 q6 q7 q8 q9 q10 q11 q12 q13; obtain ⟨q0, q1, q2, q3, q4, q5, q6, q7, q8, q9, q10, q11, q12, q13⟩ := st_cells Hb.out))
    go_ret
    exact ⟨rfl, h0⟩
  cases G
  · go_enter Try.func5, Try.ntmps5
    go_wp2_with (first
      | (go_at_call 10; (with_reducible refine (awake_s HI.out _).mono ?_); rintro e w1 ⟨rfl, hs⟩; replace Hb := Lib.hid (Hb.out.keep hs Hb.out.lt); replace Hr := Lib.hid (Hr.out.keep hs); replace h0 := Stp.trans h0 hs; clear hs q0 q1 q2 q3 q4 q5 q6 q7 q8 q9 q10 q11 q12 q13; obtain ⟨q0, q1, q2, q3, q4, q5, q6, q7, q8, q9, q10, q11, q12, q13⟩ := st_cells Hb.out)
      | (go_at_call 11; (with_reducible refine (fews_s s _).mono ?_); rintro e w2 ⟨rfl, hs⟩; rw [HF.out]; replace Hb := Lib.hid (Hb.out.keep hs Hb.out.lt); replace Hr := Lib.hid (Hr.out.keep hs); replace h0 := Stp.trans h0 hs; clear hs q0 q1 q2 q3 q4 q5 q6 q7 q8 q9 q10 q11 q12 q13; obtain ⟨q0, q1, q2, q3, q4, q5, q6, q7, q8, q9, q10, q11, q12, q13⟩ := st_cells Hb.out)
      | (go_at_call 17; (with_reducible refine (bfew_n l _ Hn.out _ _ _ Hr.out hl Hls.out).mono ?_); rintro e w3 ⟨rfl, hs⟩; rw [HG.out]; replace Hb := Lib.hid (Hb.out.keep hs Hb.out.lt); replace Hr := Lib.hid (Hr.out.keep hs); replace h0 := Stp.trans h0 hs; clear hs q0 q1 q2 q3 q4 q5 q6 q7 q8 q9 q10 q11 q12 q13; obtain ⟨q0, q1, q2, q3, q4, q5, q6, q7, q8, q9, q10, q11, q12, q13⟩ := st_cells Hb.out))
    go_ret
    exact ⟨rfl, h0⟩
  have h60 := hfw rfl
  clear hfw
  go_enter Try.func5, Try.ntmps5
  go_wp2_with (first
    | (go_at_call 10; (with_reducible refine (awake_s HI.out _).mono ?_); rintro e w1 ⟨rfl, hs⟩; replace Hb := Lib.hid (Hb.out.keep hs Hb.out.lt); replace Hr := Lib.hid (Hr.out.keep hs); replace h0 := Stp.trans h0 hs; clear hs q0 q1 q2 q3 q4 q5 q6 q7 q8 q9 q10 q11 q12 q13; obtain ⟨q0, q1, q2, q3, q4, q5, q6, q7, q8, q9, q10, q11, q12, q13⟩ := st_cells Hb.out)
    | (go_at_call 11; (with_reducible refine (fews_s s _).mono ?_); rintro e w2 ⟨rfl, hs⟩; rw [HF.out]; replace Hb := Lib.hid (Hb.out.keep hs Hb.out.lt); replace Hr := Lib.hid (Hr.out.keep hs); replace h0 := Stp.trans h0 hs; clear hs q0 q1 q2 q3 q4 q5 q6 q7 q8 q9 q10 q11 q12 q13; obtain ⟨q0, q1, q2, q3, q4, q5, q6, q7, q8, q9, q10, q11, q12, q13⟩ := st_cells Hb.out)
    | (go_at_call 17; (with_reducible refine (bfew_n l _ Hn.out _ _ _ Hr.out hl Hls.out).mono ?_); rintro e w3 ⟨rfl, hs⟩; rw [HG.out]; replace Hb := Lib.hid (Hb.out.keep hs Hb.out.lt); replace Hr := Lib.hid (Hr.out.keep hs); replace h0 := Stp.trans h0 hs; clear hs q0 q1 q2 q3 q4 q5 q6 q7 q8 q9 q10 q11 q12 q13; obtain ⟨q0, q1, q2, q3, q4, q5, q6, q7, q8, q9, q10, q11, q12, q13⟩ := st_cells Hb.out)
    | (go_at_call 16; (with_reducible refine (HI.out.run s _ rfl Hs.out l n Hn.out (by omega) Hls.out t y K m e0 HR.out HK.out _ _ _ Hr.out).mono ?_); rintro e w4 ⟨B4, d4, rfl, he, hs⟩; have He := Lib.hid (he.keep (Stp.alloc (Stp.refl _) (.cells (scells t) 25))); replace h0 := Stp.alloc (Stp.trans h0 hs) (.cells (scells t) 25); clear hs he q0 q1 q2 q3 q4 q5 q6 q7 q8 q9 q10 q11 q12 q13))
  obtain ⟨W0, hW0⟩ : ∃ x, w4.alloc (.cells (scells t) 25) = x := ⟨_, rfl⟩
  rw [hW0] at He h0 ⊢
  have H0 := Lib.hid h0
  have hf2 := Lib.hid f2
  have hf3 := Lib.hid f3
  have hf4 := Lib.hid f4
  have h6 := Lib.hid h60
  have hK12 : K ≤ 120 := by omega
  clear hW0 Hb Hr h0 f2 f3 f4 h60
  go_loopw [12] (fun i wr => ∃ k : Nat, k ≤ K ∧ i = .int .i64 (k : Int) ∧ Hid (Stp W0 wr)) (fun i _ => K - (intOf i).toNat)
  case atStart => exact ⟨0, by omega, rfl, Lib.hid (Stp.refl W0)⟩
  case round =>
    obtain ⟨k, hk, rfl, H2⟩ := hrel
    by_cases hlt : k < K
    · obtain ⟨x, hx⟩ : ∃ x, y[k]? = some x := ⟨_, List.getElem?_eq_getElem (by rw [HK.out]; exact hlt)⟩
      obtain ⟨b, o, rfl, -, q0, q1, q2, q3, q4, q5, q6, q7, q8, q9⟩ := (He.out.keep H2.out).cells hx
      obtain ⟨ok0, ok1⟩ := F1.out x (List.mem_of_getElem? hx)
      have hkp : IntKind.i64.wrap ((k : Int) + 1) = (k : Int) + 1 := by rw [IntKind.wrap_i64]; omega
      have Hb := Lib.hid (Blk.new wr 41 (ecells x))
      have H3 := Lib.hid (Stp.alloc H2.out (.cells (ecells x) 41))
      obtain ⟨p0, p1, p2, p3, p4, p5, p6, p7, p8, p9⟩ := ev_cells Hb.out
      clear hx
      have key : x.kind = 0 ∨ x.kind = 1 ∨ (x.kind ≠ 0 ∧ x.kind ≠ 1) := by omega
      rcases key with e | e | ⟨e, e2⟩
      · have g0 : (x.kind == 0) = true := by rw [e]; rfl
        have g1 : (x.kind == 1) = false := by rw [e]; rfl
        obtain ⟨k1, k2, k3⟩ := ok0 e
        have g2 : (x.node.data == []) = true := by rw [k2]; rfl
        have Hsm := Lib.hid (one_small k1)
        have Hk1 := Lib.hid k1
        have Hk3 := Lib.hid k3
        have hpl : x.node.path.length ≤ 9223372036854775807 := Hsm.out.path
        have Hpl := Lib.hid hpl
        have Hk2 := Lib.hid k2
        clear e k1 k2 k3 ok0 ok1 hpl
        go_wp2_with (first
          | (go_at_call 18; (with_reducible refine (Tree.tone_s x.node Hsm.out _).mono ?_); rintro e w5 ⟨rfl, hs⟩; rw [Hk1.out]; replace Hb := Lib.hid (Hb.out.keep hs Hb.out.lt); replace H3 := Lib.hid (Stp.trans H3.out hs); clear hs q0 q1 q2 q3 q4 q5 q6 q7 q8 q9 p0 p1 p2 p3 p4 p5 p6 p7 p8 p9; obtain ⟨p0, p1, p2, p3, p4, p5, p6, p7, p8, p9⟩ := ev_cells Hb.out)
          | (go_at_call 19; (with_reducible refine (Path.may_any x.node.path _ Hpl.out).mono ?_); rintro e w6 ⟨rfl, hs⟩; rw [Hk3.out]; replace Hb := Lib.hid (Hb.out.keep hs Hb.out.lt); replace H3 := Lib.hid (Stp.trans H3.out hs); clear hs p0 p1 p2 p3 p4 p5 p6 p7 p8 p9; obtain ⟨p0, p1, p2, p3, p4, p5, p6, p7, p8, p9⟩ := ev_cells Hb.out))
        all_goals
          go_roundw
          case rel => exact ⟨k + 1, by omega, by go_num, H3⟩
          case measure => simp [intOf]; omega
      · have g0 : (x.kind == 0) = false := by rw [e]; rfl
        have g1 : (x.kind == 1) = true := by rw [e]; rfl
        obtain ⟨k1, k2⟩ := ok1 e
        have g2 : ¬ (x.data.length : Int) < 1 := by omega
        have g3 : ¬ (512 : Int) < (x.data.length : Int) := by omega
        have g4 : decide ((x.data.length : Int) < 1) = false := decide_eq_false g2
        have g5 : decide ((512 : Int) < (x.data.length : Int)) = false := decide_eq_false g3
        clear e k1 k2 ok0 ok1 g2 g3
        go_wp2_with fail
        all_goals
          go_roundw
          case rel => exact ⟨k + 1, by omega, by go_num, H3⟩
          case measure => simp [intOf]; omega
      · have g0 : (x.kind == 0) = false := beq_eq_false_iff_ne.2 e
        have g1 : (x.kind == 1) = false := beq_eq_false_iff_ne.2 e2
        clear e e2 ok0 ok1
        go_wp2_with fail
        all_goals
          go_roundw
          case rel => exact ⟨k + 1, by omega, by go_num, H3⟩
          case measure => simp [intOf]; omega
    · obtain rfl : k = K := by omega
      have h1 := hf2.out
      have h2 := hf3.out
      have h4 := h6.out
      have hw : IntKind.i64.wrap (2 * (m : Int)) = 2 * (m : Int) := by rw [IntKind.wrap_i64]; omega
      have g0 : decide ((0 : Int) ≤ (m : Int)) = true := decide_eq_true (by omega)
      have g1 : (m : Int) ≤ (n : Int) := by omega
      have g2 : (k : Int) ≤ 2 * (m : Int) := by omega
      have g3 : (e0 == 0) = true ∨ ((e0 == 0) = false ∧ m < n) := by
        by_cases e : e0 = 0
        · exact .inl (beq_iff_eq.2 e)
        · rcases hf4.out with q | q
          · exact absurd q e
          · exact .inr ⟨beq_eq_false_iff_ne.2 e, q⟩
      clear h4 hlt hk hK12
      rcases g3 with g3 | ⟨g3, g4⟩
      all_goals
        go_wp2_with fail
        go_ret
        exact ⟨rfl, Stp.trans H0.out H2.out⟩
end Go.Proofs.Ytejgnhicgeiceaa.Parse
