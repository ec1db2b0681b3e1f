/-
  The document's own answers for package tree: May: no statement is proved here.
-/
import Derived.Test.YtcgdeeinnfkgkaaGreatTreeOne
namespace Go.Proofs.YtcgdeeinnfkgkaaGreat.Tree
open Go.RowKit Go.Proofs.YtcgdeeinnfkgkaaGreat.Base Go.Proofs.YtcgdeeinnfkgkaaGreat.Node Go.Proofs.YtcgdeeinnfkgkaaGreat.Long

theorem mayT_iff {ns : List Nd} : mayT ns = true ↔ ns.length ≤ 20 ∧ ∀ (j : Nat) (m : Nd), ns[j]? = some m → stepB (ns.take j) m = true := by
  unfold mayT
  rw [Bool.and_eq_true, decide_eq_true_eq, List.all_eq_true]
  refine and_congr_right fun _ => ⟨fun h j m hj => ?_, fun h j hj => ?_⟩
  · have := h j (by rw [List.mem_range]; exact (List.getElem?_eq_some_iff.1 hj).1)
    rw [hj] at this
    simpa using this
  · rw [List.mem_range] at hj
    rw [List.getElem?_eq_getElem hj]
    simpa using h j _ (List.getElem?_eq_getElem hj)
theorem mayT_long {ns : List Nd} (h : ¬ ns.length ≤ 20) : mayT ns = false := by
  rw [Bool.eq_false_iff]
  intro hm
  exact h (mayT_iff.1 hm).1
theorem mayT_no {ns : List Nd} {k : Nat} {n : Nd} (hk : ns[k]? = some n) (h : stepB (ns.take k) n = false) : mayT ns = false := by
  rw [Bool.eq_false_iff]
  intro hm
  rw [(mayT_iff.1 hm).2 k n hk] at h
  cases h
theorem mayT_yes {ns : List Nd} (hl : ns.length ≤ 20) (h : ∀ (j : Nat) (m : Nd), j < ns.length → ns[j]? = some m → stepB (ns.take j) m = true) : mayT ns = true :=
  mayT_iff.2 ⟨hl, fun j m hj => h j m (List.getElem?_eq_some_iff.1 hj).1 hj⟩
theorem yes_step {ns : List Nd} {k : Nat} {n : Nd} (hk : ns[k]? = some n) (hn : stepB (ns.take k) n = true) (h : ∀ (j : Nat) (m : Nd), j < k → ns[j]? = some m → stepB (ns.take j) m = true) : ∀ (j : Nat) (m : Nd), j < k + 1 → ns[j]? = some m → stepB (ns.take j) m = true := by
  intro j m hj hm
  by_cases e : j = k
  · subst e
    rw [hk] at hm
    cases hm
    exact hn
  · exact h j m (by omega) hm
/-- What is asked of a node's path and the one ahead. -/
def riseB (ns : List Nd) (k : Nat) (n : Nd) : Bool := match (ns.take k).getLast? with | none => true | some m => !(Op.bytesLess n.path m.path || n.path == m.path)
theorem rise_zero (ns : List Nd) (n : Nd) : riseB ns 0 n = true := rfl
theorem rise_succ {ns : List Nd} {k : Nat} {m : Nd} (h : ns[k]? = some m) (n : Nd) : riseB ns (k + 1) n = !(Op.bytesLess n.path m.path || n.path == m.path) := by
  unfold riseB
  rw [List.take_add_one, h]
  simp
theorem step_is (ns : List Nd) (k : Nat) (n : Nd) : stepB (ns.take k) n = (oneB n && (riseB ns k n && ((!(PathM.parB n.path) || hasB (ns.take k) (PathM.parV n.path) 53) && (!(decide (n.kind = 49)) || hasB (ns.take k) n.link 48)))) := rfl
theorem nslice_h (b o n c k : Nat) (hk : k ≤ c) (w : World) : (Instr.slice 22 (.slice (some ⟨b, o, none⟩) n c) none (some (.int .i64 (k : Int))) none).run Tryz.prog w = .ok (.slice (some ⟨b, o, none⟩) k c) w := by
  have he : Tryz.prog.elem 22 = 39 := by kernel_rfl
  have hs : (sizeOf 39).run Tryz.prog w = .ok 8 w := by
    have hi : (Tryz.prog.info? 39).map (·.size) = some 8 := by kernel_rfl
    cases hq : Tryz.prog.info? 39 with
    | none => simp [hq] at hi
    | some i =>
      have : i.size = 8 := by simpa [hq] using hi
      simp [sizeOf, typeInfo, hq, this]
  rw [run_slice_h (P := Tryz.prog) w 22 _ _ _ (by rw [he]; exact Tryz.underlying22) .i64 k (by omega) (by omega), he, hs]
  simp only [Result.andThen_ok, sliced]
  simp
  intro _
  rw [Addr.add_lit, Nat.add_zero]
theorem rhas_n (ns : List Nd) (m : Nat) (hm : ns.length = m) (p : L) (kd : UInt8) (kk : Int) (hkk : kk = (kd.toNat : Int)) (A : Option Addr) (c : Nat) (w : World) (ha : RdN w A c ns) (hl : ns.length < 9223372036854775808) :
    Calls Tryz.prog 32 #[.slice A m c, .string ⟨p.toArray⟩, .int .u8 kk] w fun e w' => e = .returned (.bool (hasB ns p kd)) ∧ w' = w := by
  subst hm
  exact rhas_s ns p kd kk hkk A c w ha hl
theorem k53 : (53 : Int) = ((53 : UInt8).toNat : Int) := rfl
theorem k48 : (48 : Int) = ((48 : UInt8).toNat : Int) := rfl

set_option maxRecDepth 100000 in
set_option maxHeartbeats 4000000 in
theorem rmay_s (ns : List Nd) (A : Option Addr) (c : Nat) (w : World) (ha : RdN w A c ns) (hl : ns.length < 9223372036854775808) (hs : ∀ n ∈ ns, SmallN n) :
    Calls Tryz.prog 19 #[.slice A ns.length c] w fun e w' => e = .returned (.bool (mayT ns)) ∧ Stp w w' := by
  have h0 := Stp.refl w
  by_cases h20 : ns.length ≤ 20
  · obtain ⟨R, hR⟩ : ∃ R, mayT ns = R := ⟨_, rfl⟩
    have HR := Lib.hid hR
    rw [hR]
    have Hs := Lib.hid hs
    have Ha := Lib.hid ha
    clear hR hs ha
    go_enter Tryz.func19, Tryz.ntmps19
    go_wp2_with fail
    all_goals first | (exfalso; omega) | skip
    go_loopw [3] (fun i wr => ∃ k : Nat, k ≤ ns.length ∧ i = .int .i64 k ∧ Hid (Stp w wr) ∧ Hid (∀ (j : Nat) (m : Nd), j < k → ns[j]? = some m → stepB (ns.take j) m = true)) (fun i _ => ns.length - (intOf i).toNat)
    case atStart => exact ⟨0, by omega, rfl, Lib.hid (Stp.refl w), Lib.hid (fun j m hj => by omega)⟩
    case round =>
      obtain ⟨k, hk, rfl, H1, Hy⟩ := hrel
      by_cases hlt : k < ns.length
      · obtain ⟨n, hn⟩ : ∃ n, ns[k]? = some n := ⟨_, List.getElem?_eq_getElem hlt⟩
        obtain ⟨b, o, rfl, -, q0, q1, q2, q3, q4, q5, q6, q7⟩ := (Ha.out.keep H1.out).cells hn
        have hc := Ha.out.1
        have Hk := Lib.hid hn
        have Hsn := Lib.hid (Hs.out n (List.mem_of_getElem? hn))
        obtain ⟨on, h1⟩ : ∃ x, oneB n = x := ⟨_, rfl⟩
        have F1 := Lib.hid h1
        have Hst := Lib.hid (step_is ns k n)
        have Hsp := Lib.hid Hsn.out.path
        have hsl := nslice_h b o ns.length c k (by omega)
        obtain ⟨pb, p1⟩ : ∃ x, PathM.parB n.path = x := ⟨_, rfl⟩
        obtain ⟨pv, p0⟩ : ∃ x, PathM.parV n.path = x := ⟨_, rfl⟩
        obtain ⟨hd, p2⟩ : ∃ x, hasB (ns.take k) pv 53 = x := ⟨_, rfl⟩
        obtain ⟨kd, p3⟩ : ∃ x, decide (n.kind = 49) = x := ⟨_, rfl⟩
        obtain ⟨hf, p4⟩ : ∃ x, hasB (ns.take k) n.link 48 = x := ⟨_, rfl⟩
        have g49 : ((n.kind.toNat : Int) == 49) = kd := by
          rw [← p3, Bool.eq_iff_iff, beq_iff_eq, decide_eq_true_eq]
          exact ⟨fun h => UInt8.toNat_inj.1 (by show n.kind.toNat = 49; omega), fun h => by rw [h]; rfl⟩
        have P0 := Lib.hid p0
        have P1 := Lib.hid p1
        have P2 := Lib.hid p2
        have P3 := Lib.hid p3
        have P4 := Lib.hid p4
        have htk : (ns.take k).length = k := by rw [List.length_take]; omega
        have Htk := Lib.hid htk
        clear hn h1 p0 p1 p2 p3 p4 htk
        go_wp2_with (go_at_call 30; refine (rone_s n Hsn.out _).mono ?_; rintro e w2 ⟨rfl, hs2⟩; rw [F1.out]; have H2 := Lib.hid (Stp.trans H1.out hs2); clear hs2 q0 q1 q2 q3 q4 q5 q6 q7)
        cases on
        · go_quiet (fail)
          go_wp2_with fail
          go_ret
          refine ⟨congrArg (fun b => Ending.returned (.bool b)) ?_, H2.out.drewN _⟩
          rw [← HR.out, mayT_no Hk.out (by rw [Hst.out, F1.out]; rfl)]
        · obtain ⟨b9, o9, e9, -, q0, q1, q2, q3, q4, q5, q6, q7⟩ := (Ha.out.keep H2.out).cells Hk.out
          cases e9
          -- TAIL
          by_cases hz : k = 0
          · subst hz
            have Hri := Lib.hid (rise_zero ns n)
            have hsl0 : ∀ w, (Instr.slice 22 (.slice (some ⟨b, o, none⟩) ns.length c) none (some (.int .i64 0)) none).run Tryz.prog w = .ok (.slice (some ⟨b, o, none⟩) 0 c) w := hsl
            simp only [Nat.zero_mul, Nat.add_zero] at q0 q1 q2 q3 q4 q5 q6 q7
            go_quiet (fail)
            go_wp2_with (first
              | (go_at_call 31; refine (Path.rparent_s n.path _ Hsp.out).mono ?_; rintro e w3 ⟨rfl, hs3⟩; rw [P0.out, P1.out]; have H3 := Lib.hid (Stp.trans (H2.out.drewN nq) hs3); clear hs3 q0 q1 q2 q3 q4 q5 q6 q7; obtain ⟨b9, o9, e9, -, q0, q1, q2, q3, q4, q5, q6, q7⟩ := (Ha.out.keep H3.out).cells Hk.out; cases e9; simp only [Nat.zero_mul, Nat.add_zero] at q0 q1 q2 q3 q4 q5 q6 q7)
              | (go_at_call 32; (with_reducible refine (rhas_n (ns.take 0) _ Htk.out pv 53 _ k53 _ _ _ ((Ha.out.keep H3.out).take 0) (by have := Htk.out; omega)).mono ?_); rintro e w4 ⟨rfl, rfl⟩; rw [P2.out]))
            go_quiet ((go_at_call 32; exact Calls.quiet_of_same (rhas_n (ns.take 0) _ Htk.out n.link 48 _ k48 _ _ _ ((Ha.out.keep (Stp.drewN H3.out _)).take 0) (by have := Htk.out; omega))))
            rw [P4.out]
            have hstv := Hst.out
            rw [F1.out, Hri.out, P0.out, P1.out, P2.out, P3.out, P4.out] at hstv
            rcases pb <;> rcases hd <;> rcases kd <;> rcases hf
            all_goals
              simp only [Bool.not_true, Bool.not_false, Bool.and_true, Bool.and_false, Bool.or_true, Bool.or_false] at hstv
              have Hstv := Lib.hid hstv
              clear hstv
              go_wp2_with fail
            all_goals first
              | (go_ret; refine ⟨congrArg (fun b => Ending.returned (.bool b)) ?_, H3.out.drewN _⟩; rw [← HR.out, mayT_no Hk.out Hstv.out])
              | (go_roundw; (case rel => exact ⟨0 + 1, by omega, by go_num, Lib.hid (H3.out.drewN _), Lib.hid (yes_step Hk.out Hstv.out Hy.out)⟩); (case measure => (simp [intOf]; omega)))
          · obtain ⟨j, rfl⟩ : ∃ j, k = j + 1 := ⟨k - 1, by omega⟩
            obtain ⟨m, hm⟩ : ∃ m, ns[j]? = some m := ⟨_, List.getElem?_eq_getElem (by omega)⟩
            obtain ⟨b8, o8, e8, -, r0, -⟩ := (Ha.out.keep H2.out).cells hm
            cases e8
            have hrs := rise_succ hm n
            obtain ⟨le, hle⟩ : ∃ x, (Op.bytesLess n.path m.path || n.path == m.path) = x := ⟨_, rfl⟩
            rw [hle] at hrs
            have Hrs := Lib.hid hrs
            clear hm hrs hz
            cases le
            · have Hri := Lib.hid (show riseB ns (j + 1) n = true from Hrs.out)
              go_quiet (fail)
              go_wp2_with (first
                | (go_at_call 31; refine (Path.rparent_s n.path _ Hsp.out).mono ?_; rintro e w3 ⟨rfl, hs3⟩; rw [P0.out, P1.out]; have H3 := Lib.hid (Stp.trans (H2.out.drewN nq) hs3); clear hs3 q0 q1 q2 q3 q4 q5 q6 q7; obtain ⟨b9, o9, e9, -, q0, q1, q2, q3, q4, q5, q6, q7⟩ := (Ha.out.keep H3.out).cells Hk.out; cases e9)
                | (go_at_call 32; (with_reducible refine (rhas_n (ns.take (j + 1)) _ Htk.out pv 53 _ k53 _ _ _ ((Ha.out.keep H3.out).take (j + 1)) (by have := Htk.out; omega)).mono ?_); rintro e w4 ⟨rfl, rfl⟩; rw [P2.out]))
              go_quiet ((go_at_call 32; exact Calls.quiet_of_same (rhas_n (ns.take (j + 1)) _ Htk.out n.link 48 _ k48 _ _ _ ((Ha.out.keep (Stp.drewN H3.out _)).take (j + 1)) (by have := Htk.out; omega))))
              rw [P4.out]
              have hstv := Hst.out
              rw [F1.out, Hri.out, P0.out, P1.out, P2.out, P3.out, P4.out] at hstv
              rcases pb <;> rcases hd <;> rcases kd <;> rcases hf
              all_goals
                simp only [Bool.not_true, Bool.not_false, Bool.and_true, Bool.and_false, Bool.or_true, Bool.or_false] at hstv
                have Hstv := Lib.hid hstv
                clear hstv
                go_wp2_with fail
              all_goals first
                | (go_ret; refine ⟨congrArg (fun b => Ending.returned (.bool b)) ?_, H3.out.drewN _⟩; rw [← HR.out, mayT_no Hk.out Hstv.out])
                | (go_roundw; (case rel => exact ⟨(j + 1) + 1, by omega, by go_num, Lib.hid (H3.out.drewN _), Lib.hid (yes_step Hk.out Hstv.out Hy.out)⟩); (case measure => (simp [intOf]; omega)))
            · go_quiet (fail)
              go_wp2_with fail
              go_ret
              refine ⟨congrArg (fun b => Ending.returned (.bool b)) ?_, H2.out.drewN _⟩
              rw [← HR.out, mayT_no Hk.out (by rw [Hst.out, F1.out, Hrs.out]; rfl)]
      · obtain rfl : k = ns.length := by omega
        have hy := mayT_yes h20 Hy.out
        rw [HR.out] at hy
        subst hy
        go_wp2_with fail
        go_ret
        exact ⟨rfl, H1.out⟩
  · have g : decide ((20 : Int) < (ns.length : Int)) = true := decide_eq_true (by omega)
    rw [mayT_long h20]
    clear h20
    go_enter Tryz.func19, Tryz.ntmps19
    go_wp2_with fail
    go_ret
    exact ⟨rfl, h0⟩
end Go.Proofs.YtcgdeeinnfkgkaaGreat.Tree
