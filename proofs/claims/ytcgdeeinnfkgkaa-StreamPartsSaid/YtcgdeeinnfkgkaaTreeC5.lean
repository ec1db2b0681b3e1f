/-
  Contracts of package tree: what may follow, and May: no statement is proved here.
-/
import Derived.Test.YtcgdeeinnfkgkaaTreeC1
import Derived.Test.YtcgdeeinnfkgkaaTreeC4
import Derived.Test.YtcgdeeinnfkgkaaTreeMay
namespace Go.Proofs.Ytcgdeeinnfkgkaa.Tree
open Go.RowKit Go.Proofs.Ytcgdeeinnfkgkaa.Base Go.Proofs.Ytcgdeeinnfkgkaa.Node Go.Proofs.Ytcgdeeinnfkgkaa.Long

/-- Is a path greater than the last one of a list? -/
def riseV (ns : List Nd) (p : L) : Bool := match ns.getLast? with | none => true | some m => !(Op.bytesLess p m.path || p == m.path)
theorem rise_last {ns : List Nd} {m : Nd} {j : Nat} (hj : ns.length = j + 1) (hm : ns[j]? = some m) (p : L) : riseV ns p = !(Op.bytesLess p m.path || p == m.path) := by
  unfold riseV
  rw [List.getLast?_eq_getElem?, hj, Nat.add_sub_cancel, hm]
theorem step_of (pre : List Nd) (n : Nd) : stepB pre n = (oneB n && (riseV pre n.path && ((!(PathM.parB n.path) || hasB pre (PathM.parV n.path) 53) && (!(decide (n.kind = 49)) || hasB pre n.link 48)))) := rfl

theorem blk_first {w : World} {g : Nat} {t : TypeId} {v : Value} (h : Blk w g t #[v]) : w.cell? ⟨g, 0, none⟩ = some v := by
  rw [h.cell]
  rfl
set_option maxRecDepth 100000 in
theorem rises_s (ns : List Nd) (p : L) (A : Option Addr) (c : Nat) (w : World) (ha : RdN w A c ns) (hl : ns.length < 9223372036854775808) :
    Calls Try.prog 36 #[.slice A ns.length c, .string ⟨p.toArray⟩] w fun e w' => e = .returned (.bool (riseV ns p)) ∧ Stp w w' := by
  have h0 := Stp.refl w
  cases hz : ns.length with
  | zero =>
    obtain rfl := List.eq_nil_of_length_eq_zero hz
    go_enter Try.func36, Try.ntmps36
    go_wp2_with fail
    go_ret
    exact ⟨rfl, h0⟩
  | succ j =>
    obtain ⟨m, hm⟩ : ∃ n, ns[j]? = some n := ⟨_, List.getElem?_eq_getElem (by omega)⟩
    obtain ⟨b, o, rfl, hb, q0, q1, q2, q3, q4, q5, q6, q7⟩ := ha.cells hm
    have hc := ha.1
    rw [rise_last hz hm]
    rw [hz] at hl hc
    clear hm hz ha
    obtain ⟨le, hle⟩ : ∃ x, (Op.bytesLess p m.path || p == m.path) = x := ⟨_, rfl⟩
    rw [hle]
    cases le
    all_goals
      go_enter Try.func36, Try.ntmps36
      go_wp2_with fail
      go_ret
      exact ⟨rfl, h0⟩

set_option maxRecDepth 100000 in
set_option maxHeartbeats 1000000 in
theorem ahead_s (ns : List Nd) (p : L) (kd : UInt8) (kk : Int) (hkk : kk = (kd.toNat : Int)) (g : Nat) (A : Option Addr) (c : Nat) (w : World) (hg : w.cell? ⟨g, 0, none⟩ = some (.slice A ns.length c)) (hgl : g < w.heap.size) (ha : RdN w A c ns) (hl : ns.length ≤ 1000) :
    Calls Try.prog 37 #[.string ⟨p.toArray⟩, .int .u8 kk, .pointer (some ⟨g, 0, none⟩)] w fun e w' => e = .returned (.bool (hasB ns p kd)) ∧ Stp w w' := by
  subst hkk
  have h0 := Stp.refl w
  cases hf : findN p ns with
  | none =>
    have Hv := Lib.hid (show findV ns p = -1 by rw [findV, hf])
    rw [show hasB ns p kd = false by rw [hasB, hf]]
    clear hf
    go_enter Try.func37, Try.ntmps37
    go_wp2_with (go_at_call 38; refine (tfind_s ns p A c _ ha hl).mono ?_; rintro e w' ⟨rfl, hs⟩; rw [Hv.out]; replace h0 := Stp.trans h0 hs; clear hs)
    go_ret
    exact ⟨rfl, h0⟩
  | some i =>
    obtain ⟨n, hn, _⟩ := findN_lt hf
    have hi := findN_bound hf
    have Hv := Lib.hid (show findV ns p = (i : Int) by rw [findV, hf])
    rw [show hasB ns p kd = decide (n.kind = kd) by rw [hasB, hf]; simp [hn]]
    have hg0 : decide ((0 : Int) ≤ (i : Int)) = true := decide_eq_true (by omega)
    have hc := ha.1
    have gk : ((n.kind.toNat : Int) == (kd.toNat : Int)) = decide (n.kind = kd) := by
      rw [Bool.eq_iff_iff, beq_iff_eq, decide_eq_true_eq]
      exact ⟨fun h => UInt8.toNat_inj.1 (by omega), fun h => by rw [h]⟩
    have Hn := Lib.hid hn
    have Hg := Lib.hid hg
    have Ha := Lib.hid ha
    clear hf hn ha
    go_enter Try.func37, Try.ntmps37
    go_wp2_with (go_at_call 38; refine (tfind_s ns p A c _ Ha.out hl).mono ?_; rintro e w' ⟨rfl, hs⟩; rw [Hv.out]; have hg2 := (hs.cell (p := ⟨g, 0, none⟩) hgl).trans Hg.out; obtain ⟨b, o, rfl, hb, -, -, q2, -⟩ := (Ha.out.keep hs).cells Hn.out; replace h0 := Stp.trans h0 hs; clear hs hg)
    go_ret
    exact ⟨rfl, h0⟩

set_option maxRecDepth 100000 in
set_option maxHeartbeats 2000000 in
theorem follow_s (ns : List Nd) (n : Nd) (A : Option Addr) (c : Nat) (w : World) (ha : RdN w A c ns) (hl : ns.length ≤ 1000) (hn : SmallN n) :
    Calls Try.prog 24 #[.slice A ns.length c, nv n] w fun e w' => e = .returned (.bool (stepB ns n)) ∧ Stp w w' := by
  have h0 := Stp.refl w
  have hmf : ∀ (fn : Fn) (first cap : Array Value) (w : World), (Instr.makeFunc fn first cap).run Try.prog w = .ok (.func fn first cap) w := fun _ _ _ _ => rfl
  have Hs := Lib.hid (Blk.alloc (Blk.new w 22 #[.slice A ns.length c]) (.cells (ncells n) 32))
  have hb1 := Blk.new (w.alloc (.cells #[.slice A ns.length c] 22)) 32 (ncells n)
  rw [World.size_alloc] at hb1
  have Hb := Lib.hid hb1
  have H := Lib.hid (Stp.alloc (Stp.alloc h0 (.cells #[.slice A ns.length c] 22)) (.cells (ncells n) 32))
  have Ha := Lib.hid (ha.keep H.out)
  clear hb1
  obtain ⟨q0, q1, q2, q3, q4, q5, q6, q7⟩ := nd_cells Hb.out
  have s0 := blk_first Hs.out
  have Hn := Lib.hid hn
  obtain ⟨on, h1⟩ : ∃ x, oneB n = x := ⟨_, rfl⟩
  obtain ⟨ri, h2⟩ : ∃ x, riseV ns n.path = x := ⟨_, rfl⟩
  obtain ⟨pb, p1⟩ : ∃ x, PathM.parB n.path = x := ⟨_, rfl⟩
  obtain ⟨pv, p0⟩ : ∃ x, PathM.parV n.path = x := ⟨_, rfl⟩
  obtain ⟨hd, p2⟩ : ∃ x, hasB ns pv 53 = x := ⟨_, rfl⟩
  obtain ⟨kd, p3⟩ : ∃ x, decide (n.kind = 49) = x := ⟨_, rfl⟩
  obtain ⟨hf, p4⟩ : ∃ x, hasB ns n.link 48 = x := ⟨_, rfl⟩
  have g49 : ((n.kind.toNat : Int) != 49) = !kd := by
    rw [← p3]
    by_cases h : n.kind = 49
    · rw [h]; rfl
    · rw [decide_eq_false h]
      have : ¬ (n.kind.toNat : Int) = 49 := fun h2 => h (UInt8.toNat_inj.1 (by show n.kind.toNat = 49; omega))
      simp [this]
  rw [step_of, h1, h2, p1, p0, p2, p3, p4]
  have F1 := Lib.hid h1
  have F2 := Lib.hid h2
  have P0 := Lib.hid p0
  have P1 := Lib.hid p1
  have P2 := Lib.hid p2
  have P4 := Lib.hid p4
  clear h1 h2 p0 p1 p2 p3 p4 ha hn
  go_enter Try.func24, Try.ntmps24
  go_wp2_with (first
    | (go_at_call 35; (with_reducible refine (tone_s n Hn.out _).mono ?_); rintro e w1 ⟨rfl, hs⟩; rw [F1.out]; (replace Hs := Lib.hid (Hs.out.keep hs Hs.out.lt)); (replace Hb := Lib.hid (Hb.out.keep hs Hb.out.lt)); (replace H := Lib.hid (Stp.trans H.out hs)); (replace Ha := Lib.hid (Ha.out.keep hs)); clear hs q0 q1 q2 q3 q4 q5 q6 q7 s0; obtain ⟨q0, q1, q2, q3, q4, q5, q6, q7⟩ := nd_cells Hb.out; have s0 := blk_first Hs.out; rcases on)
    | (go_at_call 36; (with_reducible refine (rises_s ns n.path A c _ Ha.out (by omega)).mono ?_); rintro e w1 ⟨rfl, hs⟩; rw [F2.out]; (replace Hs := Lib.hid (Hs.out.keep hs Hs.out.lt)); (replace Hb := Lib.hid (Hb.out.keep hs Hb.out.lt)); (replace H := Lib.hid (Stp.trans H.out hs)); (replace Ha := Lib.hid (Ha.out.keep hs)); clear hs q0 q1 q2 q3 q4 q5 q6 q7 s0; obtain ⟨q0, q1, q2, q3, q4, q5, q6, q7⟩ := nd_cells Hb.out; have s0 := blk_first Hs.out; rcases ri)
    | (go_at_call 39; (with_reducible refine (Path.parent_s n.path _ Hn.out.path).mono ?_); rintro e w1 ⟨rfl, hs⟩; rw [P0.out, P1.out]; (replace Hs := Lib.hid (Hs.out.keep hs Hs.out.lt)); (replace Hb := Lib.hid (Hb.out.keep hs Hb.out.lt)); (replace H := Lib.hid (Stp.trans H.out hs)); (replace Ha := Lib.hid (Ha.out.keep hs)); clear hs q0 q1 q2 q3 q4 q5 q6 q7 s0; obtain ⟨q0, q1, q2, q3, q4, q5, q6, q7⟩ := nd_cells Hb.out; have s0 := blk_first Hs.out; rcases pb)
    | (go_at_call 37; (with_reducible refine (ahead_s ns pv 53 53 rfl w.heap.size A c _ s0 Hs.out.lt Ha.out hl).mono ?_); rintro e w1 ⟨rfl, hs⟩; rw [P2.out]; (replace Hs := Lib.hid (Hs.out.keep hs Hs.out.lt)); (replace Hb := Lib.hid (Hb.out.keep hs Hb.out.lt)); (replace H := Lib.hid (Stp.trans H.out hs)); (replace Ha := Lib.hid (Ha.out.keep hs)); clear hs q0 q1 q2 q3 q4 q5 q6 q7 s0; obtain ⟨q0, q1, q2, q3, q4, q5, q6, q7⟩ := nd_cells Hb.out; have s0 := blk_first Hs.out; rcases hd)
    | (go_at_call 37; (with_reducible refine (ahead_s ns n.link 48 48 rfl w.heap.size A c _ s0 Hs.out.lt Ha.out hl).mono ?_); rintro e w1 ⟨rfl, hs⟩; rw [P4.out]; (replace Hs := Lib.hid (Hs.out.keep hs Hs.out.lt)); (replace Hb := Lib.hid (Hb.out.keep hs Hb.out.lt)); (replace H := Lib.hid (Stp.trans H.out hs)); (replace Ha := Lib.hid (Ha.out.keep hs)); clear hs q0 q1 q2 q3 q4 q5 q6 q7 s0; obtain ⟨q0, q1, q2, q3, q4, q5, q6, q7⟩ := nd_cells Hb.out; have s0 := blk_first Hs.out))
  all_goals first | go_ret | skip
  all_goals first | exact ⟨rfl, H.out⟩ | (refine ⟨congrArg (fun b => Ending.returned (.bool b)) ?_, H.out⟩; clear q0 q1 q2 q3 q4 q5 q6 q7 s0 Hs Hb H Ha; simp [*]; done)

theorem follow_n (ns : List Nd) (m : Nat) (hm : ns.length = m) (n : Nd) (A : Option Addr) (c : Nat) (w : World) (ha : RdN w A c ns) (hl : ns.length ≤ 1000) (hn : SmallN n) :
    Calls Try.prog 24 #[.slice A m c, nv n] w fun e w' => e = .returned (.bool (stepB ns n)) ∧ Stp w w' := by
  subst hm
  exact follow_s ns n A c w ha hl hn
set_option maxRecDepth 100000 in
set_option maxHeartbeats 2000000 in
theorem tmay_s (ns : List Nd) (A : Option Addr) (c : Nat) (w : World) (ha : RdN w A c ns) (hl : ns.length ≤ 1000) (hs : ∀ n ∈ ns, SmallN n) :
    Calls Try.prog 10 #[.slice A ns.length c] w fun e w' => e = .returned (.bool (mayT ns)) ∧ Stp w w' := by
  have h0 := Stp.refl w
  by_cases h20 : ns.length ≤ 20
  · have g20 : decide ((20 : Int) < (ns.length : Int)) = false := decide_eq_false (by omega)
    obtain ⟨R, hR⟩ : ∃ R, mayT ns = R := ⟨_, rfl⟩
    have HR := Lib.hid hR
    rw [hR]
    have Hs := Lib.hid hs
    have Ha := Lib.hid ha
    clear hR hs ha
    go_enter Try.func10, Try.ntmps10
    go_wp2_with fail
    go_loopw [3, 4, 10] (fun _ _ i wr => ∃ k : Nat, k ≤ ns.length ∧ i = .int .i64 k ∧ Hid (Stp w wr) ∧ Hid (∀ (j : Nat) (m : Nd), j < k → ns[j]? = some m → stepB (ns.take j) m = true)) (fun _ _ i _ => ns.length - (intOf i).toNat)
    case atStart => exact ⟨0, by omega, rfl, Lib.hid (Stp.refl w), Lib.hid (fun j m hj => by omega)⟩
    case round =>
      obtain ⟨k, hk, rfl, H1, Hy⟩ := hrel
      by_cases hlt : k < ns.length
      · obtain ⟨n, hn⟩ : ∃ n, ns[k]? = some n := ⟨_, List.getElem?_eq_getElem hlt⟩
        obtain ⟨b, o, rfl, -, q0, q1, q2, q3, q4, q5, q6, q7⟩ := (Ha.out.keep H1.out).cells hn
        have hc := Ha.out.1
        have Hk := Lib.hid hn
        have Hsn := Lib.hid (Hs.out n (List.mem_of_getElem? hn))
        have hsl := nslice_h b o ns.length c k (by omega)
        have htk : (ns.take k).length = k := by rw [List.length_take]; omega
        have Htk := Lib.hid htk
        have Hal := Lib.hid (Stp.alloc H1.out (.cells (ncells n) 32))
        have Hb0 := Lib.hid (Blk.new wr 32 (ncells n))
        obtain ⟨on, h1⟩ : ∃ x, stepB (ns.take k) n = x := ⟨_, rfl⟩
        have F1 := Lib.hid h1
        clear hn h1 htk
        go_wp2_with fail
        obtain ⟨q0, q1, q2, q3, q4, q5, q6, q7⟩ := nd_cells Hb0.out
        go_region_with (go_at_call 24; refine (follow_n (ns.take k) k Htk.out n _ c _ ((Ha.out.keep (Stp.drewN Hal.out 1)).take k) (by have := Htk.out; omega) Hsn.out).mono ?_; rintro e w1 ⟨rfl, hs⟩; rw [F1.out]; have H2 := Lib.hid (Stp.trans (Stp.drewN Hal.out 1) hs); clear hs)
        rcases on
        · go_wp2_with fail
          go_ret
          refine ⟨congrArg (fun b => Ending.returned (.bool b)) ?_, H2.out⟩
          rw [← HR.out, mayT_no Hk.out F1.out]
        · go_wp2_with fail
          go_roundw
          case rel => exact ⟨k + 1, by omega, by go_num, H2, Lib.hid (yes_step Hk.out F1.out Hy.out)⟩
          case measure => simp [intOf]; omega
      · obtain rfl : k = ns.length := by omega
        have hy := mayT_yes h20 Hy.out
        rw [HR.out] at hy
        subst hy
        go_wp2_with fail
        go_ret
        exact ⟨rfl, H1.out⟩
  · have g : decide ((20 : Int) < (ns.length : Int)) = true := decide_eq_true (by omega)
    rw [mayT_long h20]
    clear h20
    go_enter Try.func10, Try.ntmps10
    go_wp2_with fail
    go_ret
    exact ⟨rfl, h0⟩
end Go.Proofs.Ytcgdeeinnfkgkaa.Tree
