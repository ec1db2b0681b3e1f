/-
  Contracts of package tree: Find, Same, Under: no statement is proved here.
  Contracts of package tree: what may follow, and May: no statement is proved here.
  Contracts of what the laws of package tree share: few nodes, the two nodes, the chapter's example: no statement is proved here.
-/
import Derived.Test.YtopihahjjcpnpaaGreatDoorTreeOne
import Derived.Test.YtopihahjjcpnpaaGreatDoorPathK
import Derived.Test.YtopihahjjcpnpaaGreatDoorTreeC4
import Derived.Test.YtopihahjjcpnpaaGreatDoorStreamM
import Derived.Test.YtopihahjjcpnpaaGreatDoorLongTx
namespace Go.Proofs.YtopihahjjcpnpaaGreatDoor.Tree
open Go.RowKit Go.Proofs.YtopihahjjcpnpaaGreatDoor.Base Go.Proofs.YtopihahjjcpnpaaGreatDoor.Node Go.Proofs.YtopihahjjcpnpaaGreatDoor.Long

set_option maxRecDepth 100000 in
/-- Is a node's path the one that is looked for? -/
theorem find1_s (n : Nd) (p : L) (g : Nat) (w : World) (hp : w.cell? ⟨g, 0, none⟩ = some (.string ⟨p.toArray⟩)) (hg : g < w.heap.size) :
    Calls Tryz.prog 180 #[nv n, .pointer (some ⟨g, 0, none⟩)] w fun e w' => e = .returned (.bool (n.path == p)) ∧ Stp w w' := by
  have h0 := Stp.refl w
  obtain ⟨q0, q1, q2, q3, q4, q5, q6, q7⟩ := nd_cells (Blk.new w 52 (ncells n))
  have hp2 : (w.alloc (.cells (ncells n) 52)).cell? ⟨g, 0, none⟩ = some (.string ⟨p.toArray⟩) := by rw [World.cell?_alloc_old _ _ _ (Nat.ne_of_lt hg)]; exact hp
  clear hp
  obtain ⟨b, hb⟩ : ∃ b, (n.path == p) = b := ⟨_, rfl⟩
  rw [hb]
  cases b
  all_goals
    go_enter Tryz.func180, Tryz.ntmps180
    go_wp2_with fail
    go_ret
    exact ⟨rfl, Stp.alloc h0 _⟩

set_option maxRecDepth 100000 in
set_option maxHeartbeats 2000000 in
theorem index_s (ns : List Nd) (p : L) (g : Nat) (A : Option Addr) (c : Nat) (w : World) (ha : RdN w A c ns) (hl : ns.length < 9223372036854775808) (hp : w.cell? ⟨g, 0, none⟩ = some (.string ⟨p.toArray⟩)) (hg : g < w.heap.size) :
    Calls Tryz.prog 179 #[.slice A ns.length c, .func (.func 180) #[] #[.pointer (some ⟨g, 0, none⟩)]] w fun e w' => e = .returned (.int .i64 (findV ns p)) ∧ Stp w w' := by
  obtain ⟨r, hr⟩ : ∃ r, findV ns p = r := ⟨_, rfl⟩
  have Hr := Lib.hid hr
  rw [hr]
  clear hr
  have Hp := Lib.hid hp
  have Ha := Lib.hid ha
  clear hp ha
  go_enter Tryz.func179, Tryz.ntmps179
  go_wp2_with fail
  go_loopw [5, 8] (fun _ i wr => ∃ k : Nat, k ≤ ns.length ∧ i = .int .i64 k ∧ Hid (Stp w wr) ∧ Hid (∀ (j : Nat) (m : Nd), j < k → ns[j]? = some m → m.path ≠ p)) (fun _ i _ => ns.length - (intOf i).toNat)
  case atStart => exact ⟨0, by omega, rfl, Lib.hid (Stp.refl w), Lib.hid (fun j m hj => by omega)⟩
  case round =>
    obtain ⟨k, hk, rfl, H1, Hn⟩ := hrel
    by_cases hlt : k < ns.length
    · obtain ⟨n, hn⟩ : ∃ n, ns[k]? = some n := ⟨_, List.getElem?_eq_getElem hlt⟩
      obtain ⟨b, o, rfl, hb, q0, q1, q2, q3, q4, q5, q6, q7⟩ := (Ha.out.keep H1.out).cells hn
      have Hk := Lib.hid hn
      have hc := Ha.out.1
      have Hg := Lib.hid (Nat.lt_of_lt_of_le hg H1.out.size)
      have Hpc := Lib.hid ((H1.out.cell (p := ⟨g, 0, none⟩) hg).trans Hp.out)
      clear hn
      by_cases he : n.path = p
      · have Hb := Lib.hid (show (n.path == p) = true from beq_iff_eq.2 he)
        have He := Lib.hid he
        clear he
        go_wp2_with (go_at_call 180; refine (find1_s n p g _ Hpc.out Hg.out).mono ?_; rintro e w2 ⟨rfl, hs⟩; rw [Hb.out]; have H2 := Lib.hid (Stp.trans H1.out hs); clear hs)
        go_ret
        refine ⟨congrArg (fun x => Ending.returned (.int .i64 x)) ?_, H2.out⟩
        rw [← Hr.out, findV, findN_of Hk.out He.out Hn.out]
      · have Hb := Lib.hid (show (n.path == p) = false from beq_eq_false_iff_ne.2 he)
        have Hs := Lib.hid (none_step Hk.out he Hn.out)
        clear he
        go_wp2_with (go_at_call 180; refine (find1_s n p g _ Hpc.out Hg.out).mono ?_; rintro e w2 ⟨rfl, hs⟩; rw [Hb.out]; have H2 := Lib.hid (Stp.trans H1.out hs); clear hs)
        go_roundw
        case rel => exact ⟨k + 1, by omega, by go_num, H2, Hs⟩
        case measure => simp [intOf]; omega
    · obtain rfl : k = ns.length := by omega
      have hn := Hn.out
      go_wp2_with fail
      go_ret
      refine ⟨congrArg (fun x => Ending.returned (.int .i64 x)) ?_, H1.out⟩
      rw [← Hr.out, findV, findN_none (fun j m hm => hn j m (List.getElem?_eq_some_iff.1 hm).1 hm)]

set_option maxRecDepth 100000 in
theorem tfind_s (ns : List Nd) (p : L) (A : Option Addr) (c : Nat) (w : World) (ha : RdN w A c ns) (hl : ns.length ≤ 1000) :
    Calls Tryz.prog 155 #[.slice A ns.length c, .string ⟨p.toArray⟩] w fun e w' => e = .returned (.int .i64 (findV ns p)) ∧ Stp w w' := by
  have h0 := Stp.refl w
  have hmf : ∀ (fn : Fn) (first cap : Array Value) (w : World), (Instr.makeFunc fn first cap).run Tryz.prog w = .ok (.func fn first cap) w := fun _ _ _ _ => rfl
  have H1 := Lib.hid (Stp.alloc h0 (.cells #[.string ⟨p.toArray⟩] 9))
  go_enter Tryz.func155, Tryz.ntmps155
  go_wp2_with (go_at_call 179; refine (index_s ns p w.heap.size A c _ (ha.keep H1.out) (by omega) (by rw [World.cell?_alloc_new]; rfl) (by rw [World.size_alloc]; omega)).mono ?_; rintro e w2 ⟨rfl, hs⟩; have H2 := Lib.hid (Stp.trans H1.out hs); clear hs)
  go_ret
  exact ⟨rfl, H2.out⟩

end Go.Proofs.YtopihahjjcpnpaaGreatDoor.Tree

namespace Go.Proofs.YtopihahjjcpnpaaGreatDoor.Tree
open Go.RowKit Go.Proofs.YtopihahjjcpnpaaGreatDoor.Base Go.Proofs.YtopihahjjcpnpaaGreatDoor.Node Go.Proofs.YtopihahjjcpnpaaGreatDoor.Long

/-- Is a path greater than the last one of a list? -/
def riseV (ns : List Nd) (p : L) : Bool := match ns.getLast? with | none => true | some m => !(Op.bytesLess p m.path || p == m.path)
theorem rise_last {ns : List Nd} {m : Nd} {j : Nat} (hj : ns.length = j + 1) (hm : ns[j]? = some m) (p : L) : riseV ns p = !(Op.bytesLess p m.path || p == m.path) := by
  unfold riseV
  rw [List.getLast?_eq_getElem?, hj, Nat.add_sub_cancel, hm]
theorem step_of (pre : List Nd) (n : Nd) : stepB pre n = (oneB n && (riseV pre n.path && ((!(PathM.parB n.path) || hasB pre (PathM.parV n.path) 53) && (!(decide (n.kind = 49)) || hasB pre n.link 48)))) := rfl

theorem blk_first {w : World} {g : Nat} {t : TypeId} {v : Value} (h : Blk w g t #[v]) : w.cell? ⟨g, 0, none⟩ = some v := by
  rw [h.cell]
  rfl
set_option maxRecDepth 100000 in
theorem rises_s (ns : List Nd) (p : L) (A : Option Addr) (c : Nat) (w : World) (ha : RdN w A c ns) (hl : ns.length < 9223372036854775808) :
    Calls Tryz.prog 153 #[.slice A ns.length c, .string ⟨p.toArray⟩] w fun e w' => e = .returned (.bool (riseV ns p)) ∧ Stp w w' := by
  have h0 := Stp.refl w
  cases hz : ns.length with
  | zero =>
    obtain rfl := List.eq_nil_of_length_eq_zero hz
    go_enter Tryz.func153, Tryz.ntmps153
    go_wp2_with fail
    go_ret
    exact ⟨rfl, h0⟩
  | succ j =>
    obtain ⟨m, hm⟩ : ∃ n, ns[j]? = some n := ⟨_, List.getElem?_eq_getElem (by omega)⟩
    obtain ⟨b, o, rfl, hb, q0, q1, q2, q3, q4, q5, q6, q7⟩ := ha.cells hm
    have hc := ha.1
    rw [rise_last hz hm]
    rw [hz] at hl hc
    clear hm hz ha
    obtain ⟨le, hle⟩ : ∃ x, (Op.bytesLess p m.path || p == m.path) = x := ⟨_, rfl⟩
    rw [hle]
    cases le
    all_goals
      go_enter Tryz.func153, Tryz.ntmps153
      go_wp2_with fail
      go_ret
      exact ⟨rfl, h0⟩

set_option maxRecDepth 100000 in
set_option maxHeartbeats 1000000 in
theorem ahead_s (ns : List Nd) (p : L) (kd : UInt8) (kk : Int) (hkk : kk = (kd.toNat : Int)) (g : Nat) (A : Option Addr) (c : Nat) (w : World) (hg : w.cell? ⟨g, 0, none⟩ = some (.slice A ns.length c)) (hgl : g < w.heap.size) (ha : RdN w A c ns) (hl : ns.length ≤ 1000) :
    Calls Tryz.prog 154 #[.string ⟨p.toArray⟩, .int .u8 kk, .pointer (some ⟨g, 0, none⟩)] w fun e w' => e = .returned (.bool (hasB ns p kd)) ∧ Stp w w' := by
  subst hkk
  have h0 := Stp.refl w
  cases hf : findN p ns with
  | none =>
    have Hv := Lib.hid (show findV ns p = -1 by rw [findV, hf])
    rw [show hasB ns p kd = false by rw [hasB, hf]]
    clear hf
    go_enter Tryz.func154, Tryz.ntmps154
    go_wp2_with (go_at_call 155; refine (tfind_s ns p A c _ ha hl).mono ?_; rintro e w' ⟨rfl, hs⟩; rw [Hv.out]; replace h0 := Stp.trans h0 hs; clear hs)
    go_ret
    exact ⟨rfl, h0⟩
  | some i =>
    obtain ⟨n, hn, _⟩ := findN_lt hf
    have hi := findN_bound hf
    have Hv := Lib.hid (show findV ns p = (i : Int) by rw [findV, hf])
    rw [show hasB ns p kd = decide (n.kind = kd) by rw [hasB, hf]; simp [hn]]
    have hg0 : decide ((0 : Int) ≤ (i : Int)) = true := decide_eq_true (by omega)
    have hc := ha.1
    have gk : ((n.kind.toNat : Int) == (kd.toNat : Int)) = decide (n.kind = kd) := by
      rw [Bool.eq_iff_iff, beq_iff_eq, decide_eq_true_eq]
      exact ⟨fun h => UInt8.toNat_inj.1 (by omega), fun h => by rw [h]⟩
    have Hn := Lib.hid hn
    have Hg := Lib.hid hg
    have Ha := Lib.hid ha
    clear hf hn ha
    go_enter Tryz.func154, Tryz.ntmps154
    go_wp2_with (go_at_call 155; refine (tfind_s ns p A c _ Ha.out hl).mono ?_; rintro e w' ⟨rfl, hs⟩; rw [Hv.out]; have hg2 := (hs.cell (p := ⟨g, 0, none⟩) hgl).trans Hg.out; obtain ⟨b, o, rfl, hb, -, -, q2, -⟩ := (Ha.out.keep hs).cells Hn.out; replace h0 := Stp.trans h0 hs; clear hs hg)
    go_ret
    exact ⟨rfl, h0⟩

set_option maxRecDepth 100000 in
set_option maxHeartbeats 2000000 in
theorem follow_s (ns : List Nd) (n : Nd) (A : Option Addr) (c : Nat) (w : World) (ha : RdN w A c ns) (hl : ns.length ≤ 1000) (hn : SmallN n) :
    Calls Tryz.prog 119 #[.slice A ns.length c, nv n] w fun e w' => e = .returned (.bool (stepB ns n)) ∧ Stp w w' := by
  have h0 := Stp.refl w
  have hmf : ∀ (fn : Fn) (first cap : Array Value) (w : World), (Instr.makeFunc fn first cap).run Tryz.prog w = .ok (.func fn first cap) w := fun _ _ _ _ => rfl
  have Hs := Lib.hid (Blk.alloc (Blk.new w 22 #[.slice A ns.length c]) (.cells (ncells n) 52))
  have hb1 := Blk.new (w.alloc (.cells #[.slice A ns.length c] 22)) 52 (ncells n)
  rw [World.size_alloc] at hb1
  have Hb := Lib.hid hb1
  have H := Lib.hid (Stp.alloc (Stp.alloc h0 (.cells #[.slice A ns.length c] 22)) (.cells (ncells n) 52))
  have Ha := Lib.hid (ha.keep H.out)
  clear hb1
  obtain ⟨q0, q1, q2, q3, q4, q5, q6, q7⟩ := nd_cells Hb.out
  have s0 := blk_first Hs.out
  have Hn := Lib.hid hn
  obtain ⟨on, h1⟩ : ∃ x, oneB n = x := ⟨_, rfl⟩
  obtain ⟨ri, h2⟩ : ∃ x, riseV ns n.path = x := ⟨_, rfl⟩
  obtain ⟨pb, p1⟩ : ∃ x, PathM.parB n.path = x := ⟨_, rfl⟩
  obtain ⟨pv, p0⟩ : ∃ x, PathM.parV n.path = x := ⟨_, rfl⟩
  obtain ⟨hd, p2⟩ : ∃ x, hasB ns pv 53 = x := ⟨_, rfl⟩
  obtain ⟨kd, p3⟩ : ∃ x, decide (n.kind = 49) = x := ⟨_, rfl⟩
  obtain ⟨hf, p4⟩ : ∃ x, hasB ns n.link 48 = x := ⟨_, rfl⟩
  have g49 : ((n.kind.toNat : Int) != 49) = !kd := by
    rw [← p3]
    by_cases h : n.kind = 49
    · rw [h]; rfl
    · rw [decide_eq_false h]
      have : ¬ (n.kind.toNat : Int) = 49 := fun h2 => h (UInt8.toNat_inj.1 (by show n.kind.toNat = 49; omega))
      simp [this]
  rw [step_of, h1, h2, p1, p0, p2, p3, p4]
  have F1 := Lib.hid h1
  have F2 := Lib.hid h2
  have P0 := Lib.hid p0
  have P1 := Lib.hid p1
  have P2 := Lib.hid p2
  have P4 := Lib.hid p4
  clear h1 h2 p0 p1 p2 p3 p4 ha hn
  go_enter Tryz.func119, Tryz.ntmps119
  go_wp2_with (first
    | (go_at_call 146; (with_reducible refine (tone_s n Hn.out _).mono ?_); rintro e w1 ⟨rfl, hs⟩; rw [F1.out]; (replace Hs := Lib.hid (Hs.out.keep hs Hs.out.lt)); (replace Hb := Lib.hid (Hb.out.keep hs Hb.out.lt)); (replace H := Lib.hid (Stp.trans H.out hs)); (replace Ha := Lib.hid (Ha.out.keep hs)); clear hs q0 q1 q2 q3 q4 q5 q6 q7 s0; obtain ⟨q0, q1, q2, q3, q4, q5, q6, q7⟩ := nd_cells Hb.out; have s0 := blk_first Hs.out; rcases on)
    | (go_at_call 153; (with_reducible refine (rises_s ns n.path A c _ Ha.out (by omega)).mono ?_); rintro e w1 ⟨rfl, hs⟩; rw [F2.out]; (replace Hs := Lib.hid (Hs.out.keep hs Hs.out.lt)); (replace Hb := Lib.hid (Hb.out.keep hs Hb.out.lt)); (replace H := Lib.hid (Stp.trans H.out hs)); (replace Ha := Lib.hid (Ha.out.keep hs)); clear hs q0 q1 q2 q3 q4 q5 q6 q7 s0; obtain ⟨q0, q1, q2, q3, q4, q5, q6, q7⟩ := nd_cells Hb.out; have s0 := blk_first Hs.out; rcases ri)
    | (go_at_call 156; (with_reducible refine (Path.parent_s n.path _ Hn.out.path).mono ?_); rintro e w1 ⟨rfl, hs⟩; rw [P0.out, P1.out]; (replace Hs := Lib.hid (Hs.out.keep hs Hs.out.lt)); (replace Hb := Lib.hid (Hb.out.keep hs Hb.out.lt)); (replace H := Lib.hid (Stp.trans H.out hs)); (replace Ha := Lib.hid (Ha.out.keep hs)); clear hs q0 q1 q2 q3 q4 q5 q6 q7 s0; obtain ⟨q0, q1, q2, q3, q4, q5, q6, q7⟩ := nd_cells Hb.out; have s0 := blk_first Hs.out; rcases pb)
    | (go_at_call 154; (with_reducible refine (ahead_s ns pv 53 53 rfl w.heap.size A c _ s0 Hs.out.lt Ha.out hl).mono ?_); rintro e w1 ⟨rfl, hs⟩; rw [P2.out]; (replace Hs := Lib.hid (Hs.out.keep hs Hs.out.lt)); (replace Hb := Lib.hid (Hb.out.keep hs Hb.out.lt)); (replace H := Lib.hid (Stp.trans H.out hs)); (replace Ha := Lib.hid (Ha.out.keep hs)); clear hs q0 q1 q2 q3 q4 q5 q6 q7 s0; obtain ⟨q0, q1, q2, q3, q4, q5, q6, q7⟩ := nd_cells Hb.out; have s0 := blk_first Hs.out; rcases hd)
    | (go_at_call 154; (with_reducible refine (ahead_s ns n.link 48 48 rfl w.heap.size A c _ s0 Hs.out.lt Ha.out hl).mono ?_); rintro e w1 ⟨rfl, hs⟩; rw [P4.out]; (replace Hs := Lib.hid (Hs.out.keep hs Hs.out.lt)); (replace Hb := Lib.hid (Hb.out.keep hs Hb.out.lt)); (replace H := Lib.hid (Stp.trans H.out hs)); (replace Ha := Lib.hid (Ha.out.keep hs)); clear hs q0 q1 q2 q3 q4 q5 q6 q7 s0; obtain ⟨q0, q1, q2, q3, q4, q5, q6, q7⟩ := nd_cells Hb.out; have s0 := blk_first Hs.out))
  all_goals first | go_ret | skip
  all_goals first | exact ⟨rfl, H.out⟩ | (refine ⟨congrArg (fun b => Ending.returned (.bool b)) ?_, H.out⟩; clear q0 q1 q2 q3 q4 q5 q6 q7 s0 Hs Hb H Ha; simp [*]; done)

theorem follow_n (ns : List Nd) (m : Nat) (hm : ns.length = m) (n : Nd) (A : Option Addr) (c : Nat) (w : World) (ha : RdN w A c ns) (hl : ns.length ≤ 1000) (hn : SmallN n) :
    Calls Tryz.prog 119 #[.slice A m c, nv n] w fun e w' => e = .returned (.bool (stepB ns n)) ∧ Stp w w' := by
  subst hm
  exact follow_s ns n A c w ha hl hn
set_option maxRecDepth 100000 in
set_option maxHeartbeats 2000000 in
theorem tmay_s (ns : List Nd) (A : Option Addr) (c : Nat) (w : World) (ha : RdN w A c ns) (hl : ns.length ≤ 1000) (hs : ∀ n ∈ ns, SmallN n) :
    Calls Tryz.prog 83 #[.slice A ns.length c] w fun e w' => e = .returned (.bool (mayT ns)) ∧ Stp w w' := by
  have h0 := Stp.refl w
  by_cases h20 : ns.length ≤ 20
  · have g20 : decide ((20 : Int) < (ns.length : Int)) = false := decide_eq_false (by omega)
    obtain ⟨R, hR⟩ : ∃ R, mayT ns = R := ⟨_, rfl⟩
    have HR := Lib.hid hR
    rw [hR]
    have Hs := Lib.hid hs
    have Ha := Lib.hid ha
    clear hR hs ha
    go_enter Tryz.func83, Tryz.ntmps83
    go_wp2_with fail
    go_loopw [3, 4, 10] (fun _ _ i wr => ∃ k : Nat, k ≤ ns.length ∧ i = .int .i64 k ∧ Hid (Stp w wr) ∧ Hid (∀ (j : Nat) (m : Nd), j < k → ns[j]? = some m → stepB (ns.take j) m = true)) (fun _ _ i _ => ns.length - (intOf i).toNat)
    case atStart => exact ⟨0, by omega, rfl, Lib.hid (Stp.refl w), Lib.hid (fun j m hj => by omega)⟩
    case round =>
      obtain ⟨k, hk, rfl, H1, Hy⟩ := hrel
      by_cases hlt : k < ns.length
      · obtain ⟨n, hn⟩ : ∃ n, ns[k]? = some n := ⟨_, List.getElem?_eq_getElem hlt⟩
        obtain ⟨b, o, rfl, -, q0, q1, q2, q3, q4, q5, q6, q7⟩ := (Ha.out.keep H1.out).cells hn
        have hc := Ha.out.1
        have Hk := Lib.hid hn
        have Hsn := Lib.hid (Hs.out n (List.mem_of_getElem? hn))
        have hsl := nslice_h b o ns.length c k (by omega)
        have htk : (ns.take k).length = k := by rw [List.length_take]; omega
        have Htk := Lib.hid htk
        have Hal := Lib.hid (Stp.alloc H1.out (.cells (ncells n) 52))
        have Hb0 := Lib.hid (Blk.new wr 52 (ncells n))
        obtain ⟨on, h1⟩ : ∃ x, stepB (ns.take k) n = x := ⟨_, rfl⟩
        have F1 := Lib.hid h1
        clear hn h1 htk
        go_wp2_with fail
        obtain ⟨q0, q1, q2, q3, q4, q5, q6, q7⟩ := nd_cells Hb0.out
        go_region_with (go_at_call 119; refine (follow_n (ns.take k) k Htk.out n _ c _ ((Ha.out.keep (Stp.drewN Hal.out 1)).take k) (by have := Htk.out; omega) Hsn.out).mono ?_; rintro e w1 ⟨rfl, hs⟩; rw [F1.out]; have H2 := Lib.hid (Stp.trans (Stp.drewN Hal.out 1) hs); clear hs)
        rcases on
        · go_wp2_with fail
          go_ret
          refine ⟨congrArg (fun b => Ending.returned (.bool b)) ?_, H2.out⟩
          rw [← HR.out, mayT_no Hk.out F1.out]
        · go_wp2_with fail
          go_roundw
          case rel => exact ⟨k + 1, by omega, by go_num, H2, Lib.hid (yes_step Hk.out F1.out Hy.out)⟩
          case measure => simp [intOf]; omega
      · obtain rfl : k = ns.length := by omega
        have hy := mayT_yes h20 Hy.out
        rw [HR.out] at hy
        subst hy
        go_wp2_with fail
        go_ret
        exact ⟨rfl, H1.out⟩
  · have g : decide ((20 : Int) < (ns.length : Int)) = true := decide_eq_true (by omega)
    rw [mayT_long h20]
    clear h20
    go_enter Tryz.func83, Tryz.ntmps83
    go_wp2_with fail
    go_ret
    exact ⟨rfl, h0⟩
end Go.Proofs.YtopihahjjcpnpaaGreatDoor.Tree

namespace Go.Proofs.YtopihahjjcpnpaaGreatDoor.Tree
open Go.RowKit Go.Proofs.YtopihahjjcpnpaaGreatDoor.Base Go.Proofs.YtopihahjjcpnpaaGreatDoor.Node Go.Proofs.YtopihahjjcpnpaaGreatDoor.Long

def fewT (ns : List Nd) : Bool := decide (ns.length ≤ 30) && ns.all fewN
theorem fewT_iff {ns : List Nd} : fewT ns = true ↔ ns.length ≤ 30 ∧ ∀ n ∈ ns, fewN n = true := by simp [fewT]
theorem fewT_no {ns : List Nd} {k : Nat} {n : Nd} (hk : ns[k]? = some n) (h : fewN n = false) : fewT ns = false := by
  rw [Bool.eq_false_iff]
  intro hf
  rw [(fewT_iff.1 hf).2 n (List.mem_of_getElem? hk)] at h
  cases h
theorem all_next {ns : List Nd} {k : Nat} {n : Nd} (hk : ns[k]? = some n) (hn : fewN n = true) (h : ∀ (j : Nat) (m : Nd), j < k → ns[j]? = some m → fewN m = true) : ∀ (j : Nat) (m : Nd), j < k + 1 → ns[j]? = some m → fewN m = true := by
  intro j m hj hm
  by_cases e : j = k
  · subst e
    rw [hk] at hm
    cases hm
    exact hn
  · exact h j m (by omega) hm
set_option maxRecDepth 100000 in
set_option maxHeartbeats 2000000 in
theorem fewt_s (ns : List Nd) (A : Option Addr) (c : Nat) (w : World) (ha : RdN w A c ns) (hl : ns.length < 9223372036854775808) :
    Calls Tryz.prog 12 #[.slice A ns.length c] w fun e w' => e = .returned (.bool (fewT ns)) ∧ Stp w w' := by
  obtain ⟨R, hR⟩ : ∃ R, fewT ns = R := ⟨_, rfl⟩
  have HR := Lib.hid hR
  rw [hR]
  have Ha := Lib.hid ha
  clear hR ha
  go_enter Tryz.func12, Tryz.ntmps12
  go_wp2_with fail
  go_loopw [3] (fun i wr => ∃ k : Nat, k ≤ ns.length ∧ k ≤ 31 ∧ i = .int .i64 k ∧ Hid (Stp w wr) ∧ Hid (∀ (j : Nat) (m : Nd), j < k → ns[j]? = some m → fewN m = true)) (fun i _ => ns.length - (intOf i).toNat)
  case atStart => exact ⟨0, by omega, by omega, rfl, Lib.hid (Stp.refl w), Lib.hid (fun j m hj => by omega)⟩
  case round =>
    obtain ⟨k, hk, hk31, rfl, H1, Hy⟩ := hrel
    by_cases hlt : k < ns.length
    · by_cases h30 : k ≤ 30
      · obtain ⟨n, hn⟩ : ∃ n, ns[k]? = some n := ⟨_, List.getElem?_eq_getElem hlt⟩
        obtain ⟨b, o, rfl, -, q0, q1, q2, q3, q4, q5, q6, q7⟩ := (Ha.out.keep H1.out).cells hn
        have hc := Ha.out.1
        have Hk := Lib.hid hn
        obtain ⟨f, hf⟩ : ∃ f, fewN n = f := ⟨_, rfl⟩
        have Hf := Lib.hid hf
        have gl : decide ((k : Int) < (ns.length : Int)) = true := decide_eq_true (by omega)
        have g30 : decide ((k : Int) ≤ 30) = true := decide_eq_true (by omega)
        clear hn hf
        go_wp2_with (go_at_call 32; refine (few_s n _).mono ?_; rintro e w2 ⟨rfl, hs2⟩; rw [Hf.out]; have H2 := Lib.hid (Stp.trans H1.out hs2); clear hs2; rcases f)
        · go_ret
          refine ⟨congrArg (fun b => Ending.returned (.bool b)) ?_, H2.out⟩
          rw [← HR.out, fewT_no Hk.out Hf.out]
        · go_roundw
          case rel => exact ⟨k + 1, by omega, by omega, by go_num, H2, Lib.hid (all_next Hk.out Hf.out Hy.out)⟩
          case measure => simp [intOf]; omega
      · have gl : decide ((k : Int) < (ns.length : Int)) = true := decide_eq_true (by omega)
        have g30 : decide ((k : Int) ≤ 30) = false := decide_eq_false (by omega)
        have gn : decide ((ns.length : Int) ≤ 30) = false := decide_eq_false (by omega)
        have hno : fewT ns = false := by
          rw [Bool.eq_false_iff]
          intro h
          have := (fewT_iff.1 h).1
          omega
        rw [HR.out] at hno
        subst hno
        clear h30
        go_wp2_with fail
        go_ret
        exact ⟨rfl, H1.out⟩
    · obtain rfl : k = ns.length := by omega
      have hfin : fewT ns = decide (ns.length ≤ 30) := by
        have hall : ns.all fewN = true := List.all_eq_true.2 fun n hn => by
          obtain ⟨j, hj⟩ := List.getElem?_of_mem hn
          exact Hy.out j n (List.getElem?_eq_some_iff.1 hj).1 hj
        unfold fewT
        rw [hall]
        simp
      have Hfin := Lib.hid hfin
      clear hfin
      go_wp2_with fail
      all_goals go_ret
      all_goals refine ⟨congrArg (fun b => Ending.returned (.bool b)) ?_, H1.out⟩
      all_goals rw [← HR.out, Hfin.out, Bool.eq_iff_iff]
      all_goals simp only [decide_eq_true_eq]
      all_goals omega

def nodeA : Nd := ⟨[97], [], 53, 493, 0, 0, 0, []⟩
def nodeB : Nd := ⟨[97, 47, 98], [], 48, 420, 0, 0, 7, [104, 101, 108, 108, 111]⟩
theorem ex_facts : mayT [nodeA, nodeB] = true ∧ oneB nodeA = true ∧ findV [nodeA, nodeB] [97, 47, 98] = 1 ∧ (underV [nodeA, nodeB] [97]).length = 1 ∧ mayT [nodeB] = false := by decide +kernel
end Go.Proofs.YtopihahjjcpnpaaGreatDoor.Tree

