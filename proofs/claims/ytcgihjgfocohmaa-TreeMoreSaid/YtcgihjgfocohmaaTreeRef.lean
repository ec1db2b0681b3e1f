/-
  The document's own answers for package tree: One, Find, has, Same, Under: no statement is proved here.
-/
import Derived.Test.YtcgihjgfocohmaaTreeM
import Derived.Test.YtcgihjgfocohmaaNodes
import Derived.Test.YtcgihjgfocohmaaPathRef2
import Derived.Deep.QuietTactic
import Derived.BigQuiet
namespace Go.Proofs.Ytcgihjgfocohmaa.Tree
open Go.RowKit Go.Proofs.Ytcgihjgfocohmaa.Base Go.Proofs.Ytcgihjgfocohmaa.Node Go.Proofs.Ytcgihjgfocohmaa.Long

set_option maxRecDepth 100000 in
set_option maxHeartbeats 2000000 in
theorem rfind_s (ns : List Nd) (p : L) (A : Option Addr) (c : Nat) (w : World) (ha : RdN w A c ns) (hl : ns.length < 9223372036854775808) :
    Calls Try.prog 21 #[.slice A ns.length c, .string ⟨p.toArray⟩] w fun e w' => e = .returned (.int .i64 (findV ns p)) ∧ w' = w := by
  obtain ⟨r, hr⟩ : ∃ r, findV ns p = r := ⟨_, rfl⟩
  have Hr := Lib.hid hr
  rw [hr]
  clear hr
  go_enter Try.func21, Try.ntmps21
  go_wp2_with fail
  go_loopw [5] (fun i wr => ∃ k : Nat, k ≤ ns.length ∧ i = .int .i64 k ∧ wr = w ∧ Hid (∀ (j : Nat) (m : Nd), j < k → ns[j]? = some m → m.path ≠ p)) (fun i _ => ns.length - (intOf i).toNat)
  case atStart => exact ⟨0, by omega, rfl, rfl, Lib.hid (fun j m hj => by omega)⟩
  case round =>
    obtain ⟨k, hk, rfl, rfl, Hn⟩ := hrel
    by_cases hlt : k < ns.length
    · obtain ⟨n, hn⟩ : ∃ n, ns[k]? = some n := ⟨_, List.getElem?_eq_getElem hlt⟩
      obtain ⟨b, o, rfl, hb, q0, -⟩ := ha.cells hn
      have Hk := Lib.hid hn
      have hc := ha.1
      clear hn
      by_cases he : n.path = p
      · have g : (n.path == p) = true := beq_iff_eq.2 he
        have He := Lib.hid he
        clear he
        go_wp2_with fail
        go_ret
        refine ⟨congrArg (fun x => Ending.returned (.int .i64 x)) ?_, by first | rfl | trivial⟩
        rw [← Hr.out, findV, findN_of Hk.out He.out Hn.out]
      · have g : (n.path == p) = false := beq_eq_false_iff_ne.2 he
        have Hs := Lib.hid (none_step Hk.out he Hn.out)
        clear he
        go_wp2_with fail
        go_roundw
        case rel => exact ⟨k + 1, by omega, by go_num, by first | rfl | trivial, Hs⟩
        case measure => simp [intOf]; omega
    · obtain rfl : k = ns.length := by omega
      have hn := Hn.out
      go_wp2_with fail
      go_ret
      refine ⟨congrArg (fun x => Ending.returned (.int .i64 x)) ?_, by first | rfl | trivial⟩
      rw [← Hr.out, findV, findN_none (fun j m hm => hn j m (List.getElem?_eq_some_iff.1 hm).1 hm)]

set_option maxRecDepth 100000 in
theorem rhas_s (ns : List Nd) (p : L) (kd : UInt8) (kk : Int) (hkk : kk = (kd.toNat : Int)) (A : Option Addr) (c : Nat) (w : World) (ha : RdN w A c ns) (hl : ns.length < 9223372036854775808) :
    Calls Try.prog 28 #[.slice A ns.length c, .string ⟨p.toArray⟩, .int .u8 kk] w fun e w' => e = .returned (.bool (hasB ns p kd)) ∧ w' = w := by
  subst hkk
  cases hf : findN p ns with
  | none =>
    have Hv := Lib.hid (show findV ns p = -1 by rw [findV, hf])
    rw [show hasB ns p kd = false by rw [hasB, hf]]
    clear hf
    go_enter Try.func28, Try.ntmps28
    go_wp2_with (go_at_call 21; refine (rfind_s ns p A c _ ha hl).mono ?_; rintro e w' ⟨rfl, rfl⟩; rw [Hv.out])
    go_ret
    exact ⟨rfl, rfl⟩
  | some i =>
    obtain ⟨n, hn, _⟩ := findN_lt hf
    have hi := findN_bound hf
    have Hv := Lib.hid (show findV ns p = (i : Int) by rw [findV, hf])
    rw [show hasB ns p kd = decide (n.kind = kd) by rw [hasB, hf]; simp [hn]]
    obtain ⟨b, o, rfl, hb, -, -, q2, -⟩ := ha.cells hn
    have hc := ha.1
    have g : ((n.kind.toNat : Int) == (kd.toNat : Int)) = decide (n.kind = kd) := by
      rw [Bool.eq_iff_iff, beq_iff_eq, decide_eq_true_eq]
      exact ⟨fun h => UInt8.toNat_inj.1 (by omega), fun h => by rw [h]⟩
    clear hf hn
    go_enter Try.func28, Try.ntmps28
    go_wp2_with (go_at_call 21; refine (rfind_s ns p _ c _ ha hl).mono ?_; rintro e w' ⟨rfl, rfl⟩; rw [Hv.out])
    go_ret
    exact ⟨rfl, rfl⟩

theorem Nd.ext_iff' (g k : Nd) : g = k ↔ (g.path = k.path ∧ g.link = k.link ∧ g.kind = k.kind ∧ g.mode = k.mode ∧ g.uid = k.uid ∧ g.gid = k.gid ∧ g.time = k.time ∧ g.data = k.data) := by
  cases g; cases k; simp
set_option maxRecDepth 100000 in
theorem eq_nodes (g k : Nd) (w : World) : (Op.equalIn 10000 23 (nv g) (nv k)).run Try.prog w = .ok (decide (g = k)) w := by
  rw [show (10000 : Nat) = 9999 + 1 from rfl, run_equalIn_struct (P := Try.prog) w 9999 23 _ _ (by kernel_rfl) (by kernel_rfl)]
  have hf : (Try.prog.fieldsOf 23).toList = (Try.prog.fieldsOf 23).toList := rfl
  conv at hf => rhs; whnf
  rw [hf]
  go_simp
  have hty : ((g.kind.toNat : Int) = (k.kind.toNat : Int)) ↔ g.kind = k.kind := by
    constructor
    · intro h
      exact UInt8.toNat_inj.1 (by omega)
    · intro h
      rw [h]
  by_cases h : g = k
  · subst h
    simp
  · rw [decide_eq_false h]
    rw [Nd.ext_iff', ← hty] at h
    clear hty hf
    repeat' split
    all_goals first | rfl | exact absurd (by simp only [*, and_self]) h
theorem noGuardN : Try.prog.eqGuardType Try.prog.depth 23 = false := by kernel_rfl
theorem take_next {ns ms : List Nd} {k : Nat} {l m : Nd} (hl : ns[k]? = some l) (hm : ms[k]? = some m) (h : ns.take k = ms.take k) : (ns.take (k + 1) = ms.take (k + 1)) ↔ l = m := by
  rw [List.take_add_one, List.take_add_one, hl, hm, h]
  simp

set_option maxRecDepth 100000 in
set_option maxHeartbeats 2000000 in
theorem rsame_s (ns ms : List Nd) (A B : Option Addr) (c d : Nat) (w : World) (ha : RdN w A c ns) (hb : RdN w B d ms) (hm : ms.length < 9223372036854775808) :
    Calls Try.prog 14 #[.slice A ns.length c, .slice B ms.length d] w fun e w' => e = .returned (.bool (ns == ms)) ∧ Stp w w' := by
  have h0 := Stp.refl w
  by_cases hlen : ns.length = ms.length
  · obtain ⟨N, hN⟩ : ∃ N, ms.length = N := ⟨_, rfl⟩
    rw [hN] at hlen
    rw [hlen, hN]
    have HN := Lib.hid hN
    have HL := Lib.hid hlen
    rw [hN] at hm
    clear hN hlen
    go_enter Try.func14, Try.ntmps14
    go_wp2_with fail
    go_loopw [5] (fun i wr => ∃ k : Nat, k ≤ N ∧ i = .int .i64 k ∧ Stp w wr ∧ Hid (ns.take k = ms.take k)) (fun i _ => N - (intOf i).toNat)
    case atStart => exact ⟨0, by omega, rfl, Stp.refl w, Lib.hid (by simp)⟩
    case round =>
      obtain ⟨k, hk, rfl, hst, Ht⟩ := hrel
      by_cases hlt : k < N
      · obtain ⟨x, hx⟩ : ∃ n, ns[k]? = some n := ⟨_, List.getElem?_eq_getElem (by rw [HL.out]; exact hlt)⟩
        obtain ⟨y, hy⟩ : ∃ n, ms[k]? = some n := ⟨_, List.getElem?_eq_getElem (by rw [HN.out]; exact hlt)⟩
        have ha1 := ha.keep hst
        have hb1 := hb.keep hst
        obtain ⟨b1, o1, rfl, -, q0, q1, q2, q3, q4, q5, q6, q7⟩ := ha1.cells hx
        obtain ⟨b2, o2, rfl, -, r0, r1, r2, r3, r4, r5, r6, r7⟩ := hb1.cells hy
        have Hx := Lib.hid hx
        have Hy := Lib.hid hy
        have heq := eq_nodes x y
        have hng := noGuardN
        clear hx hy ha1 hb1
        by_cases e : x = y
        · rw [decide_eq_true e] at heq
          have Hnext := Lib.hid ((take_next Hx.out Hy.out Ht.out).2 e)
          clear e
          go_wp2_with fail
          go_quiet (fail)
          go_wp2_with fail
          go_roundw
          case rel => exact ⟨k + 1, by omega, by go_num, hst.drewN _, Hnext⟩
          case measure => simp [intOf]; omega
        · rw [decide_eq_false e] at heq
          have Hne := Lib.hid e
          clear e
          go_wp2_with fail
          go_quiet (fail)
          go_wp2_with fail
          go_ret
          refine ⟨congrArg (fun b => Ending.returned (.bool b)) ?_, hst.drewN _⟩
          symm
          rw [beq_eq_false_iff_ne]
          rintro rfl
          have h1 := Hx.out
          rw [Hy.out] at h1
          exact Hne.out (Option.some.inj h1).symm
      · obtain rfl : k = N := by omega
        have ht := Ht.out
        rw [List.take_of_length_le (by rw [HL.out]; exact Nat.le_refl _), List.take_of_length_le (by rw [HN.out]; exact Nat.le_refl _)] at ht
        have Ht2 := Lib.hid ht
        clear ht
        go_wp2_with fail
        go_ret
        exact ⟨by rw [Ht2.out]; simp, hst⟩
  · have g : ((ns.length : Int) != (ms.length : Int)) = true := by simp; omega
    have e : (ns == ms) = false := by
      rw [beq_eq_false_iff_ne]
      rintro rfl
      exact hlen rfl
    rw [e]
    clear e hlen
    go_enter Try.func14, Try.ntmps14
    go_wp2_with fail
    go_ret
    exact ⟨rfl, h0⟩

theorem node_info : (Try.prog.info? 23).map (fun i => (i.zero, i.size, i.bytes)) = some (some (nv zeroN), 8, 88) := by kernel_rfl
set_option maxRecDepth 100000 in
set_option maxHeartbeats 2000000 in
theorem runder_s (ns : List Nd) (p : L) (A : Option Addr) (c : Nat) (w : World) (ha : RdN w A c ns) (hl : ns.length ≤ 1000000) (hp : p.length ≤ 9223372036854775807) (hs : ∀ n ∈ ns, n.path.length ≤ 9223372036854775807) :
    Calls Try.prog 16 #[.slice A ns.length c, .string ⟨p.toArray⟩] w fun e w' => ∃ A' cap, e = .returned (.slice A' (underV ns p).length cap) ∧ RdN w' A' cap (underV ns p) ∧ Stp w w' := by
  obtain ⟨i, hi, hz, hsz, hby⟩ := info_parts node_info
  obtain ⟨r, hr⟩ : ∃ r, underV ns p = r := ⟨_, rfl⟩
  have Hr := Lib.hid hr
  have Hs := Lib.hid hs
  have Ha := Lib.hid ha
  rw [hr]
  clear hr hs ha
  go_enter Try.func16, Try.ntmps16
  go_wp2_with fail
  go_loopw [5, 6] (fun v i wr => ∃ k : Nat, k ≤ ns.length ∧ i = .int .i64 k ∧ Hid (wr.ownsRow w.heap.size 23 8 v (underV (ns.take k) p).length (ntc (underV (ns.take k) p))) ∧ Hid (Stp w wr)) (fun _ i _ => ns.length - (intOf i).toNat)
  case atStart => exact ⟨0, by omega, rfl, Lib.hid (World.ownsRow_nil _ _ _ _), Lib.hid (Stp.refl w)⟩
  case round =>
    obtain ⟨k, hk, rfl, Hv, H1⟩ := hrel
    by_cases hlt : k < ns.length
    · obtain ⟨x, hx⟩ : ∃ n, ns[k]? = some n := ⟨_, List.getElem?_eq_getElem hlt⟩
      obtain ⟨b, o, rfl, hb, q0, -⟩ := (Ha.out.keep H1.out).cells hx
      have hc := Ha.out.1
      have Hx := Lib.hid hx
      have hxp := Hs.out x (List.mem_of_getElem? hx)
      obtain ⟨bl, hbl⟩ : ∃ b, PathM.belowB x.path p = b := ⟨_, rfl⟩
      have Hbl := Lib.hid hbl
      clear hx hbl
      have hul := under_le (ns.take k) p
      rw [List.length_take] at hul
      go_wp2_with (first
        | (go_at_call 29; refine (Path.rbelow_s x.path p _ hxp hp).mono ?_; rintro e w2 ⟨rfl, hst⟩; rw [Hbl.out]; have H2 := Lib.hid (Stp.trans H1.out hst); have Hv2 := Lib.hid (row_keep Hv.out hst); have hlo := H2.out.size; clear hst q0; obtain ⟨b', o', e', -, q0, q1, q2, q3, q4, q5, q6, q7⟩ := (Ha.out.keep H2.out).cells Hx.out; cases e'; rcases bl)
        | (at_builtin; refine wpList_append_own (P := Try.prog) _ rfl (.tmp 22) (.tmp 27) 24 rfl w.heap.size 23 i _ 8 88 Try.underlying24 hi hz hsz hby rfl (by decide) _ _ _ rfl (Hv2.out.alloc _) ⟨w2.heap.size, 0, none⟩ 1 1 (ncells x).toList rfl rfl (lit_cells x w2 _) (lit_one x) (by unfold maxLen; omega) (by omega) (by rw [World.size_alloc]; omega) ?_; intro v' w4 hv' hg4 _; have H4 := Lib.hid (row_stp (Hv2.out.alloc _) (Stp.alloc H2.out _) (Nat.le_refl _) hg4); have Hv4 := Lib.hid hv'; clear hv' hg4 q0 q1 q2 q3 q4 q5 q6 q7))
      · have e1 : underV (ns.take (k + 1)) p = underV (ns.take k) p := by rw [under_step Hx.out, Hbl.out]; simp
        go_roundw
        case rel => exact ⟨k + 1, by omega, by go_num, Lib.hid (by rw [e1]; exact Hv2.out), H2⟩
        case measure => simp [intOf]; omega
      · have e1 : underV (ns.take (k + 1)) p = underV (ns.take k) p ++ [x] := by rw [under_step Hx.out, Hbl.out]; simp
        go_roundw
        case rel => exact ⟨k + 1, by omega, by go_num, Lib.hid (by rw [e1, ntc_append, List.length_append]; exact Hv4.out), H4⟩
        case measure => simp [intOf]; omega
    · obtain rfl : k = ns.length := by omega
      have hv := Hv.out
      rw [List.take_length, Hr.out] at hv
      obtain ⟨A', c', rfl, hR⟩ := RdN.of_row hv
      have HR := Lib.hid hR
      clear hR hv
      go_wp2_with fail
      go_ret
      exact ⟨A', c', rfl, HR.out, H1.out⟩
end Go.Proofs.Ytcgihjgfocohmaa.Tree
