/-
  The document's answers for records: May, Many, Group, Blocks; append of so many noughts: no statement is proved here.
-/
import Derived.Test.YtgjdbbhfgfodlaaRecK
import Derived.Lib.AppendZerosOnto
namespace Go.Proofs.Ytgjdbbhfgfodlaa.Rec
open Go.RowKit Go.Shelf Go.Proofs.Ytgjdbbhfgfodlaa.Str Go.Proofs.Ytgjdbbhfgfodlaa.Base Go.Proofs.Ytgjdbbhfgfodlaa.BlockM Go.Proofs.Ytgjdbbhfgfodlaa.RecM

theorem zeroCells_one (z : Value) (n : Nat) : Builtin.zeroCells #[z] n = Array.replicate n z := by
  apply Array.ext
  · simp [Builtin.zeroCells]
  · intro i h1 h2
    simp [Builtin.zeroCells, Nat.mod_one]

section
variable {P : Program} (w : World)
/-- append of so many zero values onto a row of the call's own. -/
theorem run_append_zeros (lo : Nat) (t tn ty e : TypeId) (i : TypeInfo) (z : Value) (bytes : Nat) (k kn : IntKind) (ht : P.underlying t = some (.slice e)) (htn : P.underlying tn = some (.int kn)) (hi : P.info? e = some i) (hz : i.zero = some z)
    (hsize : i.size = 1) (hby : i.bytes = bytes) (hzc : z.cells = #[z]) (hz1 : z.oneCell' = true)
    (v : Value) (xs : List Value) (hown : Base.Own w lo e v xs) (n : Nat) (h0 : 0 < n)
    (h63 : xs.length + n ≤ maxLen) (hbytes : (xs.length + n) * bytes ≤ 140737488355328) (hlo : lo ≤ w.heap.size) :
    ∃ v' w', (Builtin.append_ #[t, tn] ty #[v, .int k n]).run P w = .ok v' w' ∧ Base.Own w' lo e v' (xs ++ List.replicate n z) ∧ w.grownBy w' v.ownBlock ∧ (v'.ownBlock = v.ownBlock ∨ v'.ownBlock = some w.heap.size) := by
  have hsmall : xs.length + n ≤ 9223372036854775807 := by simp only [maxLen] at h63; omega
  have hnb : n * i.bytes ≤ 140737488355328 := by
    rw [hby]
    exact Nat.le_trans (Nat.mul_le_mul_right _ (by omega)) hbytes
  have hzr : ∀ m, Builtin.zeroCells z.cells m = Array.replicate m z := fun m => by rw [hzc, zeroCells_one]
  rcases hown with ⟨rfl, rfl⟩ | ⟨g, cap, cur, fz, rfl, hbg, hg, hfz, hxc, hcm, hcs, htake⟩
  · simp only [List.length_nil, Nat.zero_add] at hsmall hbytes h63
    have hrun := Lib.run_append_nil_zeros (P := P) w t tn ty e i z k kn ht htn hi hz n h0 (by omega) (by omega) (by omega)
    have hge := grownCap_ge w n 0 e
    have hcm2 : grownCap w n 0 e ≤ maxLen := grownCap_le_maxLen w n 0 e h63
    refine ⟨_, _, hrun, .inr ⟨w.heap.size, _, _, (0, 0), by simp, hlo, heap_alloc_new w.drew _, .inl rfl, by simpa using hge, hcm2, ?_, ?_⟩, ⟨rfl, rfl, rfl, by simp, fun k hk _ => Below.heap_alloc w.drew _ k hk⟩, .inr rfl⟩
    · rw [hzr, hzr]
      simp
      omega
    · rw [hzr, hzr]
      simp
  · by_cases hroom : xs.length + n ≤ cap
    · have hst := run_storeCells_free P g xs.length e fz (List.replicate n z) 0 cur w hg (by rw [List.length_replicate]; omega) (by rw [List.length_replicate]; omega) (fun u hu => by rw [List.eq_of_mem_replicate hu]; exact hz1)
      simp only [Nat.add_zero, List.length_replicate] at hst
      have hn : n ≠ 0 := by omega
      have hw : IntKind.i64.wrap (n : Int) = n := by rw [IntKind.wrap_i64]; omega
      have h48i : ¬ (281474976710656 < (n : Int) * (i.bytes : Int)) := by
        rw [← Int.natCast_mul]
        omega
      have hneg : ¬ ((n : Int) < 0) := by omega
      have hrun : (Builtin.append_ #[t, tn] ty #[.slice (some ⟨g, 0, none⟩) xs.length cap, .int k n]).run P w =
          .ok (.slice (some ⟨g, 0, none⟩) (xs.length + n) cap) (w.setRow g (cur.toList.take xs.length ++ List.replicate n z ++ cur.toList.drop (xs.length + n)).toArray) := by
        simp [Builtin.append_, run_underlying ht, run_underlying htn, sizeOf, typeInfo, zeroValue, hi, hz, asInt, asIntOf, hw, hneg, h48i, hsize, hn, hroom, Addr.add_lit, hzr, hst]
      refine ⟨_, _, hrun, .inr ⟨g, cap, _, fz, by simp, hbg, setRow_heap w g cur _ e _ hg, hfz, by simpa using hroom, hcm, ?_, ?_⟩, ⟨rfl, rfl, rfl, by simp, fun k _ hk => setRow_other w g k _ (fun e => hk (by simp [Value.ownBlock, e]))⟩, .inl rfl⟩
      · simp only [List.size_toArray, List.length_append, List.length_take, List.length_drop, Array.length_toList, List.length_replicate]
        omega
      · rw [htake]
        exact List.take_left
    · have holds : ∀ j u, xs[j]? = some u → w.drew.cell? ((⟨g, 0, none⟩ : Addr).add j) = some u := by
        intro j u hj
        rw [show w.drew.cell? = w.cell? from rfl, Addr.add_lit, Nat.zero_add, cell_of_row w g j cur e fz hg]
        rw [← htake, List.getElem?_take] at hj
        split at hj
        · simpa using hj
        · cases hj
      have hfo := run_firstCells_some (P := P) w.drew i.size xs.length ⟨g, 0, none⟩ xs.length cap xs (by rw [hsize]; omega) holds
      have hrun := Lib.run_append_grow_zeros (P := P) w t tn ty e i z k kn ht htn hi hz (some ⟨g, 0, none⟩) xs.length cap xs hfo n h0 (by omega) (by omega) (by omega) (by omega) (growslice_fits (by omega) (by rw [hby]; exact hbytes))
      have hge := grownCap_ge w (xs.length + n) cap e
      have hcm2 : grownCap w (xs.length + n) cap e ≤ maxLen := grownCap_le_maxLen w (xs.length + n) cap e h63
      refine ⟨_, _, hrun, .inr ⟨w.heap.size, _, _, (0, 0), by simp, hlo, heap_alloc_new w.drew _, .inl rfl, by simpa using hge, hcm2, ?_, ?_⟩, ⟨rfl, rfl, rfl, by simp, fun k hk _ => Below.heap_alloc w.drew _ k hk⟩, .inr rfl⟩
      · rw [hzr, hzr]
        simp
        omega
      · rw [hzr, hzr]
        simp only [Array.toList_append, Array.toList_replicate]
        rw [List.append_assoc, ← List.append_assoc, List.take_left' (by simp)]
end

set_option maxRecDepth 100000 in
theorem rmay_r (r : L) (A : Option Addr) (c : Nat) (w : World) (hl : r.length < 9223372036854775808) :
    Calls Try.prog 25 #[.slice A r.length c] w fun e w' => e = .returned (.bool (mayR r)) ∧ Stp w w' := by
  have h0 := Stp.refl w
  obtain ⟨n, hn⟩ : ∃ n, r.length = n := ⟨_, rfl⟩
  obtain ⟨m, hm⟩ : ∃ m, mayR r = m := ⟨_, rfl⟩
  have key : (decide ((512 : Int) ≤ (n : Int)) = false ∧ m = false) ∨ (decide ((512 : Int) ≤ (n : Int)) = true ∧ decide ((n : Int) ≤ 10240) = false ∧ m = false) ∨ (decide ((512 : Int) ≤ (n : Int)) = true ∧ decide ((n : Int) ≤ 10240) = true ∧ ((n : Int) % 512 == 0) = m) := by
    have h := mayR_iff (r := r)
    rw [hm, hn] at h
    by_cases h1 : 512 ≤ n
    · by_cases h2 : n ≤ 10240
      · refine .inr (.inr ⟨decide_eq_true (by omega), decide_eq_true (by omega), ?_⟩)
        rw [Bool.eq_iff_iff, h, beq_iff_eq]
        omega
      · refine .inr (.inl ⟨decide_eq_true (by omega), decide_eq_false (by omega), ?_⟩)
        rw [Bool.eq_false_iff, ne_eq, h]
        omega
    · refine .inl ⟨decide_eq_false (by omega), ?_⟩
      rw [Bool.eq_false_iff, ne_eq, h]
      omega
  rw [hn] at hl
  rw [hm, hn]
  clear hm hn
  rcases key with ⟨g1, rfl⟩ | ⟨g1, g2, rfl⟩ | ⟨g1, g2, g3⟩
  all_goals
    go_enter Try.func25, Try.ntmps25
    go_wp2_with fail
    go_ret
    exact ⟨rfl, h0⟩
set_option maxRecDepth 100000 in
theorem rmany_r (n b : Int) (w : World) (hn : n < 9223372036854775808) (hn' : -9223372036854775808 ≤ n) :
    Calls Try.prog 28 #[.int .i64 n, .int .i64 b] w fun e w' => e = .returned (.int .i64 (rmanyV n b)) ∧ Stp w w' := by
  have h0 := Stp.refl w
  have key : (decide (n < 1) = true ∧ rmanyV n b = 0) ∨ (decide (n < 1) = false ∧ decide (b < 1) = true ∧ rmanyV n b = 0) ∨ (decide (n < 1) = false ∧ decide (b < 1) = false ∧ decide (20 < b) = true ∧ rmanyV n b = 0) ∨
      (decide (n < 1) = false ∧ decide (b < 1) = false ∧ decide (20 < b) = false ∧ rmanyV n b = (n - 1) / b + 1) := by
    by_cases h1 : n < 1
    · exact .inl ⟨decide_eq_true h1, rmanyV_no (.inl h1)⟩
    · by_cases h2 : b < 1
      · exact .inr (.inl ⟨decide_eq_false h1, decide_eq_true h2, rmanyV_no (.inr (by rw [Bool.eq_false_iff, ne_eq, holdV_iff]; omega))⟩)
      · by_cases h3 : 20 < b
        · exact .inr (.inr (.inl ⟨decide_eq_false h1, decide_eq_false h2, decide_eq_true h3, rmanyV_no (.inr (by rw [Bool.eq_false_iff, ne_eq, holdV_iff]; omega))⟩))
        · exact .inr (.inr (.inr ⟨decide_eq_false h1, decide_eq_false h2, decide_eq_false h3, rmanyV_yes (by omega) (holdV_iff.2 ⟨by omega, by omega⟩)⟩))
  rcases key with ⟨g1, e⟩ | ⟨g1, g2, e⟩ | ⟨g1, g2, g3, e⟩ | ⟨g1, g2, g3, e⟩
  · rw [e]
    go_enter Try.func28, Try.ntmps28
    go_wp2_with fail
    go_ret
    exact ⟨rfl, h0⟩
  · rw [e]
    go_enter Try.func28, Try.ntmps28
    go_wp2_with fail
    go_ret
    exact ⟨rfl, h0⟩
  · rw [e]
    go_enter Try.func28, Try.ntmps28
    go_wp2_with fail
    go_ret
    exact ⟨rfl, h0⟩
  · rw [e]
    clear e
    have hb1 : 1 ≤ b := by simpa using g2
    have hn1 : 1 ≤ n := by simp at g1; omega
    have hq := div_pos_bound (a := n) (b := b) (by omega) hb1
    have h4 := Int.emod_nonneg n (b := b) (by omega)
    have h5 := Int.emod_lt_of_pos n (b := b) (by omega)
    have h3 := Int.mul_ediv_add_emod n b
    by_cases hr : n % b = 0
    · have g5 : decide (0 < n % b) = false := decide_eq_false (by omega)
      have hm : b * (n / b - 1) = b * (n / b) - b := by rw [Int.mul_sub, Int.mul_one]
      have e1 : (n - 1) / b + 1 = n / b := by
        have := ((Int.ediv_emod_unique (a := n - 1) (b := b) (r := b - 1) (q := n / b - 1) (by omega)).2 ⟨by omega, by omega, by omega⟩).1
        omega
      rw [e1]
      clear h3 h4 h5 e1 hr hm
      go_enter Try.func28, Try.ntmps28
      go_wp2_with fail
      go_ret
      exact ⟨rfl, h0⟩
    · have g5 : decide (0 < n % b) = true := decide_eq_true (by omega)
      have e1 : (n - 1) / b + 1 = n / b + 1 := by
        have := ((Int.ediv_emod_unique (a := n - 1) (b := b) (r := n % b - 1) (q := n / b) (by omega)).2 ⟨by omega, by omega, by omega⟩).1
        omega
      have hb2 : 2 ≤ b := by
        by_cases hb : b = 1
        · subst hb
          simp at hr
        · omega
      have hlt := Int.mul_le_mul_of_nonneg_right hb2 hq.1
      rw [e1]
      have hlt2 : n / b + 1 < 9223372036854775808 := by omega
      clear h3 h4 h5 e1 hr hlt hb2
      go_enter Try.func28, Try.ntmps28
      go_wp2_with fail
      go_ret
      exact ⟨rfl, h0⟩

theorem noughts_cells (k : Nat) : bs (noughts k) = List.replicate k (Value.int .u8 0) := by simp [noughts, bs]
theorem lit_own {w5 : World} {lo : Nat} {v : Value} {r : L} (h : Base.Own w5 lo 5 v (bs r)) : RdL (w5.alloc (.cells #[v] 24)) (some ⟨w5.heap.size, 0, none⟩) 1 [r] := by
  obtain ⟨A, cap, rfl, hA⟩ := RdA.of h.rd
  obtain ⟨A2, c2, e, hL⟩ := (Base.Rows.one (e := 24) hA (bs_length r).symm).rdL
  cases e
  exact hL
theorem stp_own {w0 w w' : World} {lo : Nat} {e : TypeId} {v : Value} {xs : List Value} (h : Base.Own w lo e v xs) (h0 : Stp w0 w) (hlo : w0.heap.size ≤ lo) (hg : w.grownBy w' v.ownBlock) : Stp w0 w' :=
  Below.grown h0 hg h0.size fun j hj => Nat.le_trans hlo (h.lt j hj).1

set_option maxRecDepth 100000 in
set_option maxHeartbeats 400000 in
theorem rgroup_yes (b : Nat) (ls : List L) (hG : groupB ls (b : Int) = true) (A : Option Addr) (c : Nat) (w : World) (ha : RdL w A c ls) :
    Calls Try.prog 21 #[.slice A ls.length c, .int .i64 (b : Int)] w fun e w' => ∃ B d, e = .returned (.tuple #[.slice B (groupV ls (b : Int)).length d, .bool true]) ∧ RdL w' B d (groupV ls (b : Int)) ∧ Stp w w' := by
  obtain ⟨⟨hb1, hb2⟩, hlen, hmay⟩ := groupB_iff.1 hG
  obtain ⟨k, hk, hk1, hk2, -, hkl⟩ := many_nat ls.length b (by omega) (by omega)
  have he : groupV ls (b : Int) = recs b k ls := by
    rw [groupV_yes hG, hk]
    rfl
  rw [he, recs_length]
  obtain ⟨n, hn⟩ : ∃ n, ls.length = n := ⟨_, rfl⟩
  rw [hn] at hk hk1 hk2 hkl hlen ⊢
  have Hk := Lib.hid hk
  have Hm := Lib.hid hmay
  have Ha := Lib.hid ha
  have Hn := Lib.hid hn
  have h0 := Stp.refl w
  have g1 : decide ((b : Int) < 1) = false := decide_eq_false (by omega)
  have g2 : decide ((20 : Int) < (b : Int)) = false := decide_eq_false (by omega)
  have g3 : decide ((4000 : Int) < (n : Int)) = false := decide_eq_false (by omega)
  clear ha hmay he hk hG hn
  go_enter Try.func21, Try.ntmps21
  go_wp2_with (go_at_call 44; refine ((Hn.out ▸ Block.rmay_s ls _ _ _ Ha.out (by have := Hn.out; omega) :)).mono ?_; rintro e w' ⟨rfl, hs⟩; rw [Hm.out]; replace h0 := Stp.trans h0 hs; clear hs)
  have Hk1 := Lib.hid hk1
  have Hk2 := Lib.hid hk2
  clear hk1 hk2
  go_loopw [7, 8] (fun v i wr => ∃ m : Nat, m ≤ k ∧ i = .int .i64 m ∧ Hid (Base.Rows wr w.heap.size 24 v (recs b m ls)) ∧ Hid (Stp w wr)) (fun _ i _ => k - (intOf i).toNat)
  case atStart => exact ⟨0, by omega, rfl, Lib.hid (Base.Rows.nil _ _ _), Lib.hid h0⟩
  case round =>
    obtain ⟨m, hmk, rfl, HR, Hs⟩ := hrel
    by_cases hlt : m < k
    · obtain ⟨q, hq⟩ : ∃ q : Nat, b * m = q := ⟨_, rfl⟩
      have hq2 : (b : Int) * (m : Int) = (q : Int) := by rw [← hq, Int.natCast_mul]
      have hqn : q < n + b := by
        have : b * m + b ≤ b * k := by rw [← Nat.mul_succ]; exact Nat.mul_le_mul_left b hlt
        have := Hk2.out
        omega
      obtain ⟨av, hav⟩ : ∃ av, ls.drop q = av := ⟨_, rfl⟩
      have Hav : Hid (av.length = n - q) := Lib.hid (by rw [← hav, List.length_drop, Hn.out])
      have Ham : Hid (mayV av = true) := Lib.hid (by rw [← hav]; exact may_drop Hm.out q)
      have Hat : Hid (∀ j, av[j]? = ls[q + j]?) := Lib.hid (fun j => by rw [← hav, List.getElem?_drop])
      have Hst : Hid (recs b (m + 1) ls = recs b m ls ++ [recOf b (av.take b)]) := Lib.hid (by rw [recs_snoc, hq, hav])
      clear hav hq
      have g5 : decide ((m : Int) < (k : Int)) = true := decide_eq_true (by omega)
      go_wp2_with (go_at_call 28; refine (rmany_r _ _ _ (by omega) (by omega)).mono ?_; rintro e w1 ⟨rfl, hs1⟩; rw [Hk.out]; replace HR := Lib.hid (HR.out.keep hs1); replace Hs := Lib.hid (Stp.trans Hs.out hs1); clear hs1)
      go_loopw [9, 10] (fun v2 i wi => ∃ (j p : Nat) (u : Value), u = v2 ∧ j ≤ b ∧ p = q + j ∧ i = .int .i64 (p : Int) ∧ Hid (Base.Own wi w1.heap.size 5 u (bs (recOf j (av.take j)))) ∧ Hid (Stp w1 wi)) (fun _ i _ => q + b - (intOf i).toNat)
      case atStart => exact ⟨0, q, _, rfl, by omega, by omega, rfl, Lib.hid (by rw [recOf_zero]; exact Base.Own.nil _ _ _), Lib.hid (Stp.refl _)⟩
      case round =>
        obtain ⟨j, p, u, rfl, hj, hp, rfl, Ho, Hi⟩ := hrel
        have Hp := Lib.hid hp
        have hpb : p < 9000 := by omega
        clear hp
        have hjl : (recOf j (av.take j)).length = 512 * j := recOf_length (may_take Ham.out j) (by rw [List.length_take]; omega)
        by_cases hin : j < b
        · have g6 : decide ((p : Int) < (q : Int) + (b : Int)) = true := decide_eq_true (by have := Hp.out; omega)
          by_cases hnn : p < n
          · have g7 : decide ((p : Int) < (n : Int)) = true := decide_eq_true (by omega)
            obtain ⟨l, hl1⟩ : ∃ l, ls[p]? = some l := ⟨_, List.getElem?_eq_getElem (by have := Hn.out; omega)⟩
            have hl5 : l.length = 512 := mayV_iff.1 Hm.out l (List.mem_of_getElem? hl1)
            obtain ⟨g, o, A1, c1, rfl, ca, ra⟩ := (Ha.out.keep (Stp.trans Hs.out Hi.out)).at_ hl1
            have Hmo := Lib.hid (recOf_more (j := j) Ham.out (by rw [Hat.out, ← Hp.out]; exact hl1))
            have Hra : Hid (Rd wr wr.heap.size (.slice A1 512 c1) (bs l)) := Lib.hid (by
              have h := ra
              unfold RdA at h
              rwa [bs_length, hl5] at h)
            rw [hl5] at ca
            have Hl5 := Lib.hid hl5
            clear ra hl1 hl5
            go_wp2_with (at_builtin; (refine Base.wpList_append_rd (P := Try.prog) _ rfl (.tmp 52) (.tmp 56) 24 rfl w1.heap.size 5 (.int .u8 0) 1 Try.underlying24 Block.byte_info rfl _ _ rfl Ho.out _ _ (bs l) rfl Hra.out (bs_one l) ?h1 ?h2 Hi.out.size ?_))
            case h1 => rw [bs_length, bs_length, hjl, Hl5.out]; unfold maxLen; omega
            case h2 => rw [bs_length, bs_length, hjl, Hl5.out]; omega
            intro v3 w3 ho3 hg3 _
            have Ho3 : Hid (Base.Own w3 w1.heap.size 5 v3 (bs (recOf (j + 1) (av.take (j + 1))))) := Lib.hid (by rw [Hmo.out, bs_append]; exact ho3)
            have Hi3 := Lib.hid (stp_own Ho.out Hi.out (Nat.le_refl _) hg3)
            clear ho3 hg3
            go_wp2_with fail
            go_roundw
            case rel => exact ⟨j + 1, p + 1, _, rfl, by omega, by have := Hp.out; omega, by go_num, Ho3, Hi3⟩
            case measure => have := Hp.out; simp [intOf]; omega
          · have g7 : decide ((p : Int) < (n : Int)) = false := decide_eq_false (by omega)
            have Hmo := Lib.hid (recOf_pad (j := j) Ham.out (by have := Hp.out; rw [Hav.out]; omega))
            obtain ⟨i0, hi, hz0, hz1, hz2⟩ := info_parts Block.byte_info
            obtain ⟨v3, w3, hrun, ho3, hg3, -⟩ := run_append_zeros (P := Try.prog) wr w1.heap.size 24 3 24 5 i0 (.int .u8 0) 1 .i64 .i64 Try.underlying24 Try.underlying3 hi hz0 hz1 hz2 rfl rfl _ _ Ho.out 512 (by omega) (by rw [bs_length, hjl]; unfold maxLen; omega) (by rw [bs_length, hjl]; omega) Hi.out.size
            have Hrun := Lib.hid hrun
            have Ho3 : Hid (Base.Own w3 w1.heap.size 5 v3 (bs (recOf (j + 1) (av.take (j + 1))))) := Lib.hid (by rw [Hmo.out, bs_append, noughts_cells]; exact ho3)
            have Hi3 := Lib.hid (stp_own Ho.out Hi.out (Nat.le_refl _) hg3)
            clear ho3 hg3 hrun
            go_wp2_with (at_builtin; refine Lib.wpList_append_run _ rfl (.tmp 58) (.const (.int .i64 512)) _ _ rfl _ _ rfl rfl _ _ Hrun.out ?_)
            go_roundw
            case rel => exact ⟨j + 1, p + 1, _, rfl, by omega, by have := Hp.out; omega, by go_num, Ho3, Hi3⟩
            case measure => have := Hp.out; simp [intOf]; omega
        · obtain rfl : j = b := by omega
          have g6 : decide ((p : Int) < (q : Int) + (j : Int)) = false := decide_eq_false (by have := Hp.out; omega)
          obtain ⟨A6, c6, hu, -⟩ := RdA.of Ho.out.rd
          rw [bs_length, hjl] at hu
          subst hu
          have HL := Lib.hid (lit_own Ho.out)
          replace HR := Lib.hid ((HR.out.keep Hi.out).keep (Stp.alloc (Stp.refl wr) (.cells #[.slice A6 (512 * j) c6] 24)))
          replace Hs := Lib.hid (Stp.alloc (Stp.trans Hs.out Hi.out) (.cells #[.slice A6 (512 * j) c6] 24))
          go_wp2_with (at_builtin; (refine Base.wpList_append_rows (P := Try.prog) rfl (.tmp 60) (.tmp 62) 27 rfl 24 Try.underlying27 Block.bytes_info _ rfl HR.out rfl HL.out rfl ?h1 Hs.out.size ?_))
          case h1 => rw [recs_length]; simp; omega
          intro v3 w4 hr4 hg4
          have HR4 : Hid (Base.Rows w4 w.heap.size 24 v3 (recs j (m + 1) ls)) := Lib.hid (by rw [Hst.out]; exact hr4)
          have Hs4 := Lib.hid (HR.out.stp Hs.out (Nat.le_refl _) hg4)
          clear hr4 hg4
          go_wp2_with fail
          refine ⟨⟨m + 1, by omega, by go_num, HR4, Hs4⟩, ?_⟩
          simp [intOf]
          omega
    · obtain rfl : m = k := by omega
      have g5 : decide ((m : Int) < (m : Int)) = false := decide_eq_false (by omega)
      go_wp2_with (go_at_call 28; refine (rmany_r _ _ _ (by omega) (by omega)).mono ?_; rintro e w1 ⟨rfl, hs1⟩; rw [Hk.out]; replace HR := Lib.hid (HR.out.keep hs1); replace Hs := Lib.hid (Stp.trans Hs.out hs1); clear hs1)
      go_ret2
      obtain ⟨B, d, rfl, hL⟩ := HR.out.rdL
      exact ⟨B, d, by rw [recs_length]; rfl, hL, Hs.out⟩

set_option maxRecDepth 100000 in
theorem rgroup_no (b : Int) (ls : List L) (hG : groupB ls b = false) (A : Option Addr) (c : Nat) (w : World) (ha : RdL w A c ls) (hl : ls.length < 9223372036854775808) :
    Calls Try.prog 21 #[.slice A ls.length c, .int .i64 b] w fun e w' => e = .returned (.tuple #[.slice none 0 0, .bool false]) ∧ Stp w w' := by
  have h0 := Stp.refl w
  have key : mayV ls = false ∨ (mayV ls = true ∧ decide (b < 1) = true) ∨ (mayV ls = true ∧ decide (b < 1) = false ∧ decide (20 < b) = true) ∨ (mayV ls = true ∧ decide (b < 1) = false ∧ decide (20 < b) = false ∧ decide ((4000 : Int) < (ls.length : Int)) = true) := by
    cases hm : mayV ls
    · exact .inl rfl
    · right
      by_cases h1 : b < 1
      · exact .inl ⟨rfl, decide_eq_true h1⟩
      · right
        by_cases h2 : 20 < b
        · exact .inl ⟨rfl, decide_eq_false h1, decide_eq_true h2⟩
        · refine .inr ⟨rfl, decide_eq_false h1, decide_eq_false h2, decide_eq_true ?_⟩
          rw [Bool.eq_false_iff, ne_eq, groupB_iff, hm] at hG
          by_cases h3 : ls.length ≤ 4000
          · exact absurd ⟨⟨by omega, by omega⟩, h3, rfl⟩ hG
          · omega
  clear hG
  rcases key with h1 | ⟨h1, g1⟩ | ⟨h1, g1, g2⟩ | ⟨h1, g1, g2, g3⟩
  all_goals
    have H1 := Lib.hid h1
    clear h1
    go_enter Try.func21, Try.ntmps21
    go_wp2_with (go_at_call 44; refine (Block.rmay_s ls _ _ _ ha (by omega)).mono ?_; rintro e w' ⟨rfl, hs⟩; rw [H1.out]; replace h0 := Stp.trans h0 hs; clear hs)
    go_ret2
    exact ⟨rfl, h0⟩
/-- Group, at any arguments. -/
theorem rgroup_s (b : Int) (ls : List L) (A : Option Addr) (c : Nat) (w : World) (ha : RdL w A c ls) (hl : ls.length < 9223372036854775808) :
    Calls Try.prog 21 #[.slice A ls.length c, .int .i64 b] w fun e w' => ∃ B d, e = .returned (.tuple #[.slice B (groupV ls b).length d, .bool (groupB ls b)]) ∧ RdL w' B d (groupV ls b) ∧ Stp w w' := by
  cases hG : groupB ls b
  · rw [groupV_no hG]
    exact (rgroup_no b ls hG A c w ha hl).mono fun e w' ⟨h1, h2⟩ => ⟨none, 0, h1, RdL.nil _, h2⟩
  · obtain ⟨n, rfl⟩ := Int.eq_ofNat_of_zero_le (show 0 ≤ b by have := (groupB_iff.1 hG).1; omega)
    exact rgroup_yes n ls hG A c w ha

theorem rdA_form {w : World} {A : Option Addr} {c : Nat} {l : L} (h : RdA w A c (bs l)) (hl : 0 < l.length) : ∃ b o, A = some ⟨b, o, none⟩ := by
  obtain ⟨b, o, rfl, -⟩ := h.at_ (j := 0) (by rw [bs_length]; exact hl)
  exact ⟨b, o, rfl⟩
theorem lit_mid {w3 : World} {lo : Nat} {v : Value} {r : L} (h : Base.Own w3 lo 5 v ([] ++ bs r)) (hr : r.length = 512) : ∃ A6 c6, v = .slice A6 512 c6 ∧ RdL (w3.alloc (.cells #[.slice A6 512 c6] 24)) (some ⟨w3.heap.size, 0, none⟩) 1 [r] := by
  have hL := lit_own h
  obtain ⟨A6, c6, rfl, -⟩ := RdA.of h.rd
  have e : ([] ++ bs r).length = 512 := by rw [List.nil_append, bs_length, hr]
  rw [e] at hL
  exact ⟨A6, c6, by rw [e], hL⟩
theorem rd_mid {w : World} {b o c : Nat} {l : L} {i : Nat} (h : RdA w (some ⟨b, o, none⟩) c (bs l)) (hi : i + 512 ≤ l.length) : Rd w w.heap.size (.slice (some ⟨b, o + i, none⟩) 512 (c - i)) (bs ((l.drop i).take 512)) := by
  have hc := h.length_le
  rw [bs_length] at hc
  have hl : (bs ((l.drop i).take 512)).length = 512 := by rw [bs_length, List.length_take, List.length_drop]; omega
  obtain ⟨b', o', e, hu⟩ := h.at_ (j := 0) (by rw [bs_length]; omega)
  simp only [Option.some.injEq, Addr.mk.injEq, and_true] at e
  obtain ⟨rfl, rfl⟩ := e
  have h0 : (bs l)[0]? = some (.int .u8 ((l[0]'(by omega)).toNat : Int)) := bs_at (by omega)
  refine ⟨_, _, by rw [hl], by omega, fun _ => ⟨b, o + i, rfl, World.block_lt_of_cell? w _ (hu 0 _ h0), fun j u hj => ?_⟩⟩
  have hj5 : j < 512 := by have := (List.getElem?_eq_some_iff.1 hj).1; omega
  have := hu (i + j) u (by
    rw [← hj]
    simp [bs, hj5])
  rwa [show o + (i + j) = o + i + j by omega] at this
theorem slice_mid (b o n c k : Nat) (hc : 512 * k + 512 ≤ c) (w : World) : (Instr.slice 24 (.slice (some ⟨b, o, none⟩) n c) (some (.int .i64 (512 * (k : Int)))) (some (.int .i64 (512 * (k : Int) + 512))) none).run Try.prog w = .ok (.slice (some ⟨b, o + 512 * k, none⟩) 512 (c - 512 * k)) w := by
  have he : Try.prog.elem 24 = 5 := by kernel_rfl
  rw [run_slice_lh (P := Try.prog) w 24 _ _ _ (by rw [he]; exact Try.underlying24) .i64 .i64 _ _ (by omega) (by omega) (by omega), he, byte_sz]
  simp only [Result.andThen_ok, sliced]
  rw [if_neg (by omega)]
  simp only [Option.map_some, Addr.add_lit, Nat.mul_one]
  rw [show (512 * (k : Int)).toNat = 512 * k by omega, show (512 * (k : Int) + 512).toNat - 512 * k = 512 by omega]

set_option maxRecDepth 100000 in
set_option maxHeartbeats 1000000 in
theorem rblocks_s (rs : List L) (A : Option Addr) (c : Nat) (w : World) (ha : RdL w A c rs) (hl : rs.length ≤ 4000) (hls : ∀ r ∈ rs, r.length < 9223372036854775808) :
    Calls Try.prog 23 #[.slice A rs.length c] w fun e w' => ∃ B d, e = .returned (.tuple #[.slice B (blocksV rs).length d, .bool (blocksB rs)]) ∧ RdL w' B d (blocksV rs) ∧ Stp w w' := by
  have Hls := Lib.hid hls
  have Ha := Lib.hid ha
  clear hls ha
  go_enter Try.func23, Try.ntmps23
  go_wp2_with fail
  go_loopw [4, 5] (fun v i wr => ∃ m : Nat, m ≤ rs.length ∧ i = .int .i64 m ∧ Hid (blocksB (rs.take m) = true) ∧ Hid (Base.Rows wr w.heap.size 24 v ((rs.take m).flatMap cutV)) ∧ Hid (Stp w wr)) (fun _ i _ => rs.length - (intOf i).toNat)
  case atStart => exact ⟨0, by omega, rfl, Lib.hid rfl, Lib.hid (Base.Rows.nil _ _ _), Lib.hid (Stp.refl w)⟩
  case round =>
    obtain ⟨m, hm, rfl, Hk, HR, Hs⟩ := hrel
    by_cases hlt : m < rs.length
    · obtain ⟨r, hr⟩ : ∃ r, rs[m]? = some r := ⟨_, List.getElem?_eq_getElem hlt⟩
      obtain ⟨g, o, A1, c1, rfl, ca, ra⟩ := (Ha.out.keep Hs.out).at_ hr
      have Hst := Lib.hid (flat_step hr)
      have Hal := Lib.hid (all_step hr Hk.out)
      have Hr := Lib.hid hr
      have hrl := Hls.out r (List.mem_of_getElem? hr)
      have hfl := flat_le Hk.out
      rw [List.length_take] at hfl
      have Hfl := Lib.hid hfl
      clear hr ra hfl
      cases hmr : mayR r
      · have Hm := Lib.hid hmr
        clear hmr
        go_wp2_with (go_at_call 25; refine (rmay_r r _ _ _ hrl).mono ?_; rintro e w2 ⟨rfl, hs⟩; rw [Hm.out]; replace Hs := Lib.hid (Stp.trans Hs.out hs); clear hs)
        go_ret2
        have hB : blocksB rs = false := by
          rw [Bool.eq_false_iff]
          intro h
          have := blocksB_iff.1 h r (List.mem_of_getElem? Hr.out)
          rw [Hm.out] at this
          cases this
        rw [blocksV_no hB, hB]
        exact ⟨none, 0, rfl, RdL.nil _, Hs.out⟩
      · obtain ⟨hm1, hm2, hm3⟩ := mayR_iff.1 hmr
        have Hm := Lib.hid hmr
        clear hmr
        obtain ⟨x, hx⟩ : ∃ x, r.length / 512 = x := ⟨_, rfl⟩
        obtain ⟨y, hy⟩ : ∃ y, r.length = y := ⟨_, rfl⟩
        rw [hy] at hx hm1 hm2 hm3 hrl ca
        have hq : (y : Int) / 512 = (x : Int) := by omega
        have hx2 : y = 512 * x := by omega
        have Hy := Lib.hid hy
        have Hcl : Hid ((cutV r).length = x) := Lib.hid (by rw [cutV_length, hy]; unfold manyN; omega)
        have Hx2 := Lib.hid hx2
        have hx20 : x ≤ 20 := by omega
        clear hy hx hx2 hm1 hm2 hm3
        go_wp2_with (go_at_call 25; refine ((Hy.out ▸ rmay_r r _ _ _ (by have := Hy.out; omega) :)).mono ?_; rintro e w2 ⟨rfl, hs⟩; rw [Hm.out]; replace HR := Lib.hid (HR.out.keep hs); replace Hs := Lib.hid (Stp.trans Hs.out hs); clear hs ca)
        go_loopw [4, 7] (fun v2 i wi => ∃ (j : Nat) (u : Value), u = v2 ∧ j ≤ x ∧ i = .int .i64 (j : Int) ∧ Hid (Base.Rows wi w.heap.size 24 u ((rs.take m).flatMap cutV ++ (cutV r).take j)) ∧ Hid (Stp w wi)) (fun _ i _ => x - (intOf i).toNat)
        case atStart => exact ⟨0, _, rfl, by omega, rfl, Lib.hid (by rw [List.take_zero, List.append_nil]; exact HR.out), Hs⟩
        case round =>
          obtain ⟨j, u, rfl, hj, rfl, HR2, Hs2⟩ := hrel
          obtain ⟨g', o', A1', c1', e', ca, ra⟩ := (Ha.out.keep Hs2.out).at_ Hr.out
          cases e'
          rw [Hy.out] at ca
          have Hra := Lib.hid ra
          clear ra
          by_cases hin : j < x
          · have g6 : decide ((j : Int) < (x : Int)) = true := decide_eq_true (by omega)
            obtain ⟨b1, o1, rfl⟩ := rdA_form Hra.out (by rw [Hy.out]; have := Hx2.out; omega)
            have hcap := Hra.out.length_le
            rw [bs_length, Hy.out] at hcap
            have hsl := slice_mid b1 o1 y c1' j (by have := Hx2.out; omega)
            have Hmid := Lib.hid (rd_mid (i := 512 * j) Hra.out (by rw [Hy.out]; have := Hx2.out; omega))
            have Hnx : Hid ((cutV r).take (j + 1) = (cutV r).take j ++ [(r.drop (512 * j)).take 512]) := Lib.hid (by
              rw [List.take_add_one, cut_at (by rw [Hy.out]; have := Hx2.out; omega) (by rw [Hy.out]; have := Hx2.out; omega)]
              rfl)
            have hml : ((r.drop (512 * j)).take 512).length = 512 := by rw [List.length_take, List.length_drop, Hy.out]; have := Hx2.out; omega
            have Hml := Lib.hid hml
            clear hcap hml
            go_wp2_with (first
              | (at_builtin; refine Base.wpList_append_rd (P := Try.prog) _ rfl (.const (.slice none 0 0)) (.tmp 41) 24 rfl wr.heap.size 5 (.int .u8 0) 1 Try.underlying24 Block.byte_info rfl _ [] rfl (Base.Own.nil _ _ _) _ _ _ rfl Hmid.out (bs_one _) (by rw [bs_length, Hml.out]; unfold maxLen; simp) (by rw [bs_length, Hml.out]; simp) (Nat.le_refl _) ?_; intro v3 w3 ho3 hg3 _; obtain ⟨A6, c6, rfl, hL⟩ := lit_mid ho3 Hml.out; have HL := Lib.hid hL; replace HR2 := Lib.hid ((HR2.out.keep (Block.stp_of_grown hg3)).keep (Stp.alloc (Stp.refl w3) (.cells #[.slice A6 512 c6] 24))); replace Hs2 := Lib.hid (Stp.alloc (Stp.trans Hs2.out (Block.stp_of_grown hg3)) (.cells #[.slice A6 512 c6] 24)); clear ho3 hg3 hL ca)
              | (at_builtin; refine Base.wpList_append_rows (P := Try.prog) rfl (.tmp 31) (.tmp 43) 27 rfl 24 Try.underlying27 Block.bytes_info _ rfl HR2.out rfl HL.out rfl ?h1 Hs2.out.size ?_))
            case h1 =>
              have := Hfl.out
              rw [List.length_append, List.length_take, Hcl.out]
              simp only [List.length_cons, List.length_nil]
              omega
            intro v4 w4 hr4 hg4
            have HR4 : Hid (Base.Rows w4 w.heap.size 24 v4 ((rs.take m).flatMap cutV ++ (cutV r).take (j + 1))) := Lib.hid (by rw [Hnx.out]; first | exact hr4 | (rw [← List.append_assoc]; exact hr4))
            have Hs4 := Lib.hid (HR2.out.stp Hs2.out (Nat.le_refl _) hg4)
            clear hr4 hg4
            go_wp2_with fail
            go_roundw
            case rel => exact ⟨j + 1, _, rfl, by omega, by go_num, HR4, Hs4⟩
            case measure => simp [intOf]; omega
          · obtain rfl : j = x := by omega
            have g6 : decide ((j : Int) < (j : Int)) = false := decide_eq_false (by omega)
            go_wp2_with fail
            refine ⟨⟨m + 1, by omega, by go_num, Lib.hid (by rw [Hal.out]; exact Hm.out), Lib.hid ?_, Hs2⟩, ?_⟩
            · have h := HR2.out
              rw [show (cutV r).take j = cutV r from List.take_of_length_le (by rw [Hcl.out]; exact Nat.le_refl _), ← Hst.out] at h
              exact h
            · simp [intOf]
              omega
    · obtain rfl : m = rs.length := by omega
      go_wp2_with fail
      go_ret2
      have h := Hk.out
      have h2 := HR.out
      rw [List.take_length] at h h2
      obtain ⟨B, d, rfl, hL⟩ := h2.rdL
      rw [blocksV_yes h, h]
      exact ⟨B, d, rfl, hL, Hs.out⟩
end Go.Proofs.Ytgjdbbhfgfodlaa.Rec
