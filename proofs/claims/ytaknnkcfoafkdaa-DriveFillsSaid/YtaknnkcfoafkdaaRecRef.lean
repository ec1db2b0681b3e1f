/-
  The document's answers for records: May, Many, Group, Blocks; append of so many noughts: no statement is proved here.
-/
import Derived.Test.YtaknnkcfoafkdaaRecK
import Derived.Lib.AppendZerosOnto
namespace Go.Proofs.Ytaknnkcfoafkdaa.Rec
open Go.RowKit Go.Shelf Go.Proofs.Ytaknnkcfoafkdaa.Str Go.Proofs.Ytaknnkcfoafkdaa.Base Go.Proofs.Ytaknnkcfoafkdaa.BlockM Go.Proofs.Ytaknnkcfoafkdaa.RecM

theorem zeroCells_one (z : Value) (n : Nat) : Builtin.zeroCells #[z] n = Array.replicate n z := by
  apply Array.ext
  · simp [Builtin.zeroCells]
  · intro i h1 h2
    simp [Builtin.zeroCells, Nat.mod_one]

section
variable {P : Program} (w : World)
/-- append of so many zero values onto a row of the call's own. -/
theorem run_append_zeros (lo : Nat) (t tn ty e : TypeId) (i : TypeInfo) (z : Value) (bytes : Nat) (k kn : IntKind) (ht : P.underlying t = some (.slice e)) (htn : P.underlying tn = some (.int kn)) (hi : P.info? e = some i) (hz : i.zero = some z)
    (hsize : i.size = 1) (hby : i.bytes = bytes) (hzc : z.cells = #[z]) (hz1 : z.oneCell' = true)
    (v : Value) (xs : List Value) (hown : Base.Own w lo e v xs) (n : Nat) (h0 : 0 < n)
    (h63 : xs.length + n ≤ maxLen) (hbytes : (xs.length + n) * bytes ≤ 140737488355328) (hlo : lo ≤ w.heap.size) :
    ∃ v' w', (Builtin.append_ #[t, tn] ty #[v, .int k n]).run P w = .ok v' w' ∧ Base.Own w' lo e v' (xs ++ List.replicate n z) ∧ w.grownBy w' v.ownBlock ∧ (v'.ownBlock = v.ownBlock ∨ v'.ownBlock = some w.heap.size) := by
  have hsmall : xs.length + n ≤ 9223372036854775807 := by simp only [maxLen] at h63; omega
  have hnb : n * i.bytes ≤ 140737488355328 := by
    rw [hby]
    exact Nat.le_trans (Nat.mul_le_mul_right _ (by omega)) hbytes
  have hzr : ∀ m, Builtin.zeroCells z.cells m = Array.replicate m z := fun m => by rw [hzc, zeroCells_one]
  rcases hown with ⟨rfl, rfl⟩ | ⟨g, cap, cur, fz, rfl, hbg, hg, hfz, hxc, hcm, hcs, htake⟩
  · simp only [List.length_nil, Nat.zero_add] at hsmall hbytes h63
    have hrun := Lib.run_append_nil_zeros (P := P) w t tn ty e i z k kn ht htn hi hz n h0 (by omega) (by omega) (by omega)
    have hge := grownCap_ge w n 0 e
    have hcm2 : grownCap w n 0 e ≤ maxLen := grownCap_le_maxLen w n 0 e h63
    refine ⟨_, _, hrun, .inr ⟨w.heap.size, _, _, (0, 0), by simp, hlo, heap_alloc_new w.drew _, .inl rfl, by simpa using hge, hcm2, ?_, ?_⟩, ⟨rfl, rfl, rfl, by simp, fun k hk _ => Below.heap_alloc w.drew _ k hk⟩, .inr rfl⟩
    · rw [hzr, hzr]
      simp
      omega
    · rw [hzr, hzr]
      simp
  · by_cases hroom : xs.length + n ≤ cap
    · have hst := run_storeCells_free P g xs.length e fz (List.replicate n z) 0 cur w hg (by rw [List.length_replicate]; omega) (by rw [List.length_replicate]; omega) (fun u hu => by rw [List.eq_of_mem_replicate hu]; exact hz1)
      simp only [Nat.add_zero, List.length_replicate] at hst
      have hn : n ≠ 0 := by omega
      have hw : IntKind.i64.wrap (n : Int) = n := by rw [IntKind.wrap_i64]; omega
      have h48i : ¬ (281474976710656 < (n : Int) * (i.bytes : Int)) := by
        rw [← Int.natCast_mul]
        omega
      have hneg : ¬ ((n : Int) < 0) := by omega
      have hrun : (Builtin.append_ #[t, tn] ty #[.slice (some ⟨g, 0, none⟩) xs.length cap, .int k n]).run P w =
          .ok (.slice (some ⟨g, 0, none⟩) (xs.length + n) cap) (w.setRow g (cur.toList.take xs.length ++ List.replicate n z ++ cur.toList.drop (xs.length + n)).toArray) := by
        simp [Builtin.append_, run_underlying ht, run_underlying htn, sizeOf, typeInfo, zeroValue, hi, hz, asInt, asIntOf, hw, hneg, h48i, hsize, hn, hroom, Addr.add_lit, hzr, hst]
      refine ⟨_, _, hrun, .inr ⟨g, cap, _, fz, by simp, hbg, setRow_heap w g cur _ e _ hg, hfz, by simpa using hroom, hcm, ?_, ?_⟩, ⟨rfl, rfl, rfl, by simp, fun k _ hk => setRow_other w g k _ (fun e => hk (by simp [Value.ownBlock, e]))⟩, .inl rfl⟩
      · simp only [List.size_toArray, List.length_append, List.length_take, List.length_drop, Array.length_toList, List.length_replicate]
        omega
      · rw [htake]
        exact List.take_left
    · have holds : ∀ j u, xs[j]? = some u → w.drew.cell? ((⟨g, 0, none⟩ : Addr).add j) = some u := by
        intro j u hj
        rw [show w.drew.cell? = w.cell? from rfl, Addr.add_lit, Nat.zero_add, cell_of_row w g j cur e fz hg]
        rw [← htake, List.getElem?_take] at hj
        split at hj
        · simpa using hj
        · cases hj
      have hfo := run_firstCells_some (P := P) w.drew i.size xs.length ⟨g, 0, none⟩ xs.length cap xs (by rw [hsize]; omega) holds
      have hrun := Lib.run_append_grow_zeros (P := P) w t tn ty e i z k kn ht htn hi hz (some ⟨g, 0, none⟩) xs.length cap xs hfo n h0 (by omega) (by omega) (by omega) (by omega) (growslice_fits (by omega) (by rw [hby]; exact hbytes))
      have hge := grownCap_ge w (xs.length + n) cap e
      have hcm2 : grownCap w (xs.length + n) cap e ≤ maxLen := grownCap_le_maxLen w (xs.length + n) cap e h63
      refine ⟨_, _, hrun, .inr ⟨w.heap.size, _, _, (0, 0), by simp, hlo, heap_alloc_new w.drew _, .inl rfl, by simpa using hge, hcm2, ?_, ?_⟩, ⟨rfl, rfl, rfl, by simp, fun k hk _ => Below.heap_alloc w.drew _ k hk⟩, .inr rfl⟩
      · rw [hzr, hzr]
        simp
        omega
      · rw [hzr, hzr]
        simp only [Array.toList_append, Array.toList_replicate]
        rw [List.append_assoc, ← List.append_assoc, List.take_left' (by simp)]
end

set_option maxRecDepth 100000 in
theorem rmay_r (r : L) (A : Option Addr) (c : Nat) (w : World) (hl : r.length < 9223372036854775808) :
    Calls Try.prog 59 #[.slice A r.length c] w fun e w' => e = .returned (.bool (mayR r)) ∧ Stp w w' := by
  have h0 := Stp.refl w
  obtain ⟨n, hn⟩ : ∃ n, r.length = n := ⟨_, rfl⟩
  obtain ⟨m, hm⟩ : ∃ m, mayR r = m := ⟨_, rfl⟩
  have key : (decide ((512 : Int) ≤ (n : Int)) = false ∧ m = false) ∨ (decide ((512 : Int) ≤ (n : Int)) = true ∧ decide ((n : Int) ≤ 10240) = false ∧ m = false) ∨ (decide ((512 : Int) ≤ (n : Int)) = true ∧ decide ((n : Int) ≤ 10240) = true ∧ ((n : Int) % 512 == 0) = m) := by
    have h := mayR_iff (r := r)
    rw [hm, hn] at h
    by_cases h1 : 512 ≤ n
    · by_cases h2 : n ≤ 10240
      · refine .inr (.inr ⟨decide_eq_true (by omega), decide_eq_true (by omega), ?_⟩)
        rw [Bool.eq_iff_iff, h, beq_iff_eq]
        omega
      · refine .inr (.inl ⟨decide_eq_true (by omega), decide_eq_false (by omega), ?_⟩)
        rw [Bool.eq_false_iff, ne_eq, h]
        omega
    · refine .inl ⟨decide_eq_false (by omega), ?_⟩
      rw [Bool.eq_false_iff, ne_eq, h]
      omega
  rw [hn] at hl
  rw [hm, hn]
  clear hm hn
  rcases key with ⟨g1, rfl⟩ | ⟨g1, g2, rfl⟩ | ⟨g1, g2, g3⟩
  all_goals
    go_enter Try.func59, Try.ntmps59
    go_wp2_with fail
    go_ret
    exact ⟨rfl, h0⟩
theorem noughts_cells (k : Nat) : bs (noughts k) = List.replicate k (Value.int .u8 0) := by simp [noughts, bs]
theorem lit_own {w5 : World} {lo : Nat} {v : Value} {r : L} (h : Base.Own w5 lo 5 v (bs r)) : RdL (w5.alloc (.cells #[v] 25)) (some ⟨w5.heap.size, 0, none⟩) 1 [r] := by
  obtain ⟨A, cap, rfl, hA⟩ := RdA.of h.rd
  obtain ⟨A2, c2, e, hL⟩ := (Base.Rows.one (e := 25) hA (bs_length r).symm).rdL
  cases e
  exact hL
theorem stp_own {w0 w w' : World} {lo : Nat} {e : TypeId} {v : Value} {xs : List Value} (h : Base.Own w lo e v xs) (h0 : Stp w0 w) (hlo : w0.heap.size ≤ lo) (hg : w.grownBy w' v.ownBlock) : Stp w0 w' :=
  Below.grown h0 hg h0.size fun j hj => Nat.le_trans hlo (h.lt j hj).1

theorem rdA_form {w : World} {A : Option Addr} {c : Nat} {l : L} (h : RdA w A c (bs l)) (hl : 0 < l.length) : ∃ b o, A = some ⟨b, o, none⟩ := by
  obtain ⟨b, o, rfl, -⟩ := h.at_ (j := 0) (by rw [bs_length]; exact hl)
  exact ⟨b, o, rfl⟩
theorem lit_mid {w3 : World} {lo : Nat} {v : Value} {r : L} (h : Base.Own w3 lo 5 v ([] ++ bs r)) (hr : r.length = 512) : ∃ A6 c6, v = .slice A6 512 c6 ∧ RdL (w3.alloc (.cells #[.slice A6 512 c6] 25)) (some ⟨w3.heap.size, 0, none⟩) 1 [r] := by
  have hL := lit_own h
  obtain ⟨A6, c6, rfl, -⟩ := RdA.of h.rd
  have e : ([] ++ bs r).length = 512 := by rw [List.nil_append, bs_length, hr]
  rw [e] at hL
  exact ⟨A6, c6, by rw [e], hL⟩
theorem rd_mid {w : World} {b o c : Nat} {l : L} {i : Nat} (h : RdA w (some ⟨b, o, none⟩) c (bs l)) (hi : i + 512 ≤ l.length) : Rd w w.heap.size (.slice (some ⟨b, o + i, none⟩) 512 (c - i)) (bs ((l.drop i).take 512)) := by
  have hc := h.length_le
  rw [bs_length] at hc
  have hl : (bs ((l.drop i).take 512)).length = 512 := by rw [bs_length, List.length_take, List.length_drop]; omega
  obtain ⟨b', o', e, hu⟩ := h.at_ (j := 0) (by rw [bs_length]; omega)
  simp only [Option.some.injEq, Addr.mk.injEq, and_true] at e
  obtain ⟨rfl, rfl⟩ := e
  have h0 : (bs l)[0]? = some (.int .u8 ((l[0]'(by omega)).toNat : Int)) := bs_at (by omega)
  refine ⟨_, _, by rw [hl], by omega, fun _ => ⟨b, o + i, rfl, World.block_lt_of_cell? w _ (hu 0 _ h0), fun j u hj => ?_⟩⟩
  have hj5 : j < 512 := by have := (List.getElem?_eq_some_iff.1 hj).1; omega
  have := hu (i + j) u (by
    rw [← hj]
    simp [bs, hj5])
  rwa [show o + (i + j) = o + i + j by omega] at this
theorem slice_mid (b o n c k : Nat) (hc : 512 * k + 512 ≤ c) (w : World) : (Instr.slice 25 (.slice (some ⟨b, o, none⟩) n c) (some (.int .i64 (512 * (k : Int)))) (some (.int .i64 (512 * (k : Int) + 512))) none).run Try.prog w = .ok (.slice (some ⟨b, o + 512 * k, none⟩) 512 (c - 512 * k)) w := by
  have he : Try.prog.elem 25 = 5 := by kernel_rfl
  rw [run_slice_lh (P := Try.prog) w 25 _ _ _ (by rw [he]; exact Try.underlying25) .i64 .i64 _ _ (by omega) (by omega) (by omega), he, byte_sz]
  simp only [Result.andThen_ok, sliced]
  rw [if_neg (by omega)]
  simp only [Option.map_some, Addr.add_lit, Nat.mul_one]
  rw [show (512 * (k : Int)).toNat = 512 * k by omega, show (512 * (k : Int) + 512).toNat - 512 * k = 512 by omega]

end Go.Proofs.Ytaknnkcfoafkdaa.Rec
