/-
  The document's answers for drives: their contracts; no statement is proved here.
-/
import Derived.Test.YtaknnkcfoafkdaaDriveI
import Derived.Test.YtaknnkcfoafkdaaDriveRef
import Derived.Deep.AppendLies
import Derived.BigQuiet
import Derived.Deep.RegionLaw
import Derived.Deep.Cut
namespace Go.Proofs.Ytaknnkcfoafkdaa.Drive
open Go.RowKit Go.Proofs.Ytaknnkcfoafkdaa.Str Go.Proofs.Ytaknnkcfoafkdaa.Base Go.Proofs.Ytaknnkcfoafkdaa.BlockM Go.Proofs.Ytaknnkcfoafkdaa.RecM Go.Proofs.Ytaknnkcfoafkdaa.TapeM Go.Proofs.Ytaknnkcfoafkdaa.Tape Go.Proofs.Ytaknnkcfoafkdaa.DriveM
set_option linter.unusedVariables false

theorem tape_info : (Try.prog.info? 41).map (fun i => (i.zero, i.size, i.bytes)) = some (some (.agg #[.int .i64 0, .slice none 0 0, .bool false]), 3, 40) := by kernel_rfl
/-- The cells of a row of tapes. -/
theorem RdS.cells {w : World} {b o k : Nat} {ts : List Tp} (h : RdS w (some ⟨b, o, none⟩) k ts) (hne : ts ≠ []) : ∃ xs : List Value, xs.length = ts.length * 3 ∧ (∀ q u, xs[q]? = some u → w.cell? ⟨b, o + q, none⟩ = some u) ∧ (∀ u ∈ xs, u.oneCell' = true) ∧
    ∀ (j : Nat) (t : Tp), ts[j]? = some t → ∃ Aj kj, xs[j * 3]? = some (.int .i64 t.cap) ∧ xs[j * 3 + 1]? = some (.slice Aj t.rows.length kj) ∧ xs[j * 3 + 2]? = some (.bool t.mark) ∧ RdL w Aj kj t.rows := by
  obtain ⟨b', o', e, -, hc⟩ := h.2 hne
  cases e
  have key : ∀ q, q < ts.length * 3 → ∃ u, w.cell? ⟨b, o + q, none⟩ = some u ∧ u.oneCell' = true := by
    intro q hq
    obtain ⟨t, ht⟩ : ∃ t, ts[q / 3]? = some t := ⟨_, List.getElem?_eq_getElem (by omega)⟩
    obtain ⟨Aj, kj, c0, c1, c2, -⟩ := hc (q / 3) t ht
    have h3 : q % 3 = 0 ∨ q % 3 = 1 ∨ q % 3 = 2 := by omega
    rcases h3 with h3 | h3 | h3
    · exact ⟨_, by rw [show o + q = o + q / 3 * 3 by omega]; exact c0, rfl⟩
    · exact ⟨_, by rw [show o + q = o + q / 3 * 3 + 1 by omega]; exact c1, rfl⟩
    · exact ⟨_, by rw [show o + q = o + q / 3 * 3 + 2 by omega]; exact c2, rfl⟩
  have hx : ∀ q, q < ts.length * 3 → ((List.range (ts.length * 3)).map fun q => (w.cell? ⟨b, o + q, none⟩).getD (.bool false))[q]? = w.cell? ⟨b, o + q, none⟩ := by
    intro q hq
    obtain ⟨u, hu, -⟩ := key q hq
    rw [List.getElem?_map, List.getElem?_range hq, hu]
    simp [hu]
  refine ⟨(List.range (ts.length * 3)).map fun q => (w.cell? ⟨b, o + q, none⟩).getD (.bool false), by simp, fun q u hq => ?_, fun u hu => ?_, fun j t hj => ?_⟩
  · have hlt := (List.getElem?_eq_some_iff.1 hq).1
    rw [List.length_map, List.length_range] at hlt
    rw [← hx q hlt]
    exact hq
  · obtain ⟨q, hq, rfl⟩ := List.mem_map.1 hu
    obtain ⟨u, hu, h1⟩ := key q (by simpa using hq)
    rw [hu]
    exact h1
  · have hl := (List.getElem?_eq_some_iff.1 hj).1
    obtain ⟨Aj, kj, c0, c1, c2, hr⟩ := hc j t hj
    refine ⟨Aj, kj, ?_, ?_, ?_, hr⟩
    · rw [hx _ (by omega)]; exact c0
    · rw [hx _ (by omega), ← Nat.add_assoc]; exact c1
    · rw [hx _ (by omega), ← Nat.add_assoc]; exact c2
/-- append of tapes onto nil: a new block. -/
theorem run_app_tapes {w0 w : World} {b o k : Nat} {ts : List Tp} (ty : TypeId) (hw : Stp w0 w) (h : RdS w0 (some ⟨b, o, none⟩) k ts) (hne : ts ≠ []) (hl : ts.length ≤ 1000) :
    ∃ g cap w' cur, (Builtin.append_ #[22, 22] ty #[.slice none 0 0, .slice (some ⟨b, o, none⟩) ts.length k]).run Try.prog w = .ok (.slice (some ⟨g, 0, none⟩) ts.length cap) w' ∧ Blk w' g 41 cur ∧ w.heap.size ≤ g ∧ Stp w w' ∧ ts.length ≤ cap ∧
      ∀ (j : Nat) (t : Tp), ts[j]? = some t → ∃ Aj kj, cur[j * 3]? = some (.int .i64 t.cap) ∧ cur[j * 3 + 1]? = some (.slice Aj t.rows.length kj) ∧ cur[j * 3 + 2]? = some (.bool t.mark) ∧ RdL w0 Aj kj t.rows := by
  obtain ⟨xs, x1, x2', x3, x4⟩ := h.cells hne
  obtain ⟨b', o', eb, hb0, -⟩ := h.2 hne
  cases eb
  have x2 : ∀ q u, xs[q]? = some u → w.cell? ⟨b, o + q, none⟩ = some u := fun q u hq => (hw.cell (p := ⟨b, o + q, none⟩) hb0).trans (x2' q u hq)
  obtain ⟨i, hi, hz, hsz, hby⟩ := info_parts tape_info
  have hpos : 0 < ts.length := List.length_pos_iff.2 hne
  obtain ⟨g, cap, w', hr, h2, h3, h4, h5⟩ := run_append_lies (P := Try.prog) w 22 ty w.heap.size 41 i _ 3 40 Try.underlying22 hi hz hsz hby rfl (by decide) (.slice none 0 0) 0 [] (World.ownsRow_nil _ _ _ _)
      ⟨b, o, none⟩ ts.length k xs x1 (fun j u hj => by rw [Addr.add_lit]; exact x2 j u hj) x3 hpos (by unfold maxLen; omega) (by omega) (Nat.le_refl _) _ rfl
  rw [Nat.zero_add] at h2 hr
  rw [List.nil_append] at h2
  have hst : Stp w w' := fresh_stp (by simpa [Value.ownBlock] using h3)
  obtain ⟨hl2, ⟨e, hn⟩ | ⟨g2, cap2, cur, e, hb, hg, hn, hc, hs, ht⟩⟩ := h2
  · cases e
  · cases e
    refine ⟨g, cap, w', cur, hr, hg, hb, hst, hn, fun j t hj => ?_⟩
    obtain ⟨Aj, kj, c0, c1, c2, hrr⟩ := x4 j t hj
    have hcur : ∀ q u, xs[q]? = some u → cur[q]? = some u := fun q u hq => by
      rw [← ht, List.getElem?_take] at hq
      split at hq
      · simpa using hq
      · cases hq
    exact ⟨Aj, kj, hcur _ _ c0, hcur _ _ c1, hcur _ _ c2, hrr⟩
theorem wpList_app_tapes {w0 w : World} {ops : Array Oper} {rest : List Oper} {oo : Oper} {a : Act} {Q : Exit → Act → World → Prop} {b o k n : Nat} {ts : List Tp} (hgd : oo.guard = none) (s x : Operand)
    (ho : oo.op = .call { callee := .builtin .append, args := #[s, x], argTypes := #[22, 22] }) (hs : a.eval s = .slice none 0 0) (hx : a.eval x = .slice (some ⟨b, o, none⟩) n k) (hn : ts.length = n) (hw : Stp w0 w) (h : RdS w0 (some ⟨b, o, none⟩) k ts) (hne : ts ≠ []) (hl : n ≤ 1000)
    (hK : ∀ g cap w' cur, Blk w' g 41 cur → w.heap.size ≤ g → Stp w w' → n ≤ cap → (∀ (j : Nat) (t : Tp), ts[j]? = some t → ∃ Aj kj, cur[j * 3]? = some (.int .i64 t.cap) ∧ cur[j * 3 + 1]? = some (.slice Aj t.rows.length kj) ∧ cur[j * 3 + 2]? = some (.bool t.mark) ∧ RdL w0 Aj kj t.rows) → wpList Try.prog ops Q rest (a.put oo.dst (.slice (some ⟨g, 0, none⟩) n cap)) w') : wpList Try.prog ops Q (oo :: rest) a w := by
  subst hn
  refine wpList_plain hgd fun K hK2 => ?_
  obtain ⟨g, cap, w', cur, hr, h1, h2, h3, h4, h5⟩ := run_app_tapes oo.type hw h hne hl
  unfold Oper.wp execOp
  simp only [ho, resolve, invoke, builtin, Sem.run_bind, Sem.run_pure, Result.andThen_ok, List.map_toArray, List.map_cons, List.map_nil, hs, hx, hr]
  exact hK2 _ _ (hK g cap w' cur h1 h2 h3 h4 h5)
/-- A row that stands in a block of its own. -/
theorem rdS_blk {w w0 : World} {g cap : Nat} {cur : Array Value} {ts : List Tp} (hb : Blk w g 41 cur) (hl : ts.length ≤ cap) (hs : Stp w0 w)
    (h : ∀ (j : Nat) (t : Tp), ts[j]? = some t → ∃ Aj kj, cur[j * 3]? = some (.int .i64 t.cap) ∧ cur[j * 3 + 1]? = some (.slice Aj t.rows.length kj) ∧ cur[j * 3 + 2]? = some (.bool t.mark) ∧ RdL w0 Aj kj t.rows) : RdS w (some ⟨g, 0, none⟩) cap ts := by
  refine ⟨hl, fun _ => ⟨g, 0, rfl, hb.lt, fun j t hj => ?_⟩⟩
  obtain ⟨Aj, kj, c0, c1, c2, hr⟩ := h j t hj
  refine ⟨Aj, kj, ?_, ?_, ?_, hr.keep hs⟩
  · rw [hb.cell, Nat.zero_add]; exact c0
  · rw [hb.cell, Nat.zero_add]; exact c1
  · rw [hb.cell, Nat.zero_add]; exact c2
/-- One tape stored. -/
theorem cells_set {w0 : World} {cur : Array Value} {ts : List Tp} {t : Tp} {A : Option Addr} {k j0 : Nat} (hj0 : j0 < ts.length) (ha : RdL w0 A k t.rows)
    (h : ∀ (j : Nat) (t : Tp), ts[j]? = some t → ∃ Aj kj, cur[j * 3]? = some (.int .i64 t.cap) ∧ cur[j * 3 + 1]? = some (.slice Aj t.rows.length kj) ∧ cur[j * 3 + 2]? = some (.bool t.mark) ∧ RdL w0 Aj kj t.rows) :
    ∀ (j : Nat) (u : Tp), (ts.set j0 t)[j]? = some u → ∃ Aj kj, (((cur.setIfInBounds (j0 * 3) (.int .i64 t.cap)).setIfInBounds (j0 * 3 + 1) (.slice A t.rows.length k)).setIfInBounds (j0 * 3 + 2) (.bool t.mark))[j * 3]? = some (.int .i64 u.cap) ∧
      (((cur.setIfInBounds (j0 * 3) (.int .i64 t.cap)).setIfInBounds (j0 * 3 + 1) (.slice A t.rows.length k)).setIfInBounds (j0 * 3 + 2) (.bool t.mark))[j * 3 + 1]? = some (.slice Aj u.rows.length kj) ∧
      (((cur.setIfInBounds (j0 * 3) (.int .i64 t.cap)).setIfInBounds (j0 * 3 + 1) (.slice A t.rows.length k)).setIfInBounds (j0 * 3 + 2) (.bool t.mark))[j * 3 + 2]? = some (.bool u.mark) ∧ RdL w0 Aj kj u.rows := by
  intro j u hj
  by_cases e : j0 = j
  · subst e
    rw [List.getElem?_set_self hj0] at hj
    cases hj
    obtain ⟨t0, ht0⟩ : ∃ t, ts[j0]? = some t := ⟨_, List.getElem?_eq_getElem hj0⟩
    obtain ⟨Aj, kj, c0, c1, c2, -⟩ := h j0 t0 ht0
    have l0 := (Array.getElem?_eq_some_iff.1 c0).1
    have l1 := (Array.getElem?_eq_some_iff.1 c1).1
    have l2 := (Array.getElem?_eq_some_iff.1 c2).1
    refine ⟨A, k, ?_, ?_, ?_, ha⟩
    · simp [l0]
    · simp [l1]
    · simp [l2]
  · rw [List.getElem?_set_ne e] at hj
    obtain ⟨Aj, kj, c0, c1, c2, hr⟩ := h j u hj
    refine ⟨Aj, kj, ?_, ?_, ?_, hr⟩
    · rw [Array.getElem?_setIfInBounds_ne (by omega), Array.getElem?_setIfInBounds_ne (by omega), Array.getElem?_setIfInBounds_ne (by omega)]; exact c0
    · rw [Array.getElem?_setIfInBounds_ne (by omega), Array.getElem?_setIfInBounds_ne (by omega), Array.getElem?_setIfInBounds_ne (by omega)]; exact c1
    · rw [Array.getElem?_setIfInBounds_ne (by omega), Array.getElem?_setIfInBounds_ne (by omega), Array.getElem?_setIfInBounds_ne (by omega)]; exact c2
set_option maxRecDepth 100000 in
set_option maxHeartbeats 2000000 in
theorem rdwith_s (ts : List Tp) (i p : Int) (n j : Nat) (hn : ts.length = n) (hn2 : n ≤ 1000) (hij : i = (j : Int)) (hjn : j < n) (c : Int) (ls : List L) (m : Bool) (nt : Nat) (hnt : ls.length = nt) (q : Int) (A B : Option Addr) (k kt : Nat) (w : World) (ha : RdS w A k ts) (hb : RdL w B kt ls) :
    Calls Try.prog 42 #[dc A n k i p, tc c B nt kt m, .int .i64 q] w fun e w' => ∃ A' k', e = .returned (dc A' n k' i q) ∧ RdS w' A' k' (ts.set j ⟨c, ls, m⟩) ∧ Stp w w' := by
  have hne : ts ≠ [] := by
    rintro rfl
    simp at hn
    omega
  obtain ⟨bb, oo, rfl, -, -⟩ := ha.2 hne
  have hst0 : Stp w (((w.alloc (.cells (dcs (some ⟨bb, oo, none⟩) n k i p) 24)).alloc (.cells (tcs c B nt kt m) 41)).alloc (.cells (dcs none 0 0 0 0) 24)) := Stp.alloc (Stp.alloc (Stp.alloc (Stp.refl w) _) _) _
  have b0 := ((Blk.new w 24 (dcs (some ⟨bb, oo, none⟩) n k i p)).alloc (.cells (tcs c B nt kt m) 41)).alloc (.cells (dcs none 0 0 0 0) 24)
  have b1 := (Blk.new (w.alloc (.cells (dcs (some ⟨bb, oo, none⟩) n k i p) 24)) 41 (tcs c B nt kt m)).alloc (.cells (dcs none 0 0 0 0) 24)
  have b2 := Blk.new ((w.alloc (.cells (dcs (some ⟨bb, oo, none⟩) n k i p) 24)).alloc (.cells (tcs c B nt kt m) 41)) 24 (dcs none 0 0 0 0)
  have hsz : (((w.alloc (.cells (dcs (some ⟨bb, oo, none⟩) n k i p) 24)).alloc (.cells (tcs c B nt kt m) 41)).alloc (.cells (dcs none 0 0 0 0) 24)).heap.size = w.heap.size + 3 := by simp only [World.size_alloc]
  simp only [World.size_alloc] at b1 b2
  have HSZ := Lib.hid hsz
  have H0 := Lib.hid hst0
  have B0 := Lib.hid b0
  have B1 := Lib.hid b1
  have B2 := Lib.hid b2
  have Ha := Lib.hid ha
  have Hb := Lib.hid hb
  have Hn := Lib.hid hn
  have Hnt := Lib.hid hnt
  have Hne := Lib.hid hne
  obtain ⟨⟨q0, q1, q2⟩, -, -, -⟩ := dd_all b0
  have hji : i.toNat = j := by rw [hij]; rfl
  have hi0 : 0 ≤ i := by omega
  have hin : i < (n : Int) := by omega
  have Hjn := Lib.hid hjn
  have Hij := Lib.hid hij
  clear ha hb hn hnt hne b0 b1 b2 hsz hst0 hij hjn
  go_enter Try.func42, Try.ntmps42
  go_wp2_with (at_builtin; refine wpList_app_tapes rfl (.const (.slice none 0 0)) (.tmp 9) rfl rfl rfl Hn.out H0.out Ha.out Hne.out hn2 ?_; intro g cap w1 cur hb hg hs hcap hcells; have HB := Lib.hid hb; have HC := Lib.hid hcells; have H1 := Lib.hid hs; have Hcap := Lib.hid hcap; have Hg := Lib.hid (Nat.le_trans (Nat.le_of_eq HSZ.out.symm) hg); have B0' := Lib.hid (B0.out.keep hs B0.out.lt); have B1' := Lib.hid (B1.out.keep hs B1.out.lt); have B2' := Lib.hid (B2.out.keep hs B2.out.lt); obtain ⟨⟨q3, q4, q5⟩, -, -, -⟩ := dd_all B0'.out; obtain ⟨⟨r0, r1, r2⟩, -, -, -⟩ := tt_all B1'.out; obtain ⟨⟨u0, u1, u2⟩, s0, s1, s2⟩ := dd_all B2'.out; obtain ⟨t0, ht0⟩ : ∃ t, ts[j]? = some t := ⟨_, List.getElem?_eq_getElem (by rw [Hn.out]; exact Hjn.out)⟩; obtain ⟨Aj, kj, c0, c1, c2, -⟩ := HC.out j t0 ht0; have d0 : w1.cell? ⟨g, j * 3, none⟩ = _ := (HB.out.cell _).trans c0; have d1 : w1.cell? ⟨g, j * 3 + 1, none⟩ = _ := (HB.out.cell _).trans c1; have d2 : w1.cell? ⟨g, j * 3 + 2, none⟩ = _ := (HB.out.cell _).trans c2; have z0 := HB.out.free (j * 3); have z1 := HB.out.free (j * 3 + 1); have z2 := HB.out.free (j * 3 + 2); have n0 : g ≠ w.heap.size := (by have := Hg.out; omega); have n1 : g ≠ w.heap.size + 1 := (by have := Hg.out; omega); have n2 : g ≠ w.heap.size + 2 := (by have := Hg.out; omega); clear hb hcells hs hcap hg q0 q1 q2 c0 c1 c2 ht0)
  have hX : Blk (((w1.setCell ⟨g, j * 3, none⟩ (.int .i64 c)).setCell ⟨g, j * 3 + 1, none⟩ (.slice B nt kt)).setCell ⟨g, j * 3 + 2, none⟩ (.bool m)) g 41 _ := ((HB.out.put (j * 3) (.int .i64 c)).put (j * 3 + 1) (.slice B nt kt)).put (j * 3 + 2) (.bool m)
  have hB2 := ((B2'.out.far (p := ⟨g, j * 3, none⟩) (Ne.symm n2) (.int .i64 c)).far (p := ⟨g, j * 3 + 1, none⟩) (Ne.symm n2) (.slice B nt kt)).far (p := ⟨g, j * 3 + 2, none⟩) (Ne.symm n2) (.bool m)
  have hwg : w.heap.size ≤ g := by have := Hg.out; omega
  have hsX : Stp w (((w1.setCell ⟨g, j * 3, none⟩ (.int .i64 c)).setCell ⟨g, j * 3 + 1, none⟩ (.slice B nt kt)).setCell ⟨g, j * 3 + 2, none⟩ (.bool m)) := Below.setCell (Below.setCell (Below.setCell (Stp.trans H0.out H1.out) (p := ⟨g, j * 3, none⟩) hwg _) (p := ⟨g, j * 3 + 1, none⟩) hwg _) (p := ⟨g, j * 3 + 2, none⟩) hwg _
  have hset := cells_set (t := ⟨c, ls, m⟩) (A := B) (k := kt) (j0 := j) (by rw [Hn.out]; exact Hjn.out) Hb.out HC.out
  dsimp only at hset
  rw [Hnt.out] at hset
  clear q3 q4 q5 r0 r1 r2 d0 d1 d2 z0 z1 z2 u0 u1 u2 s0 s1 s2
  generalize ((w1.setCell ⟨g, j * 3, none⟩ (.int .i64 c)).setCell ⟨g, j * 3 + 1, none⟩ (.slice B nt kt)).setCell ⟨g, j * 3 + 2, none⟩ (.bool m) = X at hX hB2 hsX ⊢
  have hf := filld_blk (some ⟨g, 0, none⟩) n cap i q hB2
  have hst := filld_stp (some ⟨g, 0, none⟩) n cap i q hsX (g := w.heap.size + 1 + 1) (by omega)
  have hbg := Blk.grown hX (filld_grown X (w.heap.size + 1 + 1) (some ⟨g, 0, none⟩) n cap i q) (fun e => by injection e with e; omega)
  change bodyPost _ _ _ _ _ (fillD X (w.heap.size + 1 + 1) (some ⟨g, 0, none⟩) n cap i q)
  generalize fillD X (w.heap.size + 1 + 1) (some ⟨g, 0, none⟩) n cap i q = WW at hf hst hbg ⊢
  obtain ⟨⟨q0, q1, q2⟩, -, -, -⟩ := dd_all hf
  refine bodyPost_ret (v := dc (some ⟨g, 0, none⟩) n cap i q) (by simp [results, Try.results42, go_sem, *]) rfl ⟨_, _, rfl, ?_, hst⟩
  exact rdS_blk hbg (by rw [List.length_set, Hn.out]; exact Hcap.out) hst hset
end Go.Proofs.Ytaknnkcfoafkdaa.Drive
