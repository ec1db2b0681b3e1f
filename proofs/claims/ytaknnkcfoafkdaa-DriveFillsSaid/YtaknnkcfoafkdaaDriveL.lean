/-
  Package drive's own: the same drive in memory of its own: its contract; no statement is proved here.
-/
import Derived.Test.YtaknnkcfoafkdaaDriveK
import Derived.Test.YtaknnkcfoafkdaaDriveRef
namespace Go.Proofs.Ytaknnkcfoafkdaa.Drive
open Go.RowKit Go.Proofs.Ytaknnkcfoafkdaa.Str Go.Proofs.Ytaknnkcfoafkdaa.Base Go.Proofs.Ytaknnkcfoafkdaa.BlockM Go.Proofs.Ytaknnkcfoafkdaa.RecM Go.Proofs.Ytaknnkcfoafkdaa.TapeM Go.Proofs.Ytaknnkcfoafkdaa.Tape Go.Proofs.Ytaknnkcfoafkdaa.DriveM
set_option linter.unusedVariables false

/-- How far the rows of a shelf have been laid anew. -/
abbrev HalfP (w : World) (b : Nat) (j : Nat) (wr : World) : Nat → Tp → Option Addr → Nat → Prop := fun q t A kk => if q < j then InS (fun x => b < x) wr A kk t.rows else RdL w A kk t.rows
def Half (w : World) (b : Nat) (ts : List Tp) (A' : Option Addr) (j : Nat) (wr : World) : Prop :=
  ts ≠ [] → A' = some ⟨b, 0, none⟩ ∧ ∃ cur, Blk wr b 41 cur ∧ Cur (HalfP w b j wr) cur ts
theorem Half.keep {w w1 w2 : World} {b j : Nat} {ts : List Tp} {A' : Option Addr} (h : Half w b ts A' j w1) (hs : Stp w1 w2) : Half w b ts A' j w2 := fun hne => by
  obtain ⟨e, cur, hb, hc⟩ := h hne
  refine ⟨e, cur, hb.keep hs hb.lt, hc.imp fun q t A k hp => ?_⟩
  unfold HalfP at hp ⊢
  split
  · rename_i hlt
    rw [if_pos hlt] at hp
    exact hp.keep hs
  · rename_i hlt
    rw [if_neg hlt] at hp
    exact hp
/-- One more. -/
theorem Half.next {w w1 w2 w3 : World} {b j y k : Nat} {ts : List Tp} {A' A : Option Addr} {t : Tp} (h : Half w b ts A' j w1) (hs : Stp w1 w3) (ht : ts[j]? = some t) (hy : t.rows.length = y) (hb : b < w2.heap.size) (hR : FRows w3 (From w2.heap.size) (.slice A y k) t.rows) :
    Half w b ts A' (j + 1) (w3.setCell ⟨b, j * 3 + 1, none⟩ (.slice A y k)) := fun hne => by
  obtain ⟨e, cur, hB, hc⟩ := h.keep hs hne
  have ha : Abv (fun x => b < x) w3 (w3.setCell ⟨b, j * 3 + 1, none⟩ (.slice A y k)) := Abv.put w3 (by omega) _ _
  refine ⟨e, _, hB.put _ _, hc.rows ht hy ?_ fun q u A k hq hp => ?_⟩
  · unfold HalfP
    rw [if_pos (by omega)]
    exact ((InS.of_rows hR).less (fun x _ (hx : w2.heap.size ≤ x) => show b < x by omega)).abv ha
  · unfold HalfP at hp ⊢
    by_cases hlt : q < j
    · rw [if_pos hlt] at hp
      rw [if_pos (by omega)]
      exact hp.abv ha
    · rw [if_neg hlt] at hp
      rw [if_neg (by omega)]
      exact hp
theorem Half.end_ {w w1 : World} {b n k lo : Nat} {ts : List Tp} {A' : Option Addr} (h : Half w b ts A' n w1) (hn : ts.length = n) (hk : n ≤ k) (hb : lo ≤ b) : Osh lo w1 A' k ts := by
  by_cases hne : ts = []
  · exact .inl hne
  · obtain ⟨e, cur, hB, hc⟩ := h hne
    refine .inr ⟨b, cur, fun x => b < x, e, hb, fun x hx => by omega, by omega, hB, fun j t hj => ?_, by omega⟩
    obtain ⟨A, kk, c0, c1, c2, hp⟩ := hc j t hj
    unfold HalfP at hp
    rw [if_pos (by have := (List.getElem?_eq_some_iff.1 hj).1; omega)] at hp
    exact ⟨A, kk, c0, c1, c2, hp⟩

set_option maxRecDepth 100000 in
set_option maxHeartbeats 2000000 in
theorem down_s (ts : List Tp) (i p : Int) (n : Nat) (hn : ts.length = n) (hl : n ≤ 1000) (he : ∀ t ∈ ts, FewT t) (A : Option Addr) (k : Nat) (w : World) (ha : RdS w A k ts) :
    Calls Try.prog 33 #[dc A n k i p] w fun e w' => ∃ A' k', e = .returned (dc A' n k' i p) ∧ Osh w.heap.size w' A' k' ts ∧ Stp w w' := by
  have Hn := Lib.hid hn
  have He := Lib.hid he
  have Ha := Lib.hid ha
  obtain ⟨b0, b1, hst0⟩ := two_dblks w A n k i p
  obtain ⟨⟨q0, q1, q2⟩, p0, p1, p2⟩ := dd_all b0
  have B0 := Lib.hid b0
  have B1 := Lib.hid b1
  have H0 := Lib.hid hst0
  have S0 : Hid (w.heap.size + 2 = ((w.alloc (.cells (dcs A n k i p) 24)).alloc (.cells (dcs none 0 0 0 0) 24)).heap.size) := Lib.hid (by rw [World.size_alloc, World.size_alloc])
  clear hn he ha b0 b1 hst0
  go_enter Try.func33, Try.ntmps33
  go_wp2_with (go_at_call 55; refine (ctapes_s ts n Hn.out hl A k w _ H0.out Ha.out).mono ?_; rintro e w1 ⟨b, A1, k1, rfl, hs, hb, hb1, hk1, hX⟩; have H1 := Lib.hid hs; have Hb := Lib.hid hb; have Hb1 := Lib.hid hb1; have Hk1 := Lib.hid hk1; have HX := Lib.hid hX; have B0' := Lib.hid (B0.out.keep hs B0.out.lt); have B1' := Lib.hid (B1.out.keep hs B1.out.lt); clear hs hb hb1 hk1 hX q0 q1 q2 p0 p1 p2; obtain ⟨⟨q0, q1, q2⟩, p0, p1, p2⟩ := dd_all B0'.out)
  have hB0 := B0'.out.put 0 (.slice A1 n k1)
  have hB1 := B1'.out.far (p := ⟨w.heap.size, 0, none⟩) (show w.heap.size + 1 ≠ w.heap.size by omega) (.slice A1 n k1)
  have hS2 := Below.setCell (show Stp w w1 from Stp.trans H0.out H1.out) (p := ⟨w.heap.size, 0, none⟩) (Nat.le_refl _) (.slice A1 n k1)
  have hbb : w.heap.size + 2 ≤ b := Nat.le_trans (Nat.le_of_eq S0.out) Hb.out
  have hsz : (w1.setCell ⟨w.heap.size, 0, none⟩ (.slice A1 n k1)).heap.size = w1.heap.size := by simp [World.setCell]
  have hbl : b ≤ (w1.setCell ⟨w.heap.size, 0, none⟩ (.slice A1 n k1)).heap.size := by rw [hsz]; exact Hb1.out
  have hH : Half w b ts A1 0 (w1.setCell ⟨w.heap.size, 0, none⟩ (.slice A1 n k1)) := fun hne => by
    obtain ⟨e, cur, h1, h2⟩ := HX.out hne
    exact ⟨e, cur, h1.far (p := ⟨w.heap.size, 0, none⟩) (show b ≠ w.heap.size by omega) _, h2.imp fun q t A k hp => by unfold HalfP; rw [if_neg (by omega)]; exact hp⟩
  have HB0 : Hid (Blk _ _ _ (dcs A1 n k1 i p)) := Lib.hid hB0
  have HB1 := Lib.hid hB1
  have HS2 := Lib.hid hS2
  have Hbl := Lib.hid hbl
  have HH := Lib.hid hH
  clear hB0 hB1 hS2 hbl hH hsz q0 q1 q2 p0 p1 p2 HX B0' B1' Hb Hb1 B0 B1 H0 H1 S0
  generalize w1.setCell ⟨w.heap.size, 0, none⟩ (.slice A1 n k1) = W2 at HB0 HB1 HS2 Hbl HH ⊢
  go_loopw [15] (fun iv wr => ∃ j : Nat, j ≤ n ∧ iv = .int .i64 j ∧ Hid (Half w b ts A1 j wr) ∧ Hid (Below b W2 wr)) (fun iv _ => n - (intOf iv).toNat)
  case atStart => exact ⟨0, by omega, rfl, HH, Lib.hid (Below.refl _ _)⟩
  case round =>
    obtain ⟨j, hj, rfl, HHj, HSj⟩ := hrel
    have HB0j := Lib.hid (HB0.out.keep HSj.out (by omega))
    have HB1j := Lib.hid (HB1.out.keep HSj.out (by omega))
    have HSw := Lib.hid (show Stp w wr from Below.trans HS2.out (Below.mono HSj.out (by omega)))
    by_cases hlt : j < n
    · obtain ⟨t, ht⟩ : ∃ t, ts[j]? = some t := ⟨_, List.getElem?_eq_getElem (by rw [Hn.out]; exact hlt)⟩
      have hft := He.out t (List.mem_of_getElem? ht)
      obtain ⟨e, cur, hBc, hC⟩ := HHj.out (by rintro rfl; simp at ht)
      subst e
      obtain ⟨Aj, kj, c0, c1, c2, hp⟩ := hC j t ht
      unfold HalfP at hp
      rw [if_neg (by omega)] at hp
      obtain ⟨y, hy⟩ : ∃ y, t.rows.length = y := ⟨_, rfl⟩
      rw [hy] at c1
      have d0 : wr.cell? ⟨b, j * 3, none⟩ = _ := (hBc.cell _).trans c0
      have d1 : wr.cell? ⟨b, j * 3 + 1, none⟩ = _ := (hBc.cell _).trans c1
      have d2 : wr.cell? ⟨b, j * 3 + 2, none⟩ = _ := (hBc.cell _).trans c2
      have Hy := Lib.hid hy
      have Hr := Lib.hid hp
      have Ht := Lib.hid ht
      have Hft := Lib.hid hft
      have Hbw := Lib.hid hBc.lt
      clear hy hp ht hft hBc hC c0 c1 c2
      obtain ⟨⟨q0, q1, q2⟩, -, -, -⟩ := dd_all HB0j.out
      go_wp2_with fail
      clear q0 q1 q2 d0 d1 d2
      have hX : Stp wr (wr.alloc (.cells #[.int .i64 t.cap, .slice Aj y kj, .bool t.mark] 41)) := Stp.alloc (Stp.refl wr) _
      have hXs : (wr.alloc (.cells #[.int .i64 t.cap, .slice Aj y kj, .bool t.mark] 41)).heap.size = wr.heap.size + 1 := World.size_alloc _ _
      have HX := Lib.hid hX
      have HXs := Lib.hid hXs
      clear hX hXs
      generalize wr.alloc (.cells #[.int .i64 t.cap, .slice Aj y kj, .bool t.mark] 41) = X4 at HX HXs ⊢
      have HbX := Lib.hid (show b < X4.heap.size from Nat.lt_of_lt_of_le Hbw.out HX.out.size)
      go_loopw [5, 23] (fun v iv wi => ∃ q : Nat, q ≤ y ∧ iv = .int .i64 q ∧ Hid (FRows wi (From X4.heap.size) v (t.rows.take q)) ∧ Hid (Stp X4 wi)) (fun _ iv _ => y - (intOf iv).toNat)
      case atStart => exact ⟨0, by omega, rfl, Lib.hid (by rw [List.take_zero]; exact FRows.nil _ _), Lib.hid (Stp.refl _)⟩
      case round =>
        obtain ⟨q, hq, rfl, HR, HS⟩ := hrel
        by_cases hqy : q < y
        · obtain ⟨l, hl1⟩ : ∃ l, t.rows[q]? = some l := ⟨_, List.getElem?_eq_getElem (by rw [Hy.out]; exact hqy)⟩
          obtain ⟨b9, o9, A9, c9, rfl, ca, ra⟩ := (Hr.out.keep (Stp.trans HSw.out (Stp.trans HX.out HS.out))).at_ hl1
          have hll := Hft.out.each l (List.mem_of_getElem? hl1)
          have hfew := Hft.out.few
          rw [Hy.out] at hfew
          obtain ⟨z, hz⟩ : ∃ z, l.length = z := ⟨_, rfl⟩
          rw [hz] at ca hll
          have Hz := Lib.hid hz
          have Hl1 := Lib.hid hl1
          have Ra := Lib.hid ra
          clear hl1 hz ra
          go_wp2_with (first
            | (go_at_call 53; refine (clone_s l z Hz.out _ _ _ Ra.out hll).mono ?_; rintro e w3 ⟨A2, c2, rfl, hu, hs⟩; have HU := Lib.hid (hu.less (fun b _ hb => Nat.le_trans HS.out.size hb)); have HS1 := Lib.hid (Stp.trans HS.out hs); have HR1 := Lib.hid (HR.out.keep hs); have HSa := Lib.hid (Stp.alloc (Stp.refl w3) (.cells #[.slice A2 z c2] 25)); clear hu hs ca)
            | (at_builtin; go_loud (refine wpList_append_push (S := From X4.heap.size) rfl (.tmp 27) (.tmp 30) rfl rfl (HR1.out.keep HSa.out) rfl (HU.out.abv (Abv.of_stp HSa.out)) (lit_rd _ _ _) (by rw [List.length_take]; omega) (by have h2 := HS1.out.size; have h3 := HSa.out.size; show X4.heap.size ≤ _; omega) ?_; intro v' w5 hR hg _; have HR3 := Lib.hid hR; have HS3 := Lib.hid ((HR1.out.keep HSa.out).stp (Stp.trans HS1.out HSa.out) (fun b hb => hb) hg); clear hR hg)))
          go_roundw
          case rel =>
            refine ⟨q + 1, by omega, by go_num, Lib.hid ?_, HS3⟩
            rw [List.take_add_one, Hl1.out]
            exact HR3.out
          case measure => simp [intOf]; omega
        · obtain rfl : q = y := by omega
          have e : t.rows.take q = t.rows := List.take_of_length_le (by rw [Hy.out]; exact Nat.le_refl _)
          rw [e] at HR
          obtain ⟨A6, k6, rfl, -⟩ := HR.out.form
          have hR6 := HR.out
          rw [Hy.out] at hR6 ⊢
          have HR6 := Lib.hid hR6
          have HSi := Lib.hid (Stp.trans HX.out HS.out)
          obtain ⟨⟨q0, q1, q2⟩, -, -, -⟩ := dd_all (HB0j.out.keep HSi.out HB0j.out.lt)
          have hHi := HHj.out.keep HSi.out
          obtain ⟨-, cur2, hBc, hC⟩ := hHi (by rintro rfl; have := Ht.out; simp at this)
          obtain ⟨A7, k7, -, c1, -, -⟩ := hC j t Ht.out
          have d1 : wr.cell? ⟨b, j * 3 + 1, none⟩ = _ := (hBc.cell _).trans c1
          have z1 := hBc.free (j * 3 + 1)
          have Hn3 := Lib.hid (HHj.out.next HSi.out Ht.out Hy.out HbX.out hR6)
          have Hs3 := Lib.hid (show Below b W2 (wr.setCell ⟨b, j * 3 + 1, none⟩ (.slice A6 q k6)) from Below.setCell (Below.trans HSj.out (Below.mono HSi.out (Nat.le_of_lt Hbw.out))) (p := ⟨b, j * 3 + 1, none⟩) (Nat.le_refl _) _)
          clear e hR6 hHi hBc hC c1 HR
          go_wp2_with fail
          refine ⟨⟨j + 1, by omega, by go_num, Hn3, Hs3⟩, ?_⟩
          simp [intOf]
          omega
    · obtain rfl : j = n := by omega
      obtain ⟨⟨q0, q1, q2⟩, -, -, -⟩ := dd_all HB0j.out
      obtain ⟨⟨r0, r1, r2⟩, s0, s1, s2⟩ := dd_all HB1j.out
      go_wp2_with fail
      have hf := filld_blk A1 j k1 i p HB1j.out
      have hst := filld_stp A1 j k1 i p HSw.out (g := w.heap.size + 1) (by omega)
      have hosh : Osh w.heap.size (fillD wr (w.heap.size + 1) A1 j k1 i p) A1 k1 ts := by
        refine (Half.end_ (w := w) (lo := w.heap.size) ?_ Hn.out Hk1.out (show w.heap.size ≤ b by omega))
        intro hne
        obtain ⟨e, cur, h1, h2⟩ := HHj.out hne
        refine ⟨e, cur, Blk.grown h1 (filld_grown wr (w.heap.size + 1) A1 j k1 i p) (fun e => by injection e with e; omega), h2.imp fun q t A k hp => ?_⟩
        unfold HalfP at hp ⊢
        split
        · rename_i hlt
          rw [if_pos hlt] at hp
          exact hp.abv (Abv.of_grown (filld_grown wr (w.heap.size + 1) A1 j k1 i p) (by omega))
        · rename_i hlt
          rw [if_neg hlt] at hp
          exact hp
      change bodyPost _ _ _ _ _ (fillD wr (w.heap.size + 1) A1 j k1 i p)
      generalize fillD wr (w.heap.size + 1) A1 j k1 i p = WW at hf hst hosh ⊢
      clear q0 q1 q2 r0 r1 r2 s0 s1 s2
      obtain ⟨⟨q0, q1, q2⟩, -, -, -⟩ := dd_all hf
      refine bodyPost_ret (v := dc A1 j k1 i p) (by simp [results, Try.results33, go_sem, *]) rfl ⟨A1, k1, rfl, hosh, hst⟩
end Go.Proofs.Ytaknnkcfoafkdaa.Drive
