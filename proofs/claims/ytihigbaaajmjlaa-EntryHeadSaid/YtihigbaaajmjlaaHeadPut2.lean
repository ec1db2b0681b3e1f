/-
  Contracts of package head: texts and numbers written into a block: no statement is proved here.
-/
import Derived.Test.YtihigbaaajmjlaaHeadPut
import Derived.StillTailTactics
import Derived.Deep.RegionWith
namespace Go.Proofs.Ytihigbaaajmjlaa.Head
open Go.RowKit Go.Proofs.Ytihigbaaajmjlaa.Base Go.Proofs.Ytihigbaaajmjlaa.NumM Go.Proofs.Ytihigbaaajmjlaa.Num

theorem rowsC_length (hb : Nat) (l : List (Int × Int × Nat)) : (rowsC hb l).length = l.length * 3 := by
  induction l with
  | nil => rfl
  | cons r l ih => simp only [rowsC, List.flatMap_cons, List.length_append] at ih ⊢; rw [ih]; simp [rowC]; omega
theorem rowsC_at (hb : Nat) : ∀ (l : List (Int × Int × Nat)) (k : Nat) (r : Int × Int × Nat), l[k]? = some r → (rowsC hb l)[k * 3]? = some (.int .i64 r.1) ∧ (rowsC hb l)[k * 3 + 1]? = some (.int .i64 r.2.1) ∧ (rowsC hb l)[k * 3 + 2]? = some (.pointer (some ⟨hb, r.2.2, none⟩))
  | [], k, r, h => by simp at h
  | x :: l, 0, r, h => by
    simp only [List.getElem?_cons_zero, Option.some.injEq] at h
    subst h
    simp [rowsC, rowC]
  | x :: l, k + 1, r, h => by
    simp only [List.getElem?_cons_succ] at h
    have ih := rowsC_at hb l k r h
    have e : rowsC hb (x :: l) = rowC hb x ++ rowsC hb l := by simp [rowsC]
    have hl : (rowC hb x).length = 3 := rfl
    rw [e, List.getElem?_append_right (by rw [hl]; omega), List.getElem?_append_right (by rw [hl]; omega), List.getElem?_append_right (by rw [hl]; omega), hl]
    rw [show (k + 1) * 3 - 3 = k * 3 by omega, show (k + 1) * 3 + 1 - 3 = k * 3 + 1 by omega, show (k + 1) * 3 + 2 - 3 = k * 3 + 2 by omega]
    exact ih

theorem layAll_take {b : L} {ps : List (Nat × L)} {k : Nat} {p : Nat × L} (h : ps[k]? = some p) : layAll b (ps.take (k + 1)) = lay (layAll b (ps.take k)) p.1 p.2 := by
  rw [List.take_add_one, h]
  simp [layAll, List.foldl_append]
theorem layAll_length {b : L} {ps : List (Nat × L)} (h : ∀ p ∈ ps, p.1 + p.2.length ≤ b.length) : (layAll b ps).length = b.length := by
  induction ps generalizing b with
  | nil => rfl
  | cons p ps ih =>
    have h1 := h p (by simp)
    have e : layAll b (p :: ps) = layAll (lay b p.1 p.2) ps := rfl
    rw [e, ih (fun q hq => by rw [lay_length h1]; exact h q (by simp [hq])), lay_length h1]

theorem cell_grown {w w1 : World} {a : Addr} {v : Value} (h : w.grownBy w1 none) (hc : w.cell? a = some v) : w1.cell? a = some v := by
  have hlt := World.block_lt_of_cell? w _ hc
  unfold World.cell? at hc ⊢
  rwa [h.block _ hlt (by simp)]
theorem run_bytes_rd {P : Program} (w : World) (src dst e : TypeId) (hs : P.underlying src = some .string) (hd : P.underlying dst = some (.slice e)) (he : P.underlying e = some (.int .u8)) (s : L) (hm : s.length ≤ maxLen) :
    ∃ v w', (convert src dst (.string ⟨s.toArray⟩)).run P w = .ok v w' ∧ Own w' w.heap.size e v (bs s) ∧ w.grownBy w' none :=
  ⟨_, _, run_bytes_of_string (P := P) w src dst e ⟨s.toArray⟩ hs hd he, own_bytesRow w e ⟨s.toArray⟩ (by show s.toArray.size ≤ _; rw [List.size_toArray]; exact hm), ⟨rfl, rfl, rfl, by simp, fun k hk _ => Below.heap_alloc w.drew _ k hk⟩⟩

/-- A row that leads to a text, and what is to be laid where. -/
structure EntT (w : World) (hb : Nat) (r : Int × Int × Nat) (p : Nat × L) : Prop where
  at_ : r.1 = (p.1 : Int)
  cell : w.cell? ⟨hb, r.2.2, none⟩ = some (.string ⟨p.2.toArray⟩)
  room : p.1 + p.2.length ≤ 512
  low : p.1 < 512

theorem grown_trans {w w1 w2 : World} {r : Option Nat} (h : w.grownBy w1 r) (k : w1.grownBy w2 r) : w.grownBy w2 r :=
  ⟨k.os.trans h.os, k.tape.trans h.tape, k.output.trans h.output, Nat.le_trans h.size k.size, fun j hj hn => (k.block j (Nat.lt_of_lt_of_le hj h.size) hn).trans (h.block j hj hn)⟩
theorem grown_drew {w w1 : World} {r : Option Nat} (h : w.drew.grownBy w1 r) : w.grownBy w1 r := ⟨h.os, h.tape, h.output, h.size, h.block⟩
theorem grown_none {w w1 : World} {r : Option Nat} (h : w.grownBy w1 none) : w.grownBy w1 r := ⟨h.os, h.tape, h.output, h.size, fun j hj _ => h.block j hj (by simp)⟩

set_option maxHeartbeats 3200000 in
set_option maxRecDepth 100000 in
theorem putTexts_any (hb gd g cap n : Nat) (rows : List (Int × Int × Nat)) (ps : List (Nat × L)) (b : L) (w : World) (hl : b.length = 512) (hn : ps.length = n) (hn9 : n ≤ 9)
    (hd : Blk w gd 90 (bs b).toArray) (hr : RdC w g (rowsC hb rows)) (hne : g ≠ gd) (hhb : hb < w.heap.size) (hhd : hb ≠ gd)
    (he : ∀ (k : Nat) (p : Nat × L), ps[k]? = some p → ∃ r, rows[k]? = some r ∧ EntT w hb r p) :
    Calls Try.prog 58 #[.pointer (some ⟨gd, 0, none⟩), .slice (some ⟨g, 0, none⟩) n cap] w fun e w' => e = .returned (.tuple #[]) ∧ Blk w' gd 90 (bs (layAll b ps)).toArray ∧ w.grownBy w' (some gd) := by
  have Hd := Lib.hid hd
  have Hr := Lib.hid hr
  have He := Lib.hid he
  clear hd hr he
  have Hlen := Lib.hid (show ∀ k, (layAll b (ps.take k)).length = 512 from fun k => by
    rw [layAll_length, hl]
    intro p hp
    obtain ⟨j, hj, rfl⟩ := List.getElem_of_mem (List.mem_of_mem_take hp)
    obtain ⟨r, _, e⟩ := He.out j _ (List.getElem?_eq_getElem hj)
    have := e.room
    omega)
  go_enter Try.func58, Try.ntmps58
  go_wp2_with fail
  go_loopw [8] (fun i wr => ∃ k : Nat, k ≤ n ∧ i = .int .i64 (k : Int) ∧ Hid (Blk wr gd 90 (bs (layAll b (ps.take k))).toArray) ∧ Hid (w.grownBy wr (some gd))) (fun i _ => n - (intOf i).toNat)
  case atStart => exact ⟨0, by omega, rfl, Hd, Lib.hid (World.grownBy.refl w _)⟩
  case round =>
    obtain ⟨k, hk, rfl, Ha, Hg⟩ := hrel
    by_cases hlt : k < n
    · obtain ⟨⟨q, s⟩, hp⟩ : ∃ p, ps[k]? = some p := ⟨_, List.getElem?_eq_getElem (by omega)⟩
      obtain ⟨⟨ra, rm, rf⟩, hrk, e1, e2, e3, e4⟩ := He.out k _ hp
      simp only at e1 e2 e3 e4
      obtain ⟨q1, q2, q3⟩ := rowsC_at hb rows k _ hrk
      have hrr : RdC wr g (rowsC hb rows) := Hr.out.grown Hg.out (by simpa using hne)
      have c1 := hrr.2 _ _ q1
      have c2 := hrr.2 _ _ q2
      have c3 := hrr.2 _ _ q3
      simp only at c1 c2 c3
      subst e1
      have hhs : hb < wr.heap.size := Nat.lt_of_lt_of_le hhb Hg.out.size
      have c4 : wr.cell? ⟨hb, rf, none⟩ = some (.string ⟨s.toArray⟩) := by
        have h2 := e2
        unfold World.cell? at h2 ⊢
        rwa [Hg.out.block hb hhb (by simpa using hhd)]
      have hlw := hrr.1
      clear q1 q2 q3 hrr
      have Hl := Lib.hid (layAll_take (b := b) hp)
      have E2 := Lib.hid e2
      have E3 := Lib.hid e3
      clear hp hrk e2 e3
      go_wp2_with fail
      generalize hwq : wr.alloc _ = wq
      have d0 : wq.cell? ⟨wr.heap.size, 0, none⟩ = some (.int .i64 (q : Int)) := by rw [← hwq, World.cell?_alloc_new]; rfl
      have d2 : wq.cell? ⟨wr.heap.size, 2, none⟩ = some (.pointer (some ⟨hb, rf, none⟩)) := by rw [← hwq, World.cell?_alloc_new]; rfl
      have d4 : wq.cell? ⟨hb, rf, none⟩ = some (.string ⟨s.toArray⟩) := by rw [← hwq, World.cell?_alloc_old]; exact c4; exact Nat.ne_of_lt hhs
      have Hb := Lib.hid (show Blk wq gd 90 (bs (layAll b (ps.take k))).toArray by rw [← hwq]; exact Ha.out.alloc _)
      have Hg2 := Lib.hid (show wr.grownBy wq none by rw [← hwq]; exact World.grownBy_alloc wr _ none)
      clear hwq c1 c2 c3 c4 Ha
      obtain ⟨v2, w2, hcv, hv2, hg2⟩ := run_bytes_rd (P := Try.prog) wq.drew 9 39 5 Try.underlying9 Try.underlying39 Try.underlying5 s (by have := E3.out; unfold maxLen; omega)
      have f0 : w2.cell? ⟨wr.heap.size, 0, none⟩ = some (.int .i64 (q : Int)) := cell_grown hg2 d0
      have f2 : w2.cell? ⟨wr.heap.size, 2, none⟩ = some (.pointer (some ⟨hb, rf, none⟩)) := cell_grown hg2 d2
      have Hv := Lib.hid hv2
      have Hb2 := Lib.hid (Hb.out.drew.grown hg2 (by simp))
      have Hg3 := Lib.hid (grown_trans Hg.out (grown_trans (grown_none Hg2.out) (grown_none (grown_drew hg2))))
      clear hv2 hg2 Hb Hg2
      go_region_with (go_at_call 60; refine (put_any gd q (layAll b (ps.take k)) s _ _ _ Hb2.out (Hlen.out k) (by omega) E3.out Hv.out.rd).mono ?_; rintro e w3 ⟨rfl, h3, h4⟩; rw [← Hl.out] at h3; have H3 := Lib.hid h3; have H4 := Lib.hid (grown_trans Hg3.out h4); clear h3 h4)
      all_goals go_wp2_with fail
      all_goals exact ⟨⟨k + 1, by omega, by go_num, H3, H4⟩, by simp [intOf]; omega⟩
    · have hkn : k = n := by omega
      go_wp2_with fail
      go_end0
      subst hkn
      have h := Ha.out
      rw [← hn, List.take_length] at h
      exact ⟨rfl, h, Hg.out⟩
/-- A row that leads to a number, and what is to be laid where. -/
structure EntN (w : World) (hb : Nat) (r : Int × Int × Nat) (p : Nat × L) (x : Int) (wd : Nat) : Prop where
  at_ : r.1 = (p.1 : Int)
  wide : r.2.1 = (wd : Int)
  cell : w.cell? ⟨hb, r.2.2, none⟩ = some (.int .i64 x)
  room : p.1 + p.2.length ≤ 512
  low : p.1 < 512
  is : p.2 = putV x wd
  small : x < 9223372036854775808

set_option maxHeartbeats 3200000 in
set_option maxRecDepth 100000 in
theorem putNumbers_any (hb gd g cap n : Nat) (rows : List (Int × Int × Nat)) (ps : List (Nat × L)) (b : L) (w : World) (hl : b.length = 512) (hn : ps.length = n) (hn9 : n ≤ 9)
    (hd : Blk w gd 90 (bs b).toArray) (hr : RdC w g (rowsC hb rows)) (hne : g ≠ gd) (hhb : hb < w.heap.size) (hhd : hb ≠ gd)
    (he : ∀ (k : Nat) (p : Nat × L), ps[k]? = some p → ∃ r, rows[k]? = some r ∧ ∃ (x : Int) (wd : Nat), EntN w hb r p x wd) :
    Calls Try.prog 59 #[.pointer (some ⟨gd, 0, none⟩), .slice (some ⟨g, 0, none⟩) n cap] w fun e w' => e = .returned (.tuple #[]) ∧ Blk w' gd 90 (bs (layAll b ps)).toArray ∧ w.grownBy w' (some gd) := by
  have Hd := Lib.hid hd
  have Hr := Lib.hid hr
  have He := Lib.hid he
  clear hd hr he
  have Hlen := Lib.hid (show ∀ k, (layAll b (ps.take k)).length = 512 from fun k => by
    rw [layAll_length, hl]
    intro p hp
    obtain ⟨j, hj, rfl⟩ := List.getElem_of_mem (List.mem_of_mem_take hp)
    obtain ⟨r, _, x, wd, e⟩ := He.out j _ (List.getElem?_eq_getElem hj)
    have := e.room
    omega)
  go_enter Try.func59, Try.ntmps59
  go_wp2_with fail
  go_loopw [10] (fun i wr => ∃ k : Nat, k ≤ n ∧ i = .int .i64 (k : Int) ∧ Hid (Blk wr gd 90 (bs (layAll b (ps.take k))).toArray) ∧ Hid (w.grownBy wr (some gd))) (fun i _ => n - (intOf i).toNat)
  case atStart => exact ⟨0, by omega, rfl, Hd, Lib.hid (World.grownBy.refl w _)⟩
  case round =>
    obtain ⟨k, hk, rfl, Ha, Hg⟩ := hrel
    by_cases hlt : k < n
    · obtain ⟨⟨q, s⟩, hp⟩ : ∃ p, ps[k]? = some p := ⟨_, List.getElem?_eq_getElem (by omega)⟩
      obtain ⟨⟨ra, rm, rf⟩, hrk, x, wd, e1, e0, e2, e3, e4, e5, e6⟩ := He.out k _ hp
      simp only at e1 e0 e2 e3 e4 e5 e6
      obtain ⟨q1, q2, q3⟩ := rowsC_at hb rows k _ hrk
      have hrr : RdC wr g (rowsC hb rows) := Hr.out.grown Hg.out (by simpa using hne)
      have c1 := hrr.2 _ _ q1
      have c2 := hrr.2 _ _ q2
      have c3 := hrr.2 _ _ q3
      simp only at c1 c2 c3
      subst e1 e0
      have hhs : hb < wr.heap.size := Nat.lt_of_lt_of_le hhb Hg.out.size
      have c4 : wr.cell? ⟨hb, rf, none⟩ = some (.int .i64 x) := by
        have h2 := e2
        unfold World.cell? at h2 ⊢
        rwa [Hg.out.block hb hhb (by simpa using hhd)]
      have hlw := hrr.1
      clear q1 q2 q3 hrr
      have Hl := Lib.hid (layAll_take (b := b) hp)
      have E2 := Lib.hid e2
      have E3 := Lib.hid e3
      have E5 := Lib.hid e5
      have E6 := Lib.hid e6
      clear hp hrk e2 e3 e5 e6
      go_wp2_with fail
      generalize hwq : wr.alloc _ = wq
      have d0 : wq.cell? ⟨wr.heap.size, 0, none⟩ = some (.int .i64 (q : Int)) := by rw [← hwq, World.cell?_alloc_new]; rfl
      have d1 : wq.cell? ⟨wr.heap.size, 1, none⟩ = some (.int .i64 (wd : Int)) := by rw [← hwq, World.cell?_alloc_new]; rfl
      have d2 : wq.cell? ⟨wr.heap.size, 2, none⟩ = some (.pointer (some ⟨hb, rf, none⟩)) := by rw [← hwq, World.cell?_alloc_new]; rfl
      have d4 : wq.cell? ⟨hb, rf, none⟩ = some (.int .i64 x) := by rw [← hwq, World.cell?_alloc_old]; exact c4; exact Nat.ne_of_lt hhs
      have Hb := Lib.hid (show Blk wq gd 90 (bs (layAll b (ps.take k))).toArray by rw [← hwq]; exact Ha.out.alloc _)
      have Hg2 := Lib.hid (show wr.grownBy wq none by rw [← hwq]; exact World.grownBy_alloc wr _ none)
      clear hwq c1 c2 c3 c4 Ha
      go_region_with (go_at_call 51; refine (put_all x (wd : Int) _ E6.out).mono ?_; rintro e w3 ⟨v, rfl, h3, h4⟩; have H3 := Lib.hid h3; have Hb3 := Lib.hid (Hb.out.drew.keep h4 Hb.out.lt); have Hg3 := Lib.hid (grown_trans Hg.out (grown_trans (grown_none Hg2.out) (grown_none (grown_drew ⟨h4.os, h4.tape, h4.output, h4.size, fun k hk _ => h4.block k hk⟩)))); have f0 := (h4.cell (p := ⟨wr.heap.size, 0, none⟩) (World.block_lt_of_cell? _ _ d0)).trans d0; clear h3 h4 d0 d1 d2 d4; generalize putOk x (wd : Int) = ok; obtain ⟨A, cap3, rfl⟩ : ∃ A cap, v = .slice A (bs (putV x wd)).length cap := by { obtain ⟨A, c, rfl, _⟩ := H3.out.rd; exact ⟨A, c, rfl⟩ })
      all_goals go_wp2_with fail
      all_goals (go_still_tail 6, (by kernel_rfl))
      all_goals change wpList _ _ _ _ _ w3.drew
      all_goals go_wp2_with (go_at_call 60; refine (put_any gd q (layAll b (ps.take k)) (putV x (wd : Int)) _ _ _ Hb3.out.drew (Hlen.out k) (by omega) (by rw [← E5.out]; exact E3.out) (show Rd w3.drew _ _ _ from H3.out.rd)).mono ?_; rintro e w4 ⟨rfl, h5, h6⟩; rw [← E5.out, ← Hl.out] at h5; have H5 := Lib.hid h5; have H6 := Lib.hid (grown_trans Hg3.out (grown_drew h6)); clear h5 h6)
      all_goals exact ⟨⟨k + 1, by omega, by go_num, H5, H6⟩, by simp [intOf]; omega⟩
    · have hkn : k = n := by omega
      go_wp2_with fail
      go_end0
      subst hkn
      have h := Ha.out
      rw [← hn, List.take_length] at h
      exact ⟨rfl, h, Hg.out⟩
end Go.Proofs.Ytihigbaaajmjlaa.Head
