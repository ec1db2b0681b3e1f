/-
  Tapes: a tape that came in, opened: no statement is proved here.
  The statements' helper FewRecs: no statement is proved here.
  Rows of tapes: that came in, opened; of the call's own, appended to: no statement is proved here.
  Package tape's contracts, as the laws want them, and the statements' awake: no statement is proved here.
-/
import Derived.Test.YtllnnlmhbmladaaGreatDoorBase
import Derived.Test.YtllnnlmhbmladaaGreatDoorTapeM
import Derived.Deep.Matrix
import Derived.Test.YtllnnlmhbmladaaGreatDoorNodes
import Derived.Deep.AppendLies
import Derived.Test.YtllnnlmhbmladaaGreatDoorNode
import Derived.Deep.RegionWith
import Derived.Deep.RegionLaw
namespace Go.Proofs.YtllnnlmhbmladaaGreatDoor.Tape
open Go.ChangeShapes Go.WideShapes Go.ChangeAt Go.RowKit Go.Proofs.YtllnnlmhbmladaaGreatDoor.Base Go.Proofs.YtllnnlmhbmladaaGreatDoor.Frame Go.Proofs.YtllnnlmhbmladaaGreatDoor.TapeM

theorem array3 {α : Type} {cs : Array α} (h : cs.size = 3) : ∃ c0 c1 c2, cs = #[c0, c1, c2] := by
  obtain ⟨l⟩ := cs
  match l, h with
  | [c0, c1, c2], _ => exact ⟨c0, c1, c2, rfl⟩
theorem list3 {α : Type} {cs : List α} (h : cs.length = 3) : ∃ c0 c1 c2, cs = [c0, c1, c2] := by
  match cs, h with
  | [c0, c1, c2], _ => exact ⟨c0, c1, c2, rfl⟩
theorem tape_struct : Tryz.prog.underlying 38 = some (.struct (Tryz.prog.fieldsOf 38)) := by kernel_rfl
theorem tape_cells : Tryz.prog.cellsOf 38 = 3 := by kernel_rfl
theorem tape_count : (Tryz.prog.fieldsOf 38).size = 3 := by kernel_rfl
theorem tape_field_0 : (Tryz.prog.fieldsOf 38)[0]? = some { name := "Cap", type := 3, offset := 0, embedded := false, tag := "", pkgPath := "", byteOffset := 0 } := by kernel_rfl
theorem tape_field_1 : (Tryz.prog.fieldsOf 38)[1]? = some { name := "R", type := 36, offset := 1, embedded := false, tag := "", pkgPath := "", byteOffset := 8 } := by kernel_rfl
theorem tape_field_2 : (Tryz.prog.fieldsOf 38)[2]? = some { name := "Mark", type := 4, offset := 2, embedded := false, tag := "", pkgPath := "", byteOffset := 32 } := by kernel_rfl
theorem cells_int : Tryz.prog.cellsOf 3 = 1 := by kernel_rfl
theorem cells_rows : Tryz.prog.cellsOf 36 = 1 := by kernel_rfl
theorem cells_bool : Tryz.prog.cellsOf 4 = 1 := by kernel_rfl

/-- A tape whose rows stand at A, with room for k. -/
abbrev tcells (t : Tp) (A : Option Addr) (k : Nat) : Array Value := #[.int .i64 t.cap, .slice A t.rows.length k, .bool t.mark]
abbrev tv (t : Tp) (A : Option Addr) (k : Nat) : Value := .agg (tcells t A k)
/-- Its number is one, and so are its rows' lengths. -/
structure SmallT (t : Tp) : Prop where
  low : -9223372036854775808 ≤ t.cap
  high : t.cap < 9223372036854775808
  few : t.rows.length < 9223372036854775808
  each : ∀ l ∈ t.rows, l.length < 9223372036854775808

set_option maxRecDepth 100000 in
theorem open_tape {H : Type} {enc : TypeId × Value → H} {w : World} {base : Nat} {held : Bool} {r : Reach} {b0 : Nat} {v : Value} {d : DataW H} {p : List MemPlace}
    (hval : Value.okWide Tryz.prog w r b0 38 v) (h : DataW.Trod enc Tryz.prog w base (fun _ => true) held 38 v d p) :
    ∃ (t : Tp) (A : Option Addr) (k : Nat), v = tv t A k ∧ RdL w A k t.rows ∧ SmallT t := by
  obtain ⟨cs, rfl, hsz⟩ := okWide_struct tape_struct hval
  rw [tape_cells] at hsz
  obtain ⟨c0, c1, c2, rfl⟩ := array3 hsz
  obtain ⟨fuel, hf⟩ := h
  obtain ⟨xs, n, _, hx, _, hlen, hg⟩ := DataW.trod_struct tape_struct hf
  rw [tape_count] at hlen
  obtain ⟨y0, y1, y2, rfl⟩ := list3 hlen
  have g0 := hg 0 _ tape_field_0
  simp only [cells_int] at g0
  obtain ⟨t0, q0, rfl, b0⟩ := DataW.trod_int Tryz.underlying3 (by simpa [Value.cells] using g0)
  obtain rfl : c0 = _ := by simpa [Value.cells] using q0
  have g2 := hg 2 _ tape_field_2
  simp only [cells_bool] at g2
  obtain ⟨t2, q2, rfl⟩ := DataW.trod_bool Tryz.underlying4 (by simpa [Value.cells] using g2)
  obtain rfl : c2 = _ := by simpa [Value.cells] using q2
  have g1 := hg 1 _ tape_field_1
  simp only [cells_rows] at g1
  have g1' : DataW.trod enc Tryz.prog w base (fun _ => true) held n 36 [c1] = some y1 := by simpa [Value.cells] using g1
  have m0 := bounds_i64 b0
  obtain ⟨A, len, k, rfl, ls, hl, hr, he, hn⟩ : ∃ (A : Option Addr) (len k : Nat), c1 = .slice A len k ∧ ∃ ls : List (List UInt8), ls.length = len ∧ RdL w A k ls ∧ (∀ l ∈ ls, l.length < 9223372036854775808) ∧ len < 9223372036854775808 := by
    rcases Deep.open_int_rows Tryz.underlying36 Tryz.underlying46 Tryz.underlying5 (by kernel_rfl) (by kernel_rfl) g1' with ⟨hcs, _⟩ | ⟨x, l, c, AA, LL, CC, ZZ, hcs, _, hl, hm, _, hr⟩
    · obtain rfl : c1 = _ := by simpa using hcs
      exact ⟨_, _, _, rfl, rdL_of_rows (.inl ⟨rfl, rfl, rfl⟩)⟩
    · obtain rfl : c1 = _ := by simpa using hcs
      exact ⟨_, _, _, rfl, rdL_of_rows (.inr ⟨x, AA, LL, CC, ZZ, rfl, hl, hm, fun r hlt => by obtain ⟨q1, q2, q3, q4, q5, q6, q7⟩ := hr r hlt; exact ⟨q1, q2, q3, q4, q5, q6, fun a' e => (q7 a' e).2⟩⟩)⟩
  subst hl
  exact ⟨⟨t0, ls, t2⟩, A, k, rfl, hr, ⟨m0.1, Int.lt_of_le_of_lt m0.2 (by omega), hn, he⟩⟩
end Go.Proofs.YtllnnlmhbmladaaGreatDoor.Tape

namespace Go.Proofs.YtllnnlmhbmladaaGreatDoor.Rec
open Go.RowKit Go.Proofs.YtllnnlmhbmladaaGreatDoor.Str Go.Proofs.YtllnnlmhbmladaaGreatDoor.Base Go.Proofs.YtllnnlmhbmladaaGreatDoor.BlockM Go.Proofs.YtllnnlmhbmladaaGreatDoor.RecM

/-- At most 60 records, of at most 12000 bytes each, and 100000 together. -/
def fewR (rs : List L) : Bool := decide (rs.length ≤ 60) && decide (rs.flatten.length ≤ 100000) && rs.all fun r => decide (r.length ≤ 12000)
theorem fewR_iff {rs : List L} : fewR rs = true ↔ (rs.length ≤ 60 ∧ rs.flatten.length ≤ 100000) ∧ ∀ r ∈ rs, r.length ≤ 12000 := by simp [fewR]
theorem flat_len {rs : List L} {k : Nat} {r : L} (h : rs[k]? = some r) : (rs.take (k + 1)).flatten.length = (rs.take k).flatten.length + r.length := by
  rw [List.take_add_one, h]
  simp

set_option maxRecDepth 100000 in
set_option maxHeartbeats 1000000 in
theorem fewr_s (rs : List L) (A : Option Addr) (c : Nat) (w : World) (ha : RdL w A c rs) (hl : rs.length < 9223372036854775808) (hls : ∀ r ∈ rs, r.length < 9223372036854775808) :
    Calls Tryz.prog 13 #[.slice A rs.length c] w fun e w' => e = .returned (.bool (fewR rs)) ∧ Stp w w' := by
  obtain ⟨q, hq⟩ : ∃ q, fewR rs = q := ⟨_, rfl⟩
  rw [hq]
  have Hq := Lib.hid hq
  have Hls := Lib.hid hls
  have Ha := Lib.hid ha
  clear hq hls ha
  go_enter Tryz.func13, Tryz.ntmps13
  go_wp2_with fail
  go_loopw [3, 4] (fun n i wr => ∃ k s : Nat, k ≤ rs.length ∧ k ≤ 61 ∧ s ≤ 12000 * k ∧ n = .int .i64 (s : Int) ∧ i = .int .i64 (k : Int) ∧ Hid (s = (rs.take k).flatten.length) ∧ Hid (∀ r ∈ rs.take k, r.length ≤ 12000) ∧ Stp w wr) (fun _ i _ => 62 - (intOf i).toNat)
  case atStart => exact ⟨0, 0, by omega, by omega, by omega, rfl, rfl, Lib.hid (by simp), Lib.hid (by simp), Stp.refl w⟩
  case round =>
    obtain ⟨k, s, hk, hk6, hsk, rfl, rfl, Hsum, Hall, h0⟩ := hrel
    by_cases hlt : k < rs.length ∧ k ≤ 60
    · obtain ⟨r, hr⟩ : ∃ r, rs[k]? = some r := ⟨_, List.getElem?_eq_getElem hlt.1⟩
      obtain ⟨g, o, A1, c1, rfl, ca, ra⟩ := (Ha.out.keep h0).at_ hr
      obtain ⟨y, hy⟩ : ∃ y, r.length = y := ⟨_, rfl⟩
      have hyl : y < 9223372036854775808 := by rw [← hy]; exact Hls.out r (List.mem_of_getElem? hr)
      rw [hy] at ca
      have Hr := Lib.hid hr
      have Hy := Lib.hid hy
      have Hstep := Lib.hid (flat_len hr)
      obtain ⟨hk1, hk2⟩ := hlt
      clear ra hr hy
      by_cases h12 : y ≤ 12000
      · have g3 : decide ((12000 : Int) < (y : Int)) = false := decide_eq_false (by omega)
        go_wp2_with fail
        go_roundw
        case rel =>
          refine ⟨k + 1, s + y, ?_, by omega, by omega, by go_num, by go_num, Lib.hid ?_, Lib.hid ?_, h0⟩
          · have := (List.getElem?_eq_some_iff.1 Hr.out).1
            omega
          · rw [Hstep.out, Hsum.out, Hy.out]
          · intro x hx
            rw [List.take_add_one, Hr.out] at hx
            rcases List.mem_append.1 hx with h | h
            · exact Hall.out x h
            · simp at h
              rw [h, Hy.out]
              exact h12
        case measure => simp [intOf]; omega
      · have g3 : decide ((12000 : Int) < (y : Int)) = true := decide_eq_true (by omega)
        go_wp2_with fail
        go_ret
        refine ⟨?_, h0⟩
        have e : q = false := by
          rw [← Hq.out, Bool.eq_false_iff]
          intro h
          have := (fewR_iff.1 h).2 r (List.mem_of_getElem? Hr.out)
          rw [Hy.out] at this
          exact h12 this
        rw [e]
        rfl
    · by_cases h61 : 60 < rs.length
      · obtain rfl : k = 61 := by omega
        have e : q = false := by
          rw [← Hq.out, Bool.eq_false_iff]
          intro h
          have := (fewR_iff.1 h).1.1
          omega
        have g4 : ¬ ((rs.length : Int) ≤ 60) := by omega
        clear hlt
        go_wp2_with fail
        all_goals go_ret
        all_goals
          refine ⟨?_, h0⟩
          first | rfl | (rw [e]; rfl)
      · obtain rfl : k = rs.length := by omega
        have e : q = decide (s ≤ 100000) := by
          rw [← Hq.out, Bool.eq_iff_iff, fewR_iff, decide_eq_true_eq, Hsum.out, List.take_length]
          refine ⟨fun h => h.1.2, fun h => ⟨⟨by omega, h⟩, fun r hr => Hall.out r (by rw [List.take_length]; exact hr)⟩⟩
        clear hlt
        have g4 : ((rs.length : Int) ≤ 60) := by omega
        by_cases hs : s ≤ 100000
        · rw [decide_eq_true hs] at e
          have g5 : ((s : Int) ≤ 100000) := by omega
          go_wp2_with fail
          all_goals go_ret
          all_goals
            refine ⟨?_, h0⟩
            first | rfl | (rw [e]; rfl)
        · rw [decide_eq_false hs] at e
          have g5 : ¬ ((s : Int) ≤ 100000) := by omega
          go_wp2_with fail
          all_goals go_ret
          all_goals
            refine ⟨?_, h0⟩
            first | rfl | (rw [e]; rfl)

theorem fewr_n (rs : List L) (m : Nat) (hm : rs.length = m) (A : Option Addr) (c : Nat) (w : World) (ha : RdL w A c rs) (hl : m < 9223372036854775808) (hls : ∀ r ∈ rs, r.length < 9223372036854775808) :
    Calls Tryz.prog 13 #[.slice A m c] w fun e w' => e = .returned (.bool (fewR rs)) ∧ Stp w w' := by
  subst hm
  exact fewr_s rs A c w ha hl hls
end Go.Proofs.YtllnnlmhbmladaaGreatDoor.Rec

namespace Go.Proofs.YtllnnlmhbmladaaGreatDoor.Drive
open Go.ChangeShapes Go.WideShapes Go.ChangeAt Go.RowKit Go.Proofs.YtllnnlmhbmladaaGreatDoor.Base Go.Proofs.YtllnnlmhbmladaaGreatDoor.Frame Go.Proofs.YtllnnlmhbmladaaGreatDoor.BlockM Go.Proofs.YtllnnlmhbmladaaGreatDoor.TapeM Go.Proofs.YtllnnlmhbmladaaGreatDoor.Tape

/-- A slice of tapes. -/
def RdS (w : World) (A : Option Addr) (cap : Nat) (ts : List Tp) : Prop :=
  ts.length ≤ cap ∧ (ts ≠ [] → ∃ b o, A = some ⟨b, o, none⟩ ∧ b < w.heap.size ∧ ∀ (j : Nat) (t : Tp), ts[j]? = some t → ∃ Aj kj, w.cell? ⟨b, o + j * 3, none⟩ = some (.int .i64 t.cap) ∧
    w.cell? ⟨b, o + j * 3 + 1, none⟩ = some (.slice Aj t.rows.length kj) ∧ w.cell? ⟨b, o + j * 3 + 2, none⟩ = some (.bool t.mark) ∧ RdL w Aj kj t.rows)
section
variable {w w' : World} {A : Option Addr} {cap : Nat} {ts : List Tp}
theorem RdS.nil (w : World) : RdS w none 0 [] := ⟨by simp, fun h => absurd rfl h⟩
theorem RdS.empty (w : World) (A : Option Addr) (cap : Nat) : RdS w A cap [] := ⟨by simp, fun h => absurd rfl h⟩
theorem RdS.keep (h : RdS w A cap ts) (hs : Stp w w') : RdS w' A cap ts := by
  refine ⟨h.1, fun hn => ?_⟩
  obtain ⟨b, o, e, hb, hc⟩ := h.2 hn
  refine ⟨b, o, e, Nat.lt_of_lt_of_le hb hs.size, fun j t hj => ?_⟩
  obtain ⟨Aj, kj, h1, h2, h3, h4⟩ := hc j t hj
  exact ⟨Aj, kj, (hs.cell (p := ⟨b, o + j * 3, none⟩) hb).trans h1, (hs.cell (p := ⟨b, o + j * 3 + 1, none⟩) hb).trans h2, (hs.cell (p := ⟨b, o + j * 3 + 2, none⟩) hb).trans h3, h4.keep hs⟩
theorem RdS.at_ (h : RdS w A cap ts) {j : Nat} {t : Tp} (hj : ts[j]? = some t) : ∃ b o Aj kj, A = some ⟨b, o, none⟩ ∧ w.cell? ⟨b, o + j * 3, none⟩ = some (.int .i64 t.cap) ∧
    w.cell? ⟨b, o + j * 3 + 1, none⟩ = some (.slice Aj t.rows.length kj) ∧ w.cell? ⟨b, o + j * 3 + 2, none⟩ = some (.bool t.mark) ∧ RdL w Aj kj t.rows := by
  obtain ⟨b, o, e, -, hc⟩ := h.2 (by rintro rfl; simp at hj)
  obtain ⟨Aj, kj, h1, h2, h3, h4⟩ := hc j t hj
  exact ⟨b, o, Aj, kj, e, h1, h2, h3, h4⟩
end
set_option maxRecDepth 100000 in
/-- A row of rows that came in, opened. -/
theorem rows_open {H : Type} {enc : TypeId × Value → H} {w : World} {base : Nat} {held : Bool} {n : Nat} {c1 : Value} {y1 : DataW H × List MemPlace}
    (g1' : DataW.trod enc Tryz.prog w base (fun _ => true) held n 36 [c1] = some y1) : ∃ (A : Option Addr) (k : Nat) (ls : List L), c1 = .slice A ls.length k ∧ RdL w A k ls ∧ (∀ l ∈ ls, l.length < 9223372036854775808) ∧ ls.length < 9223372036854775808 := by
  obtain ⟨A, len, k, rfl, ls, hl, hr, he, hn⟩ : ∃ (A : Option Addr) (len k : Nat), c1 = .slice A len k ∧ ∃ ls : List (List UInt8), ls.length = len ∧ RdL w A k ls ∧ (∀ l ∈ ls, l.length < 9223372036854775808) ∧ len < 9223372036854775808 := by
    rcases Deep.open_int_rows Tryz.underlying36 Tryz.underlying46 Tryz.underlying5 (by kernel_rfl) (by kernel_rfl) g1' with ⟨hcs, _⟩ | ⟨x, l, c, AA, LL, CC, ZZ, hcs, _, hl, hm, _, hr⟩
    · obtain rfl : c1 = _ := by simpa using hcs
      exact ⟨_, _, _, rfl, rdL_of_rows (.inl ⟨rfl, rfl, rfl⟩)⟩
    · obtain rfl : c1 = _ := by simpa using hcs
      exact ⟨_, _, _, rfl, rdL_of_rows (.inr ⟨x, AA, LL, CC, ZZ, rfl, hl, hm, fun r hlt => by obtain ⟨q1, q2, q3, q4, q5, q6, q7⟩ := hr r hlt; exact ⟨q1, q2, q3, q4, q5, q6, fun a' e => (q7 a' e).2⟩⟩)⟩
  subst hl
  exact ⟨A, k, ls, rfl, hr, he, hn⟩
set_option maxRecDepth 100000 in
/-- A tape's cells, opened. -/
theorem tape_of_cells {H : Type} {enc : TypeId × Value → H} {w : World} {base : Nat} {held : Bool} {fuel : Nat} {cs : List Value} {x : DataW H × List MemPlace}
    (hf : DataW.trod enc Tryz.prog w base (fun _ => true) held fuel 38 cs = some x) : ∃ (t : Tp) (A : Option Addr) (k : Nat), cs = (tcells t A k).toList ∧ RdL w A k t.rows ∧ SmallT t := by
  obtain ⟨d, p⟩ := x
  obtain ⟨xs, n, _, hx, hsz, hlen, hg⟩ := DataW.trod_struct tape_struct hf
  rw [tape_cells] at hsz
  obtain ⟨c0, c1, c2, rfl⟩ := list3 hsz
  rw [tape_count] at hlen
  obtain ⟨y0, y1, y2, rfl⟩ := list3 hlen
  have g0 := hg 0 _ tape_field_0
  simp only [cells_int] at g0
  obtain ⟨t0, q0, rfl, b0⟩ := DataW.trod_int Tryz.underlying3 (by simpa using g0)
  obtain rfl : c0 = _ := by simpa using q0
  have g2 := hg 2 _ tape_field_2
  simp only [cells_bool] at g2
  obtain ⟨t2, q2, rfl⟩ := DataW.trod_bool Tryz.underlying4 (by simpa using g2)
  obtain rfl : c2 = _ := by simpa using q2
  have g1 := hg 1 _ tape_field_1
  simp only [cells_rows] at g1
  obtain ⟨A, k, ls, rfl, hr, he, hn⟩ := rows_open (c1 := c1) (by simpa using g1)
  have m0 := bounds_i64 b0
  exact ⟨⟨t0, ls, t2⟩, A, k, rfl, hr, ⟨m0.1, Int.lt_of_le_of_lt m0.2 (by omega), hn, he⟩⟩
theorem open_tapes {H : Type} {enc : TypeId × Value → H} {w : World} {base : Nat} {held : Bool} {fuel : Nat} {a : Option Addr} {len cap : Nat} {x : DataW H × List MemPlace}
    (hf : DataW.trod enc Tryz.prog w base (fun _ => true) held fuel 26 [.slice a len cap] = some x) : ∃ ts : List Tp, ts.length = len ∧ RdS w a cap ts ∧ (∀ t ∈ ts, SmallT t) ∧ len < 9223372036854775808 := by
  rcases Deep.open_slice Tryz.underlying26 hf with ⟨hcs, _⟩ | ⟨x, l, c, m, n, D, Pl, hcs, hb, hl, hm, hmm, _, hel⟩
  · simp at hcs
    obtain ⟨rfl, rfl, rfl⟩ := hcs
    exact ⟨[], rfl, RdS.nil w, by simp, by omega⟩
  · simp at hcs
    obtain ⟨rfl, rfl, rfl⟩ := hcs
    simp only [if_true] at hmm
    subst hmm
    rw [tape_cells] at hel
    have each : ∀ i, i < len → ∃ y : Tp × Option Addr × Nat, w.cells? base (x.add (i * 3)) 3 = some (tcells y.1 y.2.1 y.2.2).toList ∧ RdL w y.2.1 y.2.2 y.1.rows ∧ SmallT y.1 := by
      intro i hi
      obtain ⟨cs, h1, h2⟩ := hel i (by omega)
      obtain ⟨t, A, k, rfl, hr, hs⟩ := tape_of_cells h2
      exact ⟨(t, A, k), h1, hr, hs⟩
    haveI : Inhabited (Tp × Option Addr × Nat) := ⟨(⟨0, [], false⟩, none, 0)⟩
    obtain ⟨f, hff⟩ := Deep.choose_lt each
    refine ⟨(List.range len).map fun i => (f i).1, by simp, ⟨by simpa using hl, fun hne => ?_⟩, ?_, by unfold maxLen at hm; omega⟩
    · have hpos : 0 < len := by
        rcases Nat.eq_zero_or_pos len with h0 | h0
        · subst h0; simp at hne
        · exact h0
      have h00 := (World.cells?_some (hff 0 hpos).1).2.2 0 (by omega)
      obtain ⟨b, o, sp⟩ := x
      have hs : sp = none := by
        have h01 : w.cell? (((⟨b, o, sp⟩ : Addr).add (0 * 3)).add 0) = some (.int .i64 (f 0).1.cap) := h00
        simpa [Addr.add] using World.cell?_spot h01
      subst hs
      have h01 : w.cell? (((⟨b, o, none⟩ : Addr).add (0 * 3)).add 0) = some (.int .i64 (f 0).1.cap) := h00
      refine ⟨b, o, rfl, by have := World.block_lt_of_cell? w _ h01; simpa [Addr.add] using this, fun j t hj => ?_⟩
      rw [List.getElem?_map] at hj
      have hjl : j < len := by
        by_cases h : j < len
        · exact h
        · rw [List.getElem?_eq_none (by simpa using Nat.le_of_not_lt h)] at hj
          cases hj
      rw [List.getElem?_range hjl] at hj
      simp only [Option.map_some, Option.some.injEq] at hj
      subst hj
      have hc := (World.cells?_some (hff j hjl).1).2.2
      have c0 := hc 0 (by omega)
      have c1 := hc 1 (by omega)
      have c2 := hc 2 (by omega)
      simp only [Addr.add_lit, Nat.add_zero] at c0 c1 c2
      exact ⟨_, _, c0, c1, c2, (hff j hjl).2.1⟩
    · intro t ht
      obtain ⟨i, hi, rfl⟩ := List.mem_map.1 ht
      exact (hff i (by simpa using hi)).2.2
end Go.Proofs.YtllnnlmhbmladaaGreatDoor.Drive

namespace Go.Proofs.YtllnnlmhbmladaaGreatDoor.Drive
open Go.RowKit Go.Proofs.YtllnnlmhbmladaaGreatDoor.Base Go.Proofs.YtllnnlmhbmladaaGreatDoor.Node Go.Proofs.YtllnnlmhbmladaaGreatDoor.TapeM Go.Proofs.YtllnnlmhbmladaaGreatDoor.Tape
set_option linter.unusedVariables false
theorem tape_info : (Tryz.prog.info? 38).map (fun i => (i.zero, i.size, i.bytes)) = some (some (.agg #[.int .i64 0, .slice none 0 0, .bool false]), 3, 40) := by kernel_rfl
/-- The cells of a row of tapes. -/
theorem RdS.cells {w : World} {b o k : Nat} {ts : List Tp} (h : RdS w (some ⟨b, o, none⟩) k ts) (hne : ts ≠ []) : ∃ xs : List Value, xs.length = ts.length * 3 ∧ (∀ q u, xs[q]? = some u → w.cell? ⟨b, o + q, none⟩ = some u) ∧ (∀ u ∈ xs, u.oneCell' = true) ∧
    ∀ (j : Nat) (t : Tp), ts[j]? = some t → ∃ Aj kj, xs[j * 3]? = some (.int .i64 t.cap) ∧ xs[j * 3 + 1]? = some (.slice Aj t.rows.length kj) ∧ xs[j * 3 + 2]? = some (.bool t.mark) ∧ RdL w Aj kj t.rows := by
  obtain ⟨b', o', e, -, hc⟩ := h.2 hne
  cases e
  have key : ∀ q, q < ts.length * 3 → ∃ u, w.cell? ⟨b, o + q, none⟩ = some u ∧ u.oneCell' = true := by
    intro q hq
    obtain ⟨t, ht⟩ : ∃ t, ts[q / 3]? = some t := ⟨_, List.getElem?_eq_getElem (by omega)⟩
    obtain ⟨Aj, kj, c0, c1, c2, -⟩ := hc (q / 3) t ht
    have h3 : q % 3 = 0 ∨ q % 3 = 1 ∨ q % 3 = 2 := by omega
    rcases h3 with h3 | h3 | h3
    · exact ⟨_, by rw [show o + q = o + q / 3 * 3 by omega]; exact c0, rfl⟩
    · exact ⟨_, by rw [show o + q = o + q / 3 * 3 + 1 by omega]; exact c1, rfl⟩
    · exact ⟨_, by rw [show o + q = o + q / 3 * 3 + 2 by omega]; exact c2, rfl⟩
  have hx : ∀ q, q < ts.length * 3 → ((List.range (ts.length * 3)).map fun q => (w.cell? ⟨b, o + q, none⟩).getD (.bool false))[q]? = w.cell? ⟨b, o + q, none⟩ := by
    intro q hq
    obtain ⟨u, hu, -⟩ := key q hq
    rw [List.getElem?_map, List.getElem?_range hq, hu]
    simp [hu]
  refine ⟨(List.range (ts.length * 3)).map fun q => (w.cell? ⟨b, o + q, none⟩).getD (.bool false), by simp, fun q u hq => ?_, fun u hu => ?_, fun j t hj => ?_⟩
  · have hlt := (List.getElem?_eq_some_iff.1 hq).1
    rw [List.length_map, List.length_range] at hlt
    rw [← hx q hlt]
    exact hq
  · obtain ⟨q, hq, rfl⟩ := List.mem_map.1 hu
    obtain ⟨u, hu, h1⟩ := key q (by simpa using hq)
    rw [hu]
    exact h1
  · have hl := (List.getElem?_eq_some_iff.1 hj).1
    obtain ⟨Aj, kj, c0, c1, c2, hr⟩ := hc j t hj
    refine ⟨Aj, kj, ?_, ?_, ?_, hr⟩
    · rw [hx _ (by omega)]; exact c0
    · rw [hx _ (by omega), ← Nat.add_assoc]; exact c1
    · rw [hx _ (by omega), ← Nat.add_assoc]; exact c2
/-- The cells of tapes whose rows lay in w0. -/
structure CurL (w0 : World) (xs : List Value) (ts : List Tp) : Prop where
  len : xs.length = ts.length * 3
  one : ∀ u ∈ xs, u.oneCell' = true
  at_ : ∀ (j : Nat) (t : Tp), ts[j]? = some t → ∃ Aj kj, xs[j * 3]? = some (.int .i64 t.cap) ∧ xs[j * 3 + 1]? = some (.slice Aj t.rows.length kj) ∧ xs[j * 3 + 2]? = some (.bool t.mark) ∧ RdL w0 Aj kj t.rows
theorem CurL.nil (w0 : World) : CurL w0 [] [] := ⟨rfl, by simp, by simp⟩
theorem CurL.append {w0 : World} {xs ys : List Value} {ts us : List Tp} (h : CurL w0 xs ts) (k : CurL w0 ys us) : CurL w0 (xs ++ ys) (ts ++ us) := by
  refine ⟨by rw [List.length_append, List.length_append, h.len, k.len]; omega, fun u hu => ?_, fun j t hj => ?_⟩
  · rcases List.mem_append.1 hu with q | q
    · exact h.one u q
    · exact k.one u q
  · by_cases hl : j < ts.length
    · rw [List.getElem?_append_left hl] at hj
      obtain ⟨Aj, kj, c0, c1, c2, hr⟩ := h.at_ j t hj
      have hx := h.len
      exact ⟨Aj, kj, by rw [List.getElem?_append_left (by omega)]; exact c0, by rw [List.getElem?_append_left (by omega)]; exact c1, by rw [List.getElem?_append_left (by omega)]; exact c2, hr⟩
    · rw [List.getElem?_append_right (by omega)] at hj
      obtain ⟨Aj, kj, c0, c1, c2, hr⟩ := k.at_ _ t hj
      have hx := h.len
      refine ⟨Aj, kj, ?_, ?_, ?_, hr⟩
      · rw [List.getElem?_append_right (by omega), show j * 3 - xs.length = (j - ts.length) * 3 by omega]; exact c0
      · rw [List.getElem?_append_right (by omega), show j * 3 + 1 - xs.length = (j - ts.length) * 3 + 1 by omega]; exact c1
      · rw [List.getElem?_append_right (by omega), show j * 3 + 2 - xs.length = (j - ts.length) * 3 + 2 by omega]; exact c2
/-- A row of tapes of the call's own, whose rows lay in w0. -/
def RowS (w0 w : World) (lo : Nat) (v : Value) (ts : List Tp) : Prop := ∃ xs : List Value, w.ownsRow lo 38 3 v ts.length xs ∧ CurL w0 xs ts
section
variable {w0 w w' : World} {lo : Nat} {v : Value} {ts : List Tp}
theorem RowS.nil (w0 w : World) (lo : Nat) : RowS w0 w lo (.slice none 0 0) [] := ⟨[], World.ownsRow_nil _ _ _ _, CurL.nil w0⟩
theorem RowS.keep (h : RowS w0 w lo v ts) (hs : Stp w w') : RowS w0 w' lo v ts := by
  obtain ⟨xs, h1, h2⟩ := h
  exact ⟨xs, row_keep h1 hs, h2⟩
theorem RowS.stp {w1 : World} (h : RowS w0 w lo v ts) (h0 : Stp w1 w) (hlo : w1.heap.size ≤ lo) (hg : w.grownBy w' v.ownBlock) : Stp w1 w' := by
  obtain ⟨xs, h1, -⟩ := h
  exact row_stp h1 h0 hlo hg
theorem RowS.rd (h : RowS w0 w lo v ts) (hs : Stp w0 w) : ∃ A cap, v = .slice A ts.length cap ∧ RdS w A cap ts := by
  obtain ⟨xs, ⟨hl, ⟨rfl, hn⟩ | ⟨g, cap, cur, rfl, hb, hg, hn, hc, hs2, ht⟩⟩, hx⟩ := h
  · obtain rfl : ts = [] := List.eq_nil_of_length_eq_zero hn
    exact ⟨none, 0, rfl, RdS.nil w⟩
  · refine ⟨_, cap, rfl, hn, fun _ => ⟨g, 0, rfl, lt_of_block hg, fun j t hj => ?_⟩⟩
    obtain ⟨Aj, kj, c0, c1, c2, hr⟩ := hx.at_ j t hj
    have hcell : ∀ q u, xs[q]? = some u → w.cell? ⟨g, 0 + q, none⟩ = some u := fun q u hq => by
      rw [Nat.zero_add, cell_of_row w g q cur _ _ hg]
      rw [← ht, List.getElem?_take] at hq
      split at hq
      · simpa using hq
      · cases hq
    exact ⟨Aj, kj, hcell _ _ c0, by have := hcell _ _ c1; rwa [← Nat.add_assoc] at this, by have := hcell _ _ c2; rwa [← Nat.add_assoc] at this, hr.keep hs⟩
theorem run_app_onto3 {us : List Tp} {A : Option Addr} {c m : Nat} (hm : us.length = m) (ty : TypeId) (h : RowS w0 w lo v ts) (ha : RdS w0 A c us) (hs : Stp w0 w) (hl : ts.length + us.length ≤ 1000) (hlo : lo ≤ w.heap.size) :
    ∃ v' w', (Builtin.append_ #[26, 26] ty #[v, .slice A m c]).run Tryz.prog w = .ok v' w' ∧ RowS w0 w' lo v' (ts ++ us) ∧ w.grownBy w' v.ownBlock := by
  subst hm
  obtain ⟨i, hi, hz, hsz, hby⟩ := info_parts tape_info
  obtain ⟨xs, h1, h2⟩ := id h
  by_cases hne : us = []
  · subst hne
    cases A with
    | some ad =>
      obtain ⟨v', w', hr, q2, q3, -, -⟩ := run_append_own_at (P := Tryz.prog) w lo 26 ty 38 i _ 3 40 Tryz.underlying26 hi hz hsz hby rfl (by decide) v ts.length xs h1
        ad 0 c [] rfl (by simp) (by simp) (by unfold maxLen; omega) (by omega) hlo
      refine ⟨v', w', hr, ⟨xs, ?_, by rw [List.append_nil]; exact h2⟩, q3⟩
      rw [List.append_nil] at q2 ⊢
      exact q2
    | none =>
      refine ⟨v, w, ?_, by rw [List.append_nil]; exact h, World.grownBy.refl w _⟩
      obtain ⟨B, k, rfl, hb, -⟩ := h.rd hs
      cases B <;> simp [Builtin.append_, run_underlying Tryz.underlying26, sizeOf, typeInfo, hi, Builtin.lenOf, Builtin.firstCells, hb, storeCells]
  · obtain ⟨b, o, rfl, hbl, -⟩ := ha.2 hne
    obtain ⟨ys, y1, y2, y3, y4⟩ := ha.cells hne
    obtain ⟨v', w', hr, q2, q3, -, -⟩ := run_append_own_at (P := Tryz.prog) w lo 26 ty 38 i _ 3 40 Tryz.underlying26 hi hz hsz hby rfl (by decide) v ts.length xs h1
      ⟨b, o, none⟩ us.length c ys y1 (fun j u hj => by rw [Addr.add_lit]; exact (hs.cell (p := ⟨b, o + j, none⟩) hbl).trans (y2 j u hj)) y3 (by unfold maxLen; omega) (by omega) hlo
    exact ⟨v', w', hr, ⟨xs ++ ys, by rw [List.length_append]; exact q2, h2.append ⟨y1, y3, y4⟩⟩, q3⟩
theorem wpList_app_onto3 {ops : Array Oper} {rest : List Oper} {o : Oper} {a : Act} {Q : Exit → Act → World → Prop} (hgd : o.guard = none) (s x : Operand)
    (ho : o.op = .call { callee := .builtin .append, args := #[s, x], argTypes := #[26, 26] }) {us : List Tp} {A : Option Addr} {c m : Nat} (hm : us.length = m) (hv : a.eval s = v) (hx : a.eval x = .slice A m c)
    (h : RowS w0 w lo v ts) (ha : RdS w0 A c us) (hs : Stp w0 w) (hl : ts.length + m ≤ 1000) (hlo : lo ≤ w.heap.size)
    (hK : ∀ v' w', RowS w0 w' lo v' (ts ++ us) → w.grownBy w' v.ownBlock → wpList Tryz.prog ops Q rest (a.put o.dst v') w') : wpList Tryz.prog ops Q (o :: rest) a w := by
  refine wpList_plain hgd fun K hK2 => ?_
  obtain ⟨v', w', hr, h2, h3⟩ := run_app_onto3 hm o.type h ha hs (by rw [hm]; exact hl) hlo
  unfold Oper.wp execOp
  simp only [ho, resolve, invoke, builtin, Sem.run_bind, Sem.run_pure, Result.andThen_ok, List.map_toArray, List.map_cons, List.map_nil, hv, hx, hr]
  exact hK2 _ _ (hK v' w' h2 h3)
theorem step_app_onto3 {ops : Array Oper} {o : Oper} {a : Act} {K : Act → World → Prop} {Q : Exit → Act → World → Prop} {E : Prop} (hgd : o.guard = none) (s x : Operand)
    (ho : o.op = .call { callee := .builtin .append, args := #[s, x], argTypes := #[26, 26] }) {us : List Tp} {A : Option Addr} {c m : Nat} (hm : us.length = m) (hv : a.eval s = v) (hx : a.eval x = .slice A m c)
    (h : RowS w0 w lo v ts) (ha : RdS w0 A c us) (hs : Stp w0 w) (hl : ts.length + m ≤ 1000) (hlo : lo ≤ w.heap.size)
    (hK : ∀ v' w', RowS w0 w' lo v' (ts ++ us) → w.grownBy w' v.ownBlock → K (a.put o.dst v') w') :
    if Region.wanted o (yielded ops a.tmps) = true then Oper.wp Tryz.prog o a w K Q else E := by
  obtain ⟨v', w', hr, h2, h3⟩ := run_app_onto3 hm o.type h ha hs (by rw [hm]; exact hl) hlo
  rw [if_pos (by simp [Region.wanted, hgd])]
  unfold Oper.wp execOp
  simp only [ho, resolve, invoke, builtin, Sem.run_bind, Sem.run_pure, Result.andThen_ok, List.map_toArray, List.map_cons, List.map_nil, hv, hx, hr]
  exact hK v' w' h2 h3
end
end Go.Proofs.YtllnnlmhbmladaaGreatDoor.Drive

namespace Go.Proofs.YtllnnlmhbmladaaGreatDoor.Tape
open Go.RowKit Go.Proofs.YtllnnlmhbmladaaGreatDoor.Str Go.Proofs.YtllnnlmhbmladaaGreatDoor.Base Go.Proofs.YtllnnlmhbmladaaGreatDoor.BlockM Go.Proofs.YtllnnlmhbmladaaGreatDoor.RecM Go.Proofs.YtllnnlmhbmladaaGreatDoor.TapeM

/-- A tape as a value, its rows at A. -/
abbrev tc (c : Int) (A : Option Addr) (n k : Nat) (m : Bool) : Value := .agg #[.int .i64 c, .slice A n k, .bool m]
abbrev tcs (c : Int) (A : Option Addr) (n k : Nat) (m : Bool) : Array Value := #[.int .i64 c, .slice A n k, .bool m]
abbrev zcells : Array Value := #[.int .i64 0, .slice none 0 0, .bool false]
theorem tt_all {w : World} {g : Nat} {t : TypeId} {c : Int} {A : Option Addr} {n k : Nat} {m : Bool} (hb : Blk w g t (tcs c A n k m)) :
    (w.cell? ⟨g, 0, none⟩ = some (.int .i64 c) ∧ w.cell? ⟨g, 1, none⟩ = some (.slice A n k) ∧ w.cell? ⟨g, 2, none⟩ = some (.bool m)) ∧ w.frozen? ⟨g, 0, none⟩ = false ∧ w.frozen? ⟨g, 1, none⟩ = false ∧ w.frozen? ⟨g, 2, none⟩ = false :=
  ⟨⟨by rw [hb.cell]; rfl, by rw [hb.cell]; rfl, by rw [hb.cell]; rfl⟩, hb.free 0, hb.free 1, hb.free 2⟩
abbrev fillT (w : World) (g : Nat) (c : Int) (A : Option Addr) (n k : Nat) (m : Bool) : World := ((w.setCell ⟨g, 0, none⟩ (.int .i64 c)).setCell ⟨g, 1, none⟩ (.slice A n k)).setCell ⟨g, 2, none⟩ (.bool m)
theorem fillt_blk {w : World} {g : Nat} {t : TypeId} {c : Int} {A : Option Addr} {n k : Nat} {m : Bool} (c' : Int) (A' : Option Addr) (n' k' : Nat) (m' : Bool) (h : Blk w g t (tcs c A n k m)) : Blk (fillT w g c' A' n' k' m') g t (tcs c' A' n' k' m') := fillC_all (tcs c' A' n' k' m').toList h rfl
theorem fillt_stp {w w1 : World} {g : Nat} (c' : Int) (A' : Option Addr) (n' k' : Nat) (m' : Bool) (h : Stp w w1) (hg : w.heap.size ≤ g) : Stp w (fillT w1 g c' A' n' k' m') := fillC_stp hg (tcs c' A' n' k' m').toList 0 w1 h
/-- Rows that keep clear of block g: whatever is written there. -/
def Clear (g : Nat) (w : World) (A : Option Addr) (k : Nat) (ls : List L) : Prop := ∀ w' : World, w.grownBy w' (some g) → RdL w' A k ls
theorem Clear.rd {g : Nat} {w : World} {A : Option Addr} {k : Nat} {ls : List L} (h : Clear g w A k ls) : RdL w A k ls := h w (World.grownBy.refl w _)
theorem Clear.keep {g : Nat} {w w1 : World} {A : Option Addr} {k : Nat} {ls : List L} (h : Clear g w A k ls) (hs : Stp w w1) : Clear g w1 A k ls :=
  fun w2 h2 => h w2 ⟨h2.os.trans hs.os, h2.tape.trans hs.tape, h2.output.trans hs.output, Nat.le_trans hs.size h2.size, fun j hj hn => (h2.block j (Nat.lt_of_lt_of_le hj hs.size) hn).trans (hs.block j hj)⟩
/-- A block that came behind them. -/
theorem Clear.new {g : Nat} {w w1 : World} {A : Option Addr} {k : Nat} {ls : List L} (h : RdL w A k ls) (hs : Stp w w1) (hg : w.heap.size ≤ g) : Clear g w1 A k ls :=
  fun w2 h2 => h.keep ⟨h2.os.trans hs.os, h2.tape.trans hs.tape, h2.output.trans hs.output, Nat.le_trans hs.size h2.size, fun j hj => (h2.block j (Nat.lt_of_lt_of_le hj hs.size) (by simp; omega)).trans (hs.block j hj)⟩
theorem grown_two {w w1 w2 : World} {r : Option Nat} (h : w.grownBy w1 r) (k : w1.grownBy w2 r) : w.grownBy w2 r :=
  ⟨k.os.trans h.os, k.tape.trans h.tape, k.output.trans h.output, Nat.le_trans h.size k.size, fun j hj hn => (k.block j (Nat.lt_of_lt_of_le hj h.size) hn).trans (h.block j hj hn)⟩
theorem fillt_grown (w : World) (g : Nat) (c : Int) (A : Option Addr) (n k : Nat) (m : Bool) : w.grownBy (fillT w g c A n k m) (some g) := by
  have h : ∀ (X : World) (i : Nat) (v : Value), X.grownBy (X.setCell ⟨g, i, none⟩ v) (some g) := fun X i v => ⟨rfl, rfl, rfl, by simp [World.setCell], fun j _ hj => Below.heap_setCell _ _ _ _ (fun e => hj (by rw [show j = g from e]))⟩
  exact grown_two (h _ _ _) (grown_two (h _ _ _) (h _ _ _))
theorem Clear.fill {g : Nat} {w : World} {A : Option Addr} {k : Nat} {ls : List L} (h : Clear g w A k ls) (c : Int) (A' : Option Addr) (n' k' : Nat) (m : Bool) : Clear g (fillT w g c A' n' k' m) A k ls :=
  fun w2 h2 => h w2 (grown_two (fillt_grown w g c A' n' k' m) h2)
/-- Bytes that keep clear of block g. -/
def ClearA (g : Nat) (w : World) (A : Option Addr) (k : Nat) (xs : List Value) : Prop := ∀ w' : World, w.grownBy w' (some g) → RdA w' A k xs
theorem ClearA.rd {g : Nat} {w : World} {A : Option Addr} {k : Nat} {xs : List Value} (h : ClearA g w A k xs) : RdA w A k xs := h w (World.grownBy.refl w _)
theorem ClearA.keep {g : Nat} {w w1 : World} {A : Option Addr} {k : Nat} {xs : List Value} (h : ClearA g w A k xs) (hs : Stp w w1) : ClearA g w1 A k xs :=
  fun w2 h2 => h w2 ⟨h2.os.trans hs.os, h2.tape.trans hs.tape, h2.output.trans hs.output, Nat.le_trans hs.size h2.size, fun j hj hn => (h2.block j (Nat.lt_of_lt_of_le hj hs.size) hn).trans (hs.block j hj)⟩
theorem ClearA.new {g : Nat} {w w1 : World} {A : Option Addr} {k : Nat} {xs : List Value} (h : RdA w A k xs) (hs : Stp w w1) (hg : w.heap.size ≤ g) : ClearA g w1 A k xs :=
  fun w2 h2 => h.keep ⟨h2.os.trans hs.os, h2.tape.trans hs.tape, h2.output.trans hs.output, Nat.le_trans hs.size h2.size, fun j hj => (h2.block j (Nat.lt_of_lt_of_le hj hs.size) (by simp; omega)).trans (hs.block j hj)⟩
theorem ClearA.fill {g : Nat} {w : World} {A : Option Addr} {k : Nat} {xs : List Value} (h : ClearA g w A k xs) (c : Int) (A' : Option Addr) (n' k' : Nat) (m : Bool) : ClearA g (fillT w g c A' n' k' m) A k xs :=
  fun w2 h2 => h w2 (grown_two (fillt_grown w g c A' n' k' m) h2)
theorem fresh_stp {w w1 : World} (h : w.grownBy w1 none) : Stp w w1 := ⟨h.os, h.tape, h.output, h.size, fun j hj => h.block j hj (by simp)⟩
theorem byte_info1 : (Tryz.prog.info? 5).map (fun i => (i.zero, i.size, i.bytes)) = some (some (.int .u8 0), 1, 1) := by kernel_rfl

/-- A tape that is small enough to be laid anew. -/
structure FewT (t : Tp) : Prop where
  low : -9223372036854775808 ≤ t.cap
  high : t.cap < 9223372036854775808
  few : t.rows.length ≤ 1000
  each : ∀ l ∈ t.rows, l.length ≤ 100000

/-- 512 bytes 0, and the example's tapes. -/
theorem ex_facts (z : L) (hz : noughts 512 = z) : z.length = 512 ∧ newV 1 = (⟨1, [], false⟩, true) ∧ writeV ⟨1, [], false⟩ z = (⟨1, [z], false⟩, 0) ∧ writeV ⟨1, [z], false⟩ z = (⟨1, [z], false⟩, 8) ∧
    readV ⟨1, [z], false⟩ 0 = (z, 0) ∧ closeV ⟨1, [z], false⟩ = (⟨1, [z], true⟩, 0) ∧ fillV ⟨1, [z], false⟩ [] = (⟨1, [z], false⟩, 0, 0) ∧ mayT ⟨1, [z], false⟩ = true := by
  have h1 : z.length = 512 := by rw [← hz, noughts_length]
  have h2 : mayR z = true := mayR_iff.2 ⟨by omega, by omega, by omega⟩
  have h3 : mayT ⟨1, [], false⟩ = true := mayT_iff.2 ⟨by simp, by simp, by simp, by simp⟩
  have h4 : mayT ⟨1, [z], false⟩ = true := mayT_iff.2 ⟨by simp, by simp, by simp, by simpa using h2⟩
  refine ⟨h1, by rw [newV, if_pos (by omega)], ?_, ?_, ?_, ?_, ?_, h4⟩
  · exact writeV_yes h3 h2 rfl (by simp)
  · rw [writeV, h4, h2, if_neg (by simp), if_pos (.inr (by simp))]
  · exact readV_yes h4 (by omega) (by simp)
  · rw [closeV, h4, if_neg (by simp), if_neg (by simp)]
  · rw [fillV, if_pos h4]
    rfl
theorem small_ex (z : L) (hz : z.length = 512) (m : Bool) : FewT ⟨1, [z], m⟩ := ⟨by simp, by simp, by simp, by simp [hz]⟩
theorem small_ex0 (m : Bool) : FewT ⟨1, [], m⟩ := ⟨by simp, by simp, by simp, by simp⟩
theorem blk_z {W : World} {g : Nat} {z : L} (hz : noughts 512 = z) (h : Blk W g 5 (Array.replicate 512 (.int .u8 0))) : RdA W (some ⟨g, 0, none⟩) 512 (bs z) := by
  subst hz
  have e : ∀ k, (Array.replicate k (Value.int .u8 0)) = (bs (noughts k)).toArray := fun k => by simp [noughts, bs]
  rw [e] at h
  have h2 := (Base.Own.of_blk (lo := 0) h (Nat.zero_le _) (n := 512) (by simp [bs_length, noughts_length]) (by unfold maxLen; omega)).rd
  unfold RdA
  rw [bs_length, noughts_length]
  exact h2
end Go.Proofs.YtllnnlmhbmladaaGreatDoor.Tape

