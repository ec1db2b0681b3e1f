/-
  The walk of the statement HeadMay: the law returns true and writes nothing that was there; the statement itself is proved in a text of its own.
-/
import Derived.Test.YtjbihmbnfkpbpaaHeadAwake
namespace Go.Proofs.Ytjbihmbnfkpbpaa.Head
open Go.RowKit Go.Proofs.Ytjbihmbnfkpbpaa.Base Go.Proofs.Ytjbihmbnfkpbpaa.NumM Go.Proofs.Ytjbihmbnfkpbpaa.Num

/-- A header with another name, size and time. -/
def withH (h : Hd) (nm : L) (n : Int) : Hd := { h with name := nm, size := n, time := n }
theorem putOk12 {n : Int} (h : n < 9223372036854775808) : putOk n 12 = decide (0 ≤ n) := by
  unfold putOk
  by_cases h0 : 0 ≤ n
  · have : n.toNat < 256 ^ (12 - 1 : Int).toNat := by
      show n.toNat < 256 ^ 11
      omega
    rw [decide_eq_true h0, decide_eq_true_eq]
    exact ⟨h0, by omega, by omega, this⟩
  · simp [h0]
theorem may_with {h : Hd} {nm : L} {n : Int} (hm : mayH h = true) (hn : n < 9223372036854775808) : mayH (withH h nm n) = ((!nm.isEmpty && decide (nm.length ≤ 100) && nm.all (fun x => !((x.toNat : Int) == 0))) && decide (0 ≤ n)) := by
  have hc : nm.all (fun x => !((x.toNat : Int) == 0)) = !(nm.contains 0) := by
    rw [Bool.eq_iff_iff]
    simp only [List.all_eq_true, Bool.not_eq_true', beq_eq_false_iff_ne, List.contains_eq_mem, decide_eq_false_iff_not]
    constructor
    · intro h hm
      exact h 0 hm rfl
    · intro h x hx e
      have : x = 0 := UInt8.toNat_inj.1 (by show x.toNat = 0; omega)
      subst this
      exact h hx
  rw [hc]
  unfold mayH elseZ txtsOk numsOk okT at hm ⊢
  unfold withH
  simp only [Bool.and_eq_true] at hm
  obtain ⟨⟨⟨⟨h1, h2⟩, h3⟩, ⟨⟨h4, h4'⟩, h6⟩⟩, ⟨⟨⟨⟨⟨h7, h8⟩, h9⟩, h10⟩, h11⟩, h12⟩⟩ := hm
  simp only [putOk12 hn]
  rw [h2, h3, h6, h7, h8, h9, h12]
  have e4 : (decide (h.link.length ≤ 100) && !h.link.contains 0) = true := by simpa using h4'
  rw [e4]
  cases decide (0 ≤ n) <;> cases nm.isEmpty <;> cases decide (nm.length ≤ 100) <;> cases nm.contains 0 <;> rfl
theorem small_with {h : Hd} {nm : L} {n : Int} (hs : SmallH h) (hl : nm.length ≤ 9223372036854775807) (hn : n < 9223372036854775808) : SmallH (withH h nm n) :=
  ⟨hl, hs.pre, hs.link, hs.mode, hs.uid, hs.gid, hn, hn, hs.off, hs.real⟩
theorem all_next {l : L} {k : Nat} {x : UInt8} (hl : l[k]? = some x) : (l.take (k + 1)).all (fun x => !((x.toNat : Int) == 0)) = ((l.take k).all (fun x => !((x.toNat : Int) == 0)) && !((x.toNat : Int) == 0)) := by
  rw [List.take_add_one, hl, List.all_append]
  simp
def MRel (nm : L) (g0 : Bool) (g i : Value) : Prop := ∃ k : Nat, k ≤ nm.length ∧ i = .int .i64 (k : Int) ∧ g = .bool (g0 && (nm.take k).all fun x => !((x.toNat : Int) == 0))

set_option maxHeartbeats 4000000 in
set_option maxRecDepth 100000 in
theorem hmay_early (h : Hd) (hsm : SmallH h) (nm : L) (n : Int) (w : World) (hl : nm.length ≤ 9223372036854775807) (hin : fewB h = false ∨ 200 < nm.length ∨ mayH h = false) :
    Calls Try.prog 9 #[hv h, .string ⟨nm.toArray⟩, .int .i64 n] w fun e w' => e = .returned (.bool true) ∧ Stp w w' := by
  have h0 := Stp.alloc (Stp.refl w) (.cells (hcells h) 23)
  have Hb := Lib.hid (Blk.new w 23 (hcells h))
  obtain ⟨hb, hhb⟩ : ∃ x, w.heap.size = x := ⟨_, rfl⟩
  rw [hhb] at Hb
  have hhl : w.heap.size ≤ hb := Nat.le_of_eq hhb
  have Hs := Lib.hid hsm
  obtain ⟨f, hf⟩ : ∃ f, fewB h = f := ⟨_, rfl⟩
  obtain ⟨m, hm⟩ : ∃ m, mayH h = m := ⟨_, rfl⟩
  rw [hf, hm] at hin
  have Hf := Lib.hid hf
  have Hm := Lib.hid hm
  have key : f = false ∨ (f = true ∧ decide ((200 : Int) < (nm.length : Int)) = true) ∨ (f = true ∧ decide ((200 : Int) < (nm.length : Int)) = false ∧ m = false) := by
    cases f
    · exact .inl rfl
    · by_cases h2 : 200 < nm.length
      · exact .inr (.inl ⟨rfl, by simp; omega⟩)
      · rcases hin with e | e | e
        · cases e
        · exact absurd e h2
        · exact .inr (.inr ⟨rfl, by simp; omega, e⟩)
  clear hin hf hm hsm
  rcases key with rfl | ⟨rfl, g1⟩ | ⟨rfl, g1, rfl⟩
  all_goals go_enter Try.func9, Try.ntmps9
  all_goals go_wp2_with (first
    | (go_at_call 10; refine (awake_s _).mono ?_; rintro e w1 ⟨rfl, hs⟩; replace Hb := Lib.hid (Hb.out.keep hs Hb.out.lt); replace h0 := Stp.trans h0 hs; clear hs; obtain ⟨x0, x1, x2, x3, x4, x5, x6, x7, x8, x9, x10⟩ := hd_cells Hb.out)
    | (go_at_call 11; refine (few_s h _).mono ?_; rintro e w2 ⟨rfl, hs⟩; rw [Hf.out]; replace Hb := Lib.hid (Hb.out.keep hs Hb.out.lt); replace h0 := Stp.trans h0 hs; clear hs; clear x0 x1 x2 x3 x4 x5 x6 x7 x8 x9 x10; obtain ⟨x0, x1, x2, x3, x4, x5, x6, x7, x8, x9, x10⟩ := hd_cells Hb.out)
    | (go_at_call 17; (with_reducible refine (may_any h Hs.out _).mono ?_); rintro e w3 ⟨rfl, hs⟩; rw [Hm.out]; replace Hb := Lib.hid (Hb.out.keep hs Hb.out.lt); replace h0 := Stp.trans h0 hs; clear hs; clear x0 x1 x2 x3 x4 x5 x6 x7 x8 x9 x10; obtain ⟨x0, x1, x2, x3, x4, x5, x6, x7, x8, x9, x10⟩ := hd_cells Hb.out))
  all_goals go_ret
  all_goals exact ⟨rfl, h0⟩

set_option maxHeartbeats 4000000 in
set_option maxRecDepth 100000 in
theorem hmay_main (h : Hd) (hsm : SmallH h) (nm : L) (n : Int) (w : World) (hf : fewB h = true) (hl : nm.length ≤ 200) (hm : mayH h = true) (hn : n < 9223372036854775808) :
    Calls Try.prog 9 #[hv h, .string ⟨nm.toArray⟩, .int .i64 n] w fun e w' => e = .returned (.bool true) ∧ Stp w w' := by
  have h0 := Stp.alloc (Stp.refl w) (.cells (hcells h) 23)
  have Hb := Lib.hid (Blk.new w 23 (hcells h))
  obtain ⟨hb, hhb⟩ : ∃ x, w.heap.size = x := ⟨_, rfl⟩
  rw [hhb] at Hb
  have hhl : w.heap.size ≤ hb := Nat.le_of_eq hhb
  have Hs := Lib.hid hsm
  have Hf := Lib.hid hf
  have Hm := Lib.hid hm
  have g1 : decide ((200 : Int) < (nm.length : Int)) = false := by simp; omega
  have hmw := may_with (nm := nm) hm hn
  have hsw := small_with (h := h) (nm := nm) hsm (by omega) hn
  obtain ⟨e1, he1⟩ : ∃ b, nm.isEmpty = b := ⟨_, rfl⟩
  have he2 : (nm == []) = e1 := by rw [← he1]; cases nm <;> rfl
  obtain ⟨g0, hg0⟩ : ∃ b, (!e1 && decide (nm.length ≤ 100)) = b := ⟨_, rfl⟩
  rw [he1, hg0] at hmw
  obtain ⟨q, hq⟩ : ∃ q, decide (0 ≤ n) = q := ⟨_, rfl⟩
  rw [hq] at hmw
  have g2 : decide ((nm.length : Int) ≤ 100) = decide (nm.length ≤ 100) := by
    by_cases h9 : nm.length ≤ 100 <;> simp [h9] <;> omega
  have key : (e1 = true ∧ g0 = false) ∨ (e1 = false ∧ decide ((nm.length : Int) ≤ 100) = g0) := by
    rw [g2]
    cases e1
    · exact .inr ⟨rfl, by rw [← hg0]; rfl⟩
    · exact .inl ⟨rfl, by rw [← hg0]; rfl⟩
  have Hmw := Lib.hid hmw
  have Hsw := Lib.hid hsw
  have Hq := Lib.hid hq
  clear hf hm hsm hmw hsw g2 hg0 he1
  rcases key with ⟨rfl, rfl⟩ | ⟨rfl, g2⟩
  · go_enter Try.func9, Try.ntmps9
    go_wp2_with (first
      | (go_at_call 10; refine (awake_s _).mono ?_; rintro e w1 ⟨rfl, hs⟩; replace Hb := Lib.hid (Hb.out.keep hs Hb.out.lt); replace h0 := Stp.trans h0 hs; clear hs; obtain ⟨x0, x1, x2, x3, x4, x5, x6, x7, x8, x9, x10⟩ := hd_cells Hb.out)
      | (go_at_call 11; refine (few_s h _).mono ?_; rintro e w2 ⟨rfl, hs⟩; rw [Hf.out]; replace Hb := Lib.hid (Hb.out.keep hs Hb.out.lt); replace h0 := Stp.trans h0 hs; clear hs; clear x0 x1 x2 x3 x4 x5 x6 x7 x8 x9 x10; obtain ⟨x0, x1, x2, x3, x4, x5, x6, x7, x8, x9, x10⟩ := hd_cells Hb.out)
      | (go_at_call 17; (with_reducible refine (may_any h Hs.out _).mono ?_); rintro e w3 ⟨rfl, hs⟩; rw [Hm.out]; replace Hb := Lib.hid (Hb.out.keep hs Hb.out.lt); replace h0 := Stp.trans h0 hs; clear hs; clear x0 x1 x2 x3 x4 x5 x6 x7 x8 x9 x10; obtain ⟨x0, x1, x2, x3, x4, x5, x6, x7, x8, x9, x10⟩ := hd_cells Hb.out))
    go_loop [10, 11] (fun g i => MRel nm false g i) (fun _ i => nm.length - (intOf i).toNat)
    case atStart => exact ⟨0, by omega, rfl, by simp⟩
    case round =>
      obtain ⟨k, hk, rfl, rfl⟩ := hrel
      by_cases hlt : k < nm.length
      · obtain ⟨x, hl1⟩ : ∃ x, nm[k]? = some x := ⟨_, List.getElem?_eq_getElem hlt⟩
        have hix := Str.idx_l nm (k : Int) x (by omega) (by rw [Int.toNat_natCast]; exact hl1)
        have Hst := Lib.hid (all_next hl1)
        obtain ⟨y, hy⟩ : ∃ y : Int, (x.toNat : Int) = y := ⟨_, rfl⟩
        rw [hy] at hix Hst
        obtain ⟨z1, hz1⟩ : ∃ z1, (false && (nm.take k).all fun x => !((x.toNat : Int) == 0)) = z1 := ⟨_, rfl⟩
        have hz2 : (false && (nm.take (k + 1)).all fun x => !((x.toNat : Int) == 0)) = (z1 && !(y == 0)) := by rw [Hst.out, ← Bool.and_assoc, hz1]
        have Hz2 := Lib.hid hz2
        rw [hz1]
        clear hl1 hy hz1 hz2 Hst
        cases z1
        · have R := Lib.hid (show MRel nm false (.bool false) (.int .i64 ((k : Int) + 1)) from ⟨k + 1, by omega, by go_num, by rw [Hz2.out]; rfl⟩)
          go_wp2_with fail
          go_round
          · first
              | exact R.out
              | (repeat apply Exists.intro
                 refine ⟨R.out, ?_⟩
                 repeat' first | rfl | constructor)
          · simp [intOf]; omega
        · have R := Lib.hid (show MRel nm false (.bool (y != 0)) (.int .i64 ((k : Int) + 1)) from ⟨k + 1, by omega, by go_num, by rw [Hz2.out]; rfl⟩)
          go_wp2_with fail
          go_round
          · first
              | exact R.out
              | (repeat apply Exists.intro
                 refine ⟨R.out, ?_⟩
                 repeat' first | rfl | constructor)
          · simp [intOf]; omega
      · obtain rfl : k = nm.length := by omega
        rw [List.take_length]
        have hmw := Hmw.out
        generalize hgv : (false && nm.all fun x => !((x.toNat : Int) == 0)) = gv at hmw ⊢
        clear hgv Hmw
        have Hmw := Lib.hid hmw
        clear hmw
        cases gv <;> cases q
        all_goals go_wp2_with (go_at_call 17; refine (may_any (withH h nm n) Hsw.out _).mono ?_; rintro e w5 ⟨rfl, hs⟩; rw [Hmw.out]; have H5 := Lib.hid (Stp.trans (Stp.alloc h0 _) hs); clear hs)
        all_goals go_ret
        all_goals exact ⟨rfl, H5.out⟩
  · go_enter Try.func9, Try.ntmps9
    go_wp2_with (first
      | (go_at_call 10; refine (awake_s _).mono ?_; rintro e w1 ⟨rfl, hs⟩; replace Hb := Lib.hid (Hb.out.keep hs Hb.out.lt); replace h0 := Stp.trans h0 hs; clear hs; obtain ⟨x0, x1, x2, x3, x4, x5, x6, x7, x8, x9, x10⟩ := hd_cells Hb.out)
      | (go_at_call 11; refine (few_s h _).mono ?_; rintro e w2 ⟨rfl, hs⟩; rw [Hf.out]; replace Hb := Lib.hid (Hb.out.keep hs Hb.out.lt); replace h0 := Stp.trans h0 hs; clear hs; clear x0 x1 x2 x3 x4 x5 x6 x7 x8 x9 x10; obtain ⟨x0, x1, x2, x3, x4, x5, x6, x7, x8, x9, x10⟩ := hd_cells Hb.out)
      | (go_at_call 17; (with_reducible refine (may_any h Hs.out _).mono ?_); rintro e w3 ⟨rfl, hs⟩; rw [Hm.out]; replace Hb := Lib.hid (Hb.out.keep hs Hb.out.lt); replace h0 := Stp.trans h0 hs; clear hs; clear x0 x1 x2 x3 x4 x5 x6 x7 x8 x9 x10; obtain ⟨x0, x1, x2, x3, x4, x5, x6, x7, x8, x9, x10⟩ := hd_cells Hb.out))
    go_loop [10, 11] (fun g i => MRel nm g0 g i) (fun _ i => nm.length - (intOf i).toNat)
    case atStart => exact ⟨0, by omega, rfl, by simp⟩
    case round =>
      obtain ⟨k, hk, rfl, rfl⟩ := hrel
      by_cases hlt : k < nm.length
      · obtain ⟨x, hl1⟩ : ∃ x, nm[k]? = some x := ⟨_, List.getElem?_eq_getElem hlt⟩
        have hix := Str.idx_l nm (k : Int) x (by omega) (by rw [Int.toNat_natCast]; exact hl1)
        have Hst := Lib.hid (all_next hl1)
        obtain ⟨y, hy⟩ : ∃ y : Int, (x.toNat : Int) = y := ⟨_, rfl⟩
        rw [hy] at hix Hst
        obtain ⟨z1, hz1⟩ : ∃ z1, (g0 && (nm.take k).all fun x => !((x.toNat : Int) == 0)) = z1 := ⟨_, rfl⟩
        have hz2 : (g0 && (nm.take (k + 1)).all fun x => !((x.toNat : Int) == 0)) = (z1 && !(y == 0)) := by rw [Hst.out, ← Bool.and_assoc, hz1]
        have Hz2 := Lib.hid hz2
        rw [hz1]
        clear hl1 hy hz1 hz2 Hst
        cases z1
        · have R := Lib.hid (show MRel nm g0 (.bool false) (.int .i64 ((k : Int) + 1)) from ⟨k + 1, by omega, by go_num, by rw [Hz2.out]; rfl⟩)
          go_wp2_with fail
          go_round
          · first
              | exact R.out
              | (repeat apply Exists.intro
                 refine ⟨R.out, ?_⟩
                 repeat' first | rfl | constructor)
          · simp [intOf]; omega
        · have R := Lib.hid (show MRel nm g0 (.bool (y != 0)) (.int .i64 ((k : Int) + 1)) from ⟨k + 1, by omega, by go_num, by rw [Hz2.out]; rfl⟩)
          go_wp2_with fail
          go_round
          · first
              | exact R.out
              | (repeat apply Exists.intro
                 refine ⟨R.out, ?_⟩
                 repeat' first | rfl | constructor)
          · simp [intOf]; omega
      · obtain rfl : k = nm.length := by omega
        rw [List.take_length]
        have hmw := Hmw.out
        generalize hgv : (g0 && nm.all fun x => !((x.toNat : Int) == 0)) = gv at hmw ⊢
        clear hgv Hmw
        have Hmw := Lib.hid hmw
        clear hmw
        cases gv <;> cases q
        all_goals go_wp2_with (go_at_call 17; refine (may_any (withH h nm n) Hsw.out _).mono ?_; rintro e w5 ⟨rfl, hs⟩; rw [Hmw.out]; have H5 := Lib.hid (Stp.trans (Stp.alloc h0 _) hs); clear hs)
        all_goals go_ret
        all_goals exact ⟨rfl, H5.out⟩

theorem hmay_any (h : Hd) (hsm : SmallH h) (nm : L) (n : Int) (w : World) (hl : nm.length ≤ 9223372036854775807) (hn : n < 9223372036854775808) :
    Calls Try.prog 9 #[hv h, .string ⟨nm.toArray⟩, .int .i64 n] w fun e w' => e = .returned (.bool true) ∧ Below w.heap.size w w' := by
  by_cases hin : fewB h = false ∨ 200 < nm.length ∨ mayH h = false
  · exact hmay_early h hsm nm n w hl hin
  · simp only [not_or, Bool.not_eq_false] at hin
    exact hmay_main h hsm nm n w hin.1 (by omega) hin.2.2 hn
end Go.Proofs.Ytjbihmbnfkpbpaa.Head
