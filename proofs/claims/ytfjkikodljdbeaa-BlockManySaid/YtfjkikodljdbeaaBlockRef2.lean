/-
  Contracts of the document's answers for blocks (package reelkeeperref03): Zeros, Cut, Text: no statement is proved here.
-/
import Derived.Test.YtfjkikodljdbeaaBlockRef
namespace Go.Proofs.Ytfjkikodljdbeaa.Block
open Go.RowKit Go.Shelf Go.Proofs.Ytfjkikodljdbeaa.Base Go.Proofs.Ytfjkikodljdbeaa.BlockM Go.Proofs.Ytfjkikodljdbeaa.Str

/-- A row of the call's own that holds slices of blocks. -/
theorem blk_not_own {W : World} {g lo : Nat} {t e : TypeId} {cs : Array Value} {v : Value} {xs : List Value} (h : Blk W g t cs) (hte : t ≠ e) (hv : Base.Own W lo e v xs) : some g ≠ v.ownBlock := by
  rcases hv with ⟨rfl, _⟩ | ⟨g', cap, cur, fz, rfl, _, hg, _⟩
  · simp [Value.ownBlock]
  · simp only [Value.ownBlock]
    intro e'
    cases e'
    unfold Blk at h
    rw [hg] at h
    cases h
    exact hte rfl
theorem gathered_own {W : World} {lo : Nat} {v : Value} {ys : List Handed} {bl : List L} (hr : Base.Own W lo 31 v (ys.map val)) (hh : ∀ x ∈ ys, Holds x W) (he : ys.map (·.2) = bl) (h5 : ∀ b ∈ bl, b.length = 512) :
    ∃ A cap, v = .slice A bl.length cap ∧ RdL W A cap bl := by
  obtain ⟨A, cap, h1, h2⟩ := gathered hr.rd hh he h5
  exact ⟨A, cap, h1, h2.rdL⟩

/-- What is gathered so far. -/
structure Gath (lo : Nat) (w wr : World) (v : Value) (ys : List Handed) : Prop where
  own : Base.Own wr lo 31 v (ys.map val)
  held : ∀ x ∈ ys, Holds x wr
  below : Below lo w wr
theorem Gath.start (w : World) : Gath w.heap.size w w (.slice none 0 0) [] := ⟨Base.Own.nil _ _ _, by simp, Below.refl _ _⟩
/-- New memory is laid. -/
theorem Gath.grown {lo : Nat} {w wr w1 : World} {v : Value} {ys : List Handed} (h : Gath lo w wr v ys) (hlo : lo ≤ wr.heap.size) (hg : wr.grownBy w1 none) : Gath lo w w1 v ys :=
  ⟨h.own.grown hg (by simp; cases hv : v.ownBlock <;> simp), fun x hx => Blk.grown (h.held x hx) hg (by simp), h.below.grown hg hlo (by simp)⟩
/-- Nothing that was there is written. -/
theorem Gath.step {lo : Nat} {w wr w1 : World} {v : Value} {ys : List Handed} (h : Gath lo w wr v ys) (hlo : lo ≤ wr.heap.size) (hs : Stp wr w1) : Gath lo w w1 v ys :=
  ⟨h.own.keep hs, fun x hx => Blk.keep (h.held x hx) hs (Blk.lt (h.held x hx)), h.below.trans (Below.mono hs hlo)⟩
/-- One more is gathered: append of a literal of one slice. -/
theorem Gath.more {lo : Nat} {w wr w1 : World} {v v1 : Value} {ys : List Handed} {x : Handed} {o : Obj} (h : Gath lo w wr v ys) (hx : Holds x wr) (hlo : lo ≤ wr.heap.size)
    (hv : Base.Own w1 lo 31 v1 (ys.map val ++ [.slice (some ⟨x.1, 0, none⟩) 512 512])) (hg : (wr.alloc o).grownBy w1 v.ownBlock) : Gath lo w w1 v1 (ys ++ [x]) := by
  refine ⟨by rw [List.map_append]; exact hv, fun y hy => ?_, (h.below.alloc hlo o).grown hg (by simp; omega) (fun j hj => (h.own.lt j hj).1)⟩
  have hy' : Holds y wr := by
    rcases List.mem_append.1 hy with h' | h'
    · exact h.held y h'
    · rw [List.mem_singleton.1 h']
      exact hx
  exact Blk.grown (Blk.alloc hy' o) hg (blk_not_own hy' (by decide) h.own)

theorem noughts_arr (k : Nat) : (bs (noughts k)).toArray = Array.replicate k (Value.int .u8 0) := by simp [noughts, bs]
theorem replicate_snoc_eq {k : Nat} : List.replicate k (noughts 512) ++ [noughts 512] = List.replicate (k + 1) (noughts 512) := by rw [List.replicate_succ']

set_option maxRecDepth 100000 in
set_option maxHeartbeats 1000000 in
theorem rzeros_s (n : Int) (w : World) (hn : n < 9223372036854775808) :
    Calls Try.prog 18 #[.int .i64 n] w fun e w' => ∃ A cap, e = .returned (.slice A (zerosV n).length cap) ∧ RdL w' A cap (zerosV n) ∧ Stp w w' := by
  have h0 := Stp.refl w
  by_cases hin : 1 ≤ n ∧ n ≤ 400
  · rw [zerosV_yes hin, blks_length]
    obtain ⟨m, rfl⟩ := Int.eq_ofNat_of_zero_le (show 0 ≤ n by omega)
    rw [Int.toNat_natCast, blks_nil]
    have g4 : decide ((m : Int) ≤ 400) = true := decide_eq_true (by omega)
    have hm : m ≤ 400 := by omega
    clear hin
    go_enter Try.func18, Try.ntmps18
    go_wp2_with fail
    go_loopw [3, 4] (fun v i wr => ∃ (k : Nat) (ys : List Handed), k ≤ m ∧ i = .int .i64 k ∧ ys.length = k ∧ Hid (ys.map (·.2) = List.replicate k (noughts 512)) ∧ Hid (Gath w.heap.size w wr v ys))
      (fun _ i _ => m - (intOf i).toNat)
    case atStart => exact ⟨0, [], by omega, rfl, rfl, Lib.hid rfl, Lib.hid (Gath.start w)⟩
    case round =>
      obtain ⟨k, ys, hk, rfl, hyl, Hy, Hg⟩ := hrel
      have hlo := Hg.out.below.size
      by_cases hlt : k < m
      · have g5 : decide ((k : Int) < (m : Int)) = true := decide_eq_true (by omega)
        go_wp2_with (first
          | (at_make; refine wpList_make_blk _ rfl _ _ 31 rfl 5 (.int .u8 0) 1 Try.underlying31 byte_info rfl .i64 .i64 512 512 rfl rfl rfl (by omega) (by unfold maxLen; omega) ?_; intro w1 hb1 hs1 hg1; have Hg1 := Lib.hid (Hg.out.grown hlo hg1); have Hx := Lib.hid hb1; clear hb1 hs1 hg1)
          | (at_builtin; refine wpList_append_rd (P := Try.prog) _ rfl (.tmp 14) (.tmp 16) 22 rfl w.heap.size 31 (.slice none 0 0) 24 Try.underlying22 bytes_info rfl _ (ys.map val) rfl (Hg1.out.own.alloc _) _ _ [.slice (some ⟨wr.heap.size, 0, none⟩) 512 512] rfl (rd_lit _ _ _) (by simp [Value.oneCell']) ?h1 ?h2 ?h3 ?_))
        case h1 => simp only [List.length_cons, List.length_nil, List.length_map]; unfold maxLen; omega
        case h2 => simp only [List.length_cons, List.length_nil, List.length_map]; omega
        case h3 => have := Hg1.out.below.size; simp; omega
        intro v1 w2 hv1 hg2 _
        have Hg2 : Hid (Gath w.heap.size w w2 v1 (ys ++ [(wr.heap.size, noughts 512)])) := Lib.hid (Hg1.out.more (x := (wr.heap.size, noughts 512)) (by
          have h := Hx.out
          unfold Holds
          rw [noughts_arr]
          exact h) Hg1.out.below.size hv1 hg2)
        clear hv1 hg2 Hg Hg1 Hx
        go_wp2_with fail
        go_roundw
        case rel => exact ⟨k + 1, _, by omega, by go_num, by simp [hyl], Lib.hid (by rw [List.map_append, Hy.out, List.map_singleton, replicate_snoc_eq]), Hg2⟩
        case measure => simp [intOf]; omega
      · obtain rfl : k = m := by omega
        have g5 : decide ((k : Int) < (k : Int)) = false := decide_eq_false (by omega)
        go_wp2_with fail
        go_ret
        obtain ⟨A, cap, rfl, hr⟩ := gathered_own Hg.out.own Hg.out.held Hy.out (fun b hb => by rw [List.eq_of_mem_replicate hb, noughts_length])
        exact ⟨A, cap, by rw [List.length_replicate]; rfl, hr, Hg.out.below⟩
  · rw [zerosV_no hin]
    have key : decide (0 < n) = false ∨ (decide (0 < n) = true ∧ decide (n ≤ 400) = false) := by
      simp only [decide_eq_true_eq, decide_eq_false_iff_not]
      omega
    clear hin
    rcases key with g1 | ⟨g1, g2⟩
    all_goals
      go_enter Try.func18, Try.ntmps18
      go_wp2_with fail
      go_loopw [3, 4] (fun v i wr => v = .slice none 0 0 ∧ i = .int .i64 0 ∧ wr = w) (fun _ _ _ => 0)
      case atStart => exact ⟨rfl, rfl, rfl⟩
      case round =>
        obtain ⟨rfl, rfl, rfl⟩ := hrel
        go_wp2_with fail
        go_ret
        exact ⟨none, 0, rfl, RdL.nil _, h0⟩

/-- The first j bytes of a block are there. -/
def part (r : L) (j : Nat) : L := r.take j ++ noughts (512 - j)
theorem part_start (r : L) : part r 0 = noughts 512 := rfl
theorem part_length {r : L} {j : Nat} (h1 : j ≤ 512) (h2 : j ≤ r.length) : (part r j).length = 512 := by rw [part, List.length_append, List.length_take, noughts_length]; omega
theorem part_set {r : L} {j : Nat} {c : UInt8} (h1 : j < 512) (hc : r[j]? = some c) : (part r j).set j c = part r (j + 1) := by
  have hj : j < r.length := (List.getElem?_eq_some_iff.1 hc).1
  obtain ⟨q, hq⟩ : ∃ q, 512 - j = q + 1 := ⟨511 - j, by omega⟩
  rw [part, part, hq, noughts, List.replicate_succ, List.set_append_right _ _ (by rw [List.length_take]; omega), List.length_take, Nat.min_eq_left (by omega), Nat.sub_self, List.set_cons_zero, List.take_add_one, hc,
    show 512 - (j + 1) = q by omega]
  simp [noughts]
theorem part_end {r : L} {j : Nat} (h : ¬ (j < 512 ∧ j < r.length)) (h1 : j ≤ 512) (h2 : j ≤ r.length) : part r j = blk r := by
  rw [part, blk]
  by_cases hj : j = 512
  · subst hj
    rw [show 512 - r.length = 0 by omega]
  · rw [List.take_of_length_le (by omega), List.take_of_length_le (by omega), show j = r.length by omega]

set_option maxRecDepth 100000 in
set_option maxHeartbeats 2000000 in
theorem rcut_s (s : L) (w : World) (hs : s.length ≤ 1000000) :
    Calls Try.prog 16 #[.string ⟨s.toArray⟩] w fun e w' => ∃ A cap, e = .returned (.slice A (cutV s).length cap) ∧ RdL w' A cap (cutV s) ∧ Stp w w' := by
  obtain ⟨n, hn⟩ : ∃ n, manyN s.length = n := ⟨_, rfl⟩
  have hmv : manyV (s.length : Int) = (n : Int) := by rw [manyV_nat, hn]
  have hn6 : n ≤ 2000 := by rw [← hn]; exact manyN_small (by omega)
  have hnl : ∀ k, k < n → 512 * k < s.length := by
    intro k hk
    rw [← hn] at hk
    unfold manyN at hk
    omega
  rw [cutV_length, cutV, hn]
  have Hmv := Lib.hid hmv
  have Hnl := Lib.hid hnl
  clear hn hmv hnl
  go_enter Try.func16, Try.ntmps16
  go_wp2_with fail
  go_loopw [3, 4] (fun v i wr => ∃ (k : Nat) (ys : List Handed), k ≤ n ∧ i = .int .i64 k ∧ ys.length = k ∧ Hid (ys.map (·.2) = blks k s) ∧ Hid (Gath w.heap.size w wr v ys))
    (fun _ i _ => n - (intOf i).toNat)
  case atStart => exact ⟨0, [], by omega, rfl, rfl, Lib.hid rfl, Lib.hid (Gath.start w)⟩
  case round =>
    obtain ⟨k, ys, hk, rfl, hyl, Hy, Hg⟩ := hrel
    by_cases hlt : k < n
    · have g5 : decide ((k : Int) < (n : Int)) = true := decide_eq_true (by omega)
      go_wp2_with (first
        | (go_at_call 22; refine (rmany_s _ _ (by omega) (by omega)).mono ?_; rintro e w1 ⟨rfl, hs1⟩; rw [Hmv.out]; have Hg0 := Lib.hid (Hg.out.step Hg.out.below.size hs1); clear hs1)
        | (at_make; refine wpList_make_blk _ rfl _ _ 31 rfl 5 (.int .u8 0) 1 Try.underlying31 byte_info rfl .i64 .i64 512 512 rfl rfl rfl (by omega) (by unfold maxLen; omega) ?_; intro w2 hb2 hs2 hg2; have Hs2 := Lib.hid (stp_of_grown hg2); have Hx := Lib.hid hb2; clear hb2 hs2 hg2))
      obtain ⟨rest, hrest⟩ : ∃ rest, s.drop (512 * k) = rest := ⟨_, rfl⟩
      have hrl : rest.length = s.length - 512 * k := by rw [← hrest, List.length_drop]
      have hn := Hnl.out k hlt
      have Hrest := Lib.hid hrest
      clear hrest Hg
      go_loopw [6] (fun i wi => ∃ j : Nat, j ≤ 512 ∧ j ≤ rest.length ∧ i = .int .i64 j ∧ Hid (Stp w1 wi) ∧ Hid (Blk wi w1.heap.size 5 (bs (part rest j)).toArray)) (fun i _ => 512 - (intOf i).toNat)
      case atStart => exact ⟨0, by omega, by omega, rfl, Hs2, Lib.hid (by rw [part_start, noughts_arr]; exact Hx.out)⟩
      case round =>
        obtain ⟨j, hj, hjr, rfl, Hs, Hb⟩ := hrel
        by_cases hin : j < 512 ∧ j < rest.length
        · obtain ⟨c, hc⟩ : ∃ c, rest[j]? = some c := ⟨_, List.getElem?_eq_getElem hin.2⟩
          have hc' : s[(512 * (k : Int) + (j : Int)).toNat]? = some c := by
            rw [← hc, ← Hrest.out, List.getElem?_drop]
            congr 1
          have ix := idx_l s (512 * (k : Int) + (j : Int)) c (by omega) hc'
          have g6 : decide ((j : Int) < 512) = true := decide_eq_true (by omega)
          have g7 : decide (512 * (k : Int) + (j : Int) < (s.length : Int)) = true := decide_eq_true (by omega)
          have hpl := part_length hj hjr
          obtain ⟨u, hcell⟩ : ∃ u : UInt8, wr.cell? ⟨w1.heap.size, j, none⟩ = some (.int .u8 (u.toNat : Int)) := by
            refine ⟨(part rest j)[j]'(by rw [hpl]; exact hin.1), ?_⟩
            rw [Hb.out.cell]
            simp [bs, hpl, hin.1]
          have hfree := Hb.out.free j
          have Hc := Lib.hid (part_set hin.1 hc)
          clear hc hc' hpl
          go_wp2_with fail
          go_roundw
          case rel =>
            refine ⟨j + 1, by omega, by omega, by go_num, Lib.hid (Below.setCell Hs.out (p := ⟨w1.heap.size, j, none⟩) (Nat.le_refl _) _), Lib.hid ?_⟩
            have h := Hb.out.put j (.int .u8 (c.toNat : Int))
            rw [← Hc.out, bs_set]
            simpa using h
          case measure => simp [intOf]; omega
        · have Hend := Lib.hid (part_end hin hj hjr)
          have key : decide ((j : Int) < 512) = false ∨ (decide ((j : Int) < 512) = true ∧ decide (512 * (k : Int) + (j : Int) < (s.length : Int)) = false) := by
            simp only [decide_eq_true_eq, decide_eq_false_iff_not]
            omega
          have Hg3 := Lib.hid (Hg0.out.step Hg0.out.below.size Hs.out)
          have Hh : Hid (Holds (w1.heap.size, blk rest) wr) := Lib.hid (by rw [← Hend.out]; exact Hb.out)
          clear hin Hb Hend Hg0 Hx Hs2
          rcases key with g6 | ⟨g6, g7⟩
          all_goals
            go_wp2_with (at_builtin; refine wpList_append_rd (P := Try.prog) _ rfl (.tmp 37) (.tmp 39) 22 rfl w.heap.size 31 (.slice none 0 0) 24 Try.underlying22 bytes_info rfl _ (ys.map val) rfl (Hg3.out.own.alloc _) _ _ [.slice (some ⟨w1.heap.size, 0, none⟩) 512 512] rfl (rd_lit _ _ _) (by simp [Value.oneCell']) (by simp only [List.length_cons, List.length_nil, List.length_map]; unfold maxLen; omega) (by simp only [List.length_cons, List.length_nil, List.length_map]; omega) (by have := Hg3.out.below.size; simp; omega) ?_; intro v1 w5 hv1 hg5 _; have Hg5 := Lib.hid (Hg3.out.more Hh.out Hg3.out.below.size hv1 hg5); clear hv1 hg5)
            refine ⟨⟨k + 1, _, by omega, by go_num, by simp [hyl], Lib.hid (by rw [List.map_append, Hy.out, List.map_singleton, blks_snoc, Hrest.out]), Hg5⟩, ?_⟩
            simp [intOf]
            omega
    · obtain rfl : k = n := by omega
      have g5 : decide ((k : Int) < (k : Int)) = false := decide_eq_false (by omega)
      go_wp2_with (go_at_call 22; refine (rmany_s _ _ (by omega) (by omega)).mono ?_; rintro e w1 ⟨rfl, hs1⟩; rw [Hmv.out]; have Hg0 := Lib.hid (Hg.out.step Hg.out.below.size hs1); clear hs1)
      go_ret
      obtain ⟨A, cap, rfl, hr⟩ := gathered_own Hg0.out.own Hg0.out.held Hy.out (fun b hb => blks_mem hb)
      exact ⟨A, cap, by rw [blks_length]; rfl, hr, Hg0.out.below⟩

set_option maxRecDepth 100000 in
set_option maxHeartbeats 2000000 in
theorem rtext_s (ls : List L) (n : Int) (A : Option Addr) (c : Nat) (w : World) (ha : RdL w A c ls) (hl : ls.length ≤ 1000000) (hn : n < 9223372036854775808) (hn' : -9223372036854775808 ≤ n) :
    Calls Try.prog 13 #[.slice A ls.length c, .int .i64 n] w fun e w' => e = .returned (.tuple #[.string ⟨(textV ls n).toArray⟩, .bool (textB ls n)]) ∧ Stp w w' := by
  have h0 := Stp.refl w
  cases hb : textB ls n
  · rw [textV_no hb]
    have key : mayV ls = false ∨ (mayV ls = true ∧ decide (n < 0) = true) ∨ (mayV ls = true ∧ decide (n < 0) = false ∧ (manyV n != (ls.length : Int)) = true) := by
      rw [Bool.eq_false_iff] at hb
      cases h1 : mayV ls
      · exact .inl rfl
      · by_cases h2 : n < 0
        · exact .inr (.inl ⟨rfl, decide_eq_true h2⟩)
        · refine .inr (.inr ⟨rfl, decide_eq_false h2, ?_⟩)
          rw [bne_iff_ne]
          exact fun h3 => hb (textB_iff.2 ⟨h1, by omega, h3⟩)
    clear hb
    rcases key with h1 | ⟨h1, h2⟩ | ⟨h1, h2, h3⟩
    all_goals
      have H1 := Lib.hid h1
      clear h1
      go_enter Try.func13, Try.ntmps13
      go_wp2_with (first
        | (go_at_call 19; refine (rmay_s ls _ _ _ ha (by omega)).mono ?_; rintro e w' ⟨rfl, hs⟩; replace h0 := Stp.trans h0 hs; clear hs; rw [H1.out])
        | (go_at_call 22; refine (rmany_s n _ hn hn').mono ?_; rintro e w' ⟨rfl, hs⟩; replace h0 := Stp.trans h0 hs; clear hs))
      go_ret2
      exact ⟨rfl, h0⟩
  · have hle := textB_le hb
    have e : textV ls n = ls.flatten.take n.toNat := by rw [textV, if_pos hb]
    obtain ⟨h1, h2, h3⟩ := textB_iff.1 hb
    rw [e]
    obtain ⟨m, rfl⟩ := Int.eq_ofNat_of_zero_le h2
    rw [Int.toNat_natCast] at hle ⊢
    have g := show (manyV (m : Int) != (ls.length : Int)) = false by simp [h3]
    have g0 : decide ((m : Int) < 0) = false := decide_eq_false (by omega)
    have hfl : ls.flatten.length ≤ 512000000 := by rw [may_flatten h1]; omega
    have H1 := Lib.hid h1
    clear h1 h3 hb e
    go_enter Try.func13, Try.ntmps13
    go_wp2_with (first
      | (go_at_call 19; refine (rmay_s ls _ _ _ ha (by omega)).mono ?_; rintro e w' ⟨rfl, hs⟩; replace h0 := Stp.trans h0 hs; clear hs; rw [H1.out])
      | (go_at_call 22; refine (rmany_s _ _ hn hn').mono ?_; rintro e w' ⟨rfl, hs⟩; replace h0 := Stp.trans h0 hs; clear hs))
    obtain ⟨q, hq⟩ : ∃ q : World, q = w' := ⟨_, rfl⟩
    rw [← hq] at h0 ⊢
    clear hq
    go_loopw [7, 8] (fun v i wr => ∃ k : Nat, k ≤ ls.length ∧ i = .int .i64 k ∧ Hid (Base.Own wr q.heap.size 5 v (bs (ls.take k).flatten)) ∧ Hid (k = 0 → v = .slice none 0 0) ∧ Hid (Stp q wr)) (fun _ i _ => ls.length - (intOf i).toNat)
    case atStart => exact ⟨0, by omega, rfl, Lib.hid (by simpa [bs] using Base.Own.nil q q.heap.size 5), Lib.hid (fun _ => rfl), Lib.hid (Stp.refl q)⟩
    case round =>
      obtain ⟨k, hk, rfl, Hv, Hnil, Hs⟩ := hrel
      have hsq := Hid.out Hs
      by_cases hlt : k < ls.length
      · obtain ⟨l, hl1⟩ : ∃ l, ls[k]? = some l := ⟨_, List.getElem?_eq_getElem hlt⟩
        have hlen : l.length = 512 := mayV_iff.1 H1.out l (List.mem_of_getElem? hl1)
        have hle2 := flatten_le H1.out k
        obtain ⟨b, o, A1, c1, rfl, ca, ra⟩ := (ha.keep (Stp.trans h0 Hs.out)).at_ hl1
        have Hra : Hid (Rd wr wr.heap.size (.slice A1 l.length c1) (bs l)) := Lib.hid (by
          have h := ra
          unfold RdA at h
          rwa [bs_length] at h)
        have Hl1 := Lib.hid (flatten_step hl1)
        have HA := Lib.hid (show (bs (ls.take k).flatten).length + (bs l).length ≤ 1000000000 by rw [bs_length, bs_length]; omega)
        clear hl1 ra hle2 hlen hsq
        go_wp2_with (at_builtin; refine wpList_append_rd (P := Try.prog) _ rfl (.tmp 30) (.tmp 34) 31 rfl q.heap.size 5 (.int .u8 0) 1 Try.underlying31 byte_info rfl _ (bs (ls.take k).flatten) rfl Hv.out _ _ (bs l) rfl Hra.out (bs_one l) (by have := HA.out; unfold maxLen; omega) (by have := HA.out; omega) Hs.out.size ?_; intro v1 w5 hv1 hg5 _; have Hv5 : Hid (Base.Own w5 q.heap.size 5 v1 (bs (ls.take (k + 1)).flatten)) := Lib.hid (by rw [Hl1.out, bs_append]; exact hv1); have Hs5 : Hid (Stp q w5) := Lib.hid (Below.grown Hs.out hg5 Hs.out.size (fun j hj => (Hv.out.lt j hj).1)); clear hv1 hg5)
        go_roundw
        case rel => exact ⟨k + 1, by omega, by go_num, Hv5, Lib.hid (fun h => by omega), Hs5⟩
        case measure => simp [intOf]; omega
      · obtain rfl : k = ls.length := by omega
        have hv := Hv.out
        rw [List.take_length] at hv
        by_cases hz : ls.length = 0
        · obtain rfl := Hnil.out hz
          have hls : ls = [] := List.eq_nil_of_length_eq_zero hz
          subst hls
          obtain rfl : m = 0 := by simpa using hle
          have hcv : (convert 31 9 (.slice none 0 0)).run Try.prog wr = .ok (.string ⟨#[]⟩) wr := str_rd (l := []) (RdA.nil wr)
          have Hs2 := Lib.hid (Stp.trans h0 Hs.out)
          clear Hs hsq h0 Hv Hnil hv g g0 hle hn hn' h2 hfl
          go_wp2_with fail
          go_ret2
          exact ⟨rfl, Hs2.out⟩
        · have hne : bs ls.flatten ≠ [] := by
            intro h
            have h' := congrArg List.length h
            rw [bs_length, may_flatten H1.out] at h'
            simp only [List.length_nil] at h'
            omega
          have hrd := hv.rd
          obtain ⟨gb, cap, rfl, _, _⟩ := hv.form hne
          rw [bs_length] at hrd
          have hcap : ls.flatten.length ≤ cap := by
            obtain ⟨A', cap', e, h1, _⟩ := hrd
            rw [bs_length] at h1
            simp only [Value.slice.injEq] at e
            omega
          have htl : (ls.flatten.take m).length = m := by rw [List.length_take]; omega
          have hra : RdA wr (some ⟨gb, 0, none⟩) cap (bs (ls.flatten.take m)) := by
            have h : RdA wr (some ⟨gb, 0, none⟩) cap (bs ls.flatten) := by
              unfold RdA
              rw [bs_length]
              exact hrd
            have h2 := h.take m
            rwa [bs, ← List.map_take] at h2
          have hcv := str_rd hra
          rw [htl] at hcv
          have hmc : m ≤ cap := by omega
          have Hs2 := Lib.hid (Stp.trans h0 Hs.out)
          rw [bs_length]
          obtain ⟨t, ht⟩ : ∃ t : L, ls.flatten.take m = t := ⟨_, rfl⟩
          obtain ⟨N, hN⟩ : ∃ N, ls.flatten.length = N := ⟨_, rfl⟩
          rw [hN]
          rw [ht] at hcv
          have Ht := Lib.hid ht
          clear Hs hsq h0 Hv Hnil hv hrd hra hne ht htl
          go_wp2_with fail
          go_ret2
          exact ⟨by rw [Ht.out]; rfl, Hs2.out⟩
end Go.Proofs.Ytfjkikodljdbeaa.Block
