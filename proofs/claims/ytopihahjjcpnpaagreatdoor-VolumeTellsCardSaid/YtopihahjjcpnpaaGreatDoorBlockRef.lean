/-
  Contracts of the document's answers for blocks (package reelkeeperref03): May, Zero, Many, Same, Zeros, Cut, Text: no statement is proved here.
  Contracts of the document's answers for blocks (package reelkeeperref03): Zeros, Cut, Text: no statement is proved here.
-/
import Derived.Test.YtopihahjjcpnpaaGreatDoorBlockK
namespace Go.Proofs.YtopihahjjcpnpaaGreatDoor.Block
open Go.RowKit Go.Shelf Go.Proofs.YtopihahjjcpnpaaGreatDoor.Base Go.Proofs.YtopihahjjcpnpaaGreatDoor.BlockM Go.Proofs.YtopihahjjcpnpaaGreatDoor.Str

set_option maxRecDepth 100000 in
theorem rmany_s (n : Int) (w : World) (hn : n < 9223372036854775808) (hn' : -9223372036854775808 ≤ n) :
    Calls Tryz.prog 117 #[.int .i64 n] w fun e w' => e = .returned (.int .i64 (manyV n)) ∧ Stp w w' := by
  have h0 := Stp.refl w
  by_cases h1 : n < 1
  · rw [manyV_neg h1]
    go_enter Tryz.func117, Tryz.ntmps117
    go_wp2_with fail
    go_ret
    exact ⟨rfl, h0⟩
  · by_cases h2 : n % 512 = 0
    · have e : manyV n = n / 512 := by simp [manyV, h1]; omega
      have g : decide (0 < n % 512) = false := decide_eq_false (by omega)
      rw [e]
      clear e
      go_enter Tryz.func117, Tryz.ntmps117
      go_wp2_with fail
      go_ret
      exact ⟨rfl, h0⟩
    · have e : manyV n = n / 512 + 1 := by simp [manyV, h1]; omega
      have g : decide (0 < n % 512) = true := decide_eq_true (by omega)
      rw [e]
      clear e
      go_enter Tryz.func117, Tryz.ntmps117
      go_wp2_with fail
      go_ret
      exact ⟨rfl, h0⟩

set_option maxRecDepth 100000 in
set_option maxHeartbeats 1000000 in
theorem rsame_s (ls ms : List L) (A B : Option Addr) (c d : Nat) (w : World) (ha : RdL w A c ls) (hb : RdL w B d ms) (hl : ls.length < 9223372036854775808) (hm : ms.length < 9223372036854775808) :
    Calls Tryz.prog 19 #[.slice A ls.length c, .slice B ms.length d] w fun e w' => e = .returned (.bool (ls == ms)) ∧ Stp w w' := by
  have h0 := Stp.refl w
  by_cases hlen : ls.length = ms.length
  · have g0 : ((ls.length : Int) != (ms.length : Int)) = false := by simp [hlen]
    rw [← hlen]
    rw [← hlen] at g0
    obtain ⟨r, hr⟩ : ∃ r, (ls == ms) = r := ⟨_, rfl⟩
    rw [hr]
    have Hr := Lib.hid hr
    have Hlen := Lib.hid hlen
    clear hr hlen
    go_enter Tryz.func19, Tryz.ntmps19
    go_wp2_with fail
    go_loopw [5] (fun i wr => ∃ k : Nat, k ≤ ls.length ∧ i = .int .i64 k ∧ Stp w wr ∧ Hid (ls.take k = ms.take k)) (fun i _ => ls.length - (intOf i).toNat)
    case atStart => exact ⟨0, by omega, rfl, Stp.refl w, Lib.hid (by simp)⟩
    case round =>
      obtain ⟨k, hk, rfl, h0, Hk⟩ := hrel
      by_cases hlt : k < ls.length
      · obtain ⟨l, hl1⟩ : ∃ l, ls[k]? = some l := ⟨_, List.getElem?_eq_getElem hlt⟩
        obtain ⟨m, hm1⟩ : ∃ m, ms[k]? = some m := ⟨_, List.getElem?_eq_getElem (by rw [← Hlen.out]; exact hlt)⟩
        obtain ⟨b, o, A1, c1, rfl, ca, ra⟩ := (ha.keep h0).at_ hl1
        obtain ⟨b', o', B1, d1, rfl, cb, rb⟩ := (hb.keep h0).at_ hm1
        have hd : Stp wr wr.drew := Below.drew (Below.refl _ wr)
        have cv1 := str_rd (ra.keep hd)
        have cv2 := str_rd (rb.keep hd)
        have h1 := Stp.trans h0 hd
        clear hd
        have Hs := Lib.hid (take_succ_eq hl1 hm1 Hk.out)
        clear hl1 hm1 ra rb
        have i0 : (0 : Int) ≤ (k : Int) := by omega
        have i1 : (k : Int) < (ls.length : Int) := by omega
        cases he : (l == m)
        · have He := Lib.hid he
          have e : r = false := by
            rw [← Hr.out, beq_eq_false_iff_ne]
            rintro rfl
            have h := Hs.out.1 rfl
            have h2 := He.out
            rw [h] at h2
            simp at h2
          have E := Lib.hid e
          clear e
          go_wp2_with fail
          go_region
          all_goals go_wp2_with fail
          all_goals go_ret
          all_goals exact ⟨by rw [E.out]; rfl, h1⟩
        · have He := Lib.hid he
          go_wp2_with fail
          go_region
          all_goals go_wp2_with fail
          all_goals go_roundw
          all_goals first
            | exact ⟨k + 1, by omega, by go_num, h1, Lib.hid (Hs.out.2 (by simpa using He.out))⟩
            | (simp [intOf]; omega)
      · obtain rfl : k = ls.length := by omega
        go_wp2_with fail
        go_ret
        refine ⟨?_, h0⟩
        have e : r = true := by
          have h := Hk.out
          rw [List.take_length, Hlen.out, List.take_length] at h
          rw [← Hr.out, h]
          simp
        rw [e]
        rfl
  · have g0 : ((ls.length : Int) != (ms.length : Int)) = true := by simp; omega
    have e : (ls == ms) = false := by
      rw [beq_eq_false_iff_ne]
      rintro rfl
      exact hlen rfl
    rw [e]
    clear e
    go_enter Tryz.func19, Tryz.ntmps19
    go_wp2_with fail
    go_ret
    exact ⟨rfl, h0⟩
end Go.Proofs.YtopihahjjcpnpaaGreatDoor.Block

namespace Go.Proofs.YtopihahjjcpnpaaGreatDoor.Block
open Go.RowKit Go.Shelf Go.Proofs.YtopihahjjcpnpaaGreatDoor.Base Go.Proofs.YtopihahjjcpnpaaGreatDoor.BlockM Go.Proofs.YtopihahjjcpnpaaGreatDoor.Str

/-- A row of the call's own that holds slices of blocks. -/
theorem blk_not_own {W : World} {g lo : Nat} {t e : TypeId} {cs : Array Value} {v : Value} {xs : List Value} (h : Blk W g t cs) (hte : t ≠ e) (hv : Base.Own W lo e v xs) : some g ≠ v.ownBlock := by
  rcases hv with ⟨rfl, _⟩ | ⟨g', cap, cur, fz, rfl, _, hg, _⟩
  · simp [Value.ownBlock]
  · simp only [Value.ownBlock]
    intro e'
    cases e'
    unfold Blk at h
    rw [hg] at h
    cases h
    exact hte rfl
theorem gathered_own {W : World} {lo : Nat} {v : Value} {ys : List Handed} {bl : List L} (hr : Base.Own W lo 43 v (ys.map val)) (hh : ∀ x ∈ ys, Holds x W) (he : ys.map (·.2) = bl) (h5 : ∀ b ∈ bl, b.length = 512) :
    ∃ A cap, v = .slice A bl.length cap ∧ RdL W A cap bl := by
  obtain ⟨A, cap, h1, h2⟩ := gathered hr.rd hh he h5
  exact ⟨A, cap, h1, h2.rdL⟩

/-- What is gathered so far. -/
structure Gath (lo : Nat) (w wr : World) (v : Value) (ys : List Handed) : Prop where
  own : Base.Own wr lo 43 v (ys.map val)
  held : ∀ x ∈ ys, Holds x wr
  below : Below lo w wr
theorem Gath.start (w : World) : Gath w.heap.size w w (.slice none 0 0) [] := ⟨Base.Own.nil _ _ _, by simp, Below.refl _ _⟩
/-- New memory is laid. -/
theorem Gath.grown {lo : Nat} {w wr w1 : World} {v : Value} {ys : List Handed} (h : Gath lo w wr v ys) (hlo : lo ≤ wr.heap.size) (hg : wr.grownBy w1 none) : Gath lo w w1 v ys :=
  ⟨h.own.grown hg (by simp; cases hv : v.ownBlock <;> simp), fun x hx => Blk.grown (h.held x hx) hg (by simp), h.below.grown hg hlo (by simp)⟩
/-- Nothing that was there is written. -/
theorem Gath.step {lo : Nat} {w wr w1 : World} {v : Value} {ys : List Handed} (h : Gath lo w wr v ys) (hlo : lo ≤ wr.heap.size) (hs : Stp wr w1) : Gath lo w w1 v ys :=
  ⟨h.own.keep hs, fun x hx => Blk.keep (h.held x hx) hs (Blk.lt (h.held x hx)), h.below.trans (Below.mono hs hlo)⟩
/-- One more is gathered: append of a literal of one slice. -/
theorem Gath.more {lo : Nat} {w wr w1 : World} {v v1 : Value} {ys : List Handed} {x : Handed} {o : Obj} (h : Gath lo w wr v ys) (hx : Holds x wr) (hlo : lo ≤ wr.heap.size)
    (hv : Base.Own w1 lo 43 v1 (ys.map val ++ [.slice (some ⟨x.1, 0, none⟩) 512 512])) (hg : (wr.alloc o).grownBy w1 v.ownBlock) : Gath lo w w1 v1 (ys ++ [x]) := by
  refine ⟨by rw [List.map_append]; exact hv, fun y hy => ?_, (h.below.alloc hlo o).grown hg (by simp; omega) (fun j hj => (h.own.lt j hj).1)⟩
  have hy' : Holds y wr := by
    rcases List.mem_append.1 hy with h' | h'
    · exact h.held y h'
    · rw [List.mem_singleton.1 h']
      exact hx
  exact Blk.grown (Blk.alloc hy' o) hg (blk_not_own hy' (by decide) h.own)

theorem noughts_arr (k : Nat) : (bs (noughts k)).toArray = Array.replicate k (Value.int .u8 0) := by simp [noughts, bs]
theorem replicate_snoc_eq {k : Nat} : List.replicate k (noughts 512) ++ [noughts 512] = List.replicate (k + 1) (noughts 512) := by rw [List.replicate_succ']

set_option maxRecDepth 100000 in
set_option maxHeartbeats 1000000 in
theorem rzeros_s (n : Int) (w : World) (hn : n < 9223372036854775808) :
    Calls Tryz.prog 65 #[.int .i64 n] w fun e w' => ∃ A cap, e = .returned (.slice A (zerosV n).length cap) ∧ RdL w' A cap (zerosV n) ∧ Stp w w' := by
  have h0 := Stp.refl w
  by_cases hin : 1 ≤ n ∧ n ≤ 400
  · rw [zerosV_yes hin, blks_length]
    obtain ⟨m, rfl⟩ := Int.eq_ofNat_of_zero_le (show 0 ≤ n by omega)
    rw [Int.toNat_natCast, blks_nil]
    have g4 : decide ((m : Int) ≤ 400) = true := decide_eq_true (by omega)
    have hm : m ≤ 400 := by omega
    clear hin
    go_enter Tryz.func65, Tryz.ntmps65
    go_wp2_with fail
    go_loopw [3, 4] (fun v i wr => ∃ (k : Nat) (ys : List Handed), k ≤ m ∧ i = .int .i64 k ∧ ys.length = k ∧ Hid (ys.map (·.2) = List.replicate k (noughts 512)) ∧ Hid (Gath w.heap.size w wr v ys))
      (fun _ i _ => m - (intOf i).toNat)
    case atStart => exact ⟨0, [], by omega, rfl, rfl, Lib.hid rfl, Lib.hid (Gath.start w)⟩
    case round =>
      obtain ⟨k, ys, hk, rfl, hyl, Hy, Hg⟩ := hrel
      have hlo := Hg.out.below.size
      by_cases hlt : k < m
      · have g5 : decide ((k : Int) < (m : Int)) = true := decide_eq_true (by omega)
        go_wp2_with (first
          | (at_make; refine wpList_make_blk _ rfl _ _ 43 rfl 5 (.int .u8 0) 1 Tryz.underlying43 byte_info rfl .i64 .i64 512 512 rfl rfl rfl (by omega) (by unfold maxLen; omega) ?_; intro w1 hb1 hs1 hg1; have Hg1 := Lib.hid (Hg.out.grown hlo hg1); have Hx := Lib.hid hb1; clear hb1 hs1 hg1)
          | (at_builtin; refine wpList_append_rd (P := Tryz.prog) _ rfl (.tmp 14) (.tmp 16) 33 rfl w.heap.size 43 (.slice none 0 0) 24 Tryz.underlying33 bytes_info rfl _ (ys.map val) rfl (Hg1.out.own.alloc _) _ _ [.slice (some ⟨wr.heap.size, 0, none⟩) 512 512] rfl (rd_lit _ _ _) (by simp [Value.oneCell']) ?h1 ?h2 ?h3 ?_))
        case h1 => simp only [List.length_cons, List.length_nil, List.length_map]; unfold maxLen; omega
        case h2 => simp only [List.length_cons, List.length_nil, List.length_map]; omega
        case h3 => have := Hg1.out.below.size; simp; omega
        intro v1 w2 hv1 hg2 _
        have Hg2 : Hid (Gath w.heap.size w w2 v1 (ys ++ [(wr.heap.size, noughts 512)])) := Lib.hid (Hg1.out.more (x := (wr.heap.size, noughts 512)) (by
          have h := Hx.out
          unfold Holds
          rw [noughts_arr]
          exact h) Hg1.out.below.size hv1 hg2)
        clear hv1 hg2 Hg Hg1 Hx
        go_wp2_with fail
        go_roundw
        case rel => exact ⟨k + 1, _, by omega, by go_num, by simp [hyl], Lib.hid (by rw [List.map_append, Hy.out, List.map_singleton, replicate_snoc_eq]), Hg2⟩
        case measure => simp [intOf]; omega
      · obtain rfl : k = m := by omega
        have g5 : decide ((k : Int) < (k : Int)) = false := decide_eq_false (by omega)
        go_wp2_with fail
        go_ret
        obtain ⟨A, cap, rfl, hr⟩ := gathered_own Hg.out.own Hg.out.held Hy.out (fun b hb => by rw [List.eq_of_mem_replicate hb, noughts_length])
        exact ⟨A, cap, by rw [List.length_replicate]; rfl, hr, Hg.out.below⟩
  · rw [zerosV_no hin]
    have key : decide (0 < n) = false ∨ (decide (0 < n) = true ∧ decide (n ≤ 400) = false) := by
      simp only [decide_eq_true_eq, decide_eq_false_iff_not]
      omega
    clear hin
    rcases key with g1 | ⟨g1, g2⟩
    all_goals
      go_enter Tryz.func65, Tryz.ntmps65
      go_wp2_with fail
      go_loopw [3, 4] (fun v i wr => v = .slice none 0 0 ∧ i = .int .i64 0 ∧ wr = w) (fun _ _ _ => 0)
      case atStart => exact ⟨rfl, rfl, rfl⟩
      case round =>
        obtain ⟨rfl, rfl, rfl⟩ := hrel
        go_wp2_with fail
        go_ret
        exact ⟨none, 0, rfl, RdL.nil _, h0⟩

/-- The first j bytes of a block are there. -/
def part (r : L) (j : Nat) : L := r.take j ++ noughts (512 - j)
theorem part_start (r : L) : part r 0 = noughts 512 := rfl
theorem part_length {r : L} {j : Nat} (h1 : j ≤ 512) (h2 : j ≤ r.length) : (part r j).length = 512 := by rw [part, List.length_append, List.length_take, noughts_length]; omega
theorem part_set {r : L} {j : Nat} {c : UInt8} (h1 : j < 512) (hc : r[j]? = some c) : (part r j).set j c = part r (j + 1) := by
  have hj : j < r.length := (List.getElem?_eq_some_iff.1 hc).1
  obtain ⟨q, hq⟩ : ∃ q, 512 - j = q + 1 := ⟨511 - j, by omega⟩
  rw [part, part, hq, noughts, List.replicate_succ, List.set_append_right _ _ (by rw [List.length_take]; omega), List.length_take, Nat.min_eq_left (by omega), Nat.sub_self, List.set_cons_zero, List.take_add_one, hc,
    show 512 - (j + 1) = q by omega]
  simp [noughts]
theorem part_end {r : L} {j : Nat} (h : ¬ (j < 512 ∧ j < r.length)) (h1 : j ≤ 512) (h2 : j ≤ r.length) : part r j = blk r := by
  rw [part, blk]
  by_cases hj : j = 512
  · subst hj
    rw [show 512 - r.length = 0 by omega]
  · rw [List.take_of_length_le (by omega), List.take_of_length_le (by omega), show j = r.length by omega]

set_option maxRecDepth 100000 in
set_option maxHeartbeats 2000000 in
theorem rcut_s (s : L) (w : World) (hs : s.length ≤ 1000000) :
    Calls Tryz.prog 101 #[.string ⟨s.toArray⟩] w fun e w' => ∃ A cap, e = .returned (.slice A (cutV s).length cap) ∧ RdL w' A cap (cutV s) ∧ Stp w w' := by
  obtain ⟨n, hn⟩ : ∃ n, manyN s.length = n := ⟨_, rfl⟩
  have hmv : manyV (s.length : Int) = (n : Int) := by rw [manyV_nat, hn]
  have hn6 : n ≤ 2000 := by rw [← hn]; exact manyN_small (by omega)
  have hnl : ∀ k, k < n → 512 * k < s.length := by
    intro k hk
    rw [← hn] at hk
    unfold manyN at hk
    omega
  rw [cutV_length, cutV, hn]
  have Hmv := Lib.hid hmv
  have Hnl := Lib.hid hnl
  clear hn hmv hnl
  go_enter Tryz.func101, Tryz.ntmps101
  go_wp2_with fail
  go_loopw [3, 4] (fun v i wr => ∃ (k : Nat) (ys : List Handed), k ≤ n ∧ i = .int .i64 k ∧ ys.length = k ∧ Hid (ys.map (·.2) = blks k s) ∧ Hid (Gath w.heap.size w wr v ys))
    (fun _ i _ => n - (intOf i).toNat)
  case atStart => exact ⟨0, [], by omega, rfl, rfl, Lib.hid rfl, Lib.hid (Gath.start w)⟩
  case round =>
    obtain ⟨k, ys, hk, rfl, hyl, Hy, Hg⟩ := hrel
    by_cases hlt : k < n
    · have g5 : decide ((k : Int) < (n : Int)) = true := decide_eq_true (by omega)
      go_wp2_with (first
        | (go_at_call 117; refine (rmany_s _ _ (by omega) (by omega)).mono ?_; rintro e w1 ⟨rfl, hs1⟩; rw [Hmv.out]; have Hg0 := Lib.hid (Hg.out.step Hg.out.below.size hs1); clear hs1)
        | (at_make; refine wpList_make_blk _ rfl _ _ 43 rfl 5 (.int .u8 0) 1 Tryz.underlying43 byte_info rfl .i64 .i64 512 512 rfl rfl rfl (by omega) (by unfold maxLen; omega) ?_; intro w2 hb2 hs2 hg2; have Hs2 := Lib.hid (stp_of_grown hg2); have Hx := Lib.hid hb2; clear hb2 hs2 hg2))
      obtain ⟨rest, hrest⟩ : ∃ rest, s.drop (512 * k) = rest := ⟨_, rfl⟩
      have hrl : rest.length = s.length - 512 * k := by rw [← hrest, List.length_drop]
      have hn := Hnl.out k hlt
      have Hrest := Lib.hid hrest
      clear hrest Hg
      go_loopw [6] (fun i wi => ∃ j : Nat, j ≤ 512 ∧ j ≤ rest.length ∧ i = .int .i64 j ∧ Hid (Stp w1 wi) ∧ Hid (Blk wi w1.heap.size 5 (bs (part rest j)).toArray)) (fun i _ => 512 - (intOf i).toNat)
      case atStart => exact ⟨0, by omega, by omega, rfl, Hs2, Lib.hid (by rw [part_start, noughts_arr]; exact Hx.out)⟩
      case round =>
        obtain ⟨j, hj, hjr, rfl, Hs, Hb⟩ := hrel
        by_cases hin : j < 512 ∧ j < rest.length
        · obtain ⟨c, hc⟩ : ∃ c, rest[j]? = some c := ⟨_, List.getElem?_eq_getElem hin.2⟩
          have hc' : s[(512 * (k : Int) + (j : Int)).toNat]? = some c := by
            rw [← hc, ← Hrest.out, List.getElem?_drop]
            congr 1
          have ix := idx_l s (512 * (k : Int) + (j : Int)) c (by omega) hc'
          have g6 : decide ((j : Int) < 512) = true := decide_eq_true (by omega)
          have g7 : decide (512 * (k : Int) + (j : Int) < (s.length : Int)) = true := decide_eq_true (by omega)
          have hpl := part_length hj hjr
          obtain ⟨u, hcell⟩ : ∃ u : UInt8, wr.cell? ⟨w1.heap.size, j, none⟩ = some (.int .u8 (u.toNat : Int)) := by
            refine ⟨(part rest j)[j]'(by rw [hpl]; exact hin.1), ?_⟩
            rw [Hb.out.cell]
            simp [bs, hpl, hin.1]
          have hfree := Hb.out.free j
          have Hc := Lib.hid (part_set hin.1 hc)
          clear hc hc' hpl
          go_wp2_with fail
          go_roundw
          case rel =>
            refine ⟨j + 1, by omega, by omega, by go_num, Lib.hid (Below.setCell Hs.out (p := ⟨w1.heap.size, j, none⟩) (Nat.le_refl _) _), Lib.hid ?_⟩
            have h := Hb.out.put j (.int .u8 (c.toNat : Int))
            rw [← Hc.out, bs_set]
            simpa using h
          case measure => simp [intOf]; omega
        · have Hend := Lib.hid (part_end hin hj hjr)
          have key : decide ((j : Int) < 512) = false ∨ (decide ((j : Int) < 512) = true ∧ decide (512 * (k : Int) + (j : Int) < (s.length : Int)) = false) := by
            simp only [decide_eq_true_eq, decide_eq_false_iff_not]
            omega
          have Hg3 := Lib.hid (Hg0.out.step Hg0.out.below.size Hs.out)
          have Hh : Hid (Holds (w1.heap.size, blk rest) wr) := Lib.hid (by rw [← Hend.out]; exact Hb.out)
          clear hin Hb Hend Hg0 Hx Hs2
          rcases key with g6 | ⟨g6, g7⟩
          all_goals
            go_wp2_with (at_builtin; refine wpList_append_rd (P := Tryz.prog) _ rfl (.tmp 37) (.tmp 39) 33 rfl w.heap.size 43 (.slice none 0 0) 24 Tryz.underlying33 bytes_info rfl _ (ys.map val) rfl (Hg3.out.own.alloc _) _ _ [.slice (some ⟨w1.heap.size, 0, none⟩) 512 512] rfl (rd_lit _ _ _) (by simp [Value.oneCell']) (by simp only [List.length_cons, List.length_nil, List.length_map]; unfold maxLen; omega) (by simp only [List.length_cons, List.length_nil, List.length_map]; omega) (by have := Hg3.out.below.size; simp; omega) ?_; intro v1 w5 hv1 hg5 _; have Hg5 := Lib.hid (Hg3.out.more Hh.out Hg3.out.below.size hv1 hg5); clear hv1 hg5)
            refine ⟨⟨k + 1, _, by omega, by go_num, by simp [hyl], Lib.hid (by rw [List.map_append, Hy.out, List.map_singleton, blks_snoc, Hrest.out]), Hg5⟩, ?_⟩
            simp [intOf]
            omega
    · obtain rfl : k = n := by omega
      have g5 : decide ((k : Int) < (k : Int)) = false := decide_eq_false (by omega)
      go_wp2_with (go_at_call 117; refine (rmany_s _ _ (by omega) (by omega)).mono ?_; rintro e w1 ⟨rfl, hs1⟩; rw [Hmv.out]; have Hg0 := Lib.hid (Hg.out.step Hg.out.below.size hs1); clear hs1)
      go_ret
      obtain ⟨A, cap, rfl, hr⟩ := gathered_own Hg0.out.own Hg0.out.held Hy.out (fun b hb => blks_mem hb)
      exact ⟨A, cap, by rw [blks_length]; rfl, hr, Hg0.out.below⟩

end Go.Proofs.YtopihahjjcpnpaaGreatDoor.Block

