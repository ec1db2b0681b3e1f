/-
  The document's own answers for package head: word, fits, lay, number, sign, upto; no statement is proved here.
-/
import Derived.Test.YtihigbaaajmjlaaHeadHlp
import Derived.Test.YtihigbaaajmjlaaHeadAwake
namespace Go.Proofs.Ytihigbaaajmjlaa.Head
open Go.RowKit Go.Proofs.Ytihigbaaajmjlaa.Base Go.Proofs.Ytihigbaaajmjlaa.NumM Go.Proofs.Ytihigbaaajmjlaa.Num

set_option maxHeartbeats 1600000 in
set_option maxRecDepth 100000 in
theorem rword_s (s : L) (m : Nat) (hs : s.length ≤ 9223372036854775807) (w : World) :
    Calls Try.prog 95 #[.string ⟨s.toArray⟩, .int .i64 (m : Int)] w fun e w' => e = .returned (.bool (okT s m)) ∧ Stp w w' := by
  obtain ⟨r, hr⟩ : ∃ r, okT s m = r := ⟨_, rfl⟩
  rw [hr]
  have Hr := Lib.hid hr
  clear hr
  go_enter Try.func95, Try.ntmps95
  go_wp2_with fail
  go_loopw [5] (fun i wr => ∃ k : Nat, k ≤ s.length ∧ i = .int .i64 k ∧ Stp w wr ∧ Hid ((0 : UInt8) ∉ s.take k)) (fun i _ => s.length - (intOf i).toNat)
  case atStart => exact ⟨0, by omega, rfl, Stp.refl w, Lib.hid (by simp)⟩
  case round =>
    obtain ⟨k, hk, rfl, h0, Hk⟩ := hrel
    by_cases hlt : k < s.length
    · obtain ⟨x, hl1⟩ : ∃ x, s[k]? = some x := ⟨_, List.getElem?_eq_getElem hlt⟩
      have ci := Str.idx_l s (k : Int) x (by omega) (by simpa using hl1)
      have Hl1 := Lib.hid hl1
      clear hl1
      by_cases h5 : x = 0
      · have g : ((x.toNat : Int) == 0) = true := by simp [h5]
        have Hm := Lib.hid (show (0 : UInt8) ∈ s by rw [← h5]; exact List.mem_of_getElem? Hl1.out)
        clear h5
        go_wp2_with fail
        go_ret
        refine ⟨?_, h0⟩
        rw [← Hr.out, okT_mem Hm.out]
        rfl
      · have g : ((x.toNat : Int) == 0) = false := by
          rw [beq_eq_false_iff_ne]
          intro h
          exact h5 (UInt8.toNat_inj.1 (by show x.toNat = 0; omega))
        have R := Lib.hid (show (0 : UInt8) ∉ s.take (k + 1) by
          rw [List.take_add_one, Hl1.out]
          intro h
          rcases List.mem_append.1 h with h | h
          · exact Hk.out h
          · simp at h; exact h5 h.symm)
        clear h5
        go_wp2_with fail
        go_roundw
        case rel => exact ⟨k + 1, by omega, by go_num, h0, R⟩
        case measure => simp [intOf]; omega
    · obtain rfl : k = s.length := by omega
      have hk2 := Hk.out
      rw [List.take_length] at hk2
      have Hk2 := Lib.hid hk2
      clear hk2 Hk
      go_wp2_with fail
      all_goals go_ret
      all_goals refine ⟨congrArg (fun b => Ending.returned (.bool b)) ?_, h0⟩
      all_goals (rw [← Hr.out]; unfold okT; have := Hk2.out; simp [*])

set_option maxHeartbeats 1600000 in
set_option maxRecDepth 100000 in
theorem rfits_s (n wd : Int) (hn : n < 9223372036854775808) (w : World) :
    Calls Try.prog 96 #[.int .i64 n, .int .i64 wd] w fun e w' => e = .returned (.bool (putOk n wd)) ∧ Stp w w' := by
  have h0 := Stp.refl w
  obtain ⟨r, hr⟩ : ∃ r, putOk n wd = r := ⟨_, rfl⟩
  rw [hr]
  have Hr := Lib.hid hr
  clear hr
  go_enter Try.func96, Try.ntmps96
  go_wp2_with (go_at_call 97; refine (rput_all n wd _ hn).mono ?_; rintro e w1 ⟨v, rfl, h3, h4⟩; rw [Hr.out]; have H1 := Lib.hid (Stp.trans h0 h4); clear h3 h4)
  go_ret
  exact ⟨rfl, H1.out⟩

theorem lay_take {b x : L} {k j : Nat} {c : UInt8} (hl : b.length = 512) (hx : k + x.length ≤ 512) (hc : x[j]? = some c) : lay b k (x.take (j + 1)) = (lay b k (x.take j)).set (k + j) c := by
  obtain ⟨hj, hcx⟩ := List.getElem?_eq_some_iff.1 hc
  unfold lay
  rw [List.length_take, List.length_take, Nat.min_eq_left (by omega), Nat.min_eq_left (by omega), List.take_add_one, hc]
  have hA : (b.take k ++ x.take j).length = k + j := by rw [List.length_append, List.length_take, List.length_take]; omega
  have hd : b.drop (k + j) = b[k + j]'(by omega) :: b.drop (k + j + 1) := List.drop_eq_getElem_cons (by omega)
  rw [List.set_append_right _ _ (by omega), hA, Nat.sub_self, hd, List.set_cons_zero]
  simp [List.append_assoc, Nat.add_assoc]
theorem lay_full (b x : L) (k : Nat) : lay b k (x.take x.length) = lay b k x := by rw [List.take_length]
theorem lay_zero (b : L) (k : Nat) : lay b k [] = b := by simp [lay]
theorem cell_grownR {w w1 : World} {a : Addr} {v : Value} {r : Option Nat} (h : w.grownBy w1 r) (hr : some a.block ≠ r) (hc : w.cell? a = some v) : w1.cell? a = some v := by
  have hlt := World.block_lt_of_cell? w _ hc
  unfold World.cell? at hc ⊢
  rwa [h.block _ hlt hr]
theorem grown_set {w w1 : World} {g : Nat} (h : w.grownBy w1 (some g)) (i : Nat) (u : Value) : w.grownBy (w1.setCell ⟨g, i, none⟩ u) (some g) :=
  ⟨h.os, h.tape, h.output, by simpa [World.setCell] using h.size, fun j hj hn => (Below.heap_setCell w1 ⟨g, i, none⟩ u j (fun e => hn (by rw [e]))).trans (h.block j hj hn)⟩
theorem bs_set (l : L) (i : Nat) (c : UInt8) : (bs l).toArray.setIfInBounds i (.int .u8 (c.toNat : Int)) = (bs (l.set i c)).toArray := by
  unfold bs
  simp [List.map_set]

set_option maxHeartbeats 1600000 in
set_option maxRecDepth 100000 in
theorem rlay_s (g k : Nat) (b x : L) (A : Option Addr) (c : Nat) (w : World) (hb : Blk w g 5 (bs b).toArray) (hl : b.length = 512) (hx : k + x.length ≤ 512) (ha : RdA w A c (bs x)) (hne : ∀ a, A = some a → a.block ≠ g) :
    Calls Try.prog 67 #[.slice (some ⟨g, 0, none⟩) 512 512, .int .i64 (k : Int), .slice A x.length c] w fun e w' => e = .returned (.slice (some ⟨g, 0, none⟩) 512 512) ∧ Blk w' g 5 (bs (lay b k x)).toArray ∧ w.grownBy w' (some g) := by
  have Hb := Lib.hid hb
  have Hl := Lib.hid hl
  have Hne := Lib.hid hne
  have Ha := Lib.hid ha
  clear hb hl hne ha
  go_enter Try.func67, Try.ntmps67
  go_wp2_with fail
  go_loopw [7] (fun i wr => ∃ j : Nat, j ≤ x.length ∧ i = .int .i64 j ∧ Hid (Blk wr g 5 (bs (lay b k (x.take j))).toArray) ∧ Hid (w.grownBy wr (some g))) (fun i _ => x.length - (intOf i).toNat)
  case atStart => exact ⟨0, by omega, rfl, Lib.hid (by rw [List.take_zero, lay_zero]; exact Hb.out), Lib.hid ⟨rfl, rfl, rfl, Nat.le_refl _, fun _ _ _ => rfl⟩⟩
  case round =>
    obtain ⟨j, hj, rfl, Hk, Hg⟩ := hrel
    by_cases hlt : j < x.length
    · obtain ⟨y, hl1⟩ : ∃ y, x[j]? = some y := ⟨_, List.getElem?_eq_getElem hlt⟩
      obtain ⟨b', o, rfl, hcell⟩ := Ha.out.at_ (j := j) (by rw [bs_length]; exact hlt)
      have hbne := Hne.out _ rfl
      have ca := cell_grownR (a := ⟨b', o + j, none⟩) Hg.out (fun e => hbne (Option.some.inj e)) (hcell j (.int .u8 (y.toNat : Int)) (by rw [bs_at hlt, ← (List.getElem?_eq_some_iff.1 hl1).2]))
      have ht := lay_take Hl.out hx hl1
      obtain ⟨q, hq⟩ : ∃ q, k + j = q := ⟨_, rfl⟩
      rw [hq] at ht
      have hq5 : q < 512 := by omega
      have hsum : (k : Int) + (j : Int) = (q : Int) := by omega
      have hlen : (lay b k (x.take j)).length = 512 := by rw [lay_length (by rw [List.length_take, Hl.out]; omega), Hl.out]
      obtain ⟨z, hz⟩ : ∃ z, (bs (lay b k (x.take j))).toArray[q]? = some z := ⟨_, Array.getElem?_eq_getElem (by simpa [bs_length, hlen] using hq5)⟩
      have cq : wr.cell? ⟨g, q, none⟩ = some z := by rw [Hk.out.cell]; exact hz
      have cf := Hk.out.free q
      have R1 := Lib.hid (show Blk (wr.setCell ⟨g, q, none⟩ (.int .u8 (y.toNat : Int))) g 5 (bs (lay b k (x.take (j + 1)))).toArray by rw [ht, ← bs_set]; exact Hk.out.put q _)
      have R2 := Lib.hid (grown_set Hg.out q (.int .u8 (y.toNat : Int)))
      have hwr : IntKind.i64.wrap ((k : Int) + (j : Int)) = (q : Int) := by rw [hsum]; exact wrap64_of _ (by omega) (by omega)
      clear hq hz hlen ht hl1 hcell hbne
      go_wp2_with fail
      go_roundw
      case rel => exact ⟨j + 1, by omega, by go_num, R1, R2⟩
      case measure => simp [intOf]; omega
    · obtain rfl : j = x.length := by omega
      go_wp2_with fail
      go_ret
      exact ⟨rfl, by have := Hk.out; rwa [lay_full] at this, Hg.out⟩

end Go.Proofs.Ytihigbaaajmjlaa.Head
