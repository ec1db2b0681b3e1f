/-
  Contracts: a block's sum, and how it is written, of package head and of the document's answers: no statement is proved here.
  The contract of package head's Put: no statement is proved here.
-/
import Derived.Test.YtllnnlmhbmladaaGreatDoorHeadMay
import Derived.Lib.SlBytesConst
namespace Go.Proofs.YtllnnlmhbmladaaGreatDoor.Head
open Go.RowKit Go.Proofs.YtllnnlmhbmladaaGreatDoor.Base Go.Proofs.YtllnnlmhbmladaaGreatDoor.NumM Go.Proofs.YtllnnlmhbmladaaGreatDoor.Num

/-- The sum of the first k bytes. -/
def sumTo (b : L) (k : Nat) : Nat := 256 + tot ((b.take k).take 148) + tot ((b.take k).drop 156)
theorem sumTo_all (b : L) (h : b.length = 512) : sumTo b 512 = sumN b := by unfold sumTo sumN; rw [List.take_of_length_le (Nat.le_of_eq h)]
theorem sumTo_zero (b : L) : sumTo b 0 = 256 := by simp [sumTo, tot]
theorem sumTo_step {b : L} {k : Nat} {x : UInt8} (hx : b[k]? = some x) : sumTo b (k + 1) = sumTo b k + if k < 148 ∨ 156 ≤ k then x.toNat else 0 := by
  have hk := (List.getElem?_eq_some_iff.1 hx).1
  have hl : (b.take k).length = k := by rw [List.length_take]; omega
  have e : b.take (k + 1) = b.take k ++ [x] := by rw [List.take_add_one, hx]; rfl
  unfold sumTo
  rw [e]
  by_cases h1 : k < 148
  · have a1 : (b.take k ++ [x]).take 148 = b.take k ++ [x] := List.take_of_length_le (by rw [List.length_append, hl]; simp; omega)
    have a2 : (b.take k).take 148 = b.take k := List.take_of_length_le (by omega)
    have a3 : (b.take k ++ [x]).drop 156 = [] := List.drop_eq_nil_of_le (by rw [List.length_append, hl]; simp; omega)
    have a4 : (b.take k).drop 156 = [] := List.drop_eq_nil_of_le (by omega)
    rw [a1, a2, a3, a4, tot_append, if_pos (by omega)]
    simp [tot]
    omega
  · rw [List.take_append_of_le_length (by omega)]
    by_cases h2 : k < 156
    · have a3 : (b.take k ++ [x]).drop 156 = [] := List.drop_eq_nil_of_le (by rw [List.length_append, hl]; simp; omega)
      have a4 : (b.take k).drop 156 = [] := List.drop_eq_nil_of_le (by omega)
      rw [a3, a4, if_neg (by omega), Nat.add_zero]
    · rw [List.drop_append_of_le_length (by omega), tot_append, if_pos (by omega)]
      simp [tot]
      omega
theorem sumTo_le {b : L} {k : Nat} (h : k ≤ 512) : sumTo b k ≤ 262144 := by
  have h1 := tot_le ((b.take k).take 148)
  have h2 := tot_le ((b.take k).drop 156)
  simp only [List.length_take, List.length_drop] at h1 h2
  unfold sumTo
  omega
theorem sumI_no {b : L} (h : b.length ≠ 512) : sumI b = -1 := if_neg h
theorem sumI_yes {b : L} (h : b.length = 512) : sumI b = (sumN b : Int) := if_pos h

/-- How much of the sum's own places is summed up at k. -/
def own (k : Nat) : Nat := if k < 148 then 256 else if k < 156 then 32 * (156 - k) else 0
def SumRel (l : L) (w : World) (s i : Value) (wr : World) : Prop := ∃ (k z : Nat), k ≤ l.length ∧ i = .int .i64 (k : Int) ∧ s = .int .i64 (z : Int) ∧ z ≤ 262144 ∧ Stp w wr ∧ Hid (z = sumTo l k)
set_option maxRecDepth 100000 in
set_option maxHeartbeats 1000000 in
theorem sum_s (l : L) (A : Option Addr) (c : Nat) (w : World) (ha : RdA w A c (bs l)) (hl : l.length < 9223372036854775808) :
    Calls Tryz.prog 87 #[.slice A l.length c] w fun e w' => e = .returned (.int .i64 (sumI l)) ∧ Stp w w' := by
  by_cases h512 : l.length = 512
  · rw [sumI_yes h512]
    obtain ⟨r, hr⟩ : ∃ r : Int, (sumN l : Int) = r := ⟨_, rfl⟩
    rw [hr]
    have Hr := Lib.hid hr
    have g0 : ((l.length : Int) != 512) = false := by simp; omega
    have H512 := Lib.hid h512
    clear hr h512
    go_enter Tryz.func87, Tryz.ntmps87
    go_wp2_with fail
    go_loopw [3, 4, 5, 11] (fun s _ _ i wr => SumRel l w s i wr) (fun _ _ _ i _ => l.length - (intOf i).toNat)
    case atStart => exact ⟨0, 256, by omega, rfl, rfl, by omega, Stp.refl w, Lib.hid (sumTo_zero l).symm⟩
    case round =>
      obtain ⟨k, z, hk, rfl, rfl, hz, h0, Hk⟩ := hrel
      by_cases hlt : k < l.length
      · obtain ⟨x, hl1⟩ : ∃ x, l[k]? = some x := ⟨_, List.getElem?_eq_getElem hlt⟩
        obtain ⟨b, o, rfl, hcell⟩ := (ha.keep h0).at_ (j := k) (by rw [bs_length]; exact hlt)
        have ca := hcell k (.int .u8 (x.toNat : Int)) (by rw [bs_at hlt, ← (List.getElem?_eq_some_iff.1 hl1).2])
        have Hs := Lib.hid (sumTo_step hl1)
        have Hb := Lib.hid (sumTo_le (b := l) (k := k + 1) (by have := H512.out; omega))
        have hx1 : x.toNat ≤ 255 := by have := x.toNat_lt; omega
        obtain ⟨y, hy⟩ : ∃ y : Nat, x.toNat = y := ⟨_, rfl⟩
        rw [hy] at ca hx1
        have Hy := Lib.hid hy
        clear hl1 hcell hy
        by_cases h1 : k < 148
        · have R := Lib.hid (show SumRel l w (.int .i64 ((z : Int) + (y : Int))) (.int .i64 ((k : Int) + 1)) wr from ⟨k + 1, z + y, by omega, by go_num, by go_num, by have := Hb.out; rw [Hs.out, if_pos (by omega), Hy.out, ← Hk.out] at this; omega, h0, Lib.hid (by rw [Hs.out, if_pos (by omega), Hy.out, Hk.out])⟩)
          go_wp2_with fail
          go_roundw
          · first
              | exact R.out
              | (repeat apply Exists.intro
                 refine ⟨R.out, ?_⟩
                 repeat' first | rfl | constructor)
          · simp [intOf]; omega
        · by_cases h2 : k < 156
          · have R := Lib.hid (show SumRel l w (.int .i64 ((z : Int))) (.int .i64 ((k : Int) + 1)) wr from ⟨k + 1, z, by omega, by go_num, by go_num, hz, h0, Lib.hid (by rw [Hs.out, if_neg (by omega), Hk.out]; rfl)⟩)
            go_wp2_with fail
            go_roundw
            · first
                | exact R.out
                | (repeat apply Exists.intro
                   refine ⟨R.out, ?_⟩
                   repeat' first | rfl | constructor)
            · simp [intOf]; omega
          · have R := Lib.hid (show SumRel l w (.int .i64 ((z : Int) + (y : Int))) (.int .i64 ((k : Int) + 1)) wr from ⟨k + 1, z + y, by omega, by go_num, by go_num, by have := Hb.out; rw [Hs.out, if_pos (by omega), Hy.out, ← Hk.out] at this; omega, h0, Lib.hid (by rw [Hs.out, if_pos (by omega), Hy.out, Hk.out])⟩)
            go_wp2_with fail
            go_roundw
            · first
                | exact R.out
                | (repeat apply Exists.intro
                   refine ⟨R.out, ?_⟩
                   repeat' first | rfl | constructor)
            · simp [intOf]; omega
      · obtain rfl : k = l.length := by omega
        go_wp2_with fail
        go_ret
        refine ⟨?_, h0⟩
        rw [← Hr.out, Hk.out, H512.out, sumTo_all l H512.out]
        rfl
  · rw [sumI_no h512]
    have g0 : ((l.length : Int) != 512) = true := by simp; omega
    clear h512
    have h0 := Stp.refl w
    go_enter Tryz.func87, Tryz.ntmps87
    go_wp2_with fail
    go_ret
    exact ⟨rfl, h0⟩

theorem octV_sum {b : L} (h : b.length = 512) : octV (sumI b) 6 = ⟨(octs 6 (sumN b)).toArray⟩ := by
  have hle := sumN_le h
  rw [sumI_yes h]
  unfold octV
  rw [if_pos (octOk_iff.2 ⟨by omega, by omega, by omega, by show (sumN b : Int).toNat < 8 ^ 6; omega⟩)]
  rfl

set_option maxHeartbeats 1000000 in
set_option maxRecDepth 100000 in
theorem sumText_s (l : L) (A : Option Addr) (c : Nat) (w : World) (ha : RdA w A c (bs l)) (h512 : l.length = 512) :
    Calls Tryz.prog 55 #[.slice A l.length c] w fun e w' => e = .returned (.string ⟨(sumT l).toArray⟩) ∧ Stp w w' := by
  have h0 := Stp.refl w
  have hle := sumN_le h512
  have hov := octV_sum h512
  have hsi := sumI_yes h512
  obtain ⟨s, hs⟩ : ∃ s, octs 6 (sumN l) = s := ⟨_, rfl⟩
  have hsl : s.length = 6 := by rw [← hs, octs_length]
  have hT : sumT l = s ++ [0, 32] := by rw [← hs]; rfl
  rw [hT]
  rw [hs] at hov
  obtain ⟨i, hi⟩ : ∃ i, sumI l = i := ⟨_, rfl⟩
  rw [hi] at hov hsi
  have hi2 : i < 9223372036854775808 := by omega
  obtain ⟨ok, hok⟩ : ∃ ok, octOk i 6 = ok := ⟨_, rfl⟩
  have hadd := Str.add_ll s [0, 32] (by rw [hsl]; simp)
  have Hov := Lib.hid hov
  have Hi := Lib.hid hi
  have Hi2 := Lib.hid hi2
  have Hok := Lib.hid hok
  have hl63 : l.length < 9223372036854775808 := by omega
  clear hov hi hi2 hok hs hT hle hsi hsl h512
  go_enter Tryz.func55, Tryz.ntmps55
  go_wp2_with (first
    | (go_at_call 87; refine (sum_s l _ _ _ ha hl63).mono ?_; rintro e w' ⟨rfl, hs⟩; replace h0 := Stp.trans h0 hs; clear hs; rw [Hi.out])
    | (go_at_call 86; refine (oct_all i 6 _ Hi2.out).mono ?_; rintro e w' ⟨rfl, hs⟩; replace h0 := Stp.trans h0 hs; clear hs; rw [Hov.out, Hok.out]))
  go_ret
  exact ⟨rfl, h0⟩
end Go.Proofs.YtllnnlmhbmladaaGreatDoor.Head

namespace Go.Proofs.YtllnnlmhbmladaaGreatDoor.Head
open Go.RowKit Go.Proofs.YtllnnlmhbmladaaGreatDoor.Base Go.Proofs.YtllnnlmhbmladaaGreatDoor.NumM Go.Proofs.YtllnnlmhbmladaaGreatDoor.Num

theorem may_parts {h : Hd} (hm : mayH h = true) : h.name ≠ [] ∧ typs.contains h.ty = true ∧ elseZ h = true ∧ ((txo h).all fun p => okT p.1 p.2) = true ∧ ((nuo h).all fun p => putOk p.1 p.2) = true := by
  unfold mayH at hm
  rw [txtsOk_is, numsOk_is] at hm
  simp only [Bool.and_eq_true] at hm
  obtain ⟨⟨⟨⟨h1, h2⟩, h3⟩, h4⟩, h5⟩ := hm
  exact ⟨by rintro e; rw [e] at h1; simp at h1, h2, h3, h4, h5⟩
theorem okT_le {s : L} {m : Nat} (h : okT s m = true) : s.length ≤ m := by unfold okT at h; simp at h; exact h.1
theorem ents_t {h : Hd} (hm : mayH h = true) {hb : Nat} {w : World} (hd : Blk w hb 77 (hcells h)) (k : Nat) (p : Nat × L) (hp : (txts h)[k]? = some p) : ∃ r, (txR h)[k]? = some r ∧ EntT w hb r p := by
  have hk : k < (txR h).length := by rw [txts_length]; exact (List.getElem?_eq_some_iff.1 hp).1
  obtain ⟨q, mo, f, s, e1, e2, e3, e4, e5, e6⟩ := txR_at h k hk
  rw [hp] at e3
  injection e3 with e3
  subst e3
  have ho := (List.all_eq_true.1 (may_parts hm).2.2.2.1) _ (List.mem_of_getElem? e2)
  have := okT_le ho
  exact ⟨_, e1, rfl, by rw [hd.cell]; exact e4, by simp only at this ⊢; omega, e6⟩
theorem ents_n {h : Hd} (hm : mayH h = true) (hs : SmallH h) {hb : Nat} {w : World} (hd : Blk w hb 77 (hcells h)) (k : Nat) (p : Nat × L) (hp : (numsL h)[k]? = some p) : ∃ r, (nuR h)[k]? = some r ∧ ∃ (x : Int) (wd : Nat), EntN w hb r p x wd := by
  have hk : k < (nuR h).length := by rw [numsL_length]; exact (List.getElem?_eq_some_iff.1 hp).1
  obtain ⟨q, wd, f, x, e1, e2, e3, e4, e5, e6, e7⟩ := nuR_at h hs k hk
  rw [hp] at e3
  injection e3 with e3
  subst e3
  have ho := (List.all_eq_true.1 (may_parts hm).2.2.2.2) _ (List.mem_of_getElem? e2)
  have := putV_length ho
  exact ⟨_, e1, x, wd, rfl, rfl, by rw [hd.cell]; exact e4, by simp only at this ⊢; omega, e6, rfl, e7⟩

theorem stp_at {w w1 w2 : World} {g : Nat} (h : Stp w w1) (hg : w1.grownBy w2 (some g)) (hl : w.heap.size ≤ g) : Stp w w2 :=
  ⟨hg.os.trans h.os, hg.tape.trans h.tape, hg.output.trans h.output, Nat.le_trans h.size hg.size, fun k hk => (hg.block k (Nat.lt_of_lt_of_le hk h.size) (by simp; omega)).trans (h.block k hk)⟩
theorem layAll_append (b : L) (l m : List (Nat × L)) : layAll b (l ++ m) = layAll (layAll b l) m := by simp [layAll, List.foldl_append]
theorem ps_room {h : Hd} (hm : mayH h = true) : (∀ p ∈ txts h, p.1 + p.2.length ≤ 512) := by
  intro p hp
  obtain ⟨k, hk, rfl⟩ := List.getElem_of_mem hp
  have hk2 : k < (txR h).length := by rw [txts_length]; exact hk
  obtain ⟨q, mo, f, s, e1, e2, e3, e4, e5, e6⟩ := txR_at h k hk2
  rw [List.getElem?_eq_getElem hk] at e3
  injection e3 with e3
  rw [e3]
  have ho := (List.all_eq_true.1 (may_parts hm).2.2.2.1) _ (List.mem_of_getElem? e2)
  have := okT_le ho
  simp only at this ⊢
  omega
theorem nu_room {h : Hd} (hm : mayH h = true) (hs : SmallH h) : (∀ p ∈ numsL h, p.1 + p.2.length ≤ 512) := by
  intro p hp
  obtain ⟨k, hk, rfl⟩ := List.getElem_of_mem hp
  have hk2 : k < (nuR h).length := by rw [numsL_length]; exact hk
  obtain ⟨q, wd, f, x, e1, e2, e3, e4, e5, e6, e7⟩ := nuR_at h hs k hk2
  rw [List.getElem?_eq_getElem hk] at e3
  injection e3 with e3
  rw [e3]
  have ho := (List.all_eq_true.1 (may_parts hm).2.2.2.2) _ (List.mem_of_getElem? e2)
  have := putV_length ho
  simp only at this ⊢
  omega
theorem zeros_length (n : Nat) : (zeros n).length = n := by simp [zeros]
/-- What Put hands back. -/
def putB (h : Hd) : L := if mayH h = true then blk h else []

theorem rdA_blk {w : World} {g : Nat} {t : TypeId} {b : L} {n : Nat} (h : Blk w g t (bs b).toArray) (hl : b.length = n) : RdA w (some ⟨g, 0, none⟩) n (bs b) :=
  ⟨_, n, rfl, by rw [bs_length, hl]; exact Nat.le_refl _, fun _ => ⟨g, 0, rfl, h.lt, fun j u hj => by rw [Nat.zero_add, h.cell]; simpa using hj⟩⟩
theorem draft_zero (w : World) : (zeroValue 147).run Tryz.prog w = .ok (.agg (bs (zeros 512)).toArray) w := by
  have hi : (Tryz.prog.info? 147).map (·.zero) = some (some (.agg (Array.replicate 512 (.int .u8 0)))) := by kernel_rfl
  have e : (bs (zeros 512)).toArray = Array.replicate 512 (.int .u8 0) := by
    unfold zeros bs
    rw [List.map_replicate]
    rfl
  rw [e]
  cases hq : Tryz.prog.info? 147 with
  | none => simp [hq] at hi
  | some i =>
    have hz : i.zero = some (.agg (Array.replicate 512 (.int .u8 0))) := by simpa [hq] using hi
    simp [zeroValue, typeInfo, hq, hz]

/-- The same, at a number. -/
theorem put_at (g k : Nat) (kk : Int) (hkk : kk = (k : Int)) (b x : List UInt8) (v : Value) (B : Nat) (w : World) (hb : Blk w g 147 (bs b).toArray) (hl : b.length = 512) (hk : k < 512) (hx : k + x.length ≤ 512) (hv : Rd w B v (bs x)) :
    Calls Tryz.prog 95 #[.pointer (some ⟨g, 0, none⟩), .int .i64 kk, v] w fun e w' => e = .returned (.tuple #[]) ∧ Blk w' g 147 (bs (lay b k x)).toArray ∧ w.grownBy w' (some g) := by
  subst hkk
  exact put_any g k b x v B w hb hl hk hx hv
theorem sumText_at (l : L) (A : Option Addr) (n c : Nat) (w : World) (ha : RdA w A c (bs l)) (hn : l.length = n) (h512 : n = 512) :
    Calls Tryz.prog 55 #[.slice A n c] w fun e w' => e = .returned (.string ⟨(sumT l).toArray⟩) ∧ Stp w w' := by
  subst hn
  exact sumText_s l A c w ha h512
def magicC : Array Value := #[.int .u8 117, .int .u8 115, .int .u8 116, .int .u8 97, .int .u8 114, .int .u8 0, .int .u8 48, .int .u8 48]
theorem magic_cv (w : World) : (convert 46 46 (.slice (some ⟨w.heap.size, 0, none⟩) 8 8)).run Tryz.prog (w.alloc (.cells #[.int .u8 117, .int .u8 115, .int .u8 116, .int .u8 97, .int .u8 114, .int .u8 0, .int .u8 48, .int .u8 48] 5)) = .ok (.slice (some ⟨w.heap.size, 0, none⟩) 8 8) (w.alloc (.cells magicC 5 (8, 9))) :=
  Lib.run_convert_bytes_const w 46 5 magicC 8 8 Tryz.underlying46 Tryz.underlying5
theorem rd_magic (w : World) : Rd (w.alloc (.cells magicC 5 (8, 9))) (w.heap.size + 1) (.slice (some ⟨w.heap.size, 0, none⟩) 8 8) (bs magic) := by
  refine ⟨_, 8, rfl, by decide, fun _ => ⟨w.heap.size, 0, rfl, by omega, fun j u hj => ?_⟩⟩
  rw [Nat.zero_add, World.cell?_alloc_mark]
  rw [show magicC = (bs magic).toArray from rfl]
  simpa using hj

set_option maxHeartbeats 4000000 in
set_option maxRecDepth 100000 in
theorem put_s (h : Hd) (hs : SmallH h) (w : World) :
    Calls Tryz.prog 57 #[hv h] w fun e w' => ∃ A cap, e = .returned (.tuple #[.slice A (putB h).length cap, .bool (mayH h)]) ∧ RdA w' A cap (bs (putB h)) ∧ Stp w w' := by
  have h0 := Stp.refl w
  cases hm : mayH h
  · have Hm := Lib.hid hm
    have hp : putB h = [] := by unfold putB; rw [if_neg (by simp [hm])]
    rw [hp]
    have Hs := Lib.hid hs
    clear hm hp hs
    go_enter Tryz.func57, Tryz.ntmps57
    go_wp2_with (go_at_call 92; refine (may_any h Hs.out _).mono ?_; rintro e w' ⟨rfl, hs⟩; have H1 := Lib.hid (Stp.trans (Stp.alloc h0 _) hs); clear hs; rw [Hm.out])
    go_ret2
    exact ⟨none, 0, rfl, RdA.nil _, H1.out⟩
  · have Hm := Lib.hid hm
    have hp : putB h = blk h := by unfold putB; rw [if_pos hm]
    rw [hp]
    have Hs := Lib.hid hs
    have Hb0 := Lib.hid (Blk.new w 77 (hcells h))
    obtain ⟨hb, hhb⟩ : ∃ b, w.heap.size = b := ⟨_, rfl⟩
    rw [hhb] at Hb0
    obtain ⟨n, hn⟩ : ∃ n, (txR h).length = n := ⟨_, rfl⟩
    have hn9 : n ≤ 9 := by rw [← hn]; unfold txR txM txN; split <;> simp
    have Hn := Lib.hid hn
    obtain ⟨m, hmm⟩ : ∃ m, (nuR h).length = m := ⟨_, rfl⟩
    have hm9 : m ≤ 9 := by rw [← hmm]; unfold nuR nuM nuN; split <;> simp
    have Hmm := Lib.hid hmm
    obtain ⟨B3, hB3⟩ : ∃ B, layAll (zeros 512) (txts h) = B := ⟨_, rfl⟩
    have HB3 := Lib.hid hB3
    have hl3 : B3.length = 512 := by rw [← hB3, layAll_length (by rw [zeros_length]; exact ps_room hm), zeros_length]
    have Hl3 := Lib.hid hl3
    obtain ⟨B5, hB5⟩ : ∃ B, layAll B3 (numsL h) = B := ⟨_, rfl⟩
    have HB5 := Lib.hid hB5
    have hl5 : B5.length = 512 := by rw [← hB5, layAll_length (by rw [hl3]; exact nu_room hm hs), hl3]
    have Hl5 := Lib.hid hl5
    obtain ⟨R, hR⟩ : ∃ B, lay (lay B5 156 [h.ty]) 257 magic = B := ⟨_, rfl⟩
    have HR := Lib.hid hR
    have hRl : R.length = 512 := by
      rw [← hR, lay_length (by rw [lay_length (by rw [hl5]; simp), hl5]; decide), lay_length (by rw [hl5]; simp), hl5]
    have HRl := Lib.hid hRl
    obtain ⟨S, hS⟩ : ∃ S, sumT R = S := ⟨_, rfl⟩
    have HS := Lib.hid hS
    have HSl := Lib.hid (show S.length = 8 by rw [← hS, sumT_length])
    have hraw : rawH h = R := by
      rw [← hR, ← hB5, ← hB3]
      unfold rawH
      rw [layAll_append, layAll_append]
      rfl
    have HE := Lib.hid (show lay R 148 S = blk h by rw [← hS, ← hraw]; rfl)
    have HEl := Lib.hid (show (blk h).length = 512 by rw [← HE.out, lay_length (by rw [HSl.out, hRl]; omega), hRl])
    have hsl := slice_all
    have hz := draft_zero
    obtain ⟨z, hz0⟩ : ∃ z, (bs (zeros 512)).toArray = z := ⟨_, rfl⟩
    rw [hz0] at hz
    have Hz0 := Lib.hid hz0
    clear hm hp hs hn hmm hz0 hB3 hl3 hB5 hl5 hR hRl hS hraw
    go_enter Tryz.func57, Tryz.ntmps57
    go_wp2_with (first
      | (go_at_call 92; refine (may_any h Hs.out _).mono ?_; rintro e w1 ⟨rfl, hs⟩; have H1 := Lib.hid (Stp.trans (Stp.alloc h0 (.cells (hcells h) 77)) hs); have Hb1 := Lib.hid (Hb0.out.keep hs Hb0.out.lt); clear hs Hb0; rw [Hm.out])
      | (go_at_call 88; refine (texts_any h hb _ (Hb1.out.alloc _)).mono ?_; rintro e w2 ⟨g, cap, rfl, hg, hr2, hs⟩; rw [Hn.out]; have Hr2 := Lib.hid hr2; have Hb2 := Lib.hid ((Hb1.out.alloc _).keep hs (Hb1.out.alloc _).lt); have H2 := Lib.hid (Stp.trans (Stp.alloc H1.out _) hs); have Hd2 := Lib.hid ((Blk.new w1 147 z).keep hs (Blk.new w1 147 z).lt); have hlt1 := Hb1.out.lt; obtain ⟨gd, hgd⟩ : ∃ gd, w1.heap.size = gd := ⟨_, rfl⟩; rw [hgd] at Hd2 hlt1; rw [World.size_alloc, hgd] at hg; clear hr2 hs)
      | (go_at_call 93; refine (putTexts_any hb gd g cap n (txR h) (txts h) (zeros 512) _ (zeros_length 512) (by rw [← txts_length, Hn.out]) hn9 (by rw [Hz0.out]; exact Hd2.out) Hr2.out (by omega) Hb2.out.lt (by omega) (ents_t Hm.out Hb2.out)).mono ?_; rintro e w3 ⟨rfl, h3, h4⟩; have Hd3 := Lib.hid h3; have Hb3 := Lib.hid (Hb2.out.grown h4 (by simp; omega)); have H3 := Lib.hid (stp_at H2.out h4 (by omega)); clear h3 h4 Hd2 Hb2 H2 Hr2)
      | (go_at_call 90; refine (numbers_any h hb _ Hb3.out).mono ?_; rintro e w4 ⟨g4, cap4, rfl, hg4, hr4, hs⟩; rw [Hmm.out]; have Hr4 := Lib.hid hr4; have Hb4 := Lib.hid (Hb3.out.keep hs Hb3.out.lt); have Hd4 := Lib.hid (Hd3.out.keep hs Hd3.out.lt); have H4 := Lib.hid (Stp.trans H3.out hs); have hg5 : gd < g4 := Nat.lt_of_lt_of_le Hd3.out.lt hg4; clear hr4 hs Hb3 Hd3 H3 hg4)
      | (go_at_call 94; refine (putNumbers_any hb gd g4 cap4 m (nuR h) (numsL h) B3 _ Hl3.out (by rw [← numsL_length, Hmm.out]) hm9 (by rw [← HB3.out]; exact Hd4.out) Hr4.out (by omega) Hb4.out.lt (by omega) (ents_n Hm.out Hs.out Hb4.out)).mono ?_; rintro e w5 ⟨rfl, h3, h4⟩; rw [HB5.out] at h3; have Hd5 := Lib.hid h3; have Hb5 := Lib.hid (Hb4.out.grown h4 (by simp; omega)); have H5 := Lib.hid (stp_at H4.out h4 (by omega)); have hty5 : w5.cell? ⟨hb, 8, none⟩ = some (.int .u8 (h.ty.toNat : Int)) := by { rw [Hb5.out.cell]; rfl }; have hs5 := Hb5.out.lt; clear h3 h4 Hd4 Hb4 H4 Hr4)
      | (go_at_call 95; (with_reducible refine (put_at gd 156 156 rfl B5 [h.ty] _ (w5.heap.size + 1) _ (Hd5.out.alloc _) Hl5.out (by omega) (by simp) ?_).mono ?_); exact rd_lit w5 5 _; rintro e w6 ⟨rfl, h3, h4⟩; have Hd6 := Lib.hid h3; have H6 := Lib.hid (stp_at (Stp.alloc H5.out _) h4 (by omega)); clear h3 h4 Hd5 Hb5 H5 hty5 hs5; have hmc := magic_cv w6)
      | (go_at_call 95; (with_reducible refine (put_at gd 257 257 rfl (lay B5 156 [h.ty]) magic _ (w6.heap.size + 1) _ (Hd6.out.alloc _) (by rw [lay_length (by rw [Hl5.out]; simp)]; exact Hl5.out) (by omega) (by decide) ?_).mono ?_); exact rd_magic w6; rintro e w7 ⟨rfl, h3, h4⟩; rw [HR.out] at h3; have Hd7 := Lib.hid h3; have H7 := Lib.hid (stp_at (Stp.alloc H6.out _) h4 (by omega)); clear h3 h4 Hd6 H6 hmc)
      | (go_at_call 55; (with_reducible refine (sumText_at R _ 512 512 _ (rdA_blk Hd7.out HRl.out) HRl.out rfl).mono ?_); rintro e w8 ⟨rfl, hs⟩; have Hd8 := Lib.hid (Hd7.out.keep hs Hd7.out.lt); have H8 := Lib.hid (Stp.trans H7.out hs); clear hs Hd7 H7; rw [HS.out]; obtain ⟨v8, w9, hcv8, hv8, hg8⟩ := run_bytes_rd (P := Tryz.prog) w8 9 46 5 Tryz.underlying9 Tryz.underlying46 Tryz.underlying5 S (by rw [HSl.out]; unfold maxLen; omega); have Hd9 := Lib.hid (Hd8.out.grown hg8 (by simp)); have H9 := Lib.hid (stp_grown H8.out hg8); have Hv9 := Lib.hid hv8; clear hv8 hg8 Hd8 H8)
      | (go_at_call 95; (with_reducible refine (put_at gd 148 148 rfl R S v8 _ _ Hd9.out HRl.out (by omega) (by rw [HSl.out]; omega) Hv9.out.rd).mono ?_); rintro e w10 ⟨rfl, h3, h4⟩; have Hd10 := Lib.hid h3; have H10 := Lib.hid (stp_at H9.out h4 (by omega)); clear h3 h4 Hd9 H9 Hv9 hcv8))
    go_ret2
    have hd := Hd10.out
    rw [HE.out] at hd
    exact ⟨some ⟨gd, 0, none⟩, 512, by rw [HEl.out]; rfl, rdA_blk hd HEl.out, H10.out⟩
end Go.Proofs.YtllnnlmhbmladaaGreatDoor.Head

