/-
  Contracts of the document's answers for numbers (package reelkeeperref01): Octal and Put: no statement is proved here.
  The contract of the document's Get (package reelkeeperref01): no statement is proved here.
  num's answers, and the document's, as one function each: no statement is proved here.
-/
import Derived.Test.YtopihahjjcpnpaaGreatDoorNum
namespace Go.Proofs.YtopihahjjcpnpaaGreatDoor.Num
open Go.RowKit Go.Proofs.YtopihahjjcpnpaaGreatDoor.Base Go.Proofs.YtopihahjjcpnpaaGreatDoor.NumM

/-- The digit that is cut out. -/
theorem digit_cut (y : Int) (h0 : 0 ≤ y) (h7 : y ≤ 7) (w : World) :
    (Instr.slice 9 (.string ⟨#[48, 49, 50, 51, 52, 53, 54, 55]⟩) (some (.int .i64 y)) (some (.int .i64 (y + 1))) none).run Tryz.prog w = .ok (.string ⟨#[oc y.toNat]⟩) w := by
  rw [run_slice_string (P := Tryz.prog) w 9 _ .i64 .i64 y (y + 1) Tryz.underlying9 h0 (by omega) (by show y + 1 ≤ 8; omega)]
  have h : y = 0 ∨ y = 1 ∨ y = 2 ∨ y = 3 ∨ y = 4 ∨ y = 5 ∨ y = 6 ∨ y = 7 := by omega
  rcases h with rfl | rfl | rfl | rfl | rfl | rfl | rfl | rfl <;> rfl

set_option maxHeartbeats 1600000 in
set_option maxRecDepth 100000 in
theorem roct_in (N d : Nat) (w : World) (hn : N < 9223372036854775808) (h1 : 1 ≤ d) (h20 : d ≤ 20) :
    Calls Tryz.prog 151 #[.int .i64 (N : Int), .int .i64 (d : Int)] w fun e w' => w = w' ∧
      ((N < 8 ^ d → e = .returned (.tuple #[.string ⟨(octs d N).toArray⟩, .bool true])) ∧ (¬ N < 8 ^ d → e = .returned (.tuple #[.string ⟨#[]⟩, .bool false]))) := by
  have g1 : decide ((N : Int) < 0) = false := by simp
  have g2 : decide ((d : Int) < 1) = false := by simp; omega
  have g3 : decide ((20 : Int) < (d : Int)) = false := by simp; omega
  go_enter Tryz.func151, Tryz.ntmps151
  go_wp2_with fail
  go_loop [0, 6, 7] (fun r o i => ∃ (k : Nat) (x : Int) (s : ByteArray), k ≤ d ∧ i = .int .i64 k ∧ r = .int .i64 x ∧ o = .string s ∧ 0 ≤ x ∧ x < 9223372036854775808 ∧ Hid (x = ((N / 8 ^ k : Nat) : Int)) ∧ Hid (s.data.toList = octs k N) ∧ s.size ≤ 20)
    (fun _ _ i => d - (intOf i).toNat)
  case atStart => exact ⟨0, N, _, by omega, rfl, rfl, rfl, by omega, by omega, Lib.hid (by simp), Lib.hid rfl, by simp [ByteArray.size]⟩
  case round =>
    obtain ⟨k, x, s, hk, rfl, rfl, rfl, hx0, hx1, Hx, Hs, hs20⟩ := hrel
    clear g1 g2 g3
    by_cases hlt : k < d
    · have hm0 : 0 ≤ x % 8 := by omega
      have hm1 : x % 8 ≤ 7 := by omega
      have hcut := digit_cut (x % 8) hm0 hm1 w
      have hadd := run_string_add_sum (P := Tryz.prog) w ⟨#[oc (x % 8).toNat]⟩ s (by rw [show (({ data := #[oc (x % 8).toNat] } : ByteArray)).size = 1 from rfl]; omega)
      have hss : s.size = k := by
        have h := congrArg List.length Hs.out
        rw [octs_length, Array.length_toList] at h
        exact h
      have Hss := Lib.hid hss
      obtain ⟨c, hc⟩ : ∃ c, c = oc (x % 8).toNat := ⟨_, rfl⟩
      rw [← hc] at hcut hadd
      have Hc := Lib.hid hc
      clear hss hc
      go_wp2_with fail
      go_round
      case rel =>
        refine ⟨k + 1, x / 8, _, by omega, by go_num, rfl, rfl, by omega, by omega, Lib.hid ?_, Lib.hid ?_, ?_⟩
        · rw [Hx.out, Nat.pow_succ, ← Nat.div_div_eq_div_mul]; rfl
        · rw [ByteArray.data_append, Array.toList_append, Hs.out, octs_cons, Hc.out, Hx.out]
          rfl
        · have := Hss.out
          rw [ByteArray.size_append, show (({ data := #[c] } : ByteArray)).size = 1 from rfl]
          omega
      case measure => simp [intOf]; omega
    · obtain rfl : k = d := by omega
      by_cases hfit : N < 8 ^ k
      · obtain rfl : x = 0 := by rw [Hx.out, Nat.div_eq_of_lt hfit]; rfl
        have Hfit := Lib.hid hfit
        clear Hx hfit
        go_wp2_with fail
        go_ret2
        refine ⟨rfl, fun _ => ?_, fun h => absurd Hfit.out (by first | exact h | exact Nat.not_lt.2 h)⟩
        have e : s = ⟨(octs k N).toArray⟩ := ba_eq Hs.out
        rw [← e]
        rfl
      · have hx2 : 0 < x := by
          rw [Hx.out]
          have := Nat.div_pos (Nat.le_of_not_lt hfit) (Nat.pow_pos (n := k) (show 0 < 8 by omega))
          omega
        have Hfit := Lib.hid hfit
        clear hfit Hx
        go_wp2_with fail
        go_ret2
        exact ⟨rfl, fun h => absurd h Hfit.out, fun _ => rfl⟩

theorem roct_yes (n d : Int) (w : World) (hn : n < 9223372036854775808) (h : octOk n d = true) :
    Calls Tryz.prog 151 #[.int .i64 n, .int .i64 d] w fun e w' => e = .returned (.tuple #[.string ⟨(octs d.toNat n.toNat).toArray⟩, .bool true]) ∧ w = w' := by
  obtain ⟨h0, h1, h20, hf⟩ := octOk_iff.1 h
  obtain ⟨n, rfl⟩ := Int.eq_ofNat_of_zero_le h0
  obtain ⟨d, rfl⟩ := Int.eq_ofNat_of_zero_le (show 0 ≤ d by omega)
  simp only [Int.toNat_natCast] at hf ⊢
  exact (roct_in n d w (by omega) (by omega) (by omega)).mono fun _ _ h => ⟨h.2.1 hf, h.1⟩

set_option maxRecDepth 100000 in
theorem roct_no (n d : Int) (w : World) (hn : n < 9223372036854775808) (h : octOk n d = false) :
    Calls Tryz.prog 151 #[.int .i64 n, .int .i64 d] w fun e w' => e = .returned (.tuple #[.string ⟨#[]⟩, .bool false]) ∧ w = w' := by
  by_cases h0 : n < 0
  · clear h hn
    go_enter Tryz.func151, Tryz.ntmps151
    go_wp2_with fail
    go_ret2
    exact ⟨rfl, rfl⟩
  · by_cases h1 : d < 1
    · clear h hn
      have h0' : 0 ≤ n := by omega
      go_enter Tryz.func151, Tryz.ntmps151
      go_wp2_with fail
      go_ret2
      exact ⟨rfl, rfl⟩
    · by_cases h2 : 20 < d
      · clear h hn
        have h0' : 0 ≤ n := by omega
        go_enter Tryz.func151, Tryz.ntmps151
        go_wp2_with fail
        go_ret2
        exact ⟨rfl, rfl⟩
      · have hf : ¬ n.toNat < 8 ^ d.toNat := fun hf => by
          rw [octOk_iff.2 ⟨by omega, by omega, by omega, hf⟩] at h
          cases h
        obtain ⟨n, rfl⟩ := Int.eq_ofNat_of_zero_le (show 0 ≤ n by omega)
        obtain ⟨d, rfl⟩ := Int.eq_ofNat_of_zero_le (show 0 ≤ d by omega)
        simp only [Int.toNat_natCast] at hf
        exact (roct_in n d w (by omega) (by omega) (by omega)).mono fun _ _ h => ⟨h.2.2 hf, h.1⟩

set_option maxHeartbeats 1600000 in
set_option maxRecDepth 100000 in
/-- The document's Put, behind the digits: the bytes. -/
theorem rput_bytes (N D : Nat) (w : World) (hn : N < 9223372036854775808) (h1 : 1 ≤ D) (h19 : D ≤ 19) (ho : octOk (N : Int) (D : Int) = false) :
    Calls Tryz.prog 150 #[.int .i64 (N : Int), .int .i64 ((D : Int) + 1)] w fun e w' => Below w.heap.size w w' ∧
      ((N < 256 ^ D → ∃ v, e = .returned (.tuple #[v, .bool true]) ∧ Own w' w.heap.size 5 v (bs (128 :: byts D N))) ∧ (¬ N < 256 ^ D → e = .returned (.tuple #[.slice none 0 0, .bool false]))) := by
  have g1 : decide ((N : Int) < 0) = false := by simp
  have g2 : decide ((D : Int) + 1 < 2) = false := by simp; omega
  have g3 : decide ((20 : Int) < (D : Int) + 1) = false := by simp; omega
  have g4 : ¬ ((D : Int) + 1 < 2) := by omega
  have Ho := Lib.hid ho
  clear ho
  go_enter Tryz.func150, Tryz.ntmps150
  go_wp2_with fail
  refine (roct_no _ _ w (by omega) Ho.out).mono ?_
  rintro e w' ⟨rfl, rfl⟩
  go_wp2_with fail
  go_loopw [0, 8, 9] (fun r v i wr => ∃ (k : Nat) (x : Int), k ≤ D ∧ i = .int .i64 k ∧ r = .int .i64 x ∧ 0 ≤ x ∧ x < 9223372036854775808 ∧ Hid (x = ((N / 256 ^ k : Nat) : Int)) ∧
      Hid (Own wr w.heap.size 5 v (bs (byts k N))) ∧ Hid (Below w.heap.size w wr))
    (fun _ _ i _ => D - (intOf i).toNat)
  case atStart => exact ⟨0, N, by omega, rfl, rfl, by omega, by omega, Lib.hid (by simp), Lib.hid (Own.nil _ _ _), Lib.hid (Below.refl _ _)⟩
  case round =>
    obtain ⟨k, x, hk, rfl, rfl, hx0, hx1, Hx, Hv, Hb⟩ := hrel
    clear g1 g2 g3 g4
    by_cases hlt : k < D
    · have hm0 : 0 ≤ x % 256 := by omega
      have hm1 : x % 256 ≤ 255 := by omega
      go_wp2_with (at_builtin; refine wpList_append_rd (P := Tryz.prog) _ rfl (.tmp 41) (.tmp 42) 43 rfl wr.heap.size 5 (.int .u8 0) 1 Tryz.underlying43 byte_info rfl _ [.int .u8 (x % 256)] rfl (own_lit _ _ _) wr.heap.size _ (bs (byts k N)) rfl (Hv.out.rd.keep ((Below.refl _ _).alloc (Nat.le_refl _) _)) (bs_one _) ?h1 ?h2 ?h3 ?_)
      case h1 => rw [bs_length, byts_length]; simp only [List.length_cons, List.length_nil]; unfold maxLen; omega
      case h2 => rw [bs_length, byts_length]; simp only [List.length_cons, List.length_nil]; omega
      case h3 => simp
      intro v1 w1 hv1 hg1 hat1
      have Hv1 : Hid (Own w1 w.heap.size 5 v1 (bs (byts (k + 1) N))) := Lib.hid (by
        have e : bs (byts (k + 1) N) = [.int .u8 (x % 256)] ++ bs (byts k N) := by
          have e2 : (x % 256 : Int) = ((UInt8.ofNat (N / 256 ^ k % 256)).toNat : Int) := by
            rw [by_toNat (Nat.mod_lt _ (by omega)), Hx.out]; omega
          rw [byts_cons, e2]
          rfl
        rw [e]
        exact hv1.less Hb.out.size)
      have Hb1 : Hid (Below w.heap.size w w1) := Lib.hid ((Hb.out.alloc Hb.out.size _).grown hg1 (by simp; exact Nat.le_succ_of_le Hb.out.size) (by
        intro j hj
        simp only [Value.ownBlock, Option.some.injEq] at hj
        rw [← hj]
        exact Hb.out.size))
      clear hv1 hg1 hat1 Hv Hb
      go_wp2_with fail
      go_roundw
      case rel =>
        refine ⟨k + 1, x / 256, by omega, by go_num, rfl, by omega, by omega, Lib.hid ?_, Hv1, Hb1⟩
        rw [Hx.out, Nat.pow_succ, ← Nat.div_div_eq_div_mul]; rfl
      case measure => simp [intOf]; omega
    · obtain rfl : k = D := by omega
      by_cases hfit : N < 256 ^ k
      · obtain rfl : x = 0 := by rw [Hx.out, Nat.div_eq_of_lt hfit]; rfl
        have Hfit := Lib.hid hfit
        clear Hx hfit
        go_wp2_with (at_builtin; refine wpList_append_rd (P := Tryz.prog) _ rfl (.tmp 48) (.tmp 49) 43 rfl wr.heap.size 5 (.int .u8 0) 1 Tryz.underlying43 byte_info rfl _ [.int .u8 128] rfl (own_lit _ _ _) wr.heap.size _ (bs (byts k N)) rfl (Hv.out.rd.keep ((Below.refl _ _).alloc (Nat.le_refl _) _)) (bs_one _) ?h4 ?h5 ?h6 ?_)
        case h4 => rw [bs_length, byts_length]; simp only [List.length_cons, List.length_nil]; unfold maxLen; omega
        case h5 => rw [bs_length, byts_length]; simp only [List.length_cons, List.length_nil]; omega
        case h6 => simp
        intro v1 w1 hv1 hg1 hat1
        have Hv1 : Hid (Own w1 w.heap.size 5 v1 (bs (128 :: byts k N))) := Lib.hid (hv1.less Hb.out.size)
        have Hb1 : Hid (Below w.heap.size w w1) := Lib.hid ((Hb.out.alloc Hb.out.size _).grown hg1 (by simp; exact Nat.le_succ_of_le Hb.out.size) (by
          intro j hj
          simp only [Value.ownBlock, Option.some.injEq] at hj
          rw [← hj]
          exact Hb.out.size))
        clear hv1 hg1 hat1 Hv Hb
        go_wp2_with fail
        go_ret2
        exact ⟨Hb1.out, fun _ => ⟨v1, rfl, Hv1.out⟩, fun h => absurd Hfit.out (by first | exact h | exact Nat.not_lt.2 h)⟩
      · have hx2 : 0 < x := by
          rw [Hx.out]
          have := Nat.div_pos (Nat.le_of_not_lt hfit) (Nat.pow_pos (n := k) (show 0 < 256 by omega))
          omega
        have Hfit := Lib.hid hfit
        clear hfit Hx
        go_wp2_with fail
        go_ret2
        exact ⟨Hb.out, fun h => absurd h Hfit.out, fun _ => rfl⟩

set_option maxHeartbeats 1600000 in
set_option maxRecDepth 100000 in
theorem rput_yes (n wide : Int) (w : World) (hn : n < 9223372036854775808) (h : putOk n wide = true) :
    Calls Tryz.prog 150 #[.int .i64 n, .int .i64 wide] w fun e w' => ∃ v, e = .returned (.tuple #[v, .bool true]) ∧ Own w' w.heap.size 5 v (bs (putL wide.toNat n.toNat)) ∧ Below w.heap.size w w' := by
  obtain ⟨h0, h2, h20, hf⟩ := putOk_iff.1 h
  obtain ⟨N, rfl⟩ := Int.eq_ofNat_of_zero_le h0
  obtain ⟨D, hD⟩ : ∃ D : Nat, wide = (D : Int) + 1 := ⟨(wide - 1).toNat, by omega⟩
  subst hD
  rw [Int.toNat_natCast, show ((D : Int) + 1 - 1).toNat = D by omega] at hf
  rw [Int.toNat_natCast, show ((D : Int) + 1).toNat = D + 1 by omega]
  have h1 : 1 ≤ D := by omega
  have h19 : D ≤ 19 := by omega
  cases ho : octOk (N : Int) (D : Int)
  · have hfew : ¬ N < 8 ^ D := by rw [octOk_nat h1 (by omega)] at ho; simpa using ho
    refine (rput_bytes N D w (by omega) h1 h19 ho).mono ?_
    rintro e w' ⟨hb, hy, _⟩
    obtain ⟨v, he, hv⟩ := hy hf
    exact ⟨v, he, by rw [putL_many (by rw [Nat.add_sub_cancel]; exact hfew), Nat.add_sub_cancel]; exact hv, hb⟩
  · have hfew : N < 8 ^ D := by rw [octOk_nat h1 (by omega)] at ho; simpa using ho
    have g1 : decide ((N : Int) < 0) = false := by simp
    have g2 : decide ((D : Int) + 1 < 2) = false := by simp; omega
    have g3 : decide ((20 : Int) < (D : Int) + 1) = false := by simp; omega
    have g4 : ¬ ((D : Int) + 1 < 2) := by omega
    have Ho := Lib.hid ho
    have Hput : Hid (putL (D + 1) N = octs D N ++ [0]) := Lib.hid (by have := putL_few (w := D + 1) (n := N) (by rw [Nat.add_sub_cancel]; exact hfew); rwa [Nat.add_sub_cancel] at this)
    clear ho h hf hfew h0 h2 h20
    go_enter Tryz.func150, Tryz.ntmps150
    go_wp2_with fail
    refine (roct_yes _ _ w (by omega) Ho.out).mono ?_
    rintro e w' ⟨rfl, rfl⟩
    rw [Int.toNat_natCast, Int.toNat_natCast]
    go_wp2_with (refine wpList_bytes (P := Tryz.prog) (o := ⟨some 29, _, _, _, _, _⟩) _ rfl 9 43 (.tmp 28) rfl 5 Tryz.underlying9 Tryz.underlying43 Tryz.underlying5 _ rfl ?hm ?_)
    case hm =>
      show (octs _ _).toArray.size ≤ _
      rw [List.size_toArray, octs_length]
      unfold maxLen
      omega
    intro v2 w2 hv2 hg2 hat2
    have Hg2 := Lib.hid hg2
    have Hv2 : Hid (Own w2 w.heap.size 5 v2 (bs (octs D N))) := Lib.hid (by simpa using hv2)
    have Hat2 := Lib.hid hat2
    clear hg2 hv2 hat2
    go_wp2_with (at_builtin; refine wpList_append_rd (P := Tryz.prog) _ rfl (.tmp 29) (.tmp 30) 43 rfl w.heap.size 5 (.int .u8 0) 1 Tryz.underlying43 byte_info rfl v2 _ rfl (Hv2.out.alloc _) _ _ [.int .u8 0] rfl (rd_lit _ _ _) (bs_one [0]) ?h1 ?h2 ?h3 ?_)
    case h1 => rw [bs_length, octs_length]; simp only [List.length_cons, List.length_nil]; unfold maxLen; omega
    case h2 => rw [bs_length, octs_length]; simp only [List.length_cons, List.length_nil]; omega
    case h3 =>
      have := Hg2.out.size
      simp
      omega
    intro v3 w3 hv3 hg3 hat3
    have Hb3 : Hid (Below w.heap.size w w3) := Lib.hid (by
      have hs2 := Hg2.out.size
      refine (((Below.refl _ _).grown Hg2.out (Nat.le_refl _) (by simp)).alloc hs2 _).grown hg3 (by simp; omega) (fun k hk => ?_)
      rw [Hat2.out] at hk
      injection hk with hk
      omega)
    have Hv3 : Hid (Own w3 w.heap.size 5 v3 (bs (octs D N ++ [0]))) := Lib.hid (by rw [bs_append]; exact hv3)
    clear hv3 hg3 hat3
    go_wp2_with fail
    go_ret2
    exact ⟨v3, rfl, by rw [Hput.out]; exact Hv3.out, Hb3.out⟩

set_option maxHeartbeats 1600000 in
set_option maxRecDepth 100000 in
theorem rput_no (n wide : Int) (w : World) (hn : n < 9223372036854775808) (h : putOk n wide = false) :
    Calls Tryz.prog 150 #[.int .i64 n, .int .i64 wide] w fun e w' => e = .returned (.tuple #[.slice none 0 0, .bool false]) ∧ Below w.heap.size w w' := by
  by_cases h2 : wide < 2
  · clear h
    have g2 : decide (wide < 2) = true := by simpa using h2
    go_enter Tryz.func150, Tryz.ntmps150
    go_wp2_with fail
    go_ret2
    exact ⟨rfl, Below.refl _ _⟩
  · by_cases h20 : 20 < wide
    · clear h
      have g2 : decide (wide < 2) = false := by simpa using h2
      have g3 : decide (20 < wide) = true := by simpa using h20
      go_enter Tryz.func150, Tryz.ntmps150
      go_wp2_with fail
      go_ret2
      exact ⟨rfl, Below.refl _ _⟩
    · by_cases h0 : n < 0
      · clear h
        have g2 : decide (wide < 2) = false := by simpa using h2
        have g3 : decide (20 < wide) = false := by simpa using h20
        have g1 : decide (n < 0) = true := by simpa using h0
        go_enter Tryz.func150, Tryz.ntmps150
        go_wp2_with fail
        go_ret2
        exact ⟨rfl, Below.refl _ _⟩
      · obtain ⟨N, rfl⟩ := Int.eq_ofNat_of_zero_le (show 0 ≤ n by omega)
        obtain ⟨D, hD⟩ : ∃ D : Nat, wide = (D : Int) + 1 := ⟨(wide - 1).toNat, by omega⟩
        subst hD
        have hf : ¬ N < 256 ^ D := fun hf => by
          rw [putOk_iff.2 ⟨by omega, by omega, by omega, by rw [Int.toNat_natCast, show ((D : Int) + 1 - 1).toNat = D by omega]; exact hf⟩] at h
          cases h
        have ho : octOk (N : Int) (D : Int) = false := by
          rw [octOk_nat (by omega) (by omega), decide_eq_false_iff_not]
          intro h8
          exact hf (Nat.lt_of_lt_of_le h8 (pow_le_256 D))
        exact (rput_bytes N D w (by omega) (by omega) (by omega) ho).mono fun _ _ hh => ⟨hh.2.2 hf, hh.1⟩
end Go.Proofs.YtopihahjjcpnpaaGreatDoor.Num

namespace Go.Proofs.YtopihahjjcpnpaaGreatDoor.Num
open Go.RowKit Go.Proofs.YtopihahjjcpnpaaGreatDoor.Base Go.Proofs.YtopihahjjcpnpaaGreatDoor.NumM

/-- What Get answers for these bytes. -/
def GetIs (l : List UInt8) (e : Ending) : Prop := (∀ N, IsNum l N → e = .returned (.tuple #[.int .i64 (N : Int), .bool true])) ∧ ((∀ N, ¬ IsNum l N) → e = .returned (.tuple #[.int .i64 0, .bool false]))
theorem getIs_no {l : List UInt8} (h : ∀ N, ¬ IsNum l N) : GetIs l (.returned (.tuple #[.int .i64 0, .bool false])) := ⟨fun N hN => absurd hN (h N), fun _ => rfl⟩

/-- The value that was read, behind k bytes. -/
def Val (l : List UInt8) (k : Nat) (g : Int) : Prop := ∀ N, IsNum l N → (l[0]? = some 128 → g = ((N / 256 ^ (l.length - k) : Nat) : Int)) ∧ (l[0]? ≠ some 128 → g = ((N / 8 ^ (l.length - 1 - k) : Nat) : Int))

theorem val_zero (l : List UInt8) : Val l 0 0 := by
  intro N hN
  refine ⟨fun _ => ?_, fun h => ?_⟩
  · have h1 := hN.fits
    have h2 : (256 : Nat) ^ (l.length - 1) ≤ 256 ^ (l.length - 0) := Nat.pow_le_pow_right (by omega) (by omega)
    rw [Nat.div_eq_of_lt (by omega)]
    rfl
  · have h1 := (hN.few h).1
    rw [Nat.sub_zero, Nat.div_eq_of_lt h1]
    rfl
theorem val_mark_first {l : List UInt8} {g : Int} (h0 : l[0]? = some 128) (h : Val l 0 g) : Val l 1 g := by
  intro N hN
  refine ⟨fun _ => ?_, fun h => absurd h0 h⟩
  have h1 := hN.fits
  have h2 : (256 : Nat) ^ (l.length - 1) ≤ 256 ^ (l.length - 0) := Nat.pow_le_pow_right (by omega) (by omega)
  rw [(h N hN).1 h0, Nat.div_eq_of_lt (by omega), Nat.div_eq_of_lt h1]
theorem val_mark_next {l : List UInt8} {k : Nat} {g y : Int} (h0 : l[0]? = some 128) (hk : k + 1 < l.length) (hy : y = (l[k + 1].toNat : Int)) (h : Val l (k + 1) g) : Val l (k + 1 + 1) (wrap64 (wrap64 (256 * g) + y)) := by
  intro N hN
  refine ⟨fun _ => ?_, fun h => absurd h0 h⟩
  have e := (step_fold 256 N (l.length - (k + 1 + 1)) g y hN.small (by rw [(h N hN).1 h0, show l.length - (k + 1 + 1) + 1 = l.length - (k + 1) by omega]) (by
    rw [hy, hN.mark_at h0 (k := k) hk hk, show l.length - 2 - k = l.length - (k + 1 + 1) by omega])).1
  rw [Int.mul_comm]
  exact e
theorem val_few_next {l : List UInt8} {k : Nat} {g y : Int} (h0 : l[0]? ≠ some 128) (hk : k + 1 < l.length) (hy : y = (l[k].toNat : Int)) (h : Val l k g) : Val l (k + 1) (wrap64 (wrap64 (8 * g) + (y - 48))) := by
  intro N hN
  refine ⟨fun h => absurd h h0, fun _ => ?_⟩
  have hg := (h N hN).2 h0
  have hy2 : y - 48 = ((N / 8 ^ (l.length - 2 - k) % 8 : Nat) : Int) := by
    rw [hy, hN.few_at h0 (k := k) (by omega) (by omega)]; omega
  have e := (step_fold 8 N (l.length - 2 - k) g (y - 48) hN.small (by rw [hg, show l.length - 2 - k + 1 = l.length - 1 - k by omega]) hy2).1
  rw [Int.mul_comm, show l.length - 1 - (k + 1) = l.length - 2 - k by omega]
  exact e
theorem val_few_last {l : List UInt8} {k : Nat} {g : Int} (h0 : l[0]? ≠ some 128) (hk : l.length ≤ k + 1) (h : Val l k g) : Val l (k + 1) g := by
  intro N hN
  refine ⟨fun h => absurd h h0, fun _ => ?_⟩
  rw [(h N hN).2 h0, show l.length - 1 - (k + 1) = l.length - 1 - k by omega]
theorem val_few_none {l : List UInt8} {k : Nat} {g' y : Int} (h0 : l[0]? ≠ some 128) (hk : k + 1 < l.length) (hy : y = (l[k].toNat : Int)) (hb : y < 48 ∨ 55 < y) : Val l (k + 1) g' := by
  intro N hN
  exfalso
  have := hN.few_at h0 (k := k) (by omega) (by omega)
  have h8 := Nat.mod_lt (N / 8 ^ (l.length - 2 - k)) (show 0 < 8 by omega)
  omega
theorem val_big {l : List UInt8} {k : Nat} {g : Int} (h0 : l[0]? = some 128) (hk : k < l.length) (hg : 36028797018963967 < g) (h : Val l k g) : ∀ N, ¬ IsNum l N := by
  intro N hN
  have h1 := (h N hN).1 h0
  obtain ⟨m, hm⟩ : ∃ m, l.length - k = m + 1 := ⟨l.length - k - 1, by omega⟩
  rw [hm, Nat.pow_succ, ← Nat.div_div_eq_div_mul] at h1
  have h2 := Nat.div_le_self N (256 ^ m)
  have h3 := hN.small
  generalize N / 256 ^ m = q at h1 h2
  omega

end Go.Proofs.YtopihahjjcpnpaaGreatDoor.Num

namespace Go.Proofs.YtopihahjjcpnpaaGreatDoor.Num
open Go.RowKit Go.Proofs.YtopihahjjcpnpaaGreatDoor.Base Go.Proofs.YtopihahjjcpnpaaGreatDoor.NumM

/-- What Octal answers. -/
def octV (n d : Int) : ByteArray := if octOk n d = true then ⟨(octs d.toNat n.toNat).toArray⟩ else ⟨#[]⟩
def putV (n wide : Int) : List UInt8 := if putOk n wide = true then putL wide.toNat n.toNat else []

theorem oct_all (n d : Int) (w : World) (hn : n < 9223372036854775808) :
    Calls Tryz.prog 126 #[.int .i64 n, .int .i64 d] w fun e w' => e = .returned (.tuple #[.string (octV n d), .bool (octOk n d)]) ∧ Below w.heap.size w w' := by
  cases h : octOk n d
  · rw [octV, if_neg (by simp [h])]; exact oct_no n d w hn h
  · rw [octV, if_pos h]; exact oct_yes n d w hn h
theorem roct_all (n d : Int) (w : World) (hn : n < 9223372036854775808) :
    Calls Tryz.prog 151 #[.int .i64 n, .int .i64 d] w fun e w' => e = .returned (.tuple #[.string (octV n d), .bool (octOk n d)]) ∧ w = w' := by
  cases h : octOk n d
  · rw [octV, if_neg (by simp [h])]; exact roct_no n d w hn h
  · rw [octV, if_pos h]; exact roct_yes n d w hn h
theorem put_all (n wide : Int) (w : World) (hn : n < 9223372036854775808) :
    Calls Tryz.prog 145 #[.int .i64 n, .int .i64 wide] w fun e w' => ∃ v, e = .returned (.tuple #[v, .bool (putOk n wide)]) ∧ Own w' w.heap.size 5 v (bs (putV n wide)) ∧ Below w.heap.size w w' := by
  cases h : putOk n wide
  · rw [putV, if_neg (by simp [h])]; exact (put_no n wide w hn h).mono fun _ _ hh => ⟨_, hh.1, Own.nil _ _ _, hh.2⟩
  · rw [putV, if_pos h]; exact put_yes n wide w hn h
theorem rput_all (n wide : Int) (w : World) (hn : n < 9223372036854775808) :
    Calls Tryz.prog 150 #[.int .i64 n, .int .i64 wide] w fun e w' => ∃ v, e = .returned (.tuple #[v, .bool (putOk n wide)]) ∧ Own w' w.heap.size 5 v (bs (putV n wide)) ∧ Below w.heap.size w w' := by
  cases h : putOk n wide
  · rw [putV, if_neg (by simp [h])]; exact (rput_no n wide w hn h).mono fun _ _ hh => ⟨_, hh.1, Own.nil _ _ _, hh.2⟩
  · rw [putV, if_pos h]; exact rput_yes n wide w hn h
theorem get_all (l : List UInt8) (v : Value) (B : Nat) (w : World) (hv : Rd w B v (bs l)) (hB : B ≤ w.heap.size) (hbig : l.length < 9223372036854775808) :
    Calls Tryz.prog 128 #[v] w fun e w' => GetIs l e ∧ Below w.heap.size w w' := by
  by_cases hex : ∃ N, IsNum l N
  · obtain ⟨N, hN⟩ := hex
    refine (get_yes l N v B w hv hB hN).mono fun e w' h => ⟨⟨fun M hM => ?_, fun hno => absurd hN (hno N)⟩, h.2⟩
    rw [hM.same hN]
    exact h.1
  · exact (get_no l v B w hv hB hbig (fun N hN => hex ⟨N, hN⟩)).mono fun e w' h => ⟨⟨fun M hM => absurd ⟨M, hM⟩ hex, fun _ => h.1⟩, h.2⟩
/-- There is just one answer of Get. -/
theorem getIs_form (l : List UInt8) : ∃ (x : Int) (b : Bool), ∀ e, GetIs l e → e = .returned (.tuple #[.int .i64 x, .bool b]) := by
  by_cases hex : ∃ N, IsNum l N
  · obtain ⟨N, hN⟩ := hex
    exact ⟨N, true, fun e he => he.1 N hN⟩
  · exact ⟨0, false, fun e he => he.2 fun N hN => hex ⟨N, hN⟩⟩

end Go.Proofs.YtopihahjjcpnpaaGreatDoor.Num

