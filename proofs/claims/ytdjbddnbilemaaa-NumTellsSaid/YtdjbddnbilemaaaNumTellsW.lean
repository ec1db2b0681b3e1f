/-
  The walk of the statement NumTells: the law returns true and writes nothing that was there; the statement itself is proved in a text of its own.
-/
import Derived.Test.YtdjbddnbilemaaaNumRefGet
namespace Go.Proofs.Ytdjbddnbilemaaa.Num
open Go.RowKit Go.Proofs.Ytdjbddnbilemaaa.Base Go.Proofs.Ytdjbddnbilemaaa.NumM

/-- What Octal answers. -/
def octV (n d : Int) : ByteArray := if octOk n d = true then ⟨(octs d.toNat n.toNat).toArray⟩ else ⟨#[]⟩
def putV (n wide : Int) : List UInt8 := if putOk n wide = true then putL wide.toNat n.toNat else []

theorem oct_all (n d : Int) (w : World) (hn : n < 9223372036854775808) :
    Calls Try.prog 11 #[.int .i64 n, .int .i64 d] w fun e w' => e = .returned (.tuple #[.string (octV n d), .bool (octOk n d)]) ∧ Below w.heap.size w w' := by
  cases h : octOk n d
  · rw [octV, if_neg (by simp [h])]; exact oct_no n d w hn h
  · rw [octV, if_pos h]; exact oct_yes n d w hn h
theorem roct_all (n d : Int) (w : World) (hn : n < 9223372036854775808) :
    Calls Try.prog 12 #[.int .i64 n, .int .i64 d] w fun e w' => e = .returned (.tuple #[.string (octV n d), .bool (octOk n d)]) ∧ w = w' := by
  cases h : octOk n d
  · rw [octV, if_neg (by simp [h])]; exact roct_no n d w hn h
  · rw [octV, if_pos h]; exact roct_yes n d w hn h
theorem put_all (n wide : Int) (w : World) (hn : n < 9223372036854775808) :
    Calls Try.prog 13 #[.int .i64 n, .int .i64 wide] w fun e w' => ∃ v, e = .returned (.tuple #[v, .bool (putOk n wide)]) ∧ Own w' w.heap.size 5 v (bs (putV n wide)) ∧ Below w.heap.size w w' := by
  cases h : putOk n wide
  · rw [putV, if_neg (by simp [h])]; exact (put_no n wide w hn h).mono fun _ _ hh => ⟨_, hh.1, Own.nil _ _ _, hh.2⟩
  · rw [putV, if_pos h]; exact put_yes n wide w hn h
theorem rput_all (n wide : Int) (w : World) (hn : n < 9223372036854775808) :
    Calls Try.prog 14 #[.int .i64 n, .int .i64 wide] w fun e w' => ∃ v, e = .returned (.tuple #[v, .bool (putOk n wide)]) ∧ Own w' w.heap.size 5 v (bs (putV n wide)) ∧ Below w.heap.size w w' := by
  cases h : putOk n wide
  · rw [putV, if_neg (by simp [h])]; exact (rput_no n wide w hn h).mono fun _ _ hh => ⟨_, hh.1, Own.nil _ _ _, hh.2⟩
  · rw [putV, if_pos h]; exact rput_yes n wide w hn h
theorem get_all (l : List UInt8) (v : Value) (B : Nat) (w : World) (hv : Rd w B v (bs l)) (hB : B ≤ w.heap.size) (hbig : l.length < 9223372036854775808) :
    Calls Try.prog 15 #[v] w fun e w' => GetIs l e ∧ Below w.heap.size w w' := by
  by_cases hex : ∃ N, IsNum l N
  · obtain ⟨N, hN⟩ := hex
    refine (get_yes l N v B w hv hB hN).mono fun e w' h => ⟨⟨fun M hM => ?_, fun hno => absurd hN (hno N)⟩, h.2⟩
    rw [hM.same hN]
    exact h.1
  · exact (get_no l v B w hv hB hbig (fun N hN => hex ⟨N, hN⟩)).mono fun e w' h => ⟨⟨fun M hM => absurd ⟨M, hM⟩ hex, fun _ => h.1⟩, h.2⟩
/-- There is just one answer of Get. -/
theorem getIs_form (l : List UInt8) : ∃ (x : Int) (b : Bool), ∀ e, GetIs l e → e = .returned (.tuple #[.int .i64 x, .bool b]) := by
  by_cases hex : ∃ N, IsNum l N
  · obtain ⟨N, hN⟩ := hex
    exact ⟨N, true, fun e he => he.1 N hN⟩
  · exact ⟨0, false, fun e he => he.2 fun N hN => hex ⟨N, hN⟩⟩

set_option maxHeartbeats 1600000 in
set_option maxRecDepth 100000 in
theorem tells_long (n wide : Int) (l : List UInt8) (v : Value) (B : Nat) (w : World) (hv : Rd w B v (bs l)) (hbig : l.length < 9223372036854775808) (hl : 60 < l.length) :
    Calls Try.prog 3 #[.int .i64 n, .int .i64 wide, v] w fun e w' => e = .returned (.bool true) ∧ Below w.heap.size w w' := by
  obtain ⟨A, cap, rfl, _, _⟩ := hv
  rw [bs_length]
  have g0 : decide ((60 : Int) < (l.length : Int)) = true := by simp; omega
  go_enter Try.func3, Try.ntmps3
  go_wp2_with fail
  refine (awake_any w).mono ?_
  rintro e w1 ⟨rfl, hb1⟩
  have Hb1 := Lib.hid hb1
  clear hb1
  go_wp2_with fail
  go_ret
  exact ⟨rfl, Hb1.out⟩

set_option maxHeartbeats 3200000 in
set_option maxRecDepth 100000 in
theorem tells_short (n wide : Int) (l : List UInt8) (v : Value) (w : World) (hn : n < 9223372036854775808) (hv : Rd w w.heap.size v (bs l)) (hl : l.length ≤ 60) :
    Calls Try.prog 3 #[.int .i64 n, .int .i64 wide, v] w fun e w' => e = .returned (.bool true) ∧ Below w.heap.size w w' := by
  have Hv := Lib.hid hv
  obtain ⟨A, cap, rfl, _, _⟩ := hv
  rw [bs_length] at Hv ⊢
  have g0 : decide ((60 : Int) < (l.length : Int)) = false := by simp; omega
  obtain ⟨x, b, hget⟩ := getIs_form l
  have Hget := Lib.hid hget
  clear hget
  go_enter Try.func3, Try.ntmps3
  go_wp2_with fail
  refine (awake_any w).mono ?_
  rintro e w1 ⟨rfl, hb1⟩
  have Hb1 := Lib.hid hb1
  clear hb1
  go_wp2_with fail
  refine (oct_all n wide w1 hn).mono ?_
  rintro e w2 ⟨rfl, hb2⟩
  have Hb2 := Lib.hid (Hb1.out.trans (hb2.mono Hb1.out.size))
  clear hb2 Hb1
  generalize hsv : octV n wide = s
  generalize hok : octOk n wide = ok
  have Hsv := Lib.hid hsv
  have Hok := Lib.hid hok
  clear hsv hok
  go_wp2_with fail
  refine (roct_all n wide w2 hn).mono ?_
  rintro e w2' ⟨rfl, rfl⟩
  rw [Hsv.out, Hok.out]
  go_wp2_with fail
  refine (put_all n wide w2 hn).mono ?_
  rintro e w3 ⟨p, rfl, hp, hb3⟩
  have Hb3 := Lib.hid (Hb2.out.trans (hb3.mono Hb2.out.size))
  have Hp3 := Lib.hid hp
  clear hb3 Hb2 hp
  generalize hpk : putOk n wide = pk
  have Hpk := Lib.hid hpk
  clear hpk
  go_wp2_with fail
  refine (rput_all n wide w3 hn).mono ?_
  rintro e w4 ⟨q, rfl, hq, hb4⟩
  rw [Hpk.out]
  have Hb4 := Lib.hid (Hb3.out.trans (hb4.mono Hb3.out.size))
  have Hp4 := Lib.hid (Hp3.out.keep hb4)
  have Hq4 := Lib.hid hq
  clear hb4 Hb3 hq Hp3
  go_wp2_with fail
  refine (get_all l _ _ w4 (Hv.out.keep Hb4.out) Hb4.out.size (by omega)).mono ?_
  rintro e w5 ⟨hg5, hb5⟩
  obtain rfl := Hget.out e hg5
  have Hb5 := Lib.hid (Hb4.out.trans (hb5.mono Hb4.out.size))
  have Hp5 := Lib.hid (Hp4.out.keep hb5)
  have Hq5 := Lib.hid (Hq4.out.keep hb5)
  clear hb5 Hb4 Hq4 Hp4 hg5
  go_wp2_with fail
  refine (rget_any l _ _ w5 (Hv.out.keep Hb5.out) Hb5.out.size (by omega)).mono ?_
  rintro e w6 ⟨hg6, hb6⟩
  obtain rfl := Hget.out e hg6
  have Hb6 := Lib.hid (Hb5.out.trans (hb6.mono Hb5.out.size))
  have Hp6 := Lib.hid (Hp5.out.keep hb6)
  have Hq6 := Lib.hid (Hq5.out.keep hb6)
  clear hb6 Hb5 Hq5 Hp5 hg6
  go_wp2_with fail
  refine (rplain_any n wide w6 hn).mono ?_
  rintro e w6' ⟨rfl, rfl⟩
  generalize hpl : plainOk n wide = pl
  have Hpl := Lib.hid hpl
  have hcp := str_of w6 _ _ _ Hp6.out.rd
  have hcq := str_of w6 _ _ _ Hq6.out.rd
  clear hpl Hp6 Hq6
  generalize putV n wide = z at hcp hcq
  go_wp2_with fail
  refine (plain_any n wide w6 hn).mono ?_
  rintro e w7 ⟨rfl, hb7⟩
  rw [Hpl.out]
  have Hb7 := Lib.hid (Hb6.out.trans (hb7.mono Hb6.out.size))
  clear hb7 Hb6
  go_wp2_with fail
  go_ret
  exact ⟨rfl, Hb7.out⟩

theorem tells_walk (n wide : Int) (l : List UInt8) (v : Value) (w : World) (hn : n < 9223372036854775808) (hv : Rd w w.heap.size v (bs l)) (hbig : l.length < 9223372036854775808) :
    Calls Try.prog 3 #[.int .i64 n, .int .i64 wide, v] w fun e w' => e = .returned (.bool true) ∧ Below w.heap.size w w' := by
  by_cases hl : 60 < l.length
  · exact tells_long n wide l v _ w hv hbig hl
  · exact tells_short n wide l v w hn hv (by omega)
end Go.Proofs.Ytdjbddnbilemaaa.Num
