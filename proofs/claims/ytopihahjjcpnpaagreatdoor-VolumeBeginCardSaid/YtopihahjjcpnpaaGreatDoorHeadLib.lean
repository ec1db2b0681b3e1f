/-
  What the library's functions that package head comes to return (strings.IndexByte, strings.Cut at a nought, bytes.Equal), and whether bytes are noughts: no statement is proved here.
-/
import Derived.Test.YtopihahjjcpnpaaGreatDoorProg
import Derived.Test.YtopihahjjcpnpaaGreatDoorHeadPut
import Derived.Test.YtopihahjjcpnpaaGreatDoorBase
import Derived.Lib.Bytealg
import Derived.Lib.Strings
import Derived.Lib.Walk
import Derived.BigQuiet
import Derived.Deep.QuietTactic
namespace Go.Proofs.YtopihahjjcpnpaaGreatDoor.Head
open Go.RowKit Go.Proofs.YtopihahjjcpnpaaGreatDoor.Base Go.Proofs.YtopihahjjcpnpaaGreatDoor.Str

theorem indexByte_upto (l : L) : Lib.indexByte l 0 = if (0 : UInt8) ∈ l then ((upto l).length : Int) else -1 := by
  induction l with
  | nil => rfl
  | cons c l ih =>
    unfold Lib.indexByte
    by_cases hc : c = 0
    · subst hc; simp [upto]
    · have hc' : ¬ 0 = c := fun e => hc e.symm
      have hu : upto (c :: l) = c :: upto l := by simp [upto, hc]
      rw [hu]
      simp only [hc, beq_iff_eq, if_false, ih, List.mem_cons, hc', false_or]
      split
      · simp
      · simp
theorem upto_none {l : L} (h : (0 : UInt8) ∉ l) : upto l = l := by
  unfold upto
  induction l with
  | nil => rfl
  | cons c l ih =>
    have hc : c ≠ 0 := by rintro rfl; simp at h
    have h2 : (0 : UInt8) ∉ l := fun hm => h (by simp [hm])
    simp [hc, ih h2]
theorem upto_take (l : L) : l.take (upto l).length = upto l := by
  unfold upto
  induction l with
  | nil => rfl
  | cons c l ih => by_cases hc : c = 0 <;> simp [hc, ih]
theorem upto_lt {l : L} (h : (0 : UInt8) ∈ l) : (upto l).length < l.length := by
  unfold upto
  induction l with
  | nil => simp at h
  | cons c l ih =>
    by_cases hc : c = 0
    · simp [hc]
    · have : (0 : UInt8) ∈ l := by
        rcases List.mem_cons.1 h with e | e
        · exact absurd e.symm hc
        · exact e
      simp [hc]
      exact ih this

set_option maxRecDepth 100000 in
theorem lIndexByte (s : ByteArray) (c : Int) (w : World) :
    Calls Tryz.prog 152 #[.string s, .int .u8 c] w fun e w' => e = .returned (.int .i64 (Lib.indexByte s.data.toList c.toNat.toUInt8)) ∧ w = w' := by
  go_enter Tryz.func152, Tryz.ntmps152
  go_wp2
  rw [run_callFunc_extern Tryz.func178 (by kernel_rfl) (by kernel_rfl) (by kernel_rfl) (e := Extern.BytealgIndexByte.indexByte) (by kernel_rfl), Lib.run_indexByteString]
  simp only [Result.andThen]
  rw [Oper.upon_value]
  go_wp2
  go_ret
  exact ⟨rfl, rfl⟩

set_option maxRecDepth 100000 in
theorem indexByte_any (s : ByteArray) (c : Int) (w : World) :
    Calls Tryz.prog 118 #[.string s, .int .u8 c] w fun e w' => e = .returned (.int .i64 (Lib.indexByte s.data.toList c.toNat.toUInt8)) ∧ w = w' := by
  go_enter Tryz.func118, Tryz.ntmps118
  go_wp2_with fail
  refine (lIndexByte _ _ _).mono ?_
  rintro e w' ⟨rfl, rfl⟩
  go_wp2_with fail
  go_ret
  exact ⟨rfl, rfl⟩

theorem indexByte_l (s : L) (c : Int) (w : World) :
    Calls Tryz.prog 118 #[.string ⟨s.toArray⟩, .int .u8 c] w fun e w' => e = .returned (.int .i64 (Lib.indexByte s c.toNat.toUInt8)) ∧ w = w' := indexByte_any ⟨s.toArray⟩ c w

set_option maxHeartbeats 2000000 in
set_option maxRecDepth 100000 in
theorem lIndex (s : ByteArray) (w : World) :
    Calls Tryz.prog 165 #[.string s, .string ⟨#[0]⟩] w fun e w' => e = .returned (.int .i64 (Lib.indexByte s.data.toList 0)) ∧ w = w' := by
  go_enter Tryz.func165, Tryz.ntmps165
  go_wp2_with (go_at_call 152; refine (lIndexByte _ _ _).mono ?_; rintro e w' ⟨rfl, rfl⟩)
  · have h : ([0] == s.toList) = true := by assumption
    go_ret
    refine ⟨?_, rfl⟩
    have e : s.data.toList = [0] := by rw [← Lib.toList_data]; exact (beq_iff_eq.1 h).symm
    rw [e]
    simp [Lib.indexByte]
  · go_ret
    exact ⟨rfl, rfl⟩

set_option maxHeartbeats 2000000 in
set_option maxRecDepth 100000 in
theorem lCut (s : L) (w : World) (hs : s.length ≤ 9223372036854775807) :
    Calls Tryz.prog 131 #[.string ⟨s.toArray⟩, .string ⟨#[0]⟩] w fun e w' => ∃ b c, e = .returned (.tuple #[.string ⟨(upto s).toArray⟩, b, c]) ∧ ∃ n, w' = w.drewN n := by
  have hi := indexByte_upto s
  have hsz : (⟨s.toArray⟩ : ByteArray).size = s.length := by simp [ByteArray.size]
  by_cases h0 : (0 : UInt8) ∈ s
  · rw [if_pos h0] at hi
    have hlt := upto_lt h0
    obtain ⟨k, hk⟩ : ∃ k, k = (upto s).length := ⟨_, rfl⟩
    rw [← hk] at hi hlt
    have Ha : Hid ((⟨s.toArray⟩ : ByteArray).extract 0 k = ⟨(upto s).toArray⟩) := Lib.hid (ba_eq (by rw [extract_take, hk]; exact upto_take s))
    have Hi := Lib.hid hi
    obtain ⟨x, hx⟩ : ∃ x : ByteArray, x = ⟨s.toArray⟩ := ⟨_, rfl⟩
    have Hx := Lib.hid hx
    rw [← hx] at Ha hsz ⊢
    have hl2 : k + 1 ≤ x.size := by omega
    have hl3 : x.size ≤ 9223372036854775807 := by omega
    clear hi hk h0 hx hsz hlt hs
    go_enter Tryz.func131, Tryz.ntmps131
    go_wp2_with fail
    refine (lIndex _ _).mono ?_
    rintro e w' ⟨rfl, rfl⟩
    rw [show Lib.indexByte x.data.toList 0 = (k : Int) by rw [Hx.out]; exact Hi.out]
    have c1 : (0 : Int) ≤ ↑k := by omega
    have c2 : (↑k : Int) ≤ ↑x.size := by omega
    have c3 : (0 : Int) ≤ ↑k + 1 := by omega
    have c4 : (↑k + 1 : Int) ≤ ↑x.size := by omega
    go_wp2_with fail
    go_quiet (fail)
    all_goals go_wp2_with fail
    all_goals go_ret3
    all_goals exact ⟨_, _, by rw [← Ha.out]; rfl, _, rfl⟩
  · rw [if_neg h0] at hi
    have hu := upto_none h0
    rw [hu]
    have Hi := Lib.hid hi
    clear hi h0 hu hs hsz
    go_enter Tryz.func131, Tryz.ntmps131
    go_wp2_with fail
    refine (lIndex _ _).mono ?_
    rintro e w' ⟨rfl, rfl⟩
    rw [show Lib.indexByte (⟨s.toArray⟩ : ByteArray).data.toList 0 = -1 from Hi.out]
    go_wp2_with fail
    go_ret3
    exact ⟨_, _, rfl, 0, rfl⟩

set_option maxRecDepth 100000 in
theorem cut_any (s : L) (w : World) (hs : s.length ≤ 9223372036854775807) :
    Calls Tryz.prog 91 #[.string ⟨s.toArray⟩, .string ⟨#[0]⟩] w fun e w' => ∃ b c, e = .returned (.tuple #[.string ⟨(upto s).toArray⟩, b, c]) ∧ ∃ n, w' = w.drewN n := by
  have Hs := Lib.hid hs
  clear hs
  go_enter Tryz.func91, Tryz.ntmps91
  go_wp2_with fail
  refine (lCut s _ Hs.out).mono ?_
  rintro e w' ⟨b, c, rfl, n, rfl⟩
  go_wp2_with fail
  go_ret3
  exact ⟨_, _, rfl, n, rfl⟩

theorem str_rd {w : World} {A : Option Addr} {c : Nat} {l : L} (h : RdA w A c (bs l)) :
    (convert 43 9 (.slice A l.length c)).run Tryz.prog w = .ok (.string ⟨l.toArray⟩) w := by
  have h' := h
  unfold RdA at h'
  rw [bs_length] at h'
  exact run_string_rd (P := Tryz.prog) w 43 9 5 Tryz.underlying43 Tryz.underlying5 Tryz.underlying9 _ _ _ h'

set_option maxRecDepth 100000 in
theorem equal_s (l m : L) (A B : Option Addr) (c d : Nat) (w : World) (ha : RdA w A c (bs l)) (hb : RdA w B d (bs m)) :
    Calls Tryz.prog 51 #[.slice A l.length c, .slice B m.length d] w fun e w' => e = .returned (.bool (l == m)) ∧ Stp w w' := by
  have h0 := Stp.refl w
  have c1 := str_rd ha
  have c2 := str_rd hb
  go_enter Tryz.func51, Tryz.ntmps51
  go_wp2_with fail
  go_ret
  exact ⟨rfl, h0⟩

/-- Noughts alone? -/
def zeroV (b : L) : Bool := b.all fun x => decide (x = 0)
theorem zeroV_iff {b : L} : zeroV b = true ↔ b = zeros b.length := by
  unfold zeroV zeros
  rw [List.eq_replicate_iff]
  simp
theorem zeroV_step {l : L} {k : Nat} {x : UInt8} (hl : l[k]? = some x) (h : zeroV (l.take k) = true) : zeroV (l.take (k + 1)) = decide (x = 0) := by
  unfold zeroV at h ⊢
  rw [List.take_add_one, hl, List.all_append, h]
  simp
theorem zeroV_no {l : L} {k : Nat} {x : UInt8} (hl : l[k]? = some x) (h : x ≠ 0) : zeroV l = false := by
  rw [Bool.eq_false_iff]
  intro hm
  simp only [zeroV, List.all_eq_true, decide_eq_true_eq] at hm
  exact h (hm x (List.mem_of_getElem? hl))


set_option maxRecDepth 100000 in
theorem zero_s (l : L) (A : Option Addr) (c : Nat) (w : World) (ha : RdA w A c (bs l)) (hl : l.length < 9223372036854775808) :
    Calls Tryz.prog 27 #[.slice A l.length c] w fun e w' => e = .returned (.bool (zeroV l)) ∧ Stp w w' := by
  obtain ⟨r, hr⟩ : ∃ r, zeroV l = r := ⟨_, rfl⟩
  rw [hr]
  have Hr := Lib.hid hr
  clear hr
  go_enter Tryz.func27, Tryz.ntmps27
  go_wp2_with fail
  go_loopw [7] (fun i wr => ∃ k : Nat, k ≤ l.length ∧ i = .int .i64 k ∧ Stp w wr ∧ Hid (zeroV (l.take k) = true)) (fun i _ => l.length - (intOf i).toNat)
  case atStart => exact ⟨0, by omega, rfl, Stp.refl w, Lib.hid (by simp [zeroV])⟩
  case round =>
    obtain ⟨k, hk, rfl, h0, Hk⟩ := hrel
    by_cases hlt : k < l.length
    · obtain ⟨x, hl1⟩ : ∃ x, l[k]? = some x := ⟨_, List.getElem?_eq_getElem hlt⟩
      obtain ⟨b, o, rfl, hcell⟩ := (ha.keep h0).at_ (j := k) (by rw [bs_length]; exact hlt)
      have ca := hcell k (.int .u8 (x.toNat : Int)) (by rw [bs_at hlt, ← (List.getElem?_eq_some_iff.1 hl1).2])
      have Hs := Lib.hid (zeroV_step hl1 Hk.out)
      have Hl1 := Lib.hid hl1
      clear hl1 hcell
      by_cases h5 : x = 0
      · have g : ((x.toNat : Int) != 0) = false := by simp [h5]
        have H5 := Lib.hid h5
        clear h5
        go_wp2_with fail
        go_roundw
        case rel => exact ⟨k + 1, by omega, by go_num, h0, Lib.hid (by rw [Hs.out]; exact decide_eq_true H5.out)⟩
        case measure => simp [intOf]; omega
      · have g : ((x.toNat : Int) != 0) = true := by
          rw [bne_iff_ne]
          intro h
          exact h5 (UInt8.toNat_inj.1 (by show x.toNat = 0; omega))
        have H5 := Lib.hid h5
        clear h5
        go_wp2_with fail
        go_ret
        refine ⟨?_, h0⟩
        rw [← Hr.out, zeroV_no Hl1.out H5.out]
        rfl
    · obtain rfl : k = l.length := by omega
      go_wp2_with fail
      go_ret
      refine ⟨?_, h0⟩
      have h := Hk.out
      rw [List.take_length] at h
      rw [← Hr.out, h]
      rfl

end Go.Proofs.YtopihahjjcpnpaaGreatDoor.Head
