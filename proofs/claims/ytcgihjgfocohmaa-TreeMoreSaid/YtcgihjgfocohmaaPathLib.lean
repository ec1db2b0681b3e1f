/-
  What the library's functions on strings return at this program's numbers (IndexByte, HasPrefix, Cut at a slash, LastIndexByte): no statement is proved here.
-/
import Derived.Test.YtcgihjgfocohmaaProg
import Derived.Test.YtcgihjgfocohmaaBase
import Derived.Test.YtcgihjgfocohmaaPathM
import Derived.Lib.Bytealg
import Derived.Lib.Strings
import Derived.Lib.Walk
import Derived.BigQuiet
import Derived.Deep.QuietTactic
namespace Go.Proofs.Ytcgihjgfocohmaa.Path
open Go.RowKit Go.Proofs.Ytcgihjgfocohmaa.Base Go.Proofs.Ytcgihjgfocohmaa.PathM

theorem ret_int {k : IntKind} {a b : Int} (h : a = b) : Ending.returned (.int k a) = .returned (.int k b) := by rw [h]
theorem ba_eq {s : ByteArray} {l : List UInt8} (h : s.data.toList = l) : s = ⟨l.toArray⟩ := by
  obtain ⟨⟨d⟩⟩ := s
  simp only at h
  subst h
  rfl
theorem ba_size (s : ByteArray) : s.data.toList.length = s.size := by rw [Array.length_toList]; rfl
theorem extract_take (s : ByteArray) (k : Nat) : (s.extract 0 k).data.toList = s.data.toList.take k := by
  simp [ByteArray.data_extract]
theorem extract_drop (s : ByteArray) (k : Nat) : (s.extract k s.size).data.toList = s.data.toList.drop k := by
  rw [ByteArray.data_extract, Array.toList_extract, List.extract_eq_take_drop, List.take_of_length_le]
  rw [List.length_drop, ba_size]
  exact Nat.le_refl _

set_option maxRecDepth 100000 in
theorem lIndexByte (s : ByteArray) (c : Int) (w : World) :
    Calls Try.prog 55 #[.string s, .int .u8 c] w fun e w' => e = .returned (.int .i64 (Lib.indexByte s.data.toList c.toNat.toUInt8)) ∧ w = w' := by
  go_enter Try.func55, Try.ntmps55
  go_wp2
  rw [run_callFunc_extern Try.func58 (by kernel_rfl) (by kernel_rfl) (by kernel_rfl) (e := Extern.BytealgIndexByte.indexByte) (by kernel_rfl), Lib.run_indexByteString]
  simp only [Result.andThen]
  rw [Oper.upon_value]
  go_wp2
  go_ret
  exact ⟨rfl, rfl⟩

set_option maxRecDepth 100000 in
theorem indexByte_any (s : ByteArray) (c : Int) (w : World) :
    Calls Try.prog 46 #[.string s, .int .u8 c] w fun e w' => e = .returned (.int .i64 (Lib.indexByte s.data.toList c.toNat.toUInt8)) ∧ w = w' := by
  go_enter Try.func46, Try.ntmps46
  go_wp2_with fail
  refine (lIndexByte _ _ _).mono ?_
  rintro e w' ⟨rfl, rfl⟩
  go_wp2_with fail
  go_ret
  exact ⟨rfl, rfl⟩

set_option maxRecDepth 100000 in
/-- Begins s by p? -/
theorem lHasPrefix (s p : ByteArray) (w : World) :
    Calls Try.prog 53 #[.string s, .string p] w fun e w' => e = .returned (.bool (prefB p.data.toList s.data.toList)) ∧ w = w' := by
  by_cases h : p.size ≤ s.size
  · have e : (prefB p.data.toList s.data.toList) = ((s.extract 0 p.size).toList == p.toList) := by
      rw [prefB, Lib.toList_data, Lib.toList_data, extract_take, Bool.eq_iff_iff, List.isPrefixOf_iff_prefix, beq_iff_eq, List.prefix_iff_eq_take, ba_size]
      exact eq_comm
    rw [e]
    clear e
    have h' : decide (p.size ≤ s.size) = true := by simpa using h
    go_enter Try.func53, Try.ntmps53
    go_wp2_with fail
    go_ret
    exact ⟨rfl, rfl⟩
  · have e : (prefB p.data.toList s.data.toList) = false := by
      rw [prefB, Bool.eq_false_iff]
      intro hp
      have := (List.isPrefixOf_iff_prefix.1 hp).length_le
      rw [ba_size, ba_size] at this
      exact h this
    rw [e]
    clear e
    have h' : decide (p.size ≤ s.size) = false := by simpa using h
    go_enter Try.func53, Try.ntmps53
    go_wp2_with fail
    go_ret
    exact ⟨rfl, rfl⟩
set_option maxRecDepth 100000 in
theorem hasPrefix_any (s p : ByteArray) (w : World) :
    Calls Try.prog 37 #[.string s, .string p] w fun e w' => e = .returned (.bool (prefB p.data.toList s.data.toList)) ∧ w = w' := by
  go_enter Try.func37, Try.ntmps37
  go_wp2_with fail
  refine (lHasPrefix _ _ _).mono ?_
  rintro e w' ⟨rfl, rfl⟩
  go_wp2_with fail
  go_ret
  exact ⟨rfl, rfl⟩

set_option maxHeartbeats 2000000 in
set_option maxRecDepth 100000 in
theorem lIndex (s : ByteArray) (w : World) :
    Calls Try.prog 60 #[.string s, .string ⟨#[47]⟩] w fun e w' => e = .returned (.int .i64 (Lib.indexByte s.data.toList 47)) ∧ w = w' := by
  go_enter Try.func60, Try.ntmps60
  go_wp2_with (go_at_call 55; refine (lIndexByte _ _ _).mono ?_; rintro e w' ⟨rfl, rfl⟩)
  · have h : ([47] == s.toList) = true := by assumption
    go_ret
    refine ⟨?_, rfl⟩
    have e : s.data.toList = [47] := by rw [← Lib.toList_data]; exact (beq_iff_eq.1 h).symm
    rw [e]
    simp [Lib.indexByte]
  · go_ret
    exact ⟨rfl, rfl⟩

set_option maxHeartbeats 2000000 in
set_option maxRecDepth 100000 in
theorem lCut_yes (s : ByteArray) (a b : L) (w : World) (hs : s.size ≤ 9223372036854775807) (h : firstCut s.data.toList = some (a, b)) :
    Calls Try.prog 59 #[.string s, .string ⟨#[47]⟩] w fun e w' => e = .returned (.tuple #[.string ⟨a.toArray⟩, .string ⟨b.toArray⟩, .bool true]) ∧ ∃ n, w' = w.drewN n := by
  have hi := indexByte_some h
  have hlen := firstCut_len h
  rw [ba_size] at hlen
  obtain ⟨k, hk⟩ : ∃ k, k = a.length := ⟨_, rfl⟩
  rw [← hk] at hi hlen
  have hl2 : k + 1 ≤ s.size := by omega
  have Ha : Hid (s.extract 0 k = ⟨a.toArray⟩) := Lib.hid (ba_eq (by
    rw [extract_take, (firstCut_some h).1, hk, List.take_left]))
  have Hb : Hid (s.extract (k + 1) s.size = ⟨b.toArray⟩) := Lib.hid (ba_eq (by
    rw [extract_drop, (firstCut_some h).1, hk, show a.length + 1 = (a ++ [47]).length by simp, show a ++ 47 :: b = (a ++ [47]) ++ b by simp, List.drop_left]))
  have Hi := Lib.hid hi
  clear hi hlen hk h
  go_enter Try.func59, Try.ntmps59
  go_wp2_with fail
  refine (lIndex _ _).mono ?_
  rintro e w' ⟨rfl, rfl⟩
  rw [Hi.out]
  have c1 : (0 : Int) ≤ ↑k := by omega
  have c2 : (↑k : Int) ≤ ↑s.size := by omega
  have c3 : (0 : Int) ≤ ↑k + 1 := by omega
  have c4 : (↑k + 1 : Int) ≤ ↑s.size := by omega
  go_wp2_with fail
  go_quiet (fail)
  all_goals go_wp2_with fail
  all_goals go_ret3
  all_goals exact ⟨by rw [← Ha.out, ← Hb.out]; rfl, _, rfl⟩

set_option maxHeartbeats 2000000 in
set_option maxRecDepth 100000 in
theorem lCut_no (s : ByteArray) (w : World) (h : firstCut s.data.toList = none) :
    Calls Try.prog 59 #[.string s, .string ⟨#[47]⟩] w fun e w' => e = .returned (.tuple #[.string s, .string ⟨#[]⟩, .bool false]) ∧ ∃ n, w' = w.drewN n := by
  have Hi := Lib.hid (indexByte_none h)
  clear h
  go_enter Try.func59, Try.ntmps59
  go_wp2_with fail
  refine (lIndex _ _).mono ?_
  rintro e w' ⟨rfl, rfl⟩
  rw [Hi.out]
  go_wp2_with fail
  go_ret3
  exact ⟨rfl, 0, rfl⟩

set_option maxRecDepth 100000 in
theorem cut_yes (s : ByteArray) (a b : L) (w : World) (hs : s.size ≤ 9223372036854775807) (h : firstCut s.data.toList = some (a, b)) :
    Calls Try.prog 57 #[.string s, .string ⟨#[47]⟩] w fun e w' => e = .returned (.tuple #[.string ⟨a.toArray⟩, .string ⟨b.toArray⟩, .bool true]) ∧ ∃ n, w' = w.drewN n := by
  have H := Lib.hid h
  clear h
  go_enter Try.func57, Try.ntmps57
  go_wp2_with fail
  refine (lCut_yes s a b _ hs H.out).mono ?_
  rintro e w' ⟨rfl, n, rfl⟩
  go_wp2_with fail
  go_ret3
  exact ⟨rfl, n, rfl⟩
set_option maxRecDepth 100000 in
theorem cut_no (s : ByteArray) (w : World) (h : firstCut s.data.toList = none) :
    Calls Try.prog 57 #[.string s, .string ⟨#[47]⟩] w fun e w' => e = .returned (.tuple #[.string s, .string ⟨#[]⟩, .bool false]) ∧ ∃ n, w' = w.drewN n := by
  have H := Lib.hid h
  clear h
  go_enter Try.func57, Try.ntmps57
  go_wp2_with fail
  refine (lCut_no s _ H.out).mono ?_
  rintro e w' ⟨rfl, n, rfl⟩
  go_wp2_with fail
  go_ret3
  exact ⟨rfl, n, rfl⟩

/-- The last place of a byte. -/
def lastI (l : L) : Int := match lastCut l with | some (a, _) => a.length | none => -1
theorem lastI_some {l a b : L} (h : lastCut l = some (a, b)) : lastI l = a.length := by unfold lastI; rw [h]
theorem lastI_none {l : L} (h : lastCut l = none) : lastI l = -1 := by unfold lastI; rw [h]

set_option maxHeartbeats 2000000 in
set_option maxRecDepth 100000 in
theorem lLast (s : ByteArray) (w : World) (hs : s.size ≤ 9223372036854775807) :
    Calls Try.prog 54 #[.string s, .int .u8 47] w fun e w' => e = .returned (.int .i64 (lastI s.data.toList)) ∧ w = w' := by
  have HL : ∃ q : Int, q = lastI s.data.toList := ⟨_, rfl⟩
  obtain ⟨q, hq⟩ := HL
  have Hq := Lib.hid hq
  rw [← hq]
  clear hq
  go_enter Try.func54, Try.ntmps54
  go_wp2_with fail
  go_loop [5] (fun i => ∃ k : Nat, k ≤ s.size ∧ i = .int .i64 ((k : Int) - 1) ∧ Hid ((47 : UInt8) ∉ s.data.toList.drop k)) (fun i => (intOf i + 1).toNat)
  case atStart => exact ⟨s.size, Nat.le_refl _, rfl, Lib.hid (by rw [List.drop_of_length_le (by rw [ba_size]; omega)]; simp)⟩
  case round =>
    obtain ⟨k, hk, rfl, Hk⟩ := hrel
    cases k with
    | zero =>
      go_wp2_with fail
      go_ret
      refine ⟨?_, rfl⟩
      rw [Hq.out, lastI_none (lastCut_one (by simpa using Hk.out))]
      rfl
    | succ k =>
      have hlt : k < s.size := by omega
      have hs1 : (((k + 1 : Nat) : Int) - 1) = (k : Int) := by omega
      rw [hs1]
      have hd : s.data.toList.drop k = s[k] :: s.data.toList.drop (k + 1) := by
        rw [List.drop_eq_getElem_cons (by rw [ba_size]; exact hlt)]; rfl
      have Hd := Lib.hid hd
      clear hd hs1
      by_cases hc : s[k] = 47
      · have hcc : ((s[k].toNat : Int) == 47) = true := by rw [hc]; rfl
        have Hc := Lib.hid hc
        clear hc
        go_wp2_with fail
        go_ret
        refine ⟨?_, rfl⟩
        have e : s.data.toList = s.data.toList.take k ++ 47 :: s.data.toList.drop (k + 1) := by
          conv => lhs; rw [← List.take_append_drop k s.data.toList, Hd.out, Hc.out]
        have h := lastI_some (lastCut_of (a := s.data.toList.take k) Hk.out)
        rw [← e, List.length_take, Nat.min_eq_left (by rw [ba_size]; omega)] at h
        rw [Hq.out, h]
        rfl
      · have hcc : ((s[k].toNat : Int) == 47) = false := by
          rw [beq_eq_false_iff_ne]
          intro h
          exact hc (UInt8.toNat_inj.1 (by show s[k].toNat = 47; omega))
        have Hc := Lib.hid hc
        clear hc
        go_wp2_with fail
        go_round
        case rel =>
          refine ⟨k, by omega, rfl, Lib.hid ?_⟩
          rw [Hd.out, List.mem_cons, not_or]
          exact ⟨fun e => Hc.out e.symm, Hk.out⟩
        case measure => simp [intOf]

set_option maxRecDepth 100000 in
theorem last_any (s : ByteArray) (w : World) (hs : s.size ≤ 9223372036854775807) :
    Calls Try.prog 38 #[.string s, .int .u8 47] w fun e w' => e = .returned (.int .i64 (lastI s.data.toList)) ∧ w = w' := by
  go_enter Try.func38, Try.ntmps38
  go_wp2_with fail
  refine (lLast s _ hs).mono ?_
  rintro e w' ⟨rfl, rfl⟩
  go_wp2_with fail
  go_ret
  exact ⟨rfl, rfl⟩

/-! ### the same, over lists -/
theorem indexByte_l (s : L) (c : Int) (w : World) :
    Calls Try.prog 46 #[.string ⟨s.toArray⟩, .int .u8 c] w fun e w' => e = .returned (.int .i64 (Lib.indexByte s c.toNat.toUInt8)) ∧ w = w' := indexByte_any ⟨s.toArray⟩ c w
theorem hasPrefix_l (s p : L) (w : World) :
    Calls Try.prog 37 #[.string ⟨s.toArray⟩, .string ⟨p.toArray⟩] w fun e w' => e = .returned (.bool (prefB p s)) ∧ w = w' := hasPrefix_any ⟨s.toArray⟩ ⟨p.toArray⟩ w
theorem last_l (s : L) (w : World) (hs : s.length ≤ 9223372036854775807) :
    Calls Try.prog 38 #[.string ⟨s.toArray⟩, .int .u8 47] w fun e w' => e = .returned (.int .i64 (lastI s)) ∧ w = w' := last_any ⟨s.toArray⟩ w (by simpa [ByteArray.size] using hs)
end Go.Proofs.Ytcgihjgfocohmaa.Path
