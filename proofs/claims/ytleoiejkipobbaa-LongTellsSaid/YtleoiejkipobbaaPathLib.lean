/-
  What the library's functions on strings return at this program's numbers (IndexByte, HasPrefix, Cut at a slash, LastIndexByte): no statement is proved here.
-/
import Derived.Test.YtleoiejkipobbaaProg
import Derived.Test.YtleoiejkipobbaaBase
import Derived.Test.YtleoiejkipobbaaPathM
import Derived.Lib.Bytealg
import Derived.Lib.Strings
import Derived.Lib.Walk
import Derived.BigQuiet
import Derived.Deep.QuietTactic
namespace Go.Proofs.Ytleoiejkipobbaa.Path
open Go.RowKit Go.Proofs.Ytleoiejkipobbaa.Base Go.Proofs.Ytleoiejkipobbaa.PathM

theorem ret_int {k : IntKind} {a b : Int} (h : a = b) : Ending.returned (.int k a) = .returned (.int k b) := by rw [h]
theorem ba_eq {s : ByteArray} {l : List UInt8} (h : s.data.toList = l) : s = ⟨l.toArray⟩ := by
  obtain ⟨⟨d⟩⟩ := s
  simp only at h
  subst h
  rfl
theorem ba_size (s : ByteArray) : s.data.toList.length = s.size := by rw [Array.length_toList]; rfl
theorem extract_take (s : ByteArray) (k : Nat) : (s.extract 0 k).data.toList = s.data.toList.take k := by
  simp [ByteArray.data_extract]
theorem extract_drop (s : ByteArray) (k : Nat) : (s.extract k s.size).data.toList = s.data.toList.drop k := by
  rw [ByteArray.data_extract, Array.toList_extract, List.extract_eq_take_drop, List.take_of_length_le]
  rw [List.length_drop, ba_size]
  exact Nat.le_refl _

set_option maxRecDepth 100000 in
theorem lIndexByte (s : ByteArray) (c : Int) (w : World) :
    Calls Try.prog 82 #[.string s, .int .u8 c] w fun e w' => e = .returned (.int .i64 (Lib.indexByte s.data.toList c.toNat.toUInt8)) ∧ w = w' := by
  go_enter Try.func82, Try.ntmps82
  go_wp2
  rw [run_callFunc_extern Try.func95 (by kernel_rfl) (by kernel_rfl) (by kernel_rfl) (e := Extern.BytealgIndexByte.indexByte) (by kernel_rfl), Lib.run_indexByteString]
  simp only [Result.andThen]
  rw [Oper.upon_value]
  go_wp2
  go_ret
  exact ⟨rfl, rfl⟩

set_option maxRecDepth 100000 in
theorem indexByte_any (s : ByteArray) (c : Int) (w : World) :
    Calls Try.prog 58 #[.string s, .int .u8 c] w fun e w' => e = .returned (.int .i64 (Lib.indexByte s.data.toList c.toNat.toUInt8)) ∧ w = w' := by
  go_enter Try.func58, Try.ntmps58
  go_wp2_with fail
  refine (lIndexByte _ _ _).mono ?_
  rintro e w' ⟨rfl, rfl⟩
  go_wp2_with fail
  go_ret
  exact ⟨rfl, rfl⟩

set_option maxHeartbeats 2000000 in
set_option maxRecDepth 100000 in
theorem lIndex (s : ByteArray) (w : World) :
    Calls Try.prog 98 #[.string s, .string ⟨#[47]⟩] w fun e w' => e = .returned (.int .i64 (Lib.indexByte s.data.toList 47)) ∧ w = w' := by
  go_enter Try.func98, Try.ntmps98
  go_wp2_with (go_at_call 82; refine (lIndexByte _ _ _).mono ?_; rintro e w' ⟨rfl, rfl⟩)
  · have h : ([47] == s.toList) = true := by assumption
    go_ret
    refine ⟨?_, rfl⟩
    have e : s.data.toList = [47] := by rw [← Lib.toList_data]; exact (beq_iff_eq.1 h).symm
    rw [e]
    simp [Lib.indexByte]
  · go_ret
    exact ⟨rfl, rfl⟩

set_option maxHeartbeats 2000000 in
set_option maxRecDepth 100000 in
theorem lCut_yes (s : ByteArray) (a b : L) (w : World) (hs : s.size ≤ 9223372036854775807) (h : firstCut s.data.toList = some (a, b)) :
    Calls Try.prog 93 #[.string s, .string ⟨#[47]⟩] w fun e w' => e = .returned (.tuple #[.string ⟨a.toArray⟩, .string ⟨b.toArray⟩, .bool true]) ∧ ∃ n, w' = w.drewN n := by
  have hi := indexByte_some h
  have hlen := firstCut_len h
  rw [ba_size] at hlen
  obtain ⟨k, hk⟩ : ∃ k, k = a.length := ⟨_, rfl⟩
  rw [← hk] at hi hlen
  have hl2 : k + 1 ≤ s.size := by omega
  have Ha : Hid (s.extract 0 k = ⟨a.toArray⟩) := Lib.hid (ba_eq (by
    rw [extract_take, (firstCut_some h).1, hk, List.take_left]))
  have Hb : Hid (s.extract (k + 1) s.size = ⟨b.toArray⟩) := Lib.hid (ba_eq (by
    rw [extract_drop, (firstCut_some h).1, hk, show a.length + 1 = (a ++ [47]).length by simp, show a ++ 47 :: b = (a ++ [47]) ++ b by simp, List.drop_left]))
  have Hi := Lib.hid hi
  clear hi hlen hk h
  go_enter Try.func93, Try.ntmps93
  go_wp2_with fail
  refine (lIndex _ _).mono ?_
  rintro e w' ⟨rfl, rfl⟩
  rw [Hi.out]
  have c1 : (0 : Int) ≤ ↑k := by omega
  have c2 : (↑k : Int) ≤ ↑s.size := by omega
  have c3 : (0 : Int) ≤ ↑k + 1 := by omega
  have c4 : (↑k + 1 : Int) ≤ ↑s.size := by omega
  go_wp2_with fail
  go_quiet (fail)
  all_goals go_wp2_with fail
  all_goals go_ret3
  all_goals exact ⟨by rw [← Ha.out, ← Hb.out]; rfl, _, rfl⟩

set_option maxHeartbeats 2000000 in
set_option maxRecDepth 100000 in
theorem lCut_no (s : ByteArray) (w : World) (h : firstCut s.data.toList = none) :
    Calls Try.prog 93 #[.string s, .string ⟨#[47]⟩] w fun e w' => e = .returned (.tuple #[.string s, .string ⟨#[]⟩, .bool false]) ∧ ∃ n, w' = w.drewN n := by
  have Hi := Lib.hid (indexByte_none h)
  clear h
  go_enter Try.func93, Try.ntmps93
  go_wp2_with fail
  refine (lIndex _ _).mono ?_
  rintro e w' ⟨rfl, rfl⟩
  rw [Hi.out]
  go_wp2_with fail
  go_ret3
  exact ⟨rfl, 0, rfl⟩

set_option maxRecDepth 100000 in
theorem cut_yes (s : ByteArray) (a b : L) (w : World) (hs : s.size ≤ 9223372036854775807) (h : firstCut s.data.toList = some (a, b)) :
    Calls Try.prog 78 #[.string s, .string ⟨#[47]⟩] w fun e w' => e = .returned (.tuple #[.string ⟨a.toArray⟩, .string ⟨b.toArray⟩, .bool true]) ∧ ∃ n, w' = w.drewN n := by
  have H := Lib.hid h
  clear h
  go_enter Try.func78, Try.ntmps78
  go_wp2_with fail
  refine (lCut_yes s a b _ hs H.out).mono ?_
  rintro e w' ⟨rfl, n, rfl⟩
  go_wp2_with fail
  go_ret3
  exact ⟨rfl, n, rfl⟩
set_option maxRecDepth 100000 in
theorem cut_no (s : ByteArray) (w : World) (h : firstCut s.data.toList = none) :
    Calls Try.prog 78 #[.string s, .string ⟨#[47]⟩] w fun e w' => e = .returned (.tuple #[.string s, .string ⟨#[]⟩, .bool false]) ∧ ∃ n, w' = w.drewN n := by
  have H := Lib.hid h
  clear h
  go_enter Try.func78, Try.ntmps78
  go_wp2_with fail
  refine (lCut_no s _ H.out).mono ?_
  rintro e w' ⟨rfl, n, rfl⟩
  go_wp2_with fail
  go_ret3
  exact ⟨rfl, n, rfl⟩

/-- The last place of a byte. -/
def lastI (l : L) : Int := match lastCut l with | some (a, _) => a.length | none => -1
theorem lastI_some {l a b : L} (h : lastCut l = some (a, b)) : lastI l = a.length := by unfold lastI; rw [h]
theorem lastI_none {l : L} (h : lastCut l = none) : lastI l = -1 := by unfold lastI; rw [h]

/-! ### the same, over lists -/
theorem indexByte_l (s : L) (c : Int) (w : World) :
    Calls Try.prog 58 #[.string ⟨s.toArray⟩, .int .u8 c] w fun e w' => e = .returned (.int .i64 (Lib.indexByte s c.toNat.toUInt8)) ∧ w = w' := indexByte_any ⟨s.toArray⟩ c w
end Go.Proofs.Ytleoiejkipobbaa.Path
