/-
  num's answers, and the document's, as one function each: no statement is proved here.
-/
import Derived.Test.YtihigbaaajmjlaaNumRefGet
namespace Go.Proofs.Ytihigbaaajmjlaa.Num
open Go.RowKit Go.Proofs.Ytihigbaaajmjlaa.Base Go.Proofs.Ytihigbaaajmjlaa.NumM

/-- What Octal answers. -/
def octV (n d : Int) : ByteArray := if octOk n d = true then ⟨(octs d.toNat n.toNat).toArray⟩ else ⟨#[]⟩
def putV (n wide : Int) : List UInt8 := if putOk n wide = true then putL wide.toNat n.toNat else []

theorem oct_all (n d : Int) (w : World) (hn : n < 9223372036854775808) :
    Calls Try.prog 81 #[.int .i64 n, .int .i64 d] w fun e w' => e = .returned (.tuple #[.string (octV n d), .bool (octOk n d)]) ∧ Below w.heap.size w w' := by
  cases h : octOk n d
  · rw [octV, if_neg (by simp [h])]; exact oct_no n d w hn h
  · rw [octV, if_pos h]; exact oct_yes n d w hn h
theorem roct_all (n d : Int) (w : World) (hn : n < 9223372036854775808) :
    Calls Try.prog 98 #[.int .i64 n, .int .i64 d] w fun e w' => e = .returned (.tuple #[.string (octV n d), .bool (octOk n d)]) ∧ w = w' := by
  cases h : octOk n d
  · rw [octV, if_neg (by simp [h])]; exact roct_no n d w hn h
  · rw [octV, if_pos h]; exact roct_yes n d w hn h
theorem put_all (n wide : Int) (w : World) (hn : n < 9223372036854775808) :
    Calls Try.prog 51 #[.int .i64 n, .int .i64 wide] w fun e w' => ∃ v, e = .returned (.tuple #[v, .bool (putOk n wide)]) ∧ Own w' w.heap.size 5 v (bs (putV n wide)) ∧ Below w.heap.size w w' := by
  cases h : putOk n wide
  · rw [putV, if_neg (by simp [h])]; exact (put_no n wide w hn h).mono fun _ _ hh => ⟨_, hh.1, Own.nil _ _ _, hh.2⟩
  · rw [putV, if_pos h]; exact put_yes n wide w hn h
theorem rput_all (n wide : Int) (w : World) (hn : n < 9223372036854775808) :
    Calls Try.prog 97 #[.int .i64 n, .int .i64 wide] w fun e w' => ∃ v, e = .returned (.tuple #[v, .bool (putOk n wide)]) ∧ Own w' w.heap.size 5 v (bs (putV n wide)) ∧ Below w.heap.size w w' := by
  cases h : putOk n wide
  · rw [putV, if_neg (by simp [h])]; exact (rput_no n wide w hn h).mono fun _ _ hh => ⟨_, hh.1, Own.nil _ _ _, hh.2⟩
  · rw [putV, if_pos h]; exact rput_yes n wide w hn h
theorem get_all (l : List UInt8) (v : Value) (B : Nat) (w : World) (hv : Rd w B v (bs l)) (hB : B ≤ w.heap.size) (hbig : l.length < 9223372036854775808) :
    Calls Try.prog 84 #[v] w fun e w' => GetIs l e ∧ Below w.heap.size w w' := by
  by_cases hex : ∃ N, IsNum l N
  · obtain ⟨N, hN⟩ := hex
    refine (get_yes l N v B w hv hB hN).mono fun e w' h => ⟨⟨fun M hM => ?_, fun hno => absurd hN (hno N)⟩, h.2⟩
    rw [hM.same hN]
    exact h.1
  · exact (get_no l v B w hv hB hbig (fun N hN => hex ⟨N, hN⟩)).mono fun e w' h => ⟨⟨fun M hM => absurd ⟨M, hM⟩ hex, fun _ => h.1⟩, h.2⟩
/-- There is just one answer of Get. -/
theorem getIs_form (l : List UInt8) : ∃ (x : Int) (b : Bool), ∀ e, GetIs l e → e = .returned (.tuple #[.int .i64 x, .bool b]) := by
  by_cases hex : ∃ N, IsNum l N
  · obtain ⟨N, hN⟩ := hex
    exact ⟨N, true, fun e he => he.1 N hN⟩
  · exact ⟨0, false, fun e he => he.2 fun N hN => hex ⟨N, hN⟩⟩

end Go.Proofs.Ytihigbaaajmjlaa.Num
