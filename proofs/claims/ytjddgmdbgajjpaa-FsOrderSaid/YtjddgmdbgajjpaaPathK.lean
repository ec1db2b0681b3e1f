/-
  What the library's functions on strings return at this program's numbers (IndexByte, HasPrefix, Cut at a slash, LastIndexByte): no statement is proved here.
  Contracts of package path's iterator over parts, and of the functions that range over it (all, May, Parts): no statement is proved here.
  Contracts of package path: what each of its calls answers, and that it writes nothing that was there: no statement is proved here.
  The same contracts of package path in one form (the world goes on, nothing that was there is written), and the chapter's examples (awake): no statement is proved here.
  The walks of the statements PathSafe and PathParts: each law returns true and writes nothing that was there; the statements themselves are proved in texts of their own.
-/
import Derived.Test.YtjddgmdbgajjpaaProg
import Derived.Test.YtjddgmdbgajjpaaBase
import Derived.Test.YtjddgmdbgajjpaaBlockM
import Derived.Lib.Bytealg
import Derived.Lib.Strings
import Derived.Lib.Walk
import Derived.BigQuiet
import Derived.Deep.QuietTactic
import Derived.RangeFuncNested
import Derived.RangeFuncBound
import Derived.RangeFuncCalls
import Derived.RangeFuncLeaves
import Derived.RangeFuncBox
import Derived.Shelf.Abstract
import Derived.Shelf.RegionOpen
import Derived.WalkKit
import Derived.OwnWalkIn
import Derived.TacticsInMore
import Derived.LoopNIn
import Derived.LoopIn
namespace Go.Proofs.Ytjddgmdbgajjpaa.Path
open Go.RowKit Go.Proofs.Ytjddgmdbgajjpaa.Base Go.Proofs.Ytjddgmdbgajjpaa.PathM

theorem ret_int {k : IntKind} {a b : Int} (h : a = b) : Ending.returned (.int k a) = .returned (.int k b) := by rw [h]
theorem ba_eq {s : ByteArray} {l : List UInt8} (h : s.data.toList = l) : s = ⟨l.toArray⟩ := by
  obtain ⟨⟨d⟩⟩ := s
  simp only at h
  subst h
  rfl
theorem ba_size (s : ByteArray) : s.data.toList.length = s.size := by rw [Array.length_toList]; rfl
theorem extract_take (s : ByteArray) (k : Nat) : (s.extract 0 k).data.toList = s.data.toList.take k := by
  simp [ByteArray.data_extract]
theorem extract_drop (s : ByteArray) (k : Nat) : (s.extract k s.size).data.toList = s.data.toList.drop k := by
  rw [ByteArray.data_extract, Array.toList_extract, List.extract_eq_take_drop, List.take_of_length_le]
  rw [List.length_drop, ba_size]
  exact Nat.le_refl _

set_option maxRecDepth 100000 in
theorem lIndexByte (s : ByteArray) (c : Int) (w : World) :
    Calls Try.prog 69 #[.string s, .int .u8 c] w fun e w' => e = .returned (.int .i64 (Lib.indexByte s.data.toList c.toNat.toUInt8)) ∧ w = w' := by
  go_enter Try.func69, Try.ntmps69
  go_wp2
  rw [run_callFunc_extern Try.func78 (by kernel_rfl) (by kernel_rfl) (by kernel_rfl) (e := Extern.BytealgIndexByte.indexByte) (by kernel_rfl), Lib.run_indexByteString]
  simp only [Result.andThen]
  rw [Oper.upon_value]
  go_wp2
  go_ret
  exact ⟨rfl, rfl⟩

set_option maxRecDepth 100000 in
theorem indexByte_any (s : ByteArray) (c : Int) (w : World) :
    Calls Try.prog 44 #[.string s, .int .u8 c] w fun e w' => e = .returned (.int .i64 (Lib.indexByte s.data.toList c.toNat.toUInt8)) ∧ w = w' := by
  go_enter Try.func44, Try.ntmps44
  go_wp2_with fail
  refine (lIndexByte _ _ _).mono ?_
  rintro e w' ⟨rfl, rfl⟩
  go_wp2_with fail
  go_ret
  exact ⟨rfl, rfl⟩

set_option maxHeartbeats 2000000 in
set_option maxRecDepth 100000 in
theorem lIndex (s : ByteArray) (w : World) :
    Calls Try.prog 82 #[.string s, .string ⟨#[47]⟩] w fun e w' => e = .returned (.int .i64 (Lib.indexByte s.data.toList 47)) ∧ w = w' := by
  go_enter Try.func82, Try.ntmps82
  go_wp2_with (go_at_call 69; refine (lIndexByte _ _ _).mono ?_; rintro e w' ⟨rfl, rfl⟩)
  · have h : ([47] == s.toList) = true := by assumption
    go_ret
    refine ⟨?_, rfl⟩
    have e : s.data.toList = [47] := by rw [← Lib.toList_data]; exact (beq_iff_eq.1 h).symm
    rw [e]
    simp [Lib.indexByte]
  · go_ret
    exact ⟨rfl, rfl⟩

set_option maxHeartbeats 2000000 in
set_option maxRecDepth 100000 in
theorem lCut_yes (s : ByteArray) (a b : L) (w : World) (hs : s.size ≤ 9223372036854775807) (h : firstCut s.data.toList = some (a, b)) :
    Calls Try.prog 79 #[.string s, .string ⟨#[47]⟩] w fun e w' => e = .returned (.tuple #[.string ⟨a.toArray⟩, .string ⟨b.toArray⟩, .bool true]) ∧ ∃ n, w' = w.drewN n := by
  have hi := indexByte_some h
  have hlen := firstCut_len h
  rw [ba_size] at hlen
  obtain ⟨k, hk⟩ : ∃ k, k = a.length := ⟨_, rfl⟩
  rw [← hk] at hi hlen
  have hl2 : k + 1 ≤ s.size := by omega
  have Ha : Hid (s.extract 0 k = ⟨a.toArray⟩) := Lib.hid (ba_eq (by
    rw [extract_take, (firstCut_some h).1, hk, List.take_left]))
  have Hb : Hid (s.extract (k + 1) s.size = ⟨b.toArray⟩) := Lib.hid (ba_eq (by
    rw [extract_drop, (firstCut_some h).1, hk, show a.length + 1 = (a ++ [47]).length by simp, show a ++ 47 :: b = (a ++ [47]) ++ b by simp, List.drop_left]))
  have Hi := Lib.hid hi
  clear hi hlen hk h
  go_enter Try.func79, Try.ntmps79
  go_wp2_with fail
  refine (lIndex _ _).mono ?_
  rintro e w' ⟨rfl, rfl⟩
  rw [Hi.out]
  have c1 : (0 : Int) ≤ ↑k := by omega
  have c2 : (↑k : Int) ≤ ↑s.size := by omega
  have c3 : (0 : Int) ≤ ↑k + 1 := by omega
  have c4 : (↑k + 1 : Int) ≤ ↑s.size := by omega
  go_wp2_with fail
  go_quiet (fail)
  all_goals go_wp2_with fail
  all_goals go_ret3
  all_goals exact ⟨by rw [← Ha.out, ← Hb.out]; rfl, _, rfl⟩

set_option maxHeartbeats 2000000 in
set_option maxRecDepth 100000 in
theorem lCut_no (s : ByteArray) (w : World) (h : firstCut s.data.toList = none) :
    Calls Try.prog 79 #[.string s, .string ⟨#[47]⟩] w fun e w' => e = .returned (.tuple #[.string s, .string ⟨#[]⟩, .bool false]) ∧ ∃ n, w' = w.drewN n := by
  have Hi := Lib.hid (indexByte_none h)
  clear h
  go_enter Try.func79, Try.ntmps79
  go_wp2_with fail
  refine (lIndex _ _).mono ?_
  rintro e w' ⟨rfl, rfl⟩
  rw [Hi.out]
  go_wp2_with fail
  go_ret3
  exact ⟨rfl, 0, rfl⟩

set_option maxRecDepth 100000 in
theorem cut_yes (s : ByteArray) (a b : L) (w : World) (hs : s.size ≤ 9223372036854775807) (h : firstCut s.data.toList = some (a, b)) :
    Calls Try.prog 71 #[.string s, .string ⟨#[47]⟩] w fun e w' => e = .returned (.tuple #[.string ⟨a.toArray⟩, .string ⟨b.toArray⟩, .bool true]) ∧ ∃ n, w' = w.drewN n := by
  have H := Lib.hid h
  clear h
  go_enter Try.func71, Try.ntmps71
  go_wp2_with fail
  refine (lCut_yes s a b _ hs H.out).mono ?_
  rintro e w' ⟨rfl, n, rfl⟩
  go_wp2_with fail
  go_ret3
  exact ⟨rfl, n, rfl⟩
set_option maxRecDepth 100000 in
theorem cut_no (s : ByteArray) (w : World) (h : firstCut s.data.toList = none) :
    Calls Try.prog 71 #[.string s, .string ⟨#[47]⟩] w fun e w' => e = .returned (.tuple #[.string s, .string ⟨#[]⟩, .bool false]) ∧ ∃ n, w' = w.drewN n := by
  have H := Lib.hid h
  clear h
  go_enter Try.func71, Try.ntmps71
  go_wp2_with fail
  refine (lCut_no s _ H.out).mono ?_
  rintro e w' ⟨rfl, n, rfl⟩
  go_wp2_with fail
  go_ret3
  exact ⟨rfl, n, rfl⟩

/-- The last place of a byte. -/
def lastI (l : L) : Int := match lastCut l with | some (a, _) => a.length | none => -1
theorem lastI_some {l a b : L} (h : lastCut l = some (a, b)) : lastI l = a.length := by unfold lastI; rw [h]
theorem lastI_none {l : L} (h : lastCut l = none) : lastI l = -1 := by unfold lastI; rw [h]

set_option maxHeartbeats 2000000 in
set_option maxRecDepth 100000 in
theorem lLast (s : ByteArray) (w : World) (hs : s.size ≤ 9223372036854775807) :
    Calls Try.prog 62 #[.string s, .int .u8 47] w fun e w' => e = .returned (.int .i64 (lastI s.data.toList)) ∧ w = w' := by
  have HL : ∃ q : Int, q = lastI s.data.toList := ⟨_, rfl⟩
  obtain ⟨q, hq⟩ := HL
  have Hq := Lib.hid hq
  rw [← hq]
  clear hq
  go_enter Try.func62, Try.ntmps62
  go_wp2_with fail
  go_loop [5] (fun i => ∃ k : Nat, k ≤ s.size ∧ i = .int .i64 ((k : Int) - 1) ∧ Hid ((47 : UInt8) ∉ s.data.toList.drop k)) (fun i => (intOf i + 1).toNat)
  case atStart => exact ⟨s.size, Nat.le_refl _, rfl, Lib.hid (by rw [List.drop_of_length_le (by rw [ba_size]; omega)]; simp)⟩
  case round =>
    obtain ⟨k, hk, rfl, Hk⟩ := hrel
    cases k with
    | zero =>
      go_wp2_with fail
      go_ret
      refine ⟨?_, rfl⟩
      rw [Hq.out, lastI_none (lastCut_one (by simpa using Hk.out))]
      rfl
    | succ k =>
      have hlt : k < s.size := by omega
      have hs1 : (((k + 1 : Nat) : Int) - 1) = (k : Int) := by omega
      rw [hs1]
      have hd : s.data.toList.drop k = s[k] :: s.data.toList.drop (k + 1) := by
        rw [List.drop_eq_getElem_cons (by rw [ba_size]; exact hlt)]; rfl
      have Hd := Lib.hid hd
      clear hd hs1
      by_cases hc : s[k] = 47
      · have hcc : ((s[k].toNat : Int) == 47) = true := by rw [hc]; rfl
        have Hc := Lib.hid hc
        clear hc
        go_wp2_with fail
        go_ret
        refine ⟨?_, rfl⟩
        have e : s.data.toList = s.data.toList.take k ++ 47 :: s.data.toList.drop (k + 1) := by
          conv => lhs; rw [← List.take_append_drop k s.data.toList, Hd.out, Hc.out]
        have h := lastI_some (lastCut_of (a := s.data.toList.take k) Hk.out)
        rw [← e, List.length_take, Nat.min_eq_left (by rw [ba_size]; omega)] at h
        rw [Hq.out, h]
        rfl
      · have hcc : ((s[k].toNat : Int) == 47) = false := by
          rw [beq_eq_false_iff_ne]
          intro h
          exact hc (UInt8.toNat_inj.1 (by show s[k].toNat = 47; omega))
        have Hc := Lib.hid hc
        clear hc
        go_wp2_with fail
        go_round
        case rel =>
          refine ⟨k, by omega, rfl, Lib.hid ?_⟩
          rw [Hd.out, List.mem_cons, not_or]
          exact ⟨fun e => Hc.out e.symm, Hk.out⟩
        case measure => simp [intOf]

set_option maxRecDepth 100000 in
theorem last_any (s : ByteArray) (w : World) (hs : s.size ≤ 9223372036854775807) :
    Calls Try.prog 41 #[.string s, .int .u8 47] w fun e w' => e = .returned (.int .i64 (lastI s.data.toList)) ∧ w = w' := by
  go_enter Try.func41, Try.ntmps41
  go_wp2_with fail
  refine (lLast s _ hs).mono ?_
  rintro e w' ⟨rfl, rfl⟩
  go_wp2_with fail
  go_ret
  exact ⟨rfl, rfl⟩

/-! ### the same, over lists -/
theorem indexByte_l (s : L) (c : Int) (w : World) :
    Calls Try.prog 44 #[.string ⟨s.toArray⟩, .int .u8 c] w fun e w' => e = .returned (.int .i64 (Lib.indexByte s c.toNat.toUInt8)) ∧ w = w' := indexByte_any ⟨s.toArray⟩ c w
theorem last_l (s : L) (w : World) (hs : s.length ≤ 9223372036854775807) :
    Calls Try.prog 41 #[.string ⟨s.toArray⟩, .int .u8 47] w fun e w' => e = .returned (.int .i64 (lastI s)) ∧ w = w' := last_any ⟨s.toArray⟩ w (by simpa [ByteArray.size] using hs)
end Go.Proofs.Ytjddgmdbgajjpaa.Path

namespace Go.Proofs.Ytjddgmdbgajjpaa.Path
open Go.RowKit Go.Shelf Go.Proofs.Ytjddgmdbgajjpaa.Base Go.Proofs.Ytjddgmdbgajjpaa.PathM

attribute [local go_sem] Oper.semAt_some

set_option maxRecDepth 100000 in
/-- The closure that says what must be so of each part. -/
theorem okP_any (l : L) (w : World) :
    Calls Try.prog 45 #[.string ⟨l.toArray⟩] w fun e w' => e = .returned (.bool (okP l)) ∧ w = w' := by
  unfold okP
  cases h1 : (l == [])
  · cases h2 : (l == [46])
    · cases h3 : (l == [46, 46])
      all_goals
        go_enter Try.func45, Try.ntmps45
        go_wp2_with fail
        go_ret
        exact ⟨rfl, rfl⟩
    · go_enter Try.func45, Try.ntmps45
      go_wp2_with fail
      go_ret
      exact ⟨rfl, rfl⟩
  · go_enter Try.func45, Try.ntmps45
    go_wp2_with fail
    go_ret
    exact ⟨rfl, rfl⟩

/-- How much is left of the iterator's walk. -/
def leftV : Value → Value → Nat
  | .string s, .bool true => s.size + 1
  | _, _ => 0

set_option maxRecDepth 100000 in
set_option maxHeartbeats 1000000 in
/-- The iterator: all parts, in order, or the first of them, where a round has said no more. -/
theorem parts1_in (n : Nat) (hn : 1 ≤ n) (l Bn n₀ : Nat) (p : L) (hp : p.length ≤ 9223372036854775807) (J Jx : List L → World → Prop)
    (hJd : ∀ pre W, J pre W → J pre W.drew)
    (hY : ∀ pre x W, J pre W → pre.length < (pcs p).length → YieldAt Fence.wide (n - 1) Try.prog l #[.string ⟨x.toArray⟩] W fun e W' =>
      (e = .returned (.bool true) ∧ J (pre ++ [x]) W' ∧ Below n₀ W W') ∨ (e = .returned (.bool false) ∧ Jx (pre ++ [x]) W'))
    (W : World) (hBn : W.cell? ⟨Bn, 0, none⟩ = some (.string ⟨p.toArray⟩)) (h0 : J [] W) :
    CallsIn Fence.wide n Try.prog 70 #[.func (.yield l) #[] #[], .pointer (some ⟨Bn, 0, none⟩)] W fun e W' => (∃ v, e = .returned v) ∧
      ((∃ ys, ys = pcs p ∧ J ys W') ∨ (∃ pre, pre <+: pcs p ∧ Jx pre W')) := by
  have hJn : ∀ k pre W, J pre W → J pre (W.drewN k) := by
    intro k
    induction k with
    | zero => intro pre W h; exact h
    | succ k ih => intro pre W h; exact hJd _ _ (ih pre W h)
  have HJn := Lib.hid hJn
  clear hJn hJd
  refine callsIn_of_wp Try.func70 rfl trivial ?_ rfl
  simp only [Try.ntmps70, List.size_toArray, List.length_cons, List.length_nil, Nat.reduceAdd, Nat.reduceSub, Array.replicate_succ, Array.replicate_zero, List.push_toArray, List.append_toArray, List.nil_append, List.cons_append]
  gi_wp2
  gi_loopw [3, 4] (fun r m wr => ∃ (pre : List L) (rest : L) (more : Bool), r = .string ⟨rest.toArray⟩ ∧ m = .bool more ∧ rest.length ≤ 9223372036854775807 ∧ Hid (pcs p = if more then pre ++ pcs rest else pre) ∧ J pre wr)
    (fun r m _ => leftV r m)
  case atStart =>
    exact ⟨[], p, true, rfl, rfl, hp, Lib.hid rfl, h0⟩
  case round =>
    obtain ⟨pre, rest, more, rfl, rfl, hrl, Hp, hJs⟩ := hrel
    cases more with
    | false =>
      gi_wp2
      go_end0
      exact ⟨⟨_, rfl⟩, .inl ⟨pre, by simpa using Hp.out.symm, hJs⟩⟩
    | true =>
      have Hq : Hid (pcs p = pre ++ pcs rest) := Lib.hid (by simpa using Hp.out)
      clear Hp
      have hlen : pre.length < (pcs p).length := by rw [Hq.out, List.length_append]; have := pcs_pos rest; omega
      match hf : firstCut rest with
      | none =>
        have Hf := Lib.hid hf
        clear hf
        have hone := pcs_one (firstCut_none Hf.out)
        have Hone := Lib.hid hone
        clear hone
        gi_wp2_with (refine ⟨trivial, ?_⟩; gi_at_call 71; refine (callsIn_wide.2 (cut_no ⟨rest.toArray⟩ _ Hf.out)).mono ?_; rintro e w' ⟨rfl, k, rfl⟩; obtain ⟨fn, tmps, assign, body, hy, hR⟩ := hY pre rest _ (HJn.out k _ _ hJs) hlen)
        refine hR.mono ?_
        rintro e W3 (⟨rfl, hJ3, hk3⟩ | ⟨rfl, hJx3⟩)
        · gi_wp2
          go_roundw
          case rel => exact ⟨pre ++ [rest], [], false, rfl, rfl, by simp, Lib.hid (by rw [Hq.out, Hone.out]; rfl), hJ3⟩
          case measure => simp [leftV]
        · gi_wp2
          refine bodyPost_ret (results_none rfl _ _ _) rfl ?_
          exact ⟨⟨_, rfl⟩, .inr ⟨pre ++ [rest], by rw [Hq.out, Hone.out]; exact List.prefix_refl _, hJx3⟩⟩
      | some (a, b) =>
        have hfl := firstCut_len hf
        have Hf := Lib.hid hf
        have hb : b.length < rest.length := by omega
        have Hone := Lib.hid (pcs_firstCut hf)
        clear hf hfl
        gi_wp2_with (refine ⟨trivial, ?_⟩; gi_at_call 71; refine (callsIn_wide.2 (cut_yes ⟨rest.toArray⟩ a b _ (by simpa [ByteArray.size] using hrl) Hf.out)).mono ?_; rintro e w' ⟨rfl, k, rfl⟩; obtain ⟨fn, tmps, assign, body, hy, hR⟩ := hY pre a _ (HJn.out k _ _ hJs) hlen)
        refine hR.mono ?_
        rintro e W3 (⟨rfl, hJ3, hk3⟩ | ⟨rfl, hJx3⟩)
        · gi_wp2
          go_roundw
          case rel => exact ⟨pre ++ [a], b, true, rfl, rfl, by omega, Lib.hid (by rw [Hq.out, if_pos rfl, Hone.out, List.append_assoc]; rfl), hJ3⟩
          case measure => simp [leftV, ByteArray.size]; omega
        · gi_wp2
          refine bodyPost_ret (results_none rfl _ _ _) rfl ?_
          exact ⟨⟨_, rfl⟩, .inr ⟨pre ++ [a], by rw [Hq.out, Hone.out]; exact ⟨pcs b, by simp⟩, hJx3⟩⟩

/-- What parts answers stops: all of the parts, or the first of them. -/
theorem parts_stops (n : Nat) (hn : 1 ≤ n) (Bn n₀ : Nat) (p : L) (hp : p.length ≤ 9223372036854775807) (w : World) (hBn : Bn < w.heap.size) (hc : w.cell? ⟨Bn, 0, none⟩ = some (.string ⟨p.toArray⟩)) :
    SeqStopsK Fence.wide n Try.prog 70 #[.pointer (some ⟨Bn, 0, none⟩)] (fun x : L => #[Value.string ⟨x.toArray⟩]) (Below n₀) (fun ys => ys = pcs p) (fun pre => pre <+: pcs p) (pcs p).length w := fun l J Jx W hW hJ _ hY h0 =>
  parts1_in n hn l Bn n₀ p hp J Jx (fun pre W h => hJ pre W W.drew none h ⟨rfl, rfl, rfl, Nat.le_refl _, fun _ _ _ => rfl⟩ (fun r e => by cases e)) hY W ((hW.cell (p := ⟨Bn, 0, none⟩) hBn).trans hc) h0

set_option maxRecDepth 100000 in
/-- parts: the path is boxed; the function value captures the box. -/
theorem parts_any (p : ByteArray) (w : World) :
    Calls Try.prog 47 #[.string p] w fun e w' => e = .returned (.func (.func 70) #[] #[.pointer (some ⟨w.heap.size, 0, none⟩)]) ∧ w' = w.alloc (.cells #[.string p] 9) := by
  have hmf : ∀ (fn : Fn) (first cap : Array Value) (w : World), (Instr.makeFunc fn first cap).run Try.prog w = .ok (.func fn first cap) w := fun _ _ _ _ => rfl
  go_enter Try.func47, Try.ntmps47
  go_wp2_with fail
  go_ret
  exact ⟨rfl, rfl⟩

theorem cell_kept_alloc {W : World} {a : Addr} {v : Value} (o : Obj) (h : W.cell? a = some v) : (W.alloc o).cell? a = some v := cell_kept h (World.grownBy_alloc W o none) (fun r e => by cases e)

set_option maxRecDepth 100000 in
set_option maxHeartbeats 2000000 in
/-- all, of the parts of a path and the closure. -/
theorem all_any (p : L) (Bn : Nat) (w : World) (hp : p.length ≤ 9223372036854775807) (hB : Bn < w.heap.size) (hc : w.cell? ⟨Bn, 0, none⟩ = some (.string ⟨p.toArray⟩)) :
    Calls Try.prog 46 #[.func (.func 70) #[] #[.pointer (some ⟨Bn, 0, none⟩)], .func (.func 45) #[] #[]] w fun e w' => e = .returned (.bool ((pcs p).all okP)) ∧ Below w.heap.size w w' := by
  refine (callsIn_wide (n := 3)).1 ?_
  refine callsIn_of_wp_marks Try.func46 rfl trivial ?_ rfl
  simp only [Try.ntmps46, List.size_toArray, List.length_cons, List.length_nil, Nat.reduceAdd, Nat.reduceSub, Array.replicate_succ, Array.replicate_zero, List.push_toArray, List.append_toArray, List.nil_append, List.cons_append]
  gi_wp2
  have b0 := Boxed.new w 44 (.func (.func 45) #[] #[])
  have b1 := Boxed.new (w.alloc (.cells #[.func (.func 45) #[] #[]] 44)) 4 (.bool false)
  have b0' := b0.alloc (.cells #[.bool false] 4)
  rw [World.size_alloc] at b1
  have hB0 : Below w.heap.size w ((w.alloc (.cells #[.func (.func 45) #[] #[]] 44)).alloc (.cells #[.bool false] 4)) := ((Below.refl _ w).alloc (Nat.le_refl _) _).alloc (by simp) _
  refine wpIn_rangeFunc_ownF rfl (by omega) (gf := 70) (lb := #[.pointer (some ⟨Bn, 0, none⟩)]) rfl trivial (enters_of Try.func70 (by kernel_rfl) rfl)
    (parts_stops _ (by omega) Bn w.heap.size p hp _ (by simp; omega) ((hB0.cell (p := ⟨Bn, 0, none⟩) hB).trans hc)) belowK_t (belowK_b (by simp; omega)) (Below.refl _ _) (fun _ => rfl)
    (fun pre W => (pre.all okP = true ∧ W.cell? ⟨w.heap.size, 0, none⟩ = some (.func (.func 45) #[] #[]) ∧ W.cell? ⟨w.heap.size + 1, 0, none⟩ = some (.bool false) ∧ W.frozen? ⟨w.heap.size + 1, 0, none⟩ = false) ∧ Below w.heap.size w W)
    (fun c pre W => (c = .ret ∧ pre.all okP = false ∧ W.cell? ⟨w.heap.size + 1, 0, none⟩ = some (.bool false)) ∧ Below w.heap.size w W)
    (OwnFrom.and (Go.Own.from (fun s A B row hs hg hr => ⟨hs.1, cell_kept hs.2.1 hg hr, cell_kept hs.2.2.1 hg hr, (frozen_kept hs.2.2.1 hg hr).trans hs.2.2.2⟩) _) (ownFrom_below (Nat.le_refl _) (by simp; omega)))
    (fun c => OwnFrom.and (Go.Own.from (fun s A B row hs hg hr => ⟨hs.1, hs.2.1, cell_kept hs.2.2 hg hr⟩) _) (ownFrom_below (Nat.le_refl _) (by simp; omega)))
    ⟨⟨rfl, b0'.cell, b1.cell, b1.frozen⟩, hB0⟩
    (fun x => { tmps := #[.func (.func 70) #[] #[.pointer (some ⟨Bn, 0, none⟩)], .func (.func 45) #[] #[], undef, .pointer (some ⟨w.heap.size, 0, none⟩), .pointer (some ⟨w.heap.size + 1, 0, none⟩), .string ⟨x.toArray⟩, .func (.func 70) #[] #[.pointer (some ⟨Bn, 0, none⟩)], .string ⟨x.toArray⟩, undef, undef, undef, undef], defers := [] }) ?assign ?body ?done ?stop
  case assign =>
    intro l x W K hK
    gi_wp2
    exact hK
  case body =>
    rintro l pre x W ⟨⟨hp, hcw, hcr, hfr⟩, hB⟩ _
    cases hx : okP x
    · have Hx := Lib.hid hx
      clear hx
      gi_wp2_with (refine ⟨trivial, ?_⟩; gi_at_call 45; refine (CallsIn.inRound l (callsIn_wide.2 (okP_any x _))).mono ?_; rintro e w' ⟨rfl, rfl⟩; rw [Hx.out])
      exact ⟨KeepsOthers.setCell _ _ _, ⟨rfl, by rw [List.all_append, List.all_cons, Hx.out]; simp, World.cell?_setCell_same' _ _ _ (by rw [hcr]; rfl)⟩, hB.setCell (p := ⟨w.heap.size + 1, 0, none⟩) (by simp) _⟩
    · have Hx := Lib.hid hx
      clear hx
      gi_wp2_with (refine ⟨trivial, ?_⟩; gi_at_call 45; refine (CallsIn.inRound l (callsIn_wide.2 (okP_any x _))).mono ?_; rintro e w' ⟨rfl, rfl⟩; rw [Hx.out])
      exact ⟨KeepsOthers.refl _, Below.refl _ _, ⟨by rw [List.all_append, hp, List.all_cons, Hx.out]; rfl, hcw, hcr, hfr⟩, hB⟩
  case done =>
    rintro D ys W hD rfl ⟨⟨hall, _, hcr, hfr⟩, hB⟩ hK
    have Hall := Lib.hid hall
    clear hall
    gi_wp2
    have hK' := (KeepsOthers.setCell W ⟨w.heap.size + 1, 0, none⟩ (.bool true)).same D _ hK rfl
    refine ⟨by simp, .inl ⟨_, _, rfl, run_takeDeferred hK', ?_⟩⟩
    have hc5 := cell_kept (World.cell?_setCell_same' W ⟨w.heap.size + 1, 0, none⟩ (.bool true) (by rw [hcr]; rfl)) (grownBy_putObj' _ D (.deferred none)) (fun r e => by cases e; exact ⟨_, hK', rfl⟩)
    refine ⟨.bool true, ?_, by rw [Hall.out], (hB.setCell (p := ⟨w.heap.size + 1, 0, none⟩) (by simp) _).trans (belowK_b (w := w) (Nat.le_refl _) _ D _ _ (by simp at hD; omega) hK' rfl rfl)⟩
    simp [results, Try.f46, go_sem, hc5]
  case stop =>
    rintro D c pre W hD hpre ⟨⟨rfl, hin, hcr⟩, hB⟩ hK
    have Hin := Lib.hid hin
    clear hin
    gi_wp2
    refine ⟨by simp, .inl ⟨_, _, rfl, run_takeDeferred hK, ?_⟩⟩
    have hc5 := cell_kept hcr (grownBy_putObj' _ D (.deferred none)) (fun r e => by cases e; exact ⟨_, hK, rfl⟩)
    have hall : (pcs p).all okP = false := by
      obtain ⟨r, hr⟩ := hpre
      rw [← hr, List.all_append, Hin.out]
      rfl
    refine ⟨.bool false, ?_, by rw [hall], hB.trans (belowK_b (w := w) (Nat.le_refl _) W D _ _ (by simp at hD; omega) hK rfl rfl)⟩
    simp [results, Try.f46, go_sem, hc5]
end Go.Proofs.Ytjddgmdbgajjpaa.Path

namespace Go.Proofs.Ytjddgmdbgajjpaa.Path
open Go.RowKit Go.Shelf Go.Proofs.Ytjddgmdbgajjpaa.Base Go.Proofs.Ytjddgmdbgajjpaa.PathM

theorem below_drewN {B : Nat} {a w : World} (h : Below B a w) (n : Nat) : Below B a (w.drewN n) := ⟨h.os, h.tape, h.output, h.size, h.block⟩

/-- The strings of texts, as cells. -/
def ss (xs : List L) : List Value := xs.map fun x => .string ⟨x.toArray⟩
theorem ss_length (xs : List L) : (ss xs).length = xs.length := by simp [ss]
theorem ss_append (xs ys : List L) : ss (xs ++ ys) = ss xs ++ ss ys := by simp [ss]
theorem ss_at {xs : List L} {j : Nat} (hj : j < xs.length) : (ss xs)[j]? = some (.string ⟨xs[j].toArray⟩) := by simp [ss, hj]
theorem str_info : (Try.prog.info? 9).map (fun i => (i.zero, i.size, i.bytes)) = some (some (.string ⟨#[]⟩), 1, 16) := by kernel_rfl

theorem okSize {p : L} (h : mayB p = true) : p.length ≤ 300 := (mayB_iff.1 h).2.1

set_option maxRecDepth 100000 in
set_option maxHeartbeats 1000000 in
theorem may_any (p : L) (w : World) (hp : p.length ≤ 9223372036854775807) :
    Calls Try.prog 26 #[.string ⟨p.toArray⟩] w fun e w' => e = .returned (.bool (mayB p)) ∧ Below w.heap.size w w' := by
  by_cases h1 : p.length < 1
  · have hm : mayB p = false := by simp [mayB]; omega
    rw [hm]
    have g1 : decide ((p.length : Int) < 1) = true := decide_eq_true (by omega)
    clear hm
    go_enter Try.func26, Try.ntmps26
    go_wp2_with fail
    go_ret
    exact ⟨rfl, Below.refl _ _⟩
  · have g1 : decide ((p.length : Int) < 1) = false := by simp; omega
    by_cases h2 : 300 < p.length
    · have hm : mayB p = false := by simp [mayB]; omega
      rw [hm]
      have g2 : decide ((300 : Int) < (p.length : Int)) = true := by simp; omega
      clear hm
      go_enter Try.func26, Try.ntmps26
      go_wp2_with fail
      go_ret
      exact ⟨rfl, Below.refl _ _⟩
    · have g2 : decide ((300 : Int) < (p.length : Int)) = false := by simp; omega
      by_cases h3 : (0 : UInt8) ∈ p
      · have hm : mayB p = false := by simp [mayB, h3]
        rw [hm]
        have hi : 0 ≤ Lib.indexByte p 0 := by
          have a := Lib.indexByte_ge p 0
          have b := mt indexByte_neg.1 (fun h => h h3)
          omega
        obtain ⟨q, hq⟩ : ∃ q, Lib.indexByte p (Int.toNat 0).toUInt8 = q := ⟨_, rfl⟩
        have hq0 : 0 ≤ q := by rw [← hq]; exact hi
        have Hq := Lib.hid hq
        clear hm hi hq h3
        go_enter Try.func26, Try.ntmps26
        go_wp2_with fail
        refine (indexByte_l p 0 _).mono ?_
        rintro e w' ⟨rfl, rfl⟩
        rw [Hq.out]
        go_wp2_with fail
        go_ret
        exact ⟨rfl, Below.refl _ _⟩
      · have hm : mayB p = (pcs p).all okP := by
          have e1 : decide (1 ≤ p.length) = true := by simp; omega
          have e2 : decide (p.length ≤ 300) = true := by simp; omega
          have e3 : p.contains 0 = false := by simpa using h3
          rw [mayB, e1, e2, e3]
          rfl
        rw [hm]
        have hi : Lib.indexByte p (Int.toNat 0).toUInt8 = -1 := indexByte_neg.2 h3
        have Hi := Lib.hid hi
        obtain ⟨r, hr⟩ : ∃ r, (pcs p).all okP = r := ⟨_, rfl⟩
        rw [hr]
        have Hr := Lib.hid hr
        clear hm hi h3 hr
        go_enter Try.func26, Try.ntmps26
        go_wp2_with fail
        refine (indexByte_l p 0 _).mono ?_
        rintro e w' ⟨rfl, rfl⟩
        rw [Hi.out]
        go_wp2_with fail
        refine (parts_any _ _).mono ?_
        rintro e w' ⟨rfl, rfl⟩
        go_wp2_with fail
        refine (all_any p _ _ hp (by simp) (Boxed.new w _ _).cell).mono ?_
        rintro e w2 ⟨rfl, hb⟩
        rw [Hr.out]
        have Hb := Lib.hid (((Below.refl w.heap.size w).alloc (Nat.le_refl _) _).trans (hb.mono (by simp)))
        clear hb
        go_wp2_with fail
        go_ret
        exact ⟨rfl, Hb.out⟩

theorem rd_of_row {w : World} {lo n : Nat} {e : TypeId} {v : Value} {xs : List Value} (h : w.ownsRow lo e 1 v n xs) : Rd w w.heap.size v xs := by
  obtain ⟨hl, ⟨rfl, rfl⟩ | ⟨g, cap, cur, rfl, hb, hg, hn, hcap, hs, ht⟩⟩ := h
  · obtain rfl : xs = [] := List.eq_nil_of_length_eq_zero (by simpa using hl)
    exact Rd.nil _ _
  · simp only [Nat.mul_one] at hl ht
    refine ⟨_, cap, by rw [hl], by omega, fun _ => ⟨g, 0, rfl, lt_of_block hg, fun j u hj => ?_⟩⟩
    rw [Nat.zero_add, cell_of_row w g j cur e _ hg]
    rw [← ht, List.getElem?_take] at hj
    split at hj
    · simpa using hj
    · cases hj

attribute [local go_sem] Oper.semAt_some in
/-! ### pieces of texts -/
theorem cut_h (p : L) (k : Nat) (h : k ≤ p.length) (w : World) : (Instr.slice 9 (.string ⟨p.toArray⟩) none (some (.int .i64 (k : Int))) none).run Try.prog w = .ok (.string ⟨(p.take k).toArray⟩) w := by
  rw [run_slice_string_h (P := Try.prog) w 9 _ Try.underlying9 .i64 k (by omega) (by show (k : Int) ≤ (p.toArray.size : Int); simp; omega)]
  have e := ba_eq (extract_take ⟨p.toArray⟩ k)
  rw [Int.toNat_natCast, e]
theorem cut_l (p : L) (k : Nat) (h : k ≤ p.length) (w : World) : (Instr.slice 9 (.string ⟨p.toArray⟩) (some (.int .i64 (k : Int))) none none).run Try.prog w = .ok (.string ⟨(p.drop k).toArray⟩) w := by
  rw [run_slice_string_l (P := Try.prog) w 9 _ Try.underlying9 .i64 k (by omega) (by show (k : Int) ≤ (p.toArray.size : Int); simp; omega)]
  have e := ba_eq (extract_drop ⟨p.toArray⟩ k)
  rw [Int.toNat_natCast, e]
theorem add_ll (a b : L) (h : a.length + b.length ≤ 9223372036854775807) (w : World) : (Op.stringOp .add ⟨a.toArray⟩ ⟨b.toArray⟩).run Try.prog w = .ok (.string ⟨(a ++ b).toArray⟩) w := by
  rw [run_string_add_sum (P := Try.prog) w _ _ (by show a.toArray.size + b.toArray.size ≤ _; simpa using h)]
  have e : (⟨a.toArray⟩ ++ ⟨b.toArray⟩ : ByteArray) = ⟨(a ++ b).toArray⟩ := ba_eq (by rw [ByteArray.data_append]; simp)
  rw [e]

set_option maxRecDepth 100000 in
theorem parent_any (p : L) (w : World) (hp : p.length ≤ 9223372036854775807) :
    Calls Try.prog 24 #[.string ⟨p.toArray⟩] w fun e w' => e = .returned (.tuple #[.string ⟨(parV p).toArray⟩, .bool (parB p)]) ∧ Below w.heap.size w w' := by
  match hl : lastCut p with
  | none =>
    have e1 : parV p = [] := by unfold parV; rw [hl]; split <;> rfl
    have e2 : parB p = false := by unfold parB; rw [hl]; simp
    have Hi := Lib.hid (lastI_none hl)
    rw [e1, e2]
    clear e1 e2 hl
    go_enter Try.func24, Try.ntmps24
    go_wp2_with fail
    refine (last_l p _ hp).mono ?_
    rintro e w' ⟨rfl, rfl⟩
    rw [Hi.out]
    go_wp2_with fail
    go_ret2
    exact ⟨rfl, Below.refl _ _⟩
  | some (a, b) =>
    have hlen : a.length ≤ p.length := by
      have h := congrArg List.length (lastCut_some hl).1
      rw [List.length_append] at h
      omega
    have Hi := Lib.hid (lastI_some hl)
    cases hm : mayB p
    · have e1 : parV p = [] := by unfold parV; rw [if_neg (by simp [hm])]
      have e2 : parB p = false := by unfold parB; rw [hm]; rfl
      rw [e1, e2]
      have Hm := Lib.hid hm
      clear e1 e2 hl hm
      go_enter Try.func24, Try.ntmps24
      go_wp2_with fail
      refine (last_l p _ hp).mono ?_
      rintro e w' ⟨rfl, rfl⟩
      rw [Hi.out]
      go_wp2_with fail
      refine (may_any p _ hp).mono ?_
      rintro e w1 ⟨rfl, hb1⟩
      rw [Hm.out]
      have Hb1 := Lib.hid hb1
      clear hb1
      go_wp2_with fail
      go_ret2
      exact ⟨rfl, Hb1.out⟩
    · have e1 : parV p = a := by unfold parV; rw [if_pos hm, hl]
      have e2 : parB p = true := by unfold parB; rw [hm, hl]; rfl
      rw [e1, e2]
      have Hm := Lib.hid hm
      have hcut := cut_h p a.length hlen
      have e3 : p.take a.length = a := by conv => lhs; rw [(lastCut_some hl).1]
                                          exact List.take_left
      rw [e3] at hcut
      clear e1 e2 hl hm e3
      go_enter Try.func24, Try.ntmps24
      go_wp2_with fail
      refine (last_l p _ hp).mono ?_
      rintro e w' ⟨rfl, rfl⟩
      rw [Hi.out]
      go_wp2_with fail
      refine (may_any p _ hp).mono ?_
      rintro e w1 ⟨rfl, hb1⟩
      rw [Hm.out]
      have Hb1 := Lib.hid hb1
      clear hb1
      go_wp2_with fail
      go_ret2
      exact ⟨rfl, Hb1.out⟩

/-- The first slash behind which there is no more than a name. -/
theorem least_cut (p : L) (h : 101 ≤ p.length) : ({ data := List.toArray p } : ByteArray).extract (p.length - 100 - 1) p.length = ⟨(p.drop (p.length - 101)).toArray⟩ := by
  have e := ba_eq (extract_drop ⟨p.toArray⟩ (p.length - 101))
  rw [← e, show p.length - 100 - 1 = p.length - 101 by omega]
  simp [ByteArray.size]

theorem splV_none {p : L} (h : splitO p = none) : splV p = ([], []) ∧ splB p = false := by unfold splV splB; rw [h]; exact ⟨rfl, rfl⟩
theorem splV_some {p a b : L} (h : splitO p = some (a, b)) : splV p = (a, b) ∧ splB p = true := by unfold splV splB; rw [h]; exact ⟨rfl, rfl⟩

end Go.Proofs.Ytjddgmdbgajjpaa.Path

namespace Go.Proofs.Ytjddgmdbgajjpaa.Path
open Go.RowKit Go.Shelf Go.Proofs.Ytjddgmdbgajjpaa.Base Go.Proofs.Ytjddgmdbgajjpaa.PathM

/-- Its parts, or none. -/
def partV (p : L) : List L := if mayB p = true then pcs p else []
theorem partV_yes {p : L} (h : mayB p = true) : partV p = pcs p := by simp [partV, h]
theorem partV_no {p : L} (h : mayB p = false) : partV p = [] := by simp [partV, h]
theorem partV_len (p : L) : (partV p).length ≤ 301 := by
  unfold partV
  split
  · rename_i h
    have h1 := pcs_length_le p
    have h2 := okSize h
    omega
  · simp

section
variable (p q : L) (w : World) (hp : p.length ≤ 9223372036854775807) (hq : q.length ≤ 9223372036854775807)
include hp
theorem may_s : Calls Try.prog 26 #[.string ⟨p.toArray⟩] w fun e w' => e = .returned (.bool (mayB p)) ∧ Stp w w' := may_any p w hp
theorem parent_s : Calls Try.prog 24 #[.string ⟨p.toArray⟩] w fun e w' => e = .returned (.tuple #[.string ⟨(parV p).toArray⟩, .bool (parB p)]) ∧ Stp w w' := parent_any p w hp
include hq
end
end Go.Proofs.Ytjddgmdbgajjpaa.Path

namespace Go.Proofs.Ytjddgmdbgajjpaa.Path
open Go.RowKit Go.Shelf Go.Proofs.Ytjddgmdbgajjpaa.Base Go.Proofs.Ytjddgmdbgajjpaa.PathM

theorem idx_l (p : L) (i : Int) (c : UInt8) (h0 : 0 ≤ i) (h : p[i.toNat]? = some c) (w : World) : (Instr.index 9 (.string ⟨p.toArray⟩) (.int .i64 i)).run Try.prog w = .ok (.int .u8 (c.toNat : Int)) w := by
  obtain ⟨hl, hc⟩ := List.getElem?_eq_some_iff.1 h
  rw [run_index_string (P := Try.prog) w 9 _ .i64 i Try.underlying9, dif_pos ⟨h0, by show i < (p.toArray.size : Int); simp; omega⟩]
  rw [← hc]
  rfl
theorem not_slash {c : UInt8} (h : c ≠ 47) : ((c.toNat : Int) == 47) = false := by
  rw [beq_eq_false_iff_ne]
  intro h'
  exact h (UInt8.toNat_inj.1 (by show c.toNat = 47; omega))

theorem rdA_get {w : World} {b o cap : Nat} {xs : List Value} {u : Value} {j : Nat} (h : RdA w (some ⟨b, o, none⟩) cap xs) (hj : xs[j]? = some u) : w.cell? ⟨b, o + j, none⟩ = some u := by
  obtain ⟨b', o', he, hu⟩ := h.at_ (List.getElem?_eq_some_iff.1 hj).1
  simp only [Option.some.injEq, Addr.mk.injEq] at he
  obtain ⟨rfl, rfl, _⟩ := he
  exact hu j u hj

end Go.Proofs.Ytjddgmdbgajjpaa.Path

