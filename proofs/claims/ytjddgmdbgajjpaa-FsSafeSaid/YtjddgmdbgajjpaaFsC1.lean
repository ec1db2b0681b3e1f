/-
  What the code's package fs keeps: a node looked for by a binary search, and what it needs: no statement is proved here.
-/
import Derived.Test.YtjddgmdbgajjpaaFsI
import Derived.Lib.Bytealg
import Derived.Deep.Cut
import Derived.Deep.CutRange
namespace Go.Proofs.Ytjddgmdbgajjpaa.Fs
open Go.Sort Go.RowKit Go.Proofs.Ytjddgmdbgajjpaa.Str Go.Proofs.Ytjddgmdbgajjpaa.Base Go.Proofs.Ytjddgmdbgajjpaa.Node Go.Proofs.Ytjddgmdbgajjpaa.Long Go.Proofs.Ytjddgmdbgajjpaa.FsM
open Go.Proofs.Ytjddgmdbgajjpaa.Tree (oneB mayT fewT nodeA nodeB findN findV hasB riseB findN_lt findN_no findN_of findN_bound)
set_option linter.unusedVariables false

/-! ### plain -/
theorem cmp_pos : ∀ (a b : List UInt8), 0 < Lib.compareBytes a b ↔ b < a
  | [], [] => by simp [Lib.compareBytes]
  | [], b :: bs => by simp [Lib.compareBytes]
  | a :: us, [] => by simp [Lib.compareBytes]
  | a :: us, b :: bs => by
    rw [Lib.compareBytes, List.cons_lt_cons_iff]
    split
    · rename_i h
      constructor
      · intro h2; omega
      · rintro (h2 | ⟨rfl, -⟩)
        · exact absurd (UInt8.lt_trans h h2) (UInt8.lt_irrefl _)
        · exact absurd h (UInt8.lt_irrefl _)
    · rename_i h
      split
      · rename_i h2
        exact ⟨fun _ => .inl h2, fun _ => by decide⟩
      · rename_i h2
        have e : a = b := by
          rcases UInt8.lt_or_lt_of_ne (a := a) (b := b) |> fun f => Classical.or_iff_not_imp_left.2 f with e | h3 | h3
          · exact e
          · exact absurd h3 h
          · exact absurd h3 h2
        subst e
        rw [cmp_pos us bs]
        exact ⟨fun h => .inr ⟨rfl, h⟩, fun h => by rcases h with h | ⟨-, h⟩; exact absurd h (UInt8.lt_irrefl _); exact h⟩
theorem cmp_zero : ∀ (a b : List UInt8), Lib.compareBytes a b = 0 ↔ a = b
  | [], [] => by simp [Lib.compareBytes]
  | [], b :: bs => by simp [Lib.compareBytes]
  | a :: us, [] => by simp [Lib.compareBytes]
  | a :: us, b :: bs => by
    rw [Lib.compareBytes]
    split
    · rename_i h
      constructor
      · intro h2; omega
      · intro e
        cases e
        exact absurd h (UInt8.lt_irrefl _)
    · split
      · rename_i h
        constructor
        · intro h2; omega
        · intro e
          cases e
          exact absurd h (UInt8.lt_irrefl _)
      · rename_i h h2
        rw [cmp_zero us bs]
        have e : a = b := by
          rcases UInt8.lt_or_lt_of_ne (a := a) (b := b) |> fun f => Classical.or_iff_not_imp_left.2 f with e | h3 | h3
          · exact e
          · exact absurd h3 h
          · exact absurd h3 h2
        subst e
        simp

theorem lt_tri (a b : List UInt8) : a < b ∨ a = b ∨ b < a := by
  by_cases h : 0 < Lib.compareBytes a b
  · exact .inr (.inr ((cmp_pos a b).1 h))
  · by_cases h2 : a = b
    · exact .inr (.inl h2)
    · by_cases h3 : a < b
      · exact .inl h3
      · exact absurd (List.le_antisymm (List.not_lt.1 (fun h4 => h ((cmp_pos a b).2 h4))) (List.not_lt.1 h3)) h2
/-- Where a path is among nodes, or belongs. -/
structure CutAt (ns : List Nd) (p : List UInt8) (i : Nat) : Prop where
  le : i ≤ ns.length
  lt : ∀ (j : Nat) (n : Nd), ns[j]? = some n → (n.path < p ↔ j < i)
theorem cut_ex : ∀ {ns : List Nd} (p : List UInt8), Rises ns → ∃ i, CutAt ns p i
  | [], p, _ => ⟨0, Nat.le_refl _, fun j n h => by simp at h⟩
  | n :: ns, p, h => by
    have h2 := List.pairwise_cons.1 h
    by_cases hn : n.path < p
    · obtain ⟨i, h3, h4⟩ := cut_ex p h2.2
      refine ⟨i + 1, by rw [List.length_cons]; omega, fun j m hj => ?_⟩
      cases j with
      | zero =>
        simp only [List.getElem?_cons_zero, Option.some.injEq] at hj
        subst hj
        exact ⟨fun _ => by omega, fun _ => hn⟩
      | succ j =>
        rw [h4 j m (by simpa using hj)]
        omega
    · refine ⟨0, by omega, fun j m hj => ⟨fun hm => ?_, fun hj => by omega⟩⟩
      cases j with
      | zero =>
        simp only [List.getElem?_cons_zero, Option.some.injEq] at hj
        subst hj
        exact absurd hm hn
      | succ j => exact absurd (List.lt_trans (h2.1 m (List.mem_of_getElem? (by simpa using hj))) hm) hn
theorem cut_find {ns : List Nd} {p : List UInt8} {i : Nat} (hr : Rises ns) (h : CutAt ns p i) {k : Nat} (hk : findN p ns = some k) : k = i := by
  obtain ⟨n, h1, h2, -⟩ := findN_lt hk
  have h3 := h.lt k n h1
  have hki : ¬ k < i := fun h4 => List.lt_irrefl _ (h2 ▸ h3.2 h4)
  by_cases he : k = i
  · exact he
  · exfalso
    have hik : i < k := by omega
    obtain ⟨m, hm⟩ : ∃ m, ns[i]? = some m := ⟨_, List.getElem?_eq_getElem (by have := (List.getElem?_eq_some_iff.1 h1).1; omega)⟩
    obtain ⟨hi1, e1⟩ := List.getElem?_eq_some_iff.1 hm
    obtain ⟨hk1, e2⟩ := List.getElem?_eq_some_iff.1 h1
    have h4 := List.pairwise_iff_getElem.1 hr i k hi1 hk1 hik
    rw [e1, e2, h2] at h4
    have := (h.lt i m hm).1 h4
    omega
theorem cut_ins {p : List UInt8} {n : Nd} (hp : n.path = p) : ∀ {ns : List Nd} {i : Nat}, CutAt ns p i → (∀ m ∈ ns, m.path ≠ p) → insF n ns = ns.take i ++ n :: ns.drop i
  | [], i, h, _ => by
    have := h.le
    obtain rfl : i = 0 := by simpa using this
    rfl
  | m :: ms, i, h, hno => by
    have hm := h.lt 0 m rfl
    rw [insF]
    cases i with
    | zero =>
      have h1 : ¬ m.path < p := fun h2 => by have := hm.1 h2; omega
      have h2 : p < m.path := by
        rcases lt_tri m.path p with h3 | h3 | h3
        · exact absurd h3 h1
        · exact absurd h3 (hno m (by simp))
        · exact h3
      rw [if_pos (by rw [hp]; exact h2)]
      rfl
    | succ i =>
      have h1 : m.path < p := hm.2 (by omega)
      rw [if_neg (by rw [hp]; exact fun h2 => List.lt_irrefl _ (List.lt_trans h1 h2))]
      have h3 : CutAt ms p i := ⟨by have := h.le; simpa using this, fun j x hj => by
        have := h.lt (j + 1) x (by simpa using hj)
        rw [this]
        omega⟩
      rw [cut_ins hp h3 fun x hx => hno x (by simp [hx])]
      rfl
theorem cut_beq {ns : List Nd} {p : List UInt8} {i : Nat} (hr : Rises ns) (h : CutAt ns p i) {n : Nd} (hn : ns[i]? = some n) : (Lib.compareBytes p n.path == 0) = (findN p ns).isSome := by
  rw [Bool.eq_iff_iff, beq_iff_eq, cmp_zero]
  constructor
  · intro e
    exact find_mem.2 ⟨n, List.mem_of_getElem? hn, e.symm⟩
  · intro hs
    obtain ⟨k, hk⟩ := Option.isSome_iff_exists.1 hs
    obtain rfl := cut_find hr h hk
    obtain ⟨x, h1, h2, -⟩ := findN_lt hk
    rw [hn] at h1
    cases h1
    exact h2.symm
theorem cut_none {ns : List Nd} {p : List UInt8} {i : Nat} (hr : Rises ns) (h : CutAt ns p i) (hi : i = ns.length) : (findN p ns).isSome = false := by
  rw [Bool.eq_false_iff]
  intro hs
  obtain ⟨k, hk⟩ := Option.isSome_iff_exists.1 hs
  obtain rfl := cut_find hr h hk
  have := findN_bound hk
  omega

theorem cell_stp {w w' : World} {p : Addr} {v : Value} (hs : Stp w w') (h : w.cell? p = some v) : w'.cell? p = some v := (hs.cell (World.block_lt_of_cell? w _ h)).trans h

/-! ### strings are compared -/
set_option maxHeartbeats 1000000 in
set_option maxRecDepth 100000 in
theorem bcompare_s (a b : List UInt8) (w : World) : Calls Try.prog 74 #[.string ⟨a.toArray⟩, .string ⟨b.toArray⟩] w fun e w' => e = .returned (.int .i64 (Lib.compareBytes a b)) ∧ w' = w := by
  go_enter Try.func74, Try.ntmps74
  go_wp2
  rw [run_callFunc_extern Try.func80 (by kernel_rfl) (by kernel_rfl) (by kernel_rfl) (e := Extern.BytealgCompare.compare) (by kernel_rfl), Lib.run_compareString]
  simp only [Result.andThen]
  rw [Oper.upon_value]
  go_wp2
  go_ret
  exact ⟨rfl, rfl⟩
set_option maxRecDepth 100000 in
theorem compare_s (a b : List UInt8) (w : World) : Calls Try.prog 54 #[.string ⟨a.toArray⟩, .string ⟨b.toArray⟩] w fun e w' => e = .returned (.int .i64 (Lib.compareBytes a b)) ∧ w' = w := by
  go_enter Try.func54, Try.ntmps54
  go_wp2_with (go_at_call 74; refine (bcompare_s a b _).mono ?_; rintro e w' ⟨rfl, rfl⟩)
  go_ret
  exact ⟨rfl, rfl⟩
set_option maxHeartbeats 1000000 in
set_option maxRecDepth 100000 in
theorem cmp_s (ns : List Nd) (m : Nat) (hm : ns.length = m) (hl : m ≤ 1000) (p : List UInt8) (j : Nat) (n : Nd) (hn : ns[j]? = some n) (c : Int) (hc : Lib.compareBytes p n.path = c) (gp gl : Nat) (A : Option Addr) (k : Nat) (w : World)
    (hp : w.cell? ⟨gp, 0, none⟩ = some (.string ⟨p.toArray⟩)) (hA : w.cell? ⟨gl, 0, none⟩ = some (.slice A m k)) (ha : RdN w A k ns) :
    Calls Try.prog 53 #[.int .i64 (j : Int), .pointer (some ⟨gp, 0, none⟩), .pointer (some ⟨gl, 0, none⟩)] w fun e w' => e = .returned (.int .i64 c) ∧ Stp w w' := by
  have hj : j < m := by rw [← hm]; exact (List.getElem?_eq_some_iff.1 hn).1
  obtain ⟨b, o, rfl, -, q0, -⟩ := ha.cells hn
  have Hc := Lib.hid hc
  clear ha hn hm hc
  have vp := cell_regrown hp
  have vA := cell_regrown hA
  have v0 := cell_regrown q0
  have cC : ∀ d os', Calls Try.prog 54 #[.string ⟨p.toArray⟩, .string ⟨n.path.toArray⟩] (grow (redrawn w d) os') fun e w'' => e = .returned (.int .i64 c) ∧ ∃ q : Regrown, w'' = grow (redrawn w q.d) q.os := fun d os' => Calls.regrown_of ((compare_s p n.path _).mono fun e w' h => ⟨by rw [h.1, Hc.out], by rw [h.2]; exact Stp.refl _⟩)
  clear hp hA q0
  go_enter Try.func53, Try.ntmps53
  go_upto_region 1 with fail
  refine wp_region_quiet_below (by kernel_rfl) (by kernel_rfl) ?_
  repeat (go_big_quiet_step (first | exact cC _ _))
  refine wpQuiet_nil ?_
  intro _ hw'
  obtain ⟨⟨dq, osq⟩, hw''⟩ := hw'
  subst hw''
  have X := Lib.hid (show Stp w (grow (redrawn w dq) osq) from below_regrown w dq osq)
  go_wp2
  go_ret
  exact ⟨rfl, X.out⟩

/-! ### the binary search -/
set_option maxHeartbeats 2000000 in
set_option maxRecDepth 100000 in
theorem sfind_s (ns : List Nd) (m : Nat) (hm : ns.length = m) (hl : m ≤ 1000) (p : List UInt8) (i : Nat) (hi : CutAt ns p i) (b : Bool) (hr : Rises ns) (hb : (findN p ns).isSome = b) (gp gl : Nat) (A : Option Addr) (k : Nat) (w : World)
    (hp : w.cell? ⟨gp, 0, none⟩ = some (.string ⟨p.toArray⟩)) (hA : w.cell? ⟨gl, 0, none⟩ = some (.slice A m k)) (ha : RdN w A k ns) :
    Calls Try.prog 52 #[.int .i64 (m : Int), .func (.func 53) #[] #[.pointer (some ⟨gp, 0, none⟩), .pointer (some ⟨gl, 0, none⟩)]] w fun e w' => e = .returned (.tuple #[.int .i64 (i : Int), .bool b]) ∧ Stp w w' := by
  have him : i ≤ m := by rw [← hm]; exact hi.le
  have h0 := Lib.hid (Stp.refl w)
  have Hp := Lib.hid hp
  have HA := Lib.hid hA
  have Ha := Lib.hid ha
  have Hm := Lib.hid hm
  have Hi := Lib.hid hi
  have Hr := Lib.hid hr
  have Hb := Lib.hid hb
  clear hp hA ha hm hi hr hb
  go_enter Try.func52, Try.ntmps52
  go_wp2_with fail
  go_loopw [4, 6] (fun iv jv wr => ∃ (x y : Nat), x ≤ i ∧ i ≤ y ∧ y ≤ m ∧ iv = .int .i64 (x : Int) ∧ jv = .int .i64 (y : Int) ∧ Hid (Stp w wr)) (fun iv jv _ => (intOf jv).toNat - (intOf iv).toNat)
  case atStart => exact ⟨0, m, by omega, him, by omega, rfl, rfl, h0⟩
  case round =>
    clear h0
    obtain ⟨x, y, hx, hy, hym, rfl, rfl, h0⟩ := hrel
    by_cases hxy : x < y
    · obtain ⟨z, hz⟩ : ∃ z, (x + y) / 2 = z := ⟨_, rfl⟩
      have gz : ((x : Int) + (y : Int)) / 2 = (z : Int) := by omega
      have hz1 : x ≤ z := by omega
      have hz2 : z < y := by omega
      obtain ⟨n, hn⟩ : ∃ n, ns[z]? = some n := ⟨_, List.getElem?_eq_getElem (by rw [Hm.out]; omega)⟩
      have hlt := Hi.out.lt _ n hn
      obtain ⟨c, hc⟩ : ∃ c, Lib.compareBytes p n.path = c := ⟨_, rfl⟩
      have hpos := cmp_pos p n.path
      rw [hc, hlt] at hpos
      have Hn := Lib.hid hn
      have Hc := Lib.hid hc
      have g0 : decide ((x : Int) < (y : Int)) = true := decide_eq_true (by omega)
      clear hlt hn hc hz
      by_cases hzi : z < i
      · have g1 : decide ((0 : Int) < c) = true := decide_eq_true (hpos.2 hzi)
        have hs0 := h0.out
        clear hpos
        go_wp2_with (go_at_call 53; (with_reducible refine (cmp_s ns m Hm.out hl p z n Hn.out c Hc.out gp gl A k _ (cell_stp h0.out Hp.out) (cell_stp h0.out HA.out) (Ha.out.keep h0.out)).mono ?_); rintro e wn ⟨rfl, hs⟩; replace h0 := Lib.hid (Stp.trans h0.out hs); clear hs)
        go_roundw
        case rel => exact ⟨z + 1, y, by omega, hy, hym, by go_num, rfl, h0⟩
        case measure => simp [intOf]; omega
      · have g1 : decide ((0 : Int) < c) = false := decide_eq_false (fun h => hzi (hpos.1 h))
        clear hpos
        go_wp2_with (go_at_call 53; (with_reducible refine (cmp_s ns m Hm.out hl p z n Hn.out c Hc.out gp gl A k _ (cell_stp h0.out Hp.out) (cell_stp h0.out HA.out) (Ha.out.keep h0.out)).mono ?_); rintro e wn ⟨rfl, hs⟩; replace h0 := Lib.hid (Stp.trans h0.out hs); clear hs)
        go_roundw
        case rel => exact ⟨x, z, hx, by omega, by omega, rfl, rfl, h0⟩
        case measure => simp [intOf]; omega
    · obtain rfl : x = i := by omega
      obtain rfl : y = x := by omega
      have g0 : decide ((y : Int) < (y : Int)) = false := decide_eq_false (by omega)
      by_cases him2 : y < m
      · have g2 : decide ((y : Int) < (m : Int)) = true := decide_eq_true (by omega)
        obtain ⟨n, hn⟩ : ∃ n, ns[y]? = some n := ⟨_, List.getElem?_eq_getElem (by rw [Hm.out]; omega)⟩
        obtain ⟨c, hc⟩ : ∃ c, Lib.compareBytes p n.path = c := ⟨_, rfl⟩
        have g3 := cut_beq Hr.out Hi.out hn
        rw [hc, Hb.out] at g3
        have Hn := Lib.hid hn
        have Hc := Lib.hid hc
        clear hn hc
        go_wp2_with (go_at_call 53; (with_reducible refine (cmp_s ns m Hm.out hl p y n Hn.out c Hc.out gp gl A k _ (cell_stp h0.out Hp.out) (cell_stp h0.out HA.out) (Ha.out.keep h0.out)).mono ?_); rintro e wn ⟨rfl, hs⟩; replace h0 := Lib.hid (Stp.trans h0.out hs); clear hs)
        go_ret2
        exact ⟨rfl, h0.out⟩
      · obtain rfl : y = m := by omega
        have g3 := cut_none Hr.out Hi.out Hm.out.symm
        rw [Hb.out] at g3
        subst g3
        go_wp2_with fail
        go_ret2
        exact ⟨rfl, h0.out⟩
set_option maxHeartbeats 2000000 in
set_option maxRecDepth 100000 in
/-- A path's place among nodes whose paths rise, and whether it is there. -/
theorem find_s (ns : List Nd) (m : Nat) (hm : ns.length = m) (hl : m ≤ 1000) (hr : Rises ns) (p : List UInt8) (i : Nat) (hi : CutAt ns p i) (b : Bool) (hb : (findN p ns).isSome = b) (A : Option Addr) (k : Nat) (w : World) (ha : RdN w A k ns) :
    Calls Try.prog 32 #[.slice A m k, .string ⟨p.toArray⟩] w fun e w' => e = .returned (.tuple #[.int .i64 (i : Int), .bool b]) ∧ Stp w w' := by
  have Ha := Lib.hid ha
  have Hm := Lib.hid hm
  have Hi := Lib.hid hi
  have Hr := Lib.hid hr
  have Hb := Lib.hid hb
  clear ha hm hi hr hb
  have h0 := Lib.hid (Stp.alloc (Stp.alloc (Stp.refl w) (.cells #[.slice A m k] 22)) (.cells #[.string ⟨p.toArray⟩] 9))
  have b1 := Blk.new w 22 #[.slice A m k]
  have b2 := Blk.new (w.alloc (.cells #[.slice A m k] 22)) 9 #[.string ⟨p.toArray⟩]
  replace b1 := b1.alloc (.cells #[.string ⟨p.toArray⟩] 9)
  simp only [World.size_alloc] at b2
  have q1 := b1.cell 0
  have q2 := b2.cell 0
  have Q1 := Lib.hid (q1.trans rfl : _ = some (Value.slice A m k))
  have Q2 := Lib.hid (q2.trans rfl : _ = some (Value.string ⟨p.toArray⟩))
  have fc := Q1.out
  have fd := Q2.out
  clear b1 b2 q1 q2
  go_enter Try.func32, Try.ntmps32
  go_wp2_with (go_at_call 52; (with_reducible refine (sfind_s ns m Hm.out hl p i Hi.out b Hr.out Hb.out _ _ A k _ Q2.out Q1.out (Ha.out.keep h0.out)).mono ?_); rintro e wn ⟨rfl, hs⟩; replace h0 := Lib.hid (Stp.trans h0.out hs); clear hs)
  go_ret2
  exact ⟨rfl, h0.out⟩
end Go.Proofs.Ytjddgmdbgajjpaa.Fs
