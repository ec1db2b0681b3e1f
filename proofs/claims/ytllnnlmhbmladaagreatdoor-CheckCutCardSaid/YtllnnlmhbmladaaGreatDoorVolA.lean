/-
  Package volume's own contracts: whether a set may be, whether two lists are the same, and what a volume begins with: no statement is proved here. Memory of which some blocks are written, and none of these holds bytes: what reads as before: no statement is proved here.
  Package volume's own contracts: what a volume begins with: no statement is proved here.
  Package volume's own contracts: the closure that cuts what is left, how many blocks a record lacks, and one volume: no statement is proved here.
  Package volume's own contracts: Split and Needs, and all of them in one: no statement is proved here.
-/
import Derived.Test.YtllnnlmhbmladaaGreatDoorVolI
import Derived.Test.YtllnnlmhbmladaaGreatDoorVolM
import Derived.Test.YtllnnlmhbmladaaGreatDoorStreamC
import Derived.Test.YtllnnlmhbmladaaGreatDoorLabelA
import Derived.Test.YtllnnlmhbmladaaGreatDoorContK
namespace Go.Proofs.YtllnnlmhbmladaaGreatDoor.Vol
open Go.Sort Go.RowKit Go.Proofs.YtllnnlmhbmladaaGreatDoor.Str Go.Proofs.YtllnnlmhbmladaaGreatDoor.Base Go.Proofs.YtllnnlmhbmladaaGreatDoor.Node Go.Proofs.YtllnnlmhbmladaaGreatDoor.Head Go.Proofs.YtllnnlmhbmladaaGreatDoor.Long Go.Proofs.YtllnnlmhbmladaaGreatDoor.Entry Go.Proofs.YtllnnlmhbmladaaGreatDoor.LabelM Go.Proofs.YtllnnlmhbmladaaGreatDoor.ContM Go.Proofs.YtllnnlmhbmladaaGreatDoor.Stream Go.Proofs.YtllnnlmhbmladaaGreatDoor.VolM
open Go.Proofs.YtllnnlmhbmladaaGreatDoor.Tree (oneB mayT fewT)
set_option linter.unusedVariables false

/-! ### whether a set may be -/
abbrev okC (x : Int) : Bool := decide (0 ≤ x) && decide (x ≤ 200)
set_option maxRecDepth 100000 in
theorem isnone_s (x : Int) (w : World) : Calls Tryz.prog 42 #[.int .i64 x] w fun e w' => e = .returned (.bool (!okC x)) ∧ Stp w w' := by
  have h0 := Stp.refl w
  obtain ⟨c1, e1⟩ : ∃ c, decide (x < 0) = c := ⟨_, rfl⟩
  obtain ⟨c2, e2⟩ : ∃ c, decide (200 < x) = c := ⟨_, rfl⟩
  have h : (!okC x) = (c1 || c2) := by
    rw [← e1, ← e2, okC]
    by_cases a : x < 0 <;> by_cases b : 200 < x <;> simp [a, b] <;> omega
  rw [h]
  clear h
  cases c1
  all_goals
    go_enter Tryz.func42, Tryz.ntmps42
    go_wp2_with fail
    go_ret
    exact ⟨rfl, h0⟩
theorem take_ok {l : List Int} {j : Nat} {x : Int} (hx : l[j]? = some x) (h : (l.take j).all okC = true) (hp : okC x = true) : (l.take (j + 1)).all okC = true := by
  rw [List.take_add_one, hx, List.all_append, h]
  simp only [Option.toList_some, List.all_cons, hp, List.all_nil, Bool.and_self]
theorem not_ok {l : List Int} {j : Nat} {x : Int} (hx : l[j]? = some x) (hp : okC x = false) : l.all okC = false := by
  rw [List.all_eq_false]
  exact ⟨x, List.mem_of_getElem? hx, by rw [hp]; simp⟩
set_option maxRecDepth 100000 in
set_option maxHeartbeats 2000000 in
theorem idx_s (xs : List Int) (z : Nat) (hz : xs.length = z) (hl : z < 9223372036854775808) (A : Option Addr) (c : Nat) (w : World) (ha : RdZ w A c xs) (b : Bool) (hb : xs.all okC = b) :
    Calls Tryz.prog 71 #[.slice A z c, .func (.func 42) #[] #[]] w fun e w' => ∃ r : Int, e = .returned (.int .i64 r) ∧ decide (0 ≤ r) = !b ∧ Stp w w' := by
  subst hz
  have Hb := Lib.hid hb
  have Ha := Lib.hid ha
  clear hb ha
  go_enter Tryz.func71, Tryz.ntmps71
  go_wp2_with fail
  go_loopw [5, 8] (fun _ i wr => ∃ k : Nat, k ≤ xs.length ∧ i = .int .i64 k ∧ Hid (Stp w wr) ∧ Hid ((xs.take k).all okC = true)) (fun _ i _ => xs.length - (intOf i).toNat)
  case atStart => exact ⟨0, by omega, rfl, Lib.hid (Stp.refl w), Lib.hid rfl⟩
  case round =>
    obtain ⟨k, hk, rfl, H1, Hn⟩ := hrel
    by_cases hlt : k < xs.length
    · obtain ⟨x, hx⟩ : ∃ x, xs[k]? = some x := ⟨_, List.getElem?_eq_getElem hlt⟩
      obtain ⟨g, o, rfl, q0⟩ := RdZ.cell (RdA.keep Ha.out H1.out) hx
      have Hx := Lib.hid hx
      clear hx
      cases hok : okC x
      · have Hok := Lib.hid hok
        clear hok
        go_wp2_with (go_at_call 42; refine (isnone_s x _).mono ?_; rintro e w2 ⟨rfl, hs⟩; rw [Hok.out]; have H2 := Lib.hid (Stp.trans H1.out hs); clear hs)
        go_ret
        refine ⟨_, rfl, ?_, H2.out⟩
        rw [← Hb.out, not_ok Hx.out Hok.out]
        exact decide_eq_true (by omega)
      · have Hs := Lib.hid (take_ok Hx.out Hn.out hok)
        have Hok := Lib.hid hok
        clear hok
        go_wp2_with (go_at_call 42; refine (isnone_s x _).mono ?_; rintro e w2 ⟨rfl, hs⟩; rw [Hok.out]; have H2 := Lib.hid (Stp.trans H1.out hs); clear hs)
        go_roundw
        case rel => exact ⟨k + 1, by omega, by go_num, H2, Hs⟩
        case measure => simp [intOf]; omega
    · obtain rfl : k = xs.length := by omega
      go_wp2_with fail
      go_ret
      refine ⟨_, rfl, ?_, H1.out⟩
      have h := Hn.out
      rw [List.take_length] at h
      rw [← Hb.out, h]
      rfl
set_option maxRecDepth 100000 in
theorem contains_s (xs : List Int) (z : Nat) (hz : xs.length = z) (hl : z < 9223372036854775808) (A : Option Addr) (c : Nat) (w : World) (ha : RdZ w A c xs) (b : Bool) (hb : xs.all okC = b) :
    Calls Tryz.prog 44 #[.slice A z c, .func (.func 42) #[] #[]] w fun e w' => e = .returned (.bool (!b)) ∧ Stp w w' := by
  have h0 := Lib.hid (Stp.refl w)
  have Ha := Lib.hid ha
  have Hb := Lib.hid hb
  have Hz := Lib.hid hz
  clear ha hb hz
  go_enter Tryz.func44, Tryz.ntmps44
  go_wp2_with (go_at_call 71; refine (idx_s xs z Hz.out hl A c _ Ha.out b Hb.out).mono ?_; rintro e w2 ⟨r, rfl, hr, hs⟩; replace h0 := Lib.hid (Stp.trans h0.out hs); clear hs)
  go_ret
  exact ⟨rfl, h0.out⟩
set_option maxRecDepth 100000 in
set_option maxHeartbeats 4000000 in
theorem may_s (s : Sett) (A : Option Addr) (k : Nat) (v : Value) (hv : v = sv s A k) (hs : SmallS s) (b : Bool) (hb : mayS s = b) (w : World) (ha : RdZ w A k s.caps) :
    Calls Tryz.prog 26 #[v] w fun e w' => e = .returned (.bool b) ∧ Stp w w' := by
  subst hv
  have h0 := Stp.alloc (Stp.refl w) (.cells (scells s A k) 52)
  have Hb := Lib.hid (Blk.new w 52 (scells s A k))
  have Ha : Hid (RdZ (w.alloc (.cells (scells s A k) 52)) A k s.caps) := Lib.hid (RdA.keep ha h0)
  have H := Lib.hid h0
  obtain ⟨b0, k0⟩ : ∃ b, mayLb s.label 1 = b := ⟨_, rfl⟩
  obtain ⟨b1, k1⟩ : ∃ b, decide (1 ≤ s.b) = b := ⟨_, rfl⟩
  obtain ⟨b2, k2⟩ : ∃ b, decide (s.b ≤ 20) = b := ⟨_, rfl⟩
  obtain ⟨b3, k3⟩ : ∃ b, decide ((s.caps.length : Int) ≤ 12) = b := ⟨_, rfl⟩
  obtain ⟨b4, k4⟩ : ∃ b, s.caps.all okC = b := ⟨_, rfl⟩
  have hbb : b = (b0 && (b1 && (b2 && (b3 && b4)))) := by
    rw [← hb, mayS, ← k0, ← k1, ← k2, ← k3, ← k4]
    rw [show decide (s.caps.length ≤ 12) = decide ((s.caps.length : Int) ≤ 12) from decide_eq_decide.2 (by omega)]
  have K0 := Lib.hid k0
  have K4 := Lib.hid k4
  have HBB := Lib.hid hbb
  have hl := hs.label
  have hcl := hs.few
  have HL := Lib.hid hcl
  obtain ⟨q0, q1, q2⟩ := set_cells3 Hb.out
  clear ha hs hb hbb k0 k4 h0
  obtain ⟨x4, hx4⟩ : ∃ x, (!b4) = x := ⟨_, rfl⟩
  have hb4 : b4 = !x4 := by rw [← hx4]; simp
  cases b0
  · go_enter Tryz.func26, Tryz.ntmps26
    go_wp2_with (go_at_call 43; (with_reducible refine (Label.lmay_s s.label _ rfl hl 1 _ K0.out _).mono ?_); rintro e w1 ⟨rfl, rfl⟩)
    go_ret
    exact ⟨by rw [HBB.out]; rfl, H.out⟩
  cases b1
  · go_enter Tryz.func26, Tryz.ntmps26
    go_wp2_with (go_at_call 43; (with_reducible refine (Label.lmay_s s.label _ rfl hl 1 _ K0.out _).mono ?_); rintro e w1 ⟨rfl, rfl⟩)
    go_ret
    exact ⟨by rw [HBB.out]; rfl, H.out⟩
  cases b2
  · go_enter Tryz.func26, Tryz.ntmps26
    go_wp2_with (go_at_call 43; (with_reducible refine (Label.lmay_s s.label _ rfl hl 1 _ K0.out _).mono ?_); rintro e w1 ⟨rfl, rfl⟩)
    go_ret
    exact ⟨by rw [HBB.out]; rfl, H.out⟩
  cases b3
  · go_enter Tryz.func26, Tryz.ntmps26
    go_wp2_with (go_at_call 43; (with_reducible refine (Label.lmay_s s.label _ rfl hl 1 _ K0.out _).mono ?_); rintro e w1 ⟨rfl, rfl⟩)
    go_ret
    exact ⟨by rw [HBB.out]; rfl, H.out⟩
  go_enter Tryz.func26, Tryz.ntmps26
  go_wp2_with (first
    | (go_at_call 43; (with_reducible refine (Label.lmay_s s.label _ rfl hl 1 _ K0.out _).mono ?_); rintro e w1 ⟨rfl, rfl⟩)
    | (go_at_call 44; (with_reducible refine (contains_s s.caps _ rfl HL.out A k _ Ha.out _ K4.out).mono ?_); rintro e w2 ⟨rfl, hs⟩; replace H := Lib.hid (Stp.trans H.out hs); clear hs))
  go_ret
  exact ⟨by rw [HBB.out, ← hx4]; simp, H.out⟩

/-! ### whether two lists are the same -/
end Go.Proofs.YtllnnlmhbmladaaGreatDoor.Vol

namespace Go.Proofs.YtllnnlmhbmladaaGreatDoor.Base
open Go.RowKit
set_option linter.unusedVariables false

/-- All that was there is as it was, but for the blocks of X. -/
structure Far (X : Nat → Prop) (w w' : World) : Prop where
  os : w'.os = w.os
  tape : w'.tape = w.tape
  output : w'.output = w.output
  size : w.heap.size ≤ w'.heap.size
  block : ∀ j, j < w.heap.size → ¬ X j → w'.heap[j]? = w.heap[j]?
/-- The blocks of X hold no bytes. -/
def No8 (X : Nat → Prop) (w : World) : Prop := ∀ g, X g → ∀ (i : Nat) (x : Int), w.cell? ⟨g, i, none⟩ ≠ some (.int .u8 x)
section
variable {X Y : Nat → Prop} {w w' w2 : World} {lo B : Nat} {e e2 e3 t : TypeId} {u v : Value} {A : Option Addr} {cap : Nat} {l : List UInt8} {ls vs : List (List UInt8)} {vss : List (List (List UInt8))} {us : List Value} {cs : Array Value}
theorem Far.refl (X : Nat → Prop) (w : World) : Far X w w := ⟨rfl, rfl, rfl, Nat.le_refl _, fun _ _ _ => rfl⟩
theorem Far.of_stp (h : Stp w w') : Far X w w' := ⟨h.os, h.tape, h.output, h.size, fun j hj _ => h.block j hj⟩
theorem Far.trans (h : Far X w w') (k : Far X w' w2) : Far X w w2 :=
  ⟨k.os.trans h.os, k.tape.trans h.tape, k.output.trans h.output, Nat.le_trans h.size k.size, fun j hj hx => (k.block j (Nat.lt_of_lt_of_le hj h.size) hx).trans (h.block j hj hx)⟩
theorem Far.more (h : Far X w w') (hl : ∀ j, X j → Y j) : Far Y w w' := ⟨h.os, h.tape, h.output, h.size, fun j hj hy => h.block j hj fun hx => hy (hl j hx)⟩
theorem Far.set (h : Far X w w') {g : Nat} (hg : X g) (i : Nat) (u : Value) : Far X w (w'.setCell ⟨g, i, none⟩ u) := by
  have k := Below.setCell (B := 0) (Below.refl 0 w') (p := ⟨g, i, none⟩) (Nat.zero_le _) u
  exact ⟨k.os.trans h.os, k.tape.trans h.tape, k.output.trans h.output, Nat.le_trans h.size k.size, fun j hj hx => (Below.heap_setCell w' ⟨g, i, none⟩ u j (fun e => hx (by rw [show j = g from e]; exact hg))).trans (h.block j hj hx)⟩
theorem Far.stp {w0 : World} (h : Far X w w') (h0 : Stp w0 w) (hx : ∀ j, X j → w0.heap.size ≤ j) : Stp w0 w' :=
  ⟨h.os.trans h0.os, h.tape.trans h0.tape, h.output.trans h0.output, Nat.le_trans h0.size h.size, fun j hj => (h.block j (Nat.lt_of_lt_of_le hj h0.size) (fun hxj => Nat.lt_irrefl _ (Nat.lt_of_lt_of_le hj (hx j hxj)))).trans (h0.block j hj)⟩
theorem Far.blk (h : Far X w w') {g : Nat} (hb : Blk w g t cs) (hg : ¬ X g) : Blk w' g t cs := (h.block g hb.lt hg).trans hb
theorem Far.rd8 (h : Far X w w') (hn : No8 X w) (hr : Rd w B u (bs l)) (hB : B ≤ w.heap.size) : Rd w' B u (bs l) := by
  obtain ⟨A, cap, rfl, hc, hr⟩ := hr
  refine ⟨A, cap, rfl, hc, fun hne => ?_⟩
  obtain ⟨b, o, rfl, hb, hu⟩ := hr hne
  refine ⟨b, o, rfl, hb, fun j x hj => ?_⟩
  have hj2 := hu j x hj
  have hx : ¬ X b := fun q => by
    have hm := List.mem_of_getElem? hj
    simp only [bs, List.mem_map] at hm
    obtain ⟨y, -, rfl⟩ := hm
    exact hn b q _ _ hj2
  rw [← hj2]
  simp only [World.cell?, h.block b (Nat.lt_of_lt_of_le hb hB) hx]
theorem Far.rdL (h : Far X w w') (hn : No8 X w) (hr : RdL w A cap ls) (ha : ∀ b o, A = some ⟨b, o, none⟩ → ¬ X b) : RdL w' A cap ls := by
  obtain ⟨us, h1, h2, h3⟩ := hr
  refine ⟨us, h1, ?_, fun j l hj => ?_⟩
  · obtain ⟨A', c', heq, hc, hr⟩ := h2
    cases heq
    refine ⟨A, cap, rfl, hc, fun hne => ?_⟩
    obtain ⟨b, o, rfl, hb, hu⟩ := hr hne
    refine ⟨b, o, rfl, Nat.lt_of_lt_of_le hb h.size, fun j x hj => ?_⟩
    rw [← hu j x hj]
    simp only [World.cell?, h.block b hb (ha b o rfl)]
  · obtain ⟨u, hu, hr⟩ := h3 j l hj
    exact ⟨u, hu, (h.rd8 hn hr (Nat.le_refl _)).more h.size⟩
theorem Far.own (h : Far X w w') (ho : Own w lo e v us) (hx : ∀ j, X j → j < lo) : Own w' lo e v us := by
  rcases ho with ho | ⟨g, cap, cur, fz, h1, h2, h3, h4⟩
  · exact .inl ho
  · exact .inr ⟨g, cap, cur, fz, h1, h2, (h.block g (lt_of_block h3) (fun q => by have := hx g q; omega)).trans h3, h4⟩
theorem Far.allSl (h : Far X w w') (ho : Own w lo e v us) (hs : AllSl w v) (hx : ∀ j, X j → j < lo) : AllSl w' v := fun g hg j c hc => by
  have hl := ho.lt g hg
  have e2 : w'.cell? ⟨g, j, none⟩ = w.cell? ⟨g, j, none⟩ := by simp only [World.cell?, h.block g hl.2 (fun q => by have := hx g q; omega)]
  rw [e2] at hc
  exact hs g hg j c hc
theorem Far.rows (h : Far X w w') (hn : No8 X w) (hr : Rows w lo e v ls) (hx : ∀ j, X j → j < lo) : Rows w' lo e v ls := by
  obtain ⟨us, h1, h2, h3, h4⟩ := hr
  refine ⟨us, h.own h1 hx, h.allSl h1 h2 hx, h3, fun j l hj => ?_⟩
  obtain ⟨u, hu, hr⟩ := h4 j l hj
  exact ⟨u, hu, (h.rd8 hn hr (Nat.le_refl _)).more h.size⟩
/-- The blocks of X are of another type. -/
def NoT (X : Nat → Prop) (e : TypeId) (w : World) : Prop := ∀ g, X g → ∀ cur fz, w.heap[g]? ≠ some (.cells cur e fz)
theorem Far.rdT (h : Far X w w') (hn : No8 X w) (ht : NoT X e w) (hr : RdT w e u vs) : RdT w' e u vs := by
  obtain ⟨A, c, rfl, hL, ht2⟩ := hr
  have far : ∀ b o, A = some ⟨b, o, none⟩ → ¬ X b := fun b o e1 q => by
    subst e1
    obtain ⟨cur, fz, e2⟩ := ht2 b rfl
    exact ht b q cur fz e2
  refine ⟨A, c, rfl, h.rdL hn hL far, fun g hg => ?_⟩
  obtain ⟨cur, fz, q⟩ := ht2 g hg
  refine ⟨cur, fz, (h.block g (lt_of_block q) fun hx => ht g hx cur fz q).trans q⟩
theorem Far.rows3 (h : Far X w w') (hn : No8 X w) (ht : NoT X e2 w) (hr : Rows3 w lo e3 e2 v vss) (hx : ∀ j, X j → j < lo) : Rows3 w' lo e3 e2 v vss := by
  obtain ⟨us, h1, h2, h3, h4⟩ := hr
  refine ⟨us, h.own h1 hx, h.allSl h1 h2 hx, h3, fun j l hj => ?_⟩
  obtain ⟨u, hu, hr⟩ := h4 j l hj
  exact ⟨u, hu, h.rdT hn ht hr⟩
theorem RdL.lt_size (hr : RdL w A cap ls) (h2 : 1 ≤ ls.length) : ∀ b o, A = some ⟨b, o, none⟩ → b < w.heap.size := by
  rintro b o rfl
  obtain ⟨us, h1, ⟨A', c', heq, hc, hr⟩, -⟩ := hr
  cases heq
  obtain ⟨b', o', he, hb, -⟩ := hr (fun e => by rw [e] at h1; simp at h1; omega)
  cases he
  exact hb
/-- The row's slice begins where it owns it. -/
theorem Rows.own_type (h : Rows w lo e v ls) {g : Nat} (hg : v.ownBlock = some g) : lo ≤ g ∧ ∃ cur fz, w.heap[g]? = some (.cells cur e fz) := by
  obtain ⟨us, h1, -⟩ := h
  exact ⟨(h1.lt g hg).1, Base.own_type h1 hg⟩
end
end Go.Proofs.YtllnnlmhbmladaaGreatDoor.Base

namespace Go.Proofs.YtllnnlmhbmladaaGreatDoor.Vol
open Go.Sort Go.RowKit Go.Proofs.YtllnnlmhbmladaaGreatDoor.Str Go.Proofs.YtllnnlmhbmladaaGreatDoor.Base Go.Proofs.YtllnnlmhbmladaaGreatDoor.Node Go.Proofs.YtllnnlmhbmladaaGreatDoor.Head Go.Proofs.YtllnnlmhbmladaaGreatDoor.Long Go.Proofs.YtllnnlmhbmladaaGreatDoor.Entry Go.Proofs.YtllnnlmhbmladaaGreatDoor.LabelM Go.Proofs.YtllnnlmhbmladaaGreatDoor.ContM Go.Proofs.YtllnnlmhbmladaaGreatDoor.Stream Go.Proofs.YtllnnlmhbmladaaGreatDoor.VolM
open Go.Proofs.YtllnnlmhbmladaaGreatDoor.Tree (oneB mayT fewT)
set_option linter.unusedVariables false

theorem where_v (t : List Nd) (m : Nat) (hm : t.length = m) (hl : m ≤ 1000) (hn : ∀ n ∈ t, SmallN n) (i K J : Int) (hk : whereS t i = (K, J)) (T : Option Addr) (ct : Nat) (w : World) (ht : RdN w T ct t) :
    Calls Tryz.prog 45 #[.slice T m ct, .int .i64 i] w fun e w' => e = .returned (.tuple #[.int .i64 K, .int .i64 J]) ∧ Stp w w' := by
  have := Stream.whose_s t m hm hl hn i T ct w ht
  rwa [hk] at this
theorem where_sign {t : List Nd} {pos K J : Int} (h : whereS t pos = (K, J)) : 0 ≤ K ↔ mayT t = true ∧ 0 ≤ pos ∧ pos < ((allS t).length : Int) := by
  rw [whereS] at h
  split at h
  · rename_i hc
    have ht : mayT t = true := by
      cases e : mayT t
      · rw [allS_no e] at hc
        simp at hc
        omega
      · rfl
    obtain ⟨k, e, -⟩ := (where_may ht pos.toNat).1
    rw [h] at e
    dsimp only at e
    exact ⟨fun _ => ⟨ht, hc.1, hc.2⟩, fun _ => by omega⟩
  · rename_i hc
    rw [Prod.mk.injEq] at h
    exact ⟨fun a => by omega, fun a => absurd a.2 hc⟩
set_option maxRecDepth 100000 in
set_option maxHeartbeats 4000000 in
theorem begin_yes (t : List Nd) (m : Nat) (hm : t.length = m) (hl : m ≤ 1000) (hn : ∀ n ∈ t, SmallN n) (s : Sett) (hs : SmallS s) (pos n : Int) (hb : beginB t s pos n = true) (T A : Option Addr) (ct k : Nat) (w : World) (ht : RdN w T ct t) (ha : RdZ w A k s.caps) (htab : Label.Tab w) :
    Calls Tryz.prog 28 #[.slice T m ct, sv s A k, .int .i64 pos, .int .i64 n] w fun e w' => ∃ v, e = .returned (.tuple #[v, .bool true]) ∧ Base.Rows w' w.heap.size 46 v (beginL t s pos.toNat n) ∧ Stp w w' := by
  have h0 := Stp.alloc (Stp.refl w) (.cells (scells s A k) 52)
  have Hb := Lib.hid (Blk.new w 52 (scells s A k))
  have Ha : Hid (RdZ (w.alloc (.cells (scells s A k) 52)) A k s.caps) := Lib.hid (RdA.keep ha h0)
  have H := Lib.hid h0
  have Hs := Lib.hid hs
  have Hn := Lib.hid hn
  have HT := Lib.hid htab
  have hlb := hs.label
  obtain ⟨q0, q1, q2⟩ := set_cells3 Hb.out
  obtain ⟨h1, h2, h3, h4, h5⟩ := beginB_iff.1 hb
  obtain ⟨z, hz⟩ : ∃ z, (allS t).length = z := ⟨_, rfl⟩
  rw [hz] at h5
  obtain ⟨X, hX⟩ : ∃ x, lblK s.label n = x := ⟨_, rfl⟩
  have hXl : X.length = 512 := by rw [← hX, lblK]; exact blk_length (name_may h3).1 (name_may h3).2
  have K1 := Lib.hid h2
  have K3 : Hid (putL s.label n = (X, true)) := Lib.hid (by rw [putL, if_pos h3, ← hX]; rfl)
  have HY := Lib.hid hXl
  have hw : whereS t pos = whereL t 0 pos.toNat := by unfold whereS; rw [hz, if_pos ⟨h4, h5⟩]
  have hbl : beginL t s pos.toNat n = X :: goesOn t pos.toNat := by rw [beginL, hX]
  rw [hbl]
  by_cases hJ : 0 ≤ (whereL t 0 pos.toNat).2
  · obtain ⟨kk, nd, hk, e1, e2, e3, -⟩ := goes_get h1 hJ
    rw [e2]
    obtain ⟨J, hJJ⟩ : ∃ J, (whereL t 0 pos.toNat).2 = J := ⟨_, rfl⟩
    rw [hJJ, Int.mul_comm 512 J] at e3 ⊢
    rw [hJJ] at hJ
    have HW : Hid (whereS t pos = ((kk : Int), J)) := Lib.hid (by rw [hw, ← e1, ← hJJ])
    have hJ8 : J ≤ 8 := by
      obtain ⟨f0, -, f2, -⟩ := mayC_iff.1 e3
      have := (oneF (isFile_iff.1 f0).1).data
      omega
    have hklt := (List.getElem?_eq_some_iff.1 hk).1
    rw [hm] at hklt
    have g7 : decide ((kk : Int) < 0) = false := decide_eq_false (by omega)
    have g8 : decide (0 ≤ J) = true := decide_eq_true hJ
    have Hk := Lib.hid hk
    have Hnd := Lib.hid (hn nd (List.mem_of_getElem? hk))
    obtain ⟨M, hM⟩ : ∃ M, putC nd (J * 512) = M := ⟨_, rfl⟩
    obtain ⟨mz, hmz⟩ : ∃ m, M.length = m := ⟨_, rfl⟩
    have HM := Lib.hid hM
    have HZ5 := Lib.hid hmz
    have HZ3 : Hid (mz ≤ 3) := Lib.hid (by rw [← hmz, ← hM]; exact putC_le _ _)
    have Hmc := Lib.hid e3
    obtain ⟨g0, o0, rfl, -, -⟩ := ht.cells hk
    have Ht := Lib.hid (ht.keep h0)
    have Hm := Lib.hid hm
    rw [hM]
    clear h0 ha ht hs hn hb h1 h2 h3 h4 h5 hz hX hXl hw hbl e1 e2 e3 hJJ hk hM hmz hm htab
    go_enter Tryz.func28, Tryz.ntmps28
    go_wp2_with (first
      | (go_at_call 45; (with_reducible refine (where_v t m Hm.out hl Hn.out pos _ _ HW.out _ ct _ Ht.out).mono ?_); rintro e w4 ⟨rfl, hs⟩; replace Hb := Lib.hid (Hb.out.keep hs Hb.out.lt); replace Ha := Lib.hid (RdA.keep Ha.out hs); replace Ht := Lib.hid (Ht.out.keep hs); replace H := Lib.hid (Stp.trans H.out hs); clear hs q0 q1 q2; obtain ⟨q0, q1, q2⟩ := set_cells3 Hb.out)
      | (go_at_call 26; (with_reducible refine (may_s s A k _ rfl Hs.out _ K1.out _ Ha.out).mono ?_); rintro e w1 ⟨rfl, hs⟩; replace Hb := Lib.hid (Hb.out.keep hs Hb.out.lt); replace Ht := Lib.hid (Ht.out.keep hs); replace H := Lib.hid (Stp.trans H.out hs); clear hs q0 q1 q2; obtain ⟨q0, q1, q2⟩ := set_cells3 Hb.out)
      | (go_at_call 36; (with_reducible refine (Label.lput_s s.label _ rfl hlb n _ 512 _ K3.out HY.out _ (HT.out.keep H.out)).mono ?_); rintro e w3 ⟨A3, c3, rfl, hr, hs⟩; have HR := Lib.hid (Rows.one (e := 46) hr HY.out); have HS := Lib.hid (Stp.trans H.out hs).size; have H3 := Lib.hid (Stp.alloc (Stp.refl w3) (.cells #[.slice A3 512 c3] 46)); replace hs := Stp.alloc hs (.cells #[.slice A3 512 c3] 46); replace Ht := Lib.hid (Ht.out.keep hs); replace H := Lib.hid (Stp.trans H.out hs); clear hr hs q0 q1 q2; obtain ⟨_, _, hgo, -, r0, r1, r2, r3, r4, r5, r6, r7⟩ := Ht.out.cells Hk.out; cases hgo)
      | (go_at_call 46; (with_reducible refine (Cont.cput_s nd _ rfl Hnd.out (J * 512) M HM.out mz HZ5.out true Hmc.out _).mono ?_); rintro e w5 ⟨A5, c5, rfl, hr, hs⟩; have Hr := Lib.hid hr; replace HR := Lib.hid (HR.out.keep hs); replace H3 := Lib.hid (Stp.trans H3.out hs); replace H := Lib.hid (Stp.trans H.out hs); clear hr hs r0 r1 r2 r3 r4 r5 r6 r7)
      | (at_builtin; refine Base.wpList_append_rows (P := Tryz.prog) rfl (.tmp 53) (.tmp 54) 36 rfl 46 Tryz.underlying36 blocks_info _ rfl HR.out rfl Hr.out HZ5.out (by have := HZ5.out; have := HZ3.out; simp only [List.length_cons, List.length_nil]; omega) H3.out.size ?_; intro v6 w6 hR hg; replace H := Lib.hid (HR.out.stp H.out HS.out hg); have HR9 := Lib.hid (Base.Rows.less hR HS.out); clear hR hg))
    go_ret2
    exact ⟨_, rfl, HR9.out, H.out⟩
  · rw [goes_none (by omega)]
    obtain ⟨⟨K, J⟩, hKJ⟩ : ∃ p, whereL t 0 pos.toNat = p := ⟨_, rfl⟩
    rw [hKJ] at hJ hw
    have g7 : decide (K < 0) = false := decide_eq_false (by have := (where_sign hw).2 ⟨h1, h4, by rw [hz]; exact h5⟩; omega)
    have HW := Lib.hid hw
    have g6 : decide (0 ≤ J) = false := decide_eq_false hJ
    have Ht := Lib.hid (ht.keep h0)
    have Hm := Lib.hid hm
    clear h0 ha ht hs hn hb h1 h2 h3 h4 h5 hz hX hXl hw hbl hJ hKJ hm htab
    go_enter Tryz.func28, Tryz.ntmps28
    go_wp2_with (first
      | (go_at_call 45; (with_reducible refine (where_v t m Hm.out hl Hn.out pos _ _ HW.out _ ct _ Ht.out).mono ?_); rintro e w4 ⟨rfl, hs⟩; replace Hb := Lib.hid (Hb.out.keep hs Hb.out.lt); replace Ha := Lib.hid (RdA.keep Ha.out hs); replace Ht := Lib.hid (Ht.out.keep hs); replace H := Lib.hid (Stp.trans H.out hs); clear hs q0 q1 q2; obtain ⟨q0, q1, q2⟩ := set_cells3 Hb.out)
      | (go_at_call 26; (with_reducible refine (may_s s A k _ rfl Hs.out _ K1.out _ Ha.out).mono ?_); rintro e w1 ⟨rfl, hs⟩; replace Hb := Lib.hid (Hb.out.keep hs Hb.out.lt); replace Ht := Lib.hid (Ht.out.keep hs); replace H := Lib.hid (Stp.trans H.out hs); clear hs q0 q1 q2; obtain ⟨q0, q1, q2⟩ := set_cells3 Hb.out)
      | (go_at_call 36; (with_reducible refine (Label.lput_s s.label _ rfl hlb n _ 512 _ K3.out HY.out _ (HT.out.keep H.out)).mono ?_); rintro e w3 ⟨A3, c3, rfl, hr, hs⟩; have HR := Lib.hid (Rows.one (e := 46) hr HY.out); have HS := Lib.hid (Stp.trans H.out hs).size; replace hs := Stp.alloc hs (.cells #[.slice A3 512 c3] 46); replace H := Lib.hid (Stp.trans H.out hs); clear hr hs q0 q1 q2))
    go_ret2
    exact ⟨_, rfl, Base.Rows.less HR.out HS.out, H.out⟩
end Go.Proofs.YtllnnlmhbmladaaGreatDoor.Vol

namespace Go.Proofs.YtllnnlmhbmladaaGreatDoor.Vol
open Go.Sort Go.RowKit Go.Proofs.YtllnnlmhbmladaaGreatDoor.Str Go.Proofs.YtllnnlmhbmladaaGreatDoor.Base Go.Proofs.YtllnnlmhbmladaaGreatDoor.Node Go.Proofs.YtllnnlmhbmladaaGreatDoor.Head Go.Proofs.YtllnnlmhbmladaaGreatDoor.Long Go.Proofs.YtllnnlmhbmladaaGreatDoor.Entry Go.Proofs.YtllnnlmhbmladaaGreatDoor.LabelM Go.Proofs.YtllnnlmhbmladaaGreatDoor.ContM Go.Proofs.YtllnnlmhbmladaaGreatDoor.Stream Go.Proofs.YtllnnlmhbmladaaGreatDoor.VolM
open Go.Proofs.YtllnnlmhbmladaaGreatDoor.Tree (oneB mayT fewT)
set_option linter.unusedVariables false

theorem rdL_room {w : World} {A : Option Addr} {c : Nat} {ls : LL} (h : RdL w A c ls) (k : Nat) (h1 : ls.length ≤ k) : RdL w A k ls := by
  obtain ⟨us, h2, ⟨A', c', e, hc, hr⟩, h3⟩ := h
  cases e
  exact ⟨us, h2, ⟨A, k, rfl, by omega, hr⟩, h3⟩
/-- A part of three numbers, of the first ones. -/
theorem slice_hm (b o N c k : Nat) (hk : k ≤ N) (hN : N ≤ c) (w : World) : (Instr.slice 36 (.slice (some ⟨b, o, none⟩) N c) none (some (.int .i64 (k : Int))) (some (.int .i64 (k : Int)))).run Tryz.prog w = .ok (.slice (some ⟨b, o, none⟩) k k) w := by
  have he : Tryz.prog.elem 36 = 46 := by kernel_rfl
  rw [run_slice_hm (P := Tryz.prog) w 36 _ _ _ (by rw [he]; exact Tryz.underlying36) .i64 .i64 k k (by omega) (by omega) (by omega), he, sl_size]
  simp only [Result.andThen_ok, sliced, Int.toNat_natCast, Nat.sub_zero, Nat.zero_mul, Option.map_some, Addr.add_lit, Nat.add_zero, ite_self]
/-- The others. -/
theorem slice_rest (b o N c k : Nat) (hk : k ≤ N) (hN : N ≤ c) : ∃ o', (∀ w : World, (Instr.slice 36 (.slice (some ⟨b, o, none⟩) N c) (some (.int .i64 (k : Int))) none none).run Tryz.prog w = .ok (.slice (some ⟨b, o', none⟩) (N - k) (c - k)) w) ∧
    ∀ (w : World) (ls : LL), ls.length = N → RdL w (some ⟨b, o, none⟩) c ls → RdL w (some ⟨b, o', none⟩) (c - k) (ls.drop k) := by
  have he : Tryz.prog.elem 36 = 46 := by kernel_rfl
  by_cases hc : c = k
  · refine ⟨o, fun w => ?_, fun w ls hl h => ?_⟩
    · rw [run_slice_l (P := Tryz.prog) w 36 _ _ _ (by rw [he]; exact Tryz.underlying36) .i64 k (by omega) (by omega), he, sl_size]
      simp only [Result.andThen_ok, sliced]
      rw [if_pos (by omega)]
      rfl
    · rw [List.drop_eq_nil_of_le (by omega)]
      exact rdL_none _ _ _
  · refine ⟨o + k, fun w => ?_, fun w ls hl h => rdL_drop k o c ls (by omega) h⟩
    rw [run_slice_l (P := Tryz.prog) w 36 _ _ _ (by rw [he]; exact Tryz.underlying36) .i64 k (by omega) (by omega), he, sl_size]
    simp only [Result.andThen_ok, sliced]
    rw [if_neg (by omega)]
    simp only [Option.map_some, Addr.add_lit, Int.toNat_natCast, Nat.mul_one]
theorem zeros_rep (m : Nat) (hm : m ≤ 400) : BlockM.zerosV (m : Int) = List.replicate m nought := by
  cases m with
  | zero => rw [BlockM.zerosV_no (by omega)]; rfl
  | succ m => rw [BlockM.zerosV_yes (by omega), Int.toNat_natCast, BlockM.blks_nil]; rfl
theorem zeros_n (m : Nat) (hm : m ≤ 400) (w : World) : Calls Tryz.prog 47 #[.int .i64 (m : Int)] w fun e w' => ∃ A c, e = .returned (.slice A m c) ∧ RdL w' A c (List.replicate m nought) ∧ Stp w w' := by
  have h := Block.zeros_s (m : Int) w
  rw [zeros_rep m hm, List.length_replicate] at h
  exact h
/-- A volume, as the code makes it. -/
theorem vol_cut {t : List Nd} {s : Sett} {pos n room bl k z bb cc : Nat} {V : LL} (hV : beginL t s pos ((n : Int) + 1) = V) (hbl : V.length = bl) (hz : (allS t).length = z) (hp : pos < z) (hr : bl < room) (hk : min (room - bl) (z - pos) = k) (hb : s.b.toNat = bb) (hb1 : 1 ≤ bb) (hroom : room = bb * cc) :
    volV t s pos n room = (V ++ ((allS t).drop pos).take k) ++ List.replicate ((bb - (bl + k) % bb) % bb) nought := by
  have ht : ((allS t).drop pos).take (room - bl) = ((allS t).drop pos).take k := by
    by_cases h : room - bl ≤ z - pos
    · rw [show k = room - bl by omega]
    · rw [List.take_of_length_le (by rw [List.length_drop]; omega), List.take_of_length_le (by rw [List.length_drop]; omega)]
  have hl : (V ++ ((allS t).drop pos).take k).length = bl + k := by rw [List.length_append, List.length_take, List.length_drop]; omega
  rw [volV, hV, hbl, hz, ht, hb]
  by_cases h : pos + (room - bl) < z
  · rw [if_pos h]
    have e : (bl + k) % bb = 0 := by
      rw [show bl + k = bb * cc by omega]
      exact Nat.mul_mod_right _ _
    rw [e, Nat.sub_zero, Nat.mod_self]
    simp
  · rw [if_neg h]
    simp only [hl]
set_option maxRecDepth 100000 in
set_option maxHeartbeats 2000000 in
theorem missing_s (s : Sett) (A : Option Addr) (k : Nat) (bb : Nat) (hb : s.b = (bb : Int)) (h1 : 1 ≤ bb) (h2 : bb ≤ 20) (m : Nat) (hm : m ≤ 100000) (w : World) :
    Calls Tryz.prog 48 #[sv s A k, .int .i64 (m : Int)] w fun e w' => e = .returned (.int .i64 (((bb - m % bb) % bb : Nat) : Int)) ∧ Stp w w' := by
  have h0 := Stp.alloc (Stp.refl w) (.cells (scells s A k) 67)
  obtain ⟨q0, q1, q2⟩ := set_cells3 (Blk.drew (Blk.new w 67 (scells s A k)))
  rw [hb] at q1
  have H := Lib.hid h0
  have g0 : (bb : Int) ≠ 0 := by omega
  clear h0 hb
  go_enter Tryz.func48, Tryz.ntmps48
  go_wp2
  go_region
  go_wp2
  go_ret
  have key : (wrap64 ((bb : Int) - (m : Int) % (bb : Int))).tmod (bb : Int) = (((bb - m % bb) % bb : Nat) : Int) := by
    have hlt := Nat.mod_lt m h1
    rw [show wrap64 ((bb : Int) - (m : Int) % (bb : Int)) = ((bb - m % bb : Nat) : Int) from by rw [← Int.natCast_emod]; unfold wrap64; omega]
    exact (Int.ofNat_tmod _ _).symm
  exact ⟨congrArg (fun x => Ending.returned (.int .i64 x)) key, Stp.drewN H.out 1⟩

/-! ### what is left, in two boxes -/
abbrev Two (gl gp : Nat) : Nat → Prop := fun j => j = gl ∨ j = gp
theorem no8_two {w : World} {gl gp : Nat} {A : Option Addr} {N c : Nat} {p : Int} (hl : Blk w gl 36 #[.slice A N c]) (hp : Blk w gp 3 #[.int .i64 p]) : No8 (Two gl gp) w := by
  rintro g (rfl | rfl) i x h
  · rw [hl.cell] at h
    cases i <;> simp at h
  · rw [hp.cell] at h
    cases i <;> simp at h
set_option maxRecDepth 100000 in
set_option maxHeartbeats 2000000 in
theorem cut_s {w : World} {gl gp b o N c pos : Nat} (hl : Blk w gl 36 #[.slice (some ⟨b, o, none⟩) N c]) (hp : Blk w gp 3 #[.int .i64 (pos : Int)]) (hne : gl ≠ gp) (hN : N ≤ c) (hz : pos + N ≤ 1000) (most k : Nat) (hk : min most N = k) :
    Calls Tryz.prog 27 #[.int .i64 (most : Int), .pointer (some ⟨gl, 0, none⟩), .pointer (some ⟨gp, 0, none⟩)] w fun e w' => ∃ o', e = .returned (.slice (some ⟨b, o, none⟩) k k) ∧ (∀ (w : World) (ls : LL), ls.length = N → RdL w (some ⟨b, o, none⟩) c ls → RdL w (some ⟨b, o', none⟩) (c - k) (ls.drop k)) ∧
      Far (Two gl gp) w w' ∧ Blk w' gl 36 #[.slice (some ⟨b, o', none⟩) (N - k) (c - k)] ∧ Blk w' gp 3 #[.int .i64 ((pos + k : Nat) : Int)] := by
  have hkN : k ≤ N := by omega
  obtain ⟨o', cr, hR⟩ := slice_rest b o N c k hkN hN
  have ch := slice_hm b o N c k hkN hN
  have hmin : min (most : Int) (N : Int) = (k : Int) := by omega
  have p0 : w.cell? ⟨gl, 0, none⟩ = some (.slice (some ⟨b, o, none⟩) N c) := by rw [hl.cell]; rfl
  have f0 := hl.free 0
  have HL := Lib.hid hl
  have HP := Lib.hid hp
  have HR := Lib.hid hR
  clear hl hp hR
  go_enter Tryz.func27, Tryz.ntmps27
  go_upto_region 4 with fail
  change Code.wp _ _ _ _ (w.setCell ⟨gl, 0, none⟩ (.slice (some ⟨b, o', none⟩) (N - k) (c - k)))
  have hl2 : Blk (w.setCell ⟨gl, 0, none⟩ (.slice (some ⟨b, o', none⟩) (N - k) (c - k))) gl 36 #[.slice (some ⟨b, o', none⟩) (N - k) (c - k)] := HL.out.put 0 _
  have hp2 := HP.out.far (p := ⟨gl, 0, none⟩) (show gp ≠ gl from fun e => hne e.symm) (.slice (some ⟨b, o', none⟩) (N - k) (c - k))
  have hf := Far.set (X := Two gl gp) (Far.refl _ w) (.inl rfl) 0 (.slice (some ⟨b, o', none⟩) (N - k) (c - k))
  generalize w.setCell ⟨gl, 0, none⟩ (.slice (some ⟨b, o', none⟩) (N - k) (c - k)) = W at hl2 hp2 hf ⊢
  have p1 : W.cell? ⟨gp, 0, none⟩ = some (.int .i64 (pos : Int)) := by rw [hp2.cell]; rfl
  have f1 := hp2.free 0
  have HL2 := Lib.hid hl2
  have HP2 := Lib.hid hp2
  have HF := Lib.hid hf
  clear p0 f0 HL HP hl2 hp2 hf
  go_wp2
  go_ret
  exact ⟨o', rfl, HR.out, HF.out.set (.inr rfl) 0 _, HL2.out.far (p := ⟨gp, 0, none⟩) hne _, HP2.out.put 0 _⟩
abbrev Low (gl gp lo : Nat) : Nat → Prop := fun j => Two gl gp j ∨ lo ≤ j
theorem Far.grown {X : Nat → Prop} {w0 w w' : World} {row : Option Nat} (h : Far X w0 w) (hg : w.grownBy w' row) (hr : ∀ g, row = some g → X g) : Far X w0 w' :=
  ⟨hg.os.trans h.os, hg.tape.trans h.tape, hg.output.trans h.output, Nat.le_trans h.size hg.size, fun j hj hx => (hg.block j (Nat.lt_of_lt_of_le hj h.size) (fun e => hx (hr j e.symm))).trans (h.block j hj hx)⟩
theorem Far.low {gl gp lo : Nat} {w0 w w' : World} (h0 : Stp w0 w) (h : Far (Low gl gp lo) w w') (hl : w0.heap.size ≤ lo) : Far (Two gl gp) w0 w' :=
  ⟨h.os.trans h0.os, h.tape.trans h0.tape, h.output.trans h0.output, Nat.le_trans h0.size h.size, fun j hj hx => (h.block j (Nat.lt_of_lt_of_le hj h0.size) (fun e => e.elim hx (fun q => by omega))).trans (h0.block j hj)⟩
set_option maxRecDepth 100000 in
set_option maxHeartbeats 2000000 in
theorem volume_media (s : Sett) (A : Option Addr) (k n : Nat) (hn : s.caps.length ≤ n) (hn2 : n < 1000) (v f : Value) (w : World) :
    Calls Tryz.prog 29 #[sv s A k, .int .i64 ((n : Int) + 1), v, f] w fun e w' => e = .returned (.tuple #[.slice none 0 0, .int .i64 14]) ∧ Stp w w' := by
  have H := Lib.hid (Stp.alloc (Stp.refl w) (.cells (scells s A k) 67))
  obtain ⟨q0, q1, q2⟩ := set_cells3 (Blk.new w 67 (scells s A k))
  have g1 : decide ((s.caps.length : Int) < (n : Int) + 1) = true := decide_eq_true (by omega)
  go_enter Tryz.func29, Tryz.ntmps29
  go_wp2
  go_ret2
  exact ⟨rfl, H.out⟩
set_option maxRecDepth 100000 in
set_option maxHeartbeats 4000000 in
theorem volume_small (s : Sett) (A : Option Addr) (k n : Nat) (hs : mayS s = true) {c : Int} (hc : s.caps[n]? = some c) {B : Option Addr} {bl d : Nat} (f : Value) (hbl : bl ≤ 4) (hr : (s.b * c).toNat ≤ bl) (w : World) (ha : RdZ w A k s.caps) :
    Calls Tryz.prog 29 #[sv s A k, .int .i64 ((n : Int) + 1), .slice B bl d, f] w fun e w' => e = .returned (.tuple #[.slice none 0 0, .int .i64 13]) ∧ Stp w w' := by
  have h0 := Stp.alloc (Stp.refl w) (.cells (scells s A k) 67)
  have H := Lib.hid h0
  obtain ⟨q0, q1, q2⟩ := set_cells3 (Blk.new w 67 (scells s A k))
  obtain ⟨r0, r1, r2⟩ := set_cells3 (Blk.drew (Blk.new w 67 (scells s A k)))
  obtain ⟨hn, -⟩ := List.getElem?_eq_some_iff.1 hc
  have hcok := cap_ok hs hc
  obtain ⟨-, hb1, hb20, h12, -⟩ := mayS_iff.1 hs
  have g1 : decide ((s.caps.length : Int) < (n : Int) + 1) = false := decide_eq_false (by omega)
  obtain ⟨room, hroom⟩ : ∃ r : Nat, (s.b * c).toNat = r := ⟨_, rfl⟩
  have hmul : s.b * c = (room : Int) := by
    have := Int.mul_nonneg (show 0 ≤ s.b by omega) hcok.1
    omega
  rw [hroom] at hr
  obtain ⟨g, o, hA, q3⟩ := RdZ.cell (RdA.keep ha (Stp.drewN h0 1)) hc
  subst hA
  have HM := Lib.hid hmul
  have g0 : (0 : Int) ≤ (n : Int) := by omega
  have gi : n < s.caps.length := hn
  clear h0 hc ha hs hroom hmul
  replace q3 : (w.alloc (.cells (scells s (some ⟨g, o, none⟩) k) 67)).drew.cell? ⟨g, o + n, none⟩ = some (.int .i64 c) := q3
  go_enter Tryz.func29, Tryz.ntmps29
  go_wp2
  go_region
  rw [show wrap64 (wrap64 (s.b * c) - (bl : Int)) = (room : Int) - (bl : Int) from by rw [HM.out]; unfold wrap64; omega]
  have g2 : decide ((room : Int) - (bl : Int) < 1) = true := decide_eq_true (by omega)
  go_wp2
  go_ret2
  exact ⟨rfl, Stp.drewN H.out 1⟩
theorem rows_ne {w : World} {lo g : Nat} {e t : TypeId} {v : Value} {ls : LL} {cs : Array Value} (h : Base.Rows w lo e v ls) (hb : Blk w g t cs) (hne : t ≠ e) : some g ≠ v.ownBlock := fun q => by
  obtain ⟨-, cur, fz, e2⟩ := Base.Rows.own_type h q.symm
  unfold Blk at hb
  rw [hb] at e2
  cases e2
  exact hne rfl
set_option maxRecDepth 100000 in
set_option maxHeartbeats 4000000 in
theorem volume_yes (s : Sett) (A : Option Addr) (k n : Nat) (hs : mayS s = true) {c : Int} (hc : s.caps[n]? = some c) {room : Nat} (hroom : (s.b * c).toNat = room) {B : Option Addr} {bl d lo : Nat} {V : LL} {w : World} (HR0 : Base.Rows w lo 46 (.slice B bl d) V) (hbl : V.length = bl) (hbl4 : bl ≤ 4) (hr : bl < room) (hlo : lo ≤ w.heap.size)
    {gl gp b o N cN pos : Nat} {L : LL} (hl : Blk w gl 36 #[.slice (some ⟨b, o, none⟩) N cN]) (hp : Blk w gp 3 #[.int .i64 (pos : Int)]) (hne : gl < gp) (hplo : gp < lo) (hb2 : b < gl) (hL : RdL w (some ⟨b, o, none⟩) cN L) (hN : L.length = N) (hz : pos + N ≤ 1000) (j : Nat) (hj : min (room - bl) N = j) (f : Nat) (hf : (s.b.toNat - (bl + j) % s.b.toNat) % s.b.toNat = f) (ha : RdZ w A k s.caps) :
    Calls Tryz.prog 29 #[sv s A k, .int .i64 ((n : Int) + 1), .slice B bl d, .func (.func 27) #[] #[.pointer (some ⟨gl, 0, none⟩), .pointer (some ⟨gp, 0, none⟩)]] w fun e w' => ∃ A' c' o', e = .returned (.tuple #[.slice A' (bl + j + f) c', .int .i64 0]) ∧
      Base.Rows w' lo 46 (.slice A' (bl + j + f) c') ((V ++ L.take j) ++ List.replicate f nought) ∧ Far (Low gl gp lo) w w' ∧ Blk w' gl 36 #[.slice (some ⟨b, o', none⟩) (N - j) (cN - j)] ∧ Blk w' gp 3 #[.int .i64 ((pos + j : Nat) : Int)] ∧
      (∀ (w : World) (ls : LL), ls.length = N → RdL w (some ⟨b, o, none⟩) cN ls → RdL w (some ⟨b, o', none⟩) (cN - j) (ls.drop j)) := by
  have h0 := Stp.alloc (Stp.refl w) (.cells (scells s A k) 67)
  have hsb := Blk.new w 67 (scells s A k)
  obtain ⟨q0, q1, q2⟩ := set_cells3 hsb
  obtain ⟨r0, r1, r2⟩ := set_cells3 (Blk.drew hsb)
  obtain ⟨hn, -⟩ := List.getElem?_eq_some_iff.1 hc
  have hcok := cap_ok hs hc
  obtain ⟨hrm, -⟩ := room_is hs hcok.1
  obtain ⟨-, hb1, hb20, h12, -⟩ := mayS_iff.1 hs
  have hroomle : room ≤ 4000 := by
    rw [← hroom, hrm]
    exact Nat.le_trans (Nat.mul_le_mul (show s.b.toNat ≤ 20 by omega) (show c.toNat ≤ 200 by omega)) (by omega)
  have g1 : decide ((s.caps.length : Int) < (n : Int) + 1) = false := decide_eq_false (by omega)
  have hmul : s.b * c = (room : Int) := by
    have := Int.mul_nonneg (show 0 ≤ s.b by omega) hcok.1
    omega
  obtain ⟨bb, hbb⟩ : ∃ bb : Nat, s.b = (bb : Int) := ⟨s.b.toNat, by omega⟩
  have hbt : s.b.toNat = bb := by omega
  rw [hbt] at hf
  have hbb1 : 1 ≤ bb := by omega
  have hbb20 : bb ≤ 20 := by omega
  have hf20 : f ≤ 400 := by
    rw [← hf]
    have := Nat.mod_lt (bb - (bl + j) % bb) hbb1
    omega
  obtain ⟨g, o2, hA, q3⟩ := RdZ.cell (RdA.keep ha (Stp.drewN h0 1)) hc
  subst hA
  have g0 : (0 : Int) ≤ (n : Int) := by omega
  have gi : n < s.caps.length := hn
  have hjN : j ≤ N := by omega
  have hNc : N ≤ cN := by
    have := hL.length_le
    omega
  have hs0 : Stp w (w.alloc (.cells (scells s (some ⟨g, o2, none⟩) k) 67)).drew := Stp.drewN h0 1
  have HM := Lib.hid hmul
  have HSB := Lib.hid (Blk.drew hsb)
  have HX := Lib.hid (Far.of_stp (X := Low gl gp lo) hs0)
  have HRow := Lib.hid (HR0.keep hs0)
  have HL := Lib.hid (hl.keep hs0 hl.lt)
  have HP := Lib.hid (hp.keep hs0 hp.lt)
  have HLL := Lib.hid (hL.keep hs0)
  have HN := Lib.hid hN
  have HBL := Lib.hid hbl
  have HBB := Lib.hid hbb
  have HF := Lib.hid hf
  have HJ := Lib.hid hj
  have HLO : Hid (lo ≤ w.heap.size) := Lib.hid hlo
  have HSZ := Lib.hid hs0.size
  have Hhb := Lib.hid hbb1
  have Hhb2 := Lib.hid hbb20
  have gn : n < 1000 := by omega
  have Hr := Lib.hid hr
  have Hne := Lib.hid (Nat.ne_of_lt hne)
  have Hlt := Lib.hid hne
  have Hpl := Lib.hid hplo
  have Hgl : Hid (gl < lo) := Lib.hid (Nat.lt_trans hne hplo)
  have Hb2 := Lib.hid hb2
  have Hz := Lib.hid hz
  have Hrm := Lib.hid hroomle
  have HjN := Lib.hid hjN
  have HNc := Lib.hid hNc
  have Hf20 := Lib.hid hf20
  have Hb4 := Lib.hid hbl4
  have H12 := Lib.hid h12
  clear hr hne hplo hb2 hz hroomle hjN hNc hf20 hbl4 h12
  clear h0 hc ha hs hroom hmul hs0 hsb hl hp hL hN hbl hbb hf hj HR0 hlo hrm hcok hbb1 hbb20 hbt hb1 hb20
  replace q3 : (w.alloc (.cells (scells s (some ⟨g, o2, none⟩) k) 67)).drew.cell? ⟨g, o2 + n, none⟩ = some (.int .i64 c) := q3
  go_enter Tryz.func29, Tryz.ntmps29
  go_wp2
  go_region
  rw [show wrap64 (wrap64 (s.b * c) - (bl : Int)) = ((room - bl : Nat) : Int) from by have := Hr.out; have := Hrm.out; rw [HM.out]; unfold wrap64; omega]
  have g2 : decide (((room - bl : Nat) : Int) < 1) = false := decide_eq_false (by have := Hr.out; omega)
  obtain ⟨most, hmost⟩ : ∃ x, room - bl = x := ⟨_, rfl⟩
  rw [hmost] at g2 HJ ⊢
  have HJ2 : Hid ((L.take j).length = j) := Lib.hid (by rw [List.length_take, HN.out]; have := HjN.out; omega)
  have HLn : Hid ((V ++ L.take j).length = bl + j) := Lib.hid (by rw [List.length_append, HBL.out, HJ2.out])
  have HM3 : Hid (bl + j ≤ 100000) := Lib.hid (by have := Hb4.out; have := HjN.out; have := Hz.out; omega)
  have HFl : Hid ((List.replicate f nought).length = f) := Lib.hid List.length_replicate
  clear q0 q1 q2 q3 hmost
  generalize (w.alloc (.cells (scells s (some ⟨g, o2, none⟩) k) 67)).drew = W at HSB HX HRow HL HP HLL HSZ r0 r1 r2 ⊢
  go_wp2_with (first
    | (go_at_call 27; refine (cut_s HL.out HP.out Hne.out HNc.out Hz.out most j HJ.out).mono ?_; rintro e w2 ⟨o', rfl, hR, hfar, hl2, hp2⟩; have HR := Lib.hid hR; have hn8 := no8_two HL.out HP.out; replace HX := Lib.hid (HX.out.trans (hfar.more (fun j h => .inl h))); replace HRow := Lib.hid (hfar.rows hn8 HRow.out (fun j h => h.elim (fun e => by rw [e]; exact Hgl.out) (fun e => by rw [e]; exact Hpl.out))); replace HSB := Lib.hid (hfar.blk HSB.out (fun h => by have := Hgl.out; have := Hpl.out; have := HLO.out; rcases h with e | e <;> omega)); have hLL2 := hfar.rdL hn8 HLL.out (fun b' o' e h => by cases e; have := Hb2.out; have := Hlt.out; rcases h with e | e <;> omega); have HPart := Lib.hid (rdL_room (rdL_take hLL2 j) j (by rw [List.length_take]; omega)); replace HSZ := Lib.hid (Nat.le_trans HSZ.out hfar.size); replace HL := Lib.hid hl2; replace HP := Lib.hid hp2; clear hR hn8 hfar hLL2 hl2 hp2 HLL r0 r1 r2; obtain ⟨r0, r1, r2⟩ := set_cells3 HSB.out)
    | (at_builtin; refine Base.wpList_append_rows (P := Tryz.prog) rfl (.tmp 31) (.tmp 34) 36 rfl 46 Tryz.underlying36 blocks_info _ rfl HRow.out rfl HPart.out HJ2.out (by have := HBL.out; have := HJ2.out; have := Hb4.out; have := HjN.out; have := Hz.out; omega) (Nat.le_trans HLO.out HSZ.out) ?_; intro v3 w3 hR3 hg3; replace HX := Lib.hid (Far.grown HX.out hg3 (fun g e => .inr (Base.Rows.own_type HRow.out e).1)); replace HSB := Lib.hid (HSB.out.grown hg3 (rows_ne HRow.out HSB.out (by decide))); replace HL := Lib.hid (HL.out.grown hg3 (rows_ne HRow.out HL.out (by decide))); replace HP := Lib.hid (HP.out.grown hg3 (rows_ne HRow.out HP.out (by decide))); replace HSZ := Lib.hid (Nat.le_trans HSZ.out hg3.size); obtain ⟨A3, c3, he3, -⟩ := hR3.rdL; rw [HLn.out] at he3; subst he3; replace HRow := Lib.hid hR3; clear hR3 hg3 r0 r1 r2; obtain ⟨r0, r1, r2⟩ := set_cells3 HSB.out)
    | (go_at_call 48; refine (missing_s s _ k bb HBB.out Hhb.out Hhb2.out (bl + j) HM3.out _).mono ?_; rintro e w4 ⟨rfl, hs⟩; rw [HF.out]; replace HX := Lib.hid (HX.out.trans (Far.of_stp hs)); replace HL := Lib.hid (HL.out.keep hs HL.out.lt); replace HP := Lib.hid (HP.out.keep hs HP.out.lt); replace HRow := Lib.hid (HRow.out.keep hs); replace HSZ := Lib.hid (Nat.le_trans HSZ.out hs.size); clear hs r0 r1 r2)
    | (go_at_call 47; refine (zeros_n f Hf20.out _).mono ?_; rintro e w5 ⟨A5, c5, rfl, hr5, hs⟩; have HZe := Lib.hid hr5; replace HX := Lib.hid (HX.out.trans (Far.of_stp hs)); replace HL := Lib.hid (HL.out.keep hs HL.out.lt); replace HP := Lib.hid (HP.out.keep hs HP.out.lt); replace HRow := Lib.hid (HRow.out.keep hs); replace HSZ := Lib.hid (Nat.le_trans HSZ.out hs.size); clear hs hr5)
    | (at_builtin; refine Base.wpList_append_rows (P := Tryz.prog) rfl (.tmp 36) (.tmp 41) 36 rfl 46 Tryz.underlying36 blocks_info _ rfl HRow.out rfl HZe.out HFl.out (by have := HLn.out; have := HFl.out; have := HM3.out; have := Hf20.out; omega) (Nat.le_trans HLO.out HSZ.out) ?_; intro v6 w6 hR6 hg6; replace HX := Lib.hid (Far.grown HX.out hg6 (fun g e => .inr (Base.Rows.own_type HRow.out e).1)); replace HL := Lib.hid (HL.out.grown hg6 (rows_ne HRow.out HL.out (by decide))); replace HP := Lib.hid (HP.out.grown hg6 (rows_ne HRow.out HP.out (by decide))); obtain ⟨A6, c6, he6, -⟩ := hR6.rdL; rw [List.length_append, HLn.out, HFl.out] at he6; subst he6; replace HRow := Lib.hid hR6; clear hR6 hg6))
  go_ret2
  exact ⟨_, _, o', rfl, HRow.out, HX.out, HL.out, HP.out, HR.out⟩
end Go.Proofs.YtllnnlmhbmladaaGreatDoor.Vol

namespace Go.Proofs.YtllnnlmhbmladaaGreatDoor.Vol
open Go.Sort Go.RowKit Go.Proofs.YtllnnlmhbmladaaGreatDoor.Str Go.Proofs.YtllnnlmhbmladaaGreatDoor.Base Go.Proofs.YtllnnlmhbmladaaGreatDoor.Node Go.Proofs.YtllnnlmhbmladaaGreatDoor.Head Go.Proofs.YtllnnlmhbmladaaGreatDoor.Long Go.Proofs.YtllnnlmhbmladaaGreatDoor.Entry Go.Proofs.YtllnnlmhbmladaaGreatDoor.LabelM Go.Proofs.YtllnnlmhbmladaaGreatDoor.ContM Go.Proofs.YtllnnlmhbmladaaGreatDoor.Stream Go.Proofs.YtllnnlmhbmladaaGreatDoor.VolM
open Go.Proofs.YtllnnlmhbmladaaGreatDoor.Tree (oneB mayT fewT)
set_option linter.unusedVariables false

theorem allv_z (t : List Nd) (m : Nat) (hm : t.length = m) (hl : m ≤ 1000) (hn : ∀ n ∈ t, SmallN n) (z : Nat) (hz : (allS t).length = z) (r : Bool) (hr : mayT t = r) (T : Option Addr) (ct : Nat) (w : World) (ht : RdN w T ct t) :
    Calls Tryz.prog 25 #[.slice T m ct] w fun e w' => ∃ B d, e = .returned (.tuple #[.slice B z d, .bool r]) ∧ RdL w' B d (allS t) ∧ Stp w w' := by
  subst hz hr
  exact Stream.all_s t m hm hl hn T ct w ht
theorem rdL_some {w : World} {B : Option Addr} {d : Nat} {ls : LL} (h : RdL w B d ls) (h1 : 1 ≤ ls.length) : ∃ b o, B = some ⟨b, o, none⟩ := by
  obtain ⟨b, o, A1, c1, e, -⟩ := h.at_ (j := 0) (l := ls[0]) (List.getElem?_eq_getElem (by omega))
  exact ⟨b, o, e⟩
/-- What Split keeps: what is left, at which place, and the volumes so far. -/
structure PS (s : Sett) (A : Option Addr) (k : Nat) (w3 w : World) (lo gl gp gw b o c N pos : Nat) (L : LL) (v : Value) (vs : List LL) : Prop where
  stp : Stp w3 w
  l : Blk w gl 36 #[.slice (some ⟨b, o, none⟩) N c]
  p : Blk w gp 3 #[.int .i64 (pos : Int)]
  x : Blk w gw 69 #[.string ⟨s.label.toArray⟩, .int .i64 s.b, .slice A s.caps.length k, v]
  rows : Base.Rows3 w lo 36 46 v vs
  left : RdL w3 (some ⟨b, o, none⟩) c L
  len : L.length = N
  gel : w3.heap.size ≤ gl
  lp : gl < gp
  px : gp < gw
  xlo : gw < lo
  lo_le : lo ≤ w.heap.size
  b_lt : b < w3.heap.size
section
variable {s : Sett} {A : Option Addr} {k : Nat} {w3 w w' : World} {lo gl gp gw b o c N pos : Nat} {L : LL} {v : Value} {vs : List LL}
theorem PS.keep (h : PS s A k w3 w lo gl gp gw b o c N pos L v vs) (hs : Stp w w') : PS s A k w3 w' lo gl gp gw b o c N pos L v vs :=
  ⟨Stp.trans h.stp hs, h.l.keep hs h.l.lt, h.p.keep hs h.p.lt, h.x.keep hs h.x.lt, h.rows.keep hs, h.left, h.len, h.gel, h.lp, h.px, h.xlo, Nat.le_trans h.lo_le hs.size, h.b_lt⟩
theorem PS.cells (h : PS s A k w3 w lo gl gp gw b o c N pos L v vs) : w.cell? ⟨gl, 0, none⟩ = some (.slice (some ⟨b, o, none⟩) N c) ∧ w.cell? ⟨gp, 0, none⟩ = some (.int .i64 (pos : Int)) ∧
    w.cell? ⟨gw, 0, none⟩ = some (.string ⟨s.label.toArray⟩) ∧ w.cell? ⟨gw, 1, none⟩ = some (.int .i64 s.b) ∧ w.cell? ⟨gw, 2, none⟩ = some (.slice A s.caps.length k) ∧ w.cell? ⟨gw, 3, none⟩ = some v := by
  refine ⟨by rw [h.l.cell]; rfl, by rw [h.p.cell]; rfl, ?_, ?_, ?_, ?_⟩ <;> (rw [h.x.cell]; rfl)
theorem PS.far (h : PS s A k w3 w lo gl gp gw b o c N pos L v vs) (hf : Far (Two gl gp) w w') {o' c' N' pos' : Nat} {L' : LL} (hl : Blk w' gl 36 #[.slice (some ⟨b, o', none⟩) N' c']) (hp : Blk w' gp 3 #[.int .i64 (pos' : Int)])
    (hR : RdL w3 (some ⟨b, o', none⟩) c' L') (hN : L'.length = N') : PS s A k w3 w' lo gl gp gw b o' c' N' pos' L' v vs := by
  have h1 := h.gel
  have h2 := h.lp
  have h3 := h.px
  have h4 := h.xlo
  refine ⟨hf.stp h.stp (fun j hj => by rcases hj with rfl | rfl <;> omega), hl, hp, hf.blk h.x (fun hj => by rcases hj with e | e <;> omega), ?_, hR, hN, h1, h2, h3, h4, Nat.le_trans h.lo_le hf.size, h.b_lt⟩
  refine hf.rows3 (no8_two h.l h.p) ?_ h.rows (fun j hj => by rcases hj with rfl | rfl <;> omega)
  rintro g (rfl | rfl) cur fz e
  · have := h.l
    unfold Blk at this
    rw [this] at e
    cases e
  · have := h.p
    unfold Blk at this
    rw [this] at e
    cases e
/-- One volume more. -/
theorem PS.put (h : PS s A k w3 w lo gl gp gw b o c N pos L v vs) {ob : Obj} {w8 : World} {v8 : Value} {vs8 : List LL} (hg : (w.alloc ob).grownBy w8 v.ownBlock) (hr : Base.Rows3 w8 lo 36 46 v8 vs8) :
    PS s A k w3 (w8.setCell ⟨gw, 3, none⟩ v8) lo gl gp gw b o c N pos L v8 vs8 := by
  have h0 := h.keep (Stp.alloc (Stp.refl w) ob)
  have h1 := h.gel
  have h2 := h.lp
  have h3 := h.px
  have h4 := h.xlo
  obtain ⟨us, ho, -⟩ := id h0.rows
  have hown : ∀ g, v.ownBlock = some g → lo ≤ g := fun g e => (ho.lt g e).1
  have ne : ∀ g, g < lo → some g ≠ v.ownBlock := fun g hlt e => by have := hown g e.symm; omega
  have hs8 : Stp w3 w8 := Below.grown h0.stp hg h0.stp.size (fun j hj => Nat.le_trans (by omega) (hown j hj))
  have hx := h0.x.grown hg (ne gw h4)
  refine ⟨set_stp hs8 (by omega) 3 v8, (h0.l.grown hg (ne gl (by omega))).far (by show gl ≠ gw; omega) _, (h0.p.grown hg (ne gp (by omega))).far (by show gp ≠ gw; omega) _, hx.put 3 v8, ?_, h.left, h.len, h1, h2, h3, h4, ?_, h.b_lt⟩
  · refine (Far.set (X := fun j => j = gw) (Far.refl _ w8) rfl 3 v8).rows3 ?_ ?_ hr (fun j hj => by have : j = gw := hj; omega)
    · intro g hj i x e
      have hj2 : g = gw := hj
      subst hj2
      rw [hx.cell] at e
      have hm := Array.mem_of_getElem? e
      simp only [List.mem_toArray, List.mem_cons, List.not_mem_nil, or_false] at hm
      rcases hm with hm | hm | hm | hm
      · cases hm
      · cases hm
      · cases hm
      · obtain ⟨us2, q1, -⟩ := h.rows
        obtain ⟨A2, c2, e2, -⟩ := RdA.of q1.rd
        rw [e2] at hm
        cases hm
    · intro g hj cur fz e
      have hj2 : g = gw := hj
      subst hj2
      unfold Blk at hx
      rw [hx] at e
      cases e
  · have k1 := hg.size
    have k2 := h0.lo_le
    have k3 : (w8.setCell ⟨gw, 3, none⟩ v8).heap.size = w8.heap.size := by simp [World.setCell]
    omega
end
set_option maxRecDepth 100000 in
set_option maxHeartbeats 4000000 in
theorem vsplit_no (t : List Nd) (m : Nat) (hm : t.length = m) (hl : m ≤ 1000) (hn : ∀ n ∈ t, SmallN n) (s : Sett) (hs : SmallS s) (hno : (mayT t && mayS s) = false) (T A : Option Addr) (ct k : Nat) (w : World) (ht : RdN w T ct t) (ha : RdZ w A k s.caps) :
    Calls Tryz.prog 15 #[.slice T m ct, sv s A k] w fun e w' => e = .returned (.tuple #[.slice none 0 0, .int .i64 1]) ∧ Stp w w' := by
  have h0 := Stp.alloc (Stp.refl w) (.cells (scells s A k) 52)
  have Hb := Lib.hid (Blk.new w 52 (scells s A k))
  have Ha : Hid (RdZ (w.alloc (.cells (scells s A k) 52)) A k s.caps) := Lib.hid (RdA.keep ha h0)
  have Ht := Lib.hid (ht.keep h0)
  have H := Lib.hid h0
  have Hs := Lib.hid hs
  have Hm := Lib.hid hm
  have Hn := Lib.hid hn
  obtain ⟨z, hz⟩ : ∃ z, (allS t).length = z := ⟨_, rfl⟩
  obtain ⟨q0, q1, q2⟩ := set_cells3 Hb.out
  obtain ⟨b1, k1⟩ : ∃ b, mayT t = b := ⟨_, rfl⟩
  obtain ⟨b2, k2⟩ : ∃ b, mayS s = b := ⟨_, rfl⟩
  rw [k1, k2] at hno
  have K1 := Lib.hid k1
  have K2 := Lib.hid k2
  have HZ := Lib.hid hz
  have hc : b1 = false ∨ (b1 = true ∧ b2 = false) := by
    cases b1
    · exact .inl rfl
    · exact .inr ⟨rfl, by simpa using hno⟩
  clear h0 ha ht hs hn k1 k2 hm hz hno
  rcases hc with rfl | ⟨rfl, rfl⟩
  all_goals
    go_enter Tryz.func15, Tryz.ntmps15
    go_upto_region 2 with (go_at_call 25; (with_reducible refine (allv_z t m Hm.out hl Hn.out z HZ.out _ K1.out T ct _ Ht.out).mono ?_); rintro e w1 ⟨B1, d1, rfl, -, hs⟩; replace Hb := Lib.hid (Hb.out.keep hs Hb.out.lt); replace Ha := Lib.hid (RdA.keep Ha.out hs); replace H := Lib.hid (Stp.trans H.out hs); clear hs q0 q1 q2; obtain ⟨q0, q1, q2⟩ := set_cells3 Hb.out)
    have H2 := Lib.hid (Stp.alloc H.out (.cells #[.slice B1 z d1] 36))
    replace Hb := Lib.hid (Hb.out.alloc (.cells #[.slice B1 z d1] 36))
    replace Ha := Lib.hid (RdA.keep Ha.out (Stp.alloc (Stp.refl w1) (.cells #[.slice B1 z d1] 36)))
    clear q0 q1 q2
    change Code.wp _ _ _ _ (w1.alloc (.cells #[.slice B1 z d1] 36))
    generalize w1.alloc (.cells #[.slice B1 z d1] 36) = W at H2 Hb Ha ⊢
    obtain ⟨q0, q1, q2⟩ := set_cells3 Hb.out
    go_wp2_with (go_at_call 26; (with_reducible refine (may_s s A k _ rfl Hs.out _ K2.out _ Ha.out).mono ?_); rintro e w2 ⟨rfl, hs⟩; replace H2 := Lib.hid (Stp.trans H2.out hs); clear hs q0 q1 q2)
    go_ret2
    exact ⟨rfl, H2.out⟩
theorem volsK_info : (Tryz.prog.info? 36).map (fun i => (i.zero, i.size, i.bytes)) = some (some (.slice none 0 0), 1, 24) := by kernel_rfl
def leftN (w : World) (g : Nat) : Nat := match w.cell? ⟨g, 0, none⟩ with
  | some (.slice _ n _) => n
  | _ => 0
theorem left_is {w : World} {g n c : Nat} {A : Option Addr} {t : TypeId} (h : Blk w g t #[.slice A n c]) : leftN w g = n := by
  have : w.cell? ⟨g, 0, none⟩ = some (.slice A n c) := by rw [h.cell]; rfl
  rw [leftN, this]
theorem label_may2 {s : Sett} (h : mayS s = true) {n : Nat} (hn : n < 999) : mayLb s.label ((n : Int) + 1) = true := by
  obtain ⟨a, b, c, -, -⟩ := mayLb_iff.1 (mayS_iff.1 h).1
  exact mayLb_iff.2 ⟨a, b, c, by omega, by omega⟩
/-- Begin, where it goes, its row the call's own. -/
theorem vbegin_n (t : List Nd) (m : Nat) (hm : t.length = m) (hl : m ≤ 1000) (hn : ∀ n ∈ t, SmallN n) (s : Sett) (hs : SmallS s) (pos n : Nat) (hb : beginB t s (pos : Int) ((n : Int) + 1) = true) (V : LL) (hV : beginL t s pos ((n : Int) + 1) = V) (bl : Nat) (hbl : V.length = bl)
    (T A : Option Addr) (ct k : Nat) (w : World) (ht : RdN w T ct t) (ha : RdZ w A k s.caps) (htab : Label.Tab w) :
    Calls Tryz.prog 28 #[.slice T m ct, sv s A k, .int .i64 (pos : Int), .int .i64 ((n : Int) + 1)] w fun e w' => ∃ B d, e = .returned (.tuple #[.slice B bl d, .bool true]) ∧ Base.Rows w' w.heap.size 46 (.slice B bl d) V ∧ Stp w w' := by
  refine (begin_yes t m hm hl hn s hs (pos : Int) ((n : Int) + 1) hb T A ct k w ht ha htab).mono ?_
  rintro e w1 ⟨v, rfl, hR, hs⟩
  rw [Int.toNat_natCast, hV] at hR
  obtain ⟨B, d, rfl, -⟩ := hR.rdL
  rw [hbl] at hR ⊢
  exact ⟨B, d, rfl, hR, hs⟩
set_option maxRecDepth 100000 in
set_option maxHeartbeats 8000000 in
theorem vsplit_yes (t : List Nd) (m : Nat) (hm : t.length = m) (hl : m ≤ 1000) (hn : ∀ n ∈ t, SmallN n) (s : Sett) (hs : SmallS s) (h1 : mayT t = true) (h2 : mayS s = true) (Q : List LL) (E : Int) (hQ : splitV t s = (Q, E)) (T A : Option Addr) (ct k : Nat) (w : World) (ht : RdN w T ct t) (ha : RdZ w A k s.caps) (htab : Label.Tab w) :
    Calls Tryz.prog 15 #[.slice T m ct, sv s A k] w fun e w' => ∃ B d, e = .returned (.tuple #[.slice B Q.length d, .int .i64 E]) ∧ RdV w' B d Q ∧ Stp w w' := by
  have h0 := Stp.alloc (Stp.refl w) (.cells (scells s A k) 52)
  have Hb := Lib.hid (Blk.new w 52 (scells s A k))
  have Ha : Hid (RdZ (w.alloc (.cells (scells s A k) 52)) A k s.caps) := Lib.hid (RdA.keep ha h0)
  have Ht := Lib.hid (ht.keep h0)
  have H := Lib.hid h0
  have Hs := Lib.hid hs
  have Hm := Lib.hid hm
  have Hn := Lib.hid hn
  have HT := Lib.hid htab
  obtain ⟨q0, q1, q2⟩ := set_cells3 Hb.out
  obtain ⟨z, hz⟩ : ∃ z, (allS t).length = z := ⟨_, rfl⟩
  have hz1 : z ≤ 402 := by rw [← hz]; exact Stream.all_le
  have hz2 : 2 ≤ z := by rw [← hz]; exact many_two h1
  have hE : splitV t s = volsG t s z 0 0 := by rw [splitV, if_pos (by rw [h1, h2]; rfl), hz]
  rw [hQ] at hE
  have HQ := Lib.hid hE
  have HZ := Lib.hid hz
  have K1 := Lib.hid h1
  have K2 := Lib.hid h2
  have h12 := (mayS_iff.1 h2).2.2.2.1
  obtain ⟨-, hb1, hb20, -, -⟩ := mayS_iff.1 h2
  clear h0 ha ht hs hn h1 h2 hz hE hQ hm htab
  go_enter Tryz.func15, Tryz.ntmps15
  go_upto_region 2 with (go_at_call 25; (with_reducible refine (allv_z t m Hm.out hl Hn.out z HZ.out _ K1.out T ct _ Ht.out).mono ?_); rintro e w1 ⟨B1, d1, rfl, hr, hs⟩; obtain ⟨b, o, rfl⟩ := rdL_some hr (by rw [HZ.out]; omega); have HLL := Lib.hid hr; replace Hb := Lib.hid (Hb.out.keep hs Hb.out.lt); replace Ha := Lib.hid (RdA.keep Ha.out hs); replace Ht := Lib.hid (Ht.out.keep hs); replace H := Lib.hid (Stp.trans H.out hs); clear hr hs q0 q1 q2; obtain ⟨q0, q1, q2⟩ := set_cells3 Hb.out)
  have HBlt : Hid (b < w1.heap.size) := Lib.hid (HLL.out.lt_size (by rw [HZ.out]; omega) b o rfl)
  have HS1 := Lib.hid (Stp.alloc (Stp.refl w1) (.cells #[.slice (some ⟨b, o, none⟩) z d1] 36))
  have HL1 := Lib.hid (Blk.new w1 36 #[.slice (some ⟨b, o, none⟩) z d1])
  obtain ⟨gl, hgl⟩ : ∃ g, w1.heap.size = g := ⟨_, rfl⟩
  clear q0 q1 q2
  rw [hgl] at HL1 ⊢
  change Code.wp _ _ _ _ (w1.alloc (.cells #[.slice (some ⟨b, o, none⟩) z d1] 36))
  generalize w1.alloc (.cells #[.slice (some ⟨b, o, none⟩) z d1] 36) = W at HS1 HL1 ⊢
  obtain ⟨q0, q1, q2⟩ := set_cells3 (Hb.out.keep HS1.out Hb.out.lt)
  go_upto_region 4 with (go_at_call 26; (with_reducible refine (may_s s A k _ rfl Hs.out _ K2.out _ (RdA.keep Ha.out HS1.out)).mono ?_); rintro e w2 ⟨rfl, hs⟩; replace HS1 := Lib.hid (Stp.trans HS1.out hs); replace HL1 := Lib.hid (HL1.out.keep hs HL1.out.lt); clear hs q0 q1 q2)
  go_upto_region 6 with fail
  have HP1 := Lib.hid (Blk.new w2 3 #[.int .i64 0])
  have hlp : gl < w2.heap.size := HL1.out.lt
  have hsz : (w2.alloc (.cells #[.int .i64 0] 3)).heap.size = w2.heap.size + 1 := World.size_alloc _ _
  replace HL1 := Lib.hid (HL1.out.alloc (.cells #[.int .i64 0] 3))
  replace HS1 := Lib.hid (Stp.alloc HS1.out (.cells #[.int .i64 0] 3))
  obtain ⟨gp, hgp⟩ : ∃ g, w2.heap.size = g := ⟨_, rfl⟩
  rw [hgp] at HP1 hlp hsz ⊢
  change Code.wp _ _ _ _ (w2.alloc (.cells #[.int .i64 0] 3))
  generalize w2.alloc (.cells #[.int .i64 0] 3) = W2 at HS1 HL1 HP1 hsz ⊢
  clear hgp
  obtain ⟨q0, q1, q2⟩ := set_cells3 (Hb.out.keep HS1.out Hb.out.lt)
  go_wp2
  have hX := Blk.new W2 69 #[.string ⟨s.label.toArray⟩, .int .i64 s.b, .slice A s.caps.length k, .slice none 0 0]
  have hst := Stp.alloc (Stp.refl W2) (.cells #[.string ⟨s.label.toArray⟩, .int .i64 s.b, .slice A s.caps.length k, .slice none 0 0] 69)
  have hsz3 : (W2.alloc (.cells #[.string ⟨s.label.toArray⟩, .int .i64 s.b, .slice A s.caps.length k, .slice none 0 0] 69)).heap.size = W2.heap.size + 1 := World.size_alloc _ _
  rw [hsz] at hX hsz3
  have hps : PS s A k w1 (W2.alloc (.cells #[.string ⟨s.label.toArray⟩, .int .i64 s.b, .slice A s.caps.length k, .slice none 0 0] 69)) (gp + 2) gl gp (gp + 1) b o d1 z 0 (allS t) (.slice none 0 0) [] :=
    ⟨Stp.trans HS1.out hst, HL1.out.keep hst HL1.out.lt, HP1.out.keep hst HP1.out.lt, hX, Base.Rows3.nil _ _ _ _, HLL.out, HZ.out, by omega, hlp, by omega, by omega, by omega, HBlt.out⟩
  have HPS0 := Lib.hid hps
  clear q0 q1 q2 hX hst hsz3 hps HL1 HP1
  go_loopw [] (fun wr => ∃ (pos o1 c1 : Nat) (v : Value) (vs : List LL), pos ≤ z ∧ vs.length ≤ s.caps.length ∧ Hid (PS s A k w1 wr (gp + 2) gl gp (gp + 1) b o1 c1 (z - pos) pos ((allS t).drop pos) v vs) ∧ Hid ((Q, E) = (vs ++ (volsG t s z pos vs.length).1, (volsG t s z pos vs.length).2))) (fun wr => leftN wr gl)
  case atStart => exact ⟨0, o, d1, .slice none 0 0, [], by omega, by simp, Lib.hid (by simpa using HPS0.out), HQ⟩
  case round =>
    obtain ⟨pos, o1, c1, v, vs, hpos, hvl, HPS, HE⟩ := hrel
    obtain ⟨Av, cv, rfl, -⟩ := HPS.out.rows.rdV
    obtain ⟨W4, hW4⟩ : ∃ W, W = wr := ⟨_, rfl⟩
    subst hW4
    have HSt := Lib.hid HPS.out.stp
    obtain ⟨p0, p1, x0, x1, x2, x3⟩ := HPS.out.cells
    obtain ⟨q0, q1, q2⟩ := set_cells3 (Hb.out.keep HSt.out Hb.out.lt)
    by_cases hlt : pos < z
    · have g3 : decide ((0 : Int) < ((z - pos : Nat) : Int)) = true := decide_eq_true (by omega)
      obtain ⟨V, hV⟩ : ∃ x, beginL t s pos ((vs.length : Int) + 1) = x := ⟨_, rfl⟩
      obtain ⟨bl, hbl⟩ : ∃ x, V.length = x := ⟨_, rfl⟩
      have hbl4 : bl ≤ 4 := by rw [← hbl, ← hV]; exact begin_le _ _ _ _
      have HBeg : Hid (beginB t s (pos : Int) ((vs.length : Int) + 1) = true) := Lib.hid (beginB_iff.2 ⟨K1.out, K2.out, label_may2 K2.out (by omega), by omega, by rw [HZ.out]; omega⟩)
      have HV := Lib.hid hV
      have HBL := Lib.hid hbl
      clear hV hbl
      cases hc : s.caps[vs.length]? with
      | none =>
        have hE := HE.out
        rw [vols_none HZ.out hlt hc, List.append_nil] at hE
        have HE2 := Lib.hid hE
        have Hcl := Lib.hid (List.getElem?_eq_none_iff.1 hc)
        have Hv3 : Hid (vs.length < 1000) := Lib.hid (by omega)
        clear hc hE HE
        go_wp2_with (first
          | (go_at_call 28; (with_reducible refine (vbegin_n t m Hm.out hl Hn.out s Hs.out pos vs.length HBeg.out V HV.out bl HBL.out T A ct k _ (Ht.out.keep HSt.out) (RdA.keep Ha.out HSt.out) (HT.out.keep (Stp.trans H.out HSt.out))).mono ?_); rintro e w5 ⟨B5, d5, rfl, hR, hs⟩; have HR := Lib.hid hR; have H5 := Lib.hid hs; have HPS5 := Lib.hid (HPS.out.keep hs); clear hR hs p0 p1 x0 x1 x2 x3 q0 q1 q2; obtain ⟨p0, p1, x0, x1, x2, x3⟩ := HPS5.out.cells)
          | (go_at_call 29; (with_reducible refine (volume_media s A k vs.length Hcl.out Hv3.out _ _ _).mono ?_); rintro e w6 ⟨rfl, hs⟩; have HPS6 := Lib.hid (HPS5.out.keep hs); clear hs p0 p1 x0 x1 x2 x3; obtain ⟨p0, p1, x0, x1, x2, x3⟩ := HPS6.out.cells))
        go_ret2
        obtain ⟨A11, c11, he, hV⟩ := HPS6.out.rows.rdV
        cases he
        have hE := HE2.out
        simp only [Prod.mk.injEq] at hE
        rw [hE.1, hE.2]
        exact ⟨_, _, rfl, hV, Stp.trans H.out HPS6.out.stp⟩
      | some c =>
        have hcok := cap_ok K2.out hc
        obtain ⟨hvl1, -⟩ := List.getElem?_eq_some_iff.1 hc
        obtain ⟨room, hroom⟩ : ∃ r : Nat, (s.b * c).toNat = r := ⟨_, rfl⟩
        obtain ⟨hrm1, hrm2⟩ := room_is K2.out hcok.1
        rw [hroom] at hrm1
        have HC := Lib.hid hc
        have HRm := Lib.hid hroom
        clear hc hroom
        by_cases hfit : room ≤ bl
        · have hE := HE.out
          rw [vols_small HZ.out hlt HC.out (by rw [HRm.out, HV.out, HBL.out]; exact hfit), List.append_nil] at hE
          have HE2 := Lib.hid hE
          have Hfit : Hid ((s.b * c).toNat ≤ bl) := Lib.hid (by rw [HRm.out]; exact hfit)
          have Hb4 := Lib.hid hbl4
          clear hE HE hfit hbl4
          go_wp2_with (first
            | (go_at_call 28; (with_reducible refine (vbegin_n t m Hm.out hl Hn.out s Hs.out pos vs.length HBeg.out V HV.out bl HBL.out T A ct k _ (Ht.out.keep HSt.out) (RdA.keep Ha.out HSt.out) (HT.out.keep (Stp.trans H.out HSt.out))).mono ?_); rintro e w5 ⟨B5, d5, rfl, hR, hs⟩; have HR := Lib.hid hR; have H5 := Lib.hid hs; have HPS5 := Lib.hid (HPS.out.keep hs); clear hR hs p0 p1 x0 x1 x2 x3 q0 q1 q2; obtain ⟨p0, p1, x0, x1, x2, x3⟩ := HPS5.out.cells)
            | (go_at_call 29; (with_reducible refine (volume_small s A k vs.length K2.out HC.out _ Hb4.out Hfit.out _ (RdA.keep Ha.out HPS5.out.stp)).mono ?_); rintro e w6 ⟨rfl, hs⟩; have HPS6 := Lib.hid (HPS5.out.keep hs); clear hs p0 p1 x0 x1 x2 x3; obtain ⟨p0, p1, x0, x1, x2, x3⟩ := HPS6.out.cells))
          go_ret2
          obtain ⟨A11, c11, he, hV⟩ := HPS6.out.rows.rdV
          cases he
          have hE := HE2.out
          simp only [Prod.mk.injEq] at hE
          rw [hE.1, hE.2]
          exact ⟨_, _, rfl, hV, Stp.trans H.out HPS6.out.stp⟩
        · obtain ⟨j, hj⟩ : ∃ j, min (room - bl) (z - pos) = j := ⟨_, rfl⟩
          obtain ⟨f, hf⟩ : ∃ f, (s.b.toNat - (bl + j) % s.b.toNat) % s.b.toNat = f := ⟨_, rfl⟩
          have hv := vol_cut (n := vs.length) HV.out HBL.out HZ.out hlt (show bl < room by omega) hj rfl hrm2 hrm1
          rw [hf] at hv
          have Hv := Lib.hid hv
          have hj1 : 1 ≤ j := by omega
          have hjz : j ≤ z - pos := by omega
          have Hst := Lib.hid (vols_step HZ.out hlt HC.out (by rw [HRm.out, HV.out, HBL.out]; omega) (pos2 := pos + j) (by rw [HRm.out, HV.out, HBL.out]; omega))
          have Hr : Hid (bl < room) := Lib.hid (by omega)
          have Hb4 := Lib.hid hbl4
          have HJ := Lib.hid hj
          have HF := Lib.hid hf
          have HLP := Lib.hid hlp
          have HPlo : Hid (gp < W4.heap.size) := Lib.hid HPS.out.p.lt
          have HBgl : Hid (b < gl) := Lib.hid (by have := HBlt.out; omega)
          have Hz10 : Hid (pos + (z - pos) ≤ 1000) := Lib.hid (by omega)
          have HEn : Hid ((Q, E) = ((vs ++ [volV t s pos vs.length room]) ++ (volsG t s z (pos + j) (vs ++ [volV t s pos vs.length room]).length).1, (volsG t s z (pos + j) (vs ++ [volV t s pos vs.length room]).length).2)) := Lib.hid (by
            rw [HE.out, Hst.out, HRm.out, List.length_append, List.length_singleton, List.append_assoc]
            rfl)
          have Hvl : Hid ((vs ++ [volV t s pos vs.length room]).length ≤ s.caps.length) := Lib.hid (by rw [List.length_append, List.length_singleton]; omega)
          have Hvs : Hid (vs.length + 1 ≤ 1000000000) := Lib.hid (by omega)
          have Hjz : Hid (pos + j ≤ z) := Lib.hid (by omega)
          have Hlt : Hid (z - (pos + j) < z - pos) := Lib.hid (by omega)
          clear hj hf hv hfit hbl4 HE Hst hrm1 hrm2 hcok hjz hj1
          go_wp2_with (first
            | (go_at_call 28; (with_reducible refine (vbegin_n t m Hm.out hl Hn.out s Hs.out pos vs.length HBeg.out V HV.out bl HBL.out T A ct k _ (Ht.out.keep HSt.out) (RdA.keep Ha.out HSt.out) (HT.out.keep (Stp.trans H.out HSt.out))).mono ?_); rintro e w5 ⟨B5, d5, rfl, hR, hs⟩; have HR := Lib.hid hR; have H5 := Lib.hid hs; have HPS5 := Lib.hid (HPS.out.keep hs); clear hR hs p0 p1 x0 x1 x2 x3 q0 q1 q2; obtain ⟨p0, p1, x0, x1, x2, x3⟩ := HPS5.out.cells)
            | (go_at_call 29; (refine (volume_yes s A k vs.length K2.out HC.out HRm.out HR.out HBL.out Hb4.out Hr.out H5.out.size HPS5.out.l HPS5.out.p HLP.out HPlo.out HBgl.out (HPS5.out.left.keep HPS5.out.stp) HPS5.out.len Hz10.out j HJ.out f HF.out (RdA.keep Ha.out HPS5.out.stp)).mono ?_); rintro e w6 ⟨A6, c6, o6, rfl, hR6, hfar, hl6, hp6, hRR⟩; have hf2 := Far.low H5.out hfar (Nat.le_refl _); have hL6 := hRR w1 _ HPS.out.len HPS.out.left; rw [List.drop_drop] at hL6; have hps := HPS.out.far hf2 hl6 hp6 hL6 (by rw [List.length_drop, HZ.out, Nat.sub_sub]); rw [Nat.sub_sub] at hps; have HPS6 := Lib.hid hps; rw [← Hv.out] at hR6; have HTl := Lib.hid ((Base.Rows.rdT hR6).keep (Stp.alloc (Stp.refl w6) (.cells #[.slice A6 (bl + j + f) c6] 36))); have HOl := Lib.hid (hps.rows.keep (Stp.alloc (Stp.refl w6) (.cells #[.slice A6 (bl + j + f) c6] 36))); have Hrd := Lib.hid (rd_lit w6 36 (.slice A6 (bl + j + f) c6)); have HLo := Lib.hid (hps.keep (Stp.alloc (Stp.refl w6) (.cells #[.slice A6 (bl + j + f) c6] 36))).lo_le; clear hR6 hfar hl6 hp6 hRR hf2 hL6 hps p0 p1 x0 x1 x2 x3; obtain ⟨p0, p1, x0, x1, x2, x3⟩ := HPS6.out.cells)
            | (at_builtin; refine Base.wpList_append_rows3 (P := Tryz.prog) rfl (.tmp 61) (.tmp 63) 48 rfl Tryz.underlying48 volsK_info (by decide) rfl HOl.out rfl HTl.out Hrd.out Hvs.out HLo.out ?_; intro v8 w8 hR8 hg8; obtain ⟨A8, c8, he8, -⟩ := hR8.rdV; rw [List.length_append, List.length_singleton] at he8; subst he8; have HPS8 := Lib.hid (HPS6.out.put hg8 hR8); have fz := (HPS6.out.x.alloc (.cells #[.slice A6 (bl + j + f) c6] 36)).grown hg8 (fun e => by obtain ⟨us, ho, -⟩ := HPS6.out.rows; have := (ho.lt _ e.symm).1; omega); have f3 := fz.free 3; clear hR8 hg8 p0 p1 x0 x1 x2 x3; have x3 : w8.cell? ⟨gp + 1, 3, none⟩ = some (.slice Av vs.length cv) := by rw [fz.cell]; rfl))
          go_roundw
          case rel => exact ⟨pos + j, o6, c1 - j, _, vs ++ [volV t s pos vs.length room], Hjz.out, Hvl.out, HPS8, HEn⟩
          case measure => rw [left_is HPS8.out.l, left_is HPS.out.l]; exact Hlt.out
    · obtain rfl : pos = z := by omega
      have g3 : decide ((0 : Int) < ((pos - pos : Nat) : Int)) = false := decide_eq_false (by omega)
      have hE := HE.out
      rw [vols_over (by rw [HZ.out]; omega), List.append_nil] at hE
      have HE2 := Lib.hid hE
      clear hE HE
      go_wp2
      go_ret2
      obtain ⟨A11, c11, he, hV⟩ := HPS.out.rows.rdV
      cases he
      have hE := HE2.out
      simp only [Prod.mk.injEq] at hE
      rw [hE.1, hE.2]
      exact ⟨_, _, rfl, hV, Stp.trans H.out HSt.out⟩
theorem vsplit_s (t : List Nd) (m : Nat) (hm : t.length = m) (hl : m ≤ 1000) (hn : ∀ n ∈ t, SmallN n) (s : Sett) (A : Option Addr) (k : Nat) (v : Value) (hv : v = sv s A k) (hs : SmallS s) (Q : List LL) (E : Int) (hQ : splitV t s = (Q, E)) (z : Nat) (hz : Q.length = z) (T : Option Addr) (ct : Nat) (w : World) (ht : RdN w T ct t) (ha : RdZ w A k s.caps) (htab : Label.Tab w) :
    Calls Tryz.prog 15 #[.slice T m ct, v] w fun e w' => ∃ B d, e = .returned (.tuple #[.slice B z d, .int .i64 E]) ∧ RdV w' B d Q ∧ Stp w w' := by
  subst hv hz
  by_cases h : (mayT t && mayS s) = true
  · rw [Bool.and_eq_true] at h
    exact vsplit_yes t m hm hl hn s hs h.1 h.2 Q E hQ T A ct k w ht ha htab
  · have h2 : (mayT t && mayS s) = false := by simpa using h
    rw [split_no h2] at hQ
    cases hQ
    refine (vsplit_no t m hm hl hn s hs h2 T A ct k w ht ha).mono ?_
    rintro e w1 ⟨rfl, hs⟩
    exact ⟨none, 0, rfl, RdV.nil _, hs⟩
end Go.Proofs.YtllnnlmhbmladaaGreatDoor.Vol

