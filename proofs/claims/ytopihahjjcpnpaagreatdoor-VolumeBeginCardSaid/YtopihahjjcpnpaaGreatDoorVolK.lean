/-
  Package volume's own contracts: whether a set may be, whether two lists are the same, and what a volume begins with: no statement is proved here.
  Memory of which some blocks are written, and none of these holds bytes: what reads as before: no statement is proved here.
-/
import Derived.Test.YtopihahjjcpnpaaGreatDoorVolI
import Derived.Test.YtopihahjjcpnpaaGreatDoorVolM
import Derived.Test.YtopihahjjcpnpaaGreatDoorStreamC
import Derived.Test.YtopihahjjcpnpaaGreatDoorLabelA
import Derived.Test.YtopihahjjcpnpaaGreatDoorContK
namespace Go.Proofs.YtopihahjjcpnpaaGreatDoor.Vol
open Go.Sort Go.RowKit Go.Proofs.YtopihahjjcpnpaaGreatDoor.Str Go.Proofs.YtopihahjjcpnpaaGreatDoor.Base Go.Proofs.YtopihahjjcpnpaaGreatDoor.Node Go.Proofs.YtopihahjjcpnpaaGreatDoor.Head Go.Proofs.YtopihahjjcpnpaaGreatDoor.Long Go.Proofs.YtopihahjjcpnpaaGreatDoor.Entry Go.Proofs.YtopihahjjcpnpaaGreatDoor.LabelM Go.Proofs.YtopihahjjcpnpaaGreatDoor.ContM Go.Proofs.YtopihahjjcpnpaaGreatDoor.Stream Go.Proofs.YtopihahjjcpnpaaGreatDoor.VolM
open Go.Proofs.YtopihahjjcpnpaaGreatDoor.Tree (oneB mayT fewT)
set_option linter.unusedVariables false

/-! ### whether a set may be -/
abbrev okC (x : Int) : Bool := decide (0 ≤ x) && decide (x ≤ 200)
set_option maxRecDepth 100000 in
theorem isnone_s (x : Int) (w : World) : Calls Tryz.prog 43 #[.int .i64 x] w fun e w' => e = .returned (.bool (!okC x)) ∧ Stp w w' := by
  have h0 := Stp.refl w
  obtain ⟨c1, e1⟩ : ∃ c, decide (x < 0) = c := ⟨_, rfl⟩
  obtain ⟨c2, e2⟩ : ∃ c, decide (200 < x) = c := ⟨_, rfl⟩
  have h : (!okC x) = (c1 || c2) := by
    rw [← e1, ← e2, okC]
    by_cases a : x < 0 <;> by_cases b : 200 < x <;> simp [a, b] <;> omega
  rw [h]
  clear h
  cases c1
  all_goals
    go_enter Tryz.func43, Tryz.ntmps43
    go_wp2_with fail
    go_ret
    exact ⟨rfl, h0⟩
theorem take_ok {l : List Int} {j : Nat} {x : Int} (hx : l[j]? = some x) (h : (l.take j).all okC = true) (hp : okC x = true) : (l.take (j + 1)).all okC = true := by
  rw [List.take_add_one, hx, List.all_append, h]
  simp only [Option.toList_some, List.all_cons, hp, List.all_nil, Bool.and_self]
theorem not_ok {l : List Int} {j : Nat} {x : Int} (hx : l[j]? = some x) (hp : okC x = false) : l.all okC = false := by
  rw [List.all_eq_false]
  exact ⟨x, List.mem_of_getElem? hx, by rw [hp]; simp⟩
set_option maxRecDepth 100000 in
set_option maxHeartbeats 2000000 in
theorem idx_s (xs : List Int) (z : Nat) (hz : xs.length = z) (hl : z < 9223372036854775808) (A : Option Addr) (c : Nat) (w : World) (ha : RdZ w A c xs) (b : Bool) (hb : xs.all okC = b) :
    Calls Tryz.prog 80 #[.slice A z c, .func (.func 43) #[] #[]] w fun e w' => ∃ r : Int, e = .returned (.int .i64 r) ∧ decide (0 ≤ r) = !b ∧ Stp w w' := by
  subst hz
  have Hb := Lib.hid hb
  have Ha := Lib.hid ha
  clear hb ha
  go_enter Tryz.func80, Tryz.ntmps80
  go_wp2_with fail
  go_loopw [5, 8] (fun _ i wr => ∃ k : Nat, k ≤ xs.length ∧ i = .int .i64 k ∧ Hid (Stp w wr) ∧ Hid ((xs.take k).all okC = true)) (fun _ i _ => xs.length - (intOf i).toNat)
  case atStart => exact ⟨0, by omega, rfl, Lib.hid (Stp.refl w), Lib.hid rfl⟩
  case round =>
    obtain ⟨k, hk, rfl, H1, Hn⟩ := hrel
    by_cases hlt : k < xs.length
    · obtain ⟨x, hx⟩ : ∃ x, xs[k]? = some x := ⟨_, List.getElem?_eq_getElem hlt⟩
      obtain ⟨g, o, rfl, q0⟩ := RdZ.cell (RdA.keep Ha.out H1.out) hx
      have Hx := Lib.hid hx
      clear hx
      cases hok : okC x
      · have Hok := Lib.hid hok
        clear hok
        go_wp2_with (go_at_call 43; refine (isnone_s x _).mono ?_; rintro e w2 ⟨rfl, hs⟩; rw [Hok.out]; have H2 := Lib.hid (Stp.trans H1.out hs); clear hs)
        go_ret
        refine ⟨_, rfl, ?_, H2.out⟩
        rw [← Hb.out, not_ok Hx.out Hok.out]
        exact decide_eq_true (by omega)
      · have Hs := Lib.hid (take_ok Hx.out Hn.out hok)
        have Hok := Lib.hid hok
        clear hok
        go_wp2_with (go_at_call 43; refine (isnone_s x _).mono ?_; rintro e w2 ⟨rfl, hs⟩; rw [Hok.out]; have H2 := Lib.hid (Stp.trans H1.out hs); clear hs)
        go_roundw
        case rel => exact ⟨k + 1, by omega, by go_num, H2, Hs⟩
        case measure => simp [intOf]; omega
    · obtain rfl : k = xs.length := by omega
      go_wp2_with fail
      go_ret
      refine ⟨_, rfl, ?_, H1.out⟩
      have h := Hn.out
      rw [List.take_length] at h
      rw [← Hb.out, h]
      rfl
set_option maxRecDepth 100000 in
theorem contains_s (xs : List Int) (z : Nat) (hz : xs.length = z) (hl : z < 9223372036854775808) (A : Option Addr) (c : Nat) (w : World) (ha : RdZ w A c xs) (b : Bool) (hb : xs.all okC = b) :
    Calls Tryz.prog 45 #[.slice A z c, .func (.func 43) #[] #[]] w fun e w' => e = .returned (.bool (!b)) ∧ Stp w w' := by
  have h0 := Lib.hid (Stp.refl w)
  have Ha := Lib.hid ha
  have Hb := Lib.hid hb
  have Hz := Lib.hid hz
  clear ha hb hz
  go_enter Tryz.func45, Tryz.ntmps45
  go_wp2_with (go_at_call 80; refine (idx_s xs z Hz.out hl A c _ Ha.out b Hb.out).mono ?_; rintro e w2 ⟨r, rfl, hr, hs⟩; replace h0 := Lib.hid (Stp.trans h0.out hs); clear hs)
  go_ret
  exact ⟨rfl, h0.out⟩
set_option maxRecDepth 100000 in
set_option maxHeartbeats 4000000 in
theorem may_s (s : Sett) (A : Option Addr) (k : Nat) (v : Value) (hv : v = sv s A k) (hs : SmallS s) (b : Bool) (hb : mayS s = b) (w : World) (ha : RdZ w A k s.caps) :
    Calls Tryz.prog 21 #[v] w fun e w' => e = .returned (.bool b) ∧ Stp w w' := by
  subst hv
  have h0 := Stp.alloc (Stp.refl w) (.cells (scells s A k) 25)
  have Hb := Lib.hid (Blk.new w 25 (scells s A k))
  have Ha : Hid (RdZ (w.alloc (.cells (scells s A k) 25)) A k s.caps) := Lib.hid (RdA.keep ha h0)
  have H := Lib.hid h0
  obtain ⟨b0, k0⟩ : ∃ b, mayLb s.label 1 = b := ⟨_, rfl⟩
  obtain ⟨b1, k1⟩ : ∃ b, decide (1 ≤ s.b) = b := ⟨_, rfl⟩
  obtain ⟨b2, k2⟩ : ∃ b, decide (s.b ≤ 20) = b := ⟨_, rfl⟩
  obtain ⟨b3, k3⟩ : ∃ b, decide ((s.caps.length : Int) ≤ 12) = b := ⟨_, rfl⟩
  obtain ⟨b4, k4⟩ : ∃ b, s.caps.all okC = b := ⟨_, rfl⟩
  have hbb : b = (b0 && (b1 && (b2 && (b3 && b4)))) := by
    rw [← hb, mayS, ← k0, ← k1, ← k2, ← k3, ← k4]
    rw [show decide (s.caps.length ≤ 12) = decide ((s.caps.length : Int) ≤ 12) from decide_eq_decide.2 (by omega)]
  have K0 := Lib.hid k0
  have K4 := Lib.hid k4
  have HBB := Lib.hid hbb
  have hl := hs.label
  have hcl := hs.few
  have HL := Lib.hid hcl
  obtain ⟨q0, q1, q2⟩ := set_cells3 Hb.out
  clear ha hs hb hbb k0 k4 h0
  obtain ⟨x4, hx4⟩ : ∃ x, (!b4) = x := ⟨_, rfl⟩
  have hb4 : b4 = !x4 := by rw [← hx4]; simp
  cases b0
  · go_enter Tryz.func21, Tryz.ntmps21
    go_wp2_with (go_at_call 44; (with_reducible refine (Label.lmay_s s.label _ rfl hl 1 _ K0.out _).mono ?_); rintro e w1 ⟨rfl, rfl⟩)
    go_ret
    exact ⟨by rw [HBB.out]; rfl, H.out⟩
  cases b1
  · go_enter Tryz.func21, Tryz.ntmps21
    go_wp2_with (go_at_call 44; (with_reducible refine (Label.lmay_s s.label _ rfl hl 1 _ K0.out _).mono ?_); rintro e w1 ⟨rfl, rfl⟩)
    go_ret
    exact ⟨by rw [HBB.out]; rfl, H.out⟩
  cases b2
  · go_enter Tryz.func21, Tryz.ntmps21
    go_wp2_with (go_at_call 44; (with_reducible refine (Label.lmay_s s.label _ rfl hl 1 _ K0.out _).mono ?_); rintro e w1 ⟨rfl, rfl⟩)
    go_ret
    exact ⟨by rw [HBB.out]; rfl, H.out⟩
  cases b3
  · go_enter Tryz.func21, Tryz.ntmps21
    go_wp2_with (go_at_call 44; (with_reducible refine (Label.lmay_s s.label _ rfl hl 1 _ K0.out _).mono ?_); rintro e w1 ⟨rfl, rfl⟩)
    go_ret
    exact ⟨by rw [HBB.out]; rfl, H.out⟩
  go_enter Tryz.func21, Tryz.ntmps21
  go_wp2_with (first
    | (go_at_call 44; (with_reducible refine (Label.lmay_s s.label _ rfl hl 1 _ K0.out _).mono ?_); rintro e w1 ⟨rfl, rfl⟩)
    | (go_at_call 45; (with_reducible refine (contains_s s.caps _ rfl HL.out A k _ Ha.out _ K4.out).mono ?_); rintro e w2 ⟨rfl, hs⟩; replace H := Lib.hid (Stp.trans H.out hs); clear hs))
  go_ret
  exact ⟨by rw [HBB.out, ← hx4]; simp, H.out⟩

/-! ### whether two lists are the same -/
theorem bsame_v (ls ms : LL) (j k : Nat) (hj : ls.length = j) (hk : ms.length = k) (A B : Option Addr) (c d : Nat) (w : World) (ha : RdL w A c ls) (hb : RdL w B d ms) (hl : j < 9223372036854775808) (hm : k < 9223372036854775808) :
    Calls Tryz.prog 47 #[.slice A j c, .slice B k d] w fun e w' => e = .returned (.bool (ls == ms)) ∧ Stp w w' := by
  subst hj hk
  exact Block.same_s ls ms A B c d w ha hb hl hm
theorem take_succ_vol {ls ms : List LL} {k : Nat} {l m : LL} (hl : ls[k]? = some l) (hm : ms[k]? = some m) (h : ls.take k = ms.take k) : (ls.take (k + 1) = ms.take (k + 1)) ↔ l = m := by
  rw [List.take_add_one, List.take_add_one, hl, hm, h]
  simp
set_option maxRecDepth 100000 in
set_option maxHeartbeats 2000000 in
theorem equalv_s (ls ms : List LL) (A B : Option Addr) (c d : Nat) (w : World) (ha : RdV w A c ls) (hb : RdV w B d ms) (hl : ls.length < 9223372036854775808) (hm : ms.length < 9223372036854775808) (hls : ∀ x ∈ ls, x.length < 9223372036854775808) (hms : ∀ x ∈ ms, x.length < 9223372036854775808) :
    Calls Tryz.prog 46 #[.slice A ls.length c, .slice B ms.length d, .func (.func 47) #[] #[]] w fun e w' => e = .returned (.bool (ls == ms)) ∧ Stp w w' := by
  have h0 := Stp.refl w
  by_cases hlen : ls.length = ms.length
  · have g0 : ((ls.length : Int) != (ms.length : Int)) = false := by simp [hlen]
    rw [← hlen]
    rw [← hlen] at g0
    obtain ⟨r, hr⟩ : ∃ r, (ls == ms) = r := ⟨_, rfl⟩
    rw [hr]
    have Hr := Lib.hid hr
    have Hlen := Lib.hid hlen
    have Hls := Lib.hid hls
    have Hms := Lib.hid hms
    clear hr hlen hls hms
    go_enter Tryz.func46, Tryz.ntmps46
    go_wp2_with fail
    go_loopw [17] (fun i wr => ∃ k : Nat, k ≤ ls.length ∧ i = .int .i64 k ∧ Stp w wr ∧ Hid (ls.take k = ms.take k)) (fun i _ => ls.length - (intOf i).toNat)
    case atStart => exact ⟨0, by omega, rfl, Stp.refl w, Lib.hid (by simp)⟩
    case round =>
      obtain ⟨k, hk, rfl, h0, Hk⟩ := hrel
      by_cases hlt : k < ls.length
      · obtain ⟨l, hl1⟩ : ∃ l, ls[k]? = some l := ⟨_, List.getElem?_eq_getElem hlt⟩
        obtain ⟨m, hm1⟩ : ∃ m, ms[k]? = some m := ⟨_, List.getElem?_eq_getElem (by rw [← Hlen.out]; exact hlt)⟩
        obtain ⟨b, o, A1, c1, rfl, ca, ra⟩ := (ha.keep h0).at_ hl1
        obtain ⟨b', o', B1, d1, rfl, cb, rb⟩ := (hb.keep h0).at_ hm1
        have Hs := Lib.hid (take_succ_vol hl1 hm1 Hk.out)
        have L1 := Lib.hid (Hls.out l (List.mem_of_getElem? hl1))
        have L2 := Lib.hid (Hms.out m (List.mem_of_getElem? hm1))
        have Hl1 := Lib.hid hl1
        have Hm1 := Lib.hid hm1
        have Ra := Lib.hid ra
        have Rb := Lib.hid rb
        clear hl1 hm1 ra rb
        cases he : (l == m)
        · have He := Lib.hid he
          clear he
          go_wp2_with (go_at_call 47; refine (bsame_v l m _ _ rfl rfl _ _ _ _ _ Ra.out Rb.out L1.out L2.out).mono ?_; rintro e w' ⟨rfl, hs⟩; replace h0 := Stp.trans h0 hs; clear hs; rw [He.out])
          go_ret
          refine ⟨?_, h0⟩
          have e : r = false := by
            rw [← Hr.out, beq_eq_false_iff_ne]
            rintro rfl
            have h := Hs.out.1 rfl
            have h2 := He.out
            rw [h] at h2
            simp at h2
          rw [e]
          rfl
        · have He := Lib.hid he
          clear he
          go_wp2_with (go_at_call 47; refine (bsame_v l m _ _ rfl rfl _ _ _ _ _ Ra.out Rb.out L1.out L2.out).mono ?_; rintro e w' ⟨rfl, hs⟩; replace h0 := Stp.trans h0 hs; clear hs; rw [He.out])
          go_roundw
          case rel => exact ⟨k + 1, by omega, by go_num, h0, Lib.hid (Hs.out.2 (by simpa using He.out))⟩
          case measure => simp [intOf]; omega
      · obtain rfl : k = ls.length := by omega
        go_wp2_with fail
        go_ret
        refine ⟨?_, h0⟩
        have e : r = true := by
          have h := Hk.out
          rw [List.take_length, Hlen.out, List.take_length] at h
          rw [← Hr.out, h]
          simp
        rw [e]
        rfl
  · have g0 : ((ls.length : Int) != (ms.length : Int)) = true := by simp; omega
    have e : (ls == ms) = false := by
      rw [beq_eq_false_iff_ne]
      rintro rfl
      exact hlen rfl
    rw [e]
    clear e
    go_enter Tryz.func46, Tryz.ntmps46
    go_wp2_with fail
    go_ret
    exact ⟨rfl, h0⟩
set_option maxRecDepth 100000 in
theorem vsame_s (P Q : List LL) (a b : Nat) (hP : P.length = a) (hQ : Q.length = b) (hl : a < 9223372036854775808) (hm : b < 9223372036854775808) (hls : ∀ x ∈ P, x.length < 9223372036854775808) (hms : ∀ x ∈ Q, x.length < 9223372036854775808) (r : Bool) (hr : (P == Q) = r) (A B : Option Addr) (c d : Nat) (w : World) (ha : RdV w A c P) (hb : RdV w B d Q) :
    Calls Tryz.prog 24 #[.slice A a c, .slice B b d] w fun e w' => e = .returned (.bool r) ∧ Stp w w' := by
  subst hP hQ
  have h0 := Stp.refl w
  have Hr := Lib.hid hr
  have Ha := Lib.hid ha
  have Hb := Lib.hid hb
  have Hls := Lib.hid hls
  have Hms := Lib.hid hms
  clear hr ha hb hls hms
  go_enter Tryz.func24, Tryz.ntmps24
  go_wp2_with (go_at_call 46; refine (equalv_s P Q _ _ _ _ _ Ha.out Hb.out hl hm Hls.out Hms.out).mono ?_; rintro e w' ⟨rfl, hs⟩; replace h0 := Stp.trans h0 hs; clear hs; rw [Hr.out])
  go_ret
  exact ⟨rfl, h0⟩
end Go.Proofs.YtopihahjjcpnpaaGreatDoor.Vol

namespace Go.Proofs.YtopihahjjcpnpaaGreatDoor.Base
open Go.RowKit
set_option linter.unusedVariables false

/-- All that was there is as it was, but for the blocks of X. -/
structure Far (X : Nat → Prop) (w w' : World) : Prop where
  os : w'.os = w.os
  tape : w'.tape = w.tape
  output : w'.output = w.output
  size : w.heap.size ≤ w'.heap.size
  block : ∀ j, j < w.heap.size → ¬ X j → w'.heap[j]? = w.heap[j]?
/-- The blocks of X hold no bytes. -/
def No8 (X : Nat → Prop) (w : World) : Prop := ∀ g, X g → ∀ (i : Nat) (x : Int), w.cell? ⟨g, i, none⟩ ≠ some (.int .u8 x)
section
variable {X Y : Nat → Prop} {w w' w2 : World} {lo B : Nat} {e e2 e3 t : TypeId} {u v : Value} {A : Option Addr} {cap : Nat} {l : List UInt8} {ls vs : List (List UInt8)} {vss : List (List (List UInt8))} {us : List Value} {cs : Array Value}
theorem Far.refl (X : Nat → Prop) (w : World) : Far X w w := ⟨rfl, rfl, rfl, Nat.le_refl _, fun _ _ _ => rfl⟩
theorem Far.of_stp (h : Stp w w') : Far X w w' := ⟨h.os, h.tape, h.output, h.size, fun j hj _ => h.block j hj⟩
theorem Far.trans (h : Far X w w') (k : Far X w' w2) : Far X w w2 :=
  ⟨k.os.trans h.os, k.tape.trans h.tape, k.output.trans h.output, Nat.le_trans h.size k.size, fun j hj hx => (k.block j (Nat.lt_of_lt_of_le hj h.size) hx).trans (h.block j hj hx)⟩
theorem Far.more (h : Far X w w') (hl : ∀ j, X j → Y j) : Far Y w w' := ⟨h.os, h.tape, h.output, h.size, fun j hj hy => h.block j hj fun hx => hy (hl j hx)⟩
theorem Far.set (h : Far X w w') {g : Nat} (hg : X g) (i : Nat) (u : Value) : Far X w (w'.setCell ⟨g, i, none⟩ u) := by
  have k := Below.setCell (B := 0) (Below.refl 0 w') (p := ⟨g, i, none⟩) (Nat.zero_le _) u
  exact ⟨k.os.trans h.os, k.tape.trans h.tape, k.output.trans h.output, Nat.le_trans h.size k.size, fun j hj hx => (Below.heap_setCell w' ⟨g, i, none⟩ u j (fun e => hx (by rw [show j = g from e]; exact hg))).trans (h.block j hj hx)⟩
theorem Far.stp {w0 : World} (h : Far X w w') (h0 : Stp w0 w) (hx : ∀ j, X j → w0.heap.size ≤ j) : Stp w0 w' :=
  ⟨h.os.trans h0.os, h.tape.trans h0.tape, h.output.trans h0.output, Nat.le_trans h0.size h.size, fun j hj => (h.block j (Nat.lt_of_lt_of_le hj h0.size) (fun hxj => Nat.lt_irrefl _ (Nat.lt_of_lt_of_le hj (hx j hxj)))).trans (h0.block j hj)⟩
theorem Far.blk (h : Far X w w') {g : Nat} (hb : Blk w g t cs) (hg : ¬ X g) : Blk w' g t cs := (h.block g hb.lt hg).trans hb
theorem Far.rd8 (h : Far X w w') (hn : No8 X w) (hr : Rd w B u (bs l)) (hB : B ≤ w.heap.size) : Rd w' B u (bs l) := by
  obtain ⟨A, cap, rfl, hc, hr⟩ := hr
  refine ⟨A, cap, rfl, hc, fun hne => ?_⟩
  obtain ⟨b, o, rfl, hb, hu⟩ := hr hne
  refine ⟨b, o, rfl, hb, fun j x hj => ?_⟩
  have hj2 := hu j x hj
  have hx : ¬ X b := fun q => by
    have hm := List.mem_of_getElem? hj
    simp only [bs, List.mem_map] at hm
    obtain ⟨y, -, rfl⟩ := hm
    exact hn b q _ _ hj2
  rw [← hj2]
  simp only [World.cell?, h.block b (Nat.lt_of_lt_of_le hb hB) hx]
theorem Far.rdL (h : Far X w w') (hn : No8 X w) (hr : RdL w A cap ls) (ha : ∀ b o, A = some ⟨b, o, none⟩ → ¬ X b) : RdL w' A cap ls := by
  obtain ⟨us, h1, h2, h3⟩ := hr
  refine ⟨us, h1, ?_, fun j l hj => ?_⟩
  · obtain ⟨A', c', heq, hc, hr⟩ := h2
    cases heq
    refine ⟨A, cap, rfl, hc, fun hne => ?_⟩
    obtain ⟨b, o, rfl, hb, hu⟩ := hr hne
    refine ⟨b, o, rfl, Nat.lt_of_lt_of_le hb h.size, fun j x hj => ?_⟩
    rw [← hu j x hj]
    simp only [World.cell?, h.block b hb (ha b o rfl)]
  · obtain ⟨u, hu, hr⟩ := h3 j l hj
    exact ⟨u, hu, (h.rd8 hn hr (Nat.le_refl _)).more h.size⟩
theorem Far.own (h : Far X w w') (ho : Own w lo e v us) (hx : ∀ j, X j → j < lo) : Own w' lo e v us := by
  rcases ho with ho | ⟨g, cap, cur, fz, h1, h2, h3, h4⟩
  · exact .inl ho
  · exact .inr ⟨g, cap, cur, fz, h1, h2, (h.block g (lt_of_block h3) (fun q => by have := hx g q; omega)).trans h3, h4⟩
theorem Far.allSl (h : Far X w w') (ho : Own w lo e v us) (hs : AllSl w v) (hx : ∀ j, X j → j < lo) : AllSl w' v := fun g hg j c hc => by
  have hl := ho.lt g hg
  have e2 : w'.cell? ⟨g, j, none⟩ = w.cell? ⟨g, j, none⟩ := by simp only [World.cell?, h.block g hl.2 (fun q => by have := hx g q; omega)]
  rw [e2] at hc
  exact hs g hg j c hc
theorem Far.rows (h : Far X w w') (hn : No8 X w) (hr : Rows w lo e v ls) (hx : ∀ j, X j → j < lo) : Rows w' lo e v ls := by
  obtain ⟨us, h1, h2, h3, h4⟩ := hr
  refine ⟨us, h.own h1 hx, h.allSl h1 h2 hx, h3, fun j l hj => ?_⟩
  obtain ⟨u, hu, hr⟩ := h4 j l hj
  exact ⟨u, hu, (h.rd8 hn hr (Nat.le_refl _)).more h.size⟩
/-- The blocks of X are of another type. -/
def NoT (X : Nat → Prop) (e : TypeId) (w : World) : Prop := ∀ g, X g → ∀ cur fz, w.heap[g]? ≠ some (.cells cur e fz)
theorem Far.rdT (h : Far X w w') (hn : No8 X w) (ht : NoT X e w) (hr : RdT w e u vs) : RdT w' e u vs := by
  obtain ⟨A, c, rfl, hL, ht2⟩ := hr
  have far : ∀ b o, A = some ⟨b, o, none⟩ → ¬ X b := fun b o e1 q => by
    subst e1
    obtain ⟨cur, fz, e2⟩ := ht2 b rfl
    exact ht b q cur fz e2
  refine ⟨A, c, rfl, h.rdL hn hL far, fun g hg => ?_⟩
  obtain ⟨cur, fz, q⟩ := ht2 g hg
  refine ⟨cur, fz, (h.block g (lt_of_block q) fun hx => ht g hx cur fz q).trans q⟩
theorem Far.rows3 (h : Far X w w') (hn : No8 X w) (ht : NoT X e2 w) (hr : Rows3 w lo e3 e2 v vss) (hx : ∀ j, X j → j < lo) : Rows3 w' lo e3 e2 v vss := by
  obtain ⟨us, h1, h2, h3, h4⟩ := hr
  refine ⟨us, h.own h1 hx, h.allSl h1 h2 hx, h3, fun j l hj => ?_⟩
  obtain ⟨u, hu, hr⟩ := h4 j l hj
  exact ⟨u, hu, h.rdT hn ht hr⟩
/-- A row of two or more does not lie in a block of one cell, nor in one that came later. -/
theorem RdL.not_box (hr : RdL w A cap ls) (h2 : 2 ≤ ls.length) {g : Nat} {x : Value} (hb : Blk w g t #[x]) : ∀ b o, A = some ⟨b, o, none⟩ → b ≠ g := by
  rintro b o rfl rfl
  obtain ⟨us, h1, hr, -⟩ := hr
  obtain ⟨b', o', he, hu⟩ := hr.at_ (j := 1) (by omega)
  cases he
  have h3 := hu 1 _ (List.getElem?_eq_getElem (by omega))
  rw [hb.cell] at h3
  simp at h3
theorem RdL.lt_size (hr : RdL w A cap ls) (h2 : 1 ≤ ls.length) : ∀ b o, A = some ⟨b, o, none⟩ → b < w.heap.size := by
  rintro b o rfl
  obtain ⟨us, h1, ⟨A', c', heq, hc, hr⟩, -⟩ := hr
  cases heq
  obtain ⟨b', o', he, hb, -⟩ := hr (fun e => by rw [e] at h1; simp at h1; omega)
  cases he
  exact hb
/-- The row's slice begins where it owns it. -/
theorem Rows.own_type (h : Rows w lo e v ls) {g : Nat} (hg : v.ownBlock = some g) : lo ≤ g ∧ ∃ cur fz, w.heap[g]? = some (.cells cur e fz) := by
  obtain ⟨us, h1, -⟩ := h
  exact ⟨(h1.lt g hg).1, Base.own_type h1 hg⟩
end
end Go.Proofs.YtopihahjjcpnpaaGreatDoor.Base

