/-
  The document's own answers for package volume: May: no statement is proved here.
  The document's own answers for package volume: Begin: no statement is proved here.
  The document's own answers for package volume: Split: no statement is proved here.
  The document's own answers for package volume: Split in one, Needs, Same: no statement is proved here.
-/
import Derived.Test.YtopihahjjcpnpaaGreatDoorVolM
import Derived.Test.YtopihahjjcpnpaaGreatDoorLabelRef3
import Derived.Test.YtopihahjjcpnpaaGreatDoorStreamRef
import Derived.Test.YtopihahjjcpnpaaGreatDoorContRef
import Derived.Test.YtopihahjjcpnpaaGreatDoorVolZ
import Derived.Test.YtopihahjjcpnpaaGreatDoorBlockRef
namespace Go.Proofs.YtopihahjjcpnpaaGreatDoor.Vol
open Go.RowKit Go.Proofs.YtopihahjjcpnpaaGreatDoor.Str Go.Proofs.YtopihahjjcpnpaaGreatDoor.Base Go.Proofs.YtopihahjjcpnpaaGreatDoor.Node Go.Proofs.YtopihahjjcpnpaaGreatDoor.Head Go.Proofs.YtopihahjjcpnpaaGreatDoor.Long Go.Proofs.YtopihahjjcpnpaaGreatDoor.LabelM Go.Proofs.YtopihahjjcpnpaaGreatDoor.VolM
set_option linter.unusedVariables false

theorem st_cells {w : World} {g : Nat} {t : TypeId} {s : Sett} {A : Option Addr} {k : Nat} (hb : Blk w g t (scells s A k)) :
    w.cell? ⟨g, 0, none⟩ = some (.string ⟨s.label.toArray⟩) ∧ w.cell? ⟨g, 1, none⟩ = some (.int .i64 s.b) ∧ w.cell? ⟨g, 2, none⟩ = some (.slice A s.caps.length k) := by
  refine ⟨?_, ?_, ?_⟩ <;> (rw [hb.cell]; rfl)
abbrev capB (x : Int) : Bool := decide (0 ≤ x) && decide (x ≤ 200)
theorem mayS_cap {s : Sett} {j : Nat} {x : Int} (hx : s.caps[j]? = some x) (h : capB x = false) : mayS s = false := by
  cases hm : mayS s
  · rfl
  · obtain ⟨-, -, -, -, h5⟩ := mayS_iff.1 hm
    have := h5 x (List.mem_of_getElem? hx)
    simp [capB] at h
    omega
theorem mayS_all {s : Sett} (h0 : mayLb s.label 1 = true) (h1 : 1 ≤ s.b) (h2 : s.b ≤ 20) (h3 : (s.caps.length : Int) ≤ 12) (h4 : s.caps.all capB = true) : mayS s = true :=
  mayS_iff.2 ⟨h0, by omega, by omega, by omega, fun x hx => by simpa [capB] using List.all_eq_true.1 h4 x hx⟩
theorem take_all {α : Type} {l : List α} {p : α → Bool} {j : Nat} {x : α} (hx : l[j]? = some x) (h : (l.take j).all p = true) (hp : p x = true) : (l.take (j + 1)).all p = true := by
  obtain ⟨hlt, e⟩ := List.getElem?_eq_some_iff.1 hx
  rw [List.take_add_one, hx, List.all_append, h]
  simp [hp]
set_option maxRecDepth 100000 in
set_option maxHeartbeats 4000000 in
theorem rvmay_s (s : Sett) (hs : SmallS s) (A : Option Addr) (k : Nat) (b : Bool) (hb : mayS s = b) (w : World) (ha : RdZ w A k s.caps) :
    Calls Tryz.prog 20 #[sv s A k] w fun e w' => e = .returned (.bool b) ∧ Stp w w' := by
  have h0 := Stp.alloc (Stp.refl w) (.cells (scells s A k) 25)
  have Hb := Lib.hid (Blk.new w 25 (scells s A k))
  have Ha : Hid (RdZ (w.alloc (.cells (scells s A k) 25)) A k s.caps) := Lib.hid (RdA.keep ha h0)
  have Hs := Lib.hid hs
  obtain ⟨b0, k0⟩ : ∃ b, mayLb s.label 1 = b := ⟨_, rfl⟩
  obtain ⟨b1, k1⟩ : ∃ b, decide (s.b < 1) = b := ⟨_, rfl⟩
  obtain ⟨b2, k2⟩ : ∃ b, decide (20 < s.b) = b := ⟨_, rfl⟩
  obtain ⟨b3, k3⟩ : ∃ b, decide (12 < (s.caps.length : Int)) = b := ⟨_, rfl⟩
  have K0 := Lib.hid k0
  have hl := hs.label
  by_cases hall : b0 = true ∧ b1 = false ∧ b2 = false ∧ b3 = false
  · obtain ⟨rfl, rfl, rfl, rfl⟩ := hall
    have HB := Lib.hid hb
    have H1 : Hid (1 ≤ s.b) := Lib.hid (by have := of_decide_eq_false k1; omega)
    have H2 : Hid (s.b ≤ 20) := Lib.hid (by have := of_decide_eq_false k2; omega)
    have H3 : Hid ((s.caps.length : Int) ≤ 12) := Lib.hid (by have := of_decide_eq_false k3; omega)
    have h12 : s.caps.length ≤ 12 := by have := H3.out; omega
    obtain ⟨q0, q1, q2⟩ := st_cells Hb.out
    clear hs k0 hb
    go_enter Tryz.func20, Tryz.ntmps20
    go_wp2_with (go_at_call 42; (with_reducible refine (Label.rlmay_s s.label _ rfl hl 1 true K0.out _).mono ?_); rintro e w1 ⟨rfl, rfl⟩)
    go_loopw [4] (fun i wr => ∃ j : Nat, j ≤ s.caps.length ∧ i = .int .i64 (j : Int) ∧ wr = w.alloc (.cells (scells s A k) 25) ∧ Hid ((s.caps.take j).all capB = true)) (fun i _ => s.caps.length - (intOf i).toNat)
    case atStart => exact ⟨0, by omega, rfl, rfl, Lib.hid rfl⟩
    case round =>
      obtain ⟨j, hj, rfl, rfl, HP⟩ := hrel
      obtain ⟨q0, q1, q2⟩ := st_cells Hb.out
      by_cases hlt : j < s.caps.length
      · obtain ⟨x, hx⟩ : ∃ x, s.caps[j]? = some x := ⟨_, List.getElem?_eq_getElem hlt⟩
        obtain ⟨g, o, hA, q3⟩ := RdZ.cell Ha.out hx
        subst hA
        obtain ⟨c1, e1⟩ : ∃ c, decide (x < 0) = c := ⟨_, rfl⟩
        obtain ⟨c2, e2⟩ : ∃ c, decide (200 < x) = c := ⟨_, rfl⟩
        have HX := Lib.hid hx
        have E1 := Lib.hid e1
        have E2 := Lib.hid e2
        clear hx
        cases c1
        · cases c2
          · go_wp2
            go_roundw
            case rel => exact ⟨j + 1, by omega, by go_num, trivial, Lib.hid (take_all HX.out HP.out (by have := of_decide_eq_false E1.out; have := of_decide_eq_false E2.out; simp [capB]; omega))⟩
            case measure => simp [intOf]; omega
          · go_wp2
            go_ret
            refine ⟨?_, h0⟩
            rw [← HB.out, mayS_cap HX.out (by have := of_decide_eq_true E2.out; simp [capB]; omega)]
            rfl
        · go_wp2
          go_ret
          refine ⟨?_, h0⟩
          rw [← HB.out, mayS_cap HX.out (by have := of_decide_eq_true E1.out; simp [capB]; omega)]
          rfl
      · obtain rfl : j = s.caps.length := by omega
        go_wp2
        go_ret
        refine ⟨?_, h0⟩
        rw [← HB.out, mayS_all K0.out H1.out H2.out H3.out (by simpa using HP.out)]
        rfl
  · have hbf : b = false := by
      rw [← hb]
      cases hm : mayS s
      · rfl
      · obtain ⟨a1, a2, a3, a4, -⟩ := mayS_iff.1 hm
        exfalso
        apply hall
        rw [← k0, ← k1, ← k2, ← k3]
        exact ⟨a1, decide_eq_false (by omega), decide_eq_false (by omega), decide_eq_false (by omega)⟩
    subst hbf
    obtain ⟨q0, q1, q2⟩ := st_cells Hb.out
    clear hs hb k0
    cases b0
    · clear k1 k2 k3 hall
      go_enter Tryz.func20, Tryz.ntmps20
      go_wp2_with (go_at_call 42; (with_reducible refine (Label.rlmay_s s.label _ rfl hl 1 false K0.out _).mono ?_); rintro e w1 ⟨rfl, rfl⟩)
      go_ret
      exact ⟨rfl, h0⟩
    · cases b1
      · cases b2
        · obtain rfl : b3 = true := by simpa using hall
          clear hall
          go_enter Tryz.func20, Tryz.ntmps20
          go_wp2_with (go_at_call 42; (with_reducible refine (Label.rlmay_s s.label _ rfl hl 1 true K0.out _).mono ?_); rintro e w1 ⟨rfl, rfl⟩)
          go_ret
          exact ⟨rfl, h0⟩
        · clear k3 hall
          go_enter Tryz.func20, Tryz.ntmps20
          go_wp2_with (go_at_call 42; (with_reducible refine (Label.rlmay_s s.label _ rfl hl 1 true K0.out _).mono ?_); rintro e w1 ⟨rfl, rfl⟩)
          go_ret
          exact ⟨rfl, h0⟩
      · clear k2 k3 hall
        go_enter Tryz.func20, Tryz.ntmps20
        go_wp2_with (go_at_call 42; (with_reducible refine (Label.rlmay_s s.label _ rfl hl 1 true K0.out _).mono ?_); rintro e w1 ⟨rfl, rfl⟩)
        go_ret
        exact ⟨rfl, h0⟩
end Go.Proofs.YtopihahjjcpnpaaGreatDoor.Vol

namespace Go.Proofs.YtopihahjjcpnpaaGreatDoor.Vol
open Go.RowKit Go.Proofs.YtopihahjjcpnpaaGreatDoor.Str Go.Proofs.YtopihahjjcpnpaaGreatDoor.Base Go.Proofs.YtopihahjjcpnpaaGreatDoor.Node Go.Proofs.YtopihahjjcpnpaaGreatDoor.Head Go.Proofs.YtopihahjjcpnpaaGreatDoor.Long Go.Proofs.YtopihahjjcpnpaaGreatDoor.Entry Go.Proofs.YtopihahjjcpnpaaGreatDoor.LabelM Go.Proofs.YtopihahjjcpnpaaGreatDoor.ContM Go.Proofs.YtopihahjjcpnpaaGreatDoor.Stream Go.Proofs.YtopihahjjcpnpaaGreatDoor.VolM
open Go.Proofs.YtopihahjjcpnpaaGreatDoor.Tree (oneB mayT)
set_option linter.unusedVariables false

theorem rall_n (t : List Nd) (T : Option Addr) (ct : Nat) (w : World) (ht : RdN w T ct t) (hl : t.length < 9223372036854775808) (hn : ∀ n ∈ t, SmallN n) (z : Nat) (hz : (allS t).length = z) (b : Bool) (hb : mayT t = b) :
    Calls Tryz.prog 36 #[.slice T t.length ct] w fun e w' => ∃ B d, e = .returned (.tuple #[.slice B z d, .bool b]) ∧ Stp w w' := by
  subst hz hb
  refine (rall_s t T ct w ht hl hn).mono ?_
  rintro e w1 ⟨B, d, rfl, -, hs⟩
  exact ⟨B, d, rfl, hs⟩
theorem rwhere_n (t : List Nd) (i : Int) (T : Option Addr) (ct : Nat) (w : World) (ht : RdN w T ct t) (hl : t.length < 9223372036854775808) (hn : ∀ n ∈ t, SmallN n) (hi : i < 9223372036854775808) (hi' : -9223372036854775808 ≤ i) (K J : Int) (hk : whereS t i = (K, J)) :
    Calls Tryz.prog 40 #[.slice T t.length ct, .int .i64 i] w fun e w' => e = .returned (.tuple #[.int .i64 K, .int .i64 J]) ∧ Stp w w' := by
  have := rwhere_s t i T ct w ht hl hn hi hi'
  rwa [hk] at this
theorem rcput_n (n : Nd) (v : Value) (e : v = nv n) (hn : SmallN n) (off : Int) (ls : List (List UInt8)) (hls : putC n off = ls) (z : Nat) (hz : ls.length = z) (b : Bool) (hb : mayC n off = b) (w : World) :
    Calls Tryz.prog 41 #[v, .int .i64 off] w fun e w' => ∃ A c, e = .returned (.tuple #[.slice A z c, .bool b]) ∧ RdL w' A c ls ∧ Stp w w' := by
  subst e
  exact Cont.rcput_s n hn off ls hls z hz b hb w
set_option maxRecDepth 100000 in
set_option maxHeartbeats 4000000 in
theorem rvbegin_no (t : List Nd) (hl : t.length < 9223372036854775808) (hn : ∀ n ∈ t, SmallN n) (s : Sett) (hs : SmallS s) (pos n : Int) (hb : beginB t s pos n = false) (T A : Option Addr) (ct k : Nat) (w : World) (ht : RdN w T ct t) (ha : RdZ w A k s.caps) :
    Calls Tryz.prog 17 #[.slice T t.length ct, sv s A k, .int .i64 pos, .int .i64 n] w fun e w' => e = .returned (.tuple #[.slice none 0 0, .bool false]) ∧ Stp w w' := by
  have h0 := Stp.alloc (Stp.refl w) (.cells (scells s A k) 25)
  have Hb := Lib.hid (Blk.new w 25 (scells s A k))
  have Ha : Hid (RdZ (w.alloc (.cells (scells s A k) 25)) A k s.caps) := Lib.hid (RdA.keep ha h0)
  have Ht := Lib.hid (ht.keep h0)
  have H := Lib.hid h0
  have Hs := Lib.hid hs
  have Hl := Lib.hid hl
  have Hn := Lib.hid hn
  have hl := hs.label
  obtain ⟨q0, q1, q2⟩ := st_cells Hb.out
  obtain ⟨z, hz⟩ : ∃ z, (allS t).length = z := ⟨_, rfl⟩
  obtain ⟨⟨X, b3⟩, k3⟩ : ∃ p, putL s.label n = p := ⟨_, rfl⟩
  obtain ⟨y, hy⟩ : ∃ y, X.length = y := ⟨_, rfl⟩
  obtain ⟨b1, k1⟩ : ∃ b, mayS s = b := ⟨_, rfl⟩
  obtain ⟨b2, k2⟩ : ∃ b, mayT t = b := ⟨_, rfl⟩
  obtain ⟨b4, k4⟩ : ∃ b, decide (pos < 0) = b := ⟨_, rfl⟩
  obtain ⟨b5, k5⟩ : ∃ b, decide ((z : Int) ≤ pos) = b := ⟨_, rfl⟩
  have hall : b1 = true → b2 = true → b3 = true → b4 = false → b5 = false → False := by
    rintro rfl rfl rfl rfl rfl
    have h3 : mayLb s.label n = true := by
      rw [putL] at k3
      split at k3
      · assumption
      · cases k3
    have : beginB t s pos n = true := beginB_iff.2 ⟨k2, k1, h3, by simpa using k4, by rw [hz]; simpa using k5⟩
    rw [hb] at this
    cases this
  have HZ := Lib.hid hz
  have HY := Lib.hid hy
  have K1 := Lib.hid k1
  have K2 := Lib.hid k2
  have K3 := Lib.hid k3
  clear h0 ha ht hs hn k1 k2 k3 hb hz hy
  have hc : b1 = false ∨ (b1 = true ∧ b2 = false) ∨ (b1 = true ∧ b2 = true ∧ b3 = false) ∨ (b1 = true ∧ b2 = true ∧ b3 = true ∧ b4 = true) ∨ (b1 = true ∧ b2 = true ∧ b3 = true ∧ b4 = false ∧ b5 = true) := by
    clear K1 K2 K3 k4 k5
    cases b1 <;> cases b2 <;> cases b3 <;> cases b4 <;> cases b5 <;> first | exact (hall rfl rfl rfl rfl rfl).elim | simp
  clear hall
  rcases hc with rfl | ⟨rfl, rfl⟩ | ⟨rfl, rfl, rfl⟩ | ⟨rfl, rfl, rfl, rfl⟩ | ⟨rfl, rfl, rfl, rfl, rfl⟩
  all_goals
    go_enter Tryz.func17, Tryz.ntmps17
    go_wp2_with (first
      | (go_at_call 20; (with_reducible refine (rvmay_s s Hs.out A k _ K1.out _ Ha.out).mono ?_); rintro e w1 ⟨rfl, hs⟩; replace Hb := Lib.hid (Hb.out.keep hs Hb.out.lt); replace Ht := Lib.hid (Ht.out.keep hs); replace H := Lib.hid (Stp.trans H.out hs); clear hs q0 q1 q2; obtain ⟨q0, q1, q2⟩ := st_cells Hb.out)
      | (go_at_call 36; (with_reducible refine (rall_n t T ct _ Ht.out Hl.out Hn.out z HZ.out _ K2.out).mono ?_); rintro e w2 ⟨B2, d2, rfl, hs⟩; replace Hb := Lib.hid (Hb.out.keep hs Hb.out.lt); replace Ht := Lib.hid (Ht.out.keep hs); replace H := Lib.hid (Stp.trans H.out hs); clear hs q0 q1 q2; obtain ⟨q0, q1, q2⟩ := st_cells Hb.out)
      | (go_at_call 39; (with_reducible refine (Label.rlput_s s.label _ rfl hl n _ y _ K3.out HY.out _).mono ?_); rintro e w3 ⟨A3, c3, rfl, hr, hs⟩; have Hr := Lib.hid hr; replace Ht := Lib.hid (Ht.out.keep hs); replace H := Lib.hid (Stp.trans H.out hs); clear hr hs q0 q1 q2))
    go_ret2
    exact ⟨rfl, H.out⟩
set_option maxRecDepth 100000 in
set_option maxHeartbeats 4000000 in
theorem rvbegin_yes (t : List Nd) (hl : t.length < 9223372036854775808) (hn : ∀ n ∈ t, SmallN n) (s : Sett) (hs : SmallS s) (pos n : Int) (hp : -9223372036854775808 ≤ pos ∧ pos < 9223372036854775808) (hb : beginB t s pos n = true) (T A : Option Addr) (ct k : Nat) (w : World) (ht : RdN w T ct t) (ha : RdZ w A k s.caps) :
    Calls Tryz.prog 17 #[.slice T t.length ct, sv s A k, .int .i64 pos, .int .i64 n] w fun e w' => ∃ v, e = .returned (.tuple #[v, .bool true]) ∧ Base.Rows w' w.heap.size 43 v (beginL t s pos.toNat n) ∧ Stp w w' := by
  have h0 := Stp.alloc (Stp.refl w) (.cells (scells s A k) 25)
  have Hb := Lib.hid (Blk.new w 25 (scells s A k))
  have Ha : Hid (RdZ (w.alloc (.cells (scells s A k) 25)) A k s.caps) := Lib.hid (RdA.keep ha h0)
  have H := Lib.hid h0
  have Hs := Lib.hid hs
  have Hl := Lib.hid hl
  have Hn := Lib.hid hn
  have HP := Lib.hid hp
  have hl := hs.label
  obtain ⟨q0, q1, q2⟩ := st_cells Hb.out
  obtain ⟨h1, h2, h3, h4, h5⟩ := beginB_iff.1 hb
  obtain ⟨z, hz⟩ : ∃ z, (allS t).length = z := ⟨_, rfl⟩
  rw [hz] at h5
  obtain ⟨X, hX⟩ : ∃ x, lblK s.label n = x := ⟨_, rfl⟩
  have hXl : X.length = 512 := by rw [← hX, lblK]; exact blk_length (name_may h3).1 (name_may h3).2
  have K1 := Lib.hid h2
  have K2 := Lib.hid h1
  have K3 : Hid (putL s.label n = (X, true)) := Lib.hid (by rw [putL, if_pos h3, ← hX]; rfl)
  have HY := Lib.hid hXl
  have HZ := Lib.hid hz
  have g4 : decide (pos < 0) = false := decide_eq_false (by omega)
  have g5 : decide ((z : Int) ≤ pos) = false := decide_eq_false (by omega)
  have hw : whereS t pos = whereL t 0 pos.toNat := by unfold whereS; rw [hz, if_pos ⟨h4, h5⟩]
  have hbl : beginL t s pos.toNat n = X :: goesOn t pos.toNat := by rw [beginL, hX]
  rw [hbl]
  by_cases hJ : 0 ≤ (whereL t 0 pos.toNat).2
  · obtain ⟨kk, nd, hk, e1, e2, e3, -⟩ := goes_get h1 hJ
    rw [e2]
    obtain ⟨J, hJJ⟩ : ∃ J, (whereL t 0 pos.toNat).2 = J := ⟨_, rfl⟩
    rw [hJJ] at e3 hJ ⊢
    have HW : Hid (whereS t pos = ((kk : Int), J)) := Lib.hid (by rw [hw, ← e1, ← hJJ])
    have hJ8 : J ≤ 8 := by
      obtain ⟨f0, -, f2, -⟩ := mayC_iff.1 e3
      have := (oneF (isFile_iff.1 f0).1).data
      omega
    have hklt := (List.getElem?_eq_some_iff.1 hk).1
    have Hk := Lib.hid hk
    have Hnd := Lib.hid (hn nd (List.mem_of_getElem? hk))
    obtain ⟨M, hM⟩ : ∃ M, putC nd (512 * J) = M := ⟨_, rfl⟩
    obtain ⟨mz, hmz⟩ : ∃ m, M.length = m := ⟨_, rfl⟩
    have HM := Lib.hid hM
    have HZ5 := Lib.hid hmz
    have HZ3 : Hid (mz ≤ 3) := Lib.hid (by rw [← hmz, ← hM]; exact putC_le _ _)
    have Hmc := Lib.hid e3
    obtain ⟨g0, o0, rfl, -, -⟩ := ht.cells hk
    have Ht := Lib.hid (ht.keep h0)
    rw [hM]
    clear h0 ha ht hs hn hp hb h1 h2 h3 h4 h5 hz hX hXl hw hbl e1 e2 e3 hJJ hk hM hmz
    go_enter Tryz.func17, Tryz.ntmps17
    go_wp2_with (first
      | (go_at_call 20; (with_reducible refine (rvmay_s s Hs.out A k _ K1.out _ Ha.out).mono ?_); rintro e w1 ⟨rfl, hs⟩; replace Hb := Lib.hid (Hb.out.keep hs Hb.out.lt); replace Ht := Lib.hid (Ht.out.keep hs); replace H := Lib.hid (Stp.trans H.out hs); clear hs q0 q1 q2; obtain ⟨q0, q1, q2⟩ := st_cells Hb.out)
      | (go_at_call 36; (with_reducible refine (rall_n t _ ct _ Ht.out Hl.out Hn.out z HZ.out _ K2.out).mono ?_); rintro e w2 ⟨B2, d2, rfl, hs⟩; replace Hb := Lib.hid (Hb.out.keep hs Hb.out.lt); replace Ht := Lib.hid (Ht.out.keep hs); replace H := Lib.hid (Stp.trans H.out hs); clear hs q0 q1 q2; obtain ⟨q0, q1, q2⟩ := st_cells Hb.out)
      | (go_at_call 39; (with_reducible refine (Label.rlput_s s.label _ rfl hl n _ 512 _ K3.out HY.out _).mono ?_); rintro e w3 ⟨A3, c3, rfl, hr, hs⟩; have HR := Lib.hid (Rows.one (e := 43) hr HY.out); have HS := Lib.hid (Stp.trans H.out hs).size; have H3 := Lib.hid (Stp.alloc (Stp.refl w3) (.cells #[.slice A3 512 c3] 43)); replace hs := Stp.alloc hs (.cells #[.slice A3 512 c3] 43); replace Ht := Lib.hid (Ht.out.keep hs); replace H := Lib.hid (Stp.trans H.out hs); clear hr hs q0 q1 q2)
      | (go_at_call 40; (with_reducible refine (rwhere_n t pos _ ct _ Ht.out Hl.out Hn.out HP.out.2 HP.out.1 _ _ HW.out).mono ?_); rintro e w4 ⟨rfl, hs⟩; replace HR := Lib.hid (HR.out.keep hs); replace H3 := Lib.hid (Stp.trans H3.out hs); replace H := Lib.hid (Stp.trans H.out hs); replace Ht := Lib.hid (Ht.out.keep hs); clear hs; obtain ⟨_, _, hgo, -, r0, r1, r2, r3, r4, r5, r6, r7⟩ := Ht.out.cells Hk.out; cases hgo)
      | (go_at_call 41; (with_reducible refine (rcput_n nd _ rfl Hnd.out (512 * J) M HM.out mz HZ5.out true Hmc.out _).mono ?_); rintro e w5 ⟨A5, c5, rfl, hr, hs⟩; have Hr := Lib.hid hr; replace HR := Lib.hid (HR.out.keep hs); replace H3 := Lib.hid (Stp.trans H3.out hs); replace H := Lib.hid (Stp.trans H.out hs); clear hr hs r0 r1 r2 r3 r4 r5 r6 r7)
      | (at_builtin; refine Base.wpList_append_rows (P := Tryz.prog) rfl (.tmp 74) (.tmp 75) 33 rfl 43 Tryz.underlying33 slices_info _ rfl HR.out rfl Hr.out HZ5.out (by have := HZ5.out; have := HZ3.out; simp only [List.length_cons, List.length_nil]; omega) H3.out.size ?_; intro v6 w6 hR hg; replace H := Lib.hid (HR.out.stp H.out HS.out hg); have HR9 := Lib.hid (Base.Rows.less hR HS.out); clear hR hg))
    go_ret2
    exact ⟨_, rfl, HR9.out, H.out⟩
  · rw [goes_none (by omega)]
    obtain ⟨⟨K, J⟩, hKJ⟩ : ∃ p, whereL t 0 pos.toNat = p := ⟨_, rfl⟩
    rw [hKJ] at hJ hw
    have HW := Lib.hid hw
    have g6 : decide (0 ≤ J) = false := decide_eq_false hJ
    have Ht := Lib.hid (ht.keep h0)
    clear h0 ha ht hs hn hp hb h1 h2 h3 h4 h5 hz hX hXl hw hbl hJ hKJ
    go_enter Tryz.func17, Tryz.ntmps17
    go_wp2_with (first
      | (go_at_call 20; (with_reducible refine (rvmay_s s Hs.out A k _ K1.out _ Ha.out).mono ?_); rintro e w1 ⟨rfl, hs⟩; replace Hb := Lib.hid (Hb.out.keep hs Hb.out.lt); replace Ht := Lib.hid (Ht.out.keep hs); replace H := Lib.hid (Stp.trans H.out hs); clear hs q0 q1 q2; obtain ⟨q0, q1, q2⟩ := st_cells Hb.out)
      | (go_at_call 36; (with_reducible refine (rall_n t _ ct _ Ht.out Hl.out Hn.out z HZ.out _ K2.out).mono ?_); rintro e w2 ⟨B2, d2, rfl, hs⟩; replace Hb := Lib.hid (Hb.out.keep hs Hb.out.lt); replace Ht := Lib.hid (Ht.out.keep hs); replace H := Lib.hid (Stp.trans H.out hs); clear hs q0 q1 q2; obtain ⟨q0, q1, q2⟩ := st_cells Hb.out)
      | (go_at_call 39; (with_reducible refine (Label.rlput_s s.label _ rfl hl n _ 512 _ K3.out HY.out _).mono ?_); rintro e w3 ⟨A3, c3, rfl, hr, hs⟩; have HR := Lib.hid (Rows.one (e := 43) hr HY.out); have HS := Lib.hid (Stp.trans H.out hs).size; have H3 := Lib.hid (Stp.alloc (Stp.refl w3) (.cells #[.slice A3 512 c3] 43)); replace hs := Stp.alloc hs (.cells #[.slice A3 512 c3] 43); replace Ht := Lib.hid (Ht.out.keep hs); replace H := Lib.hid (Stp.trans H.out hs); clear hr hs q0 q1 q2)
      | (go_at_call 40; (with_reducible refine (rwhere_n t pos _ ct _ Ht.out Hl.out Hn.out HP.out.2 HP.out.1 _ _ HW.out).mono ?_); rintro e w4 ⟨rfl, hs⟩; replace HR := Lib.hid (HR.out.keep hs); replace H3 := Lib.hid (Stp.trans H3.out hs); replace H := Lib.hid (Stp.trans H.out hs); replace Ht := Lib.hid (Ht.out.keep hs); clear hs))
    go_ret2
    exact ⟨_, rfl, Base.Rows.less HR.out HS.out, H.out⟩
end Go.Proofs.YtopihahjjcpnpaaGreatDoor.Vol

namespace Go.Proofs.YtopihahjjcpnpaaGreatDoor.Vol
open Go.RowKit Go.Proofs.YtopihahjjcpnpaaGreatDoor.Str Go.Proofs.YtopihahjjcpnpaaGreatDoor.Base Go.Proofs.YtopihahjjcpnpaaGreatDoor.Node Go.Proofs.YtopihahjjcpnpaaGreatDoor.Head Go.Proofs.YtopihahjjcpnpaaGreatDoor.Long Go.Proofs.YtopihahjjcpnpaaGreatDoor.Entry Go.Proofs.YtopihahjjcpnpaaGreatDoor.LabelM Go.Proofs.YtopihahjjcpnpaaGreatDoor.ContM Go.Proofs.YtopihahjjcpnpaaGreatDoor.Stream Go.Proofs.YtopihahjjcpnpaaGreatDoor.VolM
open Go.Proofs.YtopihahjjcpnpaaGreatDoor.Tree (oneB mayT)
set_option linter.unusedVariables false

theorem vols_info : (Tryz.prog.info? 33).map (fun i => (i.zero, i.size, i.bytes)) = some (some (.slice none 0 0), 1, 24) := by kernel_rfl
theorem byte_info3 : (Tryz.prog.info? 5).map (fun i => (i.zero, i.size, i.bytes)) = some (some (.int .u8 0), 1, 1) := by kernel_rfl
def lenW : Value → Nat
  | .slice _ n _ => n
  | _ => 0
theorem rd_nought {w : World} {g : Nat} (h : Blk w g 5 (Array.replicate 512 (.int .u8 0))) : RdA w (some ⟨g, 0, none⟩) 512 (bs nought) := by
  have e : ∀ k, (Array.replicate k (Value.int .u8 0)) = (bs (zeros k)).toArray := fun k => by simp [zeros, bs]
  rw [e] at h
  have h2 := (Base.Own.of_blk (lo := 0) h (Nat.zero_le _) (n := 512) (by rw [List.size_toArray, bs_length, zeros_len]) (by unfold maxLen; omega)).rd
  unfold RdA
  rw [bs_length, nought_len]
  exact h2
theorem vol_is {t : List Nd} {s : Sett} {pos n room bl j z : Nat} {V : List (List UInt8)} (hV : beginL t s pos ((n : Int) + 1) = V) (hbl : V.length = bl) (hz : (allS t).length = z) (hr : bl < room) (hj : j ≤ room - bl) (hp : pos + j ≤ z) (hex : j = room - bl ∨ pos + j = z) :
    volV t s pos n room = (V ++ ((allS t).drop pos).take j) ++ List.replicate (if pos + j = z then (s.b.toNat - (bl + j) % s.b.toNat) % s.b.toNat else 0) nought := by
  have ht : ((allS t).drop pos).take (room - bl) = ((allS t).drop pos).take j := by
    rcases hex with e | e
    · rw [e]
    · rw [List.take_of_length_le (by rw [List.length_drop]; omega), List.take_of_length_le (by rw [List.length_drop]; omega)]
  have hl : (V ++ ((allS t).drop pos).take j).length = bl + j := by rw [List.length_append, List.length_take, List.length_drop]; omega
  rw [volV, hV, hbl, hz, ht]
  by_cases h : pos + (room - bl) < z
  · rw [if_pos h, if_neg (by omega)]
    simp
  · rw [if_neg h, if_pos (by omega)]
    simp only [hl]
theorem rall_z (t : List Nd) (T : Option Addr) (ct : Nat) (w : World) (ht : RdN w T ct t) (hl : t.length < 9223372036854775808) (hn : ∀ n ∈ t, SmallN n) (z : Nat) (hz : (allS t).length = z) (b : Bool) (hb : mayT t = b) :
    Calls Tryz.prog 36 #[.slice T t.length ct] w fun e w' => ∃ B d, e = .returned (.tuple #[.slice B z d, .bool b]) ∧ RdL w' B d (allS t) ∧ Stp w w' := by
  subst hz hb
  exact rall_s t T ct w ht hl hn
theorem rmayt_n (t : List Nd) (T : Option Addr) (ct : Nat) (w : World) (ht : RdN w T ct t) (hl : t.length < 9223372036854775808) (hn : ∀ n ∈ t, SmallN n) (b : Bool) (hb : mayT t = b) :
    Calls Tryz.prog 35 #[.slice T t.length ct] w fun e w' => e = .returned (.bool b) ∧ Stp w w' := by
  subst hb
  exact Tree.rmay_s t T ct w ht hl hn
/-- Begin, where it goes, its row the call's own. -/
theorem rvbegin_n (t : List Nd) (hl : t.length < 9223372036854775808) (hn : ∀ n ∈ t, SmallN n) (s : Sett) (hs : SmallS s) (pos n : Nat) (hp : pos < 9223372036854775808) (hb : beginB t s (pos : Int) ((n : Int) + 1) = true) (V : List (List UInt8)) (hV : beginL t s pos ((n : Int) + 1) = V) (bl : Nat) (hbl : V.length = bl)
    (T A : Option Addr) (ct k : Nat) (w : World) (ht : RdN w T ct t) (ha : RdZ w A k s.caps) :
    Calls Tryz.prog 17 #[.slice T t.length ct, sv s A k, .int .i64 (pos : Int), .int .i64 ((n : Int) + 1)] w fun e w' => ∃ B d, e = .returned (.tuple #[.slice B bl d, .bool true]) ∧ Base.Rows w' w.heap.size 43 (.slice B bl d) V ∧ Stp w w' := by
  refine (rvbegin_yes t hl hn s hs (pos : Int) ((n : Int) + 1) ⟨by omega, by omega⟩ hb T A ct k w ht ha).mono ?_
  rintro e w1 ⟨v, rfl, hR, hs⟩
  rw [Int.toNat_natCast, hV] at hR
  obtain ⟨B, d, rfl, -⟩ := hR.rdL
  rw [hbl] at hR ⊢
  exact ⟨B, d, rfl, hR, hs⟩
set_option maxRecDepth 100000 in
set_option maxHeartbeats 4000000 in
theorem rvsplit_no (t : List Nd) (hl : t.length < 9223372036854775808) (hn : ∀ n ∈ t, SmallN n) (s : Sett) (hs : SmallS s) (hm : (mayT t && mayS s) = false) (T A : Option Addr) (ct k : Nat) (w : World) (ht : RdN w T ct t) (ha : RdZ w A k s.caps) :
    Calls Tryz.prog 15 #[.slice T t.length ct, sv s A k] w fun e w' => e = .returned (.tuple #[.slice none 0 0, .int .i64 1]) ∧ Stp w w' := by
  have h0 := Stp.alloc (Stp.refl w) (.cells (scells s A k) 25)
  have Hb := Lib.hid (Blk.new w 25 (scells s A k))
  have Ha : Hid (RdZ (w.alloc (.cells (scells s A k) 25)) A k s.caps) := Lib.hid (RdA.keep ha h0)
  have Ht := Lib.hid (ht.keep h0)
  have H := Lib.hid h0
  have Hs := Lib.hid hs
  have Hl := Lib.hid hl
  have Hn := Lib.hid hn
  obtain ⟨q0, q1, q2⟩ := st_cells Hb.out
  obtain ⟨b1, k1⟩ : ∃ b, mayT t = b := ⟨_, rfl⟩
  obtain ⟨b2, k2⟩ : ∃ b, mayS s = b := ⟨_, rfl⟩
  rw [k1, k2] at hm
  have K1 := Lib.hid k1
  have K2 := Lib.hid k2
  clear h0 ha ht hs hl hn k1 k2
  have hc : b1 = false ∨ (b1 = true ∧ b2 = false) := by
    cases b1
    · exact .inl rfl
    · exact .inr ⟨rfl, by simpa using hm⟩
  clear hm
  rcases hc with rfl | ⟨rfl, rfl⟩
  all_goals
    go_enter Tryz.func15, Tryz.ntmps15
    go_wp2_with (first
      | (go_at_call 35; (with_reducible refine (rmayt_n t T ct _ Ht.out Hl.out Hn.out _ K1.out).mono ?_); rintro e w1 ⟨rfl, hs⟩; replace Hb := Lib.hid (Hb.out.keep hs Hb.out.lt); replace Ha := Lib.hid (RdA.keep Ha.out hs); replace H := Lib.hid (Stp.trans H.out hs); clear hs q0 q1 q2; obtain ⟨q0, q1, q2⟩ := st_cells Hb.out)
      | (go_at_call 20; (with_reducible refine (rvmay_s s Hs.out A k _ K2.out _ Ha.out).mono ?_); rintro e w2 ⟨rfl, hs⟩; replace H := Lib.hid (Stp.trans H.out hs); clear hs q0 q1 q2))
    go_ret2
    exact ⟨rfl, H.out⟩
set_option maxRecDepth 100000 in
set_option maxHeartbeats 8000000 in
theorem rvsplit_yes (t : List Nd) (hl : t.length < 9223372036854775808) (hn : ∀ n ∈ t, SmallN n) (s : Sett) (hs : SmallS s) (h1 : mayT t = true) (h2 : mayS s = true) (Q : List (List (List UInt8))) (E : Int) (hQ : splitV t s = (Q, E)) (T A : Option Addr) (ct k : Nat) (w : World) (ht : RdN w T ct t) (ha : RdZ w A k s.caps) :
    Calls Tryz.prog 15 #[.slice T t.length ct, sv s A k] w fun e w' => ∃ B d, e = .returned (.tuple #[.slice B Q.length d, .int .i64 E]) ∧ RdV w' B d Q ∧ Stp w w' := by
  have h0 := Stp.alloc (Stp.refl w) (.cells (scells s A k) 25)
  have Hb := Lib.hid (Blk.new w 25 (scells s A k))
  have Ha : Hid (RdZ (w.alloc (.cells (scells s A k) 25)) A k s.caps) := Lib.hid (RdA.keep ha h0)
  have Ht := Lib.hid (ht.keep h0)
  have H := Lib.hid h0
  have Hs := Lib.hid hs
  have Hl := Lib.hid hl
  have Hn := Lib.hid hn
  obtain ⟨q0, q1, q2⟩ := st_cells Hb.out
  obtain ⟨z, hz⟩ : ∃ z, (allS t).length = z := ⟨_, rfl⟩
  have hz1 : z ≤ 402 := by
    have a1 := all_length h1
    have a2 := start_le t t.length
    have a3 := blocks_le t
    have a4 := may_len h1
    omega
  have hE : splitV t s = volsG t s z 0 0 := by rw [splitV, if_pos (by rw [h1, h2]; rfl), hz]
  rw [hQ] at hE
  have HQ := Lib.hid hE
  have HZ := Lib.hid hz
  have K1 := Lib.hid h1
  have K2 := Lib.hid h2
  have h12 := (mayS_iff.1 h2).2.2.2.1
  obtain ⟨-, hb1, hb20, -, -⟩ := mayS_iff.1 h2
  clear h0 ha ht hs hl hn h1 h2 hz hE hQ
  go_enter Tryz.func15, Tryz.ntmps15
  go_wp2_with (first
    | (go_at_call 35; (with_reducible refine (rmayt_n t T ct _ Ht.out Hl.out Hn.out _ K1.out).mono ?_); rintro e w1 ⟨rfl, hs⟩; replace Hb := Lib.hid (Hb.out.keep hs Hb.out.lt); replace Ha := Lib.hid (RdA.keep Ha.out hs); replace Ht := Lib.hid (Ht.out.keep hs); replace H := Lib.hid (Stp.trans H.out hs); clear hs q0 q1 q2; obtain ⟨q0, q1, q2⟩ := st_cells Hb.out)
    | (go_at_call 20; (with_reducible refine (rvmay_s s Hs.out A k _ K2.out _ Ha.out).mono ?_); rintro e w2 ⟨rfl, hs⟩; replace Hb := Lib.hid (Hb.out.keep hs Hb.out.lt); replace Ha := Lib.hid (RdA.keep Ha.out hs); replace Ht := Lib.hid (Ht.out.keep hs); replace H := Lib.hid (Stp.trans H.out hs); clear hs q0 q1 q2; obtain ⟨q0, q1, q2⟩ := st_cells Hb.out)
    | (go_at_call 36; (with_reducible refine (rall_z t T ct _ Ht.out Hl.out Hn.out z HZ.out _ K1.out).mono ?_); rintro e w3 ⟨B3, d3, rfl, hr, hs⟩; have HL := Lib.hid hr; replace Hb := Lib.hid (Hb.out.keep hs Hb.out.lt); replace Ha := Lib.hid (RdA.keep Ha.out hs); replace Ht := Lib.hid (Ht.out.keep hs); replace H := Lib.hid (Stp.trans H.out hs); clear hr hs q0 q1 q2))
  go_loopw [10, 11] (fun v i wr => ∃ (pos : Nat) (vs : List (List (List UInt8))), pos ≤ z ∧ vs.length ≤ s.caps.length ∧ i = .int .i64 (pos : Int) ∧ Hid (Base.Rows3 wr w3.heap.size 33 43 v vs) ∧ Hid (Stp w3 wr) ∧ Hid ((Q, E) = (vs ++ (volsG t s z pos vs.length).1, (volsG t s z pos vs.length).2))) (fun _ i _ => z - (intOf i).toNat)
  case atStart => exact ⟨0, [], by omega, by simp, rfl, Lib.hid (Base.Rows3.nil _ _ _ _), Lib.hid (Stp.refl w3), HQ⟩
  case round =>
    obtain ⟨pos, vs, hpos, hvl, rfl, HO, H2, HE⟩ := hrel
    obtain ⟨A10, c10, rfl, -⟩ := HO.out.rdV
    obtain ⟨W4, hW4⟩ : ∃ W, W = wr := ⟨_, rfl⟩
    subst hW4
    have HB := Lib.hid (Hb.out.keep H2.out Hb.out.lt)
    obtain ⟨q0, q1, q2⟩ := st_cells HB.out
    by_cases hlt : pos < z
    · cases hc : s.caps[vs.length]? with
      | none =>
        have hE := HE.out
        rw [vols_none HZ.out hlt hc, List.append_nil] at hE
        have HE2 := Lib.hid hE
        have hcl := List.getElem?_eq_none_iff.1 hc
        have g1 : decide ((s.caps.length : Int) ≤ (vs.length : Int)) = true := decide_eq_true (by omega)
        clear hc hE HE
        go_wp2
        go_ret2
        obtain ⟨A11, c11, he, hV⟩ := HO.out.rdV
        cases he
        have hE := HE2.out
        simp only [Prod.mk.injEq] at hE
        rw [hE.1, hE.2]
        exact ⟨_, _, rfl, hV, Stp.trans H.out H2.out⟩
      | some c =>
        have hcok := cap_ok K2.out hc
        obtain ⟨hvl1, -⟩ := List.getElem?_eq_some_iff.1 hc
        have g1 : decide ((s.caps.length : Int) ≤ (vs.length : Int)) = false := decide_eq_false (by omega)
        obtain ⟨room, hroom⟩ : ∃ r : Nat, (s.b * c).toNat = r := ⟨_, rfl⟩
        have hmul : s.b * c = (room : Int) := by
          have := Int.mul_nonneg (show 0 ≤ s.b by omega) hcok.1
          omega
        have hrm : room ≤ 4000 := by
          rw [← hroom, (room_is K2.out hcok.1).1]
          exact Nat.le_trans (Nat.mul_le_mul (show s.b.toNat ≤ 20 by omega) (show c.toNat ≤ 200 by omega)) (by omega)
        obtain ⟨V, hV⟩ : ∃ x, beginL t s pos ((vs.length : Int) + 1) = x := ⟨_, rfl⟩
        obtain ⟨bl, hbl⟩ : ∃ x, V.length = x := ⟨_, rfl⟩
        have hbl4 : bl ≤ 4 := by rw [← hbl, ← hV]; exact begin_le _ _ _ _
        have hbl1 : 1 ≤ bl := by rw [← hbl, ← hV]; exact beginL_pos _ _ _ _
        have HBeg : Hid (beginB t s (pos : Int) ((vs.length : Int) + 1) = true) := Lib.hid (beginB_iff.2 ⟨K1.out, K2.out, label_may K2.out (by omega), by omega, by rw [HZ.out]; omega⟩)
        obtain ⟨g, o, hA, q3⟩ := RdZ.cell (RdA.keep Ha.out H2.out) hc
        subst hA
        have HC := Lib.hid hc
        have HM := Lib.hid hmul
        have HRm := Lib.hid hroom
        have HV := Lib.hid hV
        have HBL := Lib.hid hbl
        have hpz : pos < 9223372036854775808 := by omega
        clear hc hroom hV hbl hmul
        go_wp2_with (go_at_call 17; (with_reducible refine (rvbegin_n t Hl.out Hn.out s Hs.out pos vs.length hpz HBeg.out V HV.out bl HBL.out T _ ct k _ (Ht.out.keep H2.out) (RdA.keep Ha.out H2.out)).mono ?_); rintro e w5 ⟨B5, d5, rfl, hR, hs⟩; have HR := Lib.hid hR; have H5 := Lib.hid hs; have HB5 := Lib.hid (HB.out.keep hs HB.out.lt); have Ha5 := Lib.hid (RdA.keep Ha.out (Stp.trans H2.out (Stp.drewN hs 1))); clear hR hs q0 q1 q2 q3; obtain ⟨q0, q1, q2⟩ := st_cells (Blk.drew HB5.out); obtain ⟨_, _, hgo, q3⟩ := RdZ.cell Ha5.out HC.out; cases hgo)
        replace q3 : w5.drew.cell? ⟨g, o + vs.length, none⟩ = some (.int .i64 c) := q3
        have g0 : vs.length < s.caps.length := hvl1
        go_region
        rw [show wrap64 (s.b * c) = (room : Int) from by rw [HM.out]; unfold wrap64; omega]
        by_cases hfit : room ≤ bl
        · have g2 : decide ((room : Int) ≤ (bl : Int)) = true := decide_eq_true (by omega)
          have hE := HE.out
          rw [vols_small HZ.out hlt HC.out (by rw [HRm.out, HV.out, HBL.out]; exact hfit), List.append_nil] at hE
          have HE2 := Lib.hid hE
          clear hE HE
          go_wp2
          go_ret2
          obtain ⟨A11, c11, he, hV⟩ := (HO.out.keep (Stp.drewN H5.out 1)).rdV
          cases he
          have hE := HE2.out
          simp only [Prod.mk.injEq] at hE
          rw [hE.1, hE.2]
          exact ⟨_, _, rfl, hV, Stp.trans H.out (Stp.trans H2.out (Stp.drewN H5.out 1))⟩
        · have g2 : decide ((room : Int) ≤ (bl : Int)) = false := decide_eq_false (by omega)
          have Hst := Lib.hid (vols_step HZ.out hlt HC.out (by rw [HRm.out, HV.out, HBL.out]; omega) (pos2 := min (pos + (room - bl)) z) (by rw [HRm.out, HV.out, HBL.out]; omega))
          go_wp2
          have HR6 := Lib.hid (HR.out.keep (Below.drew (Below.refl _ w5)))
          have H6 := Lib.hid (Stp.drewN H5.out 1)
          clear q0 q1 q2 q3
          go_loopw [13, 11] (fun v i wi => ∃ j : Nat, j ≤ room - bl ∧ pos + j ≤ z ∧ i = .int .i64 ((pos : Int) + (j : Int)) ∧ Hid (Base.Rows wi W4.heap.size 43 v (V ++ ((allS t).drop pos).take j)) ∧ Hid (Stp W4 wi)) (fun _ i _ => z - (intOf i).toNat)
          case atStart => exact ⟨0, by omega, by omega, by simp, Lib.hid (by simpa using HR6.out), H6⟩
          case round =>
            obtain ⟨j, hj, hjz, rfl, HRj, Hj⟩ := hrel
            obtain ⟨Aj, cj, rfl, -⟩ := HRj.out.rdL
            obtain ⟨W5, hW5⟩ : ∃ W, W = wr := ⟨_, rfl⟩
            subst hW5
            have hlen : (V ++ ((allS t).drop pos).take j).length = bl + j := by
              rw [List.length_append, List.length_take, List.length_drop, HBL.out, HZ.out]
              omega
            rw [hlen] at HRj ⊢
            by_cases hgo : j < room - bl ∧ pos + j < z
            · obtain ⟨x, hx⟩ : ∃ x, (allS t)[pos + j]? = some x := ⟨_, List.getElem?_eq_getElem (by rw [HZ.out]; exact hgo.2)⟩
              have hx5 := all_may t x (List.mem_of_getElem? hx)
              obtain ⟨b7, o7, A7, c7, hB7, q7, ra⟩ := (HL.out.keep (Stp.trans H2.out Hj.out)).at_ hx
              subst hB7
              rw [hx5] at q7
              have Hnext : Hid (V ++ ((allS t).drop pos).take (j + 1) = (V ++ ((allS t).drop pos).take j) ++ [x]) := Lib.hid (by
                rw [List.take_add_one, List.getElem?_drop, hx, Option.toList_some, List.append_assoc])
              have g3 : decide ((bl : Int) + (j : Int) < (room : Int)) = true := decide_eq_true (by omega)
              have g4 : decide ((pos : Int) + (j : Int) < (z : Int)) = true := decide_eq_true (by omega)
              have Hlit := Lib.hid (Cont.lit_rr (e := 43) ra hx5)
              have hal := Stp.alloc (Stp.refl W5) (.cells #[.slice A7 512 c7] 43)
              have HRl := Lib.hid (HRj.out.keep hal)
              have Hal := Lib.hid (Stp.trans Hj.out hal)
              have Hln := Lib.hid hlen
              clear hx ra hal hlen
              go_wp2_with (at_builtin; refine Base.wpList_append_rows (P := Tryz.prog) rfl (.tmp 75) (.tmp 80) 33 rfl 43 Tryz.underlying33 slices_info _ rfl HRl.out rfl Hlit.out rfl (by rw [Hln.out, List.length_singleton]; omega) Hal.out.size ?_; intro v7 w7 hR hg; have H7 := Lib.hid (HRl.out.stp Hal.out (Nat.le_refl _) hg); rw [← Hnext.out] at hR; have HR7 := Lib.hid hR; clear hR hg)
              go_roundw
              case rel => exact ⟨j + 1, by omega, by omega, by go_num, HR7, H7⟩
              case measure => simp [intOf]; omega
            · have hex : j = room - bl ∨ pos + j = z := by omega
              obtain ⟨bb, hbb⟩ : ∃ b : Nat, s.b = (b : Int) := ⟨s.b.toNat, by omega⟩
              have hbn : s.b.toNat = bb := by omega
              have hv := vol_is HV.out HBL.out HZ.out (by omega) hj hjz hex
              rw [hbn] at hv
              obtain ⟨ls, hls⟩ : ∃ x, V ++ ((allS t).drop pos).take j = x := ⟨_, rfl⟩
              rw [hls] at hv HRj hlen
              obtain ⟨fill, hfill⟩ : ∃ f, (if pos + j = z then (bb - (bl + j) % bb) % bb else 0) = f := ⟨_, rfl⟩
              rw [hfill] at hv
              have Hv := Lib.hid hv
              have Hln := Lib.hid hlen
              have Hif := Lib.hid hfill
              have Hbb := Lib.hid hbb
              have hf20 : fill ≤ 20 := by
                rw [← hfill]
                split
                · exact Nat.le_trans (Nat.le_of_lt (Nat.mod_lt _ (by omega))) (by omega)
                · omega
              have HR0 : Hid (Base.Rows W5 W4.heap.size 43 (.slice Aj (bl + j) cj) (ls ++ List.replicate 0 nought)) := Lib.hid (by simpa using HRj.out)
              have hdec : decide ((bl : Int) + (j : Int) < (room : Int)) = false ∨ (decide ((bl : Int) + (j : Int) < (room : Int)) = true ∧ decide ((pos : Int) + (j : Int) < (z : Int)) = false) := by
                by_cases h : bl + j < room
                · exact .inr ⟨decide_eq_true (by omega), decide_eq_false (by omega)⟩
                · exact .inl (decide_eq_false (by omega))
              clear hv hls hlen hfill HRj hbn hgo hbb
              rcases hdec with g3 | ⟨g3, g4⟩
              all_goals
                go_wp2
                go_loopw [13] (fun v wk => ∃ i : Nat, i ≤ fill ∧ Hid (Base.Rows wk W4.heap.size 43 v (ls ++ List.replicate i nought)) ∧ Hid (Stp W4 wk)) (fun v _ => (bl + j + fill) - lenW v)
                case atStart => exact ⟨0, by omega, HR0, Hj⟩
                case round =>
                  obtain ⟨i, hi, HRi, Hi⟩ := hrel
                  obtain ⟨Ai, ci, rfl, -⟩ := HRi.out.rdL
                  obtain ⟨W6, hW6⟩ : ∃ W, W = wr := ⟨_, rfl⟩
                  subst hW6
                  have hli : (ls ++ List.replicate i nought).length = bl + j + i := by rw [List.length_append, List.length_replicate, Hln.out]
                  rw [hli] at HRi ⊢
                  have HBi := Lib.hid (HB.out.keep Hi.out HB.out.lt)
                  obtain ⟨q0, q1, q2⟩ := st_cells HBi.out
                  have hrm2 : ((bl : Int) + (j : Int) + (i : Int)) % s.b = (((bl + j + i) % bb : Nat) : Int) := by
                    rw [Hbb.out]
                    push_cast
                    rfl
                  by_cases hgo : i < fill
                  · have hz2 : pos + j = z := by
                      apply Classical.byContradiction
                      intro hne
                      have := Hif.out
                      rw [if_neg hne] at this
                      omega
                    have hf := Hif.out
                    rw [if_pos hz2] at hf
                    have hpos2 := fill_go (b := bb) (l := bl + j) (i := i) (by have := Hbb.out; omega) (by rw [hf]; exact hgo)
                    have g5 : ((pos : Int) + (j : Int) == (z : Int)) = true := by rw [beq_iff_eq]; omega
                    have g6 : decide (0 < ((bl : Int) + (j : Int) + (i : Int)) % s.b) = true := decide_eq_true (by rw [hrm2]; omega)
                    have Hnext : Hid (ls ++ List.replicate (i + 1) nought = (ls ++ List.replicate i nought) ++ [nought]) := Lib.hid (by rw [List.replicate_succ', List.append_assoc])
                    have Hl2 : Hid ((ls ++ List.replicate (i + 1) nought).length = bl + j + (i + 1)) := Lib.hid (by rw [List.length_append, List.length_replicate, Hln.out])
                    have Hl1 := Lib.hid hli
                    clear hrm2 hf hpos2 hli hz2
                    go_wp2_with (first
                      | (at_make; (refine wpList_make_blk _ rfl _ _ 43 rfl 5 (.int .u8 0) 1 Tryz.underlying43 byte_info3 rfl .i64 .i64 512 512 rfl rfl rfl (by omega) (by unfold maxLen; omega) ?_; intro w6 hb6 hs6 hg6; have Hlit := Lib.hid (Cont.lit_rr (e := 43) (rd_nought hb6) nought_len); have Hal := Lib.hid (Stp.trans Hi.out (Stp.alloc (Cont.made_stp hg6) (.cells #[.slice (some ⟨W6.heap.size, 0, none⟩) 512 512] 43))); have HRl := Lib.hid (HRi.out.keep (Stp.alloc (Cont.made_stp hg6) (.cells #[.slice (some ⟨W6.heap.size, 0, none⟩) 512 512] 43))); clear hb6 hs6 hg6))
                      | (at_builtin; refine Base.wpList_append_rows (P := Tryz.prog) rfl (.tmp 96) (.tmp 98) 33 rfl 43 Tryz.underlying33 slices_info _ rfl HRl.out rfl Hlit.out rfl (by rw [Hl1.out, List.length_singleton]; omega) Hal.out.size ?_; intro v7 w7 hR hg; have H7 := Lib.hid (HRl.out.stp Hal.out (Nat.le_refl _) hg); rw [← Hnext.out] at hR; obtain ⟨A9, c9, he9, -⟩ := hR.rdL; rw [Hl2.out] at he9; subst he9; have HR7 := Lib.hid hR; clear hR hg))
                    go_roundw
                    case rel => exact ⟨i + 1, by omega, HR7, H7⟩
                    case measure => simp only [lenW]; omega
                  · obtain rfl : i = fill := by omega
                    have hal := Stp.alloc (Stp.refl W6) (.cells #[.slice Ai (bl + j + i) ci] 33)
                    have HOl := Lib.hid ((HO.out.keep Hi.out).keep hal)
                    have HT := Base.Rows.rdT HRi.out
                    rw [← Hv.out] at HT
                    have HTl := Lib.hid (HT.keep hal)
                    have Hrd := Lib.hid (rd_lit W6 33 (.slice Ai (bl + j + i) ci))
                    have Hs3 := Lib.hid (Stp.trans H2.out (Stp.trans Hi.out hal))
                    have HEn : Hid ((Q, E) = ((vs ++ [volV t s pos vs.length room]) ++ (volsG t s z (pos + j) (vs ++ [volV t s pos vs.length room]).length).1, (volsG t s z (pos + j) (vs ++ [volV t s pos vs.length room]).length).2)) := Lib.hid (by
                      rw [HE.out, Hst.out, HRm.out, List.length_append, List.length_singleton, show min (pos + (room - bl)) z = pos + j by omega, List.append_assoc]
                      rfl)
                    have Hl1 := Lib.hid hli
                    have Hvl : Hid ((vs ++ [volV t s pos vs.length room]).length ≤ s.caps.length) := Lib.hid (by rw [List.length_append, List.length_singleton]; omega)
                    have hj1 : 1 ≤ j := by omega
                    clear hal HT hli
                    have hcase : ((pos : Int) + (j : Int) == (z : Int)) = false ∨ (((pos : Int) + (j : Int) == (z : Int)) = true ∧ decide (0 < ((bl : Int) + (j : Int) + (i : Int)) % s.b) = false) := by
                      by_cases hz2 : pos + j = z
                      · have hf := Hif.out
                        rw [if_pos hz2] at hf
                        have := fill_end (b := bb) (l := bl + j) (by have := Hbb.out; omega)
                        rw [hf] at this
                        exact .inr ⟨by rw [beq_iff_eq]; omega, decide_eq_false (by rw [hrm2, this]; omega)⟩
                      · exact .inl (by rw [beq_eq_false_iff_ne]; omega)
                    clear hrm2
                    rcases hcase with g5 | ⟨g5, g6⟩
                    all_goals
                      go_wp2_with (at_builtin; refine Base.wpList_append_rows3 (P := Tryz.prog) rfl (.tmp 100) (.tmp 102) 29 rfl Tryz.underlying29 vols_info (by decide) rfl HOl.out rfl HTl.out Hrd.out (by omega) Hs3.out.size ?_; intro v8 w8 hR hg; have H9 := Lib.hid (HOl.out.stp Hs3.out (Nat.le_refl _) hg); have HR8 := Lib.hid hR; clear hR hg)
                      go_roundw
                      case rel => exact ⟨pos + j, vs ++ [volV t s pos vs.length room], hjz, Hvl.out, by go_num, HR8, H9, HEn⟩
                      case measure => simp [intOf]; omega
    · obtain rfl : pos = z := by omega
      have hE := HE.out
      rw [vols_over (by rw [HZ.out]; omega), List.append_nil] at hE
      have HE2 := Lib.hid hE
      clear hE HE
      go_wp2
      go_ret2
      obtain ⟨A11, c11, he, hV⟩ := HO.out.rdV
      cases he
      have hE := HE2.out
      simp only [Prod.mk.injEq] at hE
      rw [hE.1, hE.2]
      exact ⟨_, _, rfl, hV, Stp.trans H.out H2.out⟩
end Go.Proofs.YtopihahjjcpnpaaGreatDoor.Vol

namespace Go.Proofs.YtopihahjjcpnpaaGreatDoor.Vol
open Go.Sort Go.RowKit Go.Proofs.YtopihahjjcpnpaaGreatDoor.Str Go.Proofs.YtopihahjjcpnpaaGreatDoor.Base Go.Proofs.YtopihahjjcpnpaaGreatDoor.Node Go.Proofs.YtopihahjjcpnpaaGreatDoor.Head Go.Proofs.YtopihahjjcpnpaaGreatDoor.Long Go.Proofs.YtopihahjjcpnpaaGreatDoor.Entry Go.Proofs.YtopihahjjcpnpaaGreatDoor.LabelM Go.Proofs.YtopihahjjcpnpaaGreatDoor.ContM Go.Proofs.YtopihahjjcpnpaaGreatDoor.Stream Go.Proofs.YtopihahjjcpnpaaGreatDoor.VolM
open Go.Proofs.YtopihahjjcpnpaaGreatDoor.Tree (oneB mayT)
set_option linter.unusedVariables false

theorem rvsplit_s (t : List Nd) (m : Nat) (hm : t.length = m) (hl : m < 9223372036854775808) (hn : ∀ n ∈ t, SmallN n) (s : Sett) (A : Option Addr) (k : Nat) (v : Value) (hv : v = sv s A k) (hs : SmallS s) (Q : List LL) (E : Int) (hQ : splitV t s = (Q, E)) (z : Nat) (hz : Q.length = z)
    (T : Option Addr) (ct : Nat) (w : World) (ht : RdN w T ct t) (ha : RdZ w A k s.caps) :
    Calls Tryz.prog 15 #[.slice T m ct, v] w fun e w' => ∃ B d, e = .returned (.tuple #[.slice B z d, .int .i64 E]) ∧ RdV w' B d Q ∧ Stp w w' := by
  subst hm hv hz
  cases h : mayT t && mayS s
  · refine (rvsplit_no t hl hn s hs h T A ct k w ht ha).mono ?_
    rintro e w' ⟨rfl, h1⟩
    rw [split_no h, Prod.mk.injEq] at hQ
    obtain ⟨rfl, rfl⟩ := hQ
    exact ⟨none, 0, rfl, RdV.nil _, h1⟩
  · rw [Bool.and_eq_true] at h
    exact rvsplit_yes t hl hn s hs h.1 h.2 Q E hQ T A ct k w ht ha
set_option maxRecDepth 100000 in
set_option maxHeartbeats 4000000 in
theorem rvneeds_s (t : List Nd) (m : Nat) (hm : t.length = m) (hl : m < 9223372036854775808) (hn : ∀ n ∈ t, SmallN n) (s : Sett) (A : Option Addr) (k : Nat) (v : Value) (hv : v = sv s A k) (hs : SmallS s) (N : Int) (hN : needsV t s = N)
    (T : Option Addr) (ct : Nat) (w : World) (ht : RdN w T ct t) (ha : RdZ w A k s.caps) :
    Calls Tryz.prog 23 #[.slice T m ct, v] w fun e w' => e = .returned (.int .i64 N) ∧ Stp w w' := by
  subst hv
  obtain ⟨Q, E, hQ⟩ : ∃ Q E, splitV t s = (Q, E) := ⟨_, _, rfl⟩
  obtain ⟨z, hz⟩ : ∃ z, Q.length = z := ⟨_, rfl⟩
  have h0 := Stp.alloc (Stp.refl w) (.cells (scells s A k) 25)
  obtain ⟨q0, q1, q2⟩ := st_cells (Blk.new w 25 (scells s A k))
  have hN2 : N = if E = 0 then (z : Int) else -1 := by rw [← hN, needsV, hQ, ← hz]
  have Ht := Lib.hid (ht.keep h0)
  have Ha : Hid (RdZ (w.alloc (.cells (scells s A k) 25)) A k s.caps) := Lib.hid (RdA.keep ha h0)
  have Hm := Lib.hid hm
  have Hl := Lib.hid hl
  have Hn := Lib.hid hn
  have Hs := Lib.hid hs
  have HQ := Lib.hid hQ
  have Hz := Lib.hid hz
  have HN := Lib.hid hN2
  obtain ⟨b, hb⟩ : ∃ b, (E != 0) = b := ⟨_, rfl⟩
  have HB := Lib.hid hb
  clear hm hl hn hs hN hQ hz hN2 ht ha
  cases b
  all_goals
    go_enter Tryz.func23, Tryz.ntmps23
    go_wp2_with (go_at_call 15; refine (rvsplit_s t m Hm.out Hl.out Hn.out s A k _ rfl Hs.out Q E HQ.out z Hz.out T ct _ Ht.out Ha.out).mono ?_; rintro e w1 ⟨B, d, rfl, -, hs1⟩; replace h0 := Stp.trans h0 hs1; clear hs1 q0 q1 q2)
    go_ret
    refine ⟨?_, h0⟩
    have hbb := HB.out
    rw [HN.out]
  · rw [if_pos (by simpa using hbb)]
    rfl
  · rw [if_neg (by simpa using hbb)]
    rfl
theorem rows_same {P Q : List LL} (h : P.length = Q.length) {j : Nat} {x y : LL} (hx : P[j]? = some x) (hy : Q[j]? = some y) (hj : P.take j = Q.take j) (he : x = y) : P.take (j + 1) = Q.take (j + 1) := by
  rw [List.take_add_one, List.take_add_one, hx, hy, hj, he]
theorem rows_differ {P Q : List LL} {j : Nat} {x y : LL} (hx : P[j]? = some x) (hy : Q[j]? = some y) (he : (x == y) = false) : (P == Q) = false := by
  rw [beq_eq_false_iff_ne] at he ⊢
  rintro rfl
  rw [hx] at hy
  exact he (Option.some.inj hy)
set_option maxRecDepth 100000 in
set_option maxHeartbeats 4000000 in
theorem rvsame_s (P Q : List LL) (a b : Nat) (hP : P.length = a) (hQ : Q.length = b) (ha : a < 9223372036854775808) (hb : b < 9223372036854775808) (hPs : ∀ x ∈ P, x.length < 9223372036854775808) (hQs : ∀ x ∈ Q, x.length < 9223372036854775808) (r : Bool) (hr : (P == Q) = r)
    (A B : Option Addr) (c d : Nat) (w : World) (hA : RdV w A c P) (hB : RdV w B d Q) :
    Calls Tryz.prog 18 #[.slice A a c, .slice B b d] w fun e w' => e = .returned (.bool r) ∧ Stp w w' := by
  have HPs := Lib.hid hPs
  have HQs := Lib.hid hQs
  have Hr := Lib.hid hr
  have HA := Lib.hid hA
  have HB := Lib.hid hB
  have HP := Lib.hid hP
  have HQ := Lib.hid hQ
  by_cases hab : a = b
  · subst hab
    have k0 : ((a : Int) != (a : Int)) = false := by simp
    clear hPs hQs hr hA hB hP hQ
    go_enter Tryz.func18, Tryz.ntmps18
    go_wp2_with fail
    go_loopw [5] (fun i wr => ∃ j : Nat, j ≤ a ∧ i = .int .i64 (j : Int) ∧ Hid (Stp w wr) ∧ Hid (P.take j = Q.take j)) (fun i _ => a - (intOf i).toNat)
    case atStart => exact ⟨0, by omega, rfl, Lib.hid (Stp.refl w), Lib.hid rfl⟩
    case round =>
      obtain ⟨j, hj, rfl, H1, HE⟩ := hrel
      by_cases hlt : j < a
      · obtain ⟨x, hx⟩ : ∃ x, P[j]? = some x := ⟨_, List.getElem?_eq_getElem (by rw [HP.out]; exact hlt)⟩
        obtain ⟨y, hy⟩ : ∃ y, Q[j]? = some y := ⟨_, List.getElem?_eq_getElem (by rw [HQ.out]; exact hlt)⟩
        obtain ⟨g1, o1, A1, c1, hA1, hc1, hL1⟩ := (HA.out.keep H1.out).at_ hx
        obtain ⟨g2, o2, A2, c2, hA2, hc2, hL2⟩ := (HB.out.keep H1.out).at_ hy
        subst hA1 hA2
        have hxl := HPs.out x (List.mem_of_getElem? hx)
        have hyl := HQs.out y (List.mem_of_getElem? hy)
        obtain ⟨e0, he⟩ : ∃ e, (x == y) = e := ⟨_, rfl⟩
        have He := Lib.hid he
        have Hx := Lib.hid hx
        have Hy := Lib.hid hy
        have HL1 := Lib.hid hL1
        have HL2 := Lib.hid hL2
        have Hxl := Lib.hid hxl
        have Hyl := Lib.hid hyl
        have g0 : (j : Int) < (a : Int) := by omega
        have v1 := cell_regrown hc1
        have v2 := cell_regrown hc2
        have cS : ∀ d os, Calls Tryz.prog 19 #[.slice A1 x.length c1, .slice A2 y.length c2] (grow (redrawn wr d) os) fun e w'' => e = .returned (.bool e0) ∧ ∃ p : Regrown, w'' = grow (redrawn wr p.d) p.os := fun d os => Calls.regrown_of (rsamev x y _ _ rfl rfl A1 A2 c1 c2 _ (HL1.out.keep (below_regrown wr d os)) (HL2.out.keep (below_regrown wr d os)) Hxl.out Hyl.out e0 He.out)
        have g1 : (0 : Int) ≤ (j : Int) := by omega
        clear he hx hy hL1 hL2 hxl hyl hc1 hc2
        cases e0
        · go_wp2_with fail
          refine wp_region_quiet_below (by kernel_rfl) (by kernel_rfl) ?_
          repeat (go_big_quiet_step (with_reducible exact cS _ _))
          refine wpQuiet_nil ?_
          intro _ hw'
          obtain ⟨⟨dq, osq⟩, hw''⟩ := hw'
          subst hw''
          have H2 := Lib.hid (Stp.trans H1.out (show Stp wr (grow (redrawn wr dq) osq) from below_regrown wr dq osq))
          clear v1 v2 cS
          dsimp only
          generalize grow (redrawn wr dq) osq = Y at H2 ⊢
          go_wp2_with fail
          go_ret
          exact ⟨by rw [← Hr.out, rows_differ Hx.out Hy.out He.out]; rfl, H2.out⟩
        · go_wp2_with fail
          refine wp_region_quiet_below (by kernel_rfl) (by kernel_rfl) ?_
          repeat (go_big_quiet_step (with_reducible exact cS _ _))
          refine wpQuiet_nil ?_
          intro _ hw'
          obtain ⟨⟨dq, osq⟩, hw''⟩ := hw'
          subst hw''
          have H2 := Lib.hid (Stp.trans H1.out (show Stp wr (grow (redrawn wr dq) osq) from below_regrown wr dq osq))
          clear v1 v2 cS
          dsimp only
          generalize grow (redrawn wr dq) osq = Y at H2 ⊢
          go_wp2_with fail
          go_roundw
          case rel => exact ⟨j + 1, by omega, by go_num, H2, Lib.hid (rows_same (by rw [HP.out, HQ.out]) Hx.out Hy.out HE.out (eq_of_beq He.out))⟩
          case measure => simp [intOf]; omega
      · obtain rfl : j = a := by omega
        go_wp2_with fail
        go_ret
        refine ⟨?_, H1.out⟩
        have h := HE.out
        rw [List.take_of_length_le (by rw [HP.out]; omega), List.take_of_length_le (by rw [HQ.out]; omega)] at h
        rw [← Hr.out, h]
        simp
  · have k0 : ((a : Int) != (b : Int)) = true := by simp; omega
    have hrf : r = false := by
      rw [← hr, beq_eq_false_iff_ne]
      rintro rfl
      exact hab (hP.symm.trans hQ)
    subst hrf
    clear hPs hQs hr hA hB hP hQ hab
    go_enter Tryz.func18, Tryz.ntmps18
    go_wp2_with fail
    go_ret
    exact ⟨rfl, Stp.refl w⟩
end Go.Proofs.YtopihahjjcpnpaaGreatDoor.Vol

