/-
  The document's own answers for package cont: May, Many, Put: no statement is proved here.
-/
import Derived.Test.YtopihahjjcpnpaaGreatDoorContK
import Derived.Test.YtopihahjjcpnpaaGreatDoorEntryRef
import Derived.Test.YtopihahjjcpnpaaGreatDoorTreeOne
namespace Go.Proofs.YtopihahjjcpnpaaGreatDoor.Cont
open Go.RowKit Go.Proofs.YtopihahjjcpnpaaGreatDoor.Str Go.Proofs.YtopihahjjcpnpaaGreatDoor.Base Go.Proofs.YtopihahjjcpnpaaGreatDoor.Node Go.Proofs.YtopihahjjcpnpaaGreatDoor.Head Go.Proofs.YtopihahjjcpnpaaGreatDoor.Long Go.Proofs.YtopihahjjcpnpaaGreatDoor.ContM
open Go.Proofs.YtopihahjjcpnpaaGreatDoor.Tree (oneB)
set_option linter.unusedVariables false

theorem kind48 (n : Nd) : ((n.kind.toNat : Int) == 48) = decide (n.kind = 48) := ty_eq n.kind 48 (by omega)
set_option maxRecDepth 100000 in
set_option maxHeartbeats 4000000 in
theorem rcmay_s (n : Nd) (hn : SmallN n) (off : Int) (b : Bool) (hb : mayC n off = b) (w : World) :
    Calls Tryz.prog 77 #[nv n, .int .i64 off] w fun e w' => e = .returned (.bool b) ∧ Stp w w' := by
  have h0 := Stp.alloc (Stp.refl w) (.cells (ncells n) 52)
  have Hn := Lib.hid hn
  have Hb := Lib.hid (Blk.new w 52 (ncells n))
  obtain ⟨q0, q1, q2, q3, q4, q5, q6, q7⟩ := nd_cells Hb.out
  obtain ⟨b1, k1⟩ : ∃ b, oneB n = b := ⟨_, rfl⟩
  obtain ⟨b2, k2⟩ : ∃ b, ((n.kind.toNat : Int) == 48) = b := ⟨_, rfl⟩
  obtain ⟨b3, k3⟩ : ∃ b, decide (0 ≤ off) = b := ⟨_, rfl⟩
  obtain ⟨b4, k4⟩ : ∃ b, decide (off < (n.data.length : Int)) = b := ⟨_, rfl⟩
  have hb2 := hb
  rw [mayC, isFile, ← kind48, k1, k2, k3, k4] at hb2
  have K1 := Lib.hid k1
  have Hl := Lib.hid hn.data
  by_cases hall : b1 = true ∧ b2 = true ∧ b3 = true ∧ b4 = true
  · obtain ⟨rfl, rfl, rfl, rfl⟩ := hall
    have g1 : 0 ≤ off := by simpa using k3
    have g2 : off ≤ 9223372036854775807 := by
      have h4 : off < (n.data.length : Int) := by simpa using k4
      have := hn.data
      omega
    have hb3 : decide (off % 512 = 0) = b := by simpa using hb2
    obtain ⟨r, hr⟩ : ∃ r, off % 512 = r := ⟨_, rfl⟩
    rw [hr] at hb3
    have k5 : (r == 0) = b := by rw [← hb3, Bool.eq_iff_iff, beq_iff_eq, decide_eq_true_eq]
    clear hn k1 hb hb2 hb3
    go_enter Tryz.func77, Tryz.ntmps77
    go_wp2_with (go_at_call 61; (with_reducible refine (Tree.rone_s n Hn.out _).mono ?_); rintro e w1 ⟨rfl, hs⟩; rw [K1.out]; replace Hb := Lib.hid (Hb.out.keep hs Hb.out.lt); replace h0 := Stp.trans h0 hs; clear hs q0 q1 q2 q3 q4 q5 q6 q7; obtain ⟨q0, q1, q2, q3, q4, q5, q6, q7⟩ := nd_cells Hb.out)
    go_ret
    exact ⟨rfl, h0⟩
  · have hbf : b = false := by
      rw [← hb2]
      cases b1 <;> cases b2 <;> cases b3 <;> cases b4 <;> simp_all
    subst hbf
    clear hn k1 hb hb2
    cases b1
    · clear k2 k3 k4 hall
      go_enter Tryz.func77, Tryz.ntmps77
      go_wp2_with (go_at_call 61; (with_reducible refine (Tree.rone_s n Hn.out _).mono ?_); rintro e w1 ⟨rfl, hs⟩; rw [K1.out]; replace h0 := Stp.trans h0 hs; clear hs q0 q1 q2 q3 q4 q5 q6 q7)
      go_ret
      exact ⟨rfl, h0⟩
    · cases b2
      · clear k3 k4 hall
        go_enter Tryz.func77, Tryz.ntmps77
        go_wp2_with (go_at_call 61; (with_reducible refine (Tree.rone_s n Hn.out _).mono ?_); rintro e w1 ⟨rfl, hs⟩; rw [K1.out]; replace Hb := Lib.hid (Hb.out.keep hs Hb.out.lt); replace h0 := Stp.trans h0 hs; clear hs q0 q1 q2 q3 q4 q5 q6 q7; obtain ⟨q0, q1, q2, q3, q4, q5, q6, q7⟩ := nd_cells Hb.out)
        go_ret
        exact ⟨rfl, h0⟩
      · cases b3
        · clear k4 hall
          go_enter Tryz.func77, Tryz.ntmps77
          go_wp2_with (go_at_call 61; (with_reducible refine (Tree.rone_s n Hn.out _).mono ?_); rintro e w1 ⟨rfl, hs⟩; rw [K1.out]; replace Hb := Lib.hid (Hb.out.keep hs Hb.out.lt); replace h0 := Stp.trans h0 hs; clear hs q0 q1 q2 q3 q4 q5 q6 q7; obtain ⟨q0, q1, q2, q3, q4, q5, q6, q7⟩ := nd_cells Hb.out)
          go_ret
          exact ⟨rfl, h0⟩
        · obtain rfl : b4 = false := by simpa using hall
          clear hall
          go_enter Tryz.func77, Tryz.ntmps77
          go_wp2_with (go_at_call 61; (with_reducible refine (Tree.rone_s n Hn.out _).mono ?_); rintro e w1 ⟨rfl, hs⟩; rw [K1.out]; replace Hb := Lib.hid (Hb.out.keep hs Hb.out.lt); replace h0 := Stp.trans h0 hs; clear hs q0 q1 q2 q3 q4 q5 q6 q7; obtain ⟨q0, q1, q2, q3, q4, q5, q6, q7⟩ := nd_cells Hb.out)
          go_ret
          exact ⟨rfl, h0⟩
/-- The header, its name apart. -/
abbrev hP (n : Nd) (off : Int) (p : L) : Hd := ⟨p, [], [], n.mode, n.uid, n.gid, (n.data.length : Int) - off, n.time, 77, off, (n.data.length : Int)⟩
theorem rput_v (h : Hd) (v : Value) (e : v = hv h) (hs : SmallH h) (B : L) (hB : putB h = B) (z : Nat) (hz : B.length = z) (b : Bool) (hb : mayH h = b) (w : World) :
    Calls Tryz.prog 73 #[v] w fun e w' => ∃ A cap, e = .returned (.tuple #[.slice A z cap, .bool b]) ∧ RdA w' A cap (bs B) ∧ Stp w w' := by
  subst e hB hz hb
  exact rputH_s h hs w
theorem lit_rr {w : World} {A : Option Addr} {n cap : Nat} {l : L} {e : TypeId} (h : RdA w A cap (bs l)) (hn : l.length = n) : RdL (w.alloc (.cells #[.slice A n cap] e)) (some ⟨w.heap.size, 0, none⟩) 1 [l] := by
  obtain ⟨A', c', he, hL⟩ := (Rows.one (e := e) h hn).rdL
  cases he
  exact hL
set_option maxRecDepth 100000 in
set_option maxHeartbeats 4000000 in
theorem rcput_no (n : Nd) (hn : SmallN n) (off : Int) (hm : mayC n off = false) (w : World) :
    Calls Tryz.prog 41 #[nv n, .int .i64 off] w fun e w' => e = .returned (.tuple #[.slice none 0 0, .bool false]) ∧ Stp w w' := by
  have h0 := Stp.alloc (Stp.refl w) (.cells (ncells n) 52)
  have Hn := Lib.hid hn
  have Hb := Lib.hid (Blk.new w 52 (ncells n))
  obtain ⟨q0, q1, q2, q3, q4, q5, q6, q7⟩ := nd_cells Hb.out
  have Hm := Lib.hid hm
  clear hn hm
  go_enter Tryz.func41, Tryz.ntmps41
  go_wp2_with (go_at_call 77; (with_reducible refine (rcmay_s n Hn.out off false Hm.out _).mono ?_); rintro e w1 ⟨rfl, hs⟩; replace h0 := Stp.trans h0 hs; clear hs q0 q1 q2 q3 q4 q5 q6 q7)
  go_ret2
  exact ⟨rfl, h0⟩
set_option maxRecDepth 100000 in
set_option maxHeartbeats 4000000 in
theorem rcput_short (n : Nd) (hn : SmallN n) (off : Int) (hm : mayC n off = true) (hl : n.path.length ≤ 100) (w : World) :
    Calls Tryz.prog 41 #[nv n, .int .i64 off] w fun e w' => ∃ A c, e = .returned (.tuple #[.slice A 1 c, .bool true]) ∧ RdL w' A c [blk (headC n off)] ∧ Stp w w' := by
  have h0 := Stp.alloc (Stp.refl w) (.cells (ncells n) 52)
  have hw1 := h0.size
  have Hn := Lib.hid hn
  have Hb := Lib.hid (Blk.new w 52 (ncells n))
  obtain ⟨q0, q1, q2, q3, q4, q5, q6, q7⟩ := nd_cells Hb.out
  obtain ⟨a1, a2⟩ := headC_may hm
  have eP : hP n off n.path = headC n off := by rw [hP, headC, List.take_of_length_le hl]
  obtain ⟨B, hB⟩ : ∃ x, blk (headC n off) = x := ⟨_, rfl⟩
  have hBl : B.length = 512 := by rw [← hB]; exact blk_length a1 a2
  have HB := Lib.hid (show putB (hP n off n.path) = B by rw [eP, ← hB]; exact if_pos a1)
  have HBl := Lib.hid hBl
  rw [← eP] at a1 a2
  have Ha := Lib.hid a1
  have Hsm := Lib.hid a2
  rw [hB]
  have k1 : decide ((100 : Int) < (n.path.length : Int)) = false := decide_eq_false (by omega)
  obtain ⟨-, g1, g2, -⟩ := mayC_iff.1 hm
  have g3 := (Entry.oneF (isFile_iff.1 (mayC_iff.1 hm).1).1).data
  have g4 : (n.data.length : Int) ≤ 4000 := by omega
  have HR := Lib.hid (Base.Rows.nil w w.heap.size 43)
  have Hm := Lib.hid hm
  clear hn hm a1 a2 eP hB hBl g3 hl
  go_enter Tryz.func41, Tryz.ntmps41
  go_wp2_with (first
    | (go_at_call 77; (with_reducible refine (rcmay_s n Hn.out off true Hm.out _).mono ?_); rintro e w1 ⟨rfl, hs⟩; replace Hb := Lib.hid (Hb.out.keep hs Hb.out.lt); replace h0 := Stp.trans h0 hs; clear hs q0 q1 q2 q3 q4 q5 q6 q7; obtain ⟨q0, q1, q2, q3, q4, q5, q6, q7⟩ := nd_cells Hb.out)
    | (go_at_call 73; refine (rput_v (hP n off n.path) _ rfl Hsm.out B HB.out 512 HBl.out true Ha.out _).mono ?_; rintro e w2 ⟨A2, c2, rfl, hr, hs⟩; replace h0 := Stp.trans h0 hs; have Hlit := Lib.hid (lit_rr (e := 43) hr HBl.out); replace HR := Lib.hid (Base.Rows.nil (w2.alloc (.cells #[.slice A2 512 c2] 43)) w.heap.size 43); replace h0 := Stp.alloc h0 (.cells #[.slice A2 512 c2] 43); have Hsz := Lib.hid h0.size; clear hs hr q0 q1 q2 q3 q4 q5 q6 q7)
    | (at_builtin; refine Base.wpList_append_rows (P := Tryz.prog) rfl (.tmp 56) (.tmp 58) 33 rfl 43 Tryz.underlying33 slices_info _ rfl HR.out rfl Hlit.out rfl (by simp only [List.length_cons, List.length_nil]; omega) Hsz.out ?_; intro v6 w6 hR hg; replace h0 := HR.out.stp h0 (Nat.le_refl _) hg; obtain ⟨A9, c9, rfl, hL9⟩ := hR.rdL; have HL9 := Lib.hid hL9; clear hR hg hL9))
  go_ret2
  exact ⟨A9, c9, rfl, HL9.out, h0⟩
set_option maxRecDepth 100000 in
set_option maxHeartbeats 4000000 in
theorem rcput_long (n : Nd) (hn : SmallN n) (off : Int) (hm : mayC n off = true) (hl : 100 < n.path.length) (w : World) :
    Calls Tryz.prog 41 #[nv n, .int .i64 off] w fun e w' => ∃ A c, e = .returned (.tuple #[.slice A 3 c, .bool true]) ∧ RdL w' A c (putLs 76 n.path ++ [blk (headC n off)]) ∧ Stp w w' := by
  have h0 := Stp.alloc (Stp.refl w) (.cells (ncells n) 52)
  have Hn := Lib.hid hn
  have Hb := Lib.hid (Blk.new w 52 (ncells n))
  obtain ⟨q0, q1, q2, q3, q4, q5, q6, q7⟩ := nd_cells Hb.out
  obtain ⟨a1, a2⟩ := headC_may hm
  obtain ⟨B, hB⟩ : ∃ x, blk (headC n off) = x := ⟨_, rfl⟩
  have hBl : B.length = 512 := by rw [← hB]; exact blk_length a1 a2
  obtain ⟨u, hu⟩ : ∃ u, n.path.take 100 = u := ⟨_, rfl⟩
  have eP : hP n off u = headC n off := by rw [hP, headC, hu]
  have HB := Lib.hid (show putB (hP n off u) = B by rw [eP, ← hB]; exact if_pos a1)
  have HBl := Lib.hid hBl
  rw [← eP] at a1 a2
  have Ha := Lib.hid a1
  have Hsm := Lib.hid a2
  rw [hB]
  have k1 : decide ((100 : Int) < (n.path.length : Int)) = true := decide_eq_true (by omega)
  obtain ⟨hf, g1, g2, -⟩ := mayC_iff.1 hm
  have g3 := (Entry.oneF (isFile_iff.1 hf).1).data
  have g4 : (n.data.length : Int) ≤ 4000 := by omega
  have c1 := fun w => cut_h n.path 100 (by omega) w
  rw [hu] at c1
  replace c1 : ∀ w, (Instr.slice 9 (.string ⟨n.path.toArray⟩) none (some (.int .i64 100)) none).run Tryz.prog w = .ok (.string ⟨u.toArray⟩) w := c1
  obtain ⟨X, hX⟩ : ∃ x, putLs 76 n.path = x := ⟨_, rfl⟩
  have hXl : X.length = 2 := by rw [← hX, putLs_length, if_pos (ahead_ok hf)]
  have HX := Lib.hid hX
  have HXl := Lib.hid hXl
  have Hok := Lib.hid (ahead_ok hf)
  have Hp := Lib.hid (show n.path.length ≤ 900000 by have := (textL_iff.1 (path_text hf)).2.1; omega)
  rw [hX]
  have HR := Lib.hid (Base.Rows.nil w w.heap.size 43)
  have Hm := Lib.hid hm
  clear hn hm a1 a2 eP hB hBl g3 hl hu hX hXl hf
  go_enter Tryz.func41, Tryz.ntmps41
  go_wp2_with (first
    | (go_at_call 77; (with_reducible refine (rcmay_s n Hn.out off true Hm.out _).mono ?_); rintro e w1 ⟨rfl, hs⟩; replace Hb := Lib.hid (Hb.out.keep hs Hb.out.lt); replace h0 := Stp.trans h0 hs; clear hs q0 q1 q2 q3 q4 q5 q6 q7; obtain ⟨q0, q1, q2, q3, q4, q5, q6, q7⟩ := nd_cells Hb.out)
    | (go_at_call 78; (with_reducible refine (rlput_v 76 _ e76 n.path _ Hp.out).mono ?_); rintro e w3 ⟨A3, c3, rfl, hr, hs⟩; rw [HX.out] at hr; rw [HX.out, HXl.out, Hok.out]; replace Hb := Lib.hid (Hb.out.keep hs Hb.out.lt); replace h0 := Stp.trans h0 hs; have Hr := Lib.hid hr; replace HR := Lib.hid (Base.Rows.nil w3 w.heap.size 43); have Hsz := Lib.hid h0.size; clear hs hr q0 q1 q2 q3 q4 q5 q6 q7; obtain ⟨q0, q1, q2, q3, q4, q5, q6, q7⟩ := nd_cells Hb.out)
    | (at_builtin; refine Base.wpList_append_rows (P := Tryz.prog) rfl (.tmp 28) (.tmp 29) 33 rfl 43 Tryz.underlying33 slices_info _ rfl HR.out rfl Hr.out HXl.out (by have := HXl.out; simp only [List.length_nil]; omega) Hsz.out ?_; intro v4 w4 hR hg; replace Hb := Lib.hid (Long.ahead_keep HR.out Hb.out hg); replace h0 := HR.out.stp h0 (Nat.le_refl _) hg; rw [List.nil_append] at hR; have HR2 := Lib.hid hR; clear hR hg Hr q0 q1 q2 q3 q4 q5 q6 q7; obtain ⟨q0, q1, q2, q3, q4, q5, q6, q7⟩ := nd_cells Hb.out)
    | (go_at_call 73; refine (rput_v (hP n off u) _ rfl Hsm.out B HB.out 512 HBl.out true Ha.out _).mono ?_; rintro e w2 ⟨A2, c2, rfl, hr, hs⟩; have Hlit := Lib.hid (lit_rr (e := 43) hr HBl.out); replace hs := Stp.alloc hs (.cells #[.slice A2 512 c2] 43); replace h0 := Stp.trans h0 hs; replace HR2 := Lib.hid (HR2.out.keep hs); replace Hsz := Lib.hid h0.size; clear hs hr q0 q1 q2 q3 q4 q5 q6 q7)
    | (at_builtin; refine Base.wpList_append_rows (P := Tryz.prog) rfl (.tmp 56) (.tmp 58) 33 rfl 43 Tryz.underlying33 slices_info _ rfl HR2.out rfl Hlit.out rfl (by have := HXl.out; simp only [List.length_cons, List.length_nil]; omega) Hsz.out ?_; intro v6 w6 hR hg; replace h0 := HR2.out.stp h0 (Nat.le_refl _) hg; obtain ⟨A9, c9, he9, hL9⟩ := hR.rdL; have HL9 := Lib.hid hL9; have He9 := Lib.hid he9; clear hR hg hL9 he9))
  have he := He9.out
  rw [show (X ++ [B]).length = 3 by rw [List.length_append, HXl.out]; rfl] at he
  subst he
  go_ret2
  exact ⟨A9, c9, rfl, HL9.out, h0⟩
theorem rcput_s (n : Nd) (hn : SmallN n) (off : Int) (ls : List L) (hls : putC n off = ls) (z : Nat) (hz : ls.length = z) (b : Bool) (hb : mayC n off = b) (w : World) :
    Calls Tryz.prog 41 #[nv n, .int .i64 off] w fun e w' => ∃ A c, e = .returned (.tuple #[.slice A z c, .bool b]) ∧ RdL w' A c ls ∧ Stp w w' := by
  subst hls hz hb
  cases hm : mayC n off
  · rw [putC_no hm]
    refine (rcput_no n hn off hm w).mono ?_
    rintro e w' ⟨rfl, hs⟩
    exact ⟨none, 0, rfl, RdL.nil _, hs⟩
  · rw [putC_yes hm]
    by_cases hl : 100 < n.path.length
    · rw [ahead_putLs (mayC_iff.1 hm).1 hl]
      refine (rcput_long n hn off hm hl w).mono ?_
      rintro e w' ⟨A, c, rfl, hr, hs⟩
      refine ⟨A, c, ?_, hr, hs⟩
      rw [List.length_append, putLs_length, if_pos (ahead_ok (mayC_iff.1 hm).1)]
      rfl
    · rw [aheadC, if_neg hl]
      exact rcput_short n hn off hm (by omega) w
end Go.Proofs.YtopihahjjcpnpaaGreatDoor.Cont
