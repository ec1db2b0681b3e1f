/-
  Package tape's own calls: bytes.Clone, areRecords, May, own: their contracts; no statement is proved here.
-/
import Derived.Test.YtaknnkcfoafkdaaTapeJ
namespace Go.Proofs.Ytaknnkcfoafkdaa.Tape
open Go.RowKit Go.Proofs.Ytaknnkcfoafkdaa.Str Go.Proofs.Ytaknnkcfoafkdaa.Base Go.Proofs.Ytaknnkcfoafkdaa.BlockM Go.Proofs.Ytaknnkcfoafkdaa.RecM Go.Proofs.Ytaknnkcfoafkdaa.TapeM

theorem byte_info3 : (Try.prog.info? 5).map (fun i => (i.zero, i.size, i.bytes)) = some (some (.int .u8 0), 1, 1) := by kernel_rfl
set_option maxRecDepth 100000 in
set_option maxHeartbeats 1000000 in
theorem clone_s (l : L) (n : Nat) (hn : l.length = n) (A : Option Addr) (c : Nat) (w : World) (ha : RdA w A c (bs l)) (hl : n ≤ 100000) :
    Calls Try.prog 53 #[.slice A n c] w fun e w' => ∃ A' c', e = .returned (.slice A' n c') ∧ FrB w' (From w.heap.size) (.slice A' n c') l ∧ Stp w w' := by
  subst hn
  have h0 := Stp.refl w
  have qT : ∀ (w : World) (a : Option Addr) (n c n' c' : Nat), (binOp .eql 25 (.slice a n c) (.slice none n' c')).run Try.prog w = .ok (.bool a.isNone) w := fun w a n c n' c' => Lib.run_eql_slice_nil w _ _ a n c n' c' Try.underlying25
  cases A with
  | none =>
    have hz : l = [] := by
      by_cases hn : bs l = []
      · cases l with
        | nil => rfl
        | cons a b => simp [bs] at hn
      · obtain ⟨A, cap, he, -, hr⟩ := ha
        obtain ⟨b, o, rfl, -⟩ := hr hn
        cases he
    subst hz
    clear ha
    go_enter Try.func53, Try.ntmps53
    go_wp2_with fail
    go_ret
    exact ⟨_, _, rfl, FrB.nil _ _, h0⟩
  | some p =>
    have Ha := Lib.hid ha
    have HO : Hid (Base.Own (w.alloc (.cells #[] 5)) w.heap.size 5 (.slice (some ⟨w.heap.size, 0, none⟩) 0 0) []) := Lib.hid (Base.Own.of_blk (Blk.new w 5 #[]) (Nat.le_refl _) rfl (by unfold maxLen; omega))
    clear ha
    go_enter Try.func53, Try.ntmps53
    go_wp2_with (at_builtin; refine wpList_append_rd (P := Try.prog) _ rfl (.tmp 5) (.tmp 6) 25 rfl w.heap.size 5 (.int .u8 0) 1 Try.underlying25 byte_info3 rfl _ [] rfl HO.out _ _ (bs l) (by show Value.slice _ _ _ = Value.slice _ _ _; rw [bs_length]) (Ha.out.keep (Stp.alloc (Stp.refl w) (.cells #[] 5))) (bs_one l) (by simp only [List.length_nil, bs_length]; unfold maxLen; omega) (by simp only [List.length_nil, bs_length]; omega) (by rw [World.size_alloc]; omega) ?_; intro v' w2 hv hg _; have H2 := Lib.hid (show Stp w w2 from Below.grown (Stp.alloc h0 (.cells #[] 5)) hg (Stp.alloc h0 (.cells #[] 5)).size (fun j hj => (HO.out.lt j hj).1)); rw [List.nil_append] at hv; have HV := Lib.hid (FrB.of_own hv); obtain ⟨A', c', he, -⟩ := HV.out.form; subst he; clear hv hg)
    go_ret
    exact ⟨_, _, rfl, HV.out, H2.out⟩

theorem rmay_n (r : L) (n : Nat) (hn : r.length = n) (A : Option Addr) (c : Nat) (w : World) (hl : n < 9223372036854775808) :
    Calls Try.prog 69 #[.slice A n c] w fun e w' => e = .returned (.bool (mayR r)) ∧ Stp w w' := by
  subst hn
  exact Rec.may_s r A c w hl
set_option maxRecDepth 100000 in
theorem areRecords_s (ls : List L) (A : Option Addr) (c : Nat) (w : World) (ha : RdL w A c ls) (hl : ls.length ≤ 1000000) (he : ∀ l ∈ ls, l.length ≤ 100000) :
    Calls Try.prog 63 #[.slice A ls.length c] w fun e w' => e = .returned (.bool (blocksB ls)) ∧ Stp w w' := by
  obtain ⟨r, hr⟩ : ∃ r, blocksB ls = r := ⟨_, rfl⟩
  rw [hr]
  have Hr := Lib.hid hr
  have He := Lib.hid he
  clear hr he
  go_enter Try.func63, Try.ntmps63
  go_wp2_with fail
  go_loopw [7] (fun i wr => ∃ k : Nat, k ≤ ls.length ∧ i = .int .i64 k ∧ Stp w wr ∧ Hid (∀ x ∈ ls.take k, mayR x = true)) (fun i _ => ls.length - (intOf i).toNat)
  case atStart => exact ⟨0, by omega, rfl, Stp.refl w, Lib.hid (by simp)⟩
  case round =>
    obtain ⟨k, hk, rfl, h0, Hk⟩ := hrel
    by_cases hlt : k < ls.length
    · obtain ⟨l, hl1⟩ : ∃ l, ls[k]? = some l := ⟨_, List.getElem?_eq_getElem hlt⟩
      obtain ⟨b, o, A1, c1, rfl, ca, ra⟩ := (ha.keep h0).at_ hl1
      have hll := He.out l (List.mem_of_getElem? hl1)
      obtain ⟨y, hy⟩ : ∃ y, l.length = y := ⟨_, rfl⟩
      rw [hy] at ca hll
      have Hy := Lib.hid hy
      have Hl1 := Lib.hid hl1
      clear hl1 hy ra
      cases h5 : mayR l
      · have H5 := Lib.hid h5
        clear h5
        go_wp2_with (go_at_call 69; refine (rmay_n l y Hy.out _ _ _ (by omega)).mono ?_; rintro e w' ⟨rfl, hs⟩; replace h0 := Stp.trans h0 hs; clear hs; rw [H5.out])
        go_ret
        refine ⟨?_, h0⟩
        have e : r = false := by
          rw [← Hr.out, Bool.eq_false_iff]
          intro h
          have := blocksB_iff.1 h l (List.mem_of_getElem? Hl1.out)
          rw [H5.out] at this
          cases this
        rw [e]
        rfl
      · have H5 := Lib.hid h5
        clear h5
        go_wp2_with (go_at_call 69; refine (rmay_n l y Hy.out _ _ _ (by omega)).mono ?_; rintro e w' ⟨rfl, hs⟩; replace h0 := Stp.trans h0 hs; clear hs; rw [H5.out])
        go_roundw
        case rel =>
          refine ⟨k + 1, by omega, by go_num, h0, Lib.hid fun x hx => ?_⟩
          rw [List.take_add_one, Hl1.out] at hx
          rcases List.mem_append.1 hx with h | h
          · exact Hk.out x h
          · simp at h
            rw [h, H5.out]
        case measure => simp [intOf]; omega
    · obtain rfl : k = ls.length := by omega
      go_wp2_with fail
      go_ret
      refine ⟨?_, h0⟩
      have h := Hk.out
      rw [List.take_length] at h
      rw [← Hr.out, blocksB_iff.2 h]
      rfl
theorem areRecords_n (ls : List L) (n : Nat) (hn : ls.length = n) (A : Option Addr) (c : Nat) (w : World) (ha : RdL w A c ls) (hl : n ≤ 1000000) (he : ∀ l ∈ ls, l.length ≤ 100000) (b : Bool) (hb : blocksB ls = b) :
    Calls Try.prog 63 #[.slice A n c] w fun e w' => e = .returned (.bool b) ∧ Stp w w' := by
  subst hn hb
  exact areRecords_s ls A c w ha hl he

set_option maxRecDepth 100000 in
set_option maxHeartbeats 1000000 in
theorem tmay_s (c : Int) (ls : List L) (m : Bool) (n : Nat) (hf : FewT ⟨c, ls, m⟩) (hn : ls.length = n) (b : Bool) (hb : mayT ⟨c, ls, m⟩ = b) (A : Option Addr) (k : Nat) (w : World) (ha : RdL w A k ls) :
    Calls Try.prog 52 #[tc c A n k m] w fun e w' => e = .returned (.bool b) ∧ Stp w w' := by
  have h0 := Stp.refl w
  obtain ⟨f1, f2, f3, f4⟩ := hf
  dsimp only at f1 f2 f3 f4
  have hb2 : b = (decide (0 ≤ c) && decide (c ≤ 200) && decide ((n : Int) ≤ c) && blocksB ls) := by rw [← hb, mayT, hn]
  obtain ⟨x1, g1⟩ : ∃ x, decide (0 ≤ c) = x := ⟨_, rfl⟩
  obtain ⟨x2, g2⟩ : ∃ x, decide (c ≤ 200) = x := ⟨_, rfl⟩
  obtain ⟨x3, g3⟩ : ∃ x, decide ((n : Int) ≤ c) = x := ⟨_, rfl⟩
  obtain ⟨x4, g4⟩ : ∃ x, blocksB ls = x := ⟨_, rfl⟩
  rw [g1, g2, g3, g4] at hb2
  subst hb2
  have Ha := Lib.hid ha
  have F4 := Lib.hid f4
  have Hn := Lib.hid hn
  have G4 := Lib.hid g4
  rw [hn] at f3
  clear ha f4 hn g4 hb
  have hp := Stp.alloc h0 (.cells (tcs c A n k m) 41)
  cases x1 <;> cases x2 <;> cases x3
  all_goals
    go_enter Try.func52, Try.ntmps52
    go_wp2_with (go_at_call 63; refine (areRecords_n ls n Hn.out _ _ _ (Ha.out.keep hp) (by omega) F4.out _ G4.out).mono ?_; rintro e w' ⟨rfl, hs⟩; replace h0 := Stp.trans hp hs; clear hs)
    go_ret
    first | exact ⟨rfl, h0⟩ | exact ⟨rfl, hp⟩ | (cases x4 <;> first | exact ⟨rfl, h0⟩ | exact ⟨rfl, hp⟩)

theorem lit_rd (w : World) (e : TypeId) (u : Value) : Rd (w.alloc (.cells #[u] e)) (w.alloc (.cells #[u] e)).heap.size (.slice (some ⟨w.heap.size, 0, none⟩) 1 1) [u] := by
  have h := rd_lit w e u
  rwa [← World.size_alloc w (.cells #[u] e)] at h
theorem fillt_abv {w w1 : World} {S : Nat → Prop} {g : Nat} (h : Abv S w w1) (hg : ¬ S g) (c : Int) (A : Option Addr) (n k : Nat) (m : Bool) : Abv S w (fillT w1 g c A n k m) :=
  Abv.trans h (Abv.trans (Abv.put _ hg _ _) (Abv.trans (Abv.put _ hg _ _) (Abv.put _ hg _ _)))
/-- The tape's block, and that of the result, at a call's beginning. -/
theorem two_blks (w : World) (c : Int) (A : Option Addr) (n k : Nat) (m : Bool) :
    Blk ((w.alloc (.cells (tcs c A n k m) 41)).alloc (.cells zcells 41)) w.heap.size 41 (tcs c A n k m) ∧
    Blk ((w.alloc (.cells (tcs c A n k m) 41)).alloc (.cells zcells 41)) (w.heap.size + 1) 41 (tcs 0 none 0 0 false) ∧
    Stp w ((w.alloc (.cells (tcs c A n k m) 41)).alloc (.cells zcells 41)) ∧
    ((w.alloc (.cells (tcs c A n k m) 41)).alloc (.cells zcells 41)).heap.size = w.heap.size + 2 := by
  have h := Blk.new (w.alloc (.cells (tcs c A n k m) 41)) 41 zcells
  rw [World.size_alloc] at h
  exact ⟨(Blk.new w _ _).alloc _, h, Stp.alloc (Stp.alloc (Stp.refl w) _) _, by rw [World.size_alloc, World.size_alloc]⟩

set_option maxRecDepth 100000 in
set_option maxHeartbeats 1000000 in
theorem own_s (c : Int) (ls : List L) (m : Bool) (n : Nat) (hf : FewT ⟨c, ls, m⟩) (hn : ls.length = n) (A : Option Addr) (k0 : Nat) (w : World) (ha : RdL w A k0 ls) :
    Calls Try.prog 66 #[tc c A n k0 m] w fun e w' => ∃ A' k', e = .returned (tc c A' n k' m) ∧ FRows w' (From w.heap.size) (.slice A' n k') ls ∧ Stp w w' := by
  obtain ⟨f1, f2, f3, f4⟩ := hf
  dsimp only at f1 f2 f3 f4
  rw [hn] at f3
  have F4 := Lib.hid f4
  have Hn := Lib.hid hn
  have Ha := Lib.hid ha
  obtain ⟨b0, b1, hst0, hsz0⟩ := two_blks w c A n k0 m
  obtain ⟨⟨q0, q1, q2⟩, -, p1, -⟩ := tt_all b0
  have B0 := Lib.hid b0
  have B1 := Lib.hid b1
  have H0 := Lib.hid hst0
  have S0 := Lib.hid hsz0
  clear f4 hn ha b0 b1 hst0 hsz0
  go_enter Try.func66, Try.ntmps66
  go_wp2_with fail
  clear q0 q1 q2 p1
  go_loopw [3, 9] (fun v i wr => ∃ k : Nat, k ≤ n ∧ i = .int .i64 k ∧ Hid (FRows wr (From (w.heap.size + 2)) v (ls.take k)) ∧ Hid (Stp ((w.alloc (.cells (tcs c A n k0 m) 41)).alloc (.cells zcells 41)) wr)) (fun _ i _ => n - (intOf i).toNat)
  case atStart => exact ⟨0, by omega, rfl, Lib.hid (by rw [List.take_zero]; exact FRows.nil _ _), Lib.hid (Stp.refl _)⟩
  case round =>
    obtain ⟨k, hk, rfl, HR, HS⟩ := hrel
    by_cases hlt : k < n
    · obtain ⟨l, hl1⟩ : ∃ l, ls[k]? = some l := ⟨_, List.getElem?_eq_getElem (by rw [Hn.out]; exact hlt)⟩
      obtain ⟨b, o, A1, c1, rfl, ca, ra⟩ := (Ha.out.keep (Stp.trans H0.out HS.out)).at_ hl1
      have hll := F4.out l (List.mem_of_getElem? hl1)
      obtain ⟨y, hy⟩ : ∃ y, l.length = y := ⟨_, rfl⟩
      rw [hy] at ca hll
      have Hy := Lib.hid hy
      have Hl1 := Lib.hid hl1
      have Ra := Lib.hid ra
      clear hl1 hy ra
      go_wp2_with (first
        | (go_at_call 53; refine (clone_s l y Hy.out _ _ _ Ra.out hll).mono ?_; rintro e w1 ⟨A2, c2, rfl, hu, hs⟩; have HU := Lib.hid (hu.less (fun b _ hb => Nat.le_trans (Nat.le_trans (Nat.le_of_eq S0.out.symm) HS.out.size) hb)); have HS1 := Lib.hid (Stp.trans HS.out hs); have HR1 := Lib.hid (HR.out.keep hs); have HSa := Lib.hid (Stp.alloc (Stp.refl w1) (.cells #[.slice A2 y c2] 25)); clear hu hs ca)
        | (at_builtin; go_loud (refine wpList_append_push (S := From (w.heap.size + 2)) rfl (.tmp 13) (.tmp 16) rfl rfl (HR1.out.keep HSa.out) rfl (HU.out.abv (Abv.of_stp HSa.out)) (lit_rd _ _ _) (by rw [List.length_take]; omega) (by have h1 := S0.out; have h2 := HS1.out.size; have h3 := HSa.out.size; show w.heap.size + 2 ≤ _; omega) ?_; intro v' w3 hR hg _; have HR3 := Lib.hid hR; have HS3 := Lib.hid ((HR1.out.keep HSa.out).stp (Stp.trans HS1.out HSa.out) (fun b hb => Nat.le_trans (Nat.le_of_eq S0.out) hb) hg); clear hR hg)))
      go_roundw
      case rel =>
        refine ⟨k + 1, by omega, by go_num, Lib.hid ?_, HS3⟩
        rw [List.take_add_one, Hl1.out]
        exact HR3.out
      case measure => simp [intOf]; omega
    · obtain rfl : k = n := by omega
      have e : ls.take k = ls := List.take_of_length_le (by rw [Hn.out]; exact Nat.le_refl _)
      rw [e] at HR
      obtain ⟨A', k', rfl, -⟩ := HR.out.form
      have hb0 := B0.out.keep HS.out B0.out.lt
      have hb1 := B1.out.keep HS.out B1.out.lt
      obtain ⟨⟨q0, q1, q2⟩, p0, p1, p2⟩ := tt_all hb0
      obtain ⟨⟨r0, r1, r2⟩, s0, s1, s2⟩ := tt_all hb1
      go_wp2_with fail
      have hne : w.heap.size + 1 ≠ w.heap.size := by omega
      have hf := fillt_blk c A' ls.length k' m (hb1.far (p := ⟨w.heap.size, 1, none⟩) hne (.slice A' ls.length k'))
      have hR := HR.out.abv (fillt_abv (Abv.put (S := From (w.heap.size + 2)) wr (g := w.heap.size) (by show ¬ w.heap.size + 2 ≤ _; omega) 1 (.slice A' ls.length k')) (g := w.heap.size + 1) (by show ¬ w.heap.size + 2 ≤ _; omega) c A' ls.length k' m)
      have hst := fillt_stp c A' ls.length k' m (show Stp w _ from Below.setCell (Stp.trans H0.out HS.out) (p := ⟨w.heap.size, 1, none⟩) (Nat.le_refl _) (.slice A' ls.length k')) (g := w.heap.size + 1) (by omega)
      change bodyPost _ _ _ _ _ (fillT (wr.setCell ⟨w.heap.size, 1, none⟩ (.slice A' ls.length k')) (w.heap.size + 1) c A' ls.length k' m)
      generalize fillT (wr.setCell ⟨w.heap.size, 1, none⟩ (.slice A' ls.length k')) (w.heap.size + 1) c A' ls.length k' m = W at hf hR hst ⊢
      clear q0 q1 q2 p0 p1 p2 r0 r1 r2 s0 s1 s2
      obtain ⟨⟨q0, q1, q2⟩, -, -, -⟩ := tt_all hf
      refine bodyPost_ret (v := tc c A' ls.length k' m) (by simp [results, Try.results66, go_sem, *]) rfl ⟨A', k', by rw [Hn.out], ?_, hst⟩
      rw [Hn.out] at hR
      exact hR.less (fun b _ (hb : w.heap.size + 2 ≤ b) => show w.heap.size ≤ b by omega)
end Go.Proofs.Ytaknnkcfoafkdaa.Tape
