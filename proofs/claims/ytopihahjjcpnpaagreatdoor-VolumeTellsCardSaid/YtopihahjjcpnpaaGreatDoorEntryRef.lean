/-
  The document's own answers for package long: no statement is proved here.
  The document's own answers for package entry: no statement is proved here.
-/
import Derived.Test.YtopihahjjcpnpaaGreatDoorLongK
import Derived.Test.YtopihahjjcpnpaaGreatDoorHeadRef6
import Derived.Test.YtopihahjjcpnpaaGreatDoorBlockRef
import Derived.Test.YtopihahjjcpnpaaGreatDoorPathRef
import Derived.Test.YtopihahjjcpnpaaGreatDoorEntryI
import Derived.Test.YtopihahjjcpnpaaGreatDoorTreeOne
namespace Go.Proofs.YtopihahjjcpnpaaGreatDoor.Long
open Go.RowKit Go.Proofs.YtopihahjjcpnpaaGreatDoor.Str Go.Proofs.YtopihahjjcpnpaaGreatDoor.Base Go.Proofs.YtopihahjjcpnpaaGreatDoor.Node Go.Proofs.YtopihahjjcpnpaaGreatDoor.Head

theorem put_le2 (k : UInt8) (s : L) : (putLs k s).length ≤ 2 := by rw [putLs_length]; split <;> omega
theorem rput_v (h : Hd) (v : Value) (e : v = hv h) (hs : SmallH h) (w : World) :
    Calls Tryz.prog 73 #[v] w fun e w' => ∃ A cap, e = .returned (.tuple #[.slice A (putB h).length cap, .bool (mayH h)]) ∧ RdA w' A cap (bs (putB h)) ∧ Stp w w' := by
  subst e
  exact rputH_s h hs w
theorem rcut_v (s : L) (v : ByteArray) (e : v = ⟨s.toArray⟩) (ls : List L) (h : BlockM.cutV s = ls) (n : Nat) (hn : ls.length = n) (w : World) (hs : s.length ≤ 1000000) :
    Calls Tryz.prog 101 #[.string v] w fun e w' => ∃ A cap, e = .returned (.slice A n cap) ∧ RdL w' A cap ls ∧ Stp w w' := by
  subst e h hn
  exact Block.rcut_s s w hs
set_option maxRecDepth 100000 in
theorem zero_cv (w : World) : (convert 43 9 (.slice (some ⟨w.heap.size, 0, none⟩) 1 1)).run Tryz.prog (w.alloc (.cells #[.int .u8 0] 5)) = .ok (.string ⟨#[0]⟩) (w.alloc (.cells #[.int .u8 0] 5)) := by
  have h : RdA (w.alloc (.cells #[.int .u8 0] 5)) (some ⟨w.heap.size, 0, none⟩) 1 (bs [0]) := by
    have := rd_lit w 5 (.int .u8 0)
    unfold RdA
    rw [World.size_alloc]
    exact this
  exact Block.str_rd h

set_option maxRecDepth 100000 in
set_option maxHeartbeats 2000000 in
theorem rlput_s (k : UInt8) (s : L) (w : World) (hs : s.length ≤ 900000) :
    Calls Tryz.prog 78 #[.int .u8 (k.toNat : Int), .string ⟨s.toArray⟩] w fun e w' => ∃ A cap, e = .returned (.tuple #[.slice A (putLs k s).length cap, .bool (putOkL k s)]) ∧ RdL w' A cap (putLs k s) ∧ Stp w w' := by
  have h0 := Stp.refl w
  obtain ⟨t, ht⟩ : ∃ t, textL s = t := ⟨_, rfl⟩
  have Ht := Lib.hid ht
  clear ht
  have Hsz := Lib.hid hs
  have hadd := add_ll s [0] (by simp; omega)
  go_enter Tryz.func78, Tryz.ntmps78
  go_wp2_with (first
    | (go_at_call 96; refine (rtext_s s (by omega) _).mono ?_; rintro e w1 ⟨rfl, hs1⟩; have H1 := Lib.hid (Stp.trans h0 hs1); clear hs1; rw [Ht.out]; rcases t)
    | (go_at_call 73; (have Hok := Lib.hid (ok_of (k := k) Ht.out rfl (by first | (left; assumption) | (rcases ‹((k.toNat : Int) != 75) = false ∨ ((k.toNat : Int) != 76) = false› with q | q <;> simp at q <;> omega))); (with_reducible refine (rput_v (llH k s) _ (llH_v k s _ (by omega)) (llH_small (by have := Hsz.out; omega)) _).mono ?_); rintro e w2 ⟨A2, c2, rfl, hr, hs2⟩; rw [putB_yes (llH_may Hok.out)] at hr; rw [putB_yes (llH_may Hok.out), blk_length (llH_may Hok.out) (llH_small (by have := Hsz.out; omega))]; rw [llH_may Hok.out]; have Hr := Lib.hid hr; have H2 := Lib.hid (Stp.trans H1.out hs2); have hcv := zero_cv (w2.alloc (.cells #[.slice A2 512 c2] 43)); rw [World.size_alloc] at hcv; clear hr hs2))
    | (go_at_call 101; (with_reducible refine (rcut_v (s ++ [0]) _ rfl [BlockM.blk (s ++ [0])] (cut_long (putOkL_iff.1 Hok.out).2) 1 rfl _ (by have := Hsz.out; simp; omega)).mono ?_); rintro e w3 ⟨A3, c3, rfl, hr3, hs3⟩; have Hr3 := Lib.hid hr3; have hs4 := Stp.trans (Stp.alloc (Stp.refl (w2.alloc (.cells #[.slice A2 512 c2] 43))) (.cells #[.int .u8 0] 5)) hs3; have HR := Lib.hid ((Base.Rows.one (e := 43) Hr.out (blk_length (llH_may Hok.out) (llH_small (by have := Hsz.out; omega)))).keep hs4); have H3 := Lib.hid (Stp.trans (Stp.alloc H2.out (.cells #[.slice A2 512 c2] 43)) hs4); have h23 := H2.out.size; have h32 := hs4.size; rw [World.size_alloc] at h32; clear hr3 hs3 hs4 hcv)
    | (at_builtin; refine Base.wpList_append_rows (P := Tryz.prog) rfl (.tmp 33) (.tmp 38) 33 rfl 43 Tryz.underlying33 slices_info _ rfl HR.out rfl Hr3.out rfl (by simp) (by omega) ?_; intro v' w4 hR4 hg4; have H4 := Lib.hid (HR.out.stp H3.out h23 hg4); obtain ⟨A4, c4, rfl, hL4⟩ := hR4.rdL; have HL4 := Lib.hid hL4; clear hR4 hg4 hL4))
  all_goals go_ret2
  all_goals first
    | (rw [putLs_yes Hok.out, Hok.out]; exact ⟨A4, c4, rfl, HL4.out, H4.out⟩)
    | (rw [putLs_no (no_of Ht.out rfl), no_of Ht.out rfl]; exact ⟨none, 0, rfl, RdL.nil _, H1.out⟩)
    | (have hno := no_of2 (k := k) (s := s) (by assumption) (by simpa using (‹((k.toNat : Int) != 75) = true ∧ ((k.toNat : Int) != 76) = true›).2); rw [putLs_no hno, hno]; exact ⟨none, 0, rfl, RdL.nil _, H1.out⟩)
theorem rlput_v (k : UInt8) (kk : Int) (hk : kk = (k.toNat : Int)) (s : L) (w : World) (hs : s.length ≤ 900000) :
    Calls Tryz.prog 78 #[.int .u8 kk, .string ⟨s.toArray⟩] w fun e w' => ∃ A cap, e = .returned (.tuple #[.slice A (putLs k s).length cap, .bool (putOkL k s)]) ∧ RdL w' A cap (putLs k s) ∧ Stp w w' := by
  subst hk
  exact rlput_s k s w hs

set_option maxRecDepth 100000 in
set_option maxHeartbeats 2000000 in
theorem rneeds_s (n : Nd) (hn : SmallN n) (w : World) :
    Calls Tryz.prog 141 #[nv n] w fun e w' => e = .returned (.tuple #[.bool (needN n), .bool (needL n)]) ∧ Stp w w' := by
  have h0 := Stp.refl w
  have Hp := Lib.hid hn.path
  have Hb0 := Lib.hid (Blk.new w 52 (ncells n))
  have H0 := Lib.hid (Stp.alloc h0 (.cells (ncells n) 52))
  obtain ⟨q0, q1, q2, q3, q4, q5, q6, q7⟩ := nd_cells Hb0.out
  obtain ⟨m, hm⟩ : ∃ m, PathM.mayB n.path = m := ⟨_, rfl⟩
  obtain ⟨b, hb⟩ : ∃ m, PathM.splB n.path = m := ⟨_, rfl⟩
  have hN : needN n = (m && !b) := by rw [← hm, ← hb]; rfl
  rw [needL_is, hN]
  have Hm := Lib.hid hm
  have Hb := Lib.hid hb
  clear hm hb hN hn
  go_enter Tryz.func141, Tryz.ntmps141
  go_wp2_with (first
    | (go_at_call 95; refine (Path.rmay_s n.path _ Hp.out).mono ?_; rintro e w1 ⟨rfl, hs⟩; rw [Hm.out]; have Hb1 := Lib.hid (Hb0.out.keep hs Hb0.out.lt); have H1 := Lib.hid (Stp.trans H0.out hs); clear hs q0 q1 q2 q3 q4 q5 q6 q7; obtain ⟨q0, q1, -⟩ := nd_cells Hb1.out)
    | (go_at_call 172; refine (Path.rsplit_s n.path _ Hp.out).mono ?_; rintro e w2 ⟨rfl, hs⟩; rw [Hb.out]; have Hb2 := Lib.hid (Hb1.out.keep hs Hb1.out.lt); have H2 := Lib.hid (Stp.trans H1.out hs); clear hs q0 q1; obtain ⟨q0, q1, -⟩ := nd_cells Hb2.out))
  cases m
  all_goals
    go_quiet (fail)
    go_wp2_with fail
    go_ret2
    exact ⟨rfl, H2.out.drewN _⟩

set_option maxRecDepth 100000 in
theorem rshort_q (s : L) (w : World) (hs : s.length ≤ 9223372036854775807) :
    Calls Tryz.prog 171 #[.string ⟨s.toArray⟩] w fun e w' => e = .returned (.string ⟨(s.take 100).toArray⟩) ∧ w' = w := by
  by_cases h : s.length ≤ 100
  · have g : decide ((100 : Int) < (s.length : Int)) = false := decide_eq_false (by omega)
    rw [List.take_of_length_le h]
    clear h
    go_enter Tryz.func171, Tryz.ntmps171
    go_wp2_with fail
    go_ret
    exact ⟨rfl, rfl⟩
  · have g : decide ((100 : Int) < (s.length : Int)) = true := decide_eq_true (by omega)
    have hc : ∀ w, (Instr.slice 9 (.string ⟨s.toArray⟩) none (some (.int .i64 100)) none).run Tryz.prog w = .ok (.string ⟨(s.take 100).toArray⟩) w := cut_h s 100 (by omega)
    clear h
    go_enter Tryz.func171, Tryz.ntmps171
    go_wp2_with fail
    go_ret
    exact ⟨rfl, rfl⟩

set_option maxRecDepth 100000 in
set_option maxHeartbeats 2000000 in
theorem rnames_s (n : Nd) (hn : SmallN n) (w : World) :
    Calls Tryz.prog 140 #[nv n] w fun e w' => e = .returned (.tuple #[.string ⟨(nameV n).toArray⟩, .string ⟨(preV n).toArray⟩, .string ⟨(linkV n).toArray⟩]) ∧ Stp w w' := by
  have h0 := Stp.refl w
  have Hn := Lib.hid hn
  have Hb0 := Lib.hid (Blk.new w 52 (ncells n))
  have H0 := Lib.hid (Stp.alloc h0 (.cells (ncells n) 52))
  obtain ⟨q0, q1, q2, q3, q4, q5, q6, q7⟩ := nd_cells Hb0.out
  cases hnn : needN n
  · have e1 : nameV n = (PathM.splV n.path).2 := by unfold nameV; rw [hnn]; simp
    rw [e1]
    have Hnn := Lib.hid hnn
    clear hnn e1 hn
    go_enter Tryz.func140, Tryz.ntmps140
    go_wp2_with (first
      | (go_at_call 141; refine (rneeds_s n Hn.out _).mono ?_; rintro e w1 ⟨rfl, hs⟩; rw [Hnn.out]; have Hb1 := Lib.hid (Hb0.out.keep hs Hb0.out.lt); have H1 := Lib.hid (Stp.trans H0.out hs); clear hs q0 q1 q2 q3 q4 q5 q6 q7; obtain ⟨q0, q1, -⟩ := nd_cells Hb1.out)
      | (go_at_call 172; refine (Path.rsplit_s n.path _ Hn.out.path).mono ?_; rintro e w2 ⟨rfl, hs⟩; have Hb2 := Lib.hid (Hb1.out.keep hs Hb1.out.lt); have H2 := Lib.hid (Stp.trans H1.out hs); clear hs q0 q1; obtain ⟨q0, q1, -⟩ := nd_cells Hb2.out)
      | (go_at_call 171; refine (rshort_q n.link _ Hn.out.link).mono ?_; rintro e w3 ⟨rfl, rfl⟩))
    go_ret3
    exact ⟨rfl, H2.out⟩
  · have e1 : nameV n = n.path.take 100 := by unfold nameV; rw [hnn]; simp
    have e2 : preV n = [] := by unfold preV; rw [(needN_facts hnn).2.2.2]
    rw [e1, e2]
    have Hnn := Lib.hid hnn
    clear hnn e1 e2 hn
    go_enter Tryz.func140, Tryz.ntmps140
    go_wp2_with (go_at_call 141; refine (rneeds_s n Hn.out _).mono ?_; rintro e w1 ⟨rfl, hs⟩; rw [Hnn.out]; have Hb1 := Lib.hid (Hb0.out.keep hs Hb0.out.lt); have H1 := Lib.hid (Stp.trans H0.out hs); clear hs q0 q1 q2 q3 q4 q5 q6 q7; obtain ⟨q0, q1, -⟩ := nd_cells Hb1.out)
    go_quiet (first | (go_at_call 171; (with_reducible exact Calls.quiet_of_same (rshort_q n.path _ Hn.out.path))) | (go_at_call 171; (with_reducible exact Calls.quiet_of_same (rshort_q n.link _ Hn.out.link))))
    go_wp2_with fail
    go_ret3
    exact ⟨rfl, H1.out.drewN _⟩

theorem ahead_keep {w1 w2 : World} {e t : TypeId} {cs : Array Value} {g : Nat} {v : Value} {ls : List L} {lo : Nat} (h : Base.Rows w1 lo e v ls) (hb : Blk w1 g t cs) (hg : w1.grownBy w2 v.ownBlock) (hne : t ≠ e := by decide) : Blk w2 g t cs := by
  obtain ⟨us, ho, _⟩ := h
  exact hb.grown hg (Block.blk_not_own hb hne ho)
set_option maxRecDepth 100000 in
set_option linter.unusedSimpArgs false in
set_option maxHeartbeats 4000000 in
theorem rahead_r (n : Nd) (hn : SmallN n) (hp : n.path.length ≤ 900000) (hk : n.link.length ≤ 900000) (w : World) :
    Calls Tryz.prog 100 #[nv n] w fun e w' => ∃ v, e = .returned v ∧ Base.Rows w' w.heap.size 43 v (aheadV n) ∧ Stp w w' := by
  have h0 := Stp.refl w
  have Hn := Lib.hid hn
  have Hp := Lib.hid hp
  have Hk := Lib.hid hk
  have Hb0 := Lib.hid (Blk.new w 52 (ncells n))
  have H0 := Lib.hid (Stp.alloc h0 (.cells (ncells n) 52))
  obtain ⟨q0, q1, q2, q3, q4, q5, q6, q7⟩ := nd_cells Hb0.out
  obtain ⟨bl, hbl⟩ : ∃ b, needL n = b := ⟨_, rfl⟩
  obtain ⟨bn, hbn⟩ : ∃ b, needN n = b := ⟨_, rfl⟩
  have ha : aheadV n = (if bl = true then putLs 75 n.link else []) ++ (if bn = true then putLs 76 n.path else []) := by rw [← hbl, ← hbn]; rfl
  obtain ⟨AA, hA⟩ : ∃ x, aheadV n = x := ⟨_, rfl⟩
  rw [hA] at ha ⊢
  have Ha := Lib.hid ha
  have Hbl := Lib.hid hbl
  have Hbn := Lib.hid hbn
  have hp1 := put_le2 75 n.link
  have hp2 := put_le2 76 n.path
  have Hp1 := Lib.hid hp1
  have Hp2 := Lib.hid hp2
  have HR := Lib.hid (Base.Rows.nil w w.heap.size 43)
  clear ha hbl hbn hA hn hp hk hp1 hp2
  go_enter Tryz.func100, Tryz.ntmps100
  go_wp2_with (first
    | (go_at_call 141; refine (rneeds_s n Hn.out _).mono ?_; rintro e w1 ⟨rfl, hs⟩; rw [Hbl.out, Hbn.out]; have Hb := Lib.hid (Hb0.out.keep hs Hb0.out.lt); have H := Lib.hid (Stp.trans H0.out hs); replace HR := Lib.hid (Base.Rows.nil w1 w.heap.size 43); clear hs q0 q1 q2 q3 q4 q5 q6 q7; obtain ⟨q0, q1, -⟩ := nd_cells Hb.out; rcases bl <;> rcases bn)
    | (go_at_call 78; ((with_reducible refine (rlput_v 75 _ e75 n.link _ Hk.out).mono ?_); rintro e w2 ⟨A2, c2, rfl, hr, hs⟩; replace Hb := Lib.hid (Hb.out.keep hs Hb.out.lt); replace H := Lib.hid (Stp.trans H.out hs); replace HR := Lib.hid (HR.out.keep hs); have Hr := Lib.hid hr; clear hs hr q0 q1; obtain ⟨q0, q1, -⟩ := nd_cells Hb.out))
    | (go_at_call 78; (with_reducible refine (rlput_v 76 _ e76 n.path _ Hp.out).mono ?_); rintro e w3 ⟨A3, c3, rfl, hr, hs⟩; replace H := Lib.hid (Stp.trans H.out hs); replace HR := Lib.hid (HR.out.keep hs); have Hr := Lib.hid hr; clear hs hr q0 q1)
    | (at_builtin; refine Base.wpList_append_rows (P := Tryz.prog) rfl (.tmp 22) (.tmp 23) 33 rfl 43 Tryz.underlying33 slices_info _ rfl HR.out rfl Hr.out rfl (by have := Hp1.out; simp only [List.length_nil]; omega) H.out.size ?_; intro v' w7 hR hg; replace Hb := Lib.hid (ahead_keep HR.out Hb.out hg); replace H := Lib.hid (HR.out.stp H.out (Nat.le_refl _) hg); replace HR := Lib.hid hR; clear hR hg Hr q0 q1; obtain ⟨q0, q1, -⟩ := nd_cells Hb.out)
    | (at_builtin; refine Base.wpList_append_rows (P := Tryz.prog) rfl (.tmp 32) (.tmp 33) 33 rfl 43 Tryz.underlying33 slices_info _ rfl HR.out rfl Hr.out rfl (by have := Hp1.out; have := Hp2.out; simp only [List.length_nil, List.length_append]; omega) H.out.size ?_; intro v' w7 hR hg; replace H := Lib.hid (HR.out.stp H.out (Nat.le_refl _) hg); replace HR := Lib.hid hR; clear hR hg))
  all_goals
    have ha2 := Ha.out
    have hR9 := HR.out
    simp only [Bool.false_eq_true, if_false, if_true, List.nil_append, List.append_nil] at ha2
    (try simp only [List.nil_append] at hR9)
    rw [← ha2] at hR9
    have HR9 := Lib.hid hR9
    clear hR9 ha2
    go_ret
    exact ⟨_, rfl, HR9.out, H.out⟩
theorem rahead_s (n : Nd) (hn : SmallN n) (hp : n.path.length ≤ 900000) (hk : n.link.length ≤ 900000) (w : World) :
    Calls Tryz.prog 100 #[nv n] w fun e w' => ∃ A cap, e = .returned (.slice A (aheadV n).length cap) ∧ RdL w' A cap (aheadV n) ∧ Stp w w' := by
  refine (rahead_r n hn hp hk w).mono ?_
  rintro e w' ⟨v, rfl, hr, hs⟩
  obtain ⟨A, cap, rfl, hL⟩ := hr.rdL
  exact ⟨A, cap, rfl, hL, hs⟩
end Go.Proofs.YtopihahjjcpnpaaGreatDoor.Long

namespace Go.Proofs.YtopihahjjcpnpaaGreatDoor.Entry
open Go.RowKit Go.Proofs.YtopihahjjcpnpaaGreatDoor.Str Go.Proofs.YtopihahjjcpnpaaGreatDoor.Base Go.Proofs.YtopihahjjcpnpaaGreatDoor.Node Go.Proofs.YtopihahjjcpnpaaGreatDoor.Head Go.Proofs.YtopihahjjcpnpaaGreatDoor.Long
open Go.Proofs.YtopihahjjcpnpaaGreatDoor.Tree (oneB)

set_option maxRecDepth 100000 in
set_option maxHeartbeats 4000000 in
theorem rehead_s (n : Nd) (hn : SmallN n) (w : World) :
    Calls Tryz.prog 99 #[nv n] w fun e w' => e = .returned (.tuple #[hv (headV n), .bool (oneB n)]) ∧ Stp w w' := by
  have h1 := Stp.alloc (Stp.refl w) (.cells (ncells n) 52)
  have h0 := Stp.alloc h1 (.cells (hcells zeroH) 76)
  have hw1 := h1.size
  have Hn := Lib.hid hn
  have Hb := Lib.hid ((Blk.new w 52 (ncells n)).alloc (.cells (hcells zeroH) 76))
  obtain ⟨gz, hgz⟩ : ∃ x, (w.alloc (.cells (ncells n) 52)).heap.size = x := ⟨_, rfl⟩
  have Hz0 := Blk.new (w.alloc (.cells (ncells n) 52)) 76 (hcells zeroH)
  rw [hgz] at Hz0 hw1
  have Hz := Lib.hid Hz0
  obtain ⟨q0, q1, q2, q3, q4, q5, q6, q7⟩ := nd_cells (Blk.new w 52 (ncells n))
  clear hn Hz0 h1
  cases ho : oneB n
  · rw [headV_no ho]
    have Ho := Lib.hid ho
    clear ho
    go_enter Tryz.func99, Tryz.ntmps99
    go_wp2_with (go_at_call 61; go_loud ((with_reducible refine (Tree.rone_s n Hn.out _).mono ?_); rintro e w1 ⟨rfl, hs⟩; rw [Ho.out]; replace h0 := Stp.trans h0 hs; replace Hz := Lib.hid (Hz.out.keep hs Hz.out.lt); clear hs q0 q1 q2 q3 q4 q5 q6 q7; obtain ⟨⟨z0, z1, z2, z3, z4, z5, z6, z7, z8, z9, z10⟩, y0, y1, y2, y3, y4, y5, y6, y7, y8, y9, y10⟩ := zy Hz.out))
    have hf := fill_blk zeroH Hz.out
    have hst := fill_stp zeroH h0 hw1
    change bodyPost _ _ _ _ _ (fillW w1 gz zeroH)
    generalize fillW w1 gz zeroH = W at hf hst ⊢
    clear z0 z1 z2 z3 z4 z5 z6 z7 z8 z9 z10 y0 y1 y2 y3 y4 y5 y6 y7 y8 y9 y10
    obtain ⟨z0, z1, z2, z3, z4, z5, z6, z7, z8, z9, z10⟩ := hd_cells hf
    refine bodyPost_ret (v := .tuple #[hv zeroH, .bool false]) (by simp [results, Tryz.results99, go_sem, *]) rfl ⟨rfl, hst⟩
  · rw [headV_yes ho]
    have Ho := Lib.hid ho
    clear ho
    go_enter Tryz.func99, Tryz.ntmps99
    go_wp2_with (first
      | (go_at_call 61; go_loud ((with_reducible refine (Tree.rone_s n Hn.out _).mono ?_); rintro e w1 ⟨rfl, hs⟩; rw [Ho.out]; replace Hb := Lib.hid (Hb.out.keep hs Hb.out.lt); replace h0 := Stp.trans h0 hs; replace Hz := Lib.hid (Hz.out.keep hs Hz.out.lt); clear hs q0 q1 q2 q3 q4 q5 q6 q7; obtain ⟨q0, q1, q2, q3, q4, q5, q6, q7⟩ := nd_cells Hb.out))
      | (go_at_call 140; go_loud ((with_reducible refine (rnames_s n Hn.out _).mono ?_); rintro e w2 ⟨rfl, hs⟩; replace Hb := Lib.hid (Hb.out.keep hs Hb.out.lt); replace h0 := Stp.trans h0 hs; replace Hz := Lib.hid (Hz.out.keep hs Hz.out.lt); clear hs q0 q1 q2 q3 q4 q5 q6 q7; obtain ⟨q0, q1, q2, q3, q4, q5, q6, q7⟩ := nd_cells Hb.out; obtain ⟨⟨z0, z1, z2, z3, z4, z5, z6, z7, z8, z9, z10⟩, y0, y1, y2, y3, y4, y5, y6, y7, y8, y9, y10⟩ := zy Hz.out)))
    have hf := fill_blk (headE n) Hz.out
    have hst := fill_stp (headE n) h0 hw1
    change bodyPost _ _ _ _ _ (fillW w2 gz (headE n))
    generalize fillW w2 gz (headE n) = W at hf hst ⊢
    clear z0 z1 z2 z3 z4 z5 z6 z7 z8 z9 z10 y0 y1 y2 y3 y4 y5 y6 y7 y8 y9 y10
    obtain ⟨z0, z1, z2, z3, z4, z5, z6, z7, z8, z9, z10⟩ := hd_cells hf
    refine bodyPost_ret (v := .tuple #[hv (headE n), .bool true]) (by simp [results, Tryz.results99, go_sem, *]) rfl ⟨rfl, hst⟩

theorem rput_v (h : Hd) (v : Value) (e : v = hv h) (hs : SmallH h) (w : World) :
    Calls Tryz.prog 73 #[v] w fun e w' => ∃ A cap, e = .returned (.tuple #[.slice A (putB h).length cap, .bool (mayH h)]) ∧ RdA w' A cap (bs (putB h)) ∧ Stp w w' := by
  subst e
  exact rputH_s h hs w
theorem rcut_v (s : L) (v : ByteArray) (e : v = ⟨s.toArray⟩) (ls : List L) (h : BlockM.cutV s = ls) (n : Nat) (hn : ls.length = n) (w : World) (hs : s.length ≤ 1000000) :
    Calls Tryz.prog 101 #[.string v] w fun e w' => ∃ A cap, e = .returned (.slice A n cap) ∧ RdL w' A cap ls ∧ Stp w w' := by
  subst e h hn
  exact Block.rcut_s s w hs
theorem lit_rr {w : World} {A : Option Addr} {n cap : Nat} {l : L} {e : TypeId} (h : RdA w A cap (bs l)) (hn : l.length = n) : RdL (w.alloc (.cells #[.slice A n cap] e)) (some ⟨w.heap.size, 0, none⟩) 1 [l] := by
  obtain ⟨A', c', he, hL⟩ := (Rows.one (e := e) h hn).rdL
  cases he
  exact hL
theorem blk_past {w w' : World} {lo g : Nat} {e t : TypeId} {v : Value} {ls : List L} {cs : Array Value} (hr : Base.Rows w lo e v ls) (h : Blk w g t cs) (hg : w.grownBy w' v.ownBlock) (hl : g < lo) : Blk w' g t cs := by
  obtain ⟨us, h1, _, _, _⟩ := hr
  exact h.grown hg (fun q => by
    have := (h1.lt g q.symm).1
    omega)

set_option maxRecDepth 100000 in
set_option maxHeartbeats 4000000 in
theorem reput_s (n : Nd) (hn : SmallN n) (w : World) :
    Calls Tryz.prog 64 #[nv n] w fun e w' => ∃ A cap, e = .returned (.tuple #[.slice A (putE n).length cap, .bool (oneB n)]) ∧ RdL w' A cap (putE n) ∧ Stp w w' := by
  have h0 := Stp.alloc (Stp.refl w) (.cells (ncells n) 52)
  have Hn := Lib.hid hn
  have Hb := Lib.hid (Blk.new w 52 (ncells n))
  obtain ⟨q0, q1, q2, q3, q4, q5, q6, q7⟩ := nd_cells Hb.out
  clear hn
  cases ho : oneB n
  · rw [putE_no ho]
    have Ho := Lib.hid ho
    have Hz := Lib.hid (headV_no ho)
    clear ho
    go_enter Tryz.func64, Tryz.ntmps64
    go_wp2_with (go_at_call 99; (with_reducible refine (rehead_s n Hn.out _).mono ?_); rintro e w1 ⟨rfl, hs⟩; rw [Ho.out, Hz.out]; replace h0 := Stp.trans h0 hs; clear hs)
    go_ret2
    exact ⟨none, 0, rfl, RdL.nil _, Stp.alloc h0 _⟩
  · have Ho := Lib.hid ho
    have Hz := Lib.hid (headV_yes ho)
    have hP := putE_yes ho
    obtain ⟨P, hPP⟩ : ∃ P, putE n = P := ⟨_, rfl⟩
    rw [hPP] at hP ⊢
    have h4 : (aheadV n).length ≤ 4 := by rw [ahead_length ho]; split <;> split <;> omega
    have h8 : (BlockM.cutV n.data).length ≤ 8 := by rw [BlockM.cutV_length]; exact BlockM.manyN_small (by have := (oneF ho).data; omega)
    obtain ⟨AA, hA⟩ : ∃ x, aheadV n = x := ⟨_, rfl⟩
    obtain ⟨CC, hC⟩ : ∃ x, BlockM.cutV n.data = x := ⟨_, rfl⟩
    obtain ⟨B, hB⟩ : ∃ x, blk (headE n) = x := ⟨_, rfl⟩
    have hBl : B.length = 512 := by rw [← hB]; exact blk_length (head_may ho) (head_small ho)
    rw [hA, hC, hB] at hP
    rw [hA] at h4
    rw [hC] at h8
    have HP := Lib.hid (show (AA ++ [B]) ++ CC = P by rw [hP]; simp)
    have H4 := Lib.hid h4
    have H8 := Lib.hid h8
    have HA := Lib.hid hA
    have HC := Lib.hid hC
    have HB := Lib.hid ((putB_yes (head_may ho)).trans hB)
    have HBl := Lib.hid hBl
    have Hm := Lib.hid (head_may ho)
    have Hsm := Lib.hid (head_small ho)
    have Hd := Lib.hid (show n.data.length ≤ 1000000 by have := (oneF ho).data; omega)
    have Hp := Lib.hid (show n.path.length ≤ 900000 by have := (PathM.mayB_iff.1 (oneF ho).path).2.1; omega)
    have Hk := Lib.hid (show n.link.length ≤ 900000 by
      rcases (oneF ho).link with e | e
      · rw [e]; simp
      · have := (textL_iff.1 e).2.1
        omega)
    clear ho hP hPP hA hC hB hBl h4 h8
    go_enter Tryz.func64, Tryz.ntmps64
    go_wp2_with (first
      | (go_at_call 99; (with_reducible refine (rehead_s n Hn.out _).mono ?_); rintro e w1 ⟨rfl, hs⟩; rw [Ho.out, Hz.out]; replace Hb := Lib.hid (Hb.out.keep hs Hb.out.lt); replace h0 := Stp.trans h0 hs; clear hs q0 q1 q2 q3 q4 q5 q6 q7)
      | (go_at_call 73; (with_reducible refine (rput_v (headE n) _ rfl Hsm.out _).mono ?_); rintro e w4 ⟨A4, c4, rfl, hr, hs⟩; rw [HB.out] at hr; rw [HB.out, HBl.out, Hm.out]; have Hr := Lib.hid hr; replace Hb := Lib.hid ((Hb.out.alloc _).keep hs (Hb.out.alloc _).lt); replace h0 := Stp.trans (Stp.alloc h0 _) hs; clear hs hr; obtain ⟨q0, q1, q2, q3, q4, q5, q6, q7⟩ := nd_cells Hb.out)
      | (go_at_call 100; (with_reducible refine (rahead_r n Hn.out Hp.out Hk.out _).mono ?_); rintro e w5 ⟨v5, rfl, h5, hs⟩; rw [HA.out] at h5; have Hb4 := Lib.hid Hb.out.lt; have Hlit := Lib.hid (lit_rr (e := 43) (Hr.out.keep hs) HBl.out); have HR := Lib.hid (h5.keep (Stp.alloc (Stp.refl w5) (.cells #[.slice A4 512 c4] 43))); replace Hb := Lib.hid ((Hb.out.keep hs Hb.out.lt).alloc (.cells #[.slice A4 512 c4] 43)); have Hsz := Lib.hid (Stp.alloc hs (.cells #[.slice A4 512 c4] 43)).size; have Hw := Lib.hid h0.size; replace h0 := Stp.trans h0 (Stp.alloc hs (.cells #[.slice A4 512 c4] 43)); clear hs h5 q0 q1 q2 q3 q4 q5 q6 q7; obtain ⟨q0, q1, q2, q3, q4, q5, q6, q7⟩ := nd_cells Hb.out)
      | (at_builtin; refine Base.wpList_append_rows (P := Tryz.prog) rfl (.tmp 22) (.tmp 24) 33 rfl 43 Tryz.underlying33 slices_info _ rfl HR.out rfl Hlit.out rfl (by have := H4.out; simp only [List.length_cons, List.length_nil]; omega) Hsz.out ?_; intro v6 w6 hR hg; replace Hb := Lib.hid (blk_past HR.out Hb.out hg Hb4.out); replace h0 := HR.out.stp h0 Hw.out hg; have Hs6 := Lib.hid (Nat.le_trans Hsz.out hg.size); have HR2 := Lib.hid hR; clear hR hg q0 q1 q2 q3 q4 q5 q6 q7; obtain ⟨q0, q1, q2, q3, q4, q5, q6, q7⟩ := nd_cells Hb.out)
      | (go_at_call 101; (with_reducible refine (rcut_v n.data _ rfl CC HC.out CC.length rfl _ Hd.out).mono ?_); rintro e w8 ⟨A8, c8, rfl, h8, hs⟩; have H8c := Lib.hid h8; replace HR2 := Lib.hid (HR2.out.keep hs); replace h0 := Stp.trans h0 hs; have Hs8 := Lib.hid (Nat.le_trans Hs6.out hs.size); clear hs h8 q0 q1 q2 q3 q4 q5 q6 q7)
      | (at_builtin; refine Base.wpList_append_rows (P := Tryz.prog) rfl (.tmp 26) (.tmp 29) 33 rfl 43 Tryz.underlying33 slices_info _ rfl HR2.out rfl H8c.out rfl (by have := H4.out; have := H8.out; simp only [List.length_append, List.length_cons, List.length_nil]; omega) Hs8.out ?_; intro v9 w9 hR hg; replace h0 := HR2.out.stp h0 Hw.out hg; rw [HP.out] at hR; obtain ⟨A9, c9, rfl, hL9⟩ := hR.rdL; have HL9 := Lib.hid hL9; clear hR hg hL9))
    all_goals go_ret2
    all_goals exact ⟨A9, c9, rfl, HL9.out, h0⟩
set_option maxRecDepth 100000 in
theorem remany_s (n : Nd) (hn : SmallN n) (w : World) :
    Calls Tryz.prog 116 #[nv n] w fun e w' => e = .returned (.int .i64 ((putE n).length : Int)) ∧ Stp w w' := by
  have h0 := Stp.alloc (Stp.refl w) (.cells (ncells n) 52)
  have Hn := Lib.hid hn
  have Hb := Lib.hid (Blk.new w 52 (ncells n))
  obtain ⟨q0, q1, q2, q3, q4, q5, q6, q7⟩ := nd_cells Hb.out
  clear hn
  go_enter Tryz.func116, Tryz.ntmps116
  go_wp2_with (go_at_call 64; (with_reducible refine (reput_s n Hn.out _).mono ?_); rintro e w1 ⟨A, c, rfl, -, hs⟩; replace h0 := Stp.trans h0 hs; clear hs)
  all_goals go_ret
  all_goals exact ⟨rfl, h0⟩
set_option maxRecDepth 100000 in
set_option maxHeartbeats 2000000 in
theorem redata_s (n : Nd) (hn : SmallN n) (w : World) :
    Calls Tryz.prog 76 #[nv n] w fun e w' => e = .returned (.int .i64 (dataE n : Int)) ∧ Stp w w' := by
  have h0 := Stp.alloc (Stp.refl w) (.cells (ncells n) 52)
  have Hn := Lib.hid hn
  have Hb := Lib.hid (Blk.new w 52 (ncells n))
  obtain ⟨q0, q1, q2, q3, q4, q5, q6, q7⟩ := nd_cells Hb.out
  clear hn
  cases ho : oneB n
  · rw [dataE_no ho]
    have Ho := Lib.hid ho
    clear ho
    go_enter Tryz.func76, Tryz.ntmps76
    go_wp2_with (go_at_call 61; (with_reducible refine (Tree.rone_s n Hn.out _).mono ?_); rintro e w1 ⟨rfl, hs⟩; rw [Ho.out]; replace h0 := Stp.trans h0 hs; clear hs)
    go_ret
    exact ⟨rfl, h0⟩
  · rw [dataE_yes ho]
    have Ho := Lib.hid ho
    clear ho
    go_enter Tryz.func76, Tryz.ntmps76
    go_wp2_with (first
      | (go_at_call 61; (with_reducible refine (Tree.rone_s n Hn.out _).mono ?_); rintro e w1 ⟨rfl, hs⟩; rw [Ho.out]; replace Hb := Lib.hid (Hb.out.keep hs Hb.out.lt); replace h0 := Stp.trans h0 hs; clear hs q0 q1 q2 q3 q4 q5 q6 q7; obtain ⟨q0, q1, q2, q3, q4, q5, q6, q7⟩ := nd_cells Hb.out)
      | (go_at_call 117; (with_reducible refine (Block.rmany_s (n.data.length : Int) _ (by have := Hn.out.data; omega) (by omega)).mono ?_); rintro e w2 ⟨rfl, hs⟩; rw [BlockM.manyV_nat]; replace h0 := Stp.trans h0 hs; clear hs))
    all_goals go_ret
    all_goals exact ⟨rfl, h0⟩
end Go.Proofs.YtopihahjjcpnpaaGreatDoor.Entry

