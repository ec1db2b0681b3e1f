/-
  What package parse's code does with a header: takeHeader. No statement is proved here.
-/
import Derived.Test.YthjdejjejlhioaaGreatDoorParseR6
import Derived.RegionDies
namespace Go.Proofs.YthjdejjejlhioaaGreatDoor.Parse
open Go.RowKit Go.Proofs.YthjdejjejlhioaaGreatDoor.Str Go.Proofs.YthjdejjejlhioaaGreatDoor.Base Go.Proofs.YthjdejjejlhioaaGreatDoor.Node Go.Proofs.YthjdejjejlhioaaGreatDoor.Long Go.Proofs.YthjdejjejlhioaaGreatDoor.Head
open Go.Proofs.YthjdejjejlhioaaGreatDoor.Tree (oneB)

theorem head_may {l : L} (h : codeB l = 0) : mayH (getH l) = true ∧ SmallH (getH l) := by
  unfold getH
  rw [if_pos h]
  unfold codeB at h
  split at h
  · rename_i hl
    split at h
    · exact absurd h (by decide)
    · split at h
      · split at h
        · rename_i hm
          exact ⟨hm.1, small_guess hl⟩
        · exact absurd h (by decide)
      · exact absurd h (by decide)
  · exact absurd h (by decide)
theorem head_lens {h : Hd} (hm : mayH h = true) : h.pre.length ≤ 400 ∧ h.name.length ≤ 400 ∧ h.link.length ≤ 400 := by
  unfold mayH txtsOk okT elseZ at hm
  simp only [Bool.and_eq_true, Bool.or_eq_true, decide_eq_true_eq] at hm
  obtain ⟨⟨⟨-, h1⟩, ⟨⟨h2, -⟩, ⟨h3, -⟩⟩, h4⟩, -⟩ := hm
  refine ⟨?_, by omega, by omega⟩
  rcases h4 with h4 | ⟨h4, -⟩
  · rw [if_pos h4] at h1
    rw [List.isEmpty_iff.1 h1]
    simp
  · omega
theorem node_small {s : St} {h : Hd} (l1 : s.name.length ≤ 400) (l2 : s.link.length ≤ 400) (hl : h.pre.length ≤ 400 ∧ h.name.length ≤ 400 ∧ h.link.length ≤ 400) (hs : SmallH h) : SmallN (nodeH s h) := by
  have hj : (PathM.joinV h.pre h.name).length ≤ 801 := by
    unfold PathM.joinV
    split
    · omega
    · simp only [List.length_append, List.length_cons]
      omega
  unfold nodeH
  constructor
  · show (if s.name = [] then _ else _ : L).length ≤ _
    split <;> omega
  · show (if s.link = [] then _ else _ : L).length ≤ _
    split <;> omega
  · exact hs.mode
  · exact hs.uid
  · exact hs.gid
  · exact hs.time
  · show ([] : L).length ≤ _
    simp
section
variable (g lo : Nat) (s : St) (v : Value) (h : Hd) (w : World) (hl : Lies w g lo s v [])
include hl
theorem node_go (l1 : s.name.length ≤ 400) (l2 : s.link.length ≤ 400) (l3 : h.pre.length ≤ 400 ∧ h.name.length ≤ 400 ∧ h.link.length ≤ 400) (h0 : 0 ≤ h.size) (hs : SmallH h) (hk : nodeE s h = 0) :
    Calls Tryz.prog 164 #[.pointer (some ⟨g, 0, none⟩), hv h] w fun e w' => e = .returned (nv (nodeH s h)) ∧ Stp w w' :=
  (node_p g lo s v h w hl l1 l2 l3.1 l3.2.1 h0 (node_small l1 l2 l3 hs)).mono fun _ _ hh => ⟨(hh.1.resolve_right fun hn => hn.1 hk).2, hh.2⟩
theorem node_no (l1 : s.name.length ≤ 400) (l2 : s.link.length ≤ 400) (l3 : h.pre.length ≤ 400 ∧ h.name.length ≤ 400 ∧ h.link.length ≤ 400) (h0 : 0 ≤ h.size) (hs : SmallH h) (k : Int) (hk : nodeE s h = k) (hk0 : k ≠ 0) :
    Calls Tryz.prog 164 #[.pointer (some ⟨g, 0, none⟩), hv h] w fun e w' => e = .panicked [pe k] ∧ Stp w w' :=
  (node_p g lo s v h w hl l1 l2 l3.1 l3.2.1 h0 (node_small l1 l2 l3 hs)).mono fun _ _ hh => ⟨by rw [← hk]; exact (hh.1.resolve_left fun hn => hk0 (hk.symm.trans hn.1)).2, hh.2⟩
theorem await_go (ph : Int) (had : L) (t : St) (hk : awaitA s ph had h = (t, [], 0)) :
    Calls Tryz.prog 162 #[.pointer (some ⟨g, 0, none⟩), .int .i64 ph, .string ⟨had.toArray⟩, hv h] w fun e w' => e = .returned (.tuple #[]) ∧ (∃ v, Lies w' g lo t v []) ∧ Kp g lo w w' :=
  (await_s g lo s v ph had h w hl).mono fun _ _ hh => by
    rw [hk] at hh
    rcases hh with ⟨⟨-, h1, h2⟩ | ⟨h1, -⟩, h3⟩
    · exact ⟨h1, h2, h3⟩
    · exact absurd rfl h1
theorem await_no (ph : Int) (had : L) (k : Int) (hk : awaitA s ph had h = (s, [], k)) (hk0 : k ≠ 0) :
    Calls Tryz.prog 162 #[.pointer (some ⟨g, 0, none⟩), .int .i64 ph, .string ⟨had.toArray⟩, hv h] w fun e w' => e = .panicked [pe k] ∧ Kp g lo w w' :=
  (await_s g lo s v ph had h w hl).mono fun _ _ hh => by
    rw [hk] at hh
    rcases hh with ⟨⟨h1, -⟩ | ⟨-, h1⟩, h3⟩
    · exact absurd h1 hk0
    · exact ⟨h1, h3⟩
end
theorem await_ways (s : St) (ph : Int) (had : L) (h : Hd) : (∃ t, awaitA s ph had h = (t, [], 0)) ∨ (∃ k, k ≠ 0 ∧ awaitA s ph had h = (s, [], k)) := by
  unfold awaitA
  split
  · exact .inr ⟨5, by decide, rfl⟩
  split
  · exact .inr ⟨2, by decide, rfl⟩
  · exact .inl ⟨_, rfl⟩

set_option maxRecDepth 100000 in
set_option maxHeartbeats 2000000 in
theorem header_zero (g lo : Nat) (s : St) (v : Value) (b : L) (hb : b.length = 512) (hp : s.phase = 0) (hm : mayS s = true) (A : Option Addr) (c : Nat) (w : World) (h : Lies w g lo s v []) (ha : RdA w A c (bs b)) (hc : codeB b = 4) :
    Calls Tryz.prog 135 #[.pointer (some ⟨g, 0, none⟩), .slice A b.length c] w fun e w' => Took g lo (headS s b) w e w' := by
  obtain ⟨k1, ⟨k2, k3, k4⟩, k5, k6⟩ := (head_iff hp).1 hm
  have L1 := Lib.hid (show s.name.length ≤ 400 by have := longB_len k5; omega)
  have L2 := Lib.hid (show s.link.length ≤ 400 by have := longB_len k6; omega)
  have H := Lib.hid h
  have Ha := Lib.hid ha
  have HB := Lib.hid hb
  have hh : headS s b = if s.name = [] ∧ s.link = [] then (phS 4, [], 0) else (s, [], 2) := by unfold headS; rw [if_pos hc]
  have HC := Lib.hid hc
  obtain ⟨G, hg⟩ : ∃ x, getH b = x := ⟨_, rfl⟩
  have HG := Lib.hid hg
  -- the box of the header lies behind
  have hall : ∀ (W : World), Lies W g lo s v [] → ∀ o : Obj, (W.alloc o).cell? ⟨g, 12, none⟩ = some (.string ⟨s.name.toArray⟩) ∧ (W.alloc o).cell? ⟨g, 13, none⟩ = some (.string ⟨s.link.toArray⟩) ∧ (W.alloc o).cell? ⟨g, 0, none⟩ = some (.int .i64 s.phase) ∧ (W.alloc o).frozen? ⟨g, 0, none⟩ = false := fun W hW o =>
    ⟨by rw [(hW.blk.alloc o).cell]; rfl, by rw [(hW.blk.alloc o).cell]; rfl, by rw [(hW.blk.alloc o).cell]; rfl, (hW.blk.alloc o).free 0⟩
  have Hall := Lib.hid hall
  by_cases hn : s.name = []
  · by_cases hk : s.link = []
    · rw [hh, if_pos ⟨hn, hk⟩]
      have e1 : (s.name == []) = true := by rw [hn]; rfl
      have e2 : (s.link == []) = true := by rw [hk]; rfl
      have HS := Lib.hid (show { s with phase := 4 } = phS 4 by
        obtain ⟨_, _, _, _, _, _, _⟩ := s
        simp only at k1 k2 k3 k4 hn hk
        subst k1 k2 k3 k4 hn hk
        rfl)
      clear hh hn hk hc hg h ha hb hp hm k1 k2 k3 k4 k5 k6 hall
      go_enter Tryz.func135, Tryz.ntmps135
      go_wp2_with (first
        | (go_at_call 80; (with_reducible refine (hget_s b _ _ _ Ha.out).mono ?_); rintro e w1 ⟨rfl, hs⟩; rw [HG.out, HC.out]; have H1 := Lib.hid (H.out.keep hs); have K1 := Lib.hid (Kp.of_stp (g := g) hs H.out.le); clear hs; have ho := Hall.out w1 H1.out; have o1 := fun o => (ho o).1; have o2 := fun o => (ho o).2.1; have o3 := fun o => (ho o).2.2.1; have o4 := fun o => (ho o).2.2.2; clear ho)
        | (go_at_call 102; (with_reducible refine (must_yes _ _).mono ?_); rintro e w2 ⟨rfl, rfl⟩))
      refine bodyPost_ret (results_none rfl _ _ _) rfl ?_
      have hl : Lies ((w1.alloc (.cells (hcells G) 113)).setCell ⟨g, 0, none⟩ (.int .i64 4)) g lo { s with phase := 4 } v [] := by
        have hb := H1.out.keep (Stp.alloc (Stp.refl w1) (.cells (hcells G) 113))
        exact ⟨hb.blk.put 0 _, hb.row.put hb.lt 0 _, hb.lt, Nat.le_trans hb.le ((Kp.refl g lo _).put 0 _).size⟩
      rw [HS.out] at hl
      exact took_go hl ((K1.out.stp (Stp.alloc (Stp.refl w1) _) H1.out.le).put 0 _)
    · rw [hh, if_neg (fun hn2 => hk hn2.2)]
      have e1 : (s.name == []) = true := by rw [hn]; rfl
      have e2 : (s.link == []) = false := beq_eq_false_iff_ne.2 hk
      clear hh hn hk hc hg h ha hb hp hm k1 k2 k3 k4 k5 k6 hall
      go_enter Tryz.func135, Tryz.ntmps135
      go_wp2_with (first
        | (go_at_call 80; (with_reducible refine (hget_s b _ _ _ Ha.out).mono ?_); rintro e w1 ⟨rfl, hs⟩; rw [HG.out, HC.out]; have H1 := Lib.hid (H.out.keep hs); have K1 := Lib.hid (Kp.of_stp (g := g) hs H.out.le); clear hs; have ho := Hall.out w1 H1.out; have o1 := fun o => (ho o).1; have o2 := fun o => (ho o).2.1; clear ho)
        | (go_at_call 102; (with_reducible refine (must_no _ _).mono ?_); rintro e w2 ⟨rfl, rfl⟩))
      exact ⟨rfl, took_no (by decide) (K1.out.stp (Stp.alloc (Stp.refl w1) _) H1.out.le)⟩
  · rw [hh, if_neg (fun hn2 => hn hn2.1)]
    have e1 : (s.name == []) = false := beq_eq_false_iff_ne.2 hn
    clear hh hn hc hg h ha hb hp hm k1 k2 k3 k4 k5 k6 hall
    go_enter Tryz.func135, Tryz.ntmps135
    go_wp2_with (first
      | (go_at_call 80; (with_reducible refine (hget_s b _ _ _ Ha.out).mono ?_); rintro e w1 ⟨rfl, hs⟩; rw [HG.out, HC.out]; have H1 := Lib.hid (H.out.keep hs); have K1 := Lib.hid (Kp.of_stp (g := g) hs H.out.le); clear hs; have ho := Hall.out w1 H1.out; have o1 := fun o => (ho o).1; clear ho)
      | (go_at_call 102; (with_reducible refine (must_no _ _).mono ?_); rintro e w2 ⟨rfl, rfl⟩))
    exact ⟨rfl, took_no (by decide) (K1.out.stp (Stp.alloc (Stp.refl w1) _) H1.out.le)⟩

set_option maxRecDepth 100000 in
set_option maxHeartbeats 2000000 in
theorem header_code (g lo : Nat) (s : St) (v : Value) (b : L) (hb : b.length = 512) (hp : s.phase = 0) (hm : mayS s = true) (A : Option Addr) (c : Nat) (w : World) (h : Lies w g lo s v []) (ha : RdA w A c (bs b)) (hc : codeB b ≠ 4) (hc0 : codeB b ≠ 0) :
    Calls Tryz.prog 135 #[.pointer (some ⟨g, 0, none⟩), .slice A b.length c] w fun e w' => Took g lo (headS s b) w e w' := by
  obtain ⟨k1, ⟨k2, k3, k4⟩, k5, k6⟩ := (head_iff hp).1 hm
  have L1 := Lib.hid (show s.name.length ≤ 400 by have := longB_len k5; omega)
  have L2 := Lib.hid (show s.link.length ≤ 400 by have := longB_len k6; omega)
  have H := Lib.hid h
  have Ha := Lib.hid ha
  have HB := Lib.hid hb
  have hh : headS s b = (s, [], codeB b) := by unfold headS; rw [if_neg hc, if_pos hc0]
  rw [hh]
  obtain ⟨G, hg⟩ : ∃ x, getH b = x := ⟨_, rfl⟩
  have HG := Lib.hid hg
  obtain ⟨C, hC⟩ : ∃ x, codeB b = x := ⟨_, rfl⟩
  have HC := Lib.hid hC
  rw [hC] at hc hc0 ⊢
  have e1 : (C == 4) = false := beq_eq_false_iff_ne.2 hc
  have e2 : (C == 0) = false := beq_eq_false_iff_ne.2 hc0
  have HC0 := Lib.hid hc0
  clear hh hc hc0 hC hg h ha hb hp hm k1 k2 k3 k4 k5 k6
  go_enter Tryz.func135, Tryz.ntmps135
  go_wp2_with (first
    | (go_at_call 80; (with_reducible refine (hget_s b _ _ _ Ha.out).mono ?_); rintro e w1 ⟨rfl, hs⟩; rw [HG.out, HC.out]; have H1 := Lib.hid (H.out.keep hs); have K1 := Lib.hid (Kp.of_stp (g := g) hs H.out.le); clear hs)
    | (go_at_call 102; (with_reducible refine (must_no _ _).mono ?_); rintro e w2 ⟨rfl, rfl⟩))
  exact ⟨rfl, took_no HC0.out (K1.out.stp (Stp.alloc (Stp.refl w1) _) H1.out.le)⟩

set_option maxRecDepth 100000 in
set_option maxHeartbeats 4000000 in
theorem header_name (g lo : Nat) (s : St) (v : Value) (b : L) (hb : b.length = 512) (hp : s.phase = 0) (hm : mayS s = true) (A : Option Addr) (c : Nat) (w : World) (h : Lies w g lo s v []) (ha : RdA w A c (bs b)) (hc : codeB b = 0) (ty : (getH b).ty = 76) :
    Calls Tryz.prog 135 #[.pointer (some ⟨g, 0, none⟩), .slice A b.length c] w fun e w' => Took g lo (headS s b) w e w' := by
  obtain ⟨k1, ⟨k2, k3, k4⟩, k5, k6⟩ := (head_iff hp).1 hm
  have L1 := Lib.hid (show s.name.length ≤ 400 by have := longB_len k5; omega)
  have L2 := Lib.hid (show s.link.length ≤ 400 by have := longB_len k6; omega)
  have H := Lib.hid h
  have Ha := Lib.hid ha
  have HB := Lib.hid hb
  have hmS := head_may hc
  have HL := Lib.hid (head_lens hmS.1)
  have Hsm := Lib.hid hmS.2
  have Hsz := Lib.hid (getH_size b).1
  clear hmS
  have hh : headS s b = if typeB s (getH b) = true then (s, [], 5) else if (getH b).ty ≠ 76 ∧ (getH b).ty ≠ 75 then nodeS s (getH b) else if (getH b).size < 2 ∨ 301 < (getH b).size ∨ getH b ≠ longH (getH b) then (s, [], 2) else ({ s with phase := if (getH b).ty = 75 then 2 else 1, size := (getH b).size, left := (getH b).size }, [], 0) := by
    unfold headS
    rw [if_neg (by rw [hc]; decide), if_neg (by rw [hc]; decide)]
  rw [hh]
  have HC := Lib.hid hc
  obtain ⟨G, hg⟩ : ∃ x, getH b = x := ⟨_, rfl⟩
  have HG := Lib.hid hg
  rw [hg] at HL Hsm Hsz ty ⊢
  have haw : (if typeB s G = true then (s, [], 5) else if G.ty ≠ 76 ∧ G.ty ≠ 75 then nodeS s G else if G.size < 2 ∨ 301 < G.size ∨ G ≠ longH G then (s, [], 2) else ({ s with phase := if G.ty = 75 then 2 else 1, size := G.size, left := G.size }, [], 0)) = awaitA s 1 s.name G := by
    unfold awaitA typeB
    rw [ty]
    by_cases hx : s.name = [] <;> simp [hx]
  rw [haw]
  have y76 : ((G.ty.toNat : Int) == 76) = true := by rw [ty]; rfl
  have y75 : ((G.ty.toNat : Int) == 75) = false := by rw [ty]; rfl
  have y77 : ((G.ty.toNat : Int) == 77) = false := by rw [ty]; rfl
  have y86 : ((G.ty.toNat : Int) == 86) = false := by rw [ty]; rfl
  clear haw ty
  clear hh hc hg h ha hb hp hm k1 k2 k3 k4 k5 k6
  rcases await_ways s 1 s.name G with ⟨t, ht⟩ | ⟨k, hk0, hk⟩
  · rw [ht]
    have HT := Lib.hid ht
    clear ht
    go_enter Tryz.func135, Tryz.ntmps135
    go_upto_region 2 with (first
      | (go_at_call 80; (with_reducible refine (hget_s b _ _ _ Ha.out).mono ?_); rintro e w1 ⟨rfl, hs⟩; rw [HG.out, HC.out]; have H1 := Lib.hid (H.out.keep hs); have K1 := Lib.hid (Kp.of_stp (g := g) hs H.out.le); clear hs; have Hg := Lib.hid (Blk.new w1 113 (hcells G)); have H2 := Lib.hid (H1.out.keep (Stp.alloc (Stp.refl w1) (.cells (hcells G) 113))); have K2 := Lib.hid (K1.out.stp (Stp.alloc (Stp.refl w1) (.cells (hcells G) 113)) H1.out.le))
      | (go_at_call 102; (with_reducible refine (must_yes _ _).mono ?_); rintro e w2 ⟨rfl, rfl⟩))
    obtain ⟨bg, hbg⟩ : ∃ x, w1.heap.size = x := ⟨_, rfl⟩
    obtain ⟨w3, hw3⟩ : ∃ x, w1.alloc (.cells (hcells G) 113) = x := ⟨_, rfl⟩
    have hw4 := hw3
    simp only [Head.hcells] at hw4
    rw [hbg, hw3] at Hg
    rw [hw3] at H2 K2
    simp only [hbg]
    rw [hw4]
    clear hw3 hw4 hbg
    obtain ⟨q0, q1, q2, q3, q4, q5, q6, q7, q8, q9, q10, q11, q12, q13, q14⟩ := H2.out.cells
    obtain ⟨c0, c1, c2, c3, c4, c5, c6, c7, c8, c9, c10⟩ := hd_cells Hg.out
    go_region_with (first
      | (go_at_call 162; refine (await_go g lo s v G w3.drew (H2.out.keep (stp_dr (Stp.refl w3))) 1 s.name t HT.out).mono ?_; rintro e w4 ⟨rfl, ⟨v4, hv4⟩, hk4⟩; have H4 := Lib.hid hv4; have K4 := Lib.hid ((K2.out.stp (stp_dr (Stp.refl w3)) H2.out.le).trans hk4); clear hv4 hk4))
    all_goals go_wp2_with fail
    all_goals first
      | (go_end0; exact took_go H4.out K4.out)
      | (refine bodyPost_ret (results_none rfl _ _ _) rfl ?_; exact took_go H4.out K4.out)
  · rw [hk]
    have HT := Lib.hid hk
    have HK0 := Lib.hid hk0
    clear hk hk0
    go_enter Tryz.func135, Tryz.ntmps135
    go_upto_region 2 with (first
      | (go_at_call 80; (with_reducible refine (hget_s b _ _ _ Ha.out).mono ?_); rintro e w1 ⟨rfl, hs⟩; rw [HG.out, HC.out]; have H1 := Lib.hid (H.out.keep hs); have K1 := Lib.hid (Kp.of_stp (g := g) hs H.out.le); clear hs; have Hg := Lib.hid (Blk.new w1 113 (hcells G)); have H2 := Lib.hid (H1.out.keep (Stp.alloc (Stp.refl w1) (.cells (hcells G) 113))); have K2 := Lib.hid (K1.out.stp (Stp.alloc (Stp.refl w1) (.cells (hcells G) 113)) H1.out.le))
      | (go_at_call 102; (with_reducible refine (must_yes _ _).mono ?_); rintro e w2 ⟨rfl, rfl⟩))
    obtain ⟨bg, hbg⟩ : ∃ x, w1.heap.size = x := ⟨_, rfl⟩
    obtain ⟨w3, hw3⟩ : ∃ x, w1.alloc (.cells (hcells G) 113) = x := ⟨_, rfl⟩
    have hw4 := hw3
    simp only [Head.hcells] at hw4
    rw [hbg, hw3] at Hg
    rw [hw3] at H2 K2
    simp only [hbg]
    rw [hw4]
    clear hw3 hw4 hbg
    obtain ⟨q0, q1, q2, q3, q4, q5, q6, q7, q8, q9, q10, q11, q12, q13, q14⟩ := H2.out.cells
    obtain ⟨c0, c1, c2, c3, c4, c5, c6, c7, c8, c9, c10⟩ := hd_cells Hg.out
    go_region_dies
    all_goals go_wp2_with (go_at_call 162; refine (await_no g lo s v G w3.drew (H2.out.keep (stp_dr (Stp.refl w3))) 1 s.name k HT.out HK0.out).mono ?_; rintro e w4 ⟨rfl, hk4⟩; exact ⟨rfl, took_no HK0.out ((K2.out.stp (stp_dr (Stp.refl w3)) H2.out.le).trans hk4)⟩)
set_option maxRecDepth 100000 in
set_option maxHeartbeats 4000000 in
theorem header_link (g lo : Nat) (s : St) (v : Value) (b : L) (hb : b.length = 512) (hp : s.phase = 0) (hm : mayS s = true) (A : Option Addr) (c : Nat) (w : World) (h : Lies w g lo s v []) (ha : RdA w A c (bs b)) (hc : codeB b = 0) (ty : (getH b).ty = 75) :
    Calls Tryz.prog 135 #[.pointer (some ⟨g, 0, none⟩), .slice A b.length c] w fun e w' => Took g lo (headS s b) w e w' := by
  obtain ⟨k1, ⟨k2, k3, k4⟩, k5, k6⟩ := (head_iff hp).1 hm
  have L1 := Lib.hid (show s.name.length ≤ 400 by have := longB_len k5; omega)
  have L2 := Lib.hid (show s.link.length ≤ 400 by have := longB_len k6; omega)
  have H := Lib.hid h
  have Ha := Lib.hid ha
  have HB := Lib.hid hb
  have hmS := head_may hc
  have HL := Lib.hid (head_lens hmS.1)
  have Hsm := Lib.hid hmS.2
  have Hsz := Lib.hid (getH_size b).1
  clear hmS
  have hh : headS s b = if typeB s (getH b) = true then (s, [], 5) else if (getH b).ty ≠ 76 ∧ (getH b).ty ≠ 75 then nodeS s (getH b) else if (getH b).size < 2 ∨ 301 < (getH b).size ∨ getH b ≠ longH (getH b) then (s, [], 2) else ({ s with phase := if (getH b).ty = 75 then 2 else 1, size := (getH b).size, left := (getH b).size }, [], 0) := by
    unfold headS
    rw [if_neg (by rw [hc]; decide), if_neg (by rw [hc]; decide)]
  rw [hh]
  have HC := Lib.hid hc
  obtain ⟨G, hg⟩ : ∃ x, getH b = x := ⟨_, rfl⟩
  have HG := Lib.hid hg
  rw [hg] at HL Hsm Hsz ty ⊢
  have haw : (if typeB s G = true then (s, [], 5) else if G.ty ≠ 76 ∧ G.ty ≠ 75 then nodeS s G else if G.size < 2 ∨ 301 < G.size ∨ G ≠ longH G then (s, [], 2) else ({ s with phase := if G.ty = 75 then 2 else 1, size := G.size, left := G.size }, [], 0)) = awaitA s 2 s.link G := by
    unfold awaitA typeB
    rw [ty]
    by_cases hx : s.link = [] <;> simp [hx]
  rw [haw]
  have y76 : ((G.ty.toNat : Int) == 76) = false := by rw [ty]; rfl
  have y75 : ((G.ty.toNat : Int) == 75) = true := by rw [ty]; rfl
  have y77 : ((G.ty.toNat : Int) == 77) = false := by rw [ty]; rfl
  have y86 : ((G.ty.toNat : Int) == 86) = false := by rw [ty]; rfl
  clear haw ty
  clear hh hc hg h ha hb hp hm k1 k2 k3 k4 k5 k6
  rcases await_ways s 2 s.link G with ⟨t, ht⟩ | ⟨k, hk0, hk⟩
  · rw [ht]
    have HT := Lib.hid ht
    clear ht
    go_enter Tryz.func135, Tryz.ntmps135
    go_upto_region 2 with (first
      | (go_at_call 80; (with_reducible refine (hget_s b _ _ _ Ha.out).mono ?_); rintro e w1 ⟨rfl, hs⟩; rw [HG.out, HC.out]; have H1 := Lib.hid (H.out.keep hs); have K1 := Lib.hid (Kp.of_stp (g := g) hs H.out.le); clear hs; have Hg := Lib.hid (Blk.new w1 113 (hcells G)); have H2 := Lib.hid (H1.out.keep (Stp.alloc (Stp.refl w1) (.cells (hcells G) 113))); have K2 := Lib.hid (K1.out.stp (Stp.alloc (Stp.refl w1) (.cells (hcells G) 113)) H1.out.le))
      | (go_at_call 102; (with_reducible refine (must_yes _ _).mono ?_); rintro e w2 ⟨rfl, rfl⟩))
    obtain ⟨bg, hbg⟩ : ∃ x, w1.heap.size = x := ⟨_, rfl⟩
    obtain ⟨w3, hw3⟩ : ∃ x, w1.alloc (.cells (hcells G) 113) = x := ⟨_, rfl⟩
    have hw4 := hw3
    simp only [Head.hcells] at hw4
    rw [hbg, hw3] at Hg
    rw [hw3] at H2 K2
    simp only [hbg]
    rw [hw4]
    clear hw3 hw4 hbg
    obtain ⟨q0, q1, q2, q3, q4, q5, q6, q7, q8, q9, q10, q11, q12, q13, q14⟩ := H2.out.cells
    obtain ⟨c0, c1, c2, c3, c4, c5, c6, c7, c8, c9, c10⟩ := hd_cells Hg.out
    go_region_with (first
      | (go_at_call 162; refine (await_go g lo s v G w3.drew (H2.out.keep (stp_dr (Stp.refl w3))) 2 s.link t HT.out).mono ?_; rintro e w4 ⟨rfl, ⟨v4, hv4⟩, hk4⟩; have H4 := Lib.hid hv4; have K4 := Lib.hid ((K2.out.stp (stp_dr (Stp.refl w3)) H2.out.le).trans hk4); clear hv4 hk4))
    all_goals go_wp2_with fail
    all_goals first
      | (go_end0; exact took_go H4.out K4.out)
      | (refine bodyPost_ret (results_none rfl _ _ _) rfl ?_; exact took_go H4.out K4.out)
  · rw [hk]
    have HT := Lib.hid hk
    have HK0 := Lib.hid hk0
    clear hk hk0
    go_enter Tryz.func135, Tryz.ntmps135
    go_upto_region 2 with (first
      | (go_at_call 80; (with_reducible refine (hget_s b _ _ _ Ha.out).mono ?_); rintro e w1 ⟨rfl, hs⟩; rw [HG.out, HC.out]; have H1 := Lib.hid (H.out.keep hs); have K1 := Lib.hid (Kp.of_stp (g := g) hs H.out.le); clear hs; have Hg := Lib.hid (Blk.new w1 113 (hcells G)); have H2 := Lib.hid (H1.out.keep (Stp.alloc (Stp.refl w1) (.cells (hcells G) 113))); have K2 := Lib.hid (K1.out.stp (Stp.alloc (Stp.refl w1) (.cells (hcells G) 113)) H1.out.le))
      | (go_at_call 102; (with_reducible refine (must_yes _ _).mono ?_); rintro e w2 ⟨rfl, rfl⟩))
    obtain ⟨bg, hbg⟩ : ∃ x, w1.heap.size = x := ⟨_, rfl⟩
    obtain ⟨w3, hw3⟩ : ∃ x, w1.alloc (.cells (hcells G) 113) = x := ⟨_, rfl⟩
    have hw4 := hw3
    simp only [Head.hcells] at hw4
    rw [hbg, hw3] at Hg
    rw [hw3] at H2 K2
    simp only [hbg]
    rw [hw4]
    clear hw3 hw4 hbg
    obtain ⟨q0, q1, q2, q3, q4, q5, q6, q7, q8, q9, q10, q11, q12, q13, q14⟩ := H2.out.cells
    obtain ⟨c0, c1, c2, c3, c4, c5, c6, c7, c8, c9, c10⟩ := hd_cells Hg.out
    go_region_dies
    all_goals go_wp2_with (go_at_call 162; refine (await_no g lo s v G w3.drew (H2.out.keep (stp_dr (Stp.refl w3))) 2 s.link k HT.out HK0.out).mono ?_; rintro e w4 ⟨rfl, hk4⟩; exact ⟨rfl, took_no HK0.out ((K2.out.stp (stp_dr (Stp.refl w3)) H2.out.le).trans hk4)⟩)
set_option maxRecDepth 100000 in
set_option maxHeartbeats 4000000 in
theorem header_more (g lo : Nat) (s : St) (v : Value) (b : L) (hb : b.length = 512) (hp : s.phase = 0) (hm : mayS s = true) (A : Option Addr) (c : Nat) (w : World) (h : Lies w g lo s v []) (ha : RdA w A c (bs b)) (hc : codeB b = 0) (ty : (getH b).ty = 77) :
    Calls Tryz.prog 135 #[.pointer (some ⟨g, 0, none⟩), .slice A b.length c] w fun e w' => Took g lo (headS s b) w e w' := by
  obtain ⟨k1, ⟨k2, k3, k4⟩, k5, k6⟩ := (head_iff hp).1 hm
  have L1 := Lib.hid (show s.name.length ≤ 400 by have := longB_len k5; omega)
  have L2 := Lib.hid (show s.link.length ≤ 400 by have := longB_len k6; omega)
  have H := Lib.hid h
  have Ha := Lib.hid ha
  have HB := Lib.hid hb
  have hmS := head_may hc
  have HL := Lib.hid (head_lens hmS.1)
  have Hsm := Lib.hid hmS.2
  have Hsz := Lib.hid (getH_size b).1
  clear hmS
  have hh : headS s b = if typeB s (getH b) = true then (s, [], 5) else if (getH b).ty ≠ 76 ∧ (getH b).ty ≠ 75 then nodeS s (getH b) else if (getH b).size < 2 ∨ 301 < (getH b).size ∨ getH b ≠ longH (getH b) then (s, [], 2) else ({ s with phase := if (getH b).ty = 75 then 2 else 1, size := (getH b).size, left := (getH b).size }, [], 0) := by
    unfold headS
    rw [if_neg (by rw [hc]; decide), if_neg (by rw [hc]; decide)]
  rw [hh]
  have HC := Lib.hid hc
  obtain ⟨G, hg⟩ : ∃ x, getH b = x := ⟨_, rfl⟩
  have HG := Lib.hid hg
  rw [hg] at HL Hsm Hsz ty ⊢
  rw [if_pos (by unfold typeB; rw [ty]; simp)]
  have y76 : ((G.ty.toNat : Int) == 76) = false := by rw [ty]; rfl
  have y75 : ((G.ty.toNat : Int) == 75) = false := by rw [ty]; rfl
  have y77 : ((G.ty.toNat : Int) == 77) = true := by rw [ty]; rfl
  have y86 : ((G.ty.toNat : Int) == 86) = false := by rw [ty]; rfl
  clear ty
  clear hh hc hg h ha hb hp hm k1 k2 k3 k4 k5 k6
  go_enter Tryz.func135, Tryz.ntmps135
  go_wp2_with (first
    | (go_at_call 80; (with_reducible refine (hget_s b _ _ _ Ha.out).mono ?_); rintro e w1 ⟨rfl, hs⟩; rw [HG.out, HC.out]; have H1 := Lib.hid (H.out.keep hs); have K1 := Lib.hid (Kp.of_stp (g := g) hs H.out.le); clear hs; have Hg := Lib.hid (Blk.new w1 113 (hcells G)); have H2 := Lib.hid (H1.out.keep (Stp.alloc (Stp.refl w1) (.cells (hcells G) 113))); have K2 := Lib.hid (K1.out.stp (Stp.alloc (Stp.refl w1) (.cells (hcells G) 113)) H1.out.le))
    | (go_at_call 102; (with_reducible refine (must_yes _ _).mono ?_); rintro e w2 ⟨rfl, rfl⟩))
  exact ⟨rfl, took_no (by decide) K2.out⟩
set_option maxRecDepth 100000 in
set_option maxHeartbeats 4000000 in
theorem header_label (g lo : Nat) (s : St) (v : Value) (b : L) (hb : b.length = 512) (hp : s.phase = 0) (hm : mayS s = true) (A : Option Addr) (c : Nat) (w : World) (h : Lies w g lo s v []) (ha : RdA w A c (bs b)) (hc : codeB b = 0) (ty : (getH b).ty = 86) :
    Calls Tryz.prog 135 #[.pointer (some ⟨g, 0, none⟩), .slice A b.length c] w fun e w' => Took g lo (headS s b) w e w' := by
  obtain ⟨k1, ⟨k2, k3, k4⟩, k5, k6⟩ := (head_iff hp).1 hm
  have L1 := Lib.hid (show s.name.length ≤ 400 by have := longB_len k5; omega)
  have L2 := Lib.hid (show s.link.length ≤ 400 by have := longB_len k6; omega)
  have H := Lib.hid h
  have Ha := Lib.hid ha
  have HB := Lib.hid hb
  have hmS := head_may hc
  have HL := Lib.hid (head_lens hmS.1)
  have Hsm := Lib.hid hmS.2
  have Hsz := Lib.hid (getH_size b).1
  clear hmS
  have hh : headS s b = if typeB s (getH b) = true then (s, [], 5) else if (getH b).ty ≠ 76 ∧ (getH b).ty ≠ 75 then nodeS s (getH b) else if (getH b).size < 2 ∨ 301 < (getH b).size ∨ getH b ≠ longH (getH b) then (s, [], 2) else ({ s with phase := if (getH b).ty = 75 then 2 else 1, size := (getH b).size, left := (getH b).size }, [], 0) := by
    unfold headS
    rw [if_neg (by rw [hc]; decide), if_neg (by rw [hc]; decide)]
  rw [hh]
  have HC := Lib.hid hc
  obtain ⟨G, hg⟩ : ∃ x, getH b = x := ⟨_, rfl⟩
  have HG := Lib.hid hg
  rw [hg] at HL Hsm Hsz ty ⊢
  rw [if_pos (by unfold typeB; rw [ty]; simp)]
  have y76 : ((G.ty.toNat : Int) == 76) = false := by rw [ty]; rfl
  have y75 : ((G.ty.toNat : Int) == 75) = false := by rw [ty]; rfl
  have y77 : ((G.ty.toNat : Int) == 77) = false := by rw [ty]; rfl
  have y86 : ((G.ty.toNat : Int) == 86) = true := by rw [ty]; rfl
  clear ty
  clear hh hc hg h ha hb hp hm k1 k2 k3 k4 k5 k6
  go_enter Tryz.func135, Tryz.ntmps135
  go_wp2_with (first
    | (go_at_call 80; (with_reducible refine (hget_s b _ _ _ Ha.out).mono ?_); rintro e w1 ⟨rfl, hs⟩; rw [HG.out, HC.out]; have H1 := Lib.hid (H.out.keep hs); have K1 := Lib.hid (Kp.of_stp (g := g) hs H.out.le); clear hs; have Hg := Lib.hid (Blk.new w1 113 (hcells G)); have H2 := Lib.hid (H1.out.keep (Stp.alloc (Stp.refl w1) (.cells (hcells G) 113))); have K2 := Lib.hid (K1.out.stp (Stp.alloc (Stp.refl w1) (.cells (hcells G) 113)) H1.out.le))
    | (go_at_call 102; (with_reducible refine (must_yes _ _).mono ?_); rintro e w2 ⟨rfl, rfl⟩))
  exact ⟨rfl, took_no (by decide) K2.out⟩
set_option maxRecDepth 100000 in
set_option maxHeartbeats 4000000 in
theorem header_node (g lo : Nat) (s : St) (v : Value) (b : L) (hb : b.length = 512) (hp : s.phase = 0) (hm : mayS s = true) (A : Option Addr) (c : Nat) (w : World) (h : Lies w g lo s v []) (ha : RdA w A c (bs b)) (hc : codeB b = 0) (ty76 : (getH b).ty ≠ 76) (ty75 : (getH b).ty ≠ 75) (ty77 : (getH b).ty ≠ 77) (ty86 : (getH b).ty ≠ 86) :
    Calls Tryz.prog 135 #[.pointer (some ⟨g, 0, none⟩), .slice A b.length c] w fun e w' => Took g lo (headS s b) w e w' := by
  obtain ⟨k1, ⟨k2, k3, k4⟩, k5, k6⟩ := (head_iff hp).1 hm
  have L1 := Lib.hid (show s.name.length ≤ 400 by have := longB_len k5; omega)
  have L2 := Lib.hid (show s.link.length ≤ 400 by have := longB_len k6; omega)
  have H := Lib.hid h
  have Ha := Lib.hid ha
  have HB := Lib.hid hb
  have hmS := head_may hc
  have HL := Lib.hid (head_lens hmS.1)
  have Hsm := Lib.hid hmS.2
  have Hsz := Lib.hid (getH_size b).1
  clear hmS
  have hh : headS s b = if typeB s (getH b) = true then (s, [], 5) else if (getH b).ty ≠ 76 ∧ (getH b).ty ≠ 75 then nodeS s (getH b) else if (getH b).size < 2 ∨ 301 < (getH b).size ∨ getH b ≠ longH (getH b) then (s, [], 2) else ({ s with phase := if (getH b).ty = 75 then 2 else 1, size := (getH b).size, left := (getH b).size }, [], 0) := by
    unfold headS
    rw [if_neg (by rw [hc]; decide), if_neg (by rw [hc]; decide)]
  rw [hh]
  have HC := Lib.hid hc
  obtain ⟨G, hg⟩ : ∃ x, getH b = x := ⟨_, rfl⟩
  have HG := Lib.hid hg
  rw [hg] at HL Hsm Hsz ty76 ty75 ty77 ty86 ⊢
  rw [if_neg (by unfold typeB; simp [ty76, ty75, ty77, ty86]), if_pos ⟨ty76, ty75⟩, nodeS_is]
  have y76 : ((G.ty.toNat : Int) == 76) = false := by rw [beq_eq_false_iff_ne]; intro e; exact ty76 (UInt8.toNat_inj.1 (by show G.ty.toNat = 76; omega))
  have y75 : ((G.ty.toNat : Int) == 75) = false := by rw [beq_eq_false_iff_ne]; intro e; exact ty75 (UInt8.toNat_inj.1 (by show G.ty.toNat = 75; omega))
  have y77 : ((G.ty.toNat : Int) == 77) = false := by rw [beq_eq_false_iff_ne]; intro e; exact ty77 (UInt8.toNat_inj.1 (by show G.ty.toNat = 77; omega))
  have y86 : ((G.ty.toNat : Int) == 86) = false := by rw [beq_eq_false_iff_ne]; intro e; exact ty86 (UInt8.toNat_inj.1 (by show G.ty.toNat = 86; omega))
  clear ty76 ty75 ty77 ty86
  clear hh hc hg h ha hb hp hm k1 k2 k3 k4 k5 k6
  by_cases hk : nodeE s G = 0
  · rw [if_pos hk]
    have HK := Lib.hid hk
    obtain ⟨n, hn⟩ : ∃ x, nodeH s G = x := ⟨_, rfl⟩
    have HN := Lib.hid hn
    rw [hn]
    clear hk hn
    go_enter Tryz.func135, Tryz.ntmps135
    go_upto_region 6 with (first
      | (go_at_call 80; (with_reducible refine (hget_s b _ _ _ Ha.out).mono ?_); rintro e w1 ⟨rfl, hs⟩; rw [HG.out, HC.out]; have H1 := Lib.hid (H.out.keep hs); have K1 := Lib.hid (Kp.of_stp (g := g) hs H.out.le); clear hs; have Hg := Lib.hid (Blk.new w1 113 (hcells G)); have H2 := Lib.hid (H1.out.keep (Stp.alloc (Stp.refl w1) (.cells (hcells G) 113))); have K2 := Lib.hid (K1.out.stp (Stp.alloc (Stp.refl w1) (.cells (hcells G) 113)) H1.out.le))
      | (go_at_call 102; (with_reducible refine (must_yes _ _).mono ?_); rintro e w2 ⟨rfl, rfl⟩))
    obtain ⟨bg, hbg⟩ : ∃ x, w1.heap.size = x := ⟨_, rfl⟩
    obtain ⟨w3, hw3⟩ : ∃ x, w1.alloc (.cells (hcells G) 113) = x := ⟨_, rfl⟩
    have hw4 := hw3
    simp only [Head.hcells] at hw4
    rw [hbg, hw3] at Hg
    rw [hw3] at H2 K2
    simp only [hbg]
    rw [hw4]
    clear hw3 hw4 hbg
    obtain ⟨q0, q1, q2, q3, q4, q5, q6, q7, q8, q9, q10, q11, q12, q13, q14⟩ := H2.out.cells
    obtain ⟨c0, c1, c2, c3, c4, c5, c6, c7, c8, c9, c10⟩ := hd_cells Hg.out
    go_region_with (first
      | (go_at_call 164; refine (node_go g lo s v G w3.drew (H2.out.keep (stp_dr (Stp.refl w3))) L1.out L2.out HL.out Hsz.out Hsm.out HK.out).mono ?_; rintro e w4 ⟨rfl, hs⟩; rw [HN.out]; have H4 := Lib.hid ((H2.out.keep (stp_dr (Stp.refl w3))).keep hs); have Hg4 := Lib.hid ((Hg.out.keep (stp_dr (Stp.refl w3)) Hg.out.lt).keep hs (Blk.lt (Hg.out.keep (stp_dr (Stp.refl w3)) Hg.out.lt))); have K4 := Lib.hid ((K2.out.stp (stp_dr (Stp.refl w3)) H2.out.le).stp hs (H2.out.keep (stp_dr (Stp.refl w3))).le); clear hs c0 c1 c2 c3 c4 c5 c6 c7 c8 c9 c10; obtain ⟨c0, c1, c2, c3, c4, c5, c6, c7, c8, c9, c10⟩ := hd_cells Hg4.out)
      | (go_at_call 163; refine (begin_s g lo s v n G.size w4 H4.out).mono ?_; rintro e w5 ⟨rfl, v5, hv5, hk5⟩; have H5 := Lib.hid hv5; have K5 := Lib.hid (K4.out.trans hk5); clear hv5 hk5))
    all_goals go_wp2_with fail
    all_goals first
      | (go_end0; exact took_go H5.out K5.out)
      | (refine bodyPost_ret (results_none rfl _ _ _) rfl ?_; exact took_go H5.out K5.out)
  · rw [if_neg hk]
    obtain ⟨k, hk2⟩ : ∃ x, nodeE s G = x := ⟨_, rfl⟩
    rw [hk2] at hk ⊢
    have HK := Lib.hid hk2
    have HK0 := Lib.hid hk
    clear hk hk2
    go_enter Tryz.func135, Tryz.ntmps135
    go_upto_region 6 with (first
      | (go_at_call 80; (with_reducible refine (hget_s b _ _ _ Ha.out).mono ?_); rintro e w1 ⟨rfl, hs⟩; rw [HG.out, HC.out]; have H1 := Lib.hid (H.out.keep hs); have K1 := Lib.hid (Kp.of_stp (g := g) hs H.out.le); clear hs; have Hg := Lib.hid (Blk.new w1 113 (hcells G)); have H2 := Lib.hid (H1.out.keep (Stp.alloc (Stp.refl w1) (.cells (hcells G) 113))); have K2 := Lib.hid (K1.out.stp (Stp.alloc (Stp.refl w1) (.cells (hcells G) 113)) H1.out.le))
      | (go_at_call 102; (with_reducible refine (must_yes _ _).mono ?_); rintro e w2 ⟨rfl, rfl⟩))
    obtain ⟨bg, hbg⟩ : ∃ x, w1.heap.size = x := ⟨_, rfl⟩
    obtain ⟨w3, hw3⟩ : ∃ x, w1.alloc (.cells (hcells G) 113) = x := ⟨_, rfl⟩
    have hw4 := hw3
    simp only [Head.hcells] at hw4
    rw [hbg, hw3] at Hg
    rw [hw3] at H2 K2
    simp only [hbg]
    rw [hw4]
    clear hw3 hw4 hbg
    obtain ⟨q0, q1, q2, q3, q4, q5, q6, q7, q8, q9, q10, q11, q12, q13, q14⟩ := H2.out.cells
    obtain ⟨c0, c1, c2, c3, c4, c5, c6, c7, c8, c9, c10⟩ := hd_cells Hg.out
    go_region_dies
    all_goals go_wp2_with (go_at_call 164; refine (node_no g lo s v G w3.drew (H2.out.keep (stp_dr (Stp.refl w3))) L1.out L2.out HL.out Hsz.out Hsm.out k HK.out HK0.out).mono ?_; rintro e w4 ⟨rfl, hs⟩; exact ⟨rfl, took_no HK0.out ((K2.out.stp (stp_dr (Stp.refl w3)) H2.out.le).stp hs (H2.out.keep (stp_dr (Stp.refl w3))).le)⟩)
theorem header_s (g lo : Nat) (s : St) (v : Value) (b : L) (hb : b.length = 512) (hp : s.phase = 0) (hm : mayS s = true) (A : Option Addr) (c : Nat) (w : World) (h : Lies w g lo s v []) (ha : RdA w A c (bs b)) :
    Calls Tryz.prog 135 #[.pointer (some ⟨g, 0, none⟩), .slice A b.length c] w fun e w' => Took g lo (headS s b) w e w' := by
  by_cases hc4 : codeB b = 4
  · exact header_zero g lo s v b hb hp hm A c w h ha hc4
  by_cases hc : codeB b = 0
  · by_cases t1 : (getH b).ty = 76
    · exact header_name g lo s v b hb hp hm A c w h ha hc t1
    by_cases t2 : (getH b).ty = 75
    · exact header_link g lo s v b hb hp hm A c w h ha hc t2
    by_cases t3 : (getH b).ty = 77
    · exact header_more g lo s v b hb hp hm A c w h ha hc t3
    by_cases t4 : (getH b).ty = 86
    · exact header_label g lo s v b hb hp hm A c w h ha hc t4
    exact header_node g lo s v b hb hp hm A c w h ha hc t1 t2 t3 t4
  · exact header_code g lo s v b hb hp hm A c w h ha hc4 hc
end Go.Proofs.YthjdejjejlhioaaGreatDoor.Parse
