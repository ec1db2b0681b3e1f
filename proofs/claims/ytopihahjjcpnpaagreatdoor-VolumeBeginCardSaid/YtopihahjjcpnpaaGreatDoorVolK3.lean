/-
  Package volume's own contracts: the closure that cuts what is left, how many blocks a record lacks, and one volume: no statement is proved here.
-/
import Derived.Test.YtopihahjjcpnpaaGreatDoorVolK
namespace Go.Proofs.YtopihahjjcpnpaaGreatDoor.Vol
open Go.Sort Go.RowKit Go.Proofs.YtopihahjjcpnpaaGreatDoor.Str Go.Proofs.YtopihahjjcpnpaaGreatDoor.Base Go.Proofs.YtopihahjjcpnpaaGreatDoor.Node Go.Proofs.YtopihahjjcpnpaaGreatDoor.Head Go.Proofs.YtopihahjjcpnpaaGreatDoor.Long Go.Proofs.YtopihahjjcpnpaaGreatDoor.Entry Go.Proofs.YtopihahjjcpnpaaGreatDoor.LabelM Go.Proofs.YtopihahjjcpnpaaGreatDoor.ContM Go.Proofs.YtopihahjjcpnpaaGreatDoor.Stream Go.Proofs.YtopihahjjcpnpaaGreatDoor.VolM
open Go.Proofs.YtopihahjjcpnpaaGreatDoor.Tree (oneB mayT fewT)
set_option linter.unusedVariables false

theorem rdL_room {w : World} {A : Option Addr} {c : Nat} {ls : LL} (h : RdL w A c ls) (k : Nat) (h1 : ls.length ≤ k) : RdL w A k ls := by
  obtain ⟨us, h2, ⟨A', c', e, hc, hr⟩, h3⟩ := h
  cases e
  exact ⟨us, h2, ⟨A, k, rfl, by omega, hr⟩, h3⟩
/-- A part of three numbers, of the first ones. -/
theorem slice_hm (b o N c k : Nat) (hk : k ≤ N) (hN : N ≤ c) (w : World) : (Instr.slice 33 (.slice (some ⟨b, o, none⟩) N c) none (some (.int .i64 (k : Int))) (some (.int .i64 (k : Int)))).run Tryz.prog w = .ok (.slice (some ⟨b, o, none⟩) k k) w := by
  have he : Tryz.prog.elem 33 = 43 := by kernel_rfl
  rw [run_slice_hm (P := Tryz.prog) w 33 _ _ _ (by rw [he]; exact Tryz.underlying33) .i64 .i64 k k (by omega) (by omega) (by omega), he, sl_size]
  simp only [Result.andThen_ok, sliced, Int.toNat_natCast, Nat.sub_zero, Nat.zero_mul, Option.map_some, Addr.add_lit, Nat.add_zero, ite_self]
/-- The others. -/
theorem slice_rest (b o N c k : Nat) (hk : k ≤ N) (hN : N ≤ c) : ∃ o', (∀ w : World, (Instr.slice 33 (.slice (some ⟨b, o, none⟩) N c) (some (.int .i64 (k : Int))) none none).run Tryz.prog w = .ok (.slice (some ⟨b, o', none⟩) (N - k) (c - k)) w) ∧
    ∀ (w : World) (ls : LL), ls.length = N → RdL w (some ⟨b, o, none⟩) c ls → RdL w (some ⟨b, o', none⟩) (c - k) (ls.drop k) := by
  have he : Tryz.prog.elem 33 = 43 := by kernel_rfl
  by_cases hc : c = k
  · refine ⟨o, fun w => ?_, fun w ls hl h => ?_⟩
    · rw [run_slice_l (P := Tryz.prog) w 33 _ _ _ (by rw [he]; exact Tryz.underlying33) .i64 k (by omega) (by omega), he, sl_size]
      simp only [Result.andThen_ok, sliced]
      rw [if_pos (by omega)]
      rfl
    · rw [List.drop_eq_nil_of_le (by omega)]
      exact rdL_none _ _ _
  · refine ⟨o + k, fun w => ?_, fun w ls hl h => rdL_drop k o c ls (by omega) h⟩
    rw [run_slice_l (P := Tryz.prog) w 33 _ _ _ (by rw [he]; exact Tryz.underlying33) .i64 k (by omega) (by omega), he, sl_size]
    simp only [Result.andThen_ok, sliced]
    rw [if_neg (by omega)]
    simp only [Option.map_some, Addr.add_lit, Int.toNat_natCast, Nat.mul_one]
theorem zeros_rep (m : Nat) (hm : m ≤ 400) : BlockM.zerosV (m : Int) = List.replicate m nought := by
  cases m with
  | zero => rw [BlockM.zerosV_no (by omega)]; rfl
  | succ m => rw [BlockM.zerosV_yes (by omega), Int.toNat_natCast, BlockM.blks_nil]; rfl
theorem zeros_n (m : Nat) (hm : m ≤ 400) (w : World) : Calls Tryz.prog 59 #[.int .i64 (m : Int)] w fun e w' => ∃ A c, e = .returned (.slice A m c) ∧ RdL w' A c (List.replicate m nought) ∧ Stp w w' := by
  have h := Block.zeros_s (m : Int) w
  rw [zeros_rep m hm, List.length_replicate] at h
  exact h
/-- A volume, as the code makes it. -/
theorem vol_cut {t : List Nd} {s : Sett} {pos n room bl k z bb cc : Nat} {V : LL} (hV : beginL t s pos ((n : Int) + 1) = V) (hbl : V.length = bl) (hz : (allS t).length = z) (hp : pos < z) (hr : bl < room) (hk : min (room - bl) (z - pos) = k) (hb : s.b.toNat = bb) (hb1 : 1 ≤ bb) (hroom : room = bb * cc) :
    volV t s pos n room = (V ++ ((allS t).drop pos).take k) ++ List.replicate ((bb - (bl + k) % bb) % bb) nought := by
  have ht : ((allS t).drop pos).take (room - bl) = ((allS t).drop pos).take k := by
    by_cases h : room - bl ≤ z - pos
    · rw [show k = room - bl by omega]
    · rw [List.take_of_length_le (by rw [List.length_drop]; omega), List.take_of_length_le (by rw [List.length_drop]; omega)]
  have hl : (V ++ ((allS t).drop pos).take k).length = bl + k := by rw [List.length_append, List.length_take, List.length_drop]; omega
  rw [volV, hV, hbl, hz, ht, hb]
  by_cases h : pos + (room - bl) < z
  · rw [if_pos h]
    have e : (bl + k) % bb = 0 := by
      rw [show bl + k = bb * cc by omega]
      exact Nat.mul_mod_right _ _
    rw [e, Nat.sub_zero, Nat.mod_self]
    simp
  · rw [if_neg h]
    simp only [hl]
set_option maxRecDepth 100000 in
set_option maxHeartbeats 2000000 in
theorem missing_s (s : Sett) (A : Option Addr) (k : Nat) (bb : Nat) (hb : s.b = (bb : Int)) (h1 : 1 ≤ bb) (h2 : bb ≤ 20) (m : Nat) (hm : m ≤ 100000) (w : World) :
    Calls Tryz.prog 60 #[sv s A k, .int .i64 (m : Int)] w fun e w' => e = .returned (.int .i64 (((bb - m % bb) % bb : Nat) : Int)) ∧ Stp w w' := by
  have h0 := Stp.alloc (Stp.refl w) (.cells (scells s A k) 58)
  obtain ⟨q0, q1, q2⟩ := set_cells3 (Blk.drew (Blk.new w 58 (scells s A k)))
  rw [hb] at q1
  have H := Lib.hid h0
  have g0 : (bb : Int) ≠ 0 := by omega
  clear h0 hb
  go_enter Tryz.func60, Tryz.ntmps60
  go_wp2
  go_region
  go_wp2
  go_ret
  have key : (wrap64 ((bb : Int) - (m : Int) % (bb : Int))).tmod (bb : Int) = (((bb - m % bb) % bb : Nat) : Int) := by
    have hlt := Nat.mod_lt m h1
    rw [show wrap64 ((bb : Int) - (m : Int) % (bb : Int)) = ((bb - m % bb : Nat) : Int) from by rw [← Int.natCast_emod]; unfold wrap64; omega]
    exact (Int.ofNat_tmod _ _).symm
  exact ⟨congrArg (fun x => Ending.returned (.int .i64 x)) key, Stp.drewN H.out 1⟩

/-! ### what is left, in two boxes -/
abbrev Two (gl gp : Nat) : Nat → Prop := fun j => j = gl ∨ j = gp
theorem no8_two {w : World} {gl gp : Nat} {A : Option Addr} {N c : Nat} {p : Int} (hl : Blk w gl 33 #[.slice A N c]) (hp : Blk w gp 3 #[.int .i64 p]) : No8 (Two gl gp) w := by
  rintro g (rfl | rfl) i x h
  · rw [hl.cell] at h
    cases i <;> simp at h
  · rw [hp.cell] at h
    cases i <;> simp at h
set_option maxRecDepth 100000 in
set_option maxHeartbeats 2000000 in
theorem cut_s {w : World} {gl gp b o N c pos : Nat} (hl : Blk w gl 33 #[.slice (some ⟨b, o, none⟩) N c]) (hp : Blk w gp 3 #[.int .i64 (pos : Int)]) (hne : gl ≠ gp) (hN : N ≤ c) (hz : pos + N ≤ 1000) (most k : Nat) (hk : min most N = k) :
    Calls Tryz.prog 33 #[.int .i64 (most : Int), .pointer (some ⟨gl, 0, none⟩), .pointer (some ⟨gp, 0, none⟩)] w fun e w' => ∃ o', e = .returned (.slice (some ⟨b, o, none⟩) k k) ∧ (∀ (w : World) (ls : LL), ls.length = N → RdL w (some ⟨b, o, none⟩) c ls → RdL w (some ⟨b, o', none⟩) (c - k) (ls.drop k)) ∧
      Far (Two gl gp) w w' ∧ Blk w' gl 33 #[.slice (some ⟨b, o', none⟩) (N - k) (c - k)] ∧ Blk w' gp 3 #[.int .i64 ((pos + k : Nat) : Int)] := by
  have hkN : k ≤ N := by omega
  obtain ⟨o', cr, hR⟩ := slice_rest b o N c k hkN hN
  have ch := slice_hm b o N c k hkN hN
  have hmin : min (most : Int) (N : Int) = (k : Int) := by omega
  have p0 : w.cell? ⟨gl, 0, none⟩ = some (.slice (some ⟨b, o, none⟩) N c) := by rw [hl.cell]; rfl
  have f0 := hl.free 0
  have HL := Lib.hid hl
  have HP := Lib.hid hp
  have HR := Lib.hid hR
  clear hl hp hR
  go_enter Tryz.func33, Tryz.ntmps33
  go_upto_region 4 with fail
  change Code.wp _ _ _ _ (w.setCell ⟨gl, 0, none⟩ (.slice (some ⟨b, o', none⟩) (N - k) (c - k)))
  have hl2 : Blk (w.setCell ⟨gl, 0, none⟩ (.slice (some ⟨b, o', none⟩) (N - k) (c - k))) gl 33 #[.slice (some ⟨b, o', none⟩) (N - k) (c - k)] := HL.out.put 0 _
  have hp2 := HP.out.far (p := ⟨gl, 0, none⟩) (show gp ≠ gl from fun e => hne e.symm) (.slice (some ⟨b, o', none⟩) (N - k) (c - k))
  have hf := Far.set (X := Two gl gp) (Far.refl _ w) (.inl rfl) 0 (.slice (some ⟨b, o', none⟩) (N - k) (c - k))
  generalize w.setCell ⟨gl, 0, none⟩ (.slice (some ⟨b, o', none⟩) (N - k) (c - k)) = W at hl2 hp2 hf ⊢
  have p1 : W.cell? ⟨gp, 0, none⟩ = some (.int .i64 (pos : Int)) := by rw [hp2.cell]; rfl
  have f1 := hp2.free 0
  have HL2 := Lib.hid hl2
  have HP2 := Lib.hid hp2
  have HF := Lib.hid hf
  clear p0 f0 HL HP hl2 hp2 hf
  go_wp2
  go_ret
  exact ⟨o', rfl, HR.out, HF.out.set (.inr rfl) 0 _, HL2.out.far (p := ⟨gp, 0, none⟩) hne _, HP2.out.put 0 _⟩
abbrev Low (gl gp lo : Nat) : Nat → Prop := fun j => Two gl gp j ∨ lo ≤ j
theorem Far.grown {X : Nat → Prop} {w0 w w' : World} {row : Option Nat} (h : Far X w0 w) (hg : w.grownBy w' row) (hr : ∀ g, row = some g → X g) : Far X w0 w' :=
  ⟨hg.os.trans h.os, hg.tape.trans h.tape, hg.output.trans h.output, Nat.le_trans h.size hg.size, fun j hj hx => (hg.block j (Nat.lt_of_lt_of_le hj h.size) (fun e => hx (hr j e.symm))).trans (h.block j hj hx)⟩
theorem Far.low {gl gp lo : Nat} {w0 w w' : World} (h0 : Stp w0 w) (h : Far (Low gl gp lo) w w') (hl : w0.heap.size ≤ lo) : Far (Two gl gp) w0 w' :=
  ⟨h.os.trans h0.os, h.tape.trans h0.tape, h.output.trans h0.output, Nat.le_trans h0.size h.size, fun j hj hx => (h.block j (Nat.lt_of_lt_of_le hj h0.size) (fun e => e.elim hx (fun q => by omega))).trans (h0.block j hj)⟩
set_option maxRecDepth 100000 in
set_option maxHeartbeats 2000000 in
theorem volume_media (s : Sett) (A : Option Addr) (k n : Nat) (hn : s.caps.length ≤ n) (hn2 : n < 1000) (v f : Value) (w : World) :
    Calls Tryz.prog 34 #[sv s A k, .int .i64 ((n : Int) + 1), v, f] w fun e w' => e = .returned (.tuple #[.slice none 0 0, .int .i64 14]) ∧ Stp w w' := by
  have H := Lib.hid (Stp.alloc (Stp.refl w) (.cells (scells s A k) 58))
  obtain ⟨q0, q1, q2⟩ := set_cells3 (Blk.new w 58 (scells s A k))
  have g1 : decide ((s.caps.length : Int) < (n : Int) + 1) = true := decide_eq_true (by omega)
  go_enter Tryz.func34, Tryz.ntmps34
  go_wp2
  go_ret2
  exact ⟨rfl, H.out⟩
set_option maxRecDepth 100000 in
set_option maxHeartbeats 4000000 in
theorem volume_small (s : Sett) (A : Option Addr) (k n : Nat) (hs : mayS s = true) {c : Int} (hc : s.caps[n]? = some c) {B : Option Addr} {bl d : Nat} (f : Value) (hbl : bl ≤ 4) (hr : (s.b * c).toNat ≤ bl) (w : World) (ha : RdZ w A k s.caps) :
    Calls Tryz.prog 34 #[sv s A k, .int .i64 ((n : Int) + 1), .slice B bl d, f] w fun e w' => e = .returned (.tuple #[.slice none 0 0, .int .i64 13]) ∧ Stp w w' := by
  have h0 := Stp.alloc (Stp.refl w) (.cells (scells s A k) 58)
  have H := Lib.hid h0
  obtain ⟨q0, q1, q2⟩ := set_cells3 (Blk.new w 58 (scells s A k))
  obtain ⟨r0, r1, r2⟩ := set_cells3 (Blk.drew (Blk.new w 58 (scells s A k)))
  obtain ⟨hn, -⟩ := List.getElem?_eq_some_iff.1 hc
  have hcok := cap_ok hs hc
  obtain ⟨-, hb1, hb20, h12, -⟩ := mayS_iff.1 hs
  have g1 : decide ((s.caps.length : Int) < (n : Int) + 1) = false := decide_eq_false (by omega)
  obtain ⟨room, hroom⟩ : ∃ r : Nat, (s.b * c).toNat = r := ⟨_, rfl⟩
  have hmul : s.b * c = (room : Int) := by
    have := Int.mul_nonneg (show 0 ≤ s.b by omega) hcok.1
    omega
  rw [hroom] at hr
  obtain ⟨g, o, hA, q3⟩ := RdZ.cell (RdA.keep ha (Stp.drewN h0 1)) hc
  subst hA
  have HM := Lib.hid hmul
  have g0 : (0 : Int) ≤ (n : Int) := by omega
  have gi : n < s.caps.length := hn
  clear h0 hc ha hs hroom hmul
  replace q3 : (w.alloc (.cells (scells s (some ⟨g, o, none⟩) k) 58)).drew.cell? ⟨g, o + n, none⟩ = some (.int .i64 c) := q3
  go_enter Tryz.func34, Tryz.ntmps34
  go_wp2
  go_region
  rw [show wrap64 (wrap64 (s.b * c) - (bl : Int)) = (room : Int) - (bl : Int) from by rw [HM.out]; unfold wrap64; omega]
  have g2 : decide ((room : Int) - (bl : Int) < 1) = true := decide_eq_true (by omega)
  go_wp2
  go_ret2
  exact ⟨rfl, Stp.drewN H.out 1⟩
theorem rows_ne {w : World} {lo g : Nat} {e t : TypeId} {v : Value} {ls : LL} {cs : Array Value} (h : Base.Rows w lo e v ls) (hb : Blk w g t cs) (hne : t ≠ e) : some g ≠ v.ownBlock := fun q => by
  obtain ⟨-, cur, fz, e2⟩ := Base.Rows.own_type h q.symm
  unfold Blk at hb
  rw [hb] at e2
  cases e2
  exact hne rfl
set_option maxRecDepth 100000 in
set_option maxHeartbeats 4000000 in
theorem volume_yes (s : Sett) (A : Option Addr) (k n : Nat) (hs : mayS s = true) {c : Int} (hc : s.caps[n]? = some c) {room : Nat} (hroom : (s.b * c).toNat = room) {B : Option Addr} {bl d lo : Nat} {V : LL} {w : World} (HR0 : Base.Rows w lo 43 (.slice B bl d) V) (hbl : V.length = bl) (hbl4 : bl ≤ 4) (hr : bl < room) (hlo : lo ≤ w.heap.size)
    {gl gp b o N cN pos : Nat} {L : LL} (hl : Blk w gl 33 #[.slice (some ⟨b, o, none⟩) N cN]) (hp : Blk w gp 3 #[.int .i64 (pos : Int)]) (hne : gl < gp) (hplo : gp < lo) (hb2 : b < gl) (hL : RdL w (some ⟨b, o, none⟩) cN L) (hN : L.length = N) (hz : pos + N ≤ 1000) (j : Nat) (hj : min (room - bl) N = j) (f : Nat) (hf : (s.b.toNat - (bl + j) % s.b.toNat) % s.b.toNat = f) (ha : RdZ w A k s.caps) :
    Calls Tryz.prog 34 #[sv s A k, .int .i64 ((n : Int) + 1), .slice B bl d, .func (.func 33) #[] #[.pointer (some ⟨gl, 0, none⟩), .pointer (some ⟨gp, 0, none⟩)]] w fun e w' => ∃ A' c' o', e = .returned (.tuple #[.slice A' (bl + j + f) c', .int .i64 0]) ∧
      Base.Rows w' lo 43 (.slice A' (bl + j + f) c') ((V ++ L.take j) ++ List.replicate f nought) ∧ Far (Low gl gp lo) w w' ∧ Blk w' gl 33 #[.slice (some ⟨b, o', none⟩) (N - j) (cN - j)] ∧ Blk w' gp 3 #[.int .i64 ((pos + j : Nat) : Int)] ∧
      (∀ (w : World) (ls : LL), ls.length = N → RdL w (some ⟨b, o, none⟩) cN ls → RdL w (some ⟨b, o', none⟩) (cN - j) (ls.drop j)) := by
  have h0 := Stp.alloc (Stp.refl w) (.cells (scells s A k) 58)
  have hsb := Blk.new w 58 (scells s A k)
  obtain ⟨q0, q1, q2⟩ := set_cells3 hsb
  obtain ⟨r0, r1, r2⟩ := set_cells3 (Blk.drew hsb)
  obtain ⟨hn, -⟩ := List.getElem?_eq_some_iff.1 hc
  have hcok := cap_ok hs hc
  obtain ⟨hrm, -⟩ := room_is hs hcok.1
  obtain ⟨-, hb1, hb20, h12, -⟩ := mayS_iff.1 hs
  have hroomle : room ≤ 4000 := by
    rw [← hroom, hrm]
    exact Nat.le_trans (Nat.mul_le_mul (show s.b.toNat ≤ 20 by omega) (show c.toNat ≤ 200 by omega)) (by omega)
  have g1 : decide ((s.caps.length : Int) < (n : Int) + 1) = false := decide_eq_false (by omega)
  have hmul : s.b * c = (room : Int) := by
    have := Int.mul_nonneg (show 0 ≤ s.b by omega) hcok.1
    omega
  obtain ⟨bb, hbb⟩ : ∃ bb : Nat, s.b = (bb : Int) := ⟨s.b.toNat, by omega⟩
  have hbt : s.b.toNat = bb := by omega
  rw [hbt] at hf
  have hbb1 : 1 ≤ bb := by omega
  have hbb20 : bb ≤ 20 := by omega
  have hf20 : f ≤ 400 := by
    rw [← hf]
    have := Nat.mod_lt (bb - (bl + j) % bb) hbb1
    omega
  obtain ⟨g, o2, hA, q3⟩ := RdZ.cell (RdA.keep ha (Stp.drewN h0 1)) hc
  subst hA
  have g0 : (0 : Int) ≤ (n : Int) := by omega
  have gi : n < s.caps.length := hn
  have hjN : j ≤ N := by omega
  have hNc : N ≤ cN := by
    have := hL.length_le
    omega
  have hs0 : Stp w (w.alloc (.cells (scells s (some ⟨g, o2, none⟩) k) 58)).drew := Stp.drewN h0 1
  have HM := Lib.hid hmul
  have HSB := Lib.hid (Blk.drew hsb)
  have HX := Lib.hid (Far.of_stp (X := Low gl gp lo) hs0)
  have HRow := Lib.hid (HR0.keep hs0)
  have HL := Lib.hid (hl.keep hs0 hl.lt)
  have HP := Lib.hid (hp.keep hs0 hp.lt)
  have HLL := Lib.hid (hL.keep hs0)
  have HN := Lib.hid hN
  have HBL := Lib.hid hbl
  have HBB := Lib.hid hbb
  have HF := Lib.hid hf
  have HJ := Lib.hid hj
  have HLO : Hid (lo ≤ w.heap.size) := Lib.hid hlo
  have HSZ := Lib.hid hs0.size
  have Hhb := Lib.hid hbb1
  have Hhb2 := Lib.hid hbb20
  have gn : n < 1000 := by omega
  have Hr := Lib.hid hr
  have Hne := Lib.hid (Nat.ne_of_lt hne)
  have Hlt := Lib.hid hne
  have Hpl := Lib.hid hplo
  have Hgl : Hid (gl < lo) := Lib.hid (Nat.lt_trans hne hplo)
  have Hb2 := Lib.hid hb2
  have Hz := Lib.hid hz
  have Hrm := Lib.hid hroomle
  have HjN := Lib.hid hjN
  have HNc := Lib.hid hNc
  have Hf20 := Lib.hid hf20
  have Hb4 := Lib.hid hbl4
  have H12 := Lib.hid h12
  clear hr hne hplo hb2 hz hroomle hjN hNc hf20 hbl4 h12
  clear h0 hc ha hs hroom hmul hs0 hsb hl hp hL hN hbl hbb hf hj HR0 hlo hrm hcok hbb1 hbb20 hbt hb1 hb20
  replace q3 : (w.alloc (.cells (scells s (some ⟨g, o2, none⟩) k) 58)).drew.cell? ⟨g, o2 + n, none⟩ = some (.int .i64 c) := q3
  go_enter Tryz.func34, Tryz.ntmps34
  go_wp2
  go_region
  rw [show wrap64 (wrap64 (s.b * c) - (bl : Int)) = ((room - bl : Nat) : Int) from by have := Hr.out; have := Hrm.out; rw [HM.out]; unfold wrap64; omega]
  have g2 : decide (((room - bl : Nat) : Int) < 1) = false := decide_eq_false (by have := Hr.out; omega)
  obtain ⟨most, hmost⟩ : ∃ x, room - bl = x := ⟨_, rfl⟩
  rw [hmost] at g2 HJ ⊢
  have HJ2 : Hid ((L.take j).length = j) := Lib.hid (by rw [List.length_take, HN.out]; have := HjN.out; omega)
  have HLn : Hid ((V ++ L.take j).length = bl + j) := Lib.hid (by rw [List.length_append, HBL.out, HJ2.out])
  have HM3 : Hid (bl + j ≤ 100000) := Lib.hid (by have := Hb4.out; have := HjN.out; have := Hz.out; omega)
  have HFl : Hid ((List.replicate f nought).length = f) := Lib.hid List.length_replicate
  clear q0 q1 q2 q3 hmost
  generalize (w.alloc (.cells (scells s (some ⟨g, o2, none⟩) k) 58)).drew = W at HSB HX HRow HL HP HLL HSZ r0 r1 r2 ⊢
  go_wp2_with (first
    | (go_at_call 33; refine (cut_s HL.out HP.out Hne.out HNc.out Hz.out most j HJ.out).mono ?_; rintro e w2 ⟨o', rfl, hR, hfar, hl2, hp2⟩; have HR := Lib.hid hR; have hn8 := no8_two HL.out HP.out; replace HX := Lib.hid (HX.out.trans (hfar.more (fun j h => .inl h))); replace HRow := Lib.hid (hfar.rows hn8 HRow.out (fun j h => h.elim (fun e => by rw [e]; exact Hgl.out) (fun e => by rw [e]; exact Hpl.out))); replace HSB := Lib.hid (hfar.blk HSB.out (fun h => by have := Hgl.out; have := Hpl.out; have := HLO.out; rcases h with e | e <;> omega)); have hLL2 := hfar.rdL hn8 HLL.out (fun b' o' e h => by cases e; have := Hb2.out; have := Hlt.out; rcases h with e | e <;> omega); have HPart := Lib.hid (rdL_room (rdL_take hLL2 j) j (by rw [List.length_take]; omega)); replace HSZ := Lib.hid (Nat.le_trans HSZ.out hfar.size); replace HL := Lib.hid hl2; replace HP := Lib.hid hp2; clear hR hn8 hfar hLL2 hl2 hp2 HLL r0 r1 r2; obtain ⟨r0, r1, r2⟩ := set_cells3 HSB.out)
    | (at_builtin; refine Base.wpList_append_rows (P := Tryz.prog) rfl (.tmp 31) (.tmp 34) 33 rfl 43 Tryz.underlying33 blocks_info _ rfl HRow.out rfl HPart.out HJ2.out (by have := HBL.out; have := HJ2.out; have := Hb4.out; have := HjN.out; have := Hz.out; omega) (Nat.le_trans HLO.out HSZ.out) ?_; intro v3 w3 hR3 hg3; replace HX := Lib.hid (Far.grown HX.out hg3 (fun g e => .inr (Base.Rows.own_type HRow.out e).1)); replace HSB := Lib.hid (HSB.out.grown hg3 (rows_ne HRow.out HSB.out (by decide))); replace HL := Lib.hid (HL.out.grown hg3 (rows_ne HRow.out HL.out (by decide))); replace HP := Lib.hid (HP.out.grown hg3 (rows_ne HRow.out HP.out (by decide))); replace HSZ := Lib.hid (Nat.le_trans HSZ.out hg3.size); obtain ⟨A3, c3, he3, -⟩ := hR3.rdL; rw [HLn.out] at he3; subst he3; replace HRow := Lib.hid hR3; clear hR3 hg3 r0 r1 r2; obtain ⟨r0, r1, r2⟩ := set_cells3 HSB.out)
    | (go_at_call 60; refine (missing_s s _ k bb HBB.out Hhb.out Hhb2.out (bl + j) HM3.out _).mono ?_; rintro e w4 ⟨rfl, hs⟩; rw [HF.out]; replace HX := Lib.hid (HX.out.trans (Far.of_stp hs)); replace HL := Lib.hid (HL.out.keep hs HL.out.lt); replace HP := Lib.hid (HP.out.keep hs HP.out.lt); replace HRow := Lib.hid (HRow.out.keep hs); replace HSZ := Lib.hid (Nat.le_trans HSZ.out hs.size); clear hs r0 r1 r2)
    | (go_at_call 59; refine (zeros_n f Hf20.out _).mono ?_; rintro e w5 ⟨A5, c5, rfl, hr5, hs⟩; have HZe := Lib.hid hr5; replace HX := Lib.hid (HX.out.trans (Far.of_stp hs)); replace HL := Lib.hid (HL.out.keep hs HL.out.lt); replace HP := Lib.hid (HP.out.keep hs HP.out.lt); replace HRow := Lib.hid (HRow.out.keep hs); replace HSZ := Lib.hid (Nat.le_trans HSZ.out hs.size); clear hs hr5)
    | (at_builtin; refine Base.wpList_append_rows (P := Tryz.prog) rfl (.tmp 36) (.tmp 41) 33 rfl 43 Tryz.underlying33 blocks_info _ rfl HRow.out rfl HZe.out HFl.out (by have := HLn.out; have := HFl.out; have := HM3.out; have := Hf20.out; omega) (Nat.le_trans HLO.out HSZ.out) ?_; intro v6 w6 hR6 hg6; replace HX := Lib.hid (Far.grown HX.out hg6 (fun g e => .inr (Base.Rows.own_type HRow.out e).1)); replace HL := Lib.hid (HL.out.grown hg6 (rows_ne HRow.out HL.out (by decide))); replace HP := Lib.hid (HP.out.grown hg6 (rows_ne HRow.out HP.out (by decide))); obtain ⟨A6, c6, he6, -⟩ := hR6.rdL; rw [List.length_append, HLn.out, HFl.out] at he6; subst he6; replace HRow := Lib.hid hR6; clear hR6 hg6))
  go_ret2
  exact ⟨_, _, o', rfl, HRow.out, HX.out, HL.out, HP.out, HR.out⟩
end Go.Proofs.YtopihahjjcpnpaaGreatDoor.Vol
