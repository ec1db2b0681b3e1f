/-
  The law VolumeStream, walked over the contracts: no statement is proved here.
-/
import Derived.Test.YtopihahjjcpnpaaGreatDoorVolZ
namespace Go.Proofs.YtopihahjjcpnpaaGreatDoor.Vol
open Go.Sort Go.RowKit Go.Proofs.YtopihahjjcpnpaaGreatDoor.Str Go.Proofs.YtopihahjjcpnpaaGreatDoor.Base Go.Proofs.YtopihahjjcpnpaaGreatDoor.Node Go.Proofs.YtopihahjjcpnpaaGreatDoor.Head Go.Proofs.YtopihahjjcpnpaaGreatDoor.Long Go.Proofs.YtopihahjjcpnpaaGreatDoor.Entry Go.Proofs.YtopihahjjcpnpaaGreatDoor.LabelM Go.Proofs.YtopihahjjcpnpaaGreatDoor.ContM Go.Proofs.YtopihahjjcpnpaaGreatDoor.Stream Go.Proofs.YtopihahjjcpnpaaGreatDoor.VolM
open Go.Proofs.YtopihahjjcpnpaaGreatDoor.Tree (oneB mayT fewT)
set_option linter.unusedVariables false

set_option maxRecDepth 100000 in
set_option maxHeartbeats 4000000 in
theorem stream_out {Tb : World → Prop} (I : VolI Tb) (t : List Nd) (m : Nat) (hm : t.length = m) (hml : m < 9223372036854775808) (hn : ∀ n ∈ t, SmallN n) (s : Sett) (hs : SmallS s) (T A : Option Addr) (ct k : Nat) (w : World) (ht : RdN w T ct t) (ha : RdZ w A k s.caps) (htab : Tb w) (hout : fewT t = false ∨ fewS s = false) :
    Calls Tryz.prog 5 #[.slice T m ct, sv s A k] w fun e w' => e = .returned (.bool true) ∧ Stp w w' := by
  have h0 := Lib.hid (Stp.alloc (Stp.refl w) (.cells (scells s A k) 25))
  have HB := Lib.hid (Blk.new w 25 (scells s A k))
  have Ht := Lib.hid ht
  have Ha : Hid (RdZ w A k s.caps) := Lib.hid ha
  have HT := Lib.hid htab
  have HI := Lib.hid I
  have Hm := Lib.hid hm
  have Hml := Lib.hid hml
  have Hn := Lib.hid hn
  have Hs := Lib.hid hs
  obtain ⟨q0, q1, q2⟩ := set_cells3 HB.out
  clear ht ha htab I hm hml hn hs
  obtain ⟨b1, f1⟩ : ∃ b, fewT t = b := ⟨_, rfl⟩
  obtain ⟨b2, f2⟩ : ∃ b, fewS s = b := ⟨_, rfl⟩
  have F1 := Lib.hid f1
  have F2 := Lib.hid f2
  have key : b1 = false ∨ (b1 = true ∧ b2 = false) := by
    rw [f1, f2] at hout
    cases b1 <;> simp_all
  clear f1 f2 hout
  rcases key with rfl | ⟨rfl, rfl⟩
  all_goals
    go_enter Tryz.func5, Tryz.ntmps5
    go_wp2_with (first
      | (go_at_call 11; (refine (awake_s HI.out _ (HI.out.keep HT.out h0.out)).mono ?_); rintro e wn ⟨rfl, hs⟩; replace h0 := Lib.hid (Stp.trans h0.out hs); replace HB := Lib.hid (HB.out.keep hs HB.out.lt); clear q0 q1 q2; clear hs; obtain ⟨q0, q1, q2⟩ := set_cells3 HB.out)
      | (go_at_call 12; (with_reducible refine (fewt_v t m Hm.out Hml.out _ F1.out T ct _ (Ht.out.keep h0.out)).mono ?_); rintro e wn ⟨rfl, hs⟩; replace h0 := Lib.hid (Stp.trans h0.out hs); replace HB := Lib.hid (HB.out.keep hs HB.out.lt); clear q0 q1 q2; clear hs; obtain ⟨q0, q1, q2⟩ := set_cells3 HB.out)
      | (go_at_call 13; (refine (fews_v s A k _ rfl _ F2.out _).mono ?_); rintro e wn ⟨rfl, hs⟩; replace h0 := Lib.hid (Stp.trans h0.out hs); replace HB := Lib.hid (HB.out.keep hs HB.out.lt); clear q0 q1 q2; clear hs; obtain ⟨q0, q1, q2⟩ := set_cells3 HB.out))
    go_ret
    exact ⟨rfl, h0.out⟩
theorem zero_zeros (k : Nat) : BlockM.zeroV (zeros k) = true := by simp [BlockM.zeroV, zeros]
theorem zero_nought : BlockM.zeroV nought = true := zero_zeros 512
theorem bzero_v (x : List UInt8) (n : Nat) (hn : x.length = n) (hl : n < 9223372036854775808) (b : Bool) (hb : BlockM.zeroV x = b) (A : Option Addr) (c : Nat) (w : World) (ha : RdA w A c (bs x)) :
    Calls Tryz.prog 27 #[.slice A n c] w fun e w' => e = .returned (.bool b) ∧ Stp w w' := by
  subst hn hb
  exact Block.zero_s x A c w ha hl
theorem str_v {w : World} {A : Option Addr} {n c : Nat} {x : List UInt8} (hn : x.length = n) (h : RdA w A c (bs x)) :
    (convert 43 9 (.slice A n c)).run Tryz.prog w = .ok (.string ⟨x.toArray⟩) w := by
  have h' := h
  unfold RdA at h'
  rw [bs_length, hn] at h'
  exact run_string_rd (P := Tryz.prog) w 43 9 5 Tryz.underlying43 Tryz.underlying5 Tryz.underlying9 _ _ _ h'
set_option maxRecDepth 100000 in
set_option maxHeartbeats 8000000 in
theorem stream_in {Tb : World → Prop} (I : VolI Tb) (t : List Nd) (m : Nat) (hm : t.length = m) (hml : m < 9223372036854775808) (hn : ∀ n ∈ t, SmallN n) (s : Sett) (hs : SmallS s) (T A : Option Addr) (ct k : Nat) (w : World) (ht : RdN w T ct t) (ha : RdZ w A k s.caps) (htab : Tb w) (f1 : fewT t = true) (f2 : fewS s = true) (hall : AllI) (hle : (allS t).length ≤ 402) :
    Calls Tryz.prog 5 #[.slice T m ct, sv s A k] w fun e w' => e = .returned (.bool true) ∧ Stp w w' := by
  have h0 := Lib.hid (Stp.alloc (Stp.refl w) (.cells (scells s A k) 25))
  have HB := Lib.hid (Blk.new w 25 (scells s A k))
  have Ht := Lib.hid ht
  have Ha : Hid (RdZ w A k s.caps) := Lib.hid ha
  have HT := Lib.hid htab
  have HI := Lib.hid I
  have Hm := Lib.hid hm
  have Hml := Lib.hid hml
  have Hn := Lib.hid hn
  have Hs := Lib.hid hs
  obtain ⟨q0, q1, q2⟩ := set_cells3 HB.out
  clear ht ha htab I hm hml hn hs
  have F1 := Lib.hid f1
  have F2 := Lib.hid f2
  have Hm3 : Hid (m ≤ 1000) := Lib.hid (by have := (Tree.fewT_iff.1 f1).1; rw [Hm.out] at this; omega)
  obtain ⟨Q, E, hQ⟩ : ∃ Q E, splitV t s = (Q, E) := ⟨_, _, rfl⟩
  obtain ⟨z, hz⟩ : ∃ z, Q.length = z := ⟨_, rfl⟩
  obtain ⟨l, hl⟩ : ∃ l, allS t = l := ⟨_, rfl⟩
  obtain ⟨N, hN⟩ : ∃ N, l.length = N := ⟨_, rfl⟩
  obtain ⟨bt, hbt⟩ : ∃ b, mayT t = b := ⟨_, rfl⟩
  have HQ := Lib.hid hQ
  have Hz := Lib.hid hz
  have Hl := Lib.hid hl
  have HN := Lib.hid hN
  have Hbt := Lib.hid hbt
  have HAl := Lib.hid hall
  by_cases hm2 : (mayT t && mayS s) = true
  · rw [Bool.and_eq_true] at hm2
    obtain ⟨hmt, hms⟩ := hm2
    have hc := chain_split hmt hms
    rw [hQ] at hc
    dsimp only at hc
    obtain ⟨ac, -, ae⟩ := chain_count hc (Nat.zero_le _)
    rw [hz, Nat.zero_add] at ac
    have hN2 : (allS t).length = N := by rw [hl, hN]
    rw [hN2] at hle
    have hat : At t s Q E N 0 0 := ⟨0, hc, .inl rfl⟩
    obtain rfl : bt = true := hbt.symm.trans hmt
    have g1 : (E == 1) = false := by rw [beq_eq_false_iff_ne]; omega
    have hz12 := split_few hQ
    rw [hz] at hz12
    have HAt := Lib.hid hat
    have HN2 := Lib.hid hN2
    have HMt := Lib.hid hmt
    have HMs := Lib.hid hms
    have HQs : Hid (∀ x ∈ Q, x.length ≤ 4000) := Lib.hid (split_small hQ)
    clear f1 f2 hQ hz hl hN hbt hall hc hat hN2 hmt hms ae
    go_enter Tryz.func5, Tryz.ntmps5
    go_upto_region 10 with (first
      | (go_at_call 11; (refine (awake_s HI.out _ (HI.out.keep HT.out h0.out)).mono ?_); rintro e wn ⟨rfl, hs⟩; replace h0 := Lib.hid (Stp.trans h0.out hs); replace HB := Lib.hid (HB.out.keep hs HB.out.lt); clear q0 q1 q2; clear hs; obtain ⟨q0, q1, q2⟩ := set_cells3 HB.out)
      | (go_at_call 12; (with_reducible refine (fewt_v t m Hm.out Hml.out _ F1.out T ct _ (Ht.out.keep h0.out)).mono ?_); rintro e wn ⟨rfl, hs⟩; replace h0 := Lib.hid (Stp.trans h0.out hs); replace HB := Lib.hid (HB.out.keep hs HB.out.lt); clear q0 q1 q2; clear hs; obtain ⟨q0, q1, q2⟩ := set_cells3 HB.out)
      | (go_at_call 13; (refine (fews_v s A k _ rfl _ F2.out _).mono ?_); rintro e wn ⟨rfl, hs⟩; replace h0 := Lib.hid (Stp.trans h0.out hs); replace HB := Lib.hid (HB.out.keep hs HB.out.lt); clear q0 q1 q2; clear hs; obtain ⟨q0, q1, q2⟩ := set_cells3 HB.out)
      | (go_at_call 14; (refine (HI.out.split t m Hm.out Hm3.out Hn.out s A k _ rfl Hs.out Q E HQ.out z Hz.out T ct _ (Ht.out.keep h0.out) (RdA.keep Ha.out h0.out) (HI.out.keep HT.out h0.out)).mono ?_); rintro e wn ⟨B1, d1, rfl, hr, hs⟩; replace h0 := Lib.hid (Stp.trans h0.out hs); replace HB := Lib.hid (HB.out.keep hs HB.out.lt); have HR := Lib.hid hr; clear hr; clear q0 q1 q2; clear hs; obtain ⟨q0, q1, q2⟩ := set_cells3 HB.out)
      | (go_at_call 26; (refine (HAl.out t m Hm.out Hm3.out Hn.out l Hl.out N HN.out _ Hbt.out T ct _ (Ht.out.keep h0.out)).mono ?_); rintro e wn ⟨B2, d2, rfl, hr, hs⟩; replace h0 := Lib.hid (Stp.trans h0.out hs); replace HB := Lib.hid (HB.out.keep hs HB.out.lt); replace HR := Lib.hid (HR.out.keep hs); have HL := Lib.hid hr; clear hr; clear q0 q1 q2; clear hs; obtain ⟨q0, q1, q2⟩ := set_cells3 HB.out))
    go_wp2_with fail
    go_loopw [12, 13] (fun p i wr => ∃ pos n : Nat, n ≤ z ∧ pos ≤ 100000 * (n + 1) ∧ i = .int .i64 (n : Int) ∧ p = .int .i64 (pos : Int) ∧ Hid (At t s Q E N pos n) ∧ Hid (Stp w wr) ∧ Hid (Blk wr w.heap.size 25 (scells s A k)) ∧ Hid (RdV wr B1 d1 Q) ∧ Hid (RdL wr B2 d2 l)) (fun _ i _ => z - (intOf i).toNat)
    case atStart => exact ⟨0, 0, by omega, by omega, rfl, rfl, HAt, h0, HB, HR, HL⟩
    case round =>
      clear q0 q1 q2 h0 HB HR HL
      obtain ⟨pos, n, hnz, hpos, rfl, rfl, HP, h0, HB, HR, HL⟩ := hrel
      obtain ⟨q0, q1, q2⟩ := set_cells3 HB.out
      by_cases hlt : n < z
      · obtain ⟨v, hv⟩ : ∃ v, Q[n]? = some v := ⟨_, List.getElem?_eq_getElem (by rw [Hz.out]; exact hlt)⟩
        obtain ⟨c1, c2, rest, c3, c4, c5, c6⟩ := at_next HMt.out HMs.out HN2.out HP.out hv
        obtain ⟨X, hX⟩ : ∃ X, beginL t s pos ((n : Int) + 1) = X := ⟨_, rfl⟩
        obtain ⟨bl, hbl⟩ : ∃ b, X.length = b := ⟨_, rfl⟩
        obtain ⟨rl, hrl⟩ : ∃ r, rest.length = r := ⟨_, rfl⟩
        obtain ⟨y, hy⟩ : ∃ y, v.length = y := ⟨_, rfl⟩
        have hbl4 := begin_le t s pos ((n : Int) + 1)
        rw [hX] at c3 hbl4
        rw [hbl] at hbl4
        rw [hrl] at c4 c6
        have hyv : y = bl + rl := by rw [← hy, c3, List.length_append, hbl, hrl]
        have hy4 := HQs.out v (List.mem_of_getElem? hv)
        rw [hy] at hy4
        have HBV : Hid (beginV t s (pos : Int) ((n : Int) + 1) = X) := Lib.hid (by rw [beginV_yes c2, Int.toNat_natCast, hX])
        have HBB := Lib.hid c2
        have HX := Lib.hid hbl
        have Htk : Hid (v.take bl = X) := Lib.hid (by rw [c3, ← hbl, List.take_left])
        have Htl : Hid ((v.take bl).length = bl) := Lib.hid (by rw [c3, ← hbl, List.take_left])
        have Heq : Hid ((v.take bl == X) = true) := Lib.hid (by rw [c3, ← hbl, List.take_left]; exact beq_self_eq_true _)
        have Hv := Lib.hid hv
        have Hy := Lib.hid hy
        have C5 := Lib.hid c5
        have C6 := Lib.hid c6
        have C3 : Hid (∀ j x, rest[j]? = some x → v[bl + j]? = some x) := Lib.hid fun j x hx => by rw [c3, List.getElem?_append_right (by omega), hbl, show bl + j - bl = j by omega]; exact hx
        have Hrl := Lib.hid hrl
        have hv0 : ∃ x0, v[0]? = some x0 := ⟨_, List.getElem?_eq_getElem (by omega)⟩
        obtain ⟨gb, ob, Bv, dv, hB, qv, hLv⟩ := HR.out.at_ hv
        subst hB
        rw [hy] at qv
        obtain ⟨x0, hx0⟩ := hv0
        obtain ⟨gc, oc, -, -, hB', -, -⟩ := hLv.at_ hx0
        have hydv : y ≤ dv := by
          obtain ⟨us, e1, e2, -⟩ := hLv
          have := RdA.length_le e2
          omega
        subst hB'
        have csl : ∀ w, (Instr.slice 33 (.slice (some ⟨gc, oc, none⟩) y dv) none (some (.int .i64 (bl : Int))) none).run Tryz.prog w = .ok (.slice (some ⟨gc, oc, none⟩) bl dv) w := fun w => Entry.slice_to gc oc y dv bl (by omega) w
        have QV : Hid (∀ w', Stp wr w' → w'.cell? ⟨gb, ob + n, none⟩ = some (.slice (some ⟨gc, oc, none⟩) y dv) ∧ RdL w' (some ⟨gc, oc, none⟩) dv v) := Lib.hid fun w' hs => by
          exact ⟨(hs.cell (p := ⟨gb, ob + n, none⟩) (World.block_lt_of_cell? wr _ qv)).trans qv, hLv.keep hs⟩
        have hoc : ∀ j : Nat, ((bl : Int) + (j : Int)).toNat = bl + j := fun j => by omega
        have hop : ∀ j : Nat, ((pos : Int) + (j : Int)).toNat = pos + j := fun j => by omega
        have g2 : (0 : Int) ≤ (n : Int) := by omega
        have g3 : (n : Int) < (z : Int) := by omega
        have g4 : bl < y := by omega
        clear hv c2 c3 c5 hX hbl hrl hy hbl4 hx0 hLv x0 c6
        go_upto_region 21 with (first
          | (go_at_call 16; refine (HI.out.begin t m Hm.out Hm3.out Hn.out s A k _ rfl Hs.out (pos : Int) ((n : Int) + 1) (by omega) (by omega) (by omega) (by omega) X HBV.out bl HX.out true HBB.out T ct _ (Ht.out.keep h0.out) (RdA.keep Ha.out h0.out) (HI.out.keep HT.out h0.out)).mono ?_; rintro e w2 ⟨B3, d3, rfl, hr, hs⟩; have HX2 := Lib.hid hr; have H1 := Lib.hid hs; clear hr hs q0 q1 q2; have qv2 := (QV.out _ H1.out).1; clear qv)
          | (go_at_call 19; refine (rsamev (v.take bl) X bl bl Htl.out HX.out _ _ dv d3 _ (Entry.rdL_take (QV.out _ H1.out).2 bl) HX2.out (by omega) (by omega) true Heq.out).mono ?_; rintro e w3 ⟨rfl, hs⟩; replace H1 := Lib.hid (Stp.trans H1.out hs); clear hs qv2 csl; have qv2 := (QV.out _ H1.out).1))
        go_wp2_with fail
        go_loopw [12, 17] (fun p i wi => ∃ j : Nat, j ≤ rl ∧ i = .int .i64 ((bl : Int) + (j : Int)) ∧ p = .int .i64 ((pos : Int) + (j : Int)) ∧ Hid (Stp wr wi)) (fun _ i _ => y - (intOf i).toNat)
        case atStart => exact ⟨0, by omega, by simp, by simp, H1⟩
        case round =>
          clear qv2 H1 HX2
          obtain ⟨j, hj, rfl, rfl, H1⟩ := hrel
          have qv2 := (QV.out _ H1.out).1
          by_cases hjl : j < rl
          · obtain ⟨x, hx⟩ : ∃ x, rest[j]? = some x := ⟨_, List.getElem?_eq_getElem (by rw [Hrl.out]; exact hjl)⟩
            obtain ⟨gc', oc', Ax, cx, hB2, qx, hRx⟩ := (QV.out _ H1.out).2.at_ (C3.out j x hx)
            cases hB2
            have kk := hoc j
            have kp := hop j
            have g5 : (0 : Int) ≤ (bl : Int) + (j : Int) := by omega
            have g6 : (bl : Int) + (j : Int) < (y : Int) := by omega
            have g7 : IntKind.i64.wrap ((pos : Int) + (j : Int) + 1) = (pos : Int) + (j : Int) + 1 := by rw [IntKind.wrap_i64] <;> omega
            have g8 : IntKind.i64.wrap ((bl : Int) + (j : Int) + 1) = (bl : Int) + (j : Int) + 1 := by rw [IntKind.wrap_i64] <;> omega
            have hRx2 := Lib.hid hRx
            go_wp2_with fail
            rcases C5.out j x hx with ⟨e1, e2⟩ | ⟨e1, rfl⟩
            · rw [Hl.out] at e2
              obtain ⟨ga, oa, Ay, cy, hB3, qy, hRy⟩ := (HL.out.keep H1.out).at_ e2
              subst hB3
              obtain ⟨xl, hxl⟩ : ∃ xl, x.length = xl := ⟨_, rfl⟩
              rw [hxl] at qx qy
              have hRy2 := Lib.hid hRy
              have k1 : decide ((pos : Int) + (j : Int) < (N : Int)) = true := decide_eq_true (by omega)
              have k2 : decide ((N : Int) ≤ (pos : Int) + (j : Int)) = false := decide_eq_false (by omega)
              have k3 : (0 : Int) ≤ (pos : Int) + (j : Int) := by omega
              have k4 : (pos : Int) + (j : Int) < (N : Int) := by omega
              have v1 := cell_regrown qv2
              have v2 := cell_regrown qx
              have v3 := cell_regrown qy
              have cv1 : ∀ d os, (convert 43 9 (.slice Ax xl cx)).run Tryz.prog (grow (redrawn wr d) os) = .ok (.string ⟨x.toArray⟩) (grow (redrawn wr d) os) := fun d os => str_v hxl (RdA.keep hRx2.out (below_regrown wr d os))
              have cv2 : ∀ d os, (convert 43 9 (.slice Ay xl cy)).run Tryz.prog (grow (redrawn wr d) os) = .ok (.string ⟨x.toArray⟩) (grow (redrawn wr d) os) := fun d os => str_v hxl (RdA.keep hRy2.out (below_regrown wr d os))
              clear qv2 qx qy hRx hRy hx hxl e1 e2
              refine wp_region_quiet_below (by kernel_rfl) (by kernel_rfl) ?_
              repeat (go_big_quiet_step (fail))
              refine wpQuiet_nil ?_
              intro _ hw'
              obtain ⟨⟨dq, osq⟩, hw''⟩ := hw'
              subst hw''
              have X1 := Lib.hid (show Stp wr (grow (redrawn wr dq) osq) from below_regrown wr dq osq)
              clear v1 v2 v3 cv1 cv2 k1 k2 k3 k4 kk kp
              dsimp only
              generalize grow (redrawn wr dq) osq = Y at X1 ⊢
              replace H1 := Lib.hid (Stp.trans H1.out X1.out)
              clear X1
              go_wp2_with fail
              go_roundw
              case rel => exact ⟨j + 1, by omega, by go_num, by go_num, H1⟩
              case measure => simp [intOf]; omega
            · rw [nought_len] at qx
              have k1 : decide ((pos : Int) + (j : Int) < (N : Int)) = false := decide_eq_false (by omega)
              have k2 : decide ((N : Int) ≤ (pos : Int) + (j : Int)) = true := decide_eq_true (by omega)
              have v1 := cell_regrown qv2
              have v2 := cell_regrown qx
              have cZ : ∀ d os, Calls Tryz.prog 27 #[.slice Ax 512 cx] (grow (redrawn wr d) os) fun e w'' => e = .returned (.bool true) ∧ ∃ p : Regrown, w'' = grow (redrawn wr p.d) p.os := fun d os => Calls.regrown_of (bzero_v nought 512 nought_len (by omega) true zero_nought Ax cx _ (RdA.keep hRx2.out (below_regrown wr d os)))
              clear qv2 qx hRx hx e1
              refine wp_region_quiet_below (by kernel_rfl) (by kernel_rfl) ?_
              repeat (go_big_quiet_step (with_reducible exact cZ _ _))
              refine wpQuiet_nil ?_
              intro _ hw'
              obtain ⟨⟨dq, osq⟩, hw''⟩ := hw'
              subst hw''
              have X1 := Lib.hid (show Stp wr (grow (redrawn wr dq) osq) from below_regrown wr dq osq)
              clear v1 v2 cZ k1 k2 kk kp
              dsimp only
              generalize grow (redrawn wr dq) osq = Y at X1 ⊢
              replace H1 := Lib.hid (Stp.trans H1.out X1.out)
              clear X1
              go_wp2_with fail
              go_roundw
              case rel => exact ⟨j + 1, by omega, by go_num, by go_num, H1⟩
              case measure => simp [intOf]; omega
          · obtain rfl : j = rl := by omega
            have k1 : decide ((bl : Int) + (j : Int) < (y : Int)) = false := decide_eq_false (by omega)
            have h0' := Lib.hid (Stp.trans h0.out H1.out)
            have HB' := Lib.hid (HB.out.keep H1.out HB.out.lt)
            have HR' := Lib.hid (HR.out.keep H1.out)
            have HL' := Lib.hid (HL.out.keep H1.out)
            go_wp2_with fail
            go_roundw
            case rel => exact ⟨pos + j, n + 1, by omega, by omega, by go_num, by go_num, C6, h0', HB', HR', HL'⟩
            case measure => simp [intOf]; omega
      · obtain rfl : n = z := by omega
        have he := at_end HN2.out HP.out Hz.out
        obtain ⟨e0, h9⟩ : ∃ b, (E == 0) = b := ⟨_, rfl⟩
        rw [h9] at he
        have k1 : (e0 = true ∧ N ≤ pos) ∨ (e0 = false ∧ ¬ N ≤ pos) := by
          cases e0
          · exact .inr ⟨rfl, of_decide_eq_false he.symm⟩
          · exact .inl ⟨rfl, of_decide_eq_true he.symm⟩
        clear he
        rcases k1 with ⟨rfl, k1⟩ | ⟨rfl, k1⟩
        all_goals
          go_wp2_with fail
          go_ret
          exact ⟨rfl, h0.out⟩
  · have hm3 : (mayT t && mayS s) = false := by simpa using hm2
    rw [split_no hm3, Prod.mk.injEq] at hQ
    obtain ⟨rfl, rfl⟩ := hQ
    obtain rfl : z = 0 := hz.symm
    clear f1 f2 hz hl hN hbt hall hm2 hm3 hle
    go_enter Tryz.func5, Tryz.ntmps5
    go_wp2_with (first
      | (go_at_call 11; (refine (awake_s HI.out _ (HI.out.keep HT.out h0.out)).mono ?_); rintro e wn ⟨rfl, hs⟩; replace h0 := Lib.hid (Stp.trans h0.out hs); replace HB := Lib.hid (HB.out.keep hs HB.out.lt); clear q0 q1 q2; clear hs; obtain ⟨q0, q1, q2⟩ := set_cells3 HB.out)
      | (go_at_call 12; (with_reducible refine (fewt_v t m Hm.out Hml.out _ F1.out T ct _ (Ht.out.keep h0.out)).mono ?_); rintro e wn ⟨rfl, hs⟩; replace h0 := Lib.hid (Stp.trans h0.out hs); replace HB := Lib.hid (HB.out.keep hs HB.out.lt); clear q0 q1 q2; clear hs; obtain ⟨q0, q1, q2⟩ := set_cells3 HB.out)
      | (go_at_call 13; (refine (fews_v s A k _ rfl _ F2.out _).mono ?_); rintro e wn ⟨rfl, hs⟩; replace h0 := Lib.hid (Stp.trans h0.out hs); replace HB := Lib.hid (HB.out.keep hs HB.out.lt); clear q0 q1 q2; clear hs; obtain ⟨q0, q1, q2⟩ := set_cells3 HB.out)
      | (go_at_call 14; (refine (HI.out.split t m Hm.out Hm3.out Hn.out s A k _ rfl Hs.out [] 1 HQ.out 0 Hz.out T ct _ (Ht.out.keep h0.out) (RdA.keep Ha.out h0.out) (HI.out.keep HT.out h0.out)).mono ?_); rintro e wn ⟨B1, d1, rfl, hr, hs⟩; replace h0 := Lib.hid (Stp.trans h0.out hs); replace HB := Lib.hid (HB.out.keep hs HB.out.lt); have HR := Lib.hid hr; clear hr; clear q0 q1 q2; clear hs; obtain ⟨q0, q1, q2⟩ := set_cells3 HB.out)
      | (go_at_call 26; (refine (HAl.out t m Hm.out Hm3.out Hn.out l Hl.out N HN.out _ Hbt.out T ct _ (Ht.out.keep h0.out)).mono ?_); rintro e wn ⟨B2, d2, rfl, hr, hs⟩; replace h0 := Lib.hid (Stp.trans h0.out hs); replace HB := Lib.hid (HB.out.keep hs HB.out.lt); replace HR := Lib.hid (HR.out.keep hs); have HL := Lib.hid hr; clear hr; clear q0 q1 q2; clear hs; obtain ⟨q0, q1, q2⟩ := set_cells3 HB.out))
    go_ret
    exact ⟨rfl, h0.out⟩
theorem stream_walk {Tb : World → Prop} (I : VolI Tb) (t : List Nd) (m : Nat) (hm : t.length = m) (hml : m < 9223372036854775808) (hn : ∀ n ∈ t, SmallN n) (s : Sett) (hs : SmallS s) (T A : Option Addr) (ct k : Nat) (w : World) (ht : RdN w T ct t) (ha : RdZ w A k s.caps) (htab : Tb w) (hall : AllI) (hle : (allS t).length ≤ 402) :
    Calls Tryz.prog 5 #[.slice T m ct, sv s A k] w fun e w' => e = .returned (.bool true) ∧ Stp w w' := by
  by_cases h : fewT t = false ∨ fewS s = false
  · exact stream_out I t m hm hml hn s hs T A ct k w ht ha htab h
  · rw [not_or] at h
    exact stream_in I t m hm hml hn s hs T A ct k w ht ha htab (by simpa using h.1) (by simpa using h.2) hall hle
end Go.Proofs.YtopihahjjcpnpaaGreatDoor.Vol
