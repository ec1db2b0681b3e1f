/-
  The walk of StreamData: no statement is proved here.
-/
import Derived.Test.YtcgdeeinnfkgkaaStreamI
import Derived.Test.YtcgdeeinnfkgkaaBlockK
import Derived.Test.YtcgdeeinnfkgkaaHeadPut
import Derived.Test.YtcgdeeinnfkgkaaEntryK
import Derived.Deep.RegionHeld3
namespace Go.Proofs.Ytcgdeeinnfkgkaa.Stream
open Go.RowKit Go.Proofs.Ytcgdeeinnfkgkaa.Str Go.Proofs.Ytcgdeeinnfkgkaa.Base Go.Proofs.Ytcgdeeinnfkgkaa.Node Go.Proofs.Ytcgdeeinnfkgkaa.Head Go.Proofs.Ytcgdeeinnfkgkaa.Long Go.Proofs.Ytcgdeeinnfkgkaa.Entry
open Go.Proofs.Ytcgdeeinnfkgkaa.Tree (oneB mayT fewT)

theorem fewd {t : List Nd} (h : fewT t = true) : t.length ≤ 30 := (Tree.fewT_iff.1 h).1
theorem lit_d {w : World} {A : Option Addr} {n cap : Nat} {l : L} {e : TypeId} (h : RdA w A cap (bs l)) (hn : l.length = n) : RdL (w.alloc (.cells #[.slice A n cap] e)) (some ⟨w.heap.size, 0, none⟩) 1 [l] := by
  obtain ⟨A', c', he, hL⟩ := (Rows.one (e := e) h hn).rdL
  cases he
  exact hL
theorem sl_info : (Try.prog.info? 35).map (fun i => (i.zero, i.size, i.bytes)) = some (some (.slice none 0 0), 1, 24) := by kernel_rfl
theorem data_n (n : Nd) (v : Value) (e : v = nv n) (hn : SmallN n) (w : World) :
    Calls Try.prog 21 #[v] w fun e w' => e = .returned (.int .i64 (dataE n : Int)) ∧ Stp w w' := by
  subst e
  exact edata_s n hn w

/-- A place of a tree's stream: one of a node's bytes, or another one. -/
theorem place_data {t : List Nd} {k : Nat} {n : Nd} (hm : mayT t = true) (hk : t[k]? = some n) {i : Nat} (hi : i < (allS t).length) {d0 : Nat} (hd0 : d0 + dataE n = startN t (k + 1)) :
    (d0 ≤ i ∧ i < d0 + dataE n ∧ whereS t (i : Int) = ((k : Int), ((i - d0 : Nat) : Int)) ∧ (allS t)[i]? = (BlockM.cutV n.data)[i - d0]?) ∨
    ((i < d0 ∨ d0 + dataE n ≤ i) ∧ ((whereS t (i : Int)).1 ≠ (k : Int) ∨ (whereS t (i : Int)).2 < 0)) := by
  have hon := Tree.may_one hm hk
  have hw : whereS t (i : Int) = whereL t 0 i := by unfold whereS; rw [if_pos (by omega), Int.toNat_natCast]
  have hst := start_step hk
  have hdl := data_le n
  by_cases h1 : d0 ≤ i ∧ i < d0 + dataE n
  · left
    have e := whereL_in hk (i := i) (by omega) (by omega)
    refine ⟨h1.1, h1.2, ?_, ?_⟩
    · rw [hw, e]
      unfold ownV
      rw [if_neg (by omega)]
      congr 1
      omega
    · rw [all_at hm hk (i := i) (by omega) (by omega), put_data hon (by omega)]
      congr 1
      omega
  · right
    refine ⟨by omega, ?_⟩
    by_cases h2 : startN t t.length ≤ i
    · left
      rw [hw, whereL_out h2]
      have := (List.getElem?_eq_some_iff.1 hk).1
      show ((t.length : Int)) ≠ _
      omega
    · obtain ⟨k2, n2, hk2, s1, s2⟩ := place t i (by omega)
      rw [hw, whereL_in hk2 s1 s2]
      by_cases hkk : k2 = k
      · subst hkk
        rw [hk] at hk2
        cases hk2
        right
        show ownV n _ < 0
        unfold ownV
        rw [if_pos (by omega)]
        omega
      · left
        show ((k2 : Int)) ≠ _
        omega
theorem take_same (C : List L) {d0 i : Nat} (h : i < d0 ∨ d0 + C.length ≤ i) : C.take (i - d0) = C.take (i + 1 - d0) := by
  rcases h with h | h
  · rw [show i - d0 = 0 by omega, show i + 1 - d0 = 0 by omega]
  · rw [List.take_of_length_le (by omega), List.take_of_length_le (by omega)]
theorem take_more {C : List L} {d0 i : Nat} {x : L} (h : d0 ≤ i) (hx : C[i - d0]? = some x) : C.take (i + 1 - d0) = C.take (i - d0) ++ [x] := by
  rw [show i + 1 - d0 = i - d0 + 1 by omega, List.take_add_one, hx]
  rfl
theorem flat_len {C : List L} (h : ∀ x ∈ C, x.length = 512) (j : Nat) : ((C.take j).flatten).length ≤ 512 * C.length := by
  have h1 := BlockM.may_flatten (BlockM.mayV_iff.2 (fun x hx => h x (List.mem_of_mem_take hx)) : BlockM.mayV (C.take j) = true)
  rw [h1, List.length_take]
  omega
theorem flat_more {C : List L} {j : Nat} {x : L} (hx : C[j]? = some x) : (C.take (j + 1)).flatten = (C.take j).flatten ++ x := by
  rw [List.take_add_one, hx]
  simp

set_option maxRecDepth 100000 in
set_option maxHeartbeats 8000000 in
theorem data_no (I : StreamI) (t : List Nd) (k : Int) (A : Option Addr) (c : Nat) (w : World) (ha : RdN w A c t) (hst : ∀ n ∈ t, SmallN n) (ht : t.length < 9223372036854775808)
    (m F a b : Bool) (hF : fewT t = F) (hm : mayT t = m) (ga : decide (k < 0) = a) (gb : decide ((t.length : Int) ≤ k) = b) (hno : (F && (m && (!a && !b))) = false) :
    Calls Try.prog 7 #[.slice A t.length c, .int .i64 k] w fun e w' => e = .returned (.bool true) ∧ Stp w w' := by
  have h0 := Stp.refl w
  have Ha := Lib.hid ha
  have Hs := Lib.hid hst
  have Ht := Lib.hid ht
  have HI := Lib.hid I
  have HF := Lib.hid hF
  have Hm := Lib.hid hm
  clear ha hst ht I hF hm
  rcases F <;> rcases m <;> rcases a <;> rcases b
  all_goals first
    | (exfalso; simp at hno; done)
    | (clear hno
       go_enter Try.func7, Try.ntmps7
       go_wp2_with (first
         | (go_at_call 8; (with_reducible refine (awake_s HI.out _).mono ?_); rintro e w1 ⟨rfl, hs⟩; replace Ha := Lib.hid (Ha.out.keep hs); replace h0 := Stp.trans h0 hs; clear hs)
         | (go_at_call 9; (with_reducible refine (Tree.fewt_s t A c _ Ha.out Ht.out).mono ?_); rintro e w2 ⟨rfl, hs⟩; rw [HF.out]; replace Ha := Lib.hid (Ha.out.keep hs); replace h0 := Stp.trans h0 hs; clear hs)
         | (go_at_call 10; (with_reducible refine (Tree.tmay_s t A c _ Ha.out (by have := fewd HF.out; omega) Hs.out).mono ?_); rintro e w7 ⟨rfl, hs⟩; rw [Hm.out]; replace Ha := Lib.hid (Ha.out.keep hs); replace h0 := Stp.trans h0 hs; clear hs))
       go_ret
       exact ⟨rfl, h0⟩)

set_option maxRecDepth 100000 in
set_option maxHeartbeats 8000000 in
theorem data_in (I : StreamI) (t : List Nd) (k : Int) (A : Option Addr) (c : Nat) (w : World) (ha : RdN w A c t) (hst : ∀ n ∈ t, SmallN n) (ht : t.length < 9223372036854775808)
    (hF : fewT t = true) (hm : mayT t = true) (kn : Nat) (hkn : k = (kn : Int)) (n : Nd) (hn : t[kn]? = some n) :
    Calls Try.prog 7 #[.slice A t.length c, .int .i64 k] w fun e w' => e = .returned (.bool true) ∧ Stp w w' := by
  have h0 := Stp.refl w
  have hkl := (List.getElem?_eq_some_iff.1 hn).1
  have hon := Tree.may_one hm hn
  obtain ⟨d0, hd0⟩ : ∃ d0, d0 + dataE n = startN t (kn + 1) := ⟨startN t (kn + 1) - dataE n, by have := start_step hn; have := data_le n; omega⟩
  obtain ⟨C, hC⟩ : ∃ C, BlockM.cutV n.data = C := ⟨_, rfl⟩
  have hd400 : dataE n ≤ 400 := by have := data_le n; have := put_le20 n; omega
  have hCl : C.length = dataE n := by rw [← hC, BlockM.cutV_length, dataE, if_pos hon]
  obtain ⟨N, hN⟩ : ∃ N, (allS t).length = N := ⟨_, rfl⟩
  have hN402 : N ≤ 402 := by
    have q1 := blocks_le t
    have q2 := may_len hm
    rw [← hN, allS_yes hm, List.length_append, endsV_length]
    omega
  have hend : d0 + dataE n ≤ N := by
    have h1 := start_le t (kn + 1)
    have h2 := all_length hm
    rw [start_end] at h2
    omega
  have hpl : ∀ i, i < N → (d0 ≤ i ∧ i < d0 + dataE n ∧ whereS t (i : Int) = (k, ((i - d0 : Nat) : Int)) ∧ (allS t)[i]? = C[i - d0]?) ∨ ((i < d0 ∨ d0 + dataE n ≤ i) ∧ ((whereS t (i : Int)).1 ≠ k ∨ (whereS t (i : Int)).2 < 0)) := fun i hi => by
    rw [hkn, ← hC]
    exact place_data hm hn (by rw [hN]; exact hi) hd0
  have hm512 : ∀ x ∈ C, x.length = 512 := by rw [← hC]; exact BlockM.mayV_iff.1 (BlockM.cutV_may n.data)
  obtain ⟨D, hD⟩ : ∃ D, dataE n = D := ⟨_, rfl⟩
  rw [hD] at hCl hend hpl hd400
  have HD := Lib.hid hD
  have hflat : C.flatten = n.data ++ BlockM.noughts (512 * BlockM.manyN n.data.length - n.data.length) := by rw [← hC]; exact BlockM.cutV_flatten n.data
  have Ha := Lib.hid ha
  have Hs := Lib.hid hst
  have Ht := Lib.hid ht
  have HI := Lib.hid I
  have HF := Lib.hid hF
  have Hm := Lib.hid hm
  have HN := Lib.hid hN
  have Hn := Lib.hid hn
  have Hpl := Lib.hid hpl
  have H512 := Lib.hid hm512
  have Hflat := Lib.hid hflat
  have Hkn := Lib.hid hkn
  have HCl := Lib.hid hCl
  have Hend := Lib.hid hend
  have gk0 : decide (k < 0) = false := decide_eq_false (by omega)
  have gkl : decide ((t.length : Int) ≤ k) = false := decide_eq_false (by omega)
  clear ha hst ht I hF hm hN hn hpl hm512 hflat hkn hCl hend hd0 hon hC hkl hD
  go_enter Try.func7, Try.ntmps7
  go_wp2_with (first
    | (go_at_call 8; (with_reducible refine (awake_s HI.out _).mono ?_); rintro e w1 ⟨rfl, hs⟩; replace Ha := Lib.hid (Ha.out.keep hs); replace h0 := Stp.trans h0 hs; clear hs)
    | (go_at_call 9; (with_reducible refine (Tree.fewt_s t A c _ Ha.out Ht.out).mono ?_); rintro e w2 ⟨rfl, hs⟩; rw [HF.out]; replace Ha := Lib.hid (Ha.out.keep hs); replace h0 := Stp.trans h0 hs; clear hs)
    | (go_at_call 10; (with_reducible refine (Tree.tmay_s t A c _ Ha.out (by have := fewd HF.out; omega) Hs.out).mono ?_); rintro e w3 ⟨rfl, hs⟩; rw [Hm.out]; replace Ha := Lib.hid (Ha.out.keep hs); replace h0 := Stp.trans h0 hs; clear hs)
    | (go_at_call 11; (with_reducible refine (HI.out.all t _ rfl (by have := fewd HF.out; omega) Hs.out _ _ _ Ha.out).mono ?_); rintro e w4 ⟨B, d, rfl, hr, hs⟩; rw [HN.out]; have Hr := Lib.hid hr; replace Ha := Lib.hid (Ha.out.keep hs); replace h0 := Stp.trans h0 hs; clear hr hs))
  go_loopw [9, 10] (fun v x wr => ∃ i : Nat, i ≤ N ∧ x = .int .i64 (i : Int) ∧ Hid (Base.Rows wr w4.heap.size 35 v (C.take (i - d0))) ∧ Hid (Stp w4 wr)) (fun _ x _ => N - (intOf x).toNat)
  case atStart => exact ⟨0, by omega, rfl, Lib.hid (by rw [show 0 - d0 = 0 by omega]; exact Base.Rows.nil _ _ _), Lib.hid (Stp.refl w4)⟩
  case round =>
    obtain ⟨i, hi, rfl, HR, H1⟩ := hrel
    by_cases hlt : i < N
    · rcases Hpl.out i hlt with ⟨p1, p2, p3, p4⟩ | ⟨p1, p2⟩
      · obtain ⟨J, hJ⟩ : ∃ J : Int, ((i - d0 : Nat) : Int) = J := ⟨_, rfl⟩
        rw [hJ] at p3
        have HJ := Lib.hid p3
        have gJ : decide (0 ≤ J) = true := decide_eq_true (by omega)
        obtain ⟨x, hx⟩ : ∃ x, C[i - d0]? = some x := ⟨_, List.getElem?_eq_getElem (by have := HCl.out; omega)⟩
        rw [hx] at p4
        have hxl := H512.out x (List.mem_of_getElem? hx)
        obtain ⟨b, o, A2, c2, rfl, q0, r0⟩ := (Hr.out.keep H1.out).at_ p4
        rw [hxl] at q0
        have Hq := Lib.hid p4
        have Hx := Lib.hid hx
        have Hxl := Lib.hid hxl
        have Hp1 := Lib.hid p1
        obtain ⟨Av, cv, rfl, -⟩ := HR.out.rdL
        have hlen : (C.take (i - d0)).length = i - d0 := by rw [List.length_take]; have := HCl.out; omega
        rw [hlen] at HR ⊢
        have Hlen := Lib.hid hlen
        have gq : (J != ((i - d0 : Nat) : Int)) = false := by rw [hJ]; simp
        clear p3 p4 hx hxl hJ hlen r0
        go_wp2_with (first
          | (go_at_call 16; go_loud ((with_reducible refine (HI.out.whose t _ rfl (by have := fewd HF.out; omega) Hs.out (i : Int) (by omega) (by omega) _ _ _ (Ha.out.keep H1.out)).mono ?_); rintro e w5 ⟨rfl, hs⟩; rw [HJ.out]; replace H1 := Lib.hid (Stp.trans H1.out hs); replace HR := Lib.hid (HR.out.keep hs); clear hs q0; obtain ⟨b9, o9, A2, c2, e9, q0, r0⟩ := (Hr.out.keep H1.out).at_ Hq.out; cases e9; rw [Hxl.out] at q0; have Hr0 := Lib.hid r0; clear r0))
          | (at_builtin; go_loud (refine Base.wpList_append_rows (P := Try.prog) rfl (.tmp 68) (.tmp 73) 25 rfl 35 Try.underlying25 sl_info _ rfl (HR.out.keep (Stp.alloc (Stp.refl _) _)) rfl (lit_d Hr0.out Hxl.out) rfl (by rw [Hlen.out]; simp only [List.length_cons, List.length_nil]; omega) (Nat.le_trans H1.out.size (Stp.alloc (Stp.refl _) _).size) ?_; intro v' w6 hR6 hg6; have H6 := Lib.hid ((HR.out.keep (Stp.alloc (Stp.refl _) _)).stp (Stp.alloc H1.out _) (Nat.le_refl _) hg6); rw [← take_more Hp1.out Hx.out] at hR6; have HR6 := Lib.hid hR6; clear hR6 hg6)))
        go_roundw
        case rel => exact ⟨i + 1, by omega, by go_num, HR6, H6⟩
        case measure => simp [intOf]; omega
      · obtain ⟨K1, hK1⟩ : ∃ K1, (whereS t (i : Int)).1 = K1 := ⟨_, rfl⟩
        obtain ⟨J1, hJ1⟩ : ∃ J1, (whereS t (i : Int)).2 = J1 := ⟨_, rfl⟩
        rw [hK1, hJ1] at p2
        have HK := Lib.hid hK1
        have HJ := Lib.hid hJ1
        have hsame := take_same C (d0 := d0) (i := i) (by rw [HCl.out]; exact p1)
        rw [hsame] at HR
        clear hK1 hJ1 hsame
        by_cases hkk : K1 = k
        · have gk : (K1 == k) = true := by rw [beq_iff_eq]; exact hkk
          have gj : decide (0 ≤ J1) = false := decide_eq_false (by rcases p2 with p2 | p2 <;> omega)
          clear p1 p2 hkk
          go_wp2_with (go_at_call 16; go_loud ((with_reducible refine (HI.out.whose t _ rfl (by have := fewd HF.out; omega) Hs.out (i : Int) (by omega) (by omega) _ _ _ (Ha.out.keep H1.out)).mono ?_); rintro e w5 ⟨rfl, hs⟩; rw [HK.out, HJ.out]; replace H1 := Lib.hid (Stp.trans H1.out hs); replace HR := Lib.hid (HR.out.keep hs); clear hs))
          go_roundw
          case rel => exact ⟨i + 1, by omega, by go_num, HR, H1⟩
          case measure => simp [intOf]; omega
        · have gk : (K1 == k) = false := by rw [beq_eq_false_iff_ne]; exact hkk
          clear p1 p2 hkk
          go_wp2_with (go_at_call 16; go_loud ((with_reducible refine (HI.out.whose t _ rfl (by have := fewd HF.out; omega) Hs.out (i : Int) (by omega) (by omega) _ _ _ (Ha.out.keep H1.out)).mono ?_); rintro e w5 ⟨rfl, hs⟩; rw [HK.out, HJ.out]; replace H1 := Lib.hid (Stp.trans H1.out hs); replace HR := Lib.hid (HR.out.keep hs); clear hs))
          go_roundw
          case rel => exact ⟨i + 1, by omega, by go_num, HR, H1⟩
          case measure => simp [intOf]; omega
    · obtain rfl : i = N := by omega
      have hR := HR.out
      rw [List.take_of_length_le (by have := HCl.out; have := Hend.out; omega)] at hR
      obtain ⟨Av, cv, rfl, hL⟩ := hR.rdL
      rw [HCl.out]
      have HL := Lib.hid hL
      obtain ⟨w5, hw5⟩ : ∃ z, z = wr := ⟨_, rfl⟩
      subst hw5
      clear HR hR hL hlt hi
      go_wp2_with fail
      go_loopw [13, 14] (fun v x wr => ∃ j : Nat, j ≤ D ∧ x = .int .i64 (j : Int) ∧ v = .string ⟨((C.take j).flatten).toArray⟩ ∧ Hid (Stp w5 wr)) (fun _ x _ => D - (intOf x).toNat)
      case atStart => exact ⟨0, by omega, rfl, by simp, Lib.hid (Stp.refl w5)⟩
      case round =>
        obtain ⟨j, hj, rfl, rfl, H2⟩ := hrel
        by_cases hlt : j < D
        · obtain ⟨x, hx⟩ : ∃ x, C[j]? = some x := ⟨_, List.getElem?_eq_getElem (by have := HCl.out; omega)⟩
          have hxl := H512.out x (List.mem_of_getElem? hx)
          obtain ⟨b, o, A2, c2, rfl, q0, r0⟩ := (HL.out.keep H2.out).at_ hx
          have hcv := Block.str_rd r0
          have hadd := add_ll (C.take j).flatten x (by have h1 := flat_len H512.out j; have := HCl.out; omega)
          rw [← flat_more hx] at hadd
          rw [hxl] at q0 hcv
          clear hx r0 hxl
          go_wp2_with fail
          go_roundw
          case rel => exact ⟨j + 1, by omega, by go_num, rfl, H2⟩
          case measure => simp [intOf]; omega
        · obtain rfl : j = D := by omega
          have hfl := Hflat.out
          rw [List.take_of_length_le (by have := HCl.out; omega)]
          obtain ⟨Fl, hFl⟩ : ∃ Fl, C.flatten = Fl := ⟨_, rfl⟩
          rw [hFl] at hfl ⊢
          have hcut := cut_h Fl n.data.length (by rw [hfl, List.length_append]; omega)
          rw [show Fl.take n.data.length = n.data by rw [hfl, List.take_left]] at hcut
          have gl : decide ((n.data.length : Int) ≤ (Fl.length : Int)) = true := decide_eq_true (by rw [hfl, List.length_append]; omega)
          have hle : n.data.length ≤ Fl.length := by rw [hfl, List.length_append]; omega
          clear hfl hFl hlt
          have hkt : t[k.toNat]? = some n := by rw [Hkn.out, Int.toNat_natCast]; exact Hn.out
          have hk0 : 0 ≤ k := by have := Hkn.out; omega
          have hkl : k < (t.length : Int) := by have := Hkn.out; have := (List.getElem?_eq_some_iff.1 Hn.out).1; omega
          have hkn2 : k.toNat < t.length := by omega
          have Hsn := Lib.hid (Hs.out n (List.mem_of_getElem? hkt))
          obtain ⟨b, o, rfl, -, -⟩ := Ha.out.cells hkt
          have key : ∀ W, Stp wr W → (W.cell? ⟨b, o + k.toNat * 8, none⟩ = some (.string ⟨n.path.toArray⟩) ∧ W.cell? ⟨b, o + k.toNat * 8 + 1, none⟩ = some (.string ⟨n.link.toArray⟩) ∧ W.cell? ⟨b, o + k.toNat * 8 + 2, none⟩ = some (.int .u8 (n.kind.toNat : Int)) ∧ W.cell? ⟨b, o + k.toNat * 8 + 3, none⟩ = some (.int .i64 n.mode) ∧ W.cell? ⟨b, o + k.toNat * 8 + 4, none⟩ = some (.int .i64 n.uid) ∧ W.cell? ⟨b, o + k.toNat * 8 + 5, none⟩ = some (.int .i64 n.gid) ∧ W.cell? ⟨b, o + k.toNat * 8 + 6, none⟩ = some (.int .i64 n.time) ∧ W.cell? ⟨b, o + k.toNat * 8 + 7, none⟩ = some (.string ⟨n.data.toArray⟩)) := fun W hW => by
            obtain ⟨b9, o9, e9, -, r⟩ := (Ha.out.keep (Stp.trans H1.out (Stp.trans H2.out hW))).cells hkt
            cases e9
            exact r
          have Key := Lib.hid key
          have H3 := Lib.hid (Stp.trans h0 (Stp.trans H1.out H2.out))
          clear key hkt h0
          go_wp2_with fail
          go_region_held3 (fun W : World => (W.cell? ⟨b, o + k.toNat * 8, none⟩ = some (.string ⟨n.path.toArray⟩) ∧ W.cell? ⟨b, o + k.toNat * 8 + 1, none⟩ = some (.string ⟨n.link.toArray⟩) ∧ W.cell? ⟨b, o + k.toNat * 8 + 2, none⟩ = some (.int .u8 (n.kind.toNat : Int)) ∧ W.cell? ⟨b, o + k.toNat * 8 + 3, none⟩ = some (.int .i64 n.mode) ∧ W.cell? ⟨b, o + k.toNat * 8 + 4, none⟩ = some (.int .i64 n.uid) ∧ W.cell? ⟨b, o + k.toNat * 8 + 5, none⟩ = some (.int .i64 n.gid) ∧ W.cell? ⟨b, o + k.toNat * 8 + 6, none⟩ = some (.int .i64 n.time) ∧ W.cell? ⟨b, o + k.toNat * 8 + 7, none⟩ = some (.string ⟨n.data.toArray⟩)))
            (first | exact Key.out _ (stp_drew (Stp.refl _)) | exact Key.out _ H4.out)
            (first | (go_at_call 21; (with_reducible refine (data_n n _ rfl Hsn.out _).mono ?_); rintro e w6 ⟨rfl, hs⟩; rw [HD.out]; have H4 := Lib.hid (Stp.trans (stp_drew (Stp.refl wr)) hs); clear hs))
          go_wp2_with fail
          go_ret
          exact ⟨by simp, Stp.trans H3.out H4.out⟩
theorem sdata_s (I : StreamI) (t : List Nd) (k : Int) (A : Option Addr) (c : Nat) (w : World) (ha : RdN w A c t) (hst : ∀ n ∈ t, SmallN n) (ht : t.length < 9223372036854775808) :
    Calls Try.prog 7 #[.slice A t.length c, .int .i64 k] w fun e w' => e = .returned (.bool true) ∧ Below w.heap.size w w' := by
  cases hF : fewT t with
  | false => exact data_no I t k A c w ha hst ht _ _ _ _ hF rfl rfl rfl (by simp)
  | true =>
    cases hm : mayT t with
    | false => exact data_no I t k A c w ha hst ht _ _ _ _ hF hm rfl rfl (by simp)
    | true =>
      by_cases h : 0 ≤ k ∧ k < (t.length : Int)
      · obtain ⟨kn, hkn⟩ : ∃ kn : Nat, k = (kn : Int) := ⟨k.toNat, by omega⟩
        exact data_in I t k A c w ha hst ht hF hm kn hkn _ (List.getElem?_eq_getElem (by omega))
      · refine data_no I t k A c w ha hst ht _ _ _ _ hF hm rfl rfl ?_
        by_cases h0 : k < 0
        · simp [h0]
        · have h1 : (t.length : Int) ≤ k := by omega
          simp [h1]
end Go.Proofs.Ytcgdeeinnfkgkaa.Stream
