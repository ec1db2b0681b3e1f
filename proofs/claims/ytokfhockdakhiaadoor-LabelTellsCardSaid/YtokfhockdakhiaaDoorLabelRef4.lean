/-
  The document's answers for labels: Get: its contract; no statement is proved here.
-/
import Derived.Test.YtokfhockdakhiaaDoorLabelNameW
import Derived.Test.YtokfhockdakhiaaDoorLabelTellsW
namespace Go.Proofs.YtokfhockdakhiaaDoor.Label
open Go.RowKit Go.Proofs.YtokfhockdakhiaaDoor.Str Go.Proofs.YtokfhockdakhiaaDoor.Base Go.Proofs.YtokfhockdakhiaaDoor.Head Go.Proofs.YtokfhockdakhiaaDoor.LabelM
set_option linter.unusedVariables false

def IRel (q : Nat) (D : L) (m i : Value) : Prop := ∃ j : Nat, j ≤ D.length ∧ i = .int .i64 ((q : Int) + 8 + (j : Int)) ∧ m = .int .i64 (numV (D.take j))
theorem tries_next {l x : L} {k : Nat} (h : ∀ i, 9 ≤ i → i < k → tryD l x i = none) (hk : tryD l x k = none) : ∀ i, 9 ≤ i → i < k + 1 → tryD l x i = none := fun i a b => by
  by_cases e : i = k
  · rw [e]
    exact hk
  · exact h i a (by omega)
theorem num_wide : ∀ {l : L}, l.length ≤ 3 → -5328 ≤ numV l ∧ numV l ≤ 28305
  | [], _ => ⟨by decide, by decide⟩
  | [a], _ => by
    have := a.toNat_lt
    show -5328 ≤ 10 * (0 : Int) + ((a.toNat : Int) - 48) ∧ 10 * (0 : Int) + ((a.toNat : Int) - 48) ≤ 28305
    omega
  | [a, b], _ => by
    have := a.toNat_lt
    have := b.toNat_lt
    show -5328 ≤ 10 * (10 * (0 : Int) + ((a.toNat : Int) - 48)) + ((b.toNat : Int) - 48) ∧ 10 * (10 * (0 : Int) + ((a.toNat : Int) - 48)) + ((b.toNat : Int) - 48) ≤ 28305
    omega
  | [a, b, c], _ => by
    have := a.toNat_lt
    have := b.toNat_lt
    have := c.toNat_lt
    show -5328 ≤ 10 * (10 * (10 * (0 : Int) + ((a.toNat : Int) - 48)) + ((b.toNat : Int) - 48)) + ((c.toNat : Int) - 48) ∧ 10 * (10 * (10 * (0 : Int) + ((a.toNat : Int) - 48)) + ((b.toNat : Int) - 48)) + ((c.toNat : Int) - 48) ≤ 28305
    omega
  | a :: b :: c :: d :: r, h => by simp at h
theorem name_100 {l : L} (h : codeB l = 0) : (getH l).name.length ≤ 100 := by
  have := (ok_blk h).1
  unfold mayH elseZ txtsOk okT at this
  simp at this
  omega
theorem getL_all {l : L} (hc : codeB l = 0) (h : ∀ i, 9 ≤ i → i < 12 → tryD l (getH l).name i = none) : getL l = ([], 0, 11) := by
  rw [getL, if_neg (by simp [hc]), h 9 (by omega) (by omega), h 10 (by omega) (by omega), h 11 (by omega) (by omega)]
  rfl
theorem getL_at {l : L} (hc : codeB l = 0) {k : Nat} (h1 : 9 ≤ k) (h2 : k < 12) (h : ∀ i, 9 ≤ i → i < k → tryD l (getH l).name i = none) {s : L} {n : Int} (hs : tryD l (getH l).name k = some (s, n)) : getL l = (s, n, 0) := by
  rw [getL, if_neg (by simp [hc])]
  obtain rfl | rfl | rfl : k = 9 ∨ k = 10 ∨ k = 11 := by omega
  · rw [hs]
    rfl
  · rw [h 9 (by omega) (by omega), hs]
    rfl
  · rw [h 9 (by omega) (by omega), h 10 (by omega) (by omega), hs]
    rfl
theorem rget_n (l : L) (A : Option Addr) (n c : Nat) (w : World) (ha : RdA w A c (bs l)) (hn : l.length = n) :
    Calls Tryd.prog 24 #[.slice A n c] w fun e w' => e = .returned (.tuple #[hv (getH l), .int .i64 (codeB l)]) ∧ Stp w w' := by
  subst hn
  exact rGet_s l A c w ha
set_option maxRecDepth 100000 in
set_option maxHeartbeats 2000000 in
theorem rlget_no (l : L) (z : Nat) (hz : l.length = z) (cd : Int) (hc : codeB l = cd) (h0 : cd ≠ 0) (A : Option Addr) (c : Nat) (w : World) (ha : RdA w A c (bs l)) :
    Calls Tryd.prog 15 #[.slice A z c] w fun e w' => e = .returned (.tuple #[.string ⟨#[]⟩, .int .i64 0, .int .i64 cd]) ∧ Stp w w' := by
  have HB := Lib.hid ha
  have Hz := Lib.hid hz
  have Hc := Lib.hid hc
  have k1 : (cd != 0) = true := by simp [h0]
  clear ha hz hc h0
  go_enter Tryd.func15, Tryd.ntmps15
  go_wp2_with (go_at_call 24; refine (rget_n l A z c _ HB.out Hz.out).mono ?_; rintro e w2 ⟨rfl, hs1⟩; rw [Hc.out]; have H := Lib.hid (Stp.alloc hs1 (.cells (hcells (getH l)) 35)); clear hs1)
  refine bodyPost_ret (v := .tuple #[.string ⟨#[]⟩, .int .i64 0, .int .i64 cd]) (by simp [results, Tryd.results15, go_sem, *]) rfl ⟨rfl, H.out⟩
set_option maxRecDepth 100000 in
set_option maxHeartbeats 4000000 in
theorem rlget_yes (l : L) (z : Nat) (hz : l.length = z) (hc : codeB l = 0) (s : L) (n e0 : Int) (hg : getL l = (s, n, e0)) (A : Option Addr) (c : Nat) (w : World) (ha : RdA w A c (bs l)) :
    Calls Tryd.prog 15 #[.slice A z c] w fun e w' => e = .returned (.tuple #[.string ⟨s.toArray⟩, .int .i64 n, .int .i64 e0]) ∧ Stp w w' := by
  have HB := Lib.hid ha
  have Hz := Lib.hid hz
  have Hc := Lib.hid hc
  obtain ⟨G, hG⟩ : ∃ G, getH l = G := ⟨_, rfl⟩
  have HG := Lib.hid hG
  have Hg := Lib.hid hg
  clear ha hz hc hG hg
  go_enter Tryd.func15, Tryd.ntmps15
  go_wp2_with (go_at_call 24; refine (rget_n l A z c _ HB.out Hz.out).mono ?_; rintro e w2 ⟨rfl, hs1⟩; rw [Hc.out, HG.out]; have H := Lib.hid (Stp.alloc hs1 (.cells (hcells G) 35)); have HK := Lib.hid (Blk.new w2 35 (hcells G)); clear hs1)
  have HB2 := Lib.hid (HB.out.keep H.out)
  obtain ⟨hb, hhb⟩ : ∃ x, w2.heap.size = x := ⟨_, rfl⟩
  rw [hhb] at HK ⊢
  clear hhb HB
  generalize w2.alloc (Obj.cells (hcells G) 35) = W at H HK HB2 ⊢
  obtain ⟨xl, hxl⟩ : ∃ n, G.name.length = n := ⟨_, rfl⟩
  have hsz : G.name.toArray.size = xl := by simpa using hxl
  have h100 : xl ≤ 100 := by rw [← hxl, ← HG.out]; exact name_100 Hc.out
  have Hxl := Lib.hid hxl
  clear hxl
  go_loopw [7] (fun d wr => ∃ k : Nat, 9 ≤ k ∧ k ≤ 12 ∧ d = .int .i64 (k : Int) ∧ Hid (∀ i, 9 ≤ i → i < k → tryD l G.name i = none) ∧ Hid (Stp w wr) ∧ Hid (Blk wr hb 35 (hcells G)) ∧ Hid (RdA wr A c (bs l))) (fun d _ => 12 - (intOf d).toNat)
  case atStart => exact ⟨9, by omega, by omega, rfl, Lib.hid (fun i a b => absurd a (by omega)), H, HK, HB2⟩
  case round =>
    obtain ⟨k, hk9, hk12, rfl, HT, H4, HK4, HB4⟩ := hrel
    by_cases hout : k = 12 ∨ xl ≤ k
    · have hall : getL l = ([], 0, 11) := getL_all Hc.out (fun i a b => by
        rw [HG.out]
        by_cases hik : i < k
        · exact HT.out i a hik
        · rw [tryD, if_neg]
          rintro ⟨h1, _⟩
          rw [Hxl.out] at h1
          omega)
      have hq := Hg.out
      rw [hall] at hq
      cases hq
      clear hall
      have key : decide ((k : Int) ≤ 11) = false ∨ (decide ((k : Int) ≤ 11) = true ∧ decide (k < xl) = false) := by
        by_cases h : k = 12
        · exact .inl (decide_eq_false (by omega))
        · exact .inr ⟨decide_eq_true (by omega), decide_eq_false (by omega)⟩
      clear hout
      obtain ⟨x0, x1, x2, x3, x4, x5, x6, x7, x8, x9, x10⟩ := hd_cells HK4.out
      rcases key with g1 | ⟨g1, g2⟩
      all_goals
        go_wp2_with fail
        refine bodyPost_ret (v := .tuple #[.string ⟨#[]⟩, .int .i64 0, .int .i64 11]) (by simp [results, Tryd.results15, go_sem, *]) rfl ⟨rfl, H4.out⟩
    · have g1 : decide ((k : Int) ≤ 11) = true := decide_eq_true (by omega)
      have g2 : decide (k < xl) = true := decide_eq_true (by omega)
      obtain ⟨x0, x1, x2, x3, x4, x5, x6, x7, x8, x9, x10⟩ := hd_cells HK4.out
      obtain ⟨q, hq⟩ : ∃ q, xl - k = q := ⟨_, rfl⟩
      have hqi : (xl : Int) - (k : Int) = (q : Int) := by omega
      have c1 : (0 : Int) ≤ (q : Int) := by omega
      have c2 : (q : Int) ≤ (xl : Int) := by omega
      have he : (⟨G.name.toArray⟩ : ByteArray).extract 0 q = ⟨(G.name.take q).toArray⟩ := ba_eq (by rw [ByteArray.data_extract]; simp)
      have c3 : (0 : Int) ≤ (xl : Int) - (k : Int) := by omega
      have c4 : (xl : Int) - (k : Int) ≤ (xl : Int) := by omega
      go_wp2_with fail
      clear x0 x1 x2 x3 x4 x5 x6 x7 x8 x9 x10
      obtain ⟨D, hD⟩ : ∃ D, G.name.drop (q + 8) = D := ⟨_, rfl⟩
      have hDl : D.length = k - 8 := by rw [← hD, List.length_drop, Hxl.out]; omega
      have Hi := Lib.hid (show ∀ j x, D[j]? = some x → G.name[q + 8 + j]? = some x from fun j x h => by rw [← hD, List.getElem?_drop] at h; exact h)
      obtain ⟨L, hL⟩ : ∃ L, G.name.take q = L := ⟨_, rfl⟩
      have hLl : L.length ≤ 9223372036854775807 := by rw [← hL, List.length_take, Hxl.out]; omega
      rw [hL] at he ⊢
      obtain ⟨r, hr⟩ : ∃ r, putL L (numV D) = r := ⟨_, rfl⟩
      obtain ⟨p, mb⟩ := r
      have HP := Lib.hid hr
      have hgive : (mb = false ∧ tryD l G.name k = none) ∨ (mb = true ∧ (p == l) = false ∧ tryD l G.name k = none) ∨ (mb = true ∧ p = l ∧ tryD l G.name k = some (L, numV D)) := by
        have e : tryD l G.name k = if k < xl ∧ putL L (numV D) = (l, true) then some (L, numV D) else none := by rw [tryD, Hxl.out, hq, hL, hD]
        rw [e, hr]
        cases mb
        · exact .inl ⟨rfl, if_neg (by rintro ⟨_, h⟩; cases h)⟩
        · by_cases h : p = l
          · exact .inr (.inr ⟨rfl, h, if_pos ⟨by omega, by rw [h]⟩⟩)
          · exact .inr (.inl ⟨rfl, beq_eq_false_iff_ne.2 h, if_neg (by rintro ⟨_, h'⟩; rw [Prod.mk.injEq] at h'; exact h h'.1)⟩)
      have HV := Lib.hid hgive
      clear hr hD hL hgive
      go_loop [9, 10] (fun m i => IRel q D m i) (fun _ i => xl - (intOf i).toNat)
      case atStart => exact ⟨0, by omega, congrArg (Value.int .i64) (by omega), rfl⟩
      case round =>
        obtain ⟨x0, x1, x2, x3, x4, x5, x6, x7, x8, x9, x10⟩ := hd_cells HK4.out
        obtain ⟨j, hj, rfl, rfl⟩ := hrel
        have hj3 : j ≤ 3 := by omega
        obtain ⟨v1, v2⟩ := num_wide (l := D.take j) (by rw [List.length_take]; omega)
        by_cases hlt : j < D.length
        · obtain ⟨b, hb⟩ : ∃ b, D[j]? = some b := ⟨_, List.getElem?_eq_getElem hlt⟩
          have hst := num_next hb
          have hix := Str.idx_l G.name ((q : Int) + 8 + (j : Int)) b (by omega) (by rw [show ((q : Int) + 8 + (j : Int)).toNat = q + 8 + j from by omega]; exact Hi.out j b hb)
          have d2 := b.toNat_lt
          obtain ⟨y, hy⟩ : ∃ y : Int, (b.toNat : Int) = y := ⟨_, rfl⟩
          obtain ⟨v, hv⟩ : ∃ v : Int, numV (D.take j) = v := ⟨_, rfl⟩
          have e1 : 0 ≤ y := by omega
          have e2 : y ≤ 255 := by omega
          rw [hv] at v1 v2 hst ⊢
          rw [hy] at hix hst
          have g3 : decide ((q : Int) + 8 + (j : Int) < (xl : Int)) = true := decide_eq_true (by omega)
          have R := Lib.hid (show IRel q D (.int .i64 (10 * v + y - 48)) (.int .i64 ((q : Int) + 8 + (j : Int) + 1)) from ⟨j + 1, by omega, congrArg (Value.int .i64) (by omega), congrArg (Value.int .i64) (by omega)⟩)
          have hm : xl - ((q : Int) + 8 + (j : Int) + 1).toNat < xl - ((q : Int) + 8 + (j : Int)).toNat := by omega
          have Hms := Lib.hid hm
          clear hb hst hy hv d2 hm
          go_wp2_with fail
          go_round
          · first
              | exact R.out
              | (repeat apply Exists.intro
                 refine ⟨R.out, ?_⟩
                 repeat' first | rfl | constructor)
          · exact Hms.out
        · have g3 : decide ((q : Int) + 8 + (j : Int) < (xl : Int)) = false := decide_eq_false (by omega)
          rw [show D.take j = D from List.take_of_length_le (by omega)] at v1 v2 ⊢
          have hv := HV.out
          rcases hv with ⟨rfl, ht⟩ | ⟨rfl, hne, ht⟩ | ⟨rfl, rfl, ht⟩
          all_goals have Ht := Lib.hid ht
          all_goals clear ht HV
          all_goals go_wp2_with (go_at_call 13; (with_reducible refine (rlput_s L _ rfl hLl (numV D) _ _ _ HP.out rfl _).mono ?_); rintro e w5 ⟨A5, c5, rfl, hr, hs1⟩; have H5 := Lib.hid (Stp.trans H4.out hs1); have HB5 := Lib.hid (HB4.out.keep hs1); have HK5 := Lib.hid (HK4.out.keep hs1 HK4.out.lt); have hcp := str_rd hr; have hcb := str_rd HB5.out; rw [Hz.out] at hcb; clear hr hs1 x0 x1 x2 x3 x4 x5 x6 x7 x8 x9 x10)
          · refine ⟨⟨k + 1, by omega, by omega, by go_num, Lib.hid ?_, H5, HK5, HB5⟩, by simp [intOf]; omega⟩
            exact tries_next HT.out Ht.out
          · refine ⟨⟨k + 1, by omega, by omega, by go_num, Lib.hid ?_, H5, HK5, HB5⟩, by simp [intOf]; omega⟩
            exact tries_next HT.out Ht.out
          · have hall := getL_at Hc.out hk9 (show k < 12 by omega) (by rw [HG.out]; exact HT.out) (by rw [HG.out]; exact Ht.out)
            have hq2 := Hg.out
            rw [hall, Prod.mk.injEq, Prod.mk.injEq] at hq2
            obtain ⟨rfl, rfl, rfl⟩ := hq2
            refine bodyPost_ret (v := .tuple #[.string ⟨L.toArray⟩, .int .i64 (numV D), .int .i64 0]) (by simp [results, Tryd.results15, go_sem, *]) rfl ⟨rfl, H5.out⟩
theorem rlget_s : RefGet := by
  intro l z hz s n e0 hg A c w ha
  by_cases hc : codeB l = 0
  · exact rlget_yes l z hz hc s n e0 hg A c w ha
  · rw [getL, if_pos hc] at hg
    rw [Prod.mk.injEq, Prod.mk.injEq] at hg
    obtain ⟨rfl, rfl, rfl⟩ := hg
    exact rlget_no l z hz _ rfl hc A c w ha
end Go.Proofs.YtokfhockdakhiaaDoor.Label
