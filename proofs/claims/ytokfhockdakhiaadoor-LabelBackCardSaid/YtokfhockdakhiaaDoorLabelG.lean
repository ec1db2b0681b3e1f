/-
  Package label's own guess (a header's name as a label and a number): its contract; no statement is proved here.
-/
import Derived.Test.YtokfhockdakhiaaDoorLabelM
import Derived.Test.YtokfhockdakhiaaDoorBase
import Derived.Test.YtokfhockdakhiaaDoorShelf
import Derived.Lib.OthersKept
import Derived.Lib.AppendIntMem
import Derived.Lib.LastIndexLaws
namespace Go.Proofs.YtokfhockdakhiaaDoor.Label
open Go.RowKit Go.Proofs.YtokfhockdakhiaaDoor.Str Go.Proofs.YtokfhockdakhiaaDoor.Base Go.Proofs.YtokfhockdakhiaaDoor.Head Go.Proofs.YtokfhockdakhiaaDoor.LabelM
set_option linter.unusedVariables false

theorem itoa_dig {n : Nat} (h : 1 ≤ n) : Lib.decDigits n = dig n := by
  induction n using Nat.strongRecOn with
  | _ n ih =>
    rw [Lib.decDigits, dig_more (by omega)]
    by_cases h2 : n < 10
    · rw [dif_pos h2, show n / 10 = 0 by omega, dig_zero, show n % 10 = n by omega]
      rfl
    · rw [dif_neg h2, ih (n / 10) (by omega) (by omega)]
theorem itoa_of {n : Int} (h : 1 ≤ n) : Lib.itoa n = dig n.toNat := by
  rw [Lib.itoa, if_neg (by omega), itoa_dig (by omega)]
/-- Where a label's name has what stands between, last. -/
theorem last_name (s : L) (k : Nat) : Lib.lastIndex (nameV s k) volS = (s.length : Int) := by
  have hl := nameV_len s k
  rw [Lib.lastIndex, if_pos (by rw [hl, volS_len]; omega)]
  have h0 : Lib.occAt (nameV s k) volS s.length = true := by
    rw [Lib.occAt, List.isPrefixOf_iff_prefix, nameV, List.append_assoc, List.drop_left]
    exact List.prefix_append _ _
  rcases Lib.lastOcc_spec (nameV s k) volS ((nameV s k).length - volS.length + 1) with ⟨-, hn⟩ | ⟨i, hi, e, hc, hn⟩
  · have := hn s.length (by rw [hl, volS_len]; omega)
    rw [h0] at this
    cases this
  · rw [e]
    rcases Nat.lt_trichotomy i s.length with h | h | h
    · have := hn s.length h (by rw [hl, volS_len]; omega)
      rw [h0] at this
      cases this
    · rw [h]
    · exfalso
      rw [Lib.occAt, List.isPrefixOf_iff_prefix] at hc
      obtain ⟨t, ht⟩ := hc
      have e1 : ((nameV s k).drop i)[7]? = some 32 := by rw [← ht]; rfl
      rw [List.getElem?_drop, nameV, List.getElem?_append_right (by rw [List.length_append, volS_len]; omega)] at e1
      have := dig_bytes k _ (List.mem_of_getElem? e1)
      have e32 : (32 : UInt8).toNat = 32 := rfl
      omega
theorem last_bounds (x : L) : Lib.lastIndex x volS < 0 ∨ ∃ i : Nat, Lib.lastIndex x volS = (i : Int) ∧ i + 8 ≤ x.length := by
  rw [Lib.lastIndex]
  by_cases h : volS.length ≤ x.length
  · rw [if_pos h]
    rcases Lib.lastOcc_spec x volS (x.length - volS.length + 1) with ⟨e, -⟩ | ⟨i, hi, e, -, -⟩
    · exact .inl (by rw [e]; omega)
    · rw [volS_len] at h hi
      exact .inr ⟨i, e, by omega⟩
  · rw [if_neg h]
    exact .inl (by omega)
theorem name_parts (s : L) (k : Nat) : (nameV s k).take s.length = s ∧ (nameV s k).drop (s.length + 8) = dig k := by
  constructor
  · rw [nameV, List.append_assoc, List.take_left]
  · rw [nameV]
    exact List.drop_left' (by rw [List.length_append, volS_len])
theorem no_name {x : L} (h : Lib.lastIndex x volS < 0) (s : L) (k : Nat) : x ≠ nameV s k := by
  rintro rfl
  rw [last_name] at h
  omega
set_option maxRecDepth 100000 in
set_option maxHeartbeats 4000000 in
theorem guess_no (x : L) (hx : x.length ≤ 100) (i : Int) (hi : Lib.lastIndex x volS = i) (hneg : i < 0) (w : World) :
    Calls Tryd.prog 22 #[.string ⟨x.toArray⟩] w fun e w' => e = .returned (.tuple #[.string ⟨#[]⟩, .int .i64 0]) ∧ w' = w := by
  have Hi := Lib.hid hi
  have Hs : Hid ((⟨x.toArray⟩ : ByteArray).size < 4611686018427387904) := Lib.hid (by show x.toArray.size < _; simp; omega)
  clear hi hx
  go_enter Tryd.func22, Tryd.ntmps22
  go_wp2_with (go_at_call 41; refine (Tryd.strings_LastIndex ⟨x.toArray⟩ _ Hs.out _).mono ?_; rintro e w1 ⟨rfl, rfl⟩; rw [show Lib.lastIndex (⟨x.toArray⟩ : ByteArray).data.toList (⟨#[32, 86, 111, 108, 117, 109, 101, 32]⟩ : ByteArray).data.toList = i from Hi.out])
  go_ret2
  exact ⟨rfl, rfl⟩
theorem num_next {D : L} {j : Nat} {b : UInt8} (h : D[j]? = some b) : numV (D.take (j + 1)) = 10 * numV (D.take j) + (b.toNat : Int) - 48 := by
  rw [List.take_add_one, h]
  show numG (D.take j ++ [b]) 0 = _
  rw [numG_append]
  show 10 * numG (D.take j) 0 + ((b.toNat : Int) - 48) = 10 * numG (D.take j) 0 + (b.toNat : Int) - 48
  omega
theorem num_small : ∀ {l : L}, (∀ x ∈ l, 48 ≤ x.toNat ∧ x.toNat ≤ 57) → l.length ≤ 3 → 0 ≤ numV l ∧ numV l ≤ 999
  | [], _, _ => ⟨by decide, by decide⟩
  | [a], h, _ => by
    have := h a (by simp)
    show 0 ≤ 10 * (0 : Int) + ((a.toNat : Int) - 48) ∧ 10 * (0 : Int) + ((a.toNat : Int) - 48) ≤ 999
    omega
  | [a, b], h, _ => by
    have := h a (by simp)
    have := h b (by simp)
    show 0 ≤ 10 * (10 * (0 : Int) + ((a.toNat : Int) - 48)) + ((b.toNat : Int) - 48) ∧ 10 * (10 * (0 : Int) + ((a.toNat : Int) - 48)) + ((b.toNat : Int) - 48) ≤ 999
    omega
  | [a, b, c], h, _ => by
    have := h a (by simp)
    have := h b (by simp)
    have := h c (by simp)
    show 0 ≤ 10 * (10 * (10 * (0 : Int) + ((a.toNat : Int) - 48)) + ((b.toNat : Int) - 48)) + ((c.toNat : Int) - 48) ∧ 10 * (10 * (10 * (0 : Int) + ((a.toNat : Int) - 48)) + ((b.toNat : Int) - 48)) + ((c.toNat : Int) - 48) ≤ 999
    omega
  | a :: b :: c :: d :: r, _, h => by simp at h
def Dg (t : L) : Prop := (∀ c ∈ t, 48 ≤ c.toNat ∧ c.toNat ≤ 57) ∧ t.length ≤ 3
def GRel (t : L) (w wr : World) : Prop := ∃ (pos : Nat) (v : Int), wr.heap[w.heap.size + 1]? = some (.stringIter ⟨t.toArray⟩ pos) ∧ Blk wr w.heap.size 3 #[.int .i64 v] ∧ Stp w wr ∧ Hid (Dg t → pos ≤ t.length ∧ v = numV (t.take pos))
theorem next_step (t : L) (pos : Nat) (h : pos < (⟨t.toArray⟩ : ByteArray).size) : 1 ≤ (Utf8.decode ⟨t.toArray⟩ pos).2 ∧ (Dg t → ∃ b, t[pos]? = some b ∧ Utf8.decode ⟨t.toArray⟩ pos = (b.toNat, 1)) := by
  have hl : pos < t.length := by simpa [ByteArray.size] using h
  have hb : (⟨t.toArray⟩ : ByteArray)[pos]'h = t[pos] := by simp [ByteArray.getElem_eq_getElem_data]
  by_cases ha : ((⟨t.toArray⟩ : ByteArray)[pos]'h).toNat < 128
  · rw [decode_ascii _ pos h ha]
    exact ⟨Nat.le_refl _, fun _ => ⟨t[pos], List.getElem?_eq_getElem hl, by rw [hb]⟩⟩
  · refine ⟨(decode_high _ pos h (by omega)).2, fun hd => ?_⟩
    have := hd.1 t[pos] (List.getElem_mem hl)
    rw [hb] at ha
    omega
set_option maxRecDepth 100000 in
theorem gather_s (g : Nat) (r v : Int) (w : World) (q1 : w.cell? ⟨g, 0, none⟩ = some (.int .i64 v)) (q2 : w.frozen? ⟨g, 0, none⟩ = false) :
    Calls Tryd.prog 42 #[.int .i32 r, .pointer (some ⟨g, 0, none⟩)] w fun e w' => e = .returned (.tuple #[]) ∧ w' = w.setCell ⟨g, 0, none⟩ (.int .i64 (wrap64 (wrap64 (v * 10) + wrap64 (wrap32 (r - 48))))) := by
  go_enter Tryd.func42, Tryd.ntmps42
  go_wp2
  go_end0
  exact ⟨rfl, rfl⟩
theorem gathered {r v : Int} (h0 : 0 ≤ v) (h1 : v ≤ 999) (h2 : 48 ≤ r) (h3 : r ≤ 57) : wrap64 (wrap64 (v * 10) + wrap64 (wrap32 (r - 48))) = 10 * v + (r - 48) := by
  unfold wrap64 wrap32
  omega
set_option maxRecDepth 100000 in
set_option maxHeartbeats 4000000 in
theorem guess_yes (x : L) (hx : x.length ≤ 100) (j : Nat) (hi : Lib.lastIndex x volS = (j : Int)) (hj : j + 8 ≤ x.length) (w : World) :
    Calls Tryd.prog 22 #[.string ⟨x.toArray⟩] w fun e w' => ∃ n : Int, e = .returned (.tuple #[.string ⟨(x.take j).toArray⟩, .int .i64 n]) ∧ Stp w w' ∧ ((∀ c ∈ x.drop (j + 8), 48 ≤ c.toNat ∧ c.toNat ≤ 57) → (x.drop (j + 8)).length ≤ 3 → n = numV (x.drop (j + 8))) := by
  have Hi := Lib.hid hi
  have Hs : Hid ((⟨x.toArray⟩ : ByteArray).size < 4611686018427387904) := Lib.hid (by show x.toArray.size < _; simp; omega)
  have c1 := fun w => cut_l x (j + 8) hj w
  have c2 := fun w => cut_h x j (by omega) w
  obtain ⟨t, ht⟩ : ∃ t, x.drop (j + 8) = t := ⟨_, rfl⟩
  obtain ⟨g, hg⟩ : ∃ g, x.take j = g := ⟨_, rfl⟩
  rw [ht] at c1 ⊢
  rw [hg] at c2 ⊢
  rw [Int.natCast_add] at c1
  replace c1 : ∀ w, (Instr.slice 9 (.string ⟨x.toArray⟩) (some (.int .i64 ((j : Int) + 8))) none none).run Tryd.prog w = .ok (.string ⟨t.toArray⟩) w := c1
  have b1 : (j : Int) ≤ 92 := by omega
  have b2 : 0 ≤ (j : Int) := by omega
  obtain ⟨q, hq⟩ : ∃ q : Int, (j : Int) = q := ⟨_, rfl⟩
  rw [hq] at c1 c2 b1 b2 Hi
  clear hi hx ht hg hj hq
  go_enter Tryd.func22, Tryd.ntmps22
  go_wp2_with (go_at_call 41; refine (Tryd.strings_LastIndex ⟨x.toArray⟩ _ Hs.out _).mono ?_; rintro e w1 ⟨rfl, rfl⟩; rw [show Lib.lastIndex (⟨x.toArray⟩ : ByteArray).data.toList (⟨#[32, 86, 111, 108, 117, 109, 101, 32]⟩ : ByteArray).data.toList = q from Hi.out])
  have hB : Stp w1 ((w1.alloc (.cells #[.int .i64 0] 3)).iter ⟨t.toArray⟩ 0) := Stp.alloc (Stp.alloc (Stp.refl w1) _) _
  have hk0 : ((w1.alloc (.cells #[.int .i64 0] 3)).iter ⟨t.toArray⟩ 0).heap[w1.heap.size + 1]? = some (.stringIter ⟨t.toArray⟩ 0) := by
    have h5 := World.iter_heap (w1.alloc (.cells #[.int .i64 0] 3)) ⟨t.toArray⟩ 0
    simpa using h5
  have hb0 : Blk ((w1.alloc (.cells #[.int .i64 0] 3)).iter ⟨t.toArray⟩ 0) w1.heap.size 3 #[.int .i64 0] := (Blk.new w1 _ _).alloc _
  go_loopw [8] (fun _ wr => GRel t w1 wr) (fun _ wr => t.length - wr.iterPos (w1.heap.size + 1))
  case atStart => exact ⟨0, 0, hk0, hb0, hB, Lib.hid fun _ => ⟨Nat.zero_le _, rfl⟩⟩
  case round =>
    obtain ⟨pos, v, hk, hb, hs, Hv⟩ := hrel
    clear hk0 hb0 hB
    have hsz : (⟨t.toArray⟩ : ByteArray).size = t.length := by simp [ByteArray.size]
    by_cases hp : pos < (⟨t.toArray⟩ : ByteArray).size
    · have hnext : ∀ ty, (Instr.next (.pointer (some ⟨w1.heap.size + 1, 0, none⟩)) true ty).run Tryd.prog wr = _ := fun ty => Lib.run_next_any_at wr (w1.heap.size + 1) ⟨t.toArray⟩ pos ty hk hp
      obtain ⟨hd1, hd2⟩ := next_step t pos hp
      have hm : wr.iterPos (w1.heap.size + 1) = pos := by simp [World.iterPos, hk]
      obtain ⟨⟨r, st⟩, hdec⟩ : ∃ r : Nat × Nat, Utf8.decode ⟨t.toArray⟩ pos = r := ⟨_, rfl⟩
      rw [hdec] at hnext hd1 hd2
      have hk1 := Lib.iterAt_heap wr (w1.heap.size + 1) ⟨t.toArray⟩ pos (pos + st) hk
      have hb1 : Blk (wr.iterAt (w1.heap.size + 1) ⟨t.toArray⟩ (pos + st)) w1.heap.size 3 #[.int .i64 v] := (Lib.iterAt_other wr (w1.heap.size + 1) w1.heap.size ⟨t.toArray⟩ (pos + st) (by omega)).trans hb
      have hs1 : Stp w1 (wr.iterAt (w1.heap.size + 1) ⟨t.toArray⟩ (pos + st)) := Lib.below_iterAt hs (by omega) _ _
      generalize wr.iterAt (w1.heap.size + 1) ⟨t.toArray⟩ (pos + st) = W1 at hnext hk1 hb1 hs1
      have HR : Hid (∀ v' : Int, (Dg t → v' = 10 * v + ((r : Int) - 48)) → GRel t w1 (W1.setCell ⟨w1.heap.size, 0, none⟩ (.int .i64 v'))) := Lib.hid fun v' hv' =>
        ⟨pos + st, v', (Below.heap_setCell W1 _ _ _ (by show w1.heap.size + 1 ≠ w1.heap.size; omega)).trans hk1, hb1.put 0 _, Below.setCell hs1 (p := ⟨w1.heap.size, 0, none⟩) (Nat.le_refl _) _, Lib.hid fun hd => by
          obtain ⟨b, e1, e2⟩ := hd2 hd
          cases e2
          obtain ⟨f1, f2⟩ := Hv.out hd
          obtain ⟨e3, -⟩ := List.getElem?_eq_some_iff.1 e1
          refine ⟨by omega, ?_⟩
          rw [hv' hd, f2, num_next e1]
          omega⟩
      have HV : Hid (Dg t → 0 ≤ v ∧ v ≤ 999 ∧ 48 ≤ r ∧ r ≤ 57) := Lib.hid fun hd => by
        obtain ⟨b, e1, e2⟩ := hd2 hd
        cases e2
        obtain ⟨f1, f2⟩ := Hv.out hd
        have := num_small (l := t.take pos) (fun c hc => hd.1 c (List.mem_of_mem_take hc)) (by rw [List.length_take]; have := hd.2; omega)
        have := hd.1 b (List.mem_of_getElem? e1)
        omega
      have HM : Hid (∀ u : Value, t.length - (W1.setCell ⟨w1.heap.size, 0, none⟩ u).iterPos (w1.heap.size + 1) < t.length - wr.iterPos (w1.heap.size + 1)) := Lib.hid (fun u => by
        rw [hm]
        have : (W1.setCell ⟨w1.heap.size, 0, none⟩ u).iterPos (w1.heap.size + 1) = pos + st := by
          have h := (Below.heap_setCell W1 ⟨w1.heap.size, 0, none⟩ u (w1.heap.size + 1) (by show w1.heap.size + 1 ≠ w1.heap.size; omega)).trans hk1
          simp [World.iterPos, h]
        rw [this]
        omega)
      have q1 := hb1.cell 0
      have q2 := hb1.free 0
      replace q1 : W1.cell? ⟨w1.heap.size, 0, none⟩ = some (.int .i64 v) := q1
      clear hk1 hb1 hs1 hdec hd1 hd2 hm hk hb hs hp hsz c1 c2
      go_wp2_with (go_at_call 42; refine (gather_s w1.heap.size r v W1 q1 q2).mono ?_; rintro e w2 ⟨rfl, rfl⟩)
      go_roundw
      case rel => exact HR.out _ fun hd => by obtain ⟨a, b, c, d⟩ := HV.out hd; exact gathered a b (by omega) (by omega)
      case measure => exact HM.out _
    · have hnext : ∀ ty, (Instr.next (.pointer (some ⟨w1.heap.size + 1, 0, none⟩)) true ty).run Tryd.prog wr = _ := fun ty => Lib.run_next_end_at wr (w1.heap.size + 1) ⟨t.toArray⟩ pos ty hk hp
      have q1 := hb.cell 0
      have q2 := hb.free 0
      replace q1 : wr.cell? ⟨w1.heap.size, 0, none⟩ = some (.int .i64 v) := q1
      have HS := Lib.hid hs
      have HN : Hid (Dg t → v = numV t) := Lib.hid fun hd => by
        obtain ⟨f1, f2⟩ := Hv.out hd
        rw [f2, List.take_of_length_le (by omega)]
      clear hk hb hs hp hsz c1 Hv
      go_wp2_with fail
      go_region
      all_goals
        go_wp2
        go_ret2
        exact ⟨v, rfl, HS.out.drewN 1, fun a b => HN.out ⟨a, b⟩⟩
theorem guess_s (x : L) (hx : x.length ≤ 100) (w : World) :
    Calls Tryd.prog 22 #[.string ⟨x.toArray⟩] w fun e w' => ∃ (g : L) (n : Int), e = .returned (.tuple #[.string ⟨g.toArray⟩, .int .i64 n]) ∧ g.length ≤ 100 ∧ Stp w w' ∧ ∀ (s : L) (k : Nat), 1 ≤ k → k ≤ 999 → x = nameV s k → g = s ∧ n = (k : Int) := by
  rcases last_bounds x with h | ⟨j, hj, h8⟩
  · refine (guess_no x hx _ rfl h w).mono ?_
    rintro e w' ⟨rfl, rfl⟩
    exact ⟨[], 0, rfl, by simp, Stp.refl _, fun s k _ _ he => absurd he (no_name h s k)⟩
  · refine (guess_yes x hx j hj h8 w).mono ?_
    rintro e w' ⟨n, rfl, hs, hn⟩
    refine ⟨x.take j, n, rfl, by rw [List.length_take]; omega, hs, fun s k h1 h2 he => ?_⟩
    subst he
    rw [last_name] at hj
    obtain rfl : s.length = j := by omega
    obtain ⟨e1, e2⟩ := name_parts s k
    rw [e2] at hn
    refine ⟨e1, ?_⟩
    rw [hn (dig_bytes k) (by rw [dig_len h1 h2]; split <;> (try split) <;> omega), num_dig]
end Go.Proofs.YtokfhockdakhiaaDoor.Label
