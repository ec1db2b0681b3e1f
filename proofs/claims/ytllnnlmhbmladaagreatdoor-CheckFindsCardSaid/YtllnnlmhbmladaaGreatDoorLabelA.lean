/-
  Package label's contracts, as the laws want them, and the statements' awake: no statement is proved here. Package label's own guess (a header's name as a label and a number): its contract; no statement is proved here. Package label's own contracts: May, Name, Put, Get: no statement is proved here.
  What the rows' condition on the library's tables gives the walks: the table of tens stands as its own text lays it: no statement is proved here.
-/
import Derived.Test.YtllnnlmhbmladaaGreatDoorVolM
import Derived.Test.YtllnnlmhbmladaaGreatDoorBase
import Derived.Lib.AppendIntMem
import Derived.Test.YtllnnlmhbmladaaGreatDoorShelf
import Derived.Lib.OthersKept
import Derived.Lib.LastIndexLaws
import Derived.Test.YtllnnlmhbmladaaGreatDoorBlockK
import Derived.Test.YtllnnlmhbmladaaGreatDoorHeadGet
import Derived.MakeChecks
import Derived.LaidSub
import Derived.Lib.LaidTab
namespace Go.Proofs.YtllnnlmhbmladaaGreatDoor.Label
open Go.RowKit Go.Proofs.YtllnnlmhbmladaaGreatDoor.Str Go.Proofs.YtllnnlmhbmladaaGreatDoor.Base Go.Proofs.YtllnnlmhbmladaaGreatDoor.Head Go.Proofs.YtllnnlmhbmladaaGreatDoor.LabelM
set_option linter.unusedVariables false

/-- The library's table of tens stands as its own text lays it. -/
def Tab (w : World) : Prop := Lib.TabIs Tryz.prog w "internal/strconv.uint64pow10" .u64 Lib.pow10Tab
theorem Tab.keep {w w' : World} (h : Tab w) (hs : Stp w w') : Tab w' := Lib.tabBelow_of_tabIs h w' hs
end Go.Proofs.YtllnnlmhbmladaaGreatDoor.Label

namespace Go.Proofs.YtllnnlmhbmladaaGreatDoor.Label
open Go.RowKit Go.Proofs.YtllnnlmhbmladaaGreatDoor.Str Go.Proofs.YtllnnlmhbmladaaGreatDoor.Base Go.Proofs.YtllnnlmhbmladaaGreatDoor.Head Go.Proofs.YtllnnlmhbmladaaGreatDoor.LabelM
set_option linter.unusedVariables false

theorem itoa_dig {n : Nat} (h : 1 ≤ n) : Lib.decDigits n = dig n := by
  induction n using Nat.strongRecOn with
  | _ n ih =>
    rw [Lib.decDigits, dig_more (by omega)]
    by_cases h2 : n < 10
    · rw [dif_pos h2, show n / 10 = 0 by omega, dig_zero, show n % 10 = n by omega]
      rfl
    · rw [dif_neg h2, ih (n / 10) (by omega) (by omega)]
theorem itoa_of {n : Int} (h : 1 ≤ n) : Lib.itoa n = dig n.toNat := by
  rw [Lib.itoa, if_neg (by omega), itoa_dig (by omega)]
/-- Where a label's name has what stands between, last. -/
theorem last_name (s : L) (k : Nat) : Lib.lastIndex (nameV s k) volS = (s.length : Int) := by
  have hl := nameV_len s k
  rw [Lib.lastIndex, if_pos (by rw [hl, volS_len]; omega)]
  have h0 : Lib.occAt (nameV s k) volS s.length = true := by
    rw [Lib.occAt, List.isPrefixOf_iff_prefix, nameV, List.append_assoc, List.drop_left]
    exact List.prefix_append _ _
  rcases Lib.lastOcc_spec (nameV s k) volS ((nameV s k).length - volS.length + 1) with ⟨-, hn⟩ | ⟨i, hi, e, hc, hn⟩
  · have := hn s.length (by rw [hl, volS_len]; omega)
    rw [h0] at this
    cases this
  · rw [e]
    rcases Nat.lt_trichotomy i s.length with h | h | h
    · have := hn s.length h (by rw [hl, volS_len]; omega)
      rw [h0] at this
      cases this
    · rw [h]
    · exfalso
      rw [Lib.occAt, List.isPrefixOf_iff_prefix] at hc
      obtain ⟨t, ht⟩ := hc
      have e1 : ((nameV s k).drop i)[7]? = some 32 := by rw [← ht]; rfl
      rw [List.getElem?_drop, nameV, List.getElem?_append_right (by rw [List.length_append, volS_len]; omega)] at e1
      have := dig_bytes k _ (List.mem_of_getElem? e1)
      have e32 : (32 : UInt8).toNat = 32 := rfl
      omega
theorem last_bounds (x : L) : Lib.lastIndex x volS < 0 ∨ ∃ i : Nat, Lib.lastIndex x volS = (i : Int) ∧ i + 8 ≤ x.length := by
  rw [Lib.lastIndex]
  by_cases h : volS.length ≤ x.length
  · rw [if_pos h]
    rcases Lib.lastOcc_spec x volS (x.length - volS.length + 1) with ⟨e, -⟩ | ⟨i, hi, e, -, -⟩
    · exact .inl (by rw [e]; omega)
    · rw [volS_len] at h hi
      exact .inr ⟨i, e, by omega⟩
  · rw [if_neg h]
    exact .inl (by omega)
theorem name_parts (s : L) (k : Nat) : (nameV s k).take s.length = s ∧ (nameV s k).drop (s.length + 8) = dig k := by
  constructor
  · rw [nameV, List.append_assoc, List.take_left]
  · rw [nameV]
    exact List.drop_left' (by rw [List.length_append, volS_len])
theorem no_name {x : L} (h : Lib.lastIndex x volS < 0) (s : L) (k : Nat) : x ≠ nameV s k := by
  rintro rfl
  rw [last_name] at h
  omega
set_option maxRecDepth 100000 in
set_option maxHeartbeats 4000000 in
theorem guess_no (x : L) (hx : x.length ≤ 100) (i : Int) (hi : Lib.lastIndex x volS = i) (hneg : i < 0) (w : World) :
    Calls Tryz.prog 35 #[.string ⟨x.toArray⟩] w fun e w' => e = .returned (.tuple #[.string ⟨#[]⟩, .int .i64 0]) ∧ w' = w := by
  have Hi := Lib.hid hi
  have Hs : Hid ((⟨x.toArray⟩ : ByteArray).size < 4611686018427387904) := Lib.hid (by show x.toArray.size < _; simp; omega)
  clear hi hx
  go_enter Tryz.func35, Tryz.ntmps35
  go_wp2_with (go_at_call 58; refine (Tryz.strings_LastIndex ⟨x.toArray⟩ _ Hs.out _).mono ?_; rintro e w1 ⟨rfl, rfl⟩; rw [show Lib.lastIndex (⟨x.toArray⟩ : ByteArray).data.toList (⟨#[32, 86, 111, 108, 117, 109, 101, 32]⟩ : ByteArray).data.toList = i from Hi.out])
  go_ret2
  exact ⟨rfl, rfl⟩
theorem num_next {D : L} {j : Nat} {b : UInt8} (h : D[j]? = some b) : numV (D.take (j + 1)) = 10 * numV (D.take j) + (b.toNat : Int) - 48 := by
  rw [List.take_add_one, h]
  show numG (D.take j ++ [b]) 0 = _
  rw [numG_append]
  show 10 * numG (D.take j) 0 + ((b.toNat : Int) - 48) = 10 * numG (D.take j) 0 + (b.toNat : Int) - 48
  omega
theorem num_small : ∀ {l : L}, (∀ x ∈ l, 48 ≤ x.toNat ∧ x.toNat ≤ 57) → l.length ≤ 3 → 0 ≤ numV l ∧ numV l ≤ 999
  | [], _, _ => ⟨by decide, by decide⟩
  | [a], h, _ => by
    have := h a (by simp)
    show 0 ≤ 10 * (0 : Int) + ((a.toNat : Int) - 48) ∧ 10 * (0 : Int) + ((a.toNat : Int) - 48) ≤ 999
    omega
  | [a, b], h, _ => by
    have := h a (by simp)
    have := h b (by simp)
    show 0 ≤ 10 * (10 * (0 : Int) + ((a.toNat : Int) - 48)) + ((b.toNat : Int) - 48) ∧ 10 * (10 * (0 : Int) + ((a.toNat : Int) - 48)) + ((b.toNat : Int) - 48) ≤ 999
    omega
  | [a, b, c], h, _ => by
    have := h a (by simp)
    have := h b (by simp)
    have := h c (by simp)
    show 0 ≤ 10 * (10 * (10 * (0 : Int) + ((a.toNat : Int) - 48)) + ((b.toNat : Int) - 48)) + ((c.toNat : Int) - 48) ∧ 10 * (10 * (10 * (0 : Int) + ((a.toNat : Int) - 48)) + ((b.toNat : Int) - 48)) + ((c.toNat : Int) - 48) ≤ 999
    omega
  | a :: b :: c :: d :: r, _, h => by simp at h
def Dg (t : L) : Prop := (∀ c ∈ t, 48 ≤ c.toNat ∧ c.toNat ≤ 57) ∧ t.length ≤ 3
def GRel (t : L) (w wr : World) : Prop := ∃ (pos : Nat) (v : Int), wr.heap[w.heap.size + 1]? = some (.stringIter ⟨t.toArray⟩ pos) ∧ Blk wr w.heap.size 3 #[.int .i64 v] ∧ Stp w wr ∧ Hid (Dg t → pos ≤ t.length ∧ v = numV (t.take pos))
theorem next_step (t : L) (pos : Nat) (h : pos < (⟨t.toArray⟩ : ByteArray).size) : 1 ≤ (Utf8.decode ⟨t.toArray⟩ pos).2 ∧ (Dg t → ∃ b, t[pos]? = some b ∧ Utf8.decode ⟨t.toArray⟩ pos = (b.toNat, 1)) := by
  have hl : pos < t.length := by simpa [ByteArray.size] using h
  have hb : (⟨t.toArray⟩ : ByteArray)[pos]'h = t[pos] := by simp [ByteArray.getElem_eq_getElem_data]
  by_cases ha : ((⟨t.toArray⟩ : ByteArray)[pos]'h).toNat < 128
  · rw [decode_ascii _ pos h ha]
    exact ⟨Nat.le_refl _, fun _ => ⟨t[pos], List.getElem?_eq_getElem hl, by rw [hb]⟩⟩
  · refine ⟨(decode_high _ pos h (by omega)).2, fun hd => ?_⟩
    have := hd.1 t[pos] (List.getElem_mem hl)
    rw [hb] at ha
    omega
set_option maxRecDepth 100000 in
theorem gather_s (g : Nat) (r v : Int) (w : World) (q1 : w.cell? ⟨g, 0, none⟩ = some (.int .i64 v)) (q2 : w.frozen? ⟨g, 0, none⟩ = false) :
    Calls Tryz.prog 59 #[.int .i32 r, .pointer (some ⟨g, 0, none⟩)] w fun e w' => e = .returned (.tuple #[]) ∧ w' = w.setCell ⟨g, 0, none⟩ (.int .i64 (wrap64 (wrap64 (v * 10) + wrap64 (wrap32 (r - 48))))) := by
  go_enter Tryz.func59, Tryz.ntmps59
  go_wp2
  go_end0
  exact ⟨rfl, rfl⟩
theorem gathered {r v : Int} (h0 : 0 ≤ v) (h1 : v ≤ 999) (h2 : 48 ≤ r) (h3 : r ≤ 57) : wrap64 (wrap64 (v * 10) + wrap64 (wrap32 (r - 48))) = 10 * v + (r - 48) := by
  unfold wrap64 wrap32
  omega
set_option maxRecDepth 100000 in
set_option maxHeartbeats 4000000 in
theorem guess_yes (x : L) (hx : x.length ≤ 100) (j : Nat) (hi : Lib.lastIndex x volS = (j : Int)) (hj : j + 8 ≤ x.length) (w : World) :
    Calls Tryz.prog 35 #[.string ⟨x.toArray⟩] w fun e w' => ∃ n : Int, e = .returned (.tuple #[.string ⟨(x.take j).toArray⟩, .int .i64 n]) ∧ Stp w w' ∧ ((∀ c ∈ x.drop (j + 8), 48 ≤ c.toNat ∧ c.toNat ≤ 57) → (x.drop (j + 8)).length ≤ 3 → n = numV (x.drop (j + 8))) := by
  have Hi := Lib.hid hi
  have Hs : Hid ((⟨x.toArray⟩ : ByteArray).size < 4611686018427387904) := Lib.hid (by show x.toArray.size < _; simp; omega)
  have c1 := fun w => cut_l x (j + 8) hj w
  have c2 := fun w => cut_h x j (by omega) w
  obtain ⟨t, ht⟩ : ∃ t, x.drop (j + 8) = t := ⟨_, rfl⟩
  obtain ⟨g, hg⟩ : ∃ g, x.take j = g := ⟨_, rfl⟩
  rw [ht] at c1 ⊢
  rw [hg] at c2 ⊢
  rw [Int.natCast_add] at c1
  replace c1 : ∀ w, (Instr.slice 9 (.string ⟨x.toArray⟩) (some (.int .i64 ((j : Int) + 8))) none none).run Tryz.prog w = .ok (.string ⟨t.toArray⟩) w := c1
  have b1 : (j : Int) ≤ 92 := by omega
  have b2 : 0 ≤ (j : Int) := by omega
  obtain ⟨q, hq⟩ : ∃ q : Int, (j : Int) = q := ⟨_, rfl⟩
  rw [hq] at c1 c2 b1 b2 Hi
  clear hi hx ht hg hj hq
  go_enter Tryz.func35, Tryz.ntmps35
  go_wp2_with (go_at_call 58; refine (Tryz.strings_LastIndex ⟨x.toArray⟩ _ Hs.out _).mono ?_; rintro e w1 ⟨rfl, rfl⟩; rw [show Lib.lastIndex (⟨x.toArray⟩ : ByteArray).data.toList (⟨#[32, 86, 111, 108, 117, 109, 101, 32]⟩ : ByteArray).data.toList = q from Hi.out])
  have hB : Stp w1 ((w1.alloc (.cells #[.int .i64 0] 3)).iter ⟨t.toArray⟩ 0) := Stp.alloc (Stp.alloc (Stp.refl w1) _) _
  have hk0 : ((w1.alloc (.cells #[.int .i64 0] 3)).iter ⟨t.toArray⟩ 0).heap[w1.heap.size + 1]? = some (.stringIter ⟨t.toArray⟩ 0) := by
    have h5 := World.iter_heap (w1.alloc (.cells #[.int .i64 0] 3)) ⟨t.toArray⟩ 0
    simpa using h5
  have hb0 : Blk ((w1.alloc (.cells #[.int .i64 0] 3)).iter ⟨t.toArray⟩ 0) w1.heap.size 3 #[.int .i64 0] := (Blk.new w1 _ _).alloc _
  go_loopw [8] (fun _ wr => GRel t w1 wr) (fun _ wr => t.length - wr.iterPos (w1.heap.size + 1))
  case atStart => exact ⟨0, 0, hk0, hb0, hB, Lib.hid fun _ => ⟨Nat.zero_le _, rfl⟩⟩
  case round =>
    obtain ⟨pos, v, hk, hb, hs, Hv⟩ := hrel
    clear hk0 hb0 hB
    have hsz : (⟨t.toArray⟩ : ByteArray).size = t.length := by simp [ByteArray.size]
    by_cases hp : pos < (⟨t.toArray⟩ : ByteArray).size
    · have hnext : ∀ ty, (Instr.next (.pointer (some ⟨w1.heap.size + 1, 0, none⟩)) true ty).run Tryz.prog wr = _ := fun ty => Lib.run_next_any_at wr (w1.heap.size + 1) ⟨t.toArray⟩ pos ty hk hp
      obtain ⟨hd1, hd2⟩ := next_step t pos hp
      have hm : wr.iterPos (w1.heap.size + 1) = pos := by simp [World.iterPos, hk]
      obtain ⟨⟨r, st⟩, hdec⟩ : ∃ r : Nat × Nat, Utf8.decode ⟨t.toArray⟩ pos = r := ⟨_, rfl⟩
      rw [hdec] at hnext hd1 hd2
      have hk1 := Lib.iterAt_heap wr (w1.heap.size + 1) ⟨t.toArray⟩ pos (pos + st) hk
      have hb1 : Blk (wr.iterAt (w1.heap.size + 1) ⟨t.toArray⟩ (pos + st)) w1.heap.size 3 #[.int .i64 v] := (Lib.iterAt_other wr (w1.heap.size + 1) w1.heap.size ⟨t.toArray⟩ (pos + st) (by omega)).trans hb
      have hs1 : Stp w1 (wr.iterAt (w1.heap.size + 1) ⟨t.toArray⟩ (pos + st)) := Lib.below_iterAt hs (by omega) _ _
      generalize wr.iterAt (w1.heap.size + 1) ⟨t.toArray⟩ (pos + st) = W1 at hnext hk1 hb1 hs1
      have HR : Hid (∀ v' : Int, (Dg t → v' = 10 * v + ((r : Int) - 48)) → GRel t w1 (W1.setCell ⟨w1.heap.size, 0, none⟩ (.int .i64 v'))) := Lib.hid fun v' hv' =>
        ⟨pos + st, v', (Below.heap_setCell W1 _ _ _ (by show w1.heap.size + 1 ≠ w1.heap.size; omega)).trans hk1, hb1.put 0 _, Below.setCell hs1 (p := ⟨w1.heap.size, 0, none⟩) (Nat.le_refl _) _, Lib.hid fun hd => by
          obtain ⟨b, e1, e2⟩ := hd2 hd
          cases e2
          obtain ⟨f1, f2⟩ := Hv.out hd
          obtain ⟨e3, -⟩ := List.getElem?_eq_some_iff.1 e1
          refine ⟨by omega, ?_⟩
          rw [hv' hd, f2, num_next e1]
          omega⟩
      have HV : Hid (Dg t → 0 ≤ v ∧ v ≤ 999 ∧ 48 ≤ r ∧ r ≤ 57) := Lib.hid fun hd => by
        obtain ⟨b, e1, e2⟩ := hd2 hd
        cases e2
        obtain ⟨f1, f2⟩ := Hv.out hd
        have := num_small (l := t.take pos) (fun c hc => hd.1 c (List.mem_of_mem_take hc)) (by rw [List.length_take]; have := hd.2; omega)
        have := hd.1 b (List.mem_of_getElem? e1)
        omega
      have HM : Hid (∀ u : Value, t.length - (W1.setCell ⟨w1.heap.size, 0, none⟩ u).iterPos (w1.heap.size + 1) < t.length - wr.iterPos (w1.heap.size + 1)) := Lib.hid (fun u => by
        rw [hm]
        have : (W1.setCell ⟨w1.heap.size, 0, none⟩ u).iterPos (w1.heap.size + 1) = pos + st := by
          have h := (Below.heap_setCell W1 ⟨w1.heap.size, 0, none⟩ u (w1.heap.size + 1) (by show w1.heap.size + 1 ≠ w1.heap.size; omega)).trans hk1
          simp [World.iterPos, h]
        rw [this]
        omega)
      have q1 := hb1.cell 0
      have q2 := hb1.free 0
      replace q1 : W1.cell? ⟨w1.heap.size, 0, none⟩ = some (.int .i64 v) := q1
      clear hk1 hb1 hs1 hdec hd1 hd2 hm hk hb hs hp hsz c1 c2
      go_wp2_with (go_at_call 59; refine (gather_s w1.heap.size r v W1 q1 q2).mono ?_; rintro e w2 ⟨rfl, rfl⟩)
      go_roundw
      case rel => exact HR.out _ fun hd => by obtain ⟨a, b, c, d⟩ := HV.out hd; exact gathered a b (by omega) (by omega)
      case measure => exact HM.out _
    · have hnext : ∀ ty, (Instr.next (.pointer (some ⟨w1.heap.size + 1, 0, none⟩)) true ty).run Tryz.prog wr = _ := fun ty => Lib.run_next_end_at wr (w1.heap.size + 1) ⟨t.toArray⟩ pos ty hk hp
      have q1 := hb.cell 0
      have q2 := hb.free 0
      replace q1 : wr.cell? ⟨w1.heap.size, 0, none⟩ = some (.int .i64 v) := q1
      have HS := Lib.hid hs
      have HN : Hid (Dg t → v = numV t) := Lib.hid fun hd => by
        obtain ⟨f1, f2⟩ := Hv.out hd
        rw [f2, List.take_of_length_le (by omega)]
      clear hk hb hs hp hsz c1 Hv
      go_wp2_with fail
      go_region
      all_goals
        go_wp2
        go_ret2
        exact ⟨v, rfl, HS.out.drewN 1, fun a b => HN.out ⟨a, b⟩⟩
theorem guess_s (x : L) (hx : x.length ≤ 100) (w : World) :
    Calls Tryz.prog 35 #[.string ⟨x.toArray⟩] w fun e w' => ∃ (g : L) (n : Int), e = .returned (.tuple #[.string ⟨g.toArray⟩, .int .i64 n]) ∧ g.length ≤ 100 ∧ Stp w w' ∧ ∀ (s : L) (k : Nat), 1 ≤ k → k ≤ 999 → x = nameV s k → g = s ∧ n = (k : Int) := by
  rcases last_bounds x with h | ⟨j, hj, h8⟩
  · refine (guess_no x hx _ rfl h w).mono ?_
    rintro e w' ⟨rfl, rfl⟩
    exact ⟨[], 0, rfl, by simp, Stp.refl _, fun s k _ _ he => absurd he (no_name h s k)⟩
  · refine (guess_yes x hx j hj h8 w).mono ?_
    rintro e w' ⟨n, rfl, hs, hn⟩
    refine ⟨x.take j, n, rfl, by rw [List.length_take]; omega, hs, fun s k h1 h2 he => ?_⟩
    subst he
    rw [last_name] at hj
    obtain rfl : s.length = j := by omega
    obtain ⟨e1, e2⟩ := name_parts s k
    rw [e2] at hn
    refine ⟨e1, ?_⟩
    rw [hn (dig_bytes k) (by rw [dig_len h1 h2]; split <;> (try split) <;> omega), num_dig]
end Go.Proofs.YtllnnlmhbmladaaGreatDoor.Label

namespace Go.Proofs.YtllnnlmhbmladaaGreatDoor.Label
open Go.RowKit Go.Proofs.YtllnnlmhbmladaaGreatDoor.Str Go.Proofs.YtllnnlmhbmladaaGreatDoor.Base Go.Proofs.YtllnnlmhbmladaaGreatDoor.Head Go.Proofs.YtllnnlmhbmladaaGreatDoor.LabelM
set_option linter.unusedVariables false

theorem no_nought (s : L) {i : Int} (hi : Lib.indexByte s 0 = i) : (s.all fun x => x != 0) = decide (i < 0) := by
  subst hi
  rw [indexByte_upto, Bool.eq_iff_iff, decide_eq_true_eq, List.all_eq_true]
  by_cases h : (0 : UInt8) ∈ s
  · rw [if_pos h]
    constructor
    · intro hh
      have := hh 0 h
      simp at this
    · intro hh
      omega
  · rw [if_neg h]
    exact ⟨fun _ => by omega, fun _ x hx => bne_iff_ne.2 fun e => h (e ▸ hx)⟩
def lblB (s : L) : Bool := decide (1 ≤ s.length) && decide (s.length ≤ 88) && s.all fun x => x != 0
theorem mayLb_lbl (s : L) (n : Int) : mayLb s n = (lblB s && decide (1 ≤ n) && decide (n ≤ 999)) := by
  rw [mayLb, lblB, Bool.and_assoc (s.all fun x => x != 0), Bool.and_comm (s.all fun x => x != 0)]
set_option maxRecDepth 100000 in
set_option maxHeartbeats 4000000 in
theorem isLabel_s (s : L) (y : Nat) (hy : s.length = y) (hs : y ≤ 9223372036854775807) (b : Bool) (hb : lblB s = b) (w : World) :
    Calls Tryz.prog 70 #[.string ⟨s.toArray⟩] w fun e w' => e = .returned (.bool b) ∧ w' = w := by
  obtain ⟨i, hi⟩ : ∃ i, Lib.indexByte s 0 = i := ⟨_, rfl⟩
  have hsz : s.toArray.size = y := by rw [← hy]; simp
  obtain ⟨b1, k1⟩ : ∃ b, decide (1 ≤ (y : Int)) = b := ⟨_, rfl⟩
  obtain ⟨b2, k2⟩ : ∃ b, decide ((y : Int) ≤ 88) = b := ⟨_, rfl⟩
  obtain ⟨b3, k3⟩ : ∃ b, decide (i < 0) = b := ⟨_, rfl⟩
  have e1 : decide (1 ≤ y) = b1 := by rw [← k1]; exact decide_eq_decide.2 (by omega)
  have e2 : decide (y ≤ 88) = b2 := by rw [← k2]; exact decide_eq_decide.2 (by omega)
  rw [lblB, no_nought s hi, hy, e1, e2, k3] at hb
  subst hb
  have Hi := Lib.hid hi
  clear hi hy e1 e2
  cases b1 <;> cases b2 <;> cases b3
  all_goals
    go_enter Tryz.func70, Tryz.ntmps70
    go_wp2_with (go_at_call 105; refine (index0_s s i Hi.out _).mono ?_; rintro e w1 ⟨rfl, rfl⟩)
    go_ret
    exact ⟨rfl, rfl⟩
set_option maxRecDepth 100000 in
set_option maxHeartbeats 4000000 in
theorem lmay_s (s : L) (y : Nat) (hy : s.length = y) (hs : y ≤ 9223372036854775807) (n : Int) (b : Bool) (hb : mayLb s n = b) (w : World) :
    Calls Tryz.prog 43 #[.string ⟨s.toArray⟩, .int .i64 n] w fun e w' => e = .returned (.bool b) ∧ w' = w := by
  obtain ⟨b1, k1⟩ : ∃ b, lblB s = b := ⟨_, rfl⟩
  obtain ⟨b2, k2⟩ : ∃ b, decide (1 ≤ n) = b := ⟨_, rfl⟩
  obtain ⟨b3, k3⟩ : ∃ b, decide (n ≤ 999) = b := ⟨_, rfl⟩
  rw [mayLb_lbl, k1, k2, k3] at hb
  subst hb
  have K := Lib.hid k1
  have Hy := Lib.hid hy
  clear k1 hy
  cases b1 <;> cases b2 <;> cases b3
  all_goals
    go_enter Tryz.func43, Tryz.ntmps43
    go_wp2_with (go_at_call 70; refine (isLabel_s s y Hy.out hs _ K.out _).mono ?_; rintro e w1 ⟨rfl, rfl⟩)
    go_ret
    exact ⟨rfl, rfl⟩
set_option maxRecDepth 100000 in
set_option maxHeartbeats 4000000 in
theorem lname_s (s : L) (y : Nat) (hy : s.length = y) (hs : y ≤ 9223372036854775807) (n : Int) (x : L) (b : Bool) (hx : nameB s n = (x, b)) (w : World) (htab : Tab w) :
    Calls Tryz.prog 60 #[.string ⟨s.toArray⟩, .int .i64 n] w fun e w' => e = .returned (.tuple #[.string ⟨x.toArray⟩, .bool b]) ∧ Stp w w' := by
  have HT := Lib.hid htab
  have Hy := Lib.hid hy
  clear htab
  by_cases hm : mayLb s n = true
  · rw [nameB, if_pos hm] at hx
    rw [Prod.mk.injEq] at hx
    obtain ⟨rfl, rfl⟩ := hx
    obtain ⟨-, -, h88, h1, h9⟩ := mayLb_iff.1 hm
    have hd := itoa_of h1
    have hdl := dig_len (n := n.toNat) (by omega) (by omega)
    have hdl3 : (dig n.toNat).length ≤ 3 := by rw [hdl]; split <;> (try split) <;> omega
    obtain ⟨d, hdd⟩ : ∃ d, dig n.toNat = d := ⟨_, rfl⟩
    rw [nameV, hdd]
    rw [hdd] at hd hdl3
    have c1 := fun w => add_ll s volS (by rw [volS_len]; omega) w
    have c2 := fun w => add_ll (s ++ volS) d (by rw [List.length_append, volS_len]; omega) w
    replace c1 : ∀ w, (Op.stringOp .add ⟨s.toArray⟩ ⟨#[32, 86, 111, 108, 117, 109, 101, 32]⟩).run Tryz.prog w = .ok (.string ⟨(s ++ volS).toArray⟩) w := c1
    obtain ⟨u, hu⟩ : ∃ u, s ++ volS = u := ⟨_, rfl⟩
    rw [hu] at c1 c2 ⊢
    have Hm := Lib.hid hm
    have Hd := Lib.hid hd
    clear hm hd hdl hdl3 hdd hu hy h88
    go_enter Tryz.func60, Tryz.ntmps60
    go_wp2_with (first
      | (go_at_call 43; refine (lmay_s s y Hy.out hs n true Hm.out _).mono ?_; rintro e w1 ⟨rfl, rfl⟩)
      | (go_at_call 98; refine (Tryz.strconv_Itoa n (by omega) (by omega) _ HT.out).mono ?_; rintro e w2 ⟨rfl, k, os, rfl⟩; rw [Hd.out]))
    go_ret2
    exact ⟨rfl, Lib.below_grow _ _ (Nat.le_refl _) k os⟩
  · have hm2 : mayLb s n = false := by simpa using hm
    rw [nameB, if_neg hm] at hx
    rw [Prod.mk.injEq] at hx
    obtain ⟨rfl, rfl⟩ := hx
    have Hm := Lib.hid hm2
    clear hm hm2 hy
    go_enter Tryz.func60, Tryz.ntmps60
    go_wp2_with (go_at_call 43; refine (lmay_s s y Hy.out hs n false Hm.out _).mono ?_; rintro e w1 ⟨rfl, rfl⟩)
    go_ret2
    exact ⟨rfl, Stp.refl _⟩
set_option maxRecDepth 100000 in
set_option maxHeartbeats 4000000 in
theorem lput_s (s : L) (y : Nat) (hy : s.length = y) (hs : y ≤ 9223372036854775807) (n : Int) (x : L) (z : Nat) (b : Bool) (hv : putL s n = (x, b)) (hz : x.length = z) (w : World) (htab : Tab w) :
    Calls Tryz.prog 36 #[.string ⟨s.toArray⟩, .int .i64 n] w fun e w' => ∃ A c, e = .returned (.tuple #[.slice A z c, .bool b]) ∧ RdA w' A c (bs x) ∧ Stp w w' := by
  have HT := Lib.hid htab
  have H := Lib.hid (Stp.refl w)
  clear htab
  by_cases hm : mayLb s n = true
  · obtain ⟨h1, h2⟩ := name_may hm
    have hb := blk_length h1 h2
    have hp : putB (headV (nameV s n.toNat)) = Head.blk (headV (nameV s n.toNat)) := if_pos h1
    rw [putL, if_pos hm] at hv
    rw [Prod.mk.injEq] at hv
    obtain ⟨hv1, hv2⟩ := hv
    subst hv1 hv2
    obtain rfl : z = 512 := by rw [← hz, hb]
    have hnb : nameB s n = (nameV s n.toNat, true) := by rw [nameB, if_pos hm]
    obtain ⟨u, hu⟩ : ∃ u, nameV s n.toNat = u := ⟨_, rfl⟩
    rw [hu] at h1 h2 hb hp hnb ⊢
    have C := fun w => put_s (headV u) h2 w
    rw [hp, h1, hb] at C
    replace C := Lib.hid C
    have Hnb := Lib.hid hnb
    have Hy := Lib.hid hy
    clear hm hy hz hnb hp hb hu h1 h2
    go_enter Tryz.func36, Tryz.ntmps36
    go_wp2_with (first
      | (go_at_call 60; refine (lname_s s y Hy.out hs n u true Hnb.out _ HT.out).mono ?_; rintro e w1 ⟨rfl, hs1⟩; replace H := Lib.hid (Stp.trans H.out hs1); clear hs1)
      | (go_at_call 57; refine (C.out _).mono ?_; rintro e w2 ⟨A, c, rfl, hr, hst⟩; have HR := Lib.hid hr; replace H := Lib.hid (Stp.trans H.out hst); clear hr hst))
    go_ret2
    exact ⟨A, c, rfl, HR.out, H.out⟩
  · have hm2 : mayLb s n = false := by simpa using hm
    rw [putL, if_neg hm] at hv
    cases hv
    subst hz
    have Hnb : Hid (nameB s n = ([], false)) := Lib.hid (by rw [nameB, if_neg hm])
    have Hy := Lib.hid hy
    clear hm hm2 hy
    go_enter Tryz.func36, Tryz.ntmps36
    go_wp2_with (go_at_call 60; refine (lname_s s y Hy.out hs n [] false Hnb.out _ HT.out).mono ?_; rintro e w1 ⟨rfl, hs1⟩; replace H := Lib.hid (Stp.trans H.out hs1); clear hs1)
    go_ret2
    exact ⟨none, 0, rfl, RdA.nil _, H.out⟩
theorem get_key {l : L} (hc : codeB l = 0) {g : L} {n : Int} (hg : ∀ (s : L) (k : Nat), 1 ≤ k → k ≤ 999 → (getH l).name = nameV s k → g = s ∧ n = (k : Int)) {x : L} {b : Bool} (hp : putL g n = (x, b)) :
    ((x == l) = true → getL l = (g, n, 0)) ∧ ((x == l) = false → getL l = ([], 0, 11)) := by
  constructor
  · intro h
    obtain rfl := eq_of_beq h
    have hl := (ok_blk hc).2.2
    rw [putL] at hp
    split at hp
    · rename_i hm
      rw [Prod.mk.injEq] at hp
      rw [← hp.1]
      exact getL_put hm
    · rw [Prod.mk.injEq] at hp
      rw [← hp.1] at hl
      cases hl
  · intro h
    refine getL_none hc fun s m hm he => ?_
    obtain ⟨-, -, -, h1, h9⟩ := mayLb_iff.1 hm
    have hh := (put_code hm).2
    rw [he] at hh
    obtain ⟨e1, e2⟩ := hg s m.toNat (by omega) (by omega) (by rw [hh]; rfl)
    obtain rfl : n = m := by omega
    subst e1
    rw [putL, if_pos hm, Prod.mk.injEq] at hp
    rw [← hp.1, he] at h
    simp at h
theorem name_short {l : L} (hc : codeB l = 0) : (getH l).name.length ≤ 100 := by
  obtain ⟨-, -, -, h, -⟩ := may_parts (ok_blk hc).1
  have := okT_le (List.all_eq_true.1 h ((getH l).name, 100) (by unfold txo; split <;> simp))
  exact this
set_option maxRecDepth 100000 in
set_option maxHeartbeats 4000000 in
theorem lget_no (l : L) (hc : codeB l ≠ 0) (A : Option Addr) (c : Nat) (w : World) (ha : RdA w A c (bs l)) :
    Calls Tryz.prog 22 #[.slice A l.length c] w fun e w' => e = .returned (.tuple #[.string ⟨#[]⟩, .int .i64 0, .int .i64 (codeB l)]) ∧ Stp w w' := by
  have H := Lib.hid (Stp.refl w)
  have HB := Lib.hid ha
  obtain ⟨cd, hcd⟩ : ∃ cd, codeB l = cd := ⟨_, rfl⟩
  rw [hcd] at hc ⊢
  have k1 : (cd != 0) = true := by simp [hc]
  have Hc := Lib.hid hcd
  clear hcd hc ha
  go_enter Tryz.func22, Tryz.ntmps22
  go_wp2_with (go_at_call 34; refine (hget_s l A c _ HB.out).mono ?_; rintro e w2 ⟨rfl, hs1⟩; rw [Hc.out]; replace hs1 := Stp.alloc hs1 (.cells (hcells (getH l)) 77); replace H := Lib.hid (Stp.trans H.out hs1); clear hs1)
  go_ret3
  exact ⟨rfl, H.out⟩
set_option maxRecDepth 100000 in
set_option maxHeartbeats 4000000 in
theorem lget_yes (l : L) (hc : codeB l = 0) (s : L) (n e0 : Int) (hv : getL l = (s, n, e0)) (A : Option Addr) (c : Nat) (w : World) (ha : RdA w A c (bs l)) (htab : Tab w) :
    Calls Tryz.prog 22 #[.slice A l.length c] w fun e w' => e = .returned (.tuple #[.string ⟨s.toArray⟩, .int .i64 n, .int .i64 e0]) ∧ Stp w w' := by
  have H := Lib.hid (Stp.refl w)
  have HB := Lib.hid ha
  have HT := Lib.hid htab
  have HS := Lib.hid (name_short hc)
  have HK : Hid (∀ {g : L} {n : Int}, (∀ (s : L) (k : Nat), 1 ≤ k → k ≤ 999 → (getH l).name = nameV s k → g = s ∧ n = (k : Int)) → ∀ {x : L} {b : Bool}, putL g n = (x, b) → ((x == l) = true → getL l = (g, n, 0)) ∧ ((x == l) = false → getL l = ([], 0, 11))) := Lib.hid fun h _ _ hp => get_key hc h hp
  obtain ⟨G, hG⟩ : ∃ G, getH l = G := ⟨_, rfl⟩
  rw [hG] at HS HK
  have HG := Lib.hid hG
  have Hc := Lib.hid hc
  have Hv := Lib.hid hv
  clear hG hc ha htab hv
  go_enter Tryz.func22, Tryz.ntmps22
  go_wp2_with (first
    | (go_at_call 34; refine (hget_s l A c _ HB.out).mono ?_; rintro e w2 ⟨rfl, hs1⟩; rw [HG.out, Hc.out]; replace hs1 := Stp.alloc hs1 (.cells (hcells G) 77); obtain ⟨x0, x1, x2, x3, x4, x5, x6, x7, x8, x9, x10⟩ := hd_cells (Blk.new w2 77 (hcells G)); replace H := Lib.hid (Stp.trans H.out hs1); replace HB := Lib.hid (HB.out.keep hs1); clear hs1)
    | (go_at_call 35; refine (guess_s G.name HS.out _).mono ?_; rintro e w3 ⟨g, m, rfl, hgl, hs1, hgk⟩; replace H := Lib.hid (Stp.trans H.out hs1); replace HB := Lib.hid (HB.out.keep hs1); obtain ⟨⟨x, b⟩, hx⟩ : ∃ r, putL g m = r := ⟨_, rfl⟩; replace HK := Lib.hid (HK.out hgk hx); have HX := Lib.hid hx; have HGL := Lib.hid hgl; clear hs1 hgk hx hgl)
    | (go_at_call 36; refine (lput_s g _ rfl (Nat.le_trans HGL.out (by decide)) m x _ b HX.out rfl _ (HT.out.keep H.out)).mono ?_; rintro e w4 ⟨A4, c4, rfl, hr, hs1⟩; replace H := Lib.hid (Stp.trans H.out hs1); replace HB := Lib.hid (HB.out.keep hs1); have HR := Lib.hid hr; clear hr hs1)
    | (go_at_call 37; refine (equal_s x l A4 A c4 c _ HR.out HB.out).mono ?_; rintro e w5 ⟨rfl, hs1⟩; replace H := Lib.hid (Stp.trans H.out hs1); obtain ⟨q, hq⟩ : ∃ q, (x == l) = q := ⟨_, rfl⟩; rw [hq] at HK ⊢; clear hs1 hq))
  all_goals go_ret3
  · have e1 := HK.out.2 (by simpa using ‹(!q) = true›)
    rw [Hv.out, Prod.mk.injEq, Prod.mk.injEq] at e1
    obtain ⟨rfl, rfl, rfl⟩ := e1
    exact ⟨rfl, H.out⟩
  · have e1 := HK.out.1 (by simpa using ‹(!q) = false›)
    rw [Hv.out, Prod.mk.injEq, Prod.mk.injEq] at e1
    obtain ⟨rfl, rfl, rfl⟩ := e1
    exact ⟨rfl, H.out⟩
theorem lget_s (l : L) (z : Nat) (hz : l.length = z) (s : L) (n e0 : Int) (hg : getL l = (s, n, e0)) (A : Option Addr) (c : Nat) (w : World) (ha : RdA w A c (bs l)) (htab : Tab w) :
    Calls Tryz.prog 22 #[.slice A z c] w fun e w' => e = .returned (.tuple #[.string ⟨s.toArray⟩, .int .i64 n, .int .i64 e0]) ∧ Stp w w' := by
  subst hz
  by_cases hc : codeB l = 0
  · exact lget_yes l hc s n e0 hg A c w ha htab
  · rw [getL, if_pos hc] at hg
    rw [Prod.mk.injEq, Prod.mk.injEq] at hg
    obtain ⟨rfl, rfl, rfl⟩ := hg
    exact lget_no l hc A c w ha
end Go.Proofs.YtllnnlmhbmladaaGreatDoor.Label

namespace Go.Proofs.YtllnnlmhbmladaaGreatDoor.Label
open Go.RowKit Go.Proofs.YtllnnlmhbmladaaGreatDoor.Base
set_option maxRecDepth 100000 in
theorem tab_of_laid {l : List (String × DataW Unit)} {W : World} (h : laidMetH Tryz.prog l W) (e : l.filter (fun x => x.1 == "internal/strconv.uint64pow10") = [("internal/strconv.uint64pow10", Lib.tabData .u64 Lib.pow10Tab)]) : Tab W := by
  have h1 := h.filter (fun x => x.1 == "internal/strconv.uint64pow10")
  rw [e, MakeChecks.laidMetH_plain _ _ _ (by kernel_rfl)] at h1
  exact Lib.tabIs_of_head (g := 1) (t := 224) (e := 210) (n := 20) (by kernel_rfl) (by kernel_rfl) (by kernel_rfl) (by kernel_rfl) (by kernel_rfl) (by kernel_rfl) h1
end Go.Proofs.YtllnnlmhbmladaaGreatDoor.Label

