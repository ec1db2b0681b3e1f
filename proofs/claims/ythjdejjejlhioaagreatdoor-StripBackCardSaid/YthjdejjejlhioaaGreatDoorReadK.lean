/-
  What the walks of package read's laws ask of its code, and the chapter's example: no statement is proved here.
  Contracts of package read's own functions: pieces put together, drafts finished. No statement is proved here. Contracts of package read's own functions: drafts finished. No statement is proved here. Contracts of package read's own functions: what Gather's closure does with what is told. No statement is proved here. Contracts of package read: Gather. No statement is proved here. Package read's code: its four contracts. No statement is proved here.
-/
import Derived.Test.YthjdejjejlhioaaGreatDoorParseM
import Derived.Test.YthjdejjejlhioaaGreatDoorParseI
import Derived.Test.YthjdejjejlhioaaGreatDoorTreeOne
import Derived.Test.YthjdejjejlhioaaGreatDoorBlockK
import Derived.Test.YthjdejjejlhioaaGreatDoorNodes
import Derived.Deep.AppendLies
import Derived.Test.YthjdejjejlhioaaGreatDoorEvs
import Derived.Deep.RegionLaw
import Derived.Deep.RegionWith
import Derived.WalkMore
namespace Go.Proofs.YthjdejjejlhioaaGreatDoor.Read
open Go.RowKit Go.Proofs.YthjdejjejlhioaaGreatDoor.Str Go.Proofs.YthjdejjejlhioaaGreatDoor.Base Go.Proofs.YthjdejjejlhioaaGreatDoor.Node
open Go.Proofs.YthjdejjejlhioaaGreatDoor.Parse (Evt RdE zeroS phS runS stepS)

/-! ### the chapter's example -/
/-! ### what the laws share -/
end Go.Proofs.YthjdejjejlhioaaGreatDoor.Read

namespace Go.Proofs.YthjdejjejlhioaaGreatDoor.Read
open Go.RowKit Go.Proofs.YthjdejjejlhioaaGreatDoor.Str Go.Proofs.YthjdejjejlhioaaGreatDoor.Base Go.Proofs.YthjdejjejlhioaaGreatDoor.Node

theorem stp_none {w w1 : World} (hg1 : w.grownBy w1 none) : Stp w w1 := ⟨hg1.os, hg1.tape, hg1.output, hg1.size, fun j hj => hg1.block j hj (by simp)⟩

/-- Texts as cells. -/
def ss (ps : List L) : List Value := ps.map fun p => .string ⟨p.toArray⟩
theorem ss_length (ps : List L) : (ss ps).length = ps.length := by simp [ss]
theorem ss_append (a b : List L) : ss (a ++ b) = ss a ++ ss b := by simp [ss]
theorem ss_at {ps : List L} {j : Nat} {p : L} (h : ps[j]? = some p) : (ss ps)[j]? = some (.string ⟨p.toArray⟩) := by simp [ss, h]
theorem ss_one (ps : List L) : ∀ u ∈ ss ps, u.oneCell' = true := by
  intro u hu
  obtain ⟨p, -, rfl⟩ := List.mem_map.1 hu
  rfl

section
variable {P : Program} (w : World)
/-- copy(dst, s) where all of s goes in, at a place of a block. -/
theorem run_copy_in (dT sT ty elem : TypeId) (g o n cap : Nat) (t : TypeId) (cur : Array Value) (s : List UInt8) (hu : P.underlying dT = some (.slice elem)) (hs : (P.info? elem).map (·.size) = some 1)
    (hb : Blk w g t cur) (hsn : s.length ≤ n) (hn : o + s.length ≤ cur.size) :
    ∃ w', (Builtin.copy_ #[dT, sT] ty #[.slice (some ⟨g, o, none⟩) n cap, .string ⟨s.toArray⟩]).run P w = .ok (.int .i64 (s.length : Nat)) w' ∧ Blk w' g t (cur.toList.take o ++ bs s ++ cur.toList.drop (o + s.length)).toArray ∧ w.grownBy w' (some g) := by
  have hlen : (bs s).length = s.length := bs_length s
  have hst := run_storeCells_free P g o t (0, 0) (bs s) 0 cur w hb (.inl rfl) (by rw [hlen]; omega) (bs_one _)
  simp only [Nat.add_zero, hlen] at hst
  refine ⟨_, ?_, setRow_heap w g cur _ t _ hb, ⟨rfl, rfl, rfl, by simp [World.setRow], fun k _ hk => setRow_other w g k _ (fun e => hk (by rw [e]))⟩⟩
  have hsz : (ByteArray.mk s.toArray).size = s.length := by simp [ByteArray.size]
  have hm : s.length.min n = s.length := Nat.min_eq_left hsn
  have htk : List.take s.length (List.map (fun b : UInt8 => Value.int IntKind.u8 (b.toNat : Int)) s) = bs s := by
    rw [List.take_of_length_le (by simp)]
    rfl
  cases hq : P.info? elem with
  | none => simp [hq] at hs
  | some i =>
    simp [Builtin.copy_, run_underlying hu, Builtin.lenOf, Builtin.firstCells, sizeOf, typeInfo, hq, hsz]
    rw [hm, htk, hst, List.append_assoc]
    rfl
end
theorem byte_size1 : (Tryz.prog.info? 5).map (·.size) = some 1 := by kernel_rfl

/-- The pieces that were copied, and the room behind. -/
def roomV (N : Nat) (pre : L) : L := pre ++ List.replicate (N - pre.length) 0
theorem roomV_length {N : Nat} {pre : L} (h : pre.length ≤ N) : (roomV N pre).length = N := by simp [roomV]; omega
theorem room_next {N : Nat} {pre p : L} (h : pre.length + p.length ≤ N) : ((bs (roomV N pre)).toArray.toList.take pre.length ++ bs p ++ (bs (roomV N pre)).toArray.toList.drop (pre.length + p.length)).toArray = (bs (roomV N (pre ++ p))).toArray := by
  congr 1
  rw [List.toList_toArray]
  unfold bs roomV
  rw [← List.map_take, ← List.map_drop, ← List.map_append, ← List.map_append]
  congr 1
  rw [List.take_left, List.drop_append, List.drop_of_length_le (by omega), List.nil_append, List.drop_replicate, List.length_append]
  rw [show N - pre.length - (pre.length + p.length - pre.length) = N - (pre.length + p.length) by omega, List.append_assoc]
theorem flat_next {ps : List L} {k : Nat} {p : L} (h : ps[k]? = some p) : (ps.take (k + 1)).flatten = (ps.take k).flatten ++ p := by
  rw [List.take_add_one, h]
  simp
theorem flat_le (ps : List L) (k : Nat) : (ps.take k).flatten.length ≤ ps.flatten.length := by
  have h : ps.flatten = (ps.take k).flatten ++ (ps.drop k).flatten := by rw [← List.flatten_append, List.take_append_drop]
  rw [h, List.length_append]
  omega

set_option maxRecDepth 100000 in
set_option maxHeartbeats 2000000 in
theorem join_s (ps : List L) (n : Nat) (hn : ps.length = n) (hn1 : n ≤ 1000000) (hl : ps.flatten.length ≤ 100000000000) (A : Option Addr) (c : Nat) (w : World) (ha : RdA w A c (ss ps)) :
    Calls Tryz.prog 75 #[.slice A n c] w fun e w' => e = .returned (.string ⟨ps.flatten.toArray⟩) ∧ Stp w w' := by
  have h0 := Stp.refl w
  have HN := Lib.hid hn
  have Ha := Lib.hid ha
  have Hl := Lib.hid hl
  clear hn ha hl
  go_enter Tryz.func75, Tryz.ntmps75
  go_wp2_with fail
  go_loopw [3, 12] (fun s i wr => ∃ k : Nat, k ≤ n ∧ i = .int .i64 (k : Int) ∧ s = .int .i64 (((ps.take k).flatten.length : Nat) : Int) ∧ Stp w wr) (fun _ i _ => n - (intOf i).toNat)
  case atStart => exact ⟨0, by omega, rfl, rfl, h0⟩
  case round =>
    obtain ⟨k, hk, rfl, rfl, hst⟩ := hrel
    by_cases hlt : k < n
    · obtain ⟨p, hp⟩ : ∃ p, ps[k]? = some p := ⟨_, List.getElem?_eq_getElem (by rw [HN.out]; exact hlt)⟩
      obtain ⟨b, o, rfl, hcell⟩ := RdA.at_ (Ha.out.keep hst) (j := k) (by rw [ss_length, HN.out]; exact hlt)
      have q0 := hcell k _ (ss_at hp)
      have hf := flat_next hp
      have hle := flat_le ps (k + 1)
      obtain ⟨S, hS⟩ : ∃ x : Nat, (ps.take k).flatten.length = x := ⟨_, rfl⟩
      have hS2 : (ps.take (k + 1)).flatten.length = S + p.length := by rw [hf, List.length_append, hS]
      have Hle := Lib.hid (show S + p.length ≤ 100000000000 by have := Hl.out; omega)
      have HS2 := Lib.hid hS2
      rw [hS]
      clear hcell hp hf hle hS hS2
      go_wp2_with fail
      go_roundw
      case rel => exact ⟨k + 1, by omega, by go_num, by rw [HS2.out]; have := Hle.out; simp only [Value.int.injEq, true_and]; unfold wrap64; omega, hst⟩
      case measure => simp [intOf]; omega
    · obtain rfl : k = n := by omega
      have hfull : (ps.take k).flatten.length = ps.flatten.length := by rw [List.take_of_length_le (by rw [HN.out]; exact Nat.le_refl _)]
      obtain ⟨N, hNN⟩ : ∃ x : Nat, ps.flatten.length = x := ⟨_, rfl⟩
      have HNN := Lib.hid hNN
      have HN1 := Lib.hid (show N ≤ 100000000000 by have := Hl.out; omega)
      rw [hfull, hNN]
      clear hfull hNN
      go_wp2_with (at_make; refine wpList_make_blk _ rfl _ _ 57 rfl 5 (.int .u8 0) 1 Tryz.underlying57 Block.byte_info rfl .i64 .i64 (N : Int) N rfl rfl rfl (by have := HN1.out; omega) (by have := HN1.out; unfold maxLen; omega) ?_; intro w1 hb1 hs1 hg1; have Hb := Lib.hid hb1; have H1 := Lib.hid (stp_none hg1); clear hb1 hs1 hg1)
      obtain ⟨g, hg⟩ : ∃ x, wr.heap.size = x := ⟨_, rfl⟩
      rw [hg] at Hb ⊢
      have Hwg := Lib.hid (show w.heap.size ≤ g by rw [← hg]; exact hst.size)
      have H2 := Lib.hid (Stp.trans hst H1.out)
      have HB := Lib.hid (show Blk w1 g 5 (bs (roomV N [])).toArray by
        have e : (bs (roomV N [])).toArray = Array.replicate N (.int .u8 0) := by simp [bs, roomV]
        rw [e]
        exact Hb.out)
      clear hg Hb H1 hst hlt
      go_loopw [7, 25] (fun s i wq => ∃ j : Nat, j ≤ k ∧ i = .int .i64 (j : Int) ∧ s = .int .i64 (((ps.take j).flatten.length : Nat) : Int) ∧ Hid (Stp w wq) ∧ Hid (Blk wq g 5 (bs (roomV N (ps.take j).flatten)).toArray)) (fun _ i _ => k - (intOf i).toNat)
      case atStart => exact ⟨0, by omega, rfl, rfl, H2, HB⟩
      case round =>
        obtain ⟨j, hj, rfl, rfl, Hst, HBk⟩ := hrel
        by_cases hlt : j < k
        · obtain ⟨p, hp⟩ : ∃ p, ps[j]? = some p := ⟨_, List.getElem?_eq_getElem (by rw [HN.out]; exact hlt)⟩
          obtain ⟨b, o, rfl, hcell⟩ := RdA.at_ (Ha.out.keep Hst.out) (j := j) (by rw [ss_length, HN.out]; exact hlt)
          have q0 := hcell j _ (ss_at hp)
          have hf := flat_next hp
          have hle := flat_le ps (j + 1)
          rw [HNN.out] at hle
          obtain ⟨pre, hpre⟩ : ∃ x, (ps.take j).flatten = x := ⟨_, rfl⟩
          rw [hpre] at hf HBk
          rw [hf, List.length_append] at hle
          have HF := Lib.hid hf
          have hroom := roomV_length (N := N) (pre := pre) (by omega)
          obtain ⟨S, hS⟩ : ∃ x : Nat, pre.length = x := ⟨_, rfl⟩
          have HS := Lib.hid hS
          have Hroom := Lib.hid hroom
          have Hle := Lib.hid hle
          rw [hpre, hS]
          rw [hS] at hle
          have gS : (S : Int) ≤ (N : Int) := by omega
          clear hcell hp hf hS hpre hroom
          by_cases hSN : S = N
          · obtain rfl : p = [] := List.eq_nil_of_length_eq_zero (by omega)
            subst hSN
            obtain ⟨w2, hrun, hb2, hg2⟩ := run_copy_in (P := Tryz.prog) wr 57 9 3 5 g 0 0 0 5 _ [] Tryz.underlying57 byte_size1 HBk.out (by simp) (by simp)
            have H3 := Lib.hid (show Stp w w2 from Below.grown Hst.out hg2 Hst.out.size (fun q hq => by cases hq; exact Hwg.out))
            have e : (List.take 0 (bs (roomV S pre)).toArray.toList ++ bs [] ++ List.drop (0 + ([] : L).length) (bs (roomV S pre)).toArray.toList).toArray = (bs (roomV S (pre ++ []))).toArray := by simp [bs]
            rw [e] at hb2
            have Hb3 := Lib.hid hb2
            clear hb2 hg2 e
            go_wp2_with fail
            go_roundw
            case rel => exact ⟨j + 1, by omega, by go_num, by rw [HF.out, List.length_append, HS.out]; have := HN1.out; simp only [Value.int.injEq, true_and]; unfold wrap64; omega, H3, by rw [HF.out]; exact Hb3⟩
            case measure => simp [intOf]; omega
          · obtain ⟨w2, hrun, hb2, hg2⟩ := run_copy_in (P := Tryz.prog) wr 57 9 3 5 g S (N - S) (N - S) 5 _ p Tryz.underlying57 byte_size1 HBk.out (by omega) (by simp [bs_length, Hroom.out]; omega)
            have H3 := Lib.hid (show Stp w w2 from Below.grown Hst.out hg2 Hst.out.size (fun q hq => by cases hq; exact Hwg.out))
            rw [← HS.out, room_next Hle.out] at hb2
            have Hb3 := Lib.hid hb2
            clear hb2 hg2
            go_wp2_with fail
            go_roundw
            case rel => exact ⟨j + 1, by omega, by go_num, by rw [HF.out, List.length_append, HS.out]; have := HN1.out; simp only [Value.int.injEq, true_and]; unfold wrap64; omega, H3, by rw [HF.out]; exact Hb3⟩
            case measure => simp [intOf]; omega
        · obtain rfl : j = k := by omega
          have hall : (ps.take j).flatten = ps.flatten := by rw [List.take_of_length_le (by rw [HN.out]; exact Nat.le_refl _)]
          rw [hall, HNN.out]
          have hb := HBk.out
          rw [hall] at hb
          have e : roomV N ps.flatten = ps.flatten := by unfold roomV; rw [HNN.out]; simp
          rw [e] at hb
          have hrd := (Base.Own.of_blk (lo := 0) hb (Nat.zero_le _) (n := N) (by simp [bs_length, HNN.out]) (by have := HN1.out; unfold maxLen; omega)).rd
          rw [List.toList_toArray] at hrd
          have hcv := run_string_rd (P := Tryz.prog) wr 57 9 5 Tryz.underlying57 Tryz.underlying5 Tryz.underlying9 _ _ _ hrd
          clear hall hb hrd e HBk HB
          go_wp2_with fail
          go_ret
          exact ⟨rfl, Hst.out⟩
end Go.Proofs.YthjdejjejlhioaaGreatDoor.Read

namespace Go.Proofs.YthjdejjejlhioaaGreatDoor.Read
open Go.RowKit Go.Proofs.YthjdejjejlhioaaGreatDoor.Str Go.Proofs.YthjdejjejlhioaaGreatDoor.Base Go.Proofs.YthjdejjejlhioaaGreatDoor.Node

/-- A node, and the pieces of its bytes. -/
structure Dr where
  node : Nd
  ps : List L
  at_ : Value
def nodeD (d : Dr) : Nd := { d.node with data := d.ps.flatten }
abbrev dcells (d : Dr) : Array Value := #[.string ⟨d.node.path.toArray⟩, .string ⟨d.node.link.toArray⟩, .int .u8 (d.node.kind.toNat : Int), .int .i64 d.node.mode, .int .i64 d.node.uid, .int .i64 d.node.gid, .int .i64 d.node.time, .string ⟨d.node.data.toArray⟩, d.at_]
/-- The cells of drafts. -/
def dtc (ds : List Dr) : List Value := ds.flatMap fun d => (dcells d).toList
theorem dtc_length (ds : List Dr) : (dtc ds).length = ds.length * 9 := by
  induction ds with
  | nil => rfl
  | cons d ds ih => simp [dtc] at ih ⊢; omega
theorem dtc_append (a b : List Dr) : dtc (a ++ b) = dtc a ++ dtc b := by simp [dtc]
theorem dtc_at {ds : List Dr} {j i : Nat} {d : Dr} (h : ds[j]? = some d) (hi : i < 9) : (dtc ds)[j * 9 + i]? = (dcells d)[i]? := by
  induction ds generalizing j with
  | nil => simp at h
  | cons x ds ih =>
    have hl : (dcells x).toList.length = 9 := rfl
    cases j with
    | zero =>
      simp only [List.getElem?_cons_zero, Option.some.injEq] at h
      subst h
      show ((dcells x).toList ++ dtc ds)[0 * 9 + i]? = _
      rw [List.getElem?_append_left (by rw [hl]; omega), Array.getElem?_toList]
      congr 1
      omega
    | succ j =>
      simp only [List.getElem?_cons_succ] at h
      show ((dcells x).toList ++ dtc ds)[(j + 1) * 9 + i]? = _
      rw [List.getElem?_append_right (by rw [hl]; omega), hl, show (j + 1) * 9 + i - 9 = j * 9 + i by omega]
      exact ih h
/-- The slice at A reads as drafts; their pieces can be read. -/
def RdX (w : World) (A : Option Addr) (cap : Nat) (ds : List Dr) : Prop :=
  ds.length ≤ cap ∧ (ds ≠ [] → ∃ b o, A = some ⟨b, o, none⟩ ∧ b < w.heap.size ∧ ∀ q u, (dtc ds)[q]? = some u → w.cell? ⟨b, o + q, none⟩ = some u) ∧ ∀ d ∈ ds, ∃ A1 c1, d.at_ = .slice A1 d.ps.length c1 ∧ RdA w A1 c1 (ss d.ps)
section
variable {w w' : World} {A : Option Addr} {cap : Nat} {ds : List Dr}
theorem RdX.keep (h : RdX w A cap ds) (hs : Stp w w') : RdX w' A cap ds := by
  refine ⟨h.1, fun hn => ?_, fun d hd => ?_⟩
  · obtain ⟨b, o, e, hb, hc⟩ := h.2.1 hn
    exact ⟨b, o, e, Nat.lt_of_lt_of_le hb hs.size, fun q u hq => (hs.cell (p := ⟨b, o + q, none⟩) hb).trans (hc q u hq)⟩
  · obtain ⟨A1, c1, e, hr⟩ := h.2.2 d hd
    exact ⟨A1, c1, e, hr.keep hs⟩
theorem RdX.cells (h : RdX w A cap ds) {j : Nat} {d : Dr} (hj : ds[j]? = some d) : ∃ b o, A = some ⟨b, o, none⟩ ∧ b < w.heap.size ∧
    w.cell? ⟨b, o + j * 9, none⟩ = some (.string ⟨d.node.path.toArray⟩) ∧ w.cell? ⟨b, o + j * 9 + 1, none⟩ = some (.string ⟨d.node.link.toArray⟩) ∧ w.cell? ⟨b, o + j * 9 + 2, none⟩ = some (.int .u8 (d.node.kind.toNat : Int)) ∧ w.cell? ⟨b, o + j * 9 + 3, none⟩ = some (.int .i64 d.node.mode) ∧
    w.cell? ⟨b, o + j * 9 + 4, none⟩ = some (.int .i64 d.node.uid) ∧ w.cell? ⟨b, o + j * 9 + 5, none⟩ = some (.int .i64 d.node.gid) ∧ w.cell? ⟨b, o + j * 9 + 6, none⟩ = some (.int .i64 d.node.time) ∧ w.cell? ⟨b, o + j * 9 + 7, none⟩ = some (.string ⟨d.node.data.toArray⟩) ∧ w.cell? ⟨b, o + j * 9 + 8, none⟩ = some d.at_ := by
  obtain ⟨b, o, e, hb, hc⟩ := h.2.1 (by rintro rfl; simp at hj)
  have g : ∀ i u, (dcells d)[i]? = some u → w.cell? ⟨b, o + (j * 9 + i), none⟩ = some u := fun i u hi => hc _ u (by rw [dtc_at hj (show i < 9 from (Array.getElem?_eq_some_iff.1 hi).1)]; exact hi)
  refine ⟨b, o, e, hb, g 0 _ rfl, ?_, ?_, ?_, ?_, ?_, ?_, ?_, ?_⟩
  · rw [Nat.add_assoc]; exact g 1 _ rfl
  · rw [Nat.add_assoc]; exact g 2 _ rfl
  · rw [Nat.add_assoc]; exact g 3 _ rfl
  · rw [Nat.add_assoc]; exact g 4 _ rfl
  · rw [Nat.add_assoc]; exact g 5 _ rfl
  · rw [Nat.add_assoc]; exact g 6 _ rfl
  · rw [Nat.add_assoc]; exact g 7 _ rfl
  · rw [Nat.add_assoc]; exact g 8 _ rfl
end
theorem dr_cells {w : World} {g : Nat} {t : TypeId} {d : Dr} (hb : Blk w g t (dcells d)) :
    (w.cell? ⟨g, 0, none⟩ = some (.string ⟨d.node.path.toArray⟩) ∧ w.cell? ⟨g, 1, none⟩ = some (.string ⟨d.node.link.toArray⟩) ∧ w.cell? ⟨g, 2, none⟩ = some (.int .u8 (d.node.kind.toNat : Int)) ∧ w.cell? ⟨g, 3, none⟩ = some (.int .i64 d.node.mode) ∧
    w.cell? ⟨g, 4, none⟩ = some (.int .i64 d.node.uid) ∧ w.cell? ⟨g, 5, none⟩ = some (.int .i64 d.node.gid) ∧ w.cell? ⟨g, 6, none⟩ = some (.int .i64 d.node.time) ∧ w.cell? ⟨g, 7, none⟩ = some (.string ⟨d.node.data.toArray⟩) ∧ w.cell? ⟨g, 8, none⟩ = some d.at_) ∧ w.frozen? ⟨g, 7, none⟩ = false ∧ w.frozen? ⟨g, 8, none⟩ = false := by
  refine ⟨⟨?_, ?_, ?_, ?_, ?_, ?_, ?_, ?_, ?_⟩, hb.free 7, hb.free 8⟩ <;> (rw [hb.cell]; rfl)
theorem set_grown (w : World) (a : Addr) (u : Value) : w.grownBy (w.setCell a u) (some a.block) :=
  ⟨by simp [World.setCell], by simp [World.setCell], by simp [World.setCell], by simp [World.setCell], fun b _ hb => Below.heap_setCell w a u b (fun e => hb (by rw [e]))⟩
theorem map_next {ds : List Dr} {k : Nat} {d : Dr} (h : ds[k]? = some d) : (ds.take (k + 1)).map nodeD = (ds.take k).map nodeD ++ [nodeD d] := by
  rw [List.take_add_one, h]
  simp

theorem lit_at (x : Nd) (w : World) (t : TypeId) (g : Nat) (hg : w.heap.size = g) : ∀ (j : Nat) (u : Value), (ncells x).toList[j]? = some u → (w.alloc (.cells (ncells x) t)).cell? ((⟨g, 0, none⟩ : Addr).add j) = some u := by
  subst hg
  exact lit_cells x w t
theorem size_set (w : World) (a : Addr) (u : Value) : (w.setCell a u).heap.size = w.heap.size := by simp [World.setCell]
theorem row_set {w : World} {g j base size k : Nat} {t e : TypeId} {cs : Array Value} {v : Value} {xs : List Value} (u : Value) (hr : w.ownsRow base e size v k xs) (hb : Blk w g t cs) (hte : t ≠ e) : (w.setCell ⟨g, j, none⟩ u).ownsRow base e size v k xs :=
  hr.kept (set_grown w ⟨g, j, none⟩ u) (.inr (Ne.symm (Block.blk_not_row hb hte hr)))
set_option maxRecDepth 100000 in
set_option maxHeartbeats 4000000 in
theorem finish_s (ds : List Dr) (n : Nat) (hn : ds.length = n) (hn1 : n ≤ 3000) (hl : ∀ d ∈ ds, d.ps.length ≤ 1000000 ∧ d.ps.flatten.length ≤ 100000000000) (A : Option Addr) (c : Nat) (w : World) (ha : RdX w A c ds) :
    Calls Tryz.prog 52 #[.slice A n c] w fun e w' => ∃ B k, e = .returned (.slice B n k) ∧ RdN w' B k (ds.map nodeD) ∧ Stp w w' := by
  obtain ⟨i, hi, hz, hsz, hby⟩ := info_parts Tree.node_info
  have HN := Lib.hid hn
  have Ha := Lib.hid ha
  have Hl := Lib.hid hl
  clear hn ha hl
  go_enter Tryz.func52, Tryz.ntmps52
  go_wp2_with fail
  go_loopw [3, 8] (fun v i wr => ∃ k : Nat, k ≤ n ∧ i = .int .i64 (k : Int) ∧ Hid (wr.ownsRow w.heap.size 44 8 v k (ntc ((ds.take k).map nodeD))) ∧ Hid (Stp w wr)) (fun _ i _ => n - (intOf i).toNat)
  case atStart => exact ⟨0, by omega, rfl, Lib.hid (World.ownsRow_nil _ _ _ _), Lib.hid (Stp.refl w)⟩
  case round =>
    obtain ⟨k, hk, rfl, Hv, H1⟩ := hrel
    by_cases hlt : k < n
    · obtain ⟨x, hx⟩ : ∃ x, ds[k]? = some x := ⟨_, List.getElem?_eq_getElem (by rw [HN.out]; exact hlt)⟩
      obtain ⟨b, o, rfl, hb, q0, q1, q2, q3, q4, q5, q6, q7, q8⟩ := (Ha.out.keep H1.out).cells hx
      have hc := Ha.out.1
      rw [HN.out] at hc
      have hmem := List.mem_of_getElem? hx
      obtain ⟨A1, c1, hat, hrd⟩ := (Ha.out.keep H1.out).2.2 x hmem
      obtain ⟨hl1, hl2⟩ := Hl.out x hmem
      have Hnx := Lib.hid (map_next hx)
      have Hb := Lib.hid (Blk.new wr 101 (dcells x))
      have Hrd := Lib.hid (hrd.keep (Stp.alloc (Stp.refl wr) (.cells (dcells x) 101)))
      have Hl1 := Lib.hid hl1
      have Hl2 := Lib.hid hl2
      obtain ⟨⟨nd, ps, av⟩, hxe⟩ : ∃ y, x = y := ⟨_, rfl⟩
      subst hxe
      simp only at hat
      subst hat
      simp only at q0 q1 q2 q3 q4 q5 q6 q7 q8 Hl1 Hl2 Hrd Hb
      clear hx hmem hrd hl1 hl2
      go_wp2_with (first
        | (go_at_call 75; (with_reducible refine (join_s ps _ rfl Hl1.out Hl2.out A1 c1 _ Hrd.out).mono ?_); rintro e w2 ⟨rfl, hs⟩; have H2 := Lib.hid (Stp.trans (Stp.alloc H1.out _) hs); have Hv2 := Lib.hid (row_keep (Hv.out.alloc _) hs); have Hb2 := Lib.hid (Hb.out.keep hs Hb.out.lt); clear hs q0 q1 q2 q3 q4 q5 q6 q7 q8; obtain ⟨⟨q0, q1, q2, q3, q4, q5, q6, q7, q8⟩, z7, z8⟩ := dr_cells Hb2.out; have Hv3 := Lib.hid (row_set (j := 7) (.string ⟨ps.flatten.toArray⟩) Hv2.out Hb2.out (by decide)); have H3 := Lib.hid (show Stp w (w2.setCell ⟨wr.heap.size, 7, none⟩ (.string ⟨ps.flatten.toArray⟩)) from Below.setCell H2.out (p := ⟨wr.heap.size, 7, none⟩) H1.out.size _); have hlo := H3.out.size)
        | (at_builtin; refine wpList_append_own (P := Tryz.prog) _ rfl (.tmp 17) (.tmp 20) 22 rfl w.heap.size 44 i _ 8 88 Tryz.underlying22 hi hz hsz hby rfl (by decide) _ _ _ rfl (Hv3.out.alloc _) ⟨w2.heap.size, 0, none⟩ 1 1 (ncells (nodeD ⟨nd, ps, .slice A1 ps.length c1⟩)).toList rfl rfl (lit_at (nodeD ⟨nd, ps, .slice A1 ps.length c1⟩) _ _ _ (size_set _ _ _)) (lit_one _) (by unfold maxLen; omega) (by omega) (by rw [World.size_alloc]; omega) ?_; intro v' w4 hv' hg4 _; have H4 := Lib.hid (row_stp (Hv3.out.alloc _) (Stp.alloc H3.out _) (Nat.le_refl _) hg4); have Hv4 := Lib.hid hv'; clear hv' hg4 q0 q1 q2 q3 q4 q5 q6 q7 q8 z7 z8))
      go_roundw
      case rel => exact ⟨k + 1, by omega, by go_num, Lib.hid (by rw [Hnx.out, ntc_append]; exact Hv4.out), H4⟩
      case measure => simp [intOf]; omega
    · obtain rfl : k = n := by omega
      have hv := Hv.out
      rw [List.take_of_length_le (by rw [HN.out]; exact Nat.le_refl _)] at hv
      have hlen : (ds.map nodeD).length = k := by rw [List.length_map, HN.out]
      rw [← hlen] at hv
      obtain ⟨A', c', rfl, hR⟩ := RdN.of_row hv
      rw [hlen]
      have HR := Lib.hid hR
      clear hR hv hlen
      go_wp2_with fail
      go_ret
      exact ⟨A', c', rfl, HR.out, H1.out⟩
end Go.Proofs.YthjdejjejlhioaaGreatDoor.Read

namespace Go.Proofs.YthjdejjejlhioaaGreatDoor.Read
open Go.RowKit Go.Proofs.YthjdejjejlhioaaGreatDoor.Str Go.Proofs.YthjdejjejlhioaaGreatDoor.Base Go.Proofs.YthjdejjejlhioaaGreatDoor.Node Go.Proofs.YthjdejjejlhioaaGreatDoor.Parse

theorem ev_c {w : World} {g : Nat} {t : TypeId} {x : Evt} (hb : Blk w g t (Parse.ecells x)) :
    w.cell? ⟨g, 0, none⟩ = some (.int .i64 x.kind) ∧ w.cell? ⟨g, 1, none⟩ = some (.string ⟨x.node.path.toArray⟩) ∧ w.cell? ⟨g, 2, none⟩ = some (.string ⟨x.node.link.toArray⟩) ∧ w.cell? ⟨g, 3, none⟩ = some (.int .u8 (x.node.kind.toNat : Int)) ∧ w.cell? ⟨g, 4, none⟩ = some (.int .i64 x.node.mode) ∧
    w.cell? ⟨g, 5, none⟩ = some (.int .i64 x.node.uid) ∧ w.cell? ⟨g, 6, none⟩ = some (.int .i64 x.node.gid) ∧ w.cell? ⟨g, 7, none⟩ = some (.int .i64 x.node.time) ∧ w.cell? ⟨g, 8, none⟩ = some (.string ⟨x.node.data.toArray⟩) ∧ w.cell? ⟨g, 9, none⟩ = some (.string ⟨x.data.toArray⟩) := by
  refine ⟨?_, ?_, ?_, ?_, ?_, ?_, ?_, ?_, ?_, ?_⟩ <;> (rw [hb.cell]; rfl)

/-- What Gather has in memory. -/
structure Kd (w0 w : World) (lo g1 g2 : Nat) (v : Value) (ds : List Dr) (o : Bool) : Prop where
  stp : Stp w0 w
  le1 : w0.heap.size ≤ g1
  le2 : w0.heap.size ≤ g2
  le : w0.heap.size ≤ lo
  lo' : lo ≤ w.heap.size
  ne : g1 ≠ g2
  box : Blk w g1 96 #[v]
  is : Blk w g2 4 #[.bool o]
  row : w.ownsRow lo 101 9 v ds.length (dtc ds)
/-- The pieces' rows. -/
def Ps (w : World) (lo hi : Nat) (ds : List Dr) : Prop := ∀ d ∈ ds, w.ownsRow lo 9 1 d.at_ d.ps.length (ss d.ps) ∧ ∀ q, d.at_.ownBlock = some q → q < hi
section
variable {w w' : World} {lo hi : Nat} {ds : List Dr}
theorem Ps.grown {row : Option Nat} (h : Ps w lo hi ds) (hg : w.grownBy w' row) (hr : ∀ q, row = some q → hi ≤ q ∨ ∀ t cs z, w.heap[q]? = some (.cells cs t z) → t ≠ 9) : Ps w' lo hi ds := fun d hd => by
  obtain ⟨h1, h2⟩ := h d hd
  refine ⟨h1.kept hg ?_, h2⟩
  cases ho : d.at_.ownBlock with
  | none => exact .inl rfl
  | some q =>
    refine .inr fun e => ?_
    rcases hr q e.symm with h3 | h3
    · have := h2 q ho
      omega
    · obtain ⟨_, ⟨hv, _⟩ | ⟨g, cap, cur, hv, _, hg2, _⟩⟩ := h1
      · rw [hv] at ho
        simp [Value.ownBlock] at ho
      · rw [hv] at ho
        simp only [Value.ownBlock, Option.some.injEq] at ho
        subst ho
        exact h3 _ _ _ hg2 rfl
theorem Ps.keep (h : Ps w lo hi ds) (hs : Stp w w') : Ps w' lo hi ds := fun d hd => ⟨row_keep (h d hd).1 hs, (h d hd).2⟩
theorem Ps.set {g j : Nat} {t : TypeId} {cs : Array Value} (h : Ps w lo hi ds) (hb : Blk w g t cs) (ht : t ≠ 9) (u : Value) : Ps (w.setCell ⟨g, j, none⟩ u) lo hi ds :=
  h.grown (set_grown w _ u) fun q e => by
    cases e
    refine .inr fun t2 cs2 z e2 => ?_
    unfold Blk at hb
    rw [hb] at e2
    cases e2
    exact ht
end
theorem row_ne_row {w : World} {b1 b2 s1 s2 n1 n2 : Nat} {t1 t2 : TypeId} {v1 v2 : Value} {xs1 xs2 : List Value} (h1 : w.ownsRow b1 t1 s1 v1 n1 xs1) (h2 : w.ownsRow b2 t2 s2 v2 n2 xs2) (ht : t1 ≠ t2) : v1.ownBlock = none ∨ v1.ownBlock ≠ v2.ownBlock := by
  obtain ⟨_, ⟨rfl, _⟩ | ⟨g, cap, cur, rfl, _, hg, _⟩⟩ := h1
  · exact .inl rfl
  · refine .inr fun e => ?_
    obtain ⟨_, ⟨rfl, _⟩ | ⟨g', cap', cur', rfl, _, hg', _⟩⟩ := h2
    · simp [Value.ownBlock] at e
    · simp only [Value.ownBlock, Option.some.injEq] at e
      subst e
      rw [hg] at hg'
      cases hg'
      exact ht rfl
theorem Ps.past {w w' : World} {lo hi : Nat} {ds : List Dr} {b sz n : Nat} {t : TypeId} {v : Value} {xs : List Value} (h : Ps w lo hi ds) (hr : w.ownsRow b t sz v n xs) (ht : 9 ≠ t) (hg : w.grownBy w' v.ownBlock) : Ps w' lo hi ds :=
  fun d hd => ⟨(h d hd).1.kept hg (row_ne_row (h d hd).1 hr ht), (h d hd).2⟩
theorem Ps.more {w : World} {lo hi hi' : Nat} {ds : List Dr} (h : Ps w lo hi ds) (hh : hi ≤ hi') : Ps w lo hi' ds := fun d hd => ⟨(h d hd).1, fun q hq => Nat.lt_of_lt_of_le ((h d hd).2 q hq) hh⟩
theorem row_lit (w : World) (t : TypeId) (u : Value) : (w.alloc (.cells #[u] t)).ownsRow w.heap.size t 1 (.slice (some ⟨w.heap.size, 0, none⟩) 1 1) 1 [u] :=
  ⟨rfl, .inr ⟨w.heap.size, 1, #[u], rfl, Nat.le_refl _, heap_alloc_new w _, Nat.le_refl _, by unfold maxLen; omega, rfl, rfl⟩⟩

set_option maxRecDepth 100000 in
set_option maxHeartbeats 2000000 in
theorem take_over (w0 : World) (x : Evt) (hk : x.kind = 2) (lo g1 g2 : Nat) (v : Value) (ds : List Dr) (o : Bool) (w : World) (h : Kd w0 w lo g1 g2 v ds o) (hi : Nat) (hp : Ps w lo hi ds) :
    Calls Tryz.prog 51 #[Parse.evv x, .pointer (some ⟨g1, 0, none⟩), .pointer (some ⟨g2, 0, none⟩)] w fun e w' => e = .returned (.tuple #[]) ∧ Kd w0 w' lo g1 g2 v ds false ∧ Ps w' lo hi ds := by
  have H := Lib.hid h
  have Hp := Lib.hid hp
  have He := Lib.hid (Blk.new w 98 (Parse.ecells x))
  have hs := Stp.alloc (Stp.refl w) (.cells (Parse.ecells x) 98)
  have Hb := Lib.hid (h.is.keep hs h.is.lt)
  have q0 := Hb.out.cell 0
  have z0 := Hb.out.free 0
  simp only [List.getElem?_toArray, List.getElem?_cons_zero] at q0
  obtain ⟨e0, e1, e2, e3, e4, e5, e6, e7, e8, e9⟩ := ev_c He.out
  rw [hk] at e0
  have Hs := Lib.hid hs
  clear h hp hs hk
  go_enter Tryz.func51, Tryz.ntmps51
  go_wp2_with fail
  go_end0
  have h := H.out
  have hs := Hs.out
  have hne : (some g2 : Option Nat) ≠ v.ownBlock := Block.blk_not_row Hb.out (by decide) (row_keep h.row hs)
  refine ⟨rfl, ⟨Below.setCell (Stp.trans h.stp hs) (p := ⟨g2, 0, none⟩) h.le2 _, h.le1, h.le2, h.le, ?_, h.ne, (h.box.keep hs h.box.lt).far h.ne _, Hb.out.put 0 _, row_set _ (row_keep h.row hs) Hb.out (by decide)⟩, (Hp.out.keep hs).set Hb.out (by decide) _⟩
  have := hs.size
  have := h.lo'
  rw [size_set]
  omega
theorem draft_info : (Tryz.prog.info? 101).map (fun i => (i.zero, i.size, i.bytes)) = some (some (.agg (dcells ⟨zeroN, [], .slice none 0 0⟩)), 9, 112) := by kernel_rfl
theorem string_info : (Tryz.prog.info? 9).map (fun i => (i.zero, i.size, i.bytes)) = some (some (.string ⟨#[]⟩), 1, 16) := by kernel_rfl
theorem dlit_at (x : Dr) (hx : x.at_.oneCell' = true) (w : World) (t : TypeId) (g : Nat) (hg : w.heap.size = g) : (∀ (j : Nat) (u : Value), (dcells x).toList[j]? = some u → (w.alloc (.cells (dcells x) t)).cell? ((⟨g, 0, none⟩ : Addr).add j) = some u) ∧ ∀ u ∈ (dcells x).toList, u.oneCell' = true := by
  subst hg
  refine ⟨fun j u hj => ?_, fun u hu => ?_⟩
  · rw [Addr.add_lit, Nat.zero_add, World.cell?_alloc_new]
    rw [Array.getElem?_toList] at hj
    exact hj
  · simp only [List.mem_cons, List.not_mem_nil, or_false] at hu
    rcases hu with rfl | rfl | rfl | rfl | rfl | rfl | rfl | rfl | rfl
    all_goals first | rfl | exact hx

/-- The last node is open, and has these pieces. -/
def Opn (w0 w : World) (lo g1 g2 : Nat) (ds : List Dr) (nd : Nd) (ps : List (List UInt8)) : Prop :=
  ∃ v u hi, Kd w0 w lo g1 g2 v (ds ++ [⟨nd, ps, u⟩]) true ∧ Ps w lo hi ds ∧ lo ≤ hi ∧ hi ≤ w.heap.size ∧ w.ownsRow hi 9 1 u ps.length (ss ps)
set_option maxRecDepth 100000 in
set_option maxHeartbeats 4000000 in
theorem take_node (w0 : World) (x : Evt) (hk : x.kind = 0) (lo g1 g2 : Nat) (v : Value) (ds : List Dr) (o : Bool) (hds : ds.length ≤ 100000) (w : World) (h : Kd w0 w lo g1 g2 v ds o) (hp : Ps w lo w.heap.size ds) :
    Calls Tryz.prog 51 #[Parse.evv x, .pointer (some ⟨g1, 0, none⟩), .pointer (some ⟨g2, 0, none⟩)] w fun e w' => e = .returned (.tuple #[]) ∧ Opn w0 w' lo g1 g2 ds x.node [x.node.data] := by
  obtain ⟨i, hi, hz, hsz, hby⟩ := info_parts draft_info
  have H := Lib.hid h
  have Hp := Lib.hid hp
  have He := Lib.hid (Blk.new w 98 (Parse.ecells x))
  have hs1 := Stp.alloc (Stp.refl w) (.cells (Parse.ecells x) 98)
  obtain ⟨w1, hw1⟩ : ∃ y, w.alloc (.cells (Parse.ecells x) 98) = y := ⟨_, rfl⟩
  have hw1' := hw1
  simp only [Parse.ecells] at hw1'
  rw [hw1] at hs1 He
  have Hb := Lib.hid (h.is.keep hs1 h.is.lt)
  have HB := Lib.hid (h.box.keep hs1 h.box.lt)
  have z0 := Hb.out.free 0
  have y0 := HB.out.free 0
  have q0 := HB.out.cell 0
  simp only [List.getElem?_toArray, List.getElem?_cons_zero] at q0
  obtain ⟨e0, e1, e2, e3, e4, e5, e6, e7, e8, e9⟩ := ev_c He.out
  have Hrow := Lib.hid (row_keep h.row hs1)
  have Hp1 := Lib.hid (hp.keep hs1)
  rw [hk] at e0
  have hle := hs1.size
  have hlo := h.lo'
  obtain ⟨g, hg⟩ : ∃ y, w1.heap.size = y := ⟨_, rfl⟩
  have Hg := Lib.hid hg
  have Hs1 := Lib.hid hs1
  have hg1 : w1.heap.size ≤ g := by omega
  go_enter Tryz.func51, Tryz.ntmps51
  have hX := dlit_at ⟨x.node, [x.node.data], .slice (some ⟨g, 0, none⟩) 1 1⟩ rfl (w1.alloc (.cells #[.string ⟨x.node.data.toArray⟩] 9)) 101 (g + 1) (by rw [World.size_alloc, hg])
  have HX := Lib.hid hX
  clear hX
  have n1 : g1 < w.heap.size := h.box.lt
  have n2 : g2 < w.heap.size := h.is.lt
  have n3 : w.heap.size ≠ g1 := by omega
  have n4 : w.heap.size ≠ g2 := by omega
  have n5 : g1 ≠ g2 := h.ne
  have n6 : g2 ≠ g1 := Ne.symm h.ne
  have n7 : g1 ≠ w.heap.size := by omega
  have n8 : g2 ≠ w.heap.size := by omega
  go_wp2_with (at_builtin; refine wpList_append_own (P := Tryz.prog) _ rfl (.tmp 9) (.tmp 17) 96 rfl lo 101 i _ 9 112 Tryz.underlying96 hi hz hsz hby rfl (by decide) v ds.length _ rfl ((Hrow.out.alloc _).alloc _) ⟨g + 1, 0, none⟩ 1 1 (dcells ⟨x.node, [x.node.data], .slice (some ⟨g, 0, none⟩) 1 1⟩).toList rfl rfl HX.out.1 HX.out.2 (by unfold maxLen; omega) (by omega) (by rw [World.size_alloc, World.size_alloc]; omega) ?_; intro v' w4 hv' hg4 _; obtain ⟨gv, cv, rfl, -, -⟩ := hv'.form (by omega); have Hv4 := Lib.hid hv'; have Hg4 := Lib.hid hg4; have Hb4 := Lib.hid (((Hb.out.alloc _).alloc _).grown hg4 (Block.blk_not_row Hb.out (by decide) Hrow.out)); have HB4 := Lib.hid (((HB.out.alloc _).alloc _).grown hg4 (Block.blk_not_row HB.out (by decide) Hrow.out)); have He4 := Lib.hid (((He.out.alloc _).alloc _).grown hg4 (Block.blk_not_row He.out (by decide) Hrow.out)); clear hv' hg4 e0 e1 e2 e3 e4 e5 e6 e7 e8 e9 z0 y0 q0; obtain ⟨e0, -⟩ := ev_c He4.out; rw [hk] at e0; have z0 := Hb4.out.free 0; have y0 := HB4.out.free 0; have q0 := HB4.out.cell 0; simp only [List.getElem?_toArray, List.getElem?_cons_zero] at q0; have z1 := Hb4.out.cell 0; simp only [List.getElem?_toArray, List.getElem?_cons_zero] at z1)
  go_end0
  have h := H.out
  have hA := Stp.alloc (Stp.alloc (Stp.refl w1) (.cells #[.string ⟨x.node.data.toArray⟩] 9)) (.cells (dcells ⟨x.node, [x.node.data], .slice (some ⟨g, 0, none⟩) 1 1⟩) 101)
  have hrow3 := row_keep Hrow.out hA
  have hst4 := row_stp hrow3 (Stp.trans (Stp.trans h.stp Hs1.out) hA) h.le Hg4.out
  have hsz4 := Hg4.out.size
  have hszA := hA.size
  rw [World.size_alloc, World.size_alloc] at hsz4 hszA
  have hbx : Blk (w4.setCell ⟨g1, 0, none⟩ (.slice (some ⟨gv, 0, none⟩) (ds.length + 1) cv)) g2 4 #[.bool o] := Hb4.out.far n6 _
  have hnew := row_lit w1 9 (.string ⟨x.node.data.toArray⟩)
  rw [hg] at hnew
  refine ⟨rfl, .slice (some ⟨gv, 0, none⟩) (ds.length + 1) cv, .slice (some ⟨g, 0, none⟩) 1 1, g, ⟨Below.setCell (Below.setCell hst4 (p := ⟨g1, 0, none⟩) h.le1 _) (p := ⟨g2, 0, none⟩) h.le2 _, h.le1, h.le2, h.le, ?_, n5, (HB4.out.put 0 _).far n5 _, hbx.put 0 _, ?_⟩, ?_, by omega, ?_, ?_⟩
  · rw [size_set, size_set]
    omega
  · rw [List.length_append, dtc_append]
    exact row_set _ (row_set _ Hv4.out HB4.out (by decide)) hbx (by decide)
  · exact ((((Hp1.out.more (by omega)).keep hA).past hrow3 (by decide) Hg4.out).set HB4.out (by decide) _).set hbx (by decide) _
  · rw [size_set, size_set]
    omega
  · exact row_set _ (row_set _ ((hnew.alloc _).kept Hg4.out (row_ne_row (hnew.alloc _) hrow3 (by decide))) HB4.out (by decide)) hbx (by decide)

section
variable {ops : Array Oper} {o : Oper} {a : Act} {K : Act → World → Prop} {Q : Exit → Act → World → Prop} {E : Prop}
theorem step_app_str (w : World) (hgd : o.guard = none) (s x : Operand) (ho : o.op = .call { callee := .builtin .append, args := #[s, x], argTypes := #[99, 99] }) (base : Nat) (v : Value) (xs : List (List UInt8)) (n : Nat) (hn : xs.length = n) (hs : a.eval s = v) (h : w.ownsRow base 9 1 v n (ss xs))
    (p : List UInt8) (ad : Addr) (hx : a.eval x = .slice (some ad) 1 1) (hc : ∀ (j : Nat) (u : Value), (ss [p])[j]? = some u → w.cell? (ad.add j) = some u) (hl : n ≤ 1000000) (hbase : base ≤ w.heap.size)
    (hK : ∀ g cap w', w'.ownsRow base 9 1 (.slice (some ⟨g, 0, none⟩) (n + 1) cap) (n + 1) (ss (xs ++ [p])) → w.grownBy w' v.ownBlock → K (a.put o.dst (.slice (some ⟨g, 0, none⟩) (n + 1) cap)) w') :
    if Region.wanted o (yielded ops a.tmps) = true then Oper.wp Tryz.prog o a w K Q else E := by
  obtain ⟨i, hi, hz, hsz, hby⟩ := info_parts string_info
  obtain ⟨g, cap, w', hr, h2, h3, -, -⟩ := run_append_lies (P := Tryz.prog) w 99 o.type base 9 i _ 1 16 Tryz.underlying99 hi hz hsz hby rfl (by decide) v n (ss xs) h
    ad 1 1 (ss [p]) rfl hc (ss_one _) (by decide) (by unfold maxLen; omega) (by omega) hbase _ rfl
  rw [if_pos (by simp [Region.wanted, hgd])]
  unfold Oper.wp execOp
  simp only [ho, resolve, invoke, builtin, Sem.run_bind, Sem.run_pure, Result.andThen_ok, List.map_toArray, List.map_cons, List.map_nil, hs, hx, hr]
  exact hK g cap w' (by rw [ss_append]; exact h2) h3
end
theorem slit_at (p : List UInt8) (w : World) (t : TypeId) (g : Nat) (hg : w.heap.size = g) : ∀ (j : Nat) (u : Value), (ss [p])[j]? = some u → (w.alloc (.cells #[.string ⟨p.toArray⟩] t)).cell? ((⟨g, 0, none⟩ : Addr).add j) = some u := by
  subst hg
  intro j u hj
  rw [Addr.add_lit, Nat.zero_add, World.cell?_alloc_new]
  cases j with
  | zero => simpa [ss] using hj
  | succ j => simp [ss] at hj

theorem row_blk {w : World} {b sz g n cap : Nat} {t : TypeId} {xs : List Value} (h : w.ownsRow b t sz (.slice (some ⟨g, 0, none⟩) n cap) n xs) : ∃ cur, Blk w g t cur ∧ n ≤ cap ∧ cap ≤ maxLen ∧ cur.size = cap * sz ∧ cur.toList.take (n * sz) = xs ∧ xs.length = n * sz ∧ b ≤ g := by
  obtain ⟨hl, ⟨hv, _⟩ | ⟨g', cap', cur, hv, hb, hg, h1, h2, h3, h4⟩⟩ := h
  · cases hv
  · cases hv
    exact ⟨cur, hg, h1, h2, h3, h4, hl, hb⟩
theorem row_put {w : World} {b sz g n cap : Nat} {t : TypeId} {xs : List Value} (h : w.ownsRow b t sz (.slice (some ⟨g, 0, none⟩) n cap) n xs) (j : Nat) (u : Value) : (w.setCell ⟨g, j, none⟩ u).ownsRow b t sz (.slice (some ⟨g, 0, none⟩) n cap) n (xs.set j u) := by
  obtain ⟨cur, hb, h1, h2, h3, h4, hl, hbg⟩ := row_blk h
  refine ⟨by rw [List.length_set, hl], .inr ⟨g, cap, _, rfl, hbg, hb.put j u, h1, h2, by rw [Array.size_setIfInBounds, h3], ?_⟩⟩
  rw [Array.toList_setIfInBounds, List.take_set, h4]
theorem dtc_set (ds : List Dr) (d : Dr) (u : Value) : (dtc (ds ++ [d])).set (ds.length * 9 + 8) u = dtc (ds ++ [{ d with at_ := u }]) := by
  rw [dtc_append, dtc_append, List.set_append_right _ _ (by rw [dtc_length]; omega), dtc_length, show ds.length * 9 + 8 - ds.length * 9 = 8 by omega]
  rfl
theorem dtc_pieces {w : World} {b g n cap : Nat} {ds : List Dr} {d : Dr} (h : w.ownsRow b 101 9 (.slice (some ⟨g, 0, none⟩) n cap) n (dtc (ds ++ [d]))) : w.cell? ⟨g, ds.length * 9 + 8, none⟩ = some d.at_ ∧ w.frozen? ⟨g, ds.length * 9 + 8, none⟩ = false := by
  obtain ⟨cur, hb, h1, h2, h3, h4, hl, -⟩ := row_blk h
  refine ⟨?_, hb.free _⟩
  rw [hb.cell]
  have e : (dtc (ds ++ [d]))[ds.length * 9 + 8]? = some d.at_ := dtc_at (j := ds.length) (i := 8) (d := d) (by simp) (by omega)
  rw [← h4, List.getElem?_take] at e
  split at e
  · simpa using e
  · cases e
theorem stp_drew1 (w : World) : Stp w w.drew := (Stp.refl w).drewN 1
set_option maxRecDepth 100000 in
set_option maxHeartbeats 4000000 in
theorem take_data (w0 : World) (x : Evt) (hk : x.kind = 1) (lo g1 g2 : Nat) (ds : List Dr) (nd : Nd) (ps : List (List UInt8)) (hds : ds.length ≤ 100000) (hps : 0 < ps.length) (hps2 : ps.length ≤ 100000) (w : World) (h : Opn w0 w lo g1 g2 ds nd ps) :
    Calls Tryz.prog 51 #[Parse.evv x, .pointer (some ⟨g1, 0, none⟩), .pointer (some ⟨g2, 0, none⟩)] w fun e w' => e = .returned (.tuple #[]) ∧ Opn w0 w' lo g1 g2 ds nd (ps ++ [x.data]) := by
  obtain ⟨v, u, hi, hK, hP, hlo, hhi, hR⟩ := h
  have hlen : (ds ++ [(⟨nd, ps, u⟩ : Dr)]).length = ds.length + 1 := by simp
  have hrow := hK.row
  rw [hlen] at hrow
  obtain ⟨gd, capd, rfl, hgd, hgd2⟩ := hrow.form (by omega)
  obtain ⟨gp, capp, rfl, hgp, hgp2⟩ := hR.form hps
  have H := Lib.hid hK
  have HP := Lib.hid hP
  have He := Lib.hid (Blk.new w 98 (Parse.ecells x))
  have hs1 := Stp.alloc (Stp.refl w) (.cells (Parse.ecells x) 98)
  obtain ⟨w1, hw1⟩ : ∃ y, w.alloc (.cells (Parse.ecells x) 98) = y := ⟨_, rfl⟩
  have hw1' := hw1
  simp only [Parse.ecells] at hw1'
  rw [hw1] at hs1 He
  have Hb := Lib.hid (hK.is.keep hs1 hK.is.lt)
  have HB := Lib.hid (hK.box.keep hs1 hK.box.lt)
  have q0 := HB.out.cell 0
  simp only [List.getElem?_toArray, List.getElem?_cons_zero] at q0
  obtain ⟨e0, e1, e2, e3, e4, e5, e6, e7, e8, e9⟩ := ev_c He.out
  have Hrow := Lib.hid (row_keep hrow hs1)
  have HP1 := Lib.hid (hP.keep hs1)
  have HR1 := Lib.hid (row_keep hR hs1)
  rw [hk] at e0
  have hle := hs1.size
  have hlo0 := hK.lo'
  have Hs1 := Lib.hid hs1
  have n1 : g1 < w.heap.size := hK.box.lt
  have n2 : g2 < w.heap.size := hK.is.lt
  have n3 : w.heap.size ≠ g1 := by omega
  have n4 : w.heap.size ≠ g2 := by omega
  have n5 : g1 ≠ g2 := hK.ne
  have n6 : g2 ≠ g1 := Ne.symm hK.ne
  have n7 : g1 ≠ w.heap.size := by omega
  have n8 : g2 ≠ w.heap.size := by omega
  have n9 : gd ≠ w.heap.size := by omega
  have n10 : w.heap.size ≠ gd := by omega
  obtain ⟨c8, z8⟩ := dtc_pieces Hrow.out
  simp only at c8
  have hdp : gd ≠ gp := fun e => by
    have := row_ne_row Hrow.out HR1.out (by decide)
    rcases this with h | h
    · simp [Value.ownBlock] at h
    · exact h (by simp [Value.ownBlock, e])
  have hpd := hdp.symm
  have HRW := Lib.hid (show (w1.drew.alloc (.cells #[.string ⟨x.data.toArray⟩] 9)).ownsRow hi 9 1 (.slice (some ⟨gp, 0, none⟩) ps.length capp) ps.length (ss ps) from (row_keep HR1.out (stp_drew1 w1)).alloc _)
  have HSL := Lib.hid (slit_at x.data w1.drew 9 w1.heap.size rfl)
  have Hbase := Lib.hid (show hi ≤ (w1.drew.alloc (.cells #[.string ⟨x.data.toArray⟩] 9)).heap.size by rw [World.size_alloc]; show hi ≤ w1.heap.size + 1; omega)
  have Hps2 := Lib.hid (show ps.length ≤ 1000000 by omega)
  have HrowW := Lib.hid (show (w1.drew.alloc (.cells #[.string ⟨x.data.toArray⟩] 9)).ownsRow lo 101 9 (.slice (some ⟨gd, 0, none⟩) (ds.length + 1) capd) (ds.length + 1) (dtc (ds ++ [⟨nd, ps, .slice (some ⟨gp, 0, none⟩) ps.length capp⟩])) from (row_keep Hrow.out (stp_drew1 w1)).alloc _)
  have HNE := Lib.hid (row_ne_row HrowW.out HRW.out (by decide))
  have hse := (stp_drew1 w1).alloc (.cells #[.string ⟨x.data.toArray⟩] 9)
  have HeW := Lib.hid (He.out.keep hse He.out.lt)
  have HbW := Lib.hid (Hb.out.keep hse Hb.out.lt)
  have HBW := Lib.hid (HB.out.keep hse HB.out.lt)
  have HPW := Lib.hid (HP1.out.keep hse)
  have Hse := Lib.hid hse
  have m1 : (some w.heap.size : Option Nat) ≠ (Value.slice (some ⟨gp, 0, none⟩) ps.length capp).ownBlock := Block.blk_not_row HeW.out (by decide) HRW.out
  have m2 : (some g2 : Option Nat) ≠ (Value.slice (some ⟨gp, 0, none⟩) ps.length capp).ownBlock := Block.blk_not_row HbW.out (by decide) HRW.out
  have m3 : (some g1 : Option Nat) ≠ (Value.slice (some ⟨gp, 0, none⟩) ps.length capp).ownBlock := Block.blk_not_row HBW.out (by decide) HRW.out
  have M1 := Lib.hid m1
  have M2 := Lib.hid m2
  have M3 := Lib.hid m3
  have m4 : (some g2 : Option Nat) ≠ (Value.slice (some ⟨gd, 0, none⟩) (ds.length + 1) capd).ownBlock := Block.blk_not_row HbW.out (by decide) HrowW.out
  have m5 : (some g1 : Option Nat) ≠ (Value.slice (some ⟨gd, 0, none⟩) (ds.length + 1) capd).ownBlock := Block.blk_not_row HBW.out (by decide) HrowW.out
  have n11 : g2 ≠ gd := fun e => m4 (by rw [e]; rfl)
  have n12 : gd ≠ g2 := n11.symm
  have n13 : g1 ≠ gd := fun e => m5 (by rw [e]; rfl)
  have n14 : gd ≠ g1 := n13.symm
  have k1 : gd < w1.heap.size := by omega
  have k2 : w.heap.size < w1.heap.size := He.out.lt
  clear m1 m2 m3 m4 m5 hse
  have Hk := Lib.hid hk
  clear hK hP hR hrow hs1 hk hlen
  go_enter Tryz.func51, Tryz.ntmps51
  go_wp2_with fail
  go_region_law (refine step_app_str (w1.drew.alloc (.cells #[.string ⟨x.data.toArray⟩] 9)) rfl _ _ rfl hi _ ps ps.length rfl rfl HRW.out x.data _ rfl HSL.out Hps2.out Hbase.out ?_; intro g3 cap3 w5 hr5 hg5; have Hr5 := Lib.hid hr5; have Hg5 := Lib.hid hg5; have Hd5 := Lib.hid (HrowW.out.kept hg5 HNE.out); have He5 := Lib.hid (HeW.out.grown hg5 M1.out); have Hb5 := Lib.hid (HbW.out.grown hg5 M2.out); have HB5 := Lib.hid (HBW.out.grown hg5 M3.out); have hd5 := dtc_pieces Hd5.out; clear hr5 hg5 c8 z8; obtain ⟨c8, z8⟩ := hd5; obtain ⟨e0', -⟩ := ev_c He5.out; rw [Hk.out] at e0'; have z0 := Hb5.out.free 0; have z1 := Hb5.out.cell 0)
  all_goals
    simp only [List.getElem?_toArray, List.getElem?_cons_zero] at z1
    go_wp2_with fail
    go_end0
    refine ⟨rfl, ?_⟩
    obtain ⟨cur, hcur, -⟩ := row_blk Hd5.out
    have hbx : Blk (w5.setCell ⟨gd, ds.length * 9 + 8, none⟩ (.slice (some ⟨g3, 0, none⟩) (ps.length + 1) cap3)) g2 4 #[.bool true] := Hb5.out.far n11 _
    have h := H.out
    have hst5 := row_stp HRW.out (Stp.trans (Stp.trans h.stp Hs1.out) Hse.out) (Nat.le_trans h.le hlo) Hg5.out
    have hsz5 := Hg5.out.size
    rw [World.size_alloc] at hsz5
    have hsz6 : w1.heap.size + 1 ≤ w5.heap.size := hsz5
    refine ⟨.slice (some ⟨gd, 0, none⟩) (ds.length + 1) capd, .slice (some ⟨g3, 0, none⟩) (ps.length + 1) cap3, hi, ⟨Below.setCell (Below.setCell hst5 (p := ⟨gd, _, none⟩) (Nat.le_trans h.le hgd) _) (p := ⟨g2, 0, none⟩) h.le2 _, h.le1, h.le2, h.le, ?_, n5, (HB5.out.far n13 _).far n5 _, hbx.put 0 _, ?_⟩, ?_, hlo, ?_, ?_⟩
    · rw [size_set, size_set]
      omega
    · have e : dtc (ds ++ [⟨nd, ps ++ [x.data], .slice (some ⟨g3, 0, none⟩) (ps.length + 1) cap3⟩]) = (dtc (ds ++ [⟨nd, ps, .slice (some ⟨gp, 0, none⟩) ps.length capp⟩])).set (ds.length * 9 + 8) (.slice (some ⟨g3, 0, none⟩) (ps.length + 1) cap3) := by
        rw [dtc_set, dtc_append, dtc_append]
        rfl
      rw [List.length_append, e]
      exact row_set _ (row_put Hd5.out _ _) hbx (by decide)
    · exact ((HPW.out.grown Hg5.out (fun q e => .inl (by cases e; exact hgp))).set hcur (by decide) _).set hbx (by decide) _
    · rw [size_set, size_set]
      omega
    · rw [List.length_append]
      exact row_set _ (row_set _ Hr5.out hcur (by decide)) hbx (by decide)
end Go.Proofs.YthjdejjejlhioaaGreatDoor.Read

namespace Go.Proofs.YthjdejjejlhioaaGreatDoor.Read
open Go.RowKit Go.Proofs.YthjdejjejlhioaaGreatDoor.Str Go.Proofs.YthjdejjejlhioaaGreatDoor.Base Go.Proofs.YthjdejjejlhioaaGreatDoor.Node
open Go.Proofs.YthjdejjejlhioaaGreatDoor.Parse (Evt RdE)

theorem Kd.keep {w0 w w' : World} {lo g1 g2 : Nat} {v : Value} {ds : List Dr} {o : Bool} (h : Kd w0 w lo g1 g2 v ds o) (hs : Stp w w') : Kd w0 w' lo g1 g2 v ds o :=
  ⟨Stp.trans h.stp hs, h.le1, h.le2, h.le, Nat.le_trans h.lo' hs.size, h.ne, h.box.keep hs h.box.lt, h.is.keep hs h.is.lt, row_keep h.row hs⟩
theorem Opn.keep {w0 w w' : World} {lo g1 g2 : Nat} {ds : List Dr} {nd : Nd} {ps : List L} (h : Opn w0 w lo g1 g2 ds nd ps) (hs : Stp w w') : Opn w0 w' lo g1 g2 ds nd ps := by
  obtain ⟨v, u, hi, h1, h2, h3, h4, h5⟩ := h
  exact ⟨v, u, hi, h1.keep hs, h2.keep hs, h3, Nat.le_trans h4 hs.size, row_keep h5 hs⟩
def nodeP (nd : Nd) (ps : List L) : Nd := { nd with data := ps.flatten }
def OkP (ps : List L) : Prop := ps.length ≤ 3000 ∧ ∀ p ∈ ps, p.length ≤ 1000000
theorem flat_bound (ps : List L) (h : ∀ p ∈ ps, p.length ≤ 1000000) : ps.flatten.length ≤ 1000000 * ps.length := by
  induction ps with
  | nil => simp
  | cons p ps ih =>
    have h1 := h p (by simp)
    have h2 := ih (fun q hq => h q (by simp [hq]))
    simp only [List.flatten_cons, List.length_append, List.length_cons]
    omega
theorem OkP.bounds {ps : List L} (h : OkP ps) : ps.length ≤ 1000000 ∧ ps.flatten.length ≤ 100000000000 := by
  have := flat_bound ps h.2
  have := h.1
  omega
/-- What Gather's loop has gathered: the answer r is what is left to do. -/
def GR (w0 w : World) (lo g1 g2 : Nat) (l : List Evt) (k : Nat) (r : List Nd × Option Nd × Bool) : Bool → Prop
  | false => ∃ v ds, Kd w0 w lo g1 g2 v ds false ∧ Ps w lo w.heap.size ds ∧ ds.length ≤ k ∧ (∀ d ∈ ds, OkP d.ps) ∧ goG (ds.map nodeD) none (l.drop k) = r
  | true => ∃ ds nd ps, Opn w0 w lo g1 g2 ds nd ps ∧ 0 < ps.length ∧ ps.length ≤ k ∧ ds.length + 1 ≤ k ∧ (∀ d ∈ ds, OkP d.ps) ∧ OkP ps ∧ goG (ds.map nodeD) (some (nodeP nd ps)) (l.drop k) = r
/-- What is there behind the loop. -/
def Fin (w0 w : World) (g1 : Nat) (n : Nat) (r : List Nd × Option Nd × Bool) : Prop :=
  ∃ A cap ds, w.cell? ⟨g1, 0, none⟩ = some (.slice A ds.length cap) ∧ RdX w A cap ds ∧ ds.length ≤ n ∧ (∀ d ∈ ds, OkP d.ps) ∧ ds.map nodeD = outG r.1 r.2.1 ∧ Stp w0 w
theorem rd_own {w : World} {lo n : Nat} {t : TypeId} {v : Value} {xs : List Value} (hn : xs.length = n) (h : w.ownsRow lo t 1 v n xs) : ∃ A c, v = .slice A n c ∧ RdA w A c xs := by
  obtain ⟨A, c, hv, hr⟩ := RdA.of (rd_of_row h)
  exact ⟨A, c, by rw [hv, hn], hr⟩
theorem rdX_of {w : World} {lo : Nat} {v : Value} {ds : List Dr} (h : w.ownsRow lo 101 9 v ds.length (dtc ds)) (hp : ∀ d ∈ ds, ∃ A1 c1, d.at_ = .slice A1 d.ps.length c1 ∧ RdA w A1 c1 (ss d.ps)) : ∃ A cap, v = .slice A ds.length cap ∧ RdX w A cap ds := by
  obtain ⟨hl, ⟨rfl, hn⟩ | ⟨g, cap, cur, rfl, hb, hg, hn, hc, hs, ht⟩⟩ := h
  · obtain rfl : ds = [] := List.eq_nil_of_length_eq_zero hn
    exact ⟨none, 0, rfl, by simp, fun h => absurd rfl h, by simp⟩
  · refine ⟨_, cap, rfl, hn, fun _ => ⟨g, 0, rfl, lt_of_block hg, fun q u hq => ?_⟩, hp⟩
    rw [Nat.zero_add, cell_of_row w g q cur _ _ hg]
    rw [← ht, List.getElem?_take] at hq
    split at hq
    · simpa using hq
    · cases hq
theorem fin_closed {w0 w : World} {lo g1 g2 n k : Nat} {v : Value} {ds : List Dr} {o : Bool} {r : List Nd × Option Nd × Bool} (h : Kd w0 w lo g1 g2 v ds o) {hi : Nat} (hp : Ps w lo hi ds) (hk : ds.length ≤ k) (hkn : k ≤ n) (ho : ∀ d ∈ ds, OkP d.ps) (hr : ds.map nodeD = outG r.1 r.2.1) : Fin w0 w g1 n r := by
  obtain ⟨A, cap, rfl, hx⟩ := rdX_of h.row fun d hd => rd_own (ss_length _) (hp d hd).1
  exact ⟨A, cap, ds, by rw [h.box.cell]; rfl, hx, by omega, ho, hr, h.stp⟩
theorem Opn.all {w0 w : World} {lo g1 g2 : Nat} {ds : List Dr} {nd : Nd} {ps : List L} (h : Opn w0 w lo g1 g2 ds nd ps) : ∃ v u, Kd w0 w lo g1 g2 v (ds ++ [⟨nd, ps, u⟩]) true ∧ Ps w lo w.heap.size (ds ++ [⟨nd, ps, u⟩]) := by
  obtain ⟨v, u, hi, h1, h2, h3, h4, h5⟩ := h
  refine ⟨v, u, h1, fun d hd => ?_⟩
  rcases List.mem_append.1 hd with hd | hd
  · exact (h2.more h4) d hd
  · rw [List.mem_singleton.1 hd]
    refine ⟨?_, fun q hq => (h5.lt q hq).2⟩
    obtain ⟨hl, h | ⟨g, cap, cur, e1, e2, e3⟩⟩ := h5
    · exact ⟨hl, .inl h⟩
    · exact ⟨hl, .inr ⟨g, cap, cur, e1, Nat.le_trans h3 e2, e3⟩⟩
theorem fin_open {w0 w : World} {lo g1 g2 n k : Nat} {ds : List Dr} {nd : Nd} {ps : List L} {r : List Nd × Option Nd × Bool} (h : Opn w0 w lo g1 g2 ds nd ps) (hk : ds.length + 1 ≤ k) (hkn : k ≤ n) (ho : ∀ d ∈ ds, OkP d.ps) (hop : OkP ps) (hr : ds.map nodeD ++ [nodeP nd ps] = outG r.1 r.2.1) : Fin w0 w g1 n r := by
  obtain ⟨v, u, h1, h2⟩ := h.all
  refine fin_closed h1 h2 (k := k) (by simp; omega) hkn (fun d hd => ?_) (by rw [List.map_append]; exact hr)
  rcases List.mem_append.1 hd with hd | hd
  · exact ho d hd
  · rw [List.mem_singleton.1 hd]
    exact hop
theorem gr_end {w0 w : World} {lo g1 g2 n : Nat} {l : List Evt} {r : List Nd × Option Nd × Bool} {o : Bool} (hn : l.length = n) (h : GR w0 w lo g1 g2 l n r o) : Fin w0 w g1 n r ∧ r.2.2 = true := by
  have hd : l.drop n = [] := List.drop_of_length_le (by omega)
  cases o with
  | false =>
    obtain ⟨v, ds, h1, h2, h3, h4, h5⟩ := h
    rw [hd, go_nil] at h5
    subst h5
    exact ⟨fin_closed h1 h2 h3 (Nat.le_refl _) h4 (by simp [outG]), rfl⟩
  | true =>
    obtain ⟨ds, nd, ps, h1, h2, h3, h4, h5, h6, h7⟩ := h
    rw [hd, go_nil] at h7
    subst h7
    exact ⟨fin_open h1 h4 (Nat.le_refl _) h5 h6 (by simp [outG]), rfl⟩
/-- An event that is out of order. -/
theorem gr_stop {w0 w : World} {lo g1 g2 n k : Nat} {l rest : List Evt} {x : Evt} {r : List Nd × Option Nd × Bool} {o : Bool} (hkn : k ≤ n) (hd : l.drop k = x :: rest) (h : GR w0 w lo g1 g2 l k r o)
    (hx : (o = false ∧ x.kind ≠ 0) ∨ (o = true ∧ x.kind ≠ 1 ∧ x.kind ≠ 2)) : Fin w0 w g1 n r ∧ r.2.2 = false := by
  rcases hx with ⟨rfl, hx⟩ | ⟨rfl, hx, hx2⟩
  · obtain ⟨v, ds, h1, h2, h3, h4, h5⟩ := h
    rw [hd, goG, if_neg hx] at h5
    subst h5
    exact ⟨fin_closed h1 h2 h3 hkn h4 (by simp [outG]), rfl⟩
  · obtain ⟨ds, nd, ps, h1, h2, h3, h4, h5, h6, h7⟩ := h
    rw [hd, goG, if_neg hx, if_neg hx2] at h7
    subst h7
    exact ⟨fin_open h1 h4 hkn h5 h6 (by simp [outG]), rfl⟩
theorem GR.keep {w0 w w' : World} {lo g1 g2 k : Nat} {l : List Evt} {r : List Nd × Option Nd × Bool} {o : Bool} (h : GR w0 w lo g1 g2 l k r o) (hs : Stp w w') : GR w0 w' lo g1 g2 l k r o := by
  cases o with
  | false =>
    obtain ⟨v, ds, h1, h2, h3⟩ := h
    exact ⟨v, ds, h1.keep hs, (h2.keep hs).more hs.size, h3⟩
  | true =>
    obtain ⟨ds, nd, ps, h1, h2⟩ := h
    exact ⟨ds, nd, ps, h1.keep hs, h2⟩
theorem GR.is {w0 w : World} {lo g1 g2 k : Nat} {l : List Evt} {r : List Nd × Option Nd × Bool} {o : Bool} (h : GR w0 w lo g1 g2 l k r o) : ∃ v, Blk w g2 4 #[.bool o] ∧ Blk w g1 96 #[v] ∧ Stp w0 w := by
  cases o with
  | false =>
    obtain ⟨v, ds, h1, h2, h3⟩ := h
    exact ⟨v, h1.is, h1.box, h1.stp⟩
  | true =>
    obtain ⟨ds, nd, ps, ⟨v, u, hi, h1, -⟩, h2⟩ := h
    exact ⟨v, h1.is, h1.box, h1.stp⟩
/-- A step of the closure. -/
theorem gr_take {w0 w : World} {lo g1 g2 k : Nat} {l rest : List Evt} {x : Evt} {r : List Nd × Option Nd × Bool} {o : Bool} (hk3 : k ≤ 2999) (hd : l.drop k = x :: rest) (hb : BytesE x) (h : GR w0 w lo g1 g2 l k r o)
    (hx : (o = false ∧ x.kind = 0) ∨ (o = true ∧ (x.kind = 1 ∨ x.kind = 2))) :
    Calls Tryz.prog 51 #[Parse.evv x, .pointer (some ⟨g1, 0, none⟩), .pointer (some ⟨g2, 0, none⟩)] w fun e w' => e = .returned (.tuple #[]) ∧ ∃ o', GR w0 w' lo g1 g2 l (k + 1) r o' := by
  have hd2 : l.drop (k + 1) = rest := by rw [← List.drop_drop, hd]; rfl
  rcases hx with ⟨rfl, hx⟩ | ⟨rfl, hx | hx⟩
  · obtain ⟨v, ds, h1, h2, h3, h4, h5⟩ := h
    refine (take_node w0 x hx lo g1 g2 v ds false (by omega) w h1 h2).mono ?_
    rintro e w' ⟨rfl, ho⟩
    refine ⟨rfl, true, ds, x.node, [x.node.data], ho, by simp, by simp, by omega, h4, ⟨by simp, fun p hp => by rw [List.mem_singleton.1 hp]; exact hb.2⟩, ?_⟩
    rw [hd, goG, if_pos hx] at h5
    rw [hd2, ← h5]
    simp [nodeP]
  · obtain ⟨ds, nd, ps, h1, h2, h3, h4, h5, h6, h7⟩ := h
    refine (take_data w0 x hx lo g1 g2 ds nd ps (by omega) h2 (by omega) w h1).mono ?_
    rintro e w' ⟨rfl, ho⟩
    refine ⟨rfl, true, ds, nd, ps ++ [x.data], ho, by simp, by simp; omega, by omega, h5, ⟨by simp; omega, fun p hp => ?_⟩, ?_⟩
    · rcases List.mem_append.1 hp with hp | hp
      · exact h6.2 p hp
      · rw [List.mem_singleton.1 hp]
        exact hb.1
    · rw [hd, goG, if_pos hx] at h7
      rw [hd2, ← h7]
      simp [nodeP, moreN]
  · obtain ⟨ds, nd, ps, h1, h2, h3, h4, h5, h6, h7⟩ := h
    obtain ⟨v, u, g1', g2'⟩ := h1.all
    refine (take_over w0 x hx lo g1 g2 v _ true w g1' _ g2').mono ?_
    rintro e w' ⟨rfl, ho, hp⟩
    refine ⟨rfl, false, v, _, ho, fun d hd => ⟨(hp d hd).1, fun q hq => ((hp d hd).1.lt q hq).2⟩, by simp; omega, fun d hd => ?_, ?_⟩
    · rcases List.mem_append.1 hd with hd | hd
      · exact h5 d hd
      · rw [List.mem_singleton.1 hd]
        exact h6
    · rw [hd, goG, if_neg (by omega), if_pos hx] at h7
      rw [hd2, ← h7, List.map_append]
      rfl
def GRel (w : World) (g1 n : Nat) (l : List Evt) (r : List Nd × Option Nd × Bool) (i : Value) (wr : World) : Prop := ∃ (k : Nat) (o : Bool), k ≤ n ∧ i = .int .i64 (k : Int) ∧ Hid (GR w wr (g1 + 2) g1 (g1 + 1) l k r o)
set_option maxRecDepth 100000 in
set_option maxHeartbeats 4000000 in
theorem gather_s (l : List Evt) (n : Nat) (hn : l.length = n) (hn1 : n ≤ 2999) (hb : ∀ x ∈ l, BytesE x) (r : List Nd × Option Nd × Bool) (hr : goG [] none l = r) (ns : List Nd) (ok : Bool) (m : Nat) (h1 : outG r.1 r.2.1 = ns) (h2 : r.2.2 = ok) (h3 : ns.length = m) (A : Option Addr) (c : Nat) (w : World) (ha : RdE w A c l) :
    Calls Tryz.prog 28 #[.slice A n c] w fun e w' => ∃ B d, e = .returned (.tuple #[.slice B m d, .bool ok]) ∧ RdN w' B d ns ∧ Stp w w' := by
  have HN := Lib.hid hn
  have Ha := Lib.hid ha
  have HB := Lib.hid hb
  have HR := Lib.hid hr
  have E1 := Lib.hid h1
  have E2 := Lib.hid h2
  have E3 := Lib.hid h3
  clear hn ha hb hr h1 h2 h3
  go_enter Tryz.func28, Tryz.ntmps28
  go_wp2_with fail
  go_step3
  go_wp2_with fail
  go_step3
  go_wp2_with fail
  obtain ⟨g1, hg1⟩ : ∃ y, w.heap.size = y := ⟨_, rfl⟩
  obtain ⟨W0, hW0⟩ : ∃ y, (w.alloc (.cells #[.slice none 0 0] 96)).alloc (.cells #[.bool false] 4) = y := ⟨_, rfl⟩
  have hst0 : Stp w W0 := by rw [← hW0]; exact Stp.alloc (Stp.alloc (Stp.refl w) _) _
  have hB1 : Blk W0 g1 96 #[.slice none 0 0] := by rw [← hW0, ← hg1]; exact (Blk.new w _ _).alloc _
  have hB2 : Blk W0 (g1 + 1) 4 #[.bool false] := by
    have := Blk.new (w.alloc (.cells #[.slice none 0 0] 96)) 4 #[.bool false]
    rw [World.size_alloc, hg1] at this
    rw [← hW0]
    exact this
  have hsz0 : W0.heap.size = g1 + 2 := by rw [← hW0, World.size_alloc, World.size_alloc, hg1]
  have HS := Lib.hid (show GR w W0 (g1 + 2) g1 (g1 + 1) l 0 r false from ⟨.slice none 0 0, [], ⟨hst0, by omega, by omega, by omega, by omega, by omega, hB1, hB2, World.ownsRow_nil _ _ _ _⟩, by intro d hd; simp at hd, by simp, by simp, by rw [List.drop_zero]; exact HR.out⟩)
  rw [hW0]
  clear hst0 hB1 hB2 hsz0 hW0
  subst hg1
  go_loopw [6, 13] (fun b i wr => b = .bool true ∧ GRel w w.heap.size n l r i wr) (fun _ i _ => n - (intOf i).toNat)
  case atStart => exact ⟨rfl, 0, false, by omega, rfl, HS⟩
  case round =>
    obtain ⟨rfl, k, o, hk, rfl, HG⟩ := hrel
    by_cases hlt : k < n
    · have hx : l[k]? = some (l[k]'(by rw [HN.out]; exact hlt)) := List.getElem?_eq_getElem (by rw [HN.out]; exact hlt)
      have hdr : l.drop k = l[k]'(by rw [HN.out]; exact hlt) :: l.drop (k + 1) := List.drop_eq_getElem_cons (by rw [HN.out]; exact hlt)
      obtain ⟨x, hxx⟩ : ∃ x, l[k]'(by rw [HN.out]; exact hlt) = x := ⟨_, rfl⟩
      rw [hxx] at hx hdr
      obtain ⟨v0, hi0, hb0, hst⟩ := HG.out.is
      obtain ⟨b, o1, rfl, -, q0, q1, q2, q3, q4, q5, q6, q7, q8, q9⟩ := (Ha.out.keep hst).cells hx
      have hc := Ha.out.1
      rw [HN.out] at hc
      have HD := Lib.hid hdr
      have Hbx := Lib.hid (HB.out x (List.mem_of_getElem? hx))
      have hse := Stp.alloc (Stp.refl wr) (.cells (Parse.ecells x) 98)
      have HE := Lib.hid (Blk.new wr 98 (Parse.ecells x))
      have HG1 := Lib.hid (HG.out.keep hse)
      have hi1 := hi0.alloc (.cells (Parse.ecells x) 98)
      have z1 := hi1.cell 0
      simp only [List.getElem?_toArray, List.getElem?_cons_zero] at z1
      clear hx hdr hxx hst hse hi0 hb0 hi1
      have key : ((o = false ∧ x.kind = 0) ∨ (o = true ∧ (x.kind = 1 ∨ x.kind = 2))) ∨ ((o = false ∧ x.kind ≠ 0) ∨ (o = true ∧ x.kind ≠ 1 ∧ x.kind ≠ 2)) := by
        cases o <;> simp only [true_and, false_and, or_false, false_or, reduceCtorEq] <;> omega
      have hk3 : k ≤ 2999 := by omega
      rcases key with key | key
      · rcases key with ⟨rfl, e⟩ | ⟨rfl, e | e⟩
        · have He0 := Lib.hid e
          have g0 : (x.kind == 0) = true := by rw [e]; rfl
          have g1' : (x.kind == 1) = false := by rw [e]; rfl
          have g2' : (x.kind == 2) = false := by rw [e]; rfl
          clear e
          go_wp2_with (go_at_call 51; go_loud ((with_reducible refine (gr_take hk3 HD.out Hbx.out HG1.out (.inl ⟨rfl, He0.out⟩)).mono ?_); rintro e w2 ⟨rfl, o2, hg⟩; have HG2 := Lib.hid hg; clear hg z1))
          go_roundw
          case rel => exact ⟨rfl, k + 1, o2, by omega, by go_num, HG2⟩
          case measure => simp [intOf]; omega
        · have He0 := Lib.hid e
          have g0 : (x.kind == 0) = false := by rw [e]; rfl
          have g1' : (x.kind == 1) = true := by rw [e]; rfl
          have g2' : (x.kind == 2) = false := by rw [e]; rfl
          clear e
          go_wp2_with (go_at_call 51; go_loud ((with_reducible refine (gr_take hk3 HD.out Hbx.out HG1.out (.inr ⟨rfl, .inl He0.out⟩)).mono ?_); rintro e w2 ⟨rfl, o2, hg⟩; have HG2 := Lib.hid hg; clear hg z1))
          go_roundw
          case rel => exact ⟨rfl, k + 1, o2, by omega, by go_num, HG2⟩
          case measure => simp [intOf]; omega
        · have He0 := Lib.hid e
          have g0 : (x.kind == 0) = false := by rw [e]; rfl
          have g1' : (x.kind == 1) = false := by rw [e]; rfl
          have g2' : (x.kind == 2) = true := by rw [e]; rfl
          clear e
          go_wp2_with (go_at_call 51; go_loud ((with_reducible refine (gr_take hk3 HD.out Hbx.out HG1.out (.inr ⟨rfl, .inr He0.out⟩)).mono ?_); rintro e w2 ⟨rfl, o2, hg⟩; have HG2 := Lib.hid hg; clear hg z1))
          go_roundw
          case rel => exact ⟨rfl, k + 1, o2, by omega, by go_num, HG2⟩
          case measure => simp [intOf]; omega
      · obtain ⟨hfin, hr2⟩ := gr_stop (n := n) hk HD.out HG1.out key
        rcases key with ⟨rfl, e⟩ | ⟨rfl, e, e2⟩
        · have g0 : (x.kind == 0) = false := beq_eq_false_iff_ne.2 e
          have gk : ((x.kind == 1) = true ∧ (x.kind == 2) = false) ∨ ((x.kind == 1) = false ∧ (x.kind == 2) = true) ∨ ((x.kind == 1) = false ∧ (x.kind == 2) = false) := by simp only [beq_iff_eq, beq_eq_false_iff_ne]; omega
          clear e
          obtain ⟨B2, c2, ds, hcell, hx, hdn, hok, hout, hst⟩ := hfin
          have Hx := Lib.hid hx
          have Hok := Lib.hid (show ∀ d ∈ ds, d.ps.length ≤ 1000000 ∧ d.ps.flatten.length ≤ 100000000000 from fun d hd => (hok d hd).bounds)
          have Hout := Lib.hid hout
          have Hst := Lib.hid hst
          have hdn3 : ds.length ≤ 3000 := by omega
          have Hr2 := Lib.hid hr2
          clear hx hok hout hst hr2
          rcases gk with ⟨g1', g2'⟩ | ⟨g1', g2'⟩ | ⟨g1', g2'⟩
          all_goals
            go_wp2_with (go_at_call 52; (with_reducible refine (finish_s ds ds.length rfl hdn3 Hok.out B2 c2 _ Hx.out).mono ?_); rintro e w3 ⟨B3, c3, rfl, hR3, hs3⟩; have HR3 := Lib.hid hR3; have H3 := Lib.hid (Stp.trans Hst.out hs3); clear hR3 hs3)
            rw [Exit.noGoto_ret]
            go_ret2
            have em : ds.length = m := by rw [← E3.out, ← E1.out, ← Hout.out, List.length_map]
            exact ⟨B3, c3, by rw [← em, ← E2.out, Hr2.out]; rfl, by rw [← E1.out, ← Hout.out]; exact HR3.out, H3.out⟩
        · have g1' : (x.kind == 1) = false := beq_eq_false_iff_ne.2 e
          have g2' : (x.kind == 2) = false := beq_eq_false_iff_ne.2 e2
          have gk : (x.kind == 0) = true ∨ (x.kind == 0) = false := by cases (x.kind == 0) <;> simp
          clear e e2
          rcases gk with g0 | g0
          all_goals
            obtain ⟨B2, c2, ds, hcell, hx, hdn, hok, hout, hst⟩ := hfin
            have Hx := Lib.hid hx
            have Hok := Lib.hid (show ∀ d ∈ ds, d.ps.length ≤ 1000000 ∧ d.ps.flatten.length ≤ 100000000000 from fun d hd => (hok d hd).bounds)
            have Hout := Lib.hid hout
            have Hst := Lib.hid hst
            have hdn3 : ds.length ≤ 3000 := by omega
            have Hr2 := Lib.hid hr2
            clear hx hok hout hst hr2
            go_wp2_with (go_at_call 52; (with_reducible refine (finish_s ds ds.length rfl hdn3 Hok.out B2 c2 _ Hx.out).mono ?_); rintro e w3 ⟨B3, c3, rfl, hR3, hs3⟩; have HR3 := Lib.hid hR3; have H3 := Lib.hid (Stp.trans Hst.out hs3); clear hR3 hs3)
            rw [Exit.noGoto_ret]
            go_ret2
            have em : ds.length = m := by rw [← E3.out, ← E1.out, ← Hout.out, List.length_map]
            exact ⟨B3, c3, by rw [← em, ← E2.out, Hr2.out]; rfl, by rw [← E1.out, ← Hout.out]; exact HR3.out, H3.out⟩
    · obtain rfl : k = n := by omega
      obtain ⟨hfin, hr2⟩ := gr_end HN.out HG.out
      obtain ⟨B2, c2, ds, hcell, hx, hdn, hok, hout, hst⟩ := hfin
      have Hx := Lib.hid hx
      have Hok := Lib.hid (show ∀ d ∈ ds, d.ps.length ≤ 1000000 ∧ d.ps.flatten.length ≤ 100000000000 from fun d hd => (hok d hd).bounds)
      have Hout := Lib.hid hout
      have Hst := Lib.hid hst
      have hdn3 : ds.length ≤ 3000 := by omega
      have Hr2 := Lib.hid hr2
      clear hx hok hout hst hr2
      go_wp2_with (go_at_call 52; (with_reducible refine (finish_s ds ds.length rfl hdn3 Hok.out B2 c2 _ Hx.out).mono ?_); rintro e w3 ⟨B3, c3, rfl, hR3, hs3⟩; have HR3 := Lib.hid hR3; have H3 := Lib.hid (Stp.trans Hst.out hs3); clear hR3 hs3)
      rw [Exit.noGoto_ret]
      go_ret2
      have em : ds.length = m := by rw [← E3.out, ← E1.out, ← Hout.out, List.length_map]
      exact ⟨B3, c3, by rw [← em, ← E2.out, Hr2.out]; rfl, by rw [← E1.out, ← Hout.out]; exact HR3.out, H3.out⟩
end Go.Proofs.YthjdejjejlhioaaGreatDoor.Read

namespace Go.Proofs.YthjdejjejlhioaaGreatDoor.Read
open Go.RowKit Go.Proofs.YthjdejjejlhioaaGreatDoor.Str Go.Proofs.YthjdejjejlhioaaGreatDoor.Base Go.Proofs.YthjdejjejlhioaaGreatDoor.Node
open Go.Proofs.YthjdejjejlhioaaGreatDoor.Parse (Evt RdE zeroS phS runS stepS St scells sv RunI SmallS)

theorem gather_v (l : List Evt) (n : Nat) (hn : l.length = n) (hn1 : n ≤ 2999) (hb : ∀ x ∈ l, BytesE x) (ns : List Nd) (ok : Bool) (m : Nat) (hg : gatherV l = (ns, ok)) (hm : ns.length = m) (A : Option Addr) (c : Nat) (w : World) (ha : RdE w A c l) :
    Calls Tryz.prog 28 #[.slice A n c] w fun e w' => ∃ B d, e = .returned (.tuple #[.slice B m d, .bool ok]) ∧ RdN w' B d ns ∧ Stp w w' := by
  unfold gatherV at hg
  simp only [Prod.mk.injEq] at hg
  exact gather_s l n hn hn1 hb _ rfl ns ok m hg.1 hg.2 hm A c w ha

set_option maxRecDepth 100000 in
set_option maxHeartbeats 2000000 in
theorem read_v (I : RunI) (l : List L) (n : Nat) (hn : l.length = n) (hn1 : n ≤ 1000) (hl : ∀ b ∈ l, b.length < 9223372036854775808) (ns : List Nd) (e0 : Int) (m : Nat) (hm : readV l = (ns, e0)) (hm2 : ns.length = m) (A : Option Addr) (c : Nat) (w : World) (ha : RdL w A c l) :
    Calls Tryz.prog 14 #[.slice A n c] w fun e w' => ∃ B d, e = .returned (.tuple #[.slice B m d, .int .i64 e0]) ∧ RdN w' B d ns ∧ Stp w w' := by
  have h0 := Stp.refl w
  obtain ⟨t, y, k, e1, hr⟩ : ∃ t y k e0, runS zeroS l = (t, y, k, e0) := ⟨_, _, _, _, rfl⟩
  have hf := Parse.run_facts l zeroS
  have hby := run_bytes l zeroS
  rw [hr] at hf hby
  have hyl : y.length ≤ 2999 := by have h1 := hf.len; have h2 := hf.n; simp only at h1 h2; omega
  unfold readV at hm
  rw [hr] at hm
  simp only at hm
  have HN := Lib.hid hn
  have HL := Lib.hid hl
  have HA := Lib.hid ha
  have HR := Lib.hid hr
  unfold RunI at I
  have HI := Lib.hid I
  have HB := Lib.hid hby
  by_cases he1 : e1 = 0
  · subst he1
    rw [if_neg (by simp)] at hm
    by_cases h5 : t.phase = 5
    · rw [if_neg (by simp [h5])] at hm
      simp only [Prod.mk.injEq] at hm
      obtain ⟨hm, rfl⟩ := hm
      obtain ⟨ok, hok⟩ : ∃ ok, gatherV y = (ns, ok) := ⟨(gatherV y).2, by rw [← hm]⟩
      have g5 : (t.phase != 5) = false := by rw [h5]; rfl
      have HO := Lib.hid hok
      have HM := Lib.hid hm2
      clear hn hl ha hr hm I hf hby hok hm2 h5
      go_enter Tryz.func14, Tryz.ntmps14
      go_wp2_with (first
        | (go_at_call 21; (with_reducible refine (HI.out zeroS _ Parse.zero_sv Parse.zeroS_small l n HN.out hn1 HL.out t y y.length k 0 HR.out rfl _ _ _ (HA.out.keep (Stp.refl _))).mono ?_); rintro e w2 ⟨B2, d2, rfl, he, hs⟩; have HE := Lib.hid (he.keep (Stp.alloc (Stp.refl _) (.cells (scells t) 46))); replace h0 := Stp.alloc (Stp.trans h0 hs) (.cells (scells t) 46); have q0 := (Parse.st_cells (Blk.new w2 46 (scells t))).1; clear hs he)
        | (go_at_call 28; go_loud ((with_reducible refine (gather_v y y.length rfl hyl HB.out ns ok m HO.out HM.out _ _ _ HE.out).mono ?_); rintro e w3 ⟨B3, d3, rfl, hr3, hs⟩; have HR3 := Lib.hid hr3; replace h0 := Stp.trans h0 hs; clear hs hr3)))
      go_ret2
      exact ⟨B3, d3, rfl, HR3.out, h0⟩
    · rw [if_pos h5] at hm
      simp only [Prod.mk.injEq] at hm
      obtain ⟨rfl, rfl⟩ := hm
      have g5 : (t.phase != 5) = true := by rw [bne_iff_ne]; exact h5
      subst hm2
      clear hn hl ha hr I hf hby h5
      go_enter Tryz.func14, Tryz.ntmps14
      go_wp2_with (go_at_call 21; (with_reducible refine (HI.out zeroS _ Parse.zero_sv Parse.zeroS_small l n HN.out hn1 HL.out t y y.length k 0 HR.out rfl _ _ _ (HA.out.keep (Stp.refl _))).mono ?_); rintro e w2 ⟨B2, d2, rfl, he, hs⟩; replace h0 := Stp.alloc (Stp.trans h0 hs) (.cells (scells t) 46); have q0 := (Parse.st_cells (Blk.new w2 46 (scells t))).1; clear hs he)
      go_ret2
      exact ⟨none, 0, rfl, RdN.nil _, h0⟩
  · rw [if_pos he1] at hm
    simp only [Prod.mk.injEq] at hm
    obtain ⟨rfl, rfl⟩ := hm
    have g1 : (e1 != 0) = true := by rw [bne_iff_ne]; exact he1
    subst hm2
    clear hn hl ha hr I hf hby he1
    go_enter Tryz.func14, Tryz.ntmps14
    go_wp2_with (go_at_call 21; (with_reducible refine (HI.out zeroS _ Parse.zero_sv Parse.zeroS_small l n HN.out hn1 HL.out t y y.length k e1 HR.out rfl _ _ _ (HA.out.keep (Stp.refl _))).mono ?_); rintro e w2 ⟨B2, d2, rfl, he, hs⟩; replace h0 := Stp.alloc (Stp.trans h0 hs) (.cells (scells t) 46); clear hs he)
    go_ret2
    exact ⟨none, 0, rfl, RdN.nil _, h0⟩

end Go.Proofs.YthjdejjejlhioaaGreatDoor.Read

