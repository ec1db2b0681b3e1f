/-
  Contracts of package long: no statement is proved here.
  Contracts of package long: what a node needs, its header's names: no statement is proved here.
  Contracts of package long: what stands ahead: no statement is proved here.
  Contracts of what the laws of package long share: a text, few bytes, the chapter's example: no statement is proved here.
-/
import Derived.Test.YtagkdodjffhlmaaGreatEntryM
import Derived.Test.YtagkdodjffhlmaaGreatLongTx
import Derived.Test.YtagkdodjffhlmaaGreatBase
import Derived.Test.YtagkdodjffhlmaaGreatHeadMay
import Derived.Test.YtagkdodjffhlmaaGreatHeadHlp
import Derived.Test.YtagkdodjffhlmaaGreatBlockK
import Derived.Test.YtagkdodjffhlmaaGreatPathK
import Derived.Deep.RegionHeld3
import Derived.Deep.QuietTactic
import Derived.BigQuiet
import Derived.Laws.AppendOwn
namespace Go.Proofs.YtagkdodjffhlmaaGreat.Long
open Go.RowKit Go.Proofs.YtagkdodjffhlmaaGreat.Str Go.Proofs.YtagkdodjffhlmaaGreat.Base Go.Proofs.YtagkdodjffhlmaaGreat.Node Go.Proofs.YtagkdodjffhlmaaGreat.Head

theorem ty_ne (c : UInt8) (n : Nat) (hn : n < 256) : ((c.toNat : Int) != (n : Int)) = !(decide (c = UInt8.ofNat n)) := by rw [bne, ty_eq c n hn]
theorem put_v (h : Hd) (v : Value) (e : v = hv h) (hs : SmallH h) (w : World) :
    Calls Tryz.prog 16 #[v] w fun e w' => ∃ A cap, e = .returned (.tuple #[.slice A (putB h).length cap, .bool (mayH h)]) ∧ RdA w' A cap (bs (putB h)) ∧ Stp w w' := by
  subst e
  exact put_s h hs w
theorem cut_v (s : L) (v : ByteArray) (e : v = ⟨s.toArray⟩) (ls : List L) (h : BlockM.cutV s = ls) (n : Nat) (hn : ls.length = n) (w : World) (hs : s.length ≤ 1000000) :
    Calls Tryz.prog 65 #[.string v] w fun e w' => ∃ A cap, e = .returned (.slice A n cap) ∧ RdL w' A cap ls ∧ Stp w w' := by
  subst e h hn
  exact Block.cut_s s w hs

theorem ok_of {k : UInt8} {s : L} {t : Bool} (ht : textL s = t) (h : (!t) = false) (hk : (k.toNat : Int) = 75 ∨ (k.toNat : Int) = 76) : putOkL k s = true := by
  rw [putOkL_iff, ht]
  refine ⟨hk.imp (fun e => UInt8.toNat_inj.1 ?_) (fun e => UInt8.toNat_inj.1 ?_), by simpa using h⟩
  · show k.toNat = 75
    omega
  · show k.toNat = 76
    omega
theorem no_of {k : UInt8} {s : L} {t : Bool} (ht : textL s = t) (h : (!t) = true) : putOkL k s = false := by
  rw [Bool.eq_false_iff]
  intro q
  have := (putOkL_iff.1 q).2
  rw [ht] at this
  simp [this] at h
theorem no_of2 {k : UInt8} {s : L} (h1 : ¬ (k.toNat : Int) = 75) (h2 : ¬ (k.toNat : Int) = 76) : putOkL k s = false := by
  rw [Bool.eq_false_iff]
  intro q
  rcases (putOkL_iff.1 q).1 with rfl | rfl
  · exact h1 rfl
  · exact h2 rfl
theorem llH_v (k : UInt8) (s : L) (kk : Int) (hk : kk = (k.toNat : Int)) : Value.agg #[.string { data := #[46, 47, 46, 47, 64, 76, 111, 110, 103, 76, 105, 110, 107] }, .string { data := #[] }, .string { data := #[] }, .int .i64 0, .int .i64 0, .int .i64 0, .int .i64 ((s.length : Int) + 1), .int .i64 0, .int .u8 kk, .int .i64 0, .int .i64 0] = hv (llH k s) := by subst hk; rfl
theorem slices_info : (Tryz.prog.info? 36).map (fun i => (i.zero, i.size, i.bytes)) = some (some (.slice none 0 0), 1, 24) := by kernel_rfl

set_option maxRecDepth 100000 in
set_option maxHeartbeats 2000000 in
theorem lput_s (k : UInt8) (s : L) (w : World) (hs : s.length ≤ 900000) :
    Calls Tryz.prog 41 #[.int .u8 (k.toNat : Int), .string ⟨s.toArray⟩] w fun e w' => ∃ A cap, e = .returned (.tuple #[.slice A (putLs k s).length cap, .bool (putOkL k s)]) ∧ RdL w' A cap (putLs k s) ∧ Stp w w' := by
  have h0 := Stp.refl w
  obtain ⟨t, ht⟩ : ∃ t, textL s = t := ⟨_, rfl⟩
  have Ht := Lib.hid ht
  clear ht
  have Hsz := Lib.hid hs
  have hadd := add_ll s [0] (by simp; omega)
  go_enter Tryz.func41, Tryz.ntmps41
  go_wp2_with (first
    | (go_at_call 64; refine (text_s s _).mono ?_; rintro e w1 ⟨rfl, hs1⟩; have H1 := Lib.hid (Stp.trans h0 hs1); clear hs1; rw [Ht.out])
    | (go_at_call 16; go_loud (have Hok := Lib.hid (ok_of (k := k) Ht.out ‹(!t) = false› (by omega)); (with_reducible refine (put_v (llH k s) _ (llH_v k s _ (by omega)) (llH_small (by have := Hsz.out; omega)) _).mono ?_); rintro e w2 ⟨A2, c2, rfl, hr, hs2⟩; rw [putB_yes (llH_may Hok.out)] at hr; rw [putB_yes (llH_may Hok.out), blk_length (llH_may Hok.out) (llH_small (by have := Hsz.out; omega))]; rw [llH_may Hok.out]; have Hr := Lib.hid hr; have H2 := Lib.hid (Stp.trans H1.out hs2); clear hr hs2))
    | (go_at_call 65; go_loud ((with_reducible refine (cut_v (s ++ [0]) _ rfl [BlockM.blk (s ++ [0])] (cut_long (putOkL_iff.1 Hok.out).2) 1 rfl _ (by have := Hsz.out; simp; omega)).mono ?_); rintro e w3 ⟨A3, c3, rfl, hr3, hs3⟩; have Hr3 := Lib.hid hr3; have HR := Lib.hid ((Rows.one (e := 36) Hr.out (blk_length (llH_may Hok.out) (llH_small (by have := Hsz.out; omega)))).keep hs3); have H3 := Lib.hid (Stp.trans (Stp.alloc H2.out (.cells #[.slice A2 512 c2] 36)) hs3); have h23 := H2.out.size; have h32 := hs3.size; rw [World.size_alloc] at h32; clear hr3 hs3))
    | (at_builtin; go_loud (refine wpList_append_rows (P := Tryz.prog) rfl (.tmp 33) (.tmp 35) 24 rfl 36 Tryz.underlying24 slices_info _ rfl HR.out rfl Hr3.out rfl (by simp) (by omega) ?_; intro v' w4 hR4 hg4; have H4 := Lib.hid (HR.out.stp H3.out h23 hg4); obtain ⟨A4, c4, rfl, hL4⟩ := hR4.rdL; have HL4 := Lib.hid hL4; clear hR4 hg4 hL4)))
  all_goals go_ret2
  · rw [putLs_no (no_of Ht.out ‹(!t) = true›), no_of Ht.out ‹(!t) = true›]
    exact ⟨none, 0, rfl, RdL.nil _, H1.out⟩
  · rw [putLs_yes Hok.out, Hok.out]
    exact ⟨A4, c4, rfl, HL4.out, H4.out⟩
  · rw [putLs_no (no_of Ht.out ‹(!t) = true›), no_of Ht.out ‹(!t) = true›]
    exact ⟨none, 0, rfl, RdL.nil _, H1.out⟩
  · rw [putLs_yes Hok.out, Hok.out]
    exact ⟨A4, c4, rfl, HL4.out, H4.out⟩
  · have hno := no_of2 (k := k) (s := s) (by assumption) (by assumption)
    rw [putLs_no hno, hno]
    exact ⟨none, 0, rfl, RdL.nil _, h0⟩
theorem lput_v (k : UInt8) (kk : Int) (hk : kk = (k.toNat : Int)) (s : L) (w : World) (hs : s.length ≤ 900000) :
    Calls Tryz.prog 41 #[.int .u8 kk, .string ⟨s.toArray⟩] w fun e w' => ∃ A cap, e = .returned (.tuple #[.slice A (putLs k s).length cap, .bool (putOkL k s)]) ∧ RdL w' A cap (putLs k s) ∧ Stp w w' := by
  subst hk
  exact lput_s k s w hs
theorem e75 : (75 : Int) = ((75 : UInt8).toNat : Int) := rfl
theorem e76 : (76 : Int) = ((76 : UInt8).toNat : Int) := rfl
end Go.Proofs.YtagkdodjffhlmaaGreat.Long

namespace Go.Proofs.YtagkdodjffhlmaaGreat.Long
open Go.RowKit Go.Proofs.YtagkdodjffhlmaaGreat.Str Go.Proofs.YtagkdodjffhlmaaGreat.Base Go.Proofs.YtagkdodjffhlmaaGreat.Node Go.Proofs.YtagkdodjffhlmaaGreat.Head

theorem needL_is (n : Nd) : needL n = decide ((100 : Int) < (n.link.length : Int)) := by unfold needL; rw [Bool.eq_iff_iff]; simp only [decide_eq_true_eq]; omega

end Go.Proofs.YtagkdodjffhlmaaGreat.Long

namespace Go.Proofs.YtagkdodjffhlmaaGreat.Long
open Go.RowKit Go.Proofs.YtagkdodjffhlmaaGreat.Str Go.Proofs.YtagkdodjffhlmaaGreat.Base Go.Proofs.YtagkdodjffhlmaaGreat.Node Go.Proofs.YtagkdodjffhlmaaGreat.Head

/-- The cells of texts that are to stand ahead. -/
abbrev Ent := UInt8 × L
def ecells (es : List Ent) : List Value := es.flatMap fun e => [.int .u8 (e.1.toNat : Int), .string ⟨e.2.toArray⟩]
theorem ecells_length (es : List Ent) : (ecells es).length = es.length * 2 := by
  induction es with
  | nil => rfl
  | cons e es ih => simp [ecells] at ih ⊢; omega
theorem ecells_append (a b : List Ent) : ecells (a ++ b) = ecells a ++ ecells b := by simp [ecells]
theorem ecells_at {es : List Ent} {j : Nat} {e : Ent} (h : es[j]? = some e) : (ecells es)[j * 2]? = some (.int .u8 (e.1.toNat : Int)) ∧ (ecells es)[j * 2 + 1]? = some (.string ⟨e.2.toArray⟩) := by
  induction es generalizing j with
  | nil => simp at h
  | cons x es ih =>
    cases j with
    | zero =>
      simp only [List.getElem?_cons_zero, Option.some.injEq] at h
      subst h
      simp [ecells]
    | succ j =>
      simp only [List.getElem?_cons_succ] at h
      have := ih h
      rw [show (j + 1) * 2 = j * 2 + 1 + 1 by omega]
      simpa [ecells] using this
/-- The slice v is a row of such texts. -/
def EntR (w : World) (v : Value) (es : List Ent) : Prop :=
  ∃ A cap, v = .slice A es.length cap ∧ es.length ≤ cap ∧ ∀ (j : Nat) (e : Ent), es[j]? = some e → ∃ g, A = some ⟨g, 0, none⟩ ∧ g < w.heap.size ∧ w.cell? ⟨g, j * 2, none⟩ = some (.int .u8 (e.1.toNat : Int)) ∧ w.cell? ⟨g, j * 2 + 1, none⟩ = some (.string ⟨e.2.toArray⟩)
theorem EntR.keep {w w' : World} {v : Value} {es : List Ent} (h : EntR w v es) (hs : Stp w w') : EntR w' v es := by
  obtain ⟨A, cap, h1, h2, h3⟩ := h
  refine ⟨A, cap, h1, h2, fun j e hj => ?_⟩
  obtain ⟨g, e1, e2, e3, e4⟩ := h3 j e hj
  exact ⟨g, e1, Nat.lt_of_lt_of_le e2 hs.size, (hs.cell (p := ⟨g, j * 2, none⟩) e2).trans e3, (hs.cell (p := ⟨g, j * 2 + 1, none⟩) e2).trans e4⟩
theorem EntR.of {w : World} {lo : Nat} {e : TypeId} {v : Value} {es : List Ent} (h : w.ownsRow lo e 2 v es.length (ecells es)) : EntR w v es := by
  obtain ⟨hl, ⟨rfl, hn⟩ | ⟨g, cap, cur, rfl, hb, hg, hn, hc, hs, ht⟩⟩ := h
  · refine ⟨none, 0, by rw [hn], by omega, fun j e hj => ?_⟩
    have := (List.getElem?_eq_some_iff.1 hj).1
    omega
  · refine ⟨_, cap, rfl, hn, fun j e hj => ⟨g, rfl, lt_of_block hg, ?_, ?_⟩⟩
    · have := (ecells_at hj).1
      rw [← ht, List.getElem?_take] at this
      split at this
      · rw [cell_of_row w g _ cur _ _ hg]; simpa using this
      · cases this
    · have := (ecells_at hj).2
      rw [← ht, List.getElem?_take] at this
      split at this
      · rw [cell_of_row w g _ cur _ _ hg]; simpa using this
      · cases this
/-- All their blocks. -/
def blocksV (es : List Ent) : List L := es.flatMap fun e => putLs e.1 e.2
theorem blocks_step {es : List Ent} {k : Nat} {e : Ent} (h : es[k]? = some e) : blocksV (es.take (k + 1)) = blocksV (es.take k) ++ putLs e.1 e.2 := by
  rw [List.take_add_one, h]
  simp [blocksV]
theorem blocks_le (es : List Ent) : (blocksV es).length ≤ 2 * es.length := by
  induction es with
  | nil => simp [blocksV]
  | cons e es ih =>
    have := putLs_length e.1 e.2
    simp only [blocksV, List.flatMap_cons, List.length_append, List.length_cons] at ih ⊢
    split at this <;> omega

def adds (b : Bool) (k : UInt8) (s : L) : List Ent := if b = true then [(k, s)] else []
theorem blocks_ahead (n : Nd) : blocksV (([] ++ adds (needL n) 75 n.link) ++ adds (needN n) 76 n.path) = aheadV n := by
  unfold blocksV aheadV adds
  cases needL n <;> cases needN n <;> simp
theorem adds_small {a b : Bool} {s t : L} (hs : s.length ≤ 900000) (ht : t.length ≤ 900000) : ∀ e ∈ ([] ++ adds a 75 s) ++ adds b 76 t, e.2.length ≤ 900000 := by
  intro e he
  unfold adds at he
  rw [List.nil_append, List.mem_append] at he
  rcases he with he | he
  · split at he
    · simp only [List.mem_singleton] at he; subst he; exact hs
    · simp at he
  · split at he
    · simp only [List.mem_singleton] at he; subst he; exact ht
    · simp at he
theorem own_none (w : World) (lo : Nat) (e : TypeId) : w.ownsRow lo e 2 (.slice none 0 0) ([] : List Ent).length (ecells []) := World.ownsRow_nil _ _ _ _
theorem adds_length (b : Bool) (k : UInt8) (s : L) : (adds b k s).length ≤ 1 := by unfold adds; split <;> simp

end Go.Proofs.YtagkdodjffhlmaaGreat.Long

namespace Go.Proofs.YtagkdodjffhlmaaGreat.Long
open Go.RowKit Go.Proofs.YtagkdodjffhlmaaGreat.Str Go.Proofs.YtagkdodjffhlmaaGreat.Base Go.Proofs.YtagkdodjffhlmaaGreat.Node Go.Proofs.YtagkdodjffhlmaaGreat.Head

/-- k bytes, the first i of them c, the others 0. -/
def some_ (c : UInt8) (k i : Nat) : L := List.replicate i c ++ List.replicate (k - i) 0
theorem some_length {c : UInt8} {k i : Nat} (h : i ≤ k) : (some_ c k i).length = k := by simp [some_]; omega
theorem some_set {c : UInt8} {k i : Nat} (h : i < k) : (some_ c k i).set i c = some_ c k (i + 1) := by
  obtain ⟨j, hj⟩ : ∃ j, k - i = j + 1 := ⟨k - i - 1, by omega⟩
  rw [some_, some_, hj, List.replicate_succ, List.set_append_right _ _ (by simp), List.length_replicate, Nat.sub_self, List.set_cons_zero, List.replicate_succ', show k - (i + 1) = j by omega]
  simp
/-- The chapter's example. -/
def exT : L := List.replicate 120 97
def exN : Nd := { zeroN with path := exT }
theorem ex_facts : needN exN = true ∧ needL exN = false ∧ (aheadV exN).length = 2 ∧ (nameV exN).length = 100 ∧ preV exN = [] ∧ linkV exN = [] ∧ putOkL 76 exT = true ∧ (putLs 76 exT).length = 2 ∧ textL [97] = true ∧ textL [] = false := by decide +kernel
theorem ex_small : SmallN exN := by constructor <;> decide
end Go.Proofs.YtagkdodjffhlmaaGreat.Long

