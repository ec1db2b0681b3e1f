/-
  Contracts of package long: no statement is proved here.
  Contracts of package long: what a node needs, its header's names: no statement is proved here.
  Contracts of package long: what stands ahead: no statement is proved here.
  Contracts of what the laws of package long share: a text, few bytes, the chapter's example: no statement is proved here.
-/
import Derived.Test.YtllnnlmhbmladaaGreatDoorEntryM
import Derived.Test.YtllnnlmhbmladaaGreatDoorLongTx
import Derived.Test.YtllnnlmhbmladaaGreatDoorBase
import Derived.Test.YtllnnlmhbmladaaGreatDoorHeadMay
import Derived.Test.YtllnnlmhbmladaaGreatDoorHeadHlp
import Derived.Test.YtllnnlmhbmladaaGreatDoorBlockK
import Derived.Test.YtllnnlmhbmladaaGreatDoorPathK
import Derived.Deep.RegionHeld3
import Derived.Deep.QuietTactic
import Derived.BigQuiet
import Derived.Laws.AppendOwn
namespace Go.Proofs.YtllnnlmhbmladaaGreatDoor.Long
open Go.RowKit Go.Proofs.YtllnnlmhbmladaaGreatDoor.Str Go.Proofs.YtllnnlmhbmladaaGreatDoor.Base Go.Proofs.YtllnnlmhbmladaaGreatDoor.Node Go.Proofs.YtllnnlmhbmladaaGreatDoor.Head

theorem put_v (h : Hd) (v : Value) (e : v = hv h) (hs : SmallH h) (w : World) :
    Calls Tryz.prog 57 #[v] w fun e w' => ∃ A cap, e = .returned (.tuple #[.slice A (putB h).length cap, .bool (mayH h)]) ∧ RdA w' A cap (bs (putB h)) ∧ Stp w w' := by
  subst e
  exact put_s h hs w
theorem cut_v (s : L) (v : ByteArray) (e : v = ⟨s.toArray⟩) (ls : List L) (h : BlockM.cutV s = ls) (n : Nat) (hn : ls.length = n) (w : World) (hs : s.length ≤ 1000000) :
    Calls Tryz.prog 40 #[.string v] w fun e w' => ∃ A cap, e = .returned (.slice A n cap) ∧ RdL w' A cap ls ∧ Stp w w' := by
  subst e h hn
  exact Block.cut_s s w hs

theorem ok_of {k : UInt8} {s : L} {t : Bool} (ht : textL s = t) (h : (!t) = false) (hk : (k.toNat : Int) = 75 ∨ (k.toNat : Int) = 76) : putOkL k s = true := by
  rw [putOkL_iff, ht]
  refine ⟨hk.imp (fun e => UInt8.toNat_inj.1 ?_) (fun e => UInt8.toNat_inj.1 ?_), by simpa using h⟩
  · show k.toNat = 75
    omega
  · show k.toNat = 76
    omega
theorem no_of {k : UInt8} {s : L} {t : Bool} (ht : textL s = t) (h : (!t) = true) : putOkL k s = false := by
  rw [Bool.eq_false_iff]
  intro q
  have := (putOkL_iff.1 q).2
  rw [ht] at this
  simp [this] at h
theorem no_of2 {k : UInt8} {s : L} (h1 : ¬ (k.toNat : Int) = 75) (h2 : ¬ (k.toNat : Int) = 76) : putOkL k s = false := by
  rw [Bool.eq_false_iff]
  intro q
  rcases (putOkL_iff.1 q).1 with rfl | rfl
  · exact h1 rfl
  · exact h2 rfl
theorem llH_v (k : UInt8) (s : L) (kk : Int) (hk : kk = (k.toNat : Int)) : Value.agg #[.string { data := #[46, 47, 46, 47, 64, 76, 111, 110, 103, 76, 105, 110, 107] }, .string { data := #[] }, .string { data := #[] }, .int .i64 0, .int .i64 0, .int .i64 0, .int .i64 ((s.length : Int) + 1), .int .i64 0, .int .u8 kk, .int .i64 0, .int .i64 0] = hv (llH k s) := by subst hk; rfl
theorem slices_info : (Tryz.prog.info? 46).map (fun i => (i.zero, i.size, i.bytes)) = some (some (.slice none 0 0), 1, 24) := by kernel_rfl

set_option maxRecDepth 100000 in
set_option maxHeartbeats 2000000 in
theorem lput_s (k : UInt8) (s : L) (w : World) (hs : s.length ≤ 900000) :
    Calls Tryz.prog 107 #[.int .u8 (k.toNat : Int), .string ⟨s.toArray⟩] w fun e w' => ∃ A cap, e = .returned (.tuple #[.slice A (putLs k s).length cap, .bool (putOkL k s)]) ∧ RdL w' A cap (putLs k s) ∧ Stp w w' := by
  have h0 := Stp.refl w
  obtain ⟨t, ht⟩ : ∃ t, textL s = t := ⟨_, rfl⟩
  have Ht := Lib.hid ht
  clear ht
  have Hsz := Lib.hid hs
  have hadd := add_ll s [0] (by simp; omega)
  go_enter Tryz.func107, Tryz.ntmps107
  go_wp2_with (first
    | (go_at_call 76; refine (text_s s _).mono ?_; rintro e w1 ⟨rfl, hs1⟩; have H1 := Lib.hid (Stp.trans h0 hs1); clear hs1; rw [Ht.out])
    | (go_at_call 57; go_loud (have Hok := Lib.hid (ok_of (k := k) Ht.out ‹(!t) = false› (by omega)); (with_reducible refine (put_v (llH k s) _ (llH_v k s _ (by omega)) (llH_small (by have := Hsz.out; omega)) _).mono ?_); rintro e w2 ⟨A2, c2, rfl, hr, hs2⟩; rw [putB_yes (llH_may Hok.out)] at hr; rw [putB_yes (llH_may Hok.out), blk_length (llH_may Hok.out) (llH_small (by have := Hsz.out; omega))]; rw [llH_may Hok.out]; have Hr := Lib.hid hr; have H2 := Lib.hid (Stp.trans H1.out hs2); clear hr hs2))
    | (go_at_call 40; go_loud ((with_reducible refine (cut_v (s ++ [0]) _ rfl [BlockM.blk (s ++ [0])] (cut_long (putOkL_iff.1 Hok.out).2) 1 rfl _ (by have := Hsz.out; simp; omega)).mono ?_); rintro e w3 ⟨A3, c3, rfl, hr3, hs3⟩; have Hr3 := Lib.hid hr3; have HR := Lib.hid ((Rows.one (e := 46) Hr.out (blk_length (llH_may Hok.out) (llH_small (by have := Hsz.out; omega)))).keep hs3); have H3 := Lib.hid (Stp.trans (Stp.alloc H2.out (.cells #[.slice A2 512 c2] 46)) hs3); have h23 := H2.out.size; have h32 := hs3.size; rw [World.size_alloc] at h32; clear hr3 hs3))
    | (at_builtin; go_loud (refine wpList_append_rows (P := Tryz.prog) rfl (.tmp 33) (.tmp 35) 36 rfl 46 Tryz.underlying36 slices_info _ rfl HR.out rfl Hr3.out rfl (by simp) (by omega) ?_; intro v' w4 hR4 hg4; have H4 := Lib.hid (HR.out.stp H3.out h23 hg4); obtain ⟨A4, c4, rfl, hL4⟩ := hR4.rdL; have HL4 := Lib.hid hL4; clear hR4 hg4 hL4)))
  all_goals go_ret2
  · rw [putLs_no (no_of Ht.out ‹(!t) = true›), no_of Ht.out ‹(!t) = true›]
    exact ⟨none, 0, rfl, RdL.nil _, H1.out⟩
  · rw [putLs_yes Hok.out, Hok.out]
    exact ⟨A4, c4, rfl, HL4.out, H4.out⟩
  · rw [putLs_no (no_of Ht.out ‹(!t) = true›), no_of Ht.out ‹(!t) = true›]
    exact ⟨none, 0, rfl, RdL.nil _, H1.out⟩
  · rw [putLs_yes Hok.out, Hok.out]
    exact ⟨A4, c4, rfl, HL4.out, H4.out⟩
  · have hno := no_of2 (k := k) (s := s) (by assumption) (by assumption)
    rw [putLs_no hno, hno]
    exact ⟨none, 0, rfl, RdL.nil _, h0⟩
theorem lput_v (k : UInt8) (kk : Int) (hk : kk = (k.toNat : Int)) (s : L) (w : World) (hs : s.length ≤ 900000) :
    Calls Tryz.prog 107 #[.int .u8 kk, .string ⟨s.toArray⟩] w fun e w' => ∃ A cap, e = .returned (.tuple #[.slice A (putLs k s).length cap, .bool (putOkL k s)]) ∧ RdL w' A cap (putLs k s) ∧ Stp w w' := by
  subst hk
  exact lput_s k s w hs
theorem e75 : (75 : Int) = ((75 : UInt8).toNat : Int) := rfl
theorem e76 : (76 : Int) = ((76 : UInt8).toNat : Int) := rfl
end Go.Proofs.YtllnnlmhbmladaaGreatDoor.Long

namespace Go.Proofs.YtllnnlmhbmladaaGreatDoor.Long
open Go.RowKit Go.Proofs.YtllnnlmhbmladaaGreatDoor.Str Go.Proofs.YtllnnlmhbmladaaGreatDoor.Base Go.Proofs.YtllnnlmhbmladaaGreatDoor.Node Go.Proofs.YtllnnlmhbmladaaGreatDoor.Head

theorem needL_is (n : Nd) : needL n = decide ((100 : Int) < (n.link.length : Int)) := by unfold needL; rw [Bool.eq_iff_iff]; simp only [decide_eq_true_eq]; omega

set_option maxRecDepth 100000 in
set_option maxHeartbeats 2000000 in
theorem needs_s (n : Nd) (hn : SmallN n) (w : World) :
    Calls Tryz.prog 127 #[nv n] w fun e w' => e = .returned (.tuple #[.bool (needN n), .bool (needL n)]) ∧ Stp w w' := by
  have h0 := Stp.refl w
  have Hp := Lib.hid hn.path
  have hl := hn.link
  have Hb0 := Lib.hid (Blk.new w 23 (ncells n))
  have H0 := Lib.hid (Stp.alloc h0 (.cells (ncells n) 23))
  obtain ⟨m, hm⟩ : ∃ m, PathM.mayB n.path = m := ⟨_, rfl⟩
  rw [needL_is]
  cases hsb : PathM.splB n.path
  · have hN : needN n = m := by unfold needN; rw [hsb, hm]; simp
    rw [hN]
    have Hsb := Lib.hid hsb
    have Hm := Lib.hid hm
    clear hsb hN hm hn
    go_enter Tryz.func127, Tryz.ntmps127
    go_wp2_with (go_at_call 151; refine (Path.split_s n.path _ Hp.out).mono ?_; rintro e w1 ⟨rfl, hs⟩; rw [Hsb.out]; have Hb1 := Lib.hid (Hb0.out.keep hs Hb0.out.lt); have H1 := Lib.hid (Stp.trans H0.out hs); clear hs)
    have key : ∀ W, Stp w1 W → W.cell? ⟨w.heap.size, 0, none⟩ = some (.string ⟨n.path.toArray⟩) ∧ W.cell? ⟨w.heap.size, 1, none⟩ = some (.string ⟨n.link.toArray⟩) := fun W hW => by
      obtain ⟨q0, q1, _⟩ := nd_cells (Hb1.out.keep hW Hb1.out.lt)
      exact ⟨q0, q1⟩
    have Key := Lib.hid key
    clear key
    go_region_held3 (fun W => W.cell? ⟨w.heap.size, 0, none⟩ = some (.string ⟨n.path.toArray⟩) ∧ W.cell? ⟨w.heap.size, 1, none⟩ = some (.string ⟨n.link.toArray⟩))
      (first | exact Key.out _ (stp_drew (Stp.refl _)) | exact Key.out _ H2.out)
      (first | (go_at_call 109; refine (Path.may_s n.path w1.drew Hp.out).mono ?_; rintro e w2 ⟨rfl, hs⟩; rw [Hm.out]; have H2 := Lib.hid (Stp.trans (stp_drew (Stp.refl w1)) hs); clear hs))
    go_wp2_with fail
    go_ret2
    exact ⟨rfl, Stp.trans H1.out H2.out⟩
  · have hN : needN n = false := by unfold needN; rw [hsb]; simp
    rw [hN]
    have Hsb := Lib.hid hsb
    clear hsb hN hm hn
    go_enter Tryz.func127, Tryz.ntmps127
    go_wp2_with (go_at_call 151; refine (Path.split_s n.path _ Hp.out).mono ?_; rintro e w1 ⟨rfl, hs⟩; rw [Hsb.out]; have Hb1 := Lib.hid (Hb0.out.keep hs Hb0.out.lt); have H1 := Lib.hid (Stp.trans H0.out hs); clear hs)
    obtain ⟨q0, q1, -⟩ := nd_cells Hb1.out
    go_quiet (fail)
    go_wp2_with fail
    go_ret2
    exact ⟨rfl, H1.out.drewN _⟩

set_option maxRecDepth 100000 in
theorem field_s (s : L) (w : World) (hs : s.length ≤ 9223372036854775807) :
    Calls Tryz.prog 152 #[.string ⟨s.toArray⟩] w fun e w' => e = .returned (.string ⟨(s.take 100).toArray⟩) ∧ Stp w w' := by
  have h0 := Stp.refl w
  by_cases h : s.length ≤ 100
  · have hm : min ((s.length : Int)) 100 = ((s.length : Nat) : Int) := by omega
    have hc := cut_h s s.length (Nat.le_refl _)
    rw [List.take_of_length_le (Nat.le_refl _)] at hc
    rw [List.take_of_length_le h]
    go_enter Tryz.func152, Tryz.ntmps152
    go_wp2_with fail
    go_ret
    exact ⟨rfl, h0⟩
  · have hm : min ((s.length : Int)) 100 = 100 := by omega
    have hc : ∀ w, (Instr.slice 9 (.string ⟨s.toArray⟩) none (some (.int .i64 100)) none).run Tryz.prog w = .ok (.string ⟨(s.take 100).toArray⟩) w := cut_h s 100 (by omega)
    go_enter Tryz.func152, Tryz.ntmps152
    go_wp2_with fail
    go_ret
    exact ⟨rfl, h0⟩

set_option maxRecDepth 100000 in
set_option maxHeartbeats 2000000 in
theorem names_s (n : Nd) (hn : SmallN n) (w : World) :
    Calls Tryz.prog 126 #[nv n] w fun e w' => e = .returned (.tuple #[.string ⟨(nameV n).toArray⟩, .string ⟨(preV n).toArray⟩, .string ⟨(linkV n).toArray⟩]) ∧ Stp w w' := by
  have h0 := Stp.refl w
  have Hn := Lib.hid hn
  have Hb0 := Lib.hid (Blk.new w 23 (ncells n))
  have H0 := Lib.hid (Stp.alloc h0 (.cells (ncells n) 23))
  obtain ⟨q0, q1, q2, q3, q4, q5, q6, q7⟩ := nd_cells Hb0.out
  obtain ⟨nn, hnn⟩ : ∃ b, needN n = b := ⟨_, rfl⟩
  have hname : nameV n = if nn = true then n.path.take 100 else (PathM.splV n.path).2 := by rw [← hnn]; rfl
  rw [hname]
  have Hnn := Lib.hid hnn
  clear hnn hname hn
  go_enter Tryz.func126, Tryz.ntmps126
  go_wp2_with (first
    | (go_at_call 151; refine (Path.split_s n.path _ Hn.out.path).mono ?_; rintro e w1 ⟨rfl, hs⟩; have Hb1 := Lib.hid (Hb0.out.keep hs Hb0.out.lt); have H1 := Lib.hid (Stp.trans H0.out hs); clear hs q0 q1 q2 q3 q4 q5 q6 q7; obtain ⟨q0, q1, q2, q3, q4, q5, q6, q7⟩ := nd_cells Hb1.out)
    | (go_at_call 127; refine (needs_s n Hn.out _).mono ?_; rintro e w2 ⟨rfl, hs⟩; rw [Hnn.out]; have Hb2 := Lib.hid (Hb1.out.keep hs Hb1.out.lt); have H2 := Lib.hid (Stp.trans H1.out hs); clear hs q0 q1 q2 q3 q4 q5 q6 q7; obtain ⟨q0, q1, -⟩ := nd_cells Hb2.out; cases nn)
    | (go_at_call 152; (with_reducible refine (field_s n.path _ Hn.out.path).mono ?_); rintro e w3 ⟨rfl, hs⟩; have Hb3 := Lib.hid (Hb2.out.keep hs Hb2.out.lt); have H3 := Lib.hid (Stp.trans H2.out hs); clear hs q0 q1; obtain ⟨q0, q1, -⟩ := nd_cells Hb3.out)
    | (go_at_call 152; (with_reducible refine (field_s n.link _ Hn.out.link).mono ?_); rintro e w4 ⟨rfl, hs⟩; first | (have H4 := Lib.hid (Stp.trans H3.out hs)) | (have H4 := Lib.hid (Stp.trans H2.out hs))))
  · go_ret3
    exact ⟨rfl, H4.out⟩
  · go_ret3
    exact ⟨rfl, H4.out⟩
end Go.Proofs.YtllnnlmhbmladaaGreatDoor.Long

namespace Go.Proofs.YtllnnlmhbmladaaGreatDoor.Long
open Go.RowKit Go.Proofs.YtllnnlmhbmladaaGreatDoor.Str Go.Proofs.YtllnnlmhbmladaaGreatDoor.Base Go.Proofs.YtllnnlmhbmladaaGreatDoor.Node Go.Proofs.YtllnnlmhbmladaaGreatDoor.Head

/-- The cells of texts that are to stand ahead. -/
abbrev Ent := UInt8 × L
def ecells (es : List Ent) : List Value := es.flatMap fun e => [.int .u8 (e.1.toNat : Int), .string ⟨e.2.toArray⟩]
theorem ecells_append (a b : List Ent) : ecells (a ++ b) = ecells a ++ ecells b := by simp [ecells]
theorem ecells_at {es : List Ent} {j : Nat} {e : Ent} (h : es[j]? = some e) : (ecells es)[j * 2]? = some (.int .u8 (e.1.toNat : Int)) ∧ (ecells es)[j * 2 + 1]? = some (.string ⟨e.2.toArray⟩) := by
  induction es generalizing j with
  | nil => simp at h
  | cons x es ih =>
    cases j with
    | zero =>
      simp only [List.getElem?_cons_zero, Option.some.injEq] at h
      subst h
      simp [ecells]
    | succ j =>
      simp only [List.getElem?_cons_succ] at h
      have := ih h
      rw [show (j + 1) * 2 = j * 2 + 1 + 1 by omega]
      simpa [ecells] using this
/-- The slice v is a row of such texts. -/
def EntR (w : World) (v : Value) (es : List Ent) : Prop :=
  ∃ A cap, v = .slice A es.length cap ∧ es.length ≤ cap ∧ ∀ (j : Nat) (e : Ent), es[j]? = some e → ∃ g, A = some ⟨g, 0, none⟩ ∧ g < w.heap.size ∧ w.cell? ⟨g, j * 2, none⟩ = some (.int .u8 (e.1.toNat : Int)) ∧ w.cell? ⟨g, j * 2 + 1, none⟩ = some (.string ⟨e.2.toArray⟩)
theorem EntR.keep {w w' : World} {v : Value} {es : List Ent} (h : EntR w v es) (hs : Stp w w') : EntR w' v es := by
  obtain ⟨A, cap, h1, h2, h3⟩ := h
  refine ⟨A, cap, h1, h2, fun j e hj => ?_⟩
  obtain ⟨g, e1, e2, e3, e4⟩ := h3 j e hj
  exact ⟨g, e1, Nat.lt_of_lt_of_le e2 hs.size, (hs.cell (p := ⟨g, j * 2, none⟩) e2).trans e3, (hs.cell (p := ⟨g, j * 2 + 1, none⟩) e2).trans e4⟩
theorem EntR.of {w : World} {lo : Nat} {e : TypeId} {v : Value} {es : List Ent} (h : w.ownsRow lo e 2 v es.length (ecells es)) : EntR w v es := by
  obtain ⟨hl, ⟨rfl, hn⟩ | ⟨g, cap, cur, rfl, hb, hg, hn, hc, hs, ht⟩⟩ := h
  · refine ⟨none, 0, by rw [hn], by omega, fun j e hj => ?_⟩
    have := (List.getElem?_eq_some_iff.1 hj).1
    omega
  · refine ⟨_, cap, rfl, hn, fun j e hj => ⟨g, rfl, lt_of_block hg, ?_, ?_⟩⟩
    · have := (ecells_at hj).1
      rw [← ht, List.getElem?_take] at this
      split at this
      · rw [cell_of_row w g _ cur _ _ hg]; simpa using this
      · cases this
    · have := (ecells_at hj).2
      rw [← ht, List.getElem?_take] at this
      split at this
      · rw [cell_of_row w g _ cur _ _ hg]; simpa using this
      · cases this
/-- All their blocks. -/
def blocksV (es : List Ent) : List L := es.flatMap fun e => putLs e.1 e.2
theorem blocks_step {es : List Ent} {k : Nat} {e : Ent} (h : es[k]? = some e) : blocksV (es.take (k + 1)) = blocksV (es.take k) ++ putLs e.1 e.2 := by
  rw [List.take_add_one, h]
  simp [blocksV]
theorem blocks_le (es : List Ent) : (blocksV es).length ≤ 2 * es.length := by
  induction es with
  | nil => simp [blocksV]
  | cons e es ih =>
    have := putLs_length e.1 e.2
    simp only [blocksV, List.flatMap_cons, List.length_append, List.length_cons] at ih ⊢
    split at this <;> omega

set_option maxRecDepth 100000 in
set_option maxHeartbeats 2000000 in
theorem blocks_s (es : List Ent) (v : Value) (w : World) (hv : EntR w v es) (hl : es.length ≤ 1000) (hs : ∀ e ∈ es, e.2.length ≤ 900000) :
    Calls Tryz.prog 129 #[v] w fun e w' => ∃ A cap, e = .returned (.slice A (blocksV es).length cap) ∧ RdL w' A cap (blocksV es) ∧ Stp w w' := by
  obtain ⟨A, cap, rfl, hcap, hat⟩ := id hv
  obtain ⟨r, hr⟩ : ∃ r, blocksV es = r := ⟨_, rfl⟩
  have Hr := Lib.hid hr
  have Hv := Lib.hid hv
  have Hs := Lib.hid hs
  rw [hr]
  clear hr hat hv hs
  go_enter Tryz.func129, Tryz.ntmps129
  go_wp2_with fail
  go_loopw [3, 10] (fun v i wr => ∃ k : Nat, k ≤ es.length ∧ i = .int .i64 (k : Int) ∧ Hid (Base.Rows wr w.heap.size 46 v (blocksV (es.take k))) ∧ Hid (Stp w wr)) (fun _ i _ => es.length - (intOf i).toNat)
  case atStart => exact ⟨0, by omega, rfl, Lib.hid (Base.Rows.nil _ _ _), Lib.hid (Stp.refl w)⟩
  case round =>
    obtain ⟨k, hk, rfl, HR, H1⟩ := hrel
    by_cases hlt : k < es.length
    · obtain ⟨x, hx⟩ : ∃ x, es[k]? = some x := ⟨_, List.getElem?_eq_getElem hlt⟩
      obtain ⟨A', cap', e1, -, hat⟩ := Hv.out.keep H1.out
      simp only [Value.slice.injEq, true_and] at e1
      obtain ⟨rfl, rfl⟩ := e1
      obtain ⟨g, rfl, hg, c0, c1⟩ := hat k x hx
      have Hx := Lib.hid hx
      have Hxs := Lib.hid (Hs.out x (List.mem_of_getElem? hx))
      clear hat hx
      go_wp2_with fail
      generalize hwq : wr.alloc _ = wq
      have Hq := Lib.hid (show Stp wr wq by rw [← hwq]; exact Stp.alloc (Stp.refl wr) _)
      have d0 : wq.cell? ⟨wr.heap.size, 0, none⟩ = some (.int .u8 (x.1.toNat : Int)) := by rw [← hwq, World.cell?_alloc_new]; rfl
      have d1 : wq.cell? ⟨wr.heap.size, 1, none⟩ = some (.string ⟨x.2.toArray⟩) := by rw [← hwq, World.cell?_alloc_new]; rfl
      clear hwq
      go_wp2_with (first
        | (go_at_call 107; refine (lput_s x.1 x.2 _ Hxs.out).mono ?_; rintro e w2 ⟨A2, c2, rfl, hr2, hs2⟩; have H2 := Lib.hid (Stp.trans Hq.out hs2); have HR2 := Lib.hid (HR.out.keep H2.out); have Hr2 := Lib.hid hr2; clear hs2 hr2)
        | (at_builtin; refine Base.wpList_append_rows (P := Tryz.prog) rfl (.tmp 22) (.tmp 23) 36 rfl 46 Tryz.underlying36 slices_info _ rfl HR2.out rfl Hr2.out rfl (by have h1 := blocks_le (es.take k); have h2 := putLs_length x.1 x.2; rw [List.length_take] at h1; split at h2 <;> omega) (Nat.le_trans H1.out.size H2.out.size) ?_; intro v' w4 hR4 hg4; have H4 := Lib.hid (HR2.out.stp (Stp.trans H1.out H2.out) (Nat.le_refl _) hg4); rw [← blocks_step Hx.out] at hR4; have HR4 := Lib.hid hR4; clear hR4 hg4))
      go_roundw
      case rel => exact ⟨k + 1, by omega, by go_num, HR4, H4⟩
      case measure => simp [intOf]; omega
    · obtain rfl : k = es.length := by omega
      obtain ⟨A3, c3, rfl, hL⟩ := HR.out.rdL
      rw [List.take_length, Hr.out] at hL ⊢
      go_wp2_with fail
      go_ret
      exact ⟨A3, c3, rfl, hL, H1.out⟩

theorem ext_info : (Tryz.prog.info? 185).map (fun i => (i.zero, i.size, i.bytes)) = some (some (.agg #[.int .u8 0, .string ⟨#[]⟩]), 2, 24) := by kernel_rfl
def adds (b : Bool) (k : UInt8) (s : L) : List Ent := if b = true then [(k, s)] else []
set_option maxRecDepth 100000 in
set_option maxHeartbeats 2000000 in
theorem gather_s (gl lo B : Nat) (b : Bool) (k : UInt8) (kk : Int) (hkk : kk = (k.toNat : Int)) (s : L) (v : Value) (es : List Ent) (w : World) (hb : Blk w gl 183 #[v]) (hv : w.ownsRow lo 185 2 v es.length (ecells es)) (hes : es.length ≤ 1000) (hB : B ≤ gl) (hlo : B ≤ lo) (hlw : lo ≤ w.heap.size) :
    Calls Tryz.prog 128 #[.bool b, .int .u8 kk, .string ⟨s.toArray⟩, .pointer (some ⟨gl, 0, none⟩)] w fun e w' => e = .returned (.tuple #[]) ∧
      (∃ v', Blk w' gl 183 #[v'] ∧ w'.ownsRow lo 185 2 v' (es ++ adds b k s).length (ecells (es ++ adds b k s))) ∧ Below B w w' := by
  subst hkk
  cases b
  · have Hb := Lib.hid hb
    have Hv := Lib.hid hv
    clear hb hv
    go_enter Tryz.func128, Tryz.ntmps128
    go_wp2_with fail
    go_end0
    refine ⟨rfl, ⟨v, Hb.out, ?_⟩, Below.refl _ _⟩
    rw [show es ++ adds false k s = es by simp [adds]]
    exact Hv.out
  · obtain ⟨i, hi, hz, hsz, hby⟩ := info_parts ext_info
    have hl : ecells (es ++ adds true k s) = ecells es ++ [.int .u8 (k.toNat : Int), .string ⟨s.toArray⟩] := by rw [ecells_append]; rfl
    have hn : (es ++ adds true k s).length = es.length + 1 := by simp [adds]
    rw [hl, hn]
    have Hb := Lib.hid hb
    have Hv := Lib.hid hv
    have c1 := cell_of_one hb
    have Hne := Lib.hid (Block.blk_not_row hb (by decide) hv)
    clear hl hn hb hv
    go_enter Tryz.func128, Tryz.ntmps128
    go_wp2_with (at_builtin; refine wpList_append_own (P := Tryz.prog) _ rfl (.tmp 8) (.tmp 12) 183 rfl lo 185 i _ 2 24 Tryz.underlying183 hi hz hsz hby rfl (by decide) v es.length _ rfl (Hv.out.alloc _) ⟨w.heap.size, 0, none⟩ 1 1 [.int .u8 (k.toNat : Int), .string ⟨s.toArray⟩] rfl rfl ?_ ?_ (by unfold maxLen; omega) (by omega) (by rw [World.size_alloc]; omega) ?_)
    · intro j u hj
      rw [Addr.add_lit, Nat.zero_add, World.cell?_alloc_new]
      simpa using hj
    · simp [Value.oneCell']
    · intro v' w4 hv' hg4 _
      obtain ⟨g', cap', rfl⟩ : ∃ g cap, v' = .slice (some ⟨g, 0, none⟩) (es.length + 1) cap := by
        obtain ⟨_, ⟨_, hz⟩ | ⟨g, cap, _, e, _⟩⟩ := hv'
        · omega
        · exact ⟨g, cap, e⟩
      have h4 : Below B w w4 := Below.grown (Below.alloc (Below.refl B w) (by omega) _) hg4 (by rw [World.size_alloc]; omega) (fun j hj => Nat.le_trans hlo (Hv.out.lt j hj).1)
      have hb4 := (Hb.out.alloc (.cells #[.int .u8 (k.toNat : Int), .string ⟨s.toArray⟩] 185)).grown hg4 Hne.out
      have Hne4 := Lib.hid (Block.blk_not_row hb4 (by decide) hv')
      have c4 := cell_of_one hb4
      have f4 := free_of_one hb4
      have Hb4 := Lib.hid hb4
      have Hv4 := Lib.hid hv'
      have H4 := Lib.hid h4
      clear hb4 hv' h4 hg4 c1
      go_wp2_with fail
      go_end0
      exact ⟨rfl, ⟨_, Hb4.out.put 0 _, Hv4.out.kept (row := some gl) ⟨rfl, rfl, rfl, (KeepsWalks.setCell w4 _ _).size, fun j _ hj => Below.heap_setCell _ _ _ j (fun e => hj (by rw [e]))⟩ (.inr (fun e => Hne4.out e.symm))⟩, Below.setCell H4.out (p := ⟨gl, 0, none⟩) hB _⟩

theorem blocks_ahead (n : Nd) : blocksV (([] ++ adds (needL n) 75 n.link) ++ adds (needN n) 76 n.path) = aheadV n := by
  unfold blocksV aheadV adds
  cases needL n <;> cases needN n <;> simp
theorem adds_small {a b : Bool} {s t : L} (hs : s.length ≤ 900000) (ht : t.length ≤ 900000) : ∀ e ∈ ([] ++ adds a 75 s) ++ adds b 76 t, e.2.length ≤ 900000 := by
  intro e he
  unfold adds at he
  rw [List.nil_append, List.mem_append] at he
  rcases he with he | he
  · split at he
    · simp only [List.mem_singleton] at he; subst he; exact hs
    · simp at he
  · split at he
    · simp only [List.mem_singleton] at he; subst he; exact ht
    · simp at he
theorem own_none (w : World) (lo : Nat) (e : TypeId) : w.ownsRow lo e 2 (.slice none 0 0) ([] : List Ent).length (ecells []) := World.ownsRow_nil _ _ _ _
theorem adds_length (b : Bool) (k : UInt8) (s : L) : (adds b k s).length ≤ 1 := by unfold adds; split <;> simp

set_option maxRecDepth 100000 in
set_option maxHeartbeats 2000000 in
theorem ahead_s (n : Nd) (hn : SmallN n) (hp : n.path.length ≤ 900000) (hk : n.link.length ≤ 900000) (w : World) :
    Calls Tryz.prog 104 #[nv n] w fun e w' => ∃ A cap, e = .returned (.slice A (aheadV n).length cap) ∧ RdL w' A cap (aheadV n) ∧ Stp w w' := by
  have h0 := Stp.refl w
  have Hn := Lib.hid hn
  have Hp := Lib.hid hp
  have Hk := Lib.hid hk
  have Hb0 := Lib.hid (Blk.new w 23 (ncells n))
  have H0 := Lib.hid (Stp.alloc h0 (.cells (ncells n) 23))
  obtain ⟨q0, q1, q2, q3, q4, q5, q6, q7⟩ := nd_cells Hb0.out
  have hba := blocks_ahead n
  obtain ⟨r, hr⟩ : ∃ r, aheadV n = r := ⟨_, rfl⟩
  rw [hr] at hba ⊢
  obtain ⟨bl, hbl⟩ : ∃ b, needL n = b := ⟨_, rfl⟩
  obtain ⟨bn, hbn⟩ : ∃ b, needN n = b := ⟨_, rfl⟩
  rw [hbl, hbn] at hba
  have Hba := Lib.hid hba
  have Hbl := Lib.hid hbl
  have Hbn := Lib.hid hbn
  clear hba hbl hbn hr hn hp hk
  go_enter Tryz.func104, Tryz.ntmps104
  go_wp2_with (first
    | (go_at_call 127; refine (needs_s n Hn.out _).mono ?_; rintro e w1 ⟨rfl, hs⟩; rw [Hbn.out, Hbl.out]; have Hb1 := Lib.hid (Hb0.out.keep hs Hb0.out.lt); have H1 := Lib.hid (Stp.trans H0.out hs); clear hs q0 q1 q2 q3 q4 q5 q6 q7; obtain ⟨q0, q1, -⟩ := nd_cells (Hb1.out.alloc (.cells #[.slice none 0 0] 183)); have hlt := Hb1.out.lt; have hgl := H1.out.size; have Hl1 := Lib.hid (Blk.new w1 183 #[.slice none 0 0]))
    | (go_at_call 128; (with_reducible refine (gather_s w1.heap.size w1.heap.size w1.heap.size bl 75 _ e75 n.link _ [] _ Hl1.out (own_none _ _ _) (by simp) (Nat.le_refl _) (Nat.le_refl _) (by rw [World.size_alloc]; omega)).mono ?_); rintro e w2 ⟨rfl, ⟨v2, hv2, ho2⟩, hs⟩; have Hb2 := Lib.hid ((Hb1.out.alloc _).keep hs hlt); have H2 := Lib.hid (show Stp w w2 from Below.trans (Stp.alloc H1.out _) (Below.mono hs hgl)); have Hl2 := Lib.hid hv2; have Ho2 := Lib.hid ho2; have hsz2 := hs.size; rw [World.size_alloc] at hsz2; clear hv2 ho2 hs q0 q1; obtain ⟨q0, q1, -⟩ := nd_cells Hb2.out)
    | (go_at_call 128; (with_reducible refine (gather_s w1.heap.size w1.heap.size w1.heap.size bn 76 _ e76 n.path _ _ _ Hl2.out Ho2.out (by have := adds_length bl 75 n.link; simp only [List.nil_append]; omega) (Nat.le_refl _) (Nat.le_refl _) (by omega)).mono ?_); rintro e w3 ⟨rfl, ⟨v3, hv3, ho3⟩, hs⟩; have H3 := Lib.hid (show Stp w w3 from Below.trans H2.out (Below.mono hs hgl)); have Ho3 := Lib.hid ho3; have l3 := cell_of_one hv3; clear hv3 ho3 hs q0 q1)
    | (go_at_call 129; refine (blocks_s _ v3 _ (EntR.of Ho3.out) (by have h1 := adds_length bl 75 n.link; have h2 := adds_length bn 76 n.path; simp only [List.nil_append, List.length_append]; omega) (adds_small Hk.out Hp.out)).mono ?_; rintro e w4 ⟨A4, c4, rfl, hr, hs⟩; rw [Hba.out] at hr ⊢; have Hr4 := Lib.hid hr; have H4 := Lib.hid (Stp.trans H3.out hs); clear hr hs))
  go_ret
  exact ⟨A4, c4, rfl, Hr4.out, H4.out⟩
theorem ahead_v (n : Nd) (v : Value) (e : v = nv n) (hn : SmallN n) (hp : n.path.length ≤ 900000) (hk : n.link.length ≤ 900000) (w : World) :
    Calls Tryz.prog 104 #[v] w fun e w' => ∃ A cap, e = .returned (.slice A (aheadV n).length cap) ∧ RdL w' A cap (aheadV n) ∧ Stp w w' := by
  subst e
  exact ahead_s n hn hp hk w
end Go.Proofs.YtllnnlmhbmladaaGreatDoor.Long

namespace Go.Proofs.YtllnnlmhbmladaaGreatDoor.Long
open Go.RowKit Go.Proofs.YtllnnlmhbmladaaGreatDoor.Str Go.Proofs.YtllnnlmhbmladaaGreatDoor.Base Go.Proofs.YtllnnlmhbmladaaGreatDoor.Node Go.Proofs.YtllnnlmhbmladaaGreatDoor.Head

/-- The chapter's example. -/
def exT : L := List.replicate 120 97
def exN : Nd := { zeroN with path := exT }
theorem ex_facts : needN exN = true ∧ needL exN = false ∧ (aheadV exN).length = 2 ∧ (nameV exN).length = 100 ∧ preV exN = [] ∧ linkV exN = [] ∧ putOkL 76 exT = true ∧ (putLs 76 exT).length = 2 ∧ textL [97] = true ∧ textL [] = false := by decide +kernel
end Go.Proofs.YtllnnlmhbmladaaGreatDoor.Long

