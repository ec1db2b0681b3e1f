/-
  What strings.Builder's methods return at this program's numbers (Write, String), at a builder that the call has laid itself: no statement is proved here.
-/
import Derived.Test.YtleoiejkipobbaaProg
import Derived.Test.YtleoiejkipobbaaLists
import Derived.WalkKit
import Derived.Lib.Builder
import Derived.Lib.UnsafeStr
import Derived.Laws.Externs
import Derived.Laws.Entries
import Derived.BigQuiet
import Derived.Deep.QuietTactic
namespace Go.Proofs.Ytleoiejkipobbaa.Builder
open Go.RowKit Go.Proofs.Ytleoiejkipobbaa.Base

theorem size_info : (Try.prog.info? 118).map (·.size) = some 2 := by kernel_rfl
theorem lies : liesAt Try.prog Try.prog.depth 118 (2 / Try.prog.cellsOf 118) 0 118 1 = true := by kernel_rfl
theorem byte_info : (Try.prog.info? 5).map (fun i => (i.zero, i.size, i.bytes)) = some (some (.int .u8 0), 1, 1) := by kernel_rfl
theorem byte_cells : Try.prog.cellsOf 5 = 1 := by kernel_rfl

/-- The builder in block b holds the bytes l; p is what its first field holds. -/
def At (w : World) (B b : Nat) (p : Value) (l : List UInt8) : Prop :=
  B ≤ b ∧ ∃ v, w.heap[b]? = some (.cells #[p, v] 118 (0, 0)) ∧ Own w B 5 v (bs l) ∧ v.ownBlock ≠ some b ∧ (l = [] → v = .slice none 0 0)
/-- .. fresh, or used. -/
def Is (w : World) (B b : Nat) (l : List UInt8) : Prop := At w B b (.pointer none) l ∨ At w B b (.pointer (some ⟨b, 0, none⟩)) l

theorem At.lt {w : World} {B b : Nat} {p : Value} {l : List UInt8} (h : At w B b p l) : b < w.heap.size := by
  obtain ⟨_, v, hb, _⟩ := h
  exact lt_of_block hb
theorem Is.fresh (w : World) {B : Nat} (hB : B ≤ w.heap.size) : Is (w.alloc (.cells #[.pointer none, .slice none 0 0] 118)) B w.heap.size [] :=
  .inl ⟨hB, _, heap_alloc_new w _, Own.nil _ _ _, by simp [Value.ownBlock], fun _ => rfl⟩

set_option maxRecDepth 100000 in
set_option maxHeartbeats 1000000 in
theorem check_s (B b : Nat) (l : List UInt8) (w : World) (h : Is w B b l) :
    Calls Try.prog 97 #[.pointer (some ⟨b, 0, none⟩)] w fun e w' => e = .returned (.tuple #[]) ∧ At w' B b (.pointer (some ⟨b, 0, none⟩)) l ∧ Below B w w' := by
  obtain ⟨j, hj, hjs⟩ := Option.map_eq_some_iff.1 size_info
  rcases h with h | h
  · obtain ⟨hB, v, hb, hown, hne, hnil⟩ := h
    have hlt := lt_of_block hb
    have h0 : w.cell? ⟨b, 0, none⟩ = some (.pointer none) := by simp [World.cell?, hb]
    have hfz : w.frozen? ⟨b, 0, none⟩ = false := by simp [World.frozen?, hb]
    have hsh : w.shape? b = some (118, 2) := by simp [World.shape?, hb]
    go_enter Try.func97, Try.ntmps97
    go_wp2
    rw [Lib.run_to_unsafe w ⟨b, 0, none⟩ Try.underlying116 Try.underlying127 hj (by rw [hjs]; decide) hsh (Nat.zero_lt_succ 1)]
    simp only [Result.andThen]
    rw [Oper.upon_value]
    go_wp2
    rw [run_callFunc_extern Try.func99 (by kernel_rfl) (by kernel_rfl) (by kernel_rfl) (e := Extern.AbiNoEscape.same) (by kernel_rfl)]
    rw [Lib.run_noEscape]
    simp only [Result.andThen]
    rw [Oper.upon_value]
    go_wp2
    rw [Lib.run_from_unsafe w ⟨b, 0, none⟩ Try.underlying127 Try.underlying116 hj hsh lies]
    simp only [Result.andThen]
    rw [Oper.upon_value]
    go_wp2
    go_end0
    refine ⟨rfl, ⟨hB, v, ?_, hown.far (p := ⟨b, 0, none⟩) (fun e => hne e) _, hne, hnil⟩, (Below.refl B w).setCell (p := ⟨b, 0, none⟩) hB _⟩
    simp [World.setCell, Array.getElem?_modify, hb]
  · have h' := h
    obtain ⟨hB, v, hb, hown, hne, hnil⟩ := h
    have h0 : w.cell? ⟨b, 0, none⟩ = some (.pointer (some ⟨b, 0, none⟩)) := by simp [World.cell?, hb]
    go_enter Try.func97, Try.ntmps97
    go_wp2
    rw [Lib.run_neq_ptr_same w _ Try.underlying116 hj]
    go_wp2
    go_end0
    exact ⟨rfl, h', Below.refl B w⟩

set_option maxRecDepth 100000 in
set_option maxHeartbeats 2000000 in
theorem write_s (B b : Nat) (l m : List UInt8) (A : Option Addr) (c : Nat) (w : World) (h : Is w B b l) (hm : Rd w B (.slice A m.length c) (bs m)) (hne : m ≠ []) (hlen : l.length + m.length ≤ 140737488355328) (hBw : B ≤ w.heap.size) :
    Calls Try.prog 89 #[.pointer (some ⟨b, 0, none⟩), .slice A m.length c] w fun e w' => e = .returned (.tuple #[.int .i64 m.length, .nilIface]) ∧ Is w' B b (l ++ m) ∧ Below B w w' := by
  go_enter Try.func89, Try.ntmps89
  go_wp2_with (go_at_call 97; refine (check_s B b l _ h).mono ?_)
  rintro e w1 ⟨rfl, h1, hb1⟩
  have hlt1 := h1.lt
  obtain ⟨hB, v, hbk, hown, hnb, _⟩ := h1
  have hm1 := hm.keep hb1
  have c0 : w1.cell? ⟨b, 0, none⟩ = some (.pointer (some ⟨b, 0, none⟩)) := by simp [World.cell?, hbk]
  have c1 : w1.cell? ⟨b, 1, none⟩ = some v := by simp [World.cell?, hbk]
  have Hne := Lib.hid hne
  clear hne
  go_wp2_with (at_builtin; refine wpList_append_form (P := Try.prog) _ rfl (.tmp 12) (.tmp 13) 24 rfl B 5 (.int .u8 0) 1 Try.underlying24 byte_info rfl v (bs l) rfl hown B _ (bs m) rfl hm1 (bs_one m) (l.length + m.length) (by rw [List.length_append, bs_length, bs_length]) ?c1 ?c2 ?c3 ?c4 ?_)
  case c1 => have := List.length_pos_iff.2 Hne.out; omega
  case c2 => unfold maxLen; omega
  case c3 => omega
  case c4 => have := hb1.size; omega
  intro g cap w2 hown' hgrow hg hglt hat
  have hb2 : w2.heap[b]? = some (.cells #[.pointer (some ⟨b, 0, none⟩), v] 118 (0, 0)) := (hgrow.block b hlt1 (fun e => hnb e.symm)).trans hbk
  have hgb : g ≠ b := by
    rcases hat with e | e
    · rintro rfl
      exact hnb e
    · omega
  have d0 : w2.cell? ⟨b, 0, none⟩ = some (.pointer (some ⟨b, 0, none⟩)) := by simp [World.cell?, hb2]
  have d1 : w2.cell? ⟨b, 1, none⟩ = some v := by simp [World.cell?, hb2]
  have f1 : w2.frozen? ⟨b, 1, none⟩ = false := by simp [World.frozen?, hb2]
  have Hgb := Lib.hid hgb
  clear hgb hat
  go_wp2
  go_ret2
  refine ⟨rfl, .inr ⟨hB, .slice (some ⟨g, 0, none⟩) (l.length + m.length) cap, ?_, ?_, ?_, ?_⟩, ?_⟩
  · simp [World.setCell, Array.getElem?_modify, hb2]
  · rw [bs_append]
    exact hown'.far (p := ⟨b, 1, none⟩) (by simpa [Value.ownBlock] using Hgb.out) _
  · simpa [Value.ownBlock] using Hgb.out
  · intro h
    exact absurd (List.append_eq_nil_iff.1 h).2 Hne.out
  · exact (hb1.grown hgrow (by have := hb1.size; omega) (fun k hk => (hown.lt k hk).1)).setCell (p := ⟨b, 1, none⟩) hB _

set_option maxRecDepth 100000 in
set_option maxHeartbeats 2000000 in
theorem string_s (B b : Nat) (l : List UInt8) (w : World) (h : Is w B b l) :
    Calls Try.prog 90 #[.pointer (some ⟨b, 0, none⟩)] w fun e w' => e = .returned (.string ⟨l.toArray⟩) ∧ Below B w w' := by
  obtain ⟨p, hB, v, hbk, hown, hne, hnil⟩ : ∃ p, At w B b p l := by
    rcases h with h | h
    · exact ⟨_, h⟩
    · exact ⟨_, h⟩
  by_cases h0 : l = []
  · subst h0
    obtain rfl := hnil rfl
    have hUS := fun W q => Lib.run_unsafeString_none (P := Try.prog) W 125 3 9 q
    have c1 : w.drew.cell? ⟨b, 1, none⟩ = some (.slice none 0 0) := by
      have : w.drew.heap[b]? = some (.cells #[p, .slice none 0 0] 118 (0, 0)) := hbk
      simp [World.cell?, this]
    have hSD : (Builtin.unsafeSliceData_ #[24] 125 #[.slice none 0 0]).run Try.prog w.drew = .ok (.pointer none) w.drew := rfl
    go_enter Try.func90, Try.ntmps90
    go_wp2
    go_region
    all_goals (go_wp2; go_ret; exact ⟨rfl, Below.drew (Below.refl B w)⟩)
  · obtain ⟨g, cap, rfl, hbg, hglt⟩ := hown.form (by simpa [bs] using h0)
    rw [bs_length] at hbk hown hne
    obtain ⟨cur, fz, hg, hcap, hcm, hcs⟩ : ∃ cur fz, w.heap[g]? = some (.cells cur 5 fz) ∧ l.length ≤ cap ∧ cap ≤ maxLen ∧ cur.size = cap := by
      rcases hown with ⟨e, _⟩ | ⟨g', cap', cur, fz, e, _, hg, _, h1, h2, h3, _⟩
      · simp at e
      · simp only [Value.slice.injEq, Option.some.injEq, Addr.mk.injEq, and_true] at e
        obtain ⟨rfl, _, rfl⟩ := e
        rw [bs_length] at h1
        exact ⟨cur, fz, hg, h1, h2, h3⟩
    have hpos := List.length_pos_iff.2 h0
    have c1 : w.drew.cell? ⟨b, 1, none⟩ = some (.slice (some ⟨g, 0, none⟩) l.length cap) := by
      have : w.drew.heap[b]? = some (.cells #[p, .slice (some ⟨g, 0, none⟩) l.length cap] 118 (0, 0)) := hbk
      simp [World.cell?, this]
    have hSD : (Builtin.unsafeSliceData_ #[24] 125 #[.slice (some ⟨g, 0, none⟩) l.length cap]).run Try.prog w.drew = .ok (.pointer (some ⟨g, 0, none⟩)) w.drew :=
      Lib.run_unsafeSliceData_row _ _ _ _ _ _ (by omega)
    have hrd := hown.rd
    have hUS : (Builtin.unsafeString_ #[125, 3] 9 #[.pointer (some ⟨g, 0, none⟩), .int .i64 l.length]).run Try.prog w.drew = .ok (.string ⟨l.toArray⟩) (w.drew.freeze ⟨g, 0, none⟩ l.length) := by
      refine Lib.run_unsafeString_row w.drew 125 3 9 5 Try.underlying125 byte_cells g cur.size (by have hg' : w.drew.heap[g]? = some (.cells cur 5 fz) := hg; simp [World.shape?, hg']) l h0 (by omega) (by unfold maxLen at hcm; omega) ?_
      intro j x hx
      obtain ⟨A', cap', e, _, hu⟩ := hrd
      simp only [Value.slice.injEq] at e
      obtain ⟨b', o', rfl, _, hu⟩ := hu (by simpa [bs] using h0)
      simp only [Option.some.injEq, Addr.mk.injEq, and_true] at e
      obtain ⟨⟨rfl, rfl⟩, _, _⟩ := e
      have := hu j (.int .u8 x.toNat) (by simp [bs, hx])
      rw [Addr.add_lit]
      exact this
    go_enter Try.func90, Try.ntmps90
    go_wp2
    go_region
    all_goals (go_wp2; go_ret; exact ⟨rfl, Lib.below_freeze (Below.drew (Below.refl B w)) (p := ⟨g, 0, none⟩) hbg _⟩)
end Go.Proofs.Ytleoiejkipobbaa.Builder
