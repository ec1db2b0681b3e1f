/-
  Contracts of package tree: the rules by kinds, as the map that the code makes: no statement is proved here. Contracts of package tree: each rule, the bounds, One: no statement is proved here. Contracts of package tree: One: no statement is proved here.
  Contracts of package tree: Find, Same, Under: no statement is proved here. Contracts of package tree: what may follow, and May: no statement is proved here. Contracts of what the laws of package tree share: few nodes, the two nodes, the chapter's example: no statement is proved here.
-/
import Derived.Test.YtjddgmdbgajjpaaTreeOne
import Derived.Test.YtjddgmdbgajjpaaPathK
import Derived.MapKept
import Derived.Deep.RegionWith
import Derived.Test.YtjddgmdbgajjpaaStreamM
import Derived.Test.YtjddgmdbgajjpaaLongTx
namespace Go.Proofs.Ytjddgmdbgajjpaa.Tree
open Go.RowKit Go.Proofs.Ytjddgmdbgajjpaa.Base Go.Proofs.Ytjddgmdbgajjpaa.Node Go.Proofs.Ytjddgmdbgajjpaa.Long

abbrev fnv (i : Nat) : Value := .func (.func i) #[] #[]
/-- A map's entries: kinds and functions, as they were laid in. -/
abbrev ent (k : Int) (f : Value) (b : Nat) : MapEntry := { key := .int .u8 k, val := f, born := b }
theorem map_type : Try.prog.underlying 60 = some (.map 5 29) := by kernel_rfl
theorem check_key (w : World) (b : Bool) (k : Int) : (Instr.checkKey b 10000 5 (.int .u8 k)).run Try.prog w = .ok () w :=
  MapKept.run_checkKey Try.underlying5 (by simp [MapKept.IsKey]) b 9999
theorem find_key (w : World) (k : Int) (es : List MapEntry) (r : Option (Nat × Value)) (h : Instr.findNow (.int .u8) (.int .u8 k) es 0 = some r) :
    (Instr.findKey 5 (.int .u8 k) es).run Try.prog w = .ok r w := by
  unfold Instr.findKey
  simp [run_underlying Try.underlying5, h, Result.andThen]
theorem heap_new (w : World) (o : Obj) : (w.alloc o).heap[w.heap.size]? = some o := by
  show (w.heap.push o)[w.heap.size]? = some o
  simp
theorem heap_set (w : World) (o o' : Obj) : ({ w.alloc o with heap := (w.alloc o).heap.setIfInBounds w.heap.size o' } : World) = w.alloc o' := by
  show ({ w with heap := (w.heap.push o).setIfInBounds w.heap.size o' } : World) = { w with heap := w.heap.push o' }
  congr 1
  apply Array.ext
  · simp
  · intro i h1 h2
    by_cases h : i = w.heap.size
    · subst h
      simp
    · rw [Array.getElem_setIfInBounds_ne (hj := by simpa using h2) (h := fun e => h e.symm)]
      simp only [Array.size_setIfInBounds, Array.size_push] at h1
      rw [Array.getElem_push_lt (by omega), Array.getElem_push_lt (by omega)]
theorem map_put (w : World) (es : Array MapEntry) (c : Nat) (k : Int) (f : Value) (hno : Instr.findNow (.int .u8) (.int .u8 k) es.toList 0 = some none) :
    (Instr.mapUpdate 60 (.map (some w.heap.size)) (.int .u8 k) f).run Try.prog (w.alloc (.map es c)) = .ok () (w.alloc (.map (es.push (ent k f c)) (c + 1))) := by
  have hb : (w.alloc (.map es c)).heap[w.heap.size]? = some (.map es c) := heap_new _ _
  simp [Instr.mapUpdate, run_underlying map_type, MapKept.run_getObj_map hb, check_key, find_key _ _ _ _ hno, MapKept.run_setObj_map _ hb, Result.andThen]
  exact heap_set _ _ _
theorem map_get {w : World} {g : Nat} {es : Array MapEntry} {c : Nat} (hb : w.heap[g]? = some (.map es c)) (k : Int) (i : Nat) (f : Value) (h : Instr.findNow (.int .u8) (.int .u8 k) es.toList 0 = some (some (i, f))) :
    (Instr.lookup 60 (.map (some g)) (.int .u8 k) true).run Try.prog w = .ok (.tuple #[f, .bool true]) w := by
  simp [Instr.lookup, run_underlying map_type, MapKept.run_getObj_map hb, check_key, find_key _ _ _ _ h, Result.andThen]
theorem map_none {w : World} {g : Nat} {es : Array MapEntry} {c : Nat} (hb : w.heap[g]? = some (.map es c)) (k : Int) (h : Instr.findNow (.int .u8) (.int .u8 k) es.toList 0 = some none) :
    (Instr.lookup 60 (.map (some g)) (.int .u8 k) true).run Try.prog w = .ok (.tuple #[.nilFunc, .bool false]) w := by
  simp [Instr.lookup, run_underlying map_type, MapKept.run_getObj_map hb, check_key, find_key _ _ _ _ h, Result.andThen]

abbrev kinds : Array MapEntry := #[ent 48 (fnv 63) 0, ent 49 (fnv 64) 1, ent 50 (fnv 65) 2, ent 53 (fnv 67) 3]
set_option maxRecDepth 100000 in
theorem rules_s (w : World) : Calls Try.prog 42 #[] w fun e w' => ∃ g, e = .returned (.map (some g)) ∧ w'.heap[g]? = some (.map kinds 4) ∧ Stp w w' := by
  have h0 := Stp.refl w
  have hmm := @run_makeMap Try.prog
  have e1 := map_put w #[] 0 48 (fnv 63) rfl
  have e2 := map_put w #[ent 48 (fnv 63) 0] 1 49 (fnv 64) rfl
  have e3 := map_put w #[ent 48 (fnv 63) 0, ent 49 (fnv 64) 1] 2 50 (fnv 65) rfl
  have e4 := map_put w #[ent 48 (fnv 63) 0, ent 49 (fnv 64) 1, ent 50 (fnv 65) 2] 3 53 (fnv 67) rfl
  simp only [List.push_toArray, List.cons_append, List.nil_append] at e1 e2 e3 e4
  go_enter Try.func42, Try.ntmps42
  go_wp2_with fail
  go_ret
  exact ⟨w.heap.size, rfl, heap_new _ _, Stp.alloc h0 _⟩
end Go.Proofs.Ytjddgmdbgajjpaa.Tree

namespace Go.Proofs.Ytjddgmdbgajjpaa.Tree
open Go.RowKit Go.Proofs.Ytjddgmdbgajjpaa.Base Go.Proofs.Ytjddgmdbgajjpaa.Node Go.Proofs.Ytjddgmdbgajjpaa.Long

def bareB (n : Nd) : Bool := decide (n = ⟨n.path, n.link, n.kind, 0, 0, 0, 0, []⟩)
theorem bareB_is (n : Nd) : bareB n = ((n.data == []) && (decide (n.mode = 0) && (decide (n.uid = 0) && (decide (n.gid = 0) && decide (n.time = 0))))) := by
  rw [Bool.eq_iff_iff]
  unfold bareB
  rw [decide_eq_true_eq, Nd.ext_iff']
  simp
  constructor
  · rintro ⟨h1, h2, h3, h4, h5⟩
    exact ⟨h5, h1, h2, h3, h4⟩
  · rintro ⟨h5, h1, h2, h3, h4⟩
    exact ⟨h1, h2, h3, h4, h5⟩

set_option maxRecDepth 100000 in
theorem rule1_s (n : Nd) (w : World) : Calls Try.prog 63 #[nv n] w fun e w' => e = .returned (.bool ((n.link == []) && decide ((n.data.length : Int) ≤ 4000))) ∧ Stp w w' := by
  have h0 := Stp.refl w
  obtain ⟨q0, q1, q2, q3, q4, q5, q6, q7⟩ := nd_cells (Blk.new w 26 (ncells n))
  go_enter Try.func63, Try.ntmps63
  go_wp2_with fail
  all_goals go_ret
  all_goals refine ⟨congrArg (fun b => Ending.returned (.bool b)) ?_, Stp.alloc h0 _⟩
  all_goals simp [*]
set_option maxRecDepth 100000 in
theorem rule2_s (n : Nd) (hn : SmallN n) (w : World) : Calls Try.prog 64 #[nv n] w fun e w' => e = .returned (.bool (PathM.mayB n.link && bareB n)) ∧ Stp w w' := by
  have h0 := Stp.refl w
  have Hb0 := Lib.hid (Blk.new w 26 (ncells n))
  have H0 := Lib.hid (Stp.alloc h0 (.cells (ncells n) 26))
  obtain ⟨q0, q1, q2, q3, q4, q5, q6, q7⟩ := nd_cells Hb0.out
  have Hn := Lib.hid hn
  obtain ⟨m2, h2⟩ : ∃ m, PathM.mayB n.link = m := ⟨_, rfl⟩
  have F2 := Lib.hid h2
  rw [h2]
  clear h2 hn
  go_enter Try.func64, Try.ntmps64
  go_wp2_with (first
    | (go_at_call 26; refine (Path.may_s n.link _ Hn.out.link).mono ?_; rintro e w1 ⟨rfl, hs⟩; rw [F2.out]; have Hb := Lib.hid (Hb0.out.keep hs Hb0.out.lt); have H := Lib.hid (Stp.trans H0.out hs); clear hs q0 q1 q2 q3 q4 q5 q6 q7; obtain ⟨q0, q1, q2, q3, q4, q5, q6, q7⟩ := nd_cells Hb.out; rcases m2))
  all_goals go_ret
  all_goals refine ⟨congrArg (fun b => Ending.returned (.bool b)) ?_, H.out⟩
  all_goals first | rfl | (rw [bareB_is]; simp [*])
set_option maxRecDepth 100000 in
theorem rule3_s (n : Nd) (hn : SmallN n) (w : World) : Calls Try.prog 65 #[nv n] w fun e w' => e = .returned (.bool (textL n.link && (n.data == []))) ∧ Stp w w' := by
  have h0 := Stp.refl w
  have Hb0 := Lib.hid (Blk.new w 26 (ncells n))
  have H0 := Lib.hid (Stp.alloc h0 (.cells (ncells n) 26))
  obtain ⟨q0, q1, q2, q3, q4, q5, q6, q7⟩ := nd_cells Hb0.out
  have Hn := Lib.hid hn
  obtain ⟨m2, h2⟩ : ∃ m, textL n.link = m := ⟨_, rfl⟩
  have F2 := Lib.hid h2
  rw [h2]
  clear h2 hn
  go_enter Try.func65, Try.ntmps65
  go_wp2_with (first
    | (go_at_call 66; refine (text_s n.link _).mono ?_; rintro e w1 ⟨rfl, hs⟩; rw [F2.out]; have Hb := Lib.hid (Hb0.out.keep hs Hb0.out.lt); have H := Lib.hid (Stp.trans H0.out hs); clear hs q0 q1 q2 q3 q4 q5 q6 q7; obtain ⟨q0, q1, q2, q3, q4, q5, q6, q7⟩ := nd_cells Hb.out; rcases m2))
  all_goals go_ret
  all_goals refine ⟨congrArg (fun b => Ending.returned (.bool b)) ?_, H.out⟩
  all_goals first | rfl | (simp [*])
set_option maxRecDepth 100000 in
theorem rule4_s (n : Nd) (w : World) : Calls Try.prog 67 #[nv n] w fun e w' => e = .returned (.bool ((n.link == []) && (n.data == []))) ∧ Stp w w' := by
  have h0 := Stp.refl w
  obtain ⟨q0, q1, q2, q3, q4, q5, q6, q7⟩ := nd_cells (Blk.new w 26 (ncells n))
  go_enter Try.func67, Try.ntmps67
  go_wp2_with fail
  all_goals go_ret
  all_goals refine ⟨congrArg (fun b => Ending.returned (.bool b)) ?_, Stp.alloc h0 _⟩
  all_goals simp [*]

set_option maxRecDepth 100000 in
theorem within_s (x most : Int) (w : World) : Calls Try.prog 68 #[.int .i64 x, .int .i64 most] w fun e w' => e = .returned (.bool (decide (0 ≤ x ∧ x ≤ most))) ∧ Stp w w' := by
  have h0 := Stp.refl w
  go_enter Try.func68, Try.ntmps68
  go_wp2_with fail
  all_goals go_ret
  all_goals refine ⟨congrArg (fun b => Ending.returned (.bool b)) ?_, h0⟩
  all_goals first | (symm; simp; omega; done) | (simp; omega; done)

set_option maxRecDepth 100000 in
theorem bounded_s (n : Nd) (w : World) : Calls Try.prog 43 #[nv n] w fun e w' => e = .returned (.bool (numsB n)) ∧ Stp w w' := by
  have h0 := Stp.refl w
  have Hb := Lib.hid (Blk.new w 26 (ncells n))
  have H := Lib.hid (Stp.alloc h0 (.cells (ncells n) 26))
  obtain ⟨q0, q1, q2, q3, q4, q5, q6, q7⟩ := nd_cells Hb.out
  obtain ⟨b1, h1⟩ : ∃ b, decide (0 ≤ n.mode ∧ n.mode ≤ 4095) = b := ⟨_, rfl⟩
  obtain ⟨b2, h2⟩ : ∃ b, decide (0 ≤ n.uid ∧ n.uid ≤ 1099511627776) = b := ⟨_, rfl⟩
  obtain ⟨b3, h3⟩ : ∃ b, decide (0 ≤ n.gid ∧ n.gid ≤ 1099511627776) = b := ⟨_, rfl⟩
  obtain ⟨b4, h4⟩ : ∃ b, decide (0 ≤ n.time ∧ n.time ≤ 1099511627776) = b := ⟨_, rfl⟩
  have F1 := Lib.hid h1
  have F2 := Lib.hid h2
  have F3 := Lib.hid h3
  have F4 := Lib.hid h4
  rw [show numsB n = (b1 && (b2 && (b3 && b4))) from by unfold numsB; rw [h1, h2, h3, h4]]
  clear h1 h2 h3 h4
  go_enter Try.func43, Try.ntmps43
  go_wp2_with (first
    | (go_at_call 68; (with_reducible refine (within_s n.mode 4095 _).mono ?_); rintro e w1 ⟨rfl, hs⟩; rw [F1.out]; replace Hb := Lib.hid (Hb.out.keep hs Hb.out.lt); replace H := Lib.hid (Stp.trans H.out hs); clear hs q0 q1 q2 q3 q4 q5 q6 q7; obtain ⟨q0, q1, q2, q3, q4, q5, q6, q7⟩ := nd_cells Hb.out; rcases b1)
    | (go_at_call 68; (with_reducible refine (within_s n.uid 1099511627776 _).mono ?_); rintro e w1 ⟨rfl, hs⟩; rw [F2.out]; replace Hb := Lib.hid (Hb.out.keep hs Hb.out.lt); replace H := Lib.hid (Stp.trans H.out hs); clear hs q0 q1 q2 q3 q4 q5 q6 q7; obtain ⟨q0, q1, q2, q3, q4, q5, q6, q7⟩ := nd_cells Hb.out; rcases b2)
    | (go_at_call 68; (with_reducible refine (within_s n.gid 1099511627776 _).mono ?_); rintro e w1 ⟨rfl, hs⟩; rw [F3.out]; replace Hb := Lib.hid (Hb.out.keep hs Hb.out.lt); replace H := Lib.hid (Stp.trans H.out hs); clear hs q0 q1 q2 q3 q4 q5 q6 q7; obtain ⟨q0, q1, q2, q3, q4, q5, q6, q7⟩ := nd_cells Hb.out; rcases b3)
    | (go_at_call 68; (with_reducible refine (within_s n.time 1099511627776 _).mono ?_); rintro e w1 ⟨rfl, hs⟩; rw [F4.out]; replace Hb := Lib.hid (Hb.out.keep hs Hb.out.lt); replace H := Lib.hid (Stp.trans H.out hs); clear hs q0 q1 q2 q3 q4 q5 q6 q7; obtain ⟨q0, q1, q2, q3, q4, q5, q6, q7⟩ := nd_cells Hb.out))
  all_goals go_ret
  all_goals exact ⟨rfl, H.out⟩
end Go.Proofs.Ytjddgmdbgajjpaa.Tree

namespace Go.Proofs.Ytjddgmdbgajjpaa.Tree
open Go.RowKit Go.Proofs.Ytjddgmdbgajjpaa.Base Go.Proofs.Ytjddgmdbgajjpaa.Node Go.Proofs.Ytjddgmdbgajjpaa.Long

theorem one_no {n : Nd} (h : n.kind ≠ 48 ∧ n.kind ≠ 49 ∧ n.kind ≠ 50 ∧ n.kind ≠ 53) : oneB n = false := by
  have : kindB n = false := by
    unfold kindB
    rw [if_neg h.1, if_neg h.2.1, if_neg h.2.2.1, if_neg h.2.2.2]
  unfold oneB
  rw [this]
  simp
theorem one_yes {n : Nd} {k : Bool} (h : kindB n = k) : oneB n = (k && (PathM.mayB n.path && numsB n)) := by
  unfold oneB
  rw [h]
  cases k <;> cases PathM.mayB n.path <;> cases numsB n <;> rfl
theorem find_other {k : UInt8} (h : k ≠ 48 ∧ k ≠ 49 ∧ k ≠ 50 ∧ k ≠ 53) : Instr.findNow (.int .u8) (.int .u8 (k.toNat : Int)) kinds.toList 0 = some none := by
  have e : ∀ m : UInt8, k ≠ m → ((k.toNat : Int) == (m.toNat : Int)) = false := fun m hm => beq_eq_false_iff_ne.2 fun h2 => hm (UInt8.toNat_inj.1 (by omega))
  have e1 : ((k.toNat : Int) == 48) = false := e 48 h.1
  have e2 : ((k.toNat : Int) == 49) = false := e 49 h.2.1
  have e3 : ((k.toNat : Int) == 50) = false := e 50 h.2.2.1
  have e4 : ((k.toNat : Int) == 53) = false := e 53 h.2.2.2
  simp [Instr.findNow, Instr.sameNow, e1, e2, e3, e4]
theorem dec_cast (m k : Nat) : decide (m ≤ k) = decide ((m : Int) ≤ (k : Int)) := by
  rw [Bool.eq_iff_iff, decide_eq_true_eq, decide_eq_true_eq]
  omega
theorem kind_48 {n : Nd} (h : n.kind = 48) : kindB n = ((n.link == []) && decide ((n.data.length : Int) ≤ 4000)) := by
  unfold kindB
  rw [if_pos h, dec_cast]
  rfl
theorem kind_49 {n : Nd} (h : n.kind = 49) : kindB n = (PathM.mayB n.link && bareB n) := by
  unfold kindB
  rw [h, if_neg (by decide), if_pos rfl, bareB_is]
theorem kind_50 {n : Nd} (h : n.kind = 50) : kindB n = (textL n.link && (n.data == [])) := by
  unfold kindB
  rw [h, if_neg (by decide), if_neg (by decide), if_pos rfl]
theorem kind_53 {n : Nd} (h : n.kind = 53) : kindB n = ((n.link == []) && (n.data == [])) := by
  unfold kindB
  rw [h, if_neg (by decide), if_neg (by decide), if_neg (by decide), if_pos rfl]
theorem kind_at {n : Nd} {k : UInt8} (h : n.kind = k) {w : World} {g : Nat} {t : TypeId} (hb : Blk w g t (ncells n)) : w.cell? ⟨g, 2, none⟩ = some (.int .u8 (k.toNat : Int)) := by
  rw [← h]
  exact (nd_cells hb).2.2.1

set_option maxRecDepth 100000 in
theorem one_other (n : Nd) (hk : n.kind ≠ 48 ∧ n.kind ≠ 49 ∧ n.kind ≠ 50 ∧ n.kind ≠ 53) (w : World) :
    Calls Try.prog 25 #[nv n] w fun e w' => e = .returned (.bool (oneB n)) ∧ Stp w w' := by
  have h0 := Stp.refl w
  have Hb0 := Lib.hid (Blk.new w 26 (ncells n))
  have H0 := Lib.hid (Stp.alloc h0 (.cells (ncells n) 26))
  obtain ⟨q0, q1, q2, q3, q4, q5, q6, q7⟩ := nd_cells Hb0.out
  rw [one_no hk]
  have Hk := Lib.hid hk
  clear hk
  go_enter Try.func25, Try.ntmps25
  go_wp2_with fail
  go_region_with (go_at_call 42; refine (rules_s _).mono ?_; rintro e w1 ⟨g, rfl, hm, hs⟩; have Hb := Lib.hid (Blk.keep (Blk.drew Hb0.out) hs Hb0.out.lt); have H := Lib.hid (Stp.trans (Stp.drewN H0.out 1) hs); clear hs q0 q1 q2 q3 q4 q5 q6 q7; obtain ⟨q0, q1, q2, q3, q4, q5, q6, q7⟩ := nd_cells Hb.out; have hlk := map_none hm _ (find_other Hk.out))
  all_goals go_wp2_with fail
  all_goals go_ret
  all_goals exact ⟨rfl, H.out⟩
set_option maxRecDepth 100000 in
set_option maxHeartbeats 1000000 in
theorem one_48 (n : Nd) (hn : SmallN n) (hk : n.kind = 48) (w : World) :
    Calls Try.prog 25 #[nv n] w fun e w' => e = .returned (.bool (oneB n)) ∧ Stp w w' := by
  have h0 := Stp.refl w
  have Hn := Lib.hid hn
  have Hb0 := Lib.hid (Blk.new w 26 (ncells n))
  have H0 := Lib.hid (Stp.alloc h0 (.cells (ncells n) 26))
  obtain ⟨q0, q1, q2, q3, q4, q5, q6, q7⟩ := nd_cells Hb0.out
  rw [one_yes (kind_48 hk)]
  have Ek := Lib.hid (show (n.kind.toNat : Int) = 48 by rw [hk]; rfl)
  clear hk hn
  obtain ⟨b1, h1⟩ : ∃ b, ((n.link == []) && decide ((n.data.length : Int) ≤ 4000)) = b := ⟨_, rfl⟩
  obtain ⟨b2, h2⟩ : ∃ b, PathM.mayB n.path = b := ⟨_, rfl⟩
  obtain ⟨b3, h3⟩ : ∃ b, numsB n = b := ⟨_, rfl⟩
  have F1 := Lib.hid h1
  have F2 := Lib.hid h2
  have F3 := Lib.hid h3
  rw [h1, h2, h3]
  clear h1 h2 h3
  go_enter Try.func25, Try.ntmps25
  go_wp2_with fail
  go_region_with (go_at_call 42; refine (rules_s _).mono ?_; rintro e w1 ⟨g, rfl, hm, hs⟩; have Hb := Lib.hid (Blk.keep (Blk.drew Hb0.out) hs Hb0.out.lt); have H := Lib.hid (Stp.trans (Stp.drewN H0.out 1) hs); clear hs q0 q1 q2 q3 q4 q5 q6 q7; obtain ⟨q0, q1, q2, q3, q4, q5, q6, q7⟩ := nd_cells Hb.out; have hlk := map_get hm 48 0 _ rfl; rw [← Ek.out] at hlk)
  all_goals go_wp2_with (first
    | (go_at_call 63; (with_reducible refine (rule1_s n _).mono ?_); rintro e w2 ⟨rfl, hs⟩; rw [F1.out]; replace Hb := Lib.hid (Hb.out.keep hs Hb.out.lt); replace H := Lib.hid (Stp.trans H.out hs); clear hs q0 q1 q2 q3 q4 q5 q6 q7; obtain ⟨q0, q1, q2, q3, q4, q5, q6, q7⟩ := nd_cells Hb.out; rcases b1)
    | (go_at_call 26; (with_reducible refine (Path.may_s n.path _ Hn.out.path).mono ?_); rintro e w3 ⟨rfl, hs⟩; rw [F2.out]; replace Hb := Lib.hid (Hb.out.keep hs Hb.out.lt); replace H := Lib.hid (Stp.trans H.out hs); clear hs q0 q1 q2 q3 q4 q5 q6 q7; obtain ⟨q0, q1, q2, q3, q4, q5, q6, q7⟩ := nd_cells Hb.out; rcases b2)
    | (go_at_call 43; (with_reducible refine (bounded_s n _).mono ?_); rintro e w4 ⟨rfl, hs⟩; rw [F3.out]; replace Hb := Lib.hid (Hb.out.keep hs Hb.out.lt); replace H := Lib.hid (Stp.trans H.out hs); clear hs q0 q1 q2 q3 q4 q5 q6 q7; obtain ⟨q0, q1, q2, q3, q4, q5, q6, q7⟩ := nd_cells Hb.out))
  all_goals go_ret
  all_goals exact ⟨rfl, H.out⟩
set_option maxRecDepth 100000 in
set_option maxHeartbeats 1000000 in
theorem one_49 (n : Nd) (hn : SmallN n) (hk : n.kind = 49) (w : World) :
    Calls Try.prog 25 #[nv n] w fun e w' => e = .returned (.bool (oneB n)) ∧ Stp w w' := by
  have h0 := Stp.refl w
  have Hn := Lib.hid hn
  have Hb0 := Lib.hid (Blk.new w 26 (ncells n))
  have H0 := Lib.hid (Stp.alloc h0 (.cells (ncells n) 26))
  obtain ⟨q0, q1, q2, q3, q4, q5, q6, q7⟩ := nd_cells Hb0.out
  rw [one_yes (kind_49 hk)]
  have Ek := Lib.hid (show (n.kind.toNat : Int) = 49 by rw [hk]; rfl)
  clear hk hn
  obtain ⟨b1, h1⟩ : ∃ b, (PathM.mayB n.link && bareB n) = b := ⟨_, rfl⟩
  obtain ⟨b2, h2⟩ : ∃ b, PathM.mayB n.path = b := ⟨_, rfl⟩
  obtain ⟨b3, h3⟩ : ∃ b, numsB n = b := ⟨_, rfl⟩
  have F1 := Lib.hid h1
  have F2 := Lib.hid h2
  have F3 := Lib.hid h3
  rw [h1, h2, h3]
  clear h1 h2 h3
  go_enter Try.func25, Try.ntmps25
  go_wp2_with fail
  go_region_with (go_at_call 42; refine (rules_s _).mono ?_; rintro e w1 ⟨g, rfl, hm, hs⟩; have Hb := Lib.hid (Blk.keep (Blk.drew Hb0.out) hs Hb0.out.lt); have H := Lib.hid (Stp.trans (Stp.drewN H0.out 1) hs); clear hs q0 q1 q2 q3 q4 q5 q6 q7; obtain ⟨q0, q1, q2, q3, q4, q5, q6, q7⟩ := nd_cells Hb.out; have hlk := map_get hm 49 1 _ rfl; rw [← Ek.out] at hlk)
  all_goals go_wp2_with (first
    | (go_at_call 64; (with_reducible refine (rule2_s n Hn.out _).mono ?_); rintro e w2 ⟨rfl, hs⟩; rw [F1.out]; replace Hb := Lib.hid (Hb.out.keep hs Hb.out.lt); replace H := Lib.hid (Stp.trans H.out hs); clear hs q0 q1 q2 q3 q4 q5 q6 q7; obtain ⟨q0, q1, q2, q3, q4, q5, q6, q7⟩ := nd_cells Hb.out; rcases b1)
    | (go_at_call 26; (with_reducible refine (Path.may_s n.path _ Hn.out.path).mono ?_); rintro e w3 ⟨rfl, hs⟩; rw [F2.out]; replace Hb := Lib.hid (Hb.out.keep hs Hb.out.lt); replace H := Lib.hid (Stp.trans H.out hs); clear hs q0 q1 q2 q3 q4 q5 q6 q7; obtain ⟨q0, q1, q2, q3, q4, q5, q6, q7⟩ := nd_cells Hb.out; rcases b2)
    | (go_at_call 43; (with_reducible refine (bounded_s n _).mono ?_); rintro e w4 ⟨rfl, hs⟩; rw [F3.out]; replace Hb := Lib.hid (Hb.out.keep hs Hb.out.lt); replace H := Lib.hid (Stp.trans H.out hs); clear hs q0 q1 q2 q3 q4 q5 q6 q7; obtain ⟨q0, q1, q2, q3, q4, q5, q6, q7⟩ := nd_cells Hb.out))
  all_goals go_ret
  all_goals exact ⟨rfl, H.out⟩
set_option maxRecDepth 100000 in
set_option maxHeartbeats 1000000 in
theorem one_50 (n : Nd) (hn : SmallN n) (hk : n.kind = 50) (w : World) :
    Calls Try.prog 25 #[nv n] w fun e w' => e = .returned (.bool (oneB n)) ∧ Stp w w' := by
  have h0 := Stp.refl w
  have Hn := Lib.hid hn
  have Hb0 := Lib.hid (Blk.new w 26 (ncells n))
  have H0 := Lib.hid (Stp.alloc h0 (.cells (ncells n) 26))
  obtain ⟨q0, q1, q2, q3, q4, q5, q6, q7⟩ := nd_cells Hb0.out
  rw [one_yes (kind_50 hk)]
  have Ek := Lib.hid (show (n.kind.toNat : Int) = 50 by rw [hk]; rfl)
  clear hk hn
  obtain ⟨b1, h1⟩ : ∃ b, (textL n.link && (n.data == [])) = b := ⟨_, rfl⟩
  obtain ⟨b2, h2⟩ : ∃ b, PathM.mayB n.path = b := ⟨_, rfl⟩
  obtain ⟨b3, h3⟩ : ∃ b, numsB n = b := ⟨_, rfl⟩
  have F1 := Lib.hid h1
  have F2 := Lib.hid h2
  have F3 := Lib.hid h3
  rw [h1, h2, h3]
  clear h1 h2 h3
  go_enter Try.func25, Try.ntmps25
  go_wp2_with fail
  go_region_with (go_at_call 42; refine (rules_s _).mono ?_; rintro e w1 ⟨g, rfl, hm, hs⟩; have Hb := Lib.hid (Blk.keep (Blk.drew Hb0.out) hs Hb0.out.lt); have H := Lib.hid (Stp.trans (Stp.drewN H0.out 1) hs); clear hs q0 q1 q2 q3 q4 q5 q6 q7; obtain ⟨q0, q1, q2, q3, q4, q5, q6, q7⟩ := nd_cells Hb.out; have hlk := map_get hm 50 2 _ rfl; rw [← Ek.out] at hlk)
  all_goals go_wp2_with (first
    | (go_at_call 65; (with_reducible refine (rule3_s n Hn.out _).mono ?_); rintro e w2 ⟨rfl, hs⟩; rw [F1.out]; replace Hb := Lib.hid (Hb.out.keep hs Hb.out.lt); replace H := Lib.hid (Stp.trans H.out hs); clear hs q0 q1 q2 q3 q4 q5 q6 q7; obtain ⟨q0, q1, q2, q3, q4, q5, q6, q7⟩ := nd_cells Hb.out; rcases b1)
    | (go_at_call 26; (with_reducible refine (Path.may_s n.path _ Hn.out.path).mono ?_); rintro e w3 ⟨rfl, hs⟩; rw [F2.out]; replace Hb := Lib.hid (Hb.out.keep hs Hb.out.lt); replace H := Lib.hid (Stp.trans H.out hs); clear hs q0 q1 q2 q3 q4 q5 q6 q7; obtain ⟨q0, q1, q2, q3, q4, q5, q6, q7⟩ := nd_cells Hb.out; rcases b2)
    | (go_at_call 43; (with_reducible refine (bounded_s n _).mono ?_); rintro e w4 ⟨rfl, hs⟩; rw [F3.out]; replace Hb := Lib.hid (Hb.out.keep hs Hb.out.lt); replace H := Lib.hid (Stp.trans H.out hs); clear hs q0 q1 q2 q3 q4 q5 q6 q7; obtain ⟨q0, q1, q2, q3, q4, q5, q6, q7⟩ := nd_cells Hb.out))
  all_goals go_ret
  all_goals exact ⟨rfl, H.out⟩
set_option maxRecDepth 100000 in
set_option maxHeartbeats 1000000 in
theorem one_53 (n : Nd) (hn : SmallN n) (hk : n.kind = 53) (w : World) :
    Calls Try.prog 25 #[nv n] w fun e w' => e = .returned (.bool (oneB n)) ∧ Stp w w' := by
  have h0 := Stp.refl w
  have Hn := Lib.hid hn
  have Hb0 := Lib.hid (Blk.new w 26 (ncells n))
  have H0 := Lib.hid (Stp.alloc h0 (.cells (ncells n) 26))
  obtain ⟨q0, q1, q2, q3, q4, q5, q6, q7⟩ := nd_cells Hb0.out
  rw [one_yes (kind_53 hk)]
  have Ek := Lib.hid (show (n.kind.toNat : Int) = 53 by rw [hk]; rfl)
  clear hk hn
  obtain ⟨b1, h1⟩ : ∃ b, ((n.link == []) && (n.data == [])) = b := ⟨_, rfl⟩
  obtain ⟨b2, h2⟩ : ∃ b, PathM.mayB n.path = b := ⟨_, rfl⟩
  obtain ⟨b3, h3⟩ : ∃ b, numsB n = b := ⟨_, rfl⟩
  have F1 := Lib.hid h1
  have F2 := Lib.hid h2
  have F3 := Lib.hid h3
  rw [h1, h2, h3]
  clear h1 h2 h3
  go_enter Try.func25, Try.ntmps25
  go_wp2_with fail
  go_region_with (go_at_call 42; refine (rules_s _).mono ?_; rintro e w1 ⟨g, rfl, hm, hs⟩; have Hb := Lib.hid (Blk.keep (Blk.drew Hb0.out) hs Hb0.out.lt); have H := Lib.hid (Stp.trans (Stp.drewN H0.out 1) hs); clear hs q0 q1 q2 q3 q4 q5 q6 q7; obtain ⟨q0, q1, q2, q3, q4, q5, q6, q7⟩ := nd_cells Hb.out; have hlk := map_get hm 53 3 _ rfl; rw [← Ek.out] at hlk)
  all_goals go_wp2_with (first
    | (go_at_call 67; (with_reducible refine (rule4_s n _).mono ?_); rintro e w2 ⟨rfl, hs⟩; rw [F1.out]; replace Hb := Lib.hid (Hb.out.keep hs Hb.out.lt); replace H := Lib.hid (Stp.trans H.out hs); clear hs q0 q1 q2 q3 q4 q5 q6 q7; obtain ⟨q0, q1, q2, q3, q4, q5, q6, q7⟩ := nd_cells Hb.out; rcases b1)
    | (go_at_call 26; (with_reducible refine (Path.may_s n.path _ Hn.out.path).mono ?_); rintro e w3 ⟨rfl, hs⟩; rw [F2.out]; replace Hb := Lib.hid (Hb.out.keep hs Hb.out.lt); replace H := Lib.hid (Stp.trans H.out hs); clear hs q0 q1 q2 q3 q4 q5 q6 q7; obtain ⟨q0, q1, q2, q3, q4, q5, q6, q7⟩ := nd_cells Hb.out; rcases b2)
    | (go_at_call 43; (with_reducible refine (bounded_s n _).mono ?_); rintro e w4 ⟨rfl, hs⟩; rw [F3.out]; replace Hb := Lib.hid (Hb.out.keep hs Hb.out.lt); replace H := Lib.hid (Stp.trans H.out hs); clear hs q0 q1 q2 q3 q4 q5 q6 q7; obtain ⟨q0, q1, q2, q3, q4, q5, q6, q7⟩ := nd_cells Hb.out))
  all_goals go_ret
  all_goals exact ⟨rfl, H.out⟩
theorem tone_s (n : Nd) (hn : SmallN n) (w : World) :
    Calls Try.prog 25 #[nv n] w fun e w' => e = .returned (.bool (oneB n)) ∧ Stp w w' := by
  by_cases h1 : n.kind = 48
  · exact one_48 n hn h1 w
  · by_cases h2 : n.kind = 49
    · exact one_49 n hn h2 w
    · by_cases h3 : n.kind = 50
      · exact one_50 n hn h3 w
      · by_cases h4 : n.kind = 53
        · exact one_53 n hn h4 w
        · exact one_other n ⟨h1, h2, h3, h4⟩ w
end Go.Proofs.Ytjddgmdbgajjpaa.Tree

namespace Go.Proofs.Ytjddgmdbgajjpaa.Tree
open Go.RowKit Go.Proofs.Ytjddgmdbgajjpaa.Base Go.Proofs.Ytjddgmdbgajjpaa.Node Go.Proofs.Ytjddgmdbgajjpaa.Long

set_option maxRecDepth 100000 in
/-- Is a node's path the one that is looked for? -/
theorem find1_s (n : Nd) (p : L) (g : Nat) (w : World) (hp : w.cell? ⟨g, 0, none⟩ = some (.string ⟨p.toArray⟩)) (hg : g < w.heap.size) :
    Calls Try.prog 50 #[nv n, .pointer (some ⟨g, 0, none⟩)] w fun e w' => e = .returned (.bool (n.path == p)) ∧ Stp w w' := by
  have h0 := Stp.refl w
  obtain ⟨q0, q1, q2, q3, q4, q5, q6, q7⟩ := nd_cells (Blk.new w 26 (ncells n))
  have hp2 : (w.alloc (.cells (ncells n) 26)).cell? ⟨g, 0, none⟩ = some (.string ⟨p.toArray⟩) := by rw [World.cell?_alloc_old _ _ _ (Nat.ne_of_lt hg)]; exact hp
  clear hp
  obtain ⟨b, hb⟩ : ∃ b, (n.path == p) = b := ⟨_, rfl⟩
  rw [hb]
  cases b
  all_goals
    go_enter Try.func50, Try.ntmps50
    go_wp2_with fail
    go_ret
    exact ⟨rfl, Stp.alloc h0 _⟩

set_option maxRecDepth 100000 in
set_option maxHeartbeats 2000000 in
theorem index_s (ns : List Nd) (p : L) (g : Nat) (A : Option Addr) (c : Nat) (w : World) (ha : RdN w A c ns) (hl : ns.length < 9223372036854775808) (hp : w.cell? ⟨g, 0, none⟩ = some (.string ⟨p.toArray⟩)) (hg : g < w.heap.size) :
    Calls Try.prog 49 #[.slice A ns.length c, .func (.func 50) #[] #[.pointer (some ⟨g, 0, none⟩)]] w fun e w' => e = .returned (.int .i64 (findV ns p)) ∧ Stp w w' := by
  obtain ⟨r, hr⟩ : ∃ r, findV ns p = r := ⟨_, rfl⟩
  have Hr := Lib.hid hr
  rw [hr]
  clear hr
  have Hp := Lib.hid hp
  have Ha := Lib.hid ha
  clear hp ha
  go_enter Try.func49, Try.ntmps49
  go_wp2_with fail
  go_loopw [5, 8] (fun _ i wr => ∃ k : Nat, k ≤ ns.length ∧ i = .int .i64 k ∧ Hid (Stp w wr) ∧ Hid (∀ (j : Nat) (m : Nd), j < k → ns[j]? = some m → m.path ≠ p)) (fun _ i _ => ns.length - (intOf i).toNat)
  case atStart => exact ⟨0, by omega, rfl, Lib.hid (Stp.refl w), Lib.hid (fun j m hj => by omega)⟩
  case round =>
    obtain ⟨k, hk, rfl, H1, Hn⟩ := hrel
    by_cases hlt : k < ns.length
    · obtain ⟨n, hn⟩ : ∃ n, ns[k]? = some n := ⟨_, List.getElem?_eq_getElem hlt⟩
      obtain ⟨b, o, rfl, hb, q0, q1, q2, q3, q4, q5, q6, q7⟩ := (Ha.out.keep H1.out).cells hn
      have Hk := Lib.hid hn
      have hc := Ha.out.1
      have Hg := Lib.hid (Nat.lt_of_lt_of_le hg H1.out.size)
      have Hpc := Lib.hid ((H1.out.cell (p := ⟨g, 0, none⟩) hg).trans Hp.out)
      clear hn
      by_cases he : n.path = p
      · have Hb := Lib.hid (show (n.path == p) = true from beq_iff_eq.2 he)
        have He := Lib.hid he
        clear he
        go_wp2_with (go_at_call 50; refine (find1_s n p g _ Hpc.out Hg.out).mono ?_; rintro e w2 ⟨rfl, hs⟩; rw [Hb.out]; have H2 := Lib.hid (Stp.trans H1.out hs); clear hs)
        go_ret
        refine ⟨congrArg (fun x => Ending.returned (.int .i64 x)) ?_, H2.out⟩
        rw [← Hr.out, findV, findN_of Hk.out He.out Hn.out]
      · have Hb := Lib.hid (show (n.path == p) = false from beq_eq_false_iff_ne.2 he)
        have Hs := Lib.hid (none_step Hk.out he Hn.out)
        clear he
        go_wp2_with (go_at_call 50; refine (find1_s n p g _ Hpc.out Hg.out).mono ?_; rintro e w2 ⟨rfl, hs⟩; rw [Hb.out]; have H2 := Lib.hid (Stp.trans H1.out hs); clear hs)
        go_roundw
        case rel => exact ⟨k + 1, by omega, by go_num, H2, Hs⟩
        case measure => simp [intOf]; omega
    · obtain rfl : k = ns.length := by omega
      have hn := Hn.out
      go_wp2_with fail
      go_ret
      refine ⟨congrArg (fun x => Ending.returned (.int .i64 x)) ?_, H1.out⟩
      rw [← Hr.out, findV, findN_none (fun j m hm => hn j m (List.getElem?_eq_some_iff.1 hm).1 hm)]

set_option maxRecDepth 100000 in
theorem tfind_s (ns : List Nd) (p : L) (A : Option Addr) (c : Nat) (w : World) (ha : RdN w A c ns) (hl : ns.length ≤ 1000) :
    Calls Try.prog 29 #[.slice A ns.length c, .string ⟨p.toArray⟩] w fun e w' => e = .returned (.int .i64 (findV ns p)) ∧ Stp w w' := by
  have h0 := Stp.refl w
  have hmf : ∀ (fn : Fn) (first cap : Array Value) (w : World), (Instr.makeFunc fn first cap).run Try.prog w = .ok (.func fn first cap) w := fun _ _ _ _ => rfl
  have H1 := Lib.hid (Stp.alloc h0 (.cells #[.string ⟨p.toArray⟩] 9))
  go_enter Try.func29, Try.ntmps29
  go_wp2_with (go_at_call 49; refine (index_s ns p w.heap.size A c _ (ha.keep H1.out) (by omega) (by rw [World.cell?_alloc_new]; rfl) (by rw [World.size_alloc]; omega)).mono ?_; rintro e w2 ⟨rfl, hs⟩; have H2 := Lib.hid (Stp.trans H1.out hs); clear hs)
  go_ret
  exact ⟨rfl, H2.out⟩

set_option maxRecDepth 100000 in
set_option maxHeartbeats 2000000 in
theorem equal_s (ns ms : List Nd) (A B : Option Addr) (c d : Nat) (w : World) (ha : RdN w A c ns) (hb : RdN w B d ms) (hm : ms.length < 9223372036854775808) :
    Calls Try.prog 61 #[.slice A ns.length c, .slice B ms.length d] w fun e w' => e = .returned (.bool (ns == ms)) ∧ Stp w w' := by
  have h0 := Stp.refl w
  by_cases hlen : ns.length = ms.length
  · obtain ⟨N, hN⟩ : ∃ N, ms.length = N := ⟨_, rfl⟩
    rw [hN] at hlen
    rw [hlen, hN]
    have HN := Lib.hid hN
    have HL := Lib.hid hlen
    rw [hN] at hm
    clear hN hlen
    go_enter Try.func61, Try.ntmps61
    go_wp2_with fail
    go_loopw [5, 13] (fun _ i wr => ∃ k : Nat, k ≤ N ∧ i = .int .i64 k ∧ Stp w wr ∧ Hid (ns.take k = ms.take k)) (fun _ i _ => N - (intOf i).toNat)
    case atStart => exact ⟨0, by omega, rfl, Stp.refl w, Lib.hid (by simp)⟩
    case round =>
      obtain ⟨k, hk, rfl, hst, Ht⟩ := hrel
      by_cases hlt : k < N
      · obtain ⟨x, hx⟩ : ∃ n, ns[k]? = some n := ⟨_, List.getElem?_eq_getElem (by rw [HL.out]; exact hlt)⟩
        obtain ⟨y, hy⟩ : ∃ n, ms[k]? = some n := ⟨_, List.getElem?_eq_getElem (by rw [HN.out]; exact hlt)⟩
        have ha1 := ha.keep hst
        have hb1 := hb.keep hst
        obtain ⟨b1, o1, rfl, -, q0, q1, q2, q3, q4, q5, q6, q7⟩ := ha1.cells hx
        obtain ⟨b2, o2, rfl, -, r0, r1, r2, r3, r4, r5, r6, r7⟩ := hb1.cells hy
        have Hx := Lib.hid hx
        have Hy := Lib.hid hy
        have heq := eq_nodes x y
        have hng := noGuardN
        clear hx hy ha1 hb1
        by_cases e : x = y
        · rw [decide_eq_true e] at heq
          have Hnext := Lib.hid ((take_next Hx.out Hy.out Ht.out).2 e)
          clear e
          go_wp2_with fail
          go_quiet (fail)
          go_wp2_with fail
          go_roundw
          case rel => exact ⟨k + 1, by omega, by go_num, hst.drewN _, Hnext⟩
          case measure => simp [intOf]; omega
        · rw [decide_eq_false e] at heq
          have Hne := Lib.hid e
          clear e
          go_wp2_with fail
          go_quiet (fail)
          go_wp2_with fail
          go_ret
          refine ⟨congrArg (fun b => Ending.returned (.bool b)) ?_, hst.drewN _⟩
          symm
          rw [beq_eq_false_iff_ne]
          rintro rfl
          have h1 := Hx.out
          rw [Hy.out] at h1
          exact Hne.out (Option.some.inj h1).symm
      · obtain rfl : k = N := by omega
        have ht := Ht.out
        rw [List.take_of_length_le (by rw [HL.out]; exact Nat.le_refl _), List.take_of_length_le (by rw [HN.out]; exact Nat.le_refl _)] at ht
        have Ht2 := Lib.hid ht
        clear ht
        go_wp2_with fail
        go_ret
        exact ⟨by rw [Ht2.out]; simp, hst⟩
  · have g : ((ns.length : Int) != (ms.length : Int)) = true := by simp; omega
    have e : (ns == ms) = false := by
      rw [beq_eq_false_iff_ne]
      rintro rfl
      exact hlen rfl
    rw [e]
    clear e hlen
    go_enter Try.func61, Try.ntmps61
    go_wp2_with fail
    go_ret
    exact ⟨rfl, h0⟩
set_option maxRecDepth 100000 in
theorem tsame_s (ns ms : List Nd) (A B : Option Addr) (c d : Nat) (w : World) (ha : RdN w A c ns) (hb : RdN w B d ms) (hl : ns.length ≤ 1000) (hm : ms.length ≤ 1000) :
    Calls Try.prog 40 #[.slice A ns.length c, .slice B ms.length d] w fun e w' => e = .returned (.bool (ns == ms)) ∧ Stp w w' := by
  have h0 := Stp.refl w
  have Hl := Lib.hid hl
  go_enter Try.func40, Try.ntmps40
  go_wp2_with (go_at_call 61; refine (equal_s ns ms A B c d _ ha hb (by omega)).mono ?_; rintro e w1 ⟨rfl, hs⟩; have H := Stp.trans h0 hs)
  go_ret
  exact ⟨rfl, H⟩

end Go.Proofs.Ytjddgmdbgajjpaa.Tree

namespace Go.Proofs.Ytjddgmdbgajjpaa.Tree
open Go.RowKit Go.Proofs.Ytjddgmdbgajjpaa.Base Go.Proofs.Ytjddgmdbgajjpaa.Node Go.Proofs.Ytjddgmdbgajjpaa.Long

/-- Is a path greater than the last one of a list? -/
def riseV (ns : List Nd) (p : L) : Bool := match ns.getLast? with | none => true | some m => !(Op.bytesLess p m.path || p == m.path)
theorem rise_last {ns : List Nd} {m : Nd} {j : Nat} (hj : ns.length = j + 1) (hm : ns[j]? = some m) (p : L) : riseV ns p = !(Op.bytesLess p m.path || p == m.path) := by
  unfold riseV
  rw [List.getLast?_eq_getElem?, hj, Nat.add_sub_cancel, hm]
theorem step_of (pre : List Nd) (n : Nd) : stepB pre n = (oneB n && (riseV pre n.path && ((!(PathM.parB n.path) || hasB pre (PathM.parV n.path) 53) && (!(decide (n.kind = 49)) || hasB pre n.link 48)))) := rfl

theorem blk_first {w : World} {g : Nat} {t : TypeId} {v : Value} (h : Blk w g t #[v]) : w.cell? ⟨g, 0, none⟩ = some v := by
  rw [h.cell]
  rfl
set_option maxRecDepth 100000 in
theorem rises_s (ns : List Nd) (p : L) (A : Option Addr) (c : Nat) (w : World) (ha : RdN w A c ns) (hl : ns.length < 9223372036854775808) :
    Calls Try.prog 72 #[.slice A ns.length c, .string ⟨p.toArray⟩] w fun e w' => e = .returned (.bool (riseV ns p)) ∧ Stp w w' := by
  have h0 := Stp.refl w
  cases hz : ns.length with
  | zero =>
    obtain rfl := List.eq_nil_of_length_eq_zero hz
    go_enter Try.func72, Try.ntmps72
    go_wp2_with fail
    go_ret
    exact ⟨rfl, h0⟩
  | succ j =>
    obtain ⟨m, hm⟩ : ∃ n, ns[j]? = some n := ⟨_, List.getElem?_eq_getElem (by omega)⟩
    obtain ⟨b, o, rfl, hb, q0, q1, q2, q3, q4, q5, q6, q7⟩ := ha.cells hm
    have hc := ha.1
    rw [rise_last hz hm]
    rw [hz] at hl hc
    clear hm hz ha
    obtain ⟨le, hle⟩ : ∃ x, (Op.bytesLess p m.path || p == m.path) = x := ⟨_, rfl⟩
    rw [hle]
    cases le
    all_goals
      go_enter Try.func72, Try.ntmps72
      go_wp2_with fail
      go_ret
      exact ⟨rfl, h0⟩

set_option maxRecDepth 100000 in
set_option maxHeartbeats 1000000 in
theorem ahead_s (ns : List Nd) (p : L) (kd : UInt8) (kk : Int) (hkk : kk = (kd.toNat : Int)) (g : Nat) (A : Option Addr) (c : Nat) (w : World) (hg : w.cell? ⟨g, 0, none⟩ = some (.slice A ns.length c)) (hgl : g < w.heap.size) (ha : RdN w A c ns) (hl : ns.length ≤ 1000) :
    Calls Try.prog 73 #[.string ⟨p.toArray⟩, .int .u8 kk, .pointer (some ⟨g, 0, none⟩)] w fun e w' => e = .returned (.bool (hasB ns p kd)) ∧ Stp w w' := by
  subst hkk
  have h0 := Stp.refl w
  cases hf : findN p ns with
  | none =>
    have Hv := Lib.hid (show findV ns p = -1 by rw [findV, hf])
    rw [show hasB ns p kd = false by rw [hasB, hf]]
    clear hf
    go_enter Try.func73, Try.ntmps73
    go_wp2_with (go_at_call 29; refine (tfind_s ns p A c _ ha hl).mono ?_; rintro e w' ⟨rfl, hs⟩; rw [Hv.out]; replace h0 := Stp.trans h0 hs; clear hs)
    go_ret
    exact ⟨rfl, h0⟩
  | some i =>
    obtain ⟨n, hn, _⟩ := findN_lt hf
    have hi := findN_bound hf
    have Hv := Lib.hid (show findV ns p = (i : Int) by rw [findV, hf])
    rw [show hasB ns p kd = decide (n.kind = kd) by rw [hasB, hf]; simp [hn]]
    have hg0 : decide ((0 : Int) ≤ (i : Int)) = true := decide_eq_true (by omega)
    have hc := ha.1
    have gk : ((n.kind.toNat : Int) == (kd.toNat : Int)) = decide (n.kind = kd) := by
      rw [Bool.eq_iff_iff, beq_iff_eq, decide_eq_true_eq]
      exact ⟨fun h => UInt8.toNat_inj.1 (by omega), fun h => by rw [h]⟩
    have Hn := Lib.hid hn
    have Hg := Lib.hid hg
    have Ha := Lib.hid ha
    clear hf hn ha
    go_enter Try.func73, Try.ntmps73
    go_wp2_with (go_at_call 29; refine (tfind_s ns p A c _ Ha.out hl).mono ?_; rintro e w' ⟨rfl, hs⟩; rw [Hv.out]; have hg2 := (hs.cell (p := ⟨g, 0, none⟩) hgl).trans Hg.out; obtain ⟨b, o, rfl, hb, -, -, q2, -⟩ := (Ha.out.keep hs).cells Hn.out; replace h0 := Stp.trans h0 hs; clear hs hg)
    go_ret
    exact ⟨rfl, h0⟩

set_option maxRecDepth 100000 in
set_option maxHeartbeats 2000000 in
theorem follow_s (ns : List Nd) (n : Nd) (A : Option Addr) (c : Nat) (w : World) (ha : RdN w A c ns) (hl : ns.length ≤ 1000) (hn : SmallN n) :
    Calls Try.prog 48 #[.slice A ns.length c, nv n] w fun e w' => e = .returned (.bool (stepB ns n)) ∧ Stp w w' := by
  have h0 := Stp.refl w
  have hmf : ∀ (fn : Fn) (first cap : Array Value) (w : World), (Instr.makeFunc fn first cap).run Try.prog w = .ok (.func fn first cap) w := fun _ _ _ _ => rfl
  have Hs := Lib.hid (Blk.alloc (Blk.new w 22 #[.slice A ns.length c]) (.cells (ncells n) 26))
  have hb1 := Blk.new (w.alloc (.cells #[.slice A ns.length c] 22)) 26 (ncells n)
  rw [World.size_alloc] at hb1
  have Hb := Lib.hid hb1
  have H := Lib.hid (Stp.alloc (Stp.alloc h0 (.cells #[.slice A ns.length c] 22)) (.cells (ncells n) 26))
  have Ha := Lib.hid (ha.keep H.out)
  clear hb1
  obtain ⟨q0, q1, q2, q3, q4, q5, q6, q7⟩ := nd_cells Hb.out
  have s0 := blk_first Hs.out
  have Hn := Lib.hid hn
  obtain ⟨on, h1⟩ : ∃ x, oneB n = x := ⟨_, rfl⟩
  obtain ⟨ri, h2⟩ : ∃ x, riseV ns n.path = x := ⟨_, rfl⟩
  obtain ⟨pb, p1⟩ : ∃ x, PathM.parB n.path = x := ⟨_, rfl⟩
  obtain ⟨pv, p0⟩ : ∃ x, PathM.parV n.path = x := ⟨_, rfl⟩
  obtain ⟨hd, p2⟩ : ∃ x, hasB ns pv 53 = x := ⟨_, rfl⟩
  obtain ⟨kd, p3⟩ : ∃ x, decide (n.kind = 49) = x := ⟨_, rfl⟩
  obtain ⟨hf, p4⟩ : ∃ x, hasB ns n.link 48 = x := ⟨_, rfl⟩
  have g49 : ((n.kind.toNat : Int) != 49) = !kd := by
    rw [← p3]
    by_cases h : n.kind = 49
    · rw [h]; rfl
    · rw [decide_eq_false h]
      have : ¬ (n.kind.toNat : Int) = 49 := fun h2 => h (UInt8.toNat_inj.1 (by show n.kind.toNat = 49; omega))
      simp [this]
  rw [step_of, h1, h2, p1, p0, p2, p3, p4]
  have F1 := Lib.hid h1
  have F2 := Lib.hid h2
  have P0 := Lib.hid p0
  have P1 := Lib.hid p1
  have P2 := Lib.hid p2
  have P4 := Lib.hid p4
  clear h1 h2 p0 p1 p2 p3 p4 ha hn
  go_enter Try.func48, Try.ntmps48
  go_wp2_with (first
    | (go_at_call 25; (with_reducible refine (tone_s n Hn.out _).mono ?_); rintro e w1 ⟨rfl, hs⟩; rw [F1.out]; (replace Hs := Lib.hid (Hs.out.keep hs Hs.out.lt)); (replace Hb := Lib.hid (Hb.out.keep hs Hb.out.lt)); (replace H := Lib.hid (Stp.trans H.out hs)); (replace Ha := Lib.hid (Ha.out.keep hs)); clear hs q0 q1 q2 q3 q4 q5 q6 q7 s0; obtain ⟨q0, q1, q2, q3, q4, q5, q6, q7⟩ := nd_cells Hb.out; have s0 := blk_first Hs.out; rcases on)
    | (go_at_call 72; (with_reducible refine (rises_s ns n.path A c _ Ha.out (by omega)).mono ?_); rintro e w1 ⟨rfl, hs⟩; rw [F2.out]; (replace Hs := Lib.hid (Hs.out.keep hs Hs.out.lt)); (replace Hb := Lib.hid (Hb.out.keep hs Hb.out.lt)); (replace H := Lib.hid (Stp.trans H.out hs)); (replace Ha := Lib.hid (Ha.out.keep hs)); clear hs q0 q1 q2 q3 q4 q5 q6 q7 s0; obtain ⟨q0, q1, q2, q3, q4, q5, q6, q7⟩ := nd_cells Hb.out; have s0 := blk_first Hs.out; rcases ri)
    | (go_at_call 24; (with_reducible refine (Path.parent_s n.path _ Hn.out.path).mono ?_); rintro e w1 ⟨rfl, hs⟩; rw [P0.out, P1.out]; (replace Hs := Lib.hid (Hs.out.keep hs Hs.out.lt)); (replace Hb := Lib.hid (Hb.out.keep hs Hb.out.lt)); (replace H := Lib.hid (Stp.trans H.out hs)); (replace Ha := Lib.hid (Ha.out.keep hs)); clear hs q0 q1 q2 q3 q4 q5 q6 q7 s0; obtain ⟨q0, q1, q2, q3, q4, q5, q6, q7⟩ := nd_cells Hb.out; have s0 := blk_first Hs.out; rcases pb)
    | (go_at_call 73; (with_reducible refine (ahead_s ns pv 53 53 rfl w.heap.size A c _ s0 Hs.out.lt Ha.out hl).mono ?_); rintro e w1 ⟨rfl, hs⟩; rw [P2.out]; (replace Hs := Lib.hid (Hs.out.keep hs Hs.out.lt)); (replace Hb := Lib.hid (Hb.out.keep hs Hb.out.lt)); (replace H := Lib.hid (Stp.trans H.out hs)); (replace Ha := Lib.hid (Ha.out.keep hs)); clear hs q0 q1 q2 q3 q4 q5 q6 q7 s0; obtain ⟨q0, q1, q2, q3, q4, q5, q6, q7⟩ := nd_cells Hb.out; have s0 := blk_first Hs.out; rcases hd)
    | (go_at_call 73; (with_reducible refine (ahead_s ns n.link 48 48 rfl w.heap.size A c _ s0 Hs.out.lt Ha.out hl).mono ?_); rintro e w1 ⟨rfl, hs⟩; rw [P4.out]; (replace Hs := Lib.hid (Hs.out.keep hs Hs.out.lt)); (replace Hb := Lib.hid (Hb.out.keep hs Hb.out.lt)); (replace H := Lib.hid (Stp.trans H.out hs)); (replace Ha := Lib.hid (Ha.out.keep hs)); clear hs q0 q1 q2 q3 q4 q5 q6 q7 s0; obtain ⟨q0, q1, q2, q3, q4, q5, q6, q7⟩ := nd_cells Hb.out; have s0 := blk_first Hs.out))
  all_goals first | go_ret | skip
  all_goals first | exact ⟨rfl, H.out⟩ | (refine ⟨congrArg (fun b => Ending.returned (.bool b)) ?_, H.out⟩; clear q0 q1 q2 q3 q4 q5 q6 q7 s0 Hs Hb H Ha; simp [*]; done)

theorem follow_n (ns : List Nd) (m : Nat) (hm : ns.length = m) (n : Nd) (A : Option Addr) (c : Nat) (w : World) (ha : RdN w A c ns) (hl : ns.length ≤ 1000) (hn : SmallN n) :
    Calls Try.prog 48 #[.slice A m c, nv n] w fun e w' => e = .returned (.bool (stepB ns n)) ∧ Stp w w' := by
  subst hm
  exact follow_s ns n A c w ha hl hn
set_option maxRecDepth 100000 in
set_option maxHeartbeats 2000000 in
theorem tmay_s (ns : List Nd) (A : Option Addr) (c : Nat) (w : World) (ha : RdN w A c ns) (hl : ns.length ≤ 1000) (hs : ∀ n ∈ ns, SmallN n) :
    Calls Try.prog 27 #[.slice A ns.length c] w fun e w' => e = .returned (.bool (mayT ns)) ∧ Stp w w' := by
  have h0 := Stp.refl w
  by_cases h20 : ns.length ≤ 20
  · have g20 : decide ((20 : Int) < (ns.length : Int)) = false := decide_eq_false (by omega)
    obtain ⟨R, hR⟩ : ∃ R, mayT ns = R := ⟨_, rfl⟩
    have HR := Lib.hid hR
    rw [hR]
    have Hs := Lib.hid hs
    have Ha := Lib.hid ha
    clear hR hs ha
    go_enter Try.func27, Try.ntmps27
    go_wp2_with fail
    go_loopw [3, 4, 10] (fun _ _ i wr => ∃ k : Nat, k ≤ ns.length ∧ i = .int .i64 k ∧ Hid (Stp w wr) ∧ Hid (∀ (j : Nat) (m : Nd), j < k → ns[j]? = some m → stepB (ns.take j) m = true)) (fun _ _ i _ => ns.length - (intOf i).toNat)
    case atStart => exact ⟨0, by omega, rfl, Lib.hid (Stp.refl w), Lib.hid (fun j m hj => by omega)⟩
    case round =>
      obtain ⟨k, hk, rfl, H1, Hy⟩ := hrel
      by_cases hlt : k < ns.length
      · obtain ⟨n, hn⟩ : ∃ n, ns[k]? = some n := ⟨_, List.getElem?_eq_getElem hlt⟩
        obtain ⟨b, o, rfl, -, q0, q1, q2, q3, q4, q5, q6, q7⟩ := (Ha.out.keep H1.out).cells hn
        have hc := Ha.out.1
        have Hk := Lib.hid hn
        have Hsn := Lib.hid (Hs.out n (List.mem_of_getElem? hn))
        have hsl := nslice_h b o ns.length c k (by omega)
        have htk : (ns.take k).length = k := by rw [List.length_take]; omega
        have Htk := Lib.hid htk
        have Hal := Lib.hid (Stp.alloc H1.out (.cells (ncells n) 26))
        have Hb0 := Lib.hid (Blk.new wr 26 (ncells n))
        obtain ⟨on, h1⟩ : ∃ x, stepB (ns.take k) n = x := ⟨_, rfl⟩
        have F1 := Lib.hid h1
        clear hn h1 htk
        go_wp2_with fail
        obtain ⟨q0, q1, q2, q3, q4, q5, q6, q7⟩ := nd_cells Hb0.out
        go_region_with (go_at_call 48; refine (follow_n (ns.take k) k Htk.out n _ c _ ((Ha.out.keep (Stp.drewN Hal.out 1)).take k) (by have := Htk.out; omega) Hsn.out).mono ?_; rintro e w1 ⟨rfl, hs⟩; rw [F1.out]; have H2 := Lib.hid (Stp.trans (Stp.drewN Hal.out 1) hs); clear hs)
        rcases on
        · go_wp2_with fail
          go_ret
          refine ⟨congrArg (fun b => Ending.returned (.bool b)) ?_, H2.out⟩
          rw [← HR.out, mayT_no Hk.out F1.out]
        · go_wp2_with fail
          go_roundw
          case rel => exact ⟨k + 1, by omega, by go_num, H2, Lib.hid (yes_step Hk.out F1.out Hy.out)⟩
          case measure => simp [intOf]; omega
      · obtain rfl : k = ns.length := by omega
        have hy := mayT_yes h20 Hy.out
        rw [HR.out] at hy
        subst hy
        go_wp2_with fail
        go_ret
        exact ⟨rfl, H1.out⟩
  · have g : decide ((20 : Int) < (ns.length : Int)) = true := decide_eq_true (by omega)
    rw [mayT_long h20]
    clear h20
    go_enter Try.func27, Try.ntmps27
    go_wp2_with fail
    go_ret
    exact ⟨rfl, h0⟩
end Go.Proofs.Ytjddgmdbgajjpaa.Tree

namespace Go.Proofs.Ytjddgmdbgajjpaa.Tree
open Go.RowKit Go.Proofs.Ytjddgmdbgajjpaa.Base Go.Proofs.Ytjddgmdbgajjpaa.Node Go.Proofs.Ytjddgmdbgajjpaa.Long

def fewT (ns : List Nd) : Bool := decide (ns.length ≤ 30) && ns.all fewN
theorem fewT_iff {ns : List Nd} : fewT ns = true ↔ ns.length ≤ 30 ∧ ∀ n ∈ ns, fewN n = true := by simp [fewT]
theorem fewT_no {ns : List Nd} {k : Nat} {n : Nd} (hk : ns[k]? = some n) (h : fewN n = false) : fewT ns = false := by
  rw [Bool.eq_false_iff]
  intro hf
  rw [(fewT_iff.1 hf).2 n (List.mem_of_getElem? hk)] at h
  cases h
theorem all_next {ns : List Nd} {k : Nat} {n : Nd} (hk : ns[k]? = some n) (hn : fewN n = true) (h : ∀ (j : Nat) (m : Nd), j < k → ns[j]? = some m → fewN m = true) : ∀ (j : Nat) (m : Nd), j < k + 1 → ns[j]? = some m → fewN m = true := by
  intro j m hj hm
  by_cases e : j = k
  · subst e
    rw [hk] at hm
    cases hm
    exact hn
  · exact h j m (by omega) hm
set_option maxRecDepth 100000 in
set_option maxHeartbeats 2000000 in
theorem fewt_s (ns : List Nd) (A : Option Addr) (c : Nat) (w : World) (ha : RdN w A c ns) (hl : ns.length < 9223372036854775808) :
    Calls Try.prog 10 #[.slice A ns.length c] w fun e w' => e = .returned (.bool (fewT ns)) ∧ Stp w w' := by
  obtain ⟨R, hR⟩ : ∃ R, fewT ns = R := ⟨_, rfl⟩
  have HR := Lib.hid hR
  rw [hR]
  have Ha := Lib.hid ha
  clear hR ha
  go_enter Try.func10, Try.ntmps10
  go_wp2_with fail
  go_loopw [3] (fun i wr => ∃ k : Nat, k ≤ ns.length ∧ k ≤ 31 ∧ i = .int .i64 k ∧ Hid (Stp w wr) ∧ Hid (∀ (j : Nat) (m : Nd), j < k → ns[j]? = some m → fewN m = true)) (fun i _ => ns.length - (intOf i).toNat)
  case atStart => exact ⟨0, by omega, by omega, rfl, Lib.hid (Stp.refl w), Lib.hid (fun j m hj => by omega)⟩
  case round =>
    obtain ⟨k, hk, hk31, rfl, H1, Hy⟩ := hrel
    by_cases hlt : k < ns.length
    · by_cases h30 : k ≤ 30
      · obtain ⟨n, hn⟩ : ∃ n, ns[k]? = some n := ⟨_, List.getElem?_eq_getElem hlt⟩
        obtain ⟨b, o, rfl, -, q0, q1, q2, q3, q4, q5, q6, q7⟩ := (Ha.out.keep H1.out).cells hn
        have hc := Ha.out.1
        have Hk := Lib.hid hn
        obtain ⟨f, hf⟩ : ∃ f, fewN n = f := ⟨_, rfl⟩
        have Hf := Lib.hid hf
        have gl : decide ((k : Int) < (ns.length : Int)) = true := decide_eq_true (by omega)
        have g30 : decide ((k : Int) ≤ 30) = true := decide_eq_true (by omega)
        clear hn hf
        go_wp2_with (go_at_call 11; refine (few_s n _).mono ?_; rintro e w2 ⟨rfl, hs2⟩; rw [Hf.out]; have H2 := Lib.hid (Stp.trans H1.out hs2); clear hs2; rcases f)
        · go_ret
          refine ⟨congrArg (fun b => Ending.returned (.bool b)) ?_, H2.out⟩
          rw [← HR.out, fewT_no Hk.out Hf.out]
        · go_roundw
          case rel => exact ⟨k + 1, by omega, by omega, by go_num, H2, Lib.hid (all_next Hk.out Hf.out Hy.out)⟩
          case measure => simp [intOf]; omega
      · have gl : decide ((k : Int) < (ns.length : Int)) = true := decide_eq_true (by omega)
        have g30 : decide ((k : Int) ≤ 30) = false := decide_eq_false (by omega)
        have gn : decide ((ns.length : Int) ≤ 30) = false := decide_eq_false (by omega)
        have hno : fewT ns = false := by
          rw [Bool.eq_false_iff]
          intro h
          have := (fewT_iff.1 h).1
          omega
        rw [HR.out] at hno
        subst hno
        clear h30
        go_wp2_with fail
        go_ret
        exact ⟨rfl, H1.out⟩
    · obtain rfl : k = ns.length := by omega
      have hfin : fewT ns = decide (ns.length ≤ 30) := by
        have hall : ns.all fewN = true := List.all_eq_true.2 fun n hn => by
          obtain ⟨j, hj⟩ := List.getElem?_of_mem hn
          exact Hy.out j n (List.getElem?_eq_some_iff.1 hj).1 hj
        unfold fewT
        rw [hall]
        simp
      have Hfin := Lib.hid hfin
      clear hfin
      go_wp2_with fail
      all_goals go_ret
      all_goals refine ⟨congrArg (fun b => Ending.returned (.bool b)) ?_, H1.out⟩
      all_goals rw [← HR.out, Hfin.out, Bool.eq_iff_iff]
      all_goals simp only [decide_eq_true_eq]
      all_goals omega

def nodeA : Nd := ⟨[97], [], 53, 493, 0, 0, 0, []⟩
def nodeB : Nd := ⟨[97, 47, 98], [], 48, 420, 0, 0, 7, [104, 101, 108, 108, 111]⟩
set_option maxRecDepth 100000 in
theorem two_s (w : World) : Calls Try.prog 30 #[] w fun e w' => ∃ g, e = .returned (.slice (some ⟨g, 0, none⟩) 2 2) ∧ RdN w' (some ⟨g, 0, none⟩) 2 [nodeA, nodeB] ∧ Stp w w' := by
  have h0 := Stp.refl w
  go_enter Try.func30, Try.ntmps30
  go_wp2_with fail
  go_ret
  refine ⟨w.heap.size, rfl, ⟨by simp, fun _ => ⟨w.heap.size, 0, rfl, by simp, fun q u hq => ?_⟩⟩, Stp.alloc h0 _⟩
  rw [Nat.zero_add, World.cell?_alloc_new]
  have e : (ntc [nodeA, nodeB])[q]? = (ntc [nodeA, nodeB]).toArray[q]? := by simp
  rw [e] at hq
  exact hq
theorem ex_facts : mayT [nodeA, nodeB] = true ∧ oneB nodeA = true ∧ findV [nodeA, nodeB] [97, 47, 98] = 1 ∧ (underV [nodeA, nodeB] [97]).length = 1 ∧ mayT [nodeB] = false := by decide +kernel
end Go.Proofs.Ytjddgmdbgajjpaa.Tree

