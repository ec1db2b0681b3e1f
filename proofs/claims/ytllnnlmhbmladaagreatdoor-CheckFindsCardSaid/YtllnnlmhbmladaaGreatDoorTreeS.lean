/-
  Contracts of package tree: the rules by kinds, as the map that the code makes: no statement is proved here. Contracts of package tree: each rule, the bounds, One: no statement is proved here. Contracts of package tree: One: no statement is proved here.
  Contracts of package tree: Find, Same, Under: no statement is proved here. Contracts of package tree: what may follow, and May: no statement is proved here. Contracts of what the laws of package tree share: few nodes, the two nodes, the chapter's example: no statement is proved here.
-/
import Derived.Test.YtllnnlmhbmladaaGreatDoorTreeOne
import Derived.Test.YtllnnlmhbmladaaGreatDoorPathK
import Derived.MapKept
import Derived.Deep.RegionWith
import Derived.Test.YtllnnlmhbmladaaGreatDoorStreamM
import Derived.Test.YtllnnlmhbmladaaGreatDoorLongTx
namespace Go.Proofs.YtllnnlmhbmladaaGreatDoor.Tree
open Go.RowKit Go.Proofs.YtllnnlmhbmladaaGreatDoor.Base Go.Proofs.YtllnnlmhbmladaaGreatDoor.Node Go.Proofs.YtllnnlmhbmladaaGreatDoor.Long

abbrev fnv (i : Nat) : Value := .func (.func i) #[] #[]
/-- A map's entries: kinds and functions, as they were laid in. -/
abbrev ent (k : Int) (f : Value) (b : Nat) : MapEntry := { key := .int .u8 k, val := f, born := b }
theorem map_type : Tryz.prog.underlying 163 = some (.map 5 53) := by kernel_rfl
theorem check_key (w : World) (b : Bool) (k : Int) : (Instr.checkKey b 10000 5 (.int .u8 k)).run Tryz.prog w = .ok () w :=
  MapKept.run_checkKey Tryz.underlying5 (by simp [MapKept.IsKey]) b 9999
theorem find_key (w : World) (k : Int) (es : List MapEntry) (r : Option (Nat × Value)) (h : Instr.findNow (.int .u8) (.int .u8 k) es 0 = some r) :
    (Instr.findKey 5 (.int .u8 k) es).run Tryz.prog w = .ok r w := by
  unfold Instr.findKey
  simp [run_underlying Tryz.underlying5, h, Result.andThen]
theorem heap_new (w : World) (o : Obj) : (w.alloc o).heap[w.heap.size]? = some o := by
  show (w.heap.push o)[w.heap.size]? = some o
  simp
theorem heap_set (w : World) (o o' : Obj) : ({ w.alloc o with heap := (w.alloc o).heap.setIfInBounds w.heap.size o' } : World) = w.alloc o' := by
  show ({ w with heap := (w.heap.push o).setIfInBounds w.heap.size o' } : World) = { w with heap := w.heap.push o' }
  congr 1
  apply Array.ext
  · simp
  · intro i h1 h2
    by_cases h : i = w.heap.size
    · subst h
      simp
    · rw [Array.getElem_setIfInBounds_ne (hj := by simpa using h2) (h := fun e => h e.symm)]
      simp only [Array.size_setIfInBounds, Array.size_push] at h1
      rw [Array.getElem_push_lt (by omega), Array.getElem_push_lt (by omega)]
theorem map_put (w : World) (es : Array MapEntry) (c : Nat) (k : Int) (f : Value) (hno : Instr.findNow (.int .u8) (.int .u8 k) es.toList 0 = some none) :
    (Instr.mapUpdate 163 (.map (some w.heap.size)) (.int .u8 k) f).run Tryz.prog (w.alloc (.map es c)) = .ok () (w.alloc (.map (es.push (ent k f c)) (c + 1))) := by
  have hb : (w.alloc (.map es c)).heap[w.heap.size]? = some (.map es c) := heap_new _ _
  simp [Instr.mapUpdate, run_underlying map_type, MapKept.run_getObj_map hb, check_key, find_key _ _ _ _ hno, MapKept.run_setObj_map _ hb, Result.andThen]
  exact heap_set _ _ _
theorem map_get {w : World} {g : Nat} {es : Array MapEntry} {c : Nat} (hb : w.heap[g]? = some (.map es c)) (k : Int) (i : Nat) (f : Value) (h : Instr.findNow (.int .u8) (.int .u8 k) es.toList 0 = some (some (i, f))) :
    (Instr.lookup 163 (.map (some g)) (.int .u8 k) true).run Tryz.prog w = .ok (.tuple #[f, .bool true]) w := by
  simp [Instr.lookup, run_underlying map_type, MapKept.run_getObj_map hb, check_key, find_key _ _ _ _ h, Result.andThen]
theorem map_none {w : World} {g : Nat} {es : Array MapEntry} {c : Nat} (hb : w.heap[g]? = some (.map es c)) (k : Int) (h : Instr.findNow (.int .u8) (.int .u8 k) es.toList 0 = some none) :
    (Instr.lookup 163 (.map (some g)) (.int .u8 k) true).run Tryz.prog w = .ok (.tuple #[.nilFunc, .bool false]) w := by
  simp [Instr.lookup, run_underlying map_type, MapKept.run_getObj_map hb, check_key, find_key _ _ _ _ h, Result.andThen]

abbrev kinds : Array MapEntry := #[ent 48 (fnv 131) 0, ent 49 (fnv 132) 1, ent 50 (fnv 133) 2, ent 53 (fnv 134) 3]
set_option maxRecDepth 100000 in
theorem rules_s (w : World) : Calls Tryz.prog 108 #[] w fun e w' => ∃ g, e = .returned (.map (some g)) ∧ w'.heap[g]? = some (.map kinds 4) ∧ Stp w w' := by
  have h0 := Stp.refl w
  have hmm := @run_makeMap Tryz.prog
  have e1 := map_put w #[] 0 48 (fnv 131) rfl
  have e2 := map_put w #[ent 48 (fnv 131) 0] 1 49 (fnv 132) rfl
  have e3 := map_put w #[ent 48 (fnv 131) 0, ent 49 (fnv 132) 1] 2 50 (fnv 133) rfl
  have e4 := map_put w #[ent 48 (fnv 131) 0, ent 49 (fnv 132) 1, ent 50 (fnv 133) 2] 3 53 (fnv 134) rfl
  simp only [List.push_toArray, List.cons_append, List.nil_append] at e1 e2 e3 e4
  go_enter Tryz.func108, Tryz.ntmps108
  go_wp2_with fail
  go_ret
  exact ⟨w.heap.size, rfl, heap_new _ _, Stp.alloc h0 _⟩
end Go.Proofs.YtllnnlmhbmladaaGreatDoor.Tree

namespace Go.Proofs.YtllnnlmhbmladaaGreatDoor.Tree
open Go.RowKit Go.Proofs.YtllnnlmhbmladaaGreatDoor.Base Go.Proofs.YtllnnlmhbmladaaGreatDoor.Node Go.Proofs.YtllnnlmhbmladaaGreatDoor.Long

def bareB (n : Nd) : Bool := decide (n = ⟨n.path, n.link, n.kind, 0, 0, 0, 0, []⟩)
theorem bareB_is (n : Nd) : bareB n = ((n.data == []) && (decide (n.mode = 0) && (decide (n.uid = 0) && (decide (n.gid = 0) && decide (n.time = 0))))) := by
  rw [Bool.eq_iff_iff]
  unfold bareB
  rw [decide_eq_true_eq, Nd.ext_iff']
  simp
  constructor
  · rintro ⟨h1, h2, h3, h4, h5⟩
    exact ⟨h5, h1, h2, h3, h4⟩
  · rintro ⟨h5, h1, h2, h3, h4⟩
    exact ⟨h1, h2, h3, h4, h5⟩

set_option maxRecDepth 100000 in
theorem rule1_s (n : Nd) (w : World) : Calls Tryz.prog 131 #[nv n] w fun e w' => e = .returned (.bool ((n.link == []) && decide ((n.data.length : Int) ≤ 4000))) ∧ Stp w w' := by
  have h0 := Stp.refl w
  obtain ⟨q0, q1, q2, q3, q4, q5, q6, q7⟩ := nd_cells (Blk.new w 23 (ncells n))
  go_enter Tryz.func131, Tryz.ntmps131
  go_wp2_with fail
  all_goals go_ret
  all_goals refine ⟨congrArg (fun b => Ending.returned (.bool b)) ?_, Stp.alloc h0 _⟩
  all_goals simp [*]
set_option maxRecDepth 100000 in
theorem rule2_s (n : Nd) (hn : SmallN n) (w : World) : Calls Tryz.prog 132 #[nv n] w fun e w' => e = .returned (.bool (PathM.mayB n.link && bareB n)) ∧ Stp w w' := by
  have h0 := Stp.refl w
  have Hb0 := Lib.hid (Blk.new w 23 (ncells n))
  have H0 := Lib.hid (Stp.alloc h0 (.cells (ncells n) 23))
  obtain ⟨q0, q1, q2, q3, q4, q5, q6, q7⟩ := nd_cells Hb0.out
  have Hn := Lib.hid hn
  obtain ⟨m2, h2⟩ : ∃ m, PathM.mayB n.link = m := ⟨_, rfl⟩
  have F2 := Lib.hid h2
  rw [h2]
  clear h2 hn
  go_enter Tryz.func132, Tryz.ntmps132
  go_wp2_with (first
    | (go_at_call 109; refine (Path.may_s n.link _ Hn.out.link).mono ?_; rintro e w1 ⟨rfl, hs⟩; rw [F2.out]; have Hb := Lib.hid (Hb0.out.keep hs Hb0.out.lt); have H := Lib.hid (Stp.trans H0.out hs); clear hs q0 q1 q2 q3 q4 q5 q6 q7; obtain ⟨q0, q1, q2, q3, q4, q5, q6, q7⟩ := nd_cells Hb.out; rcases m2))
  all_goals go_ret
  all_goals refine ⟨congrArg (fun b => Ending.returned (.bool b)) ?_, H.out⟩
  all_goals first | rfl | (rw [bareB_is]; simp [*])
set_option maxRecDepth 100000 in
theorem rule3_s (n : Nd) (hn : SmallN n) (w : World) : Calls Tryz.prog 133 #[nv n] w fun e w' => e = .returned (.bool (textL n.link && (n.data == []))) ∧ Stp w w' := by
  have h0 := Stp.refl w
  have Hb0 := Lib.hid (Blk.new w 23 (ncells n))
  have H0 := Lib.hid (Stp.alloc h0 (.cells (ncells n) 23))
  obtain ⟨q0, q1, q2, q3, q4, q5, q6, q7⟩ := nd_cells Hb0.out
  have Hn := Lib.hid hn
  obtain ⟨m2, h2⟩ : ∃ m, textL n.link = m := ⟨_, rfl⟩
  have F2 := Lib.hid h2
  rw [h2]
  clear h2 hn
  go_enter Tryz.func133, Tryz.ntmps133
  go_wp2_with (first
    | (go_at_call 76; refine (text_s n.link _).mono ?_; rintro e w1 ⟨rfl, hs⟩; rw [F2.out]; have Hb := Lib.hid (Hb0.out.keep hs Hb0.out.lt); have H := Lib.hid (Stp.trans H0.out hs); clear hs q0 q1 q2 q3 q4 q5 q6 q7; obtain ⟨q0, q1, q2, q3, q4, q5, q6, q7⟩ := nd_cells Hb.out; rcases m2))
  all_goals go_ret
  all_goals refine ⟨congrArg (fun b => Ending.returned (.bool b)) ?_, H.out⟩
  all_goals first | rfl | (simp [*])
set_option maxRecDepth 100000 in
theorem rule4_s (n : Nd) (w : World) : Calls Tryz.prog 134 #[nv n] w fun e w' => e = .returned (.bool ((n.link == []) && (n.data == []))) ∧ Stp w w' := by
  have h0 := Stp.refl w
  obtain ⟨q0, q1, q2, q3, q4, q5, q6, q7⟩ := nd_cells (Blk.new w 23 (ncells n))
  go_enter Tryz.func134, Tryz.ntmps134
  go_wp2_with fail
  all_goals go_ret
  all_goals refine ⟨congrArg (fun b => Ending.returned (.bool b)) ?_, Stp.alloc h0 _⟩
  all_goals simp [*]

set_option maxRecDepth 100000 in
theorem within_s (x most : Int) (w : World) : Calls Tryz.prog 138 #[.int .i64 x, .int .i64 most] w fun e w' => e = .returned (.bool (decide (0 ≤ x ∧ x ≤ most))) ∧ Stp w w' := by
  have h0 := Stp.refl w
  go_enter Tryz.func138, Tryz.ntmps138
  go_wp2_with fail
  all_goals go_ret
  all_goals refine ⟨congrArg (fun b => Ending.returned (.bool b)) ?_, h0⟩
  all_goals first | (symm; simp; omega; done) | (simp; omega; done)

set_option maxRecDepth 100000 in
theorem bounded_s (n : Nd) (w : World) : Calls Tryz.prog 110 #[nv n] w fun e w' => e = .returned (.bool (numsB n)) ∧ Stp w w' := by
  have h0 := Stp.refl w
  have Hb := Lib.hid (Blk.new w 23 (ncells n))
  have H := Lib.hid (Stp.alloc h0 (.cells (ncells n) 23))
  obtain ⟨q0, q1, q2, q3, q4, q5, q6, q7⟩ := nd_cells Hb.out
  obtain ⟨b1, h1⟩ : ∃ b, decide (0 ≤ n.mode ∧ n.mode ≤ 4095) = b := ⟨_, rfl⟩
  obtain ⟨b2, h2⟩ : ∃ b, decide (0 ≤ n.uid ∧ n.uid ≤ 1099511627776) = b := ⟨_, rfl⟩
  obtain ⟨b3, h3⟩ : ∃ b, decide (0 ≤ n.gid ∧ n.gid ≤ 1099511627776) = b := ⟨_, rfl⟩
  obtain ⟨b4, h4⟩ : ∃ b, decide (0 ≤ n.time ∧ n.time ≤ 1099511627776) = b := ⟨_, rfl⟩
  have F1 := Lib.hid h1
  have F2 := Lib.hid h2
  have F3 := Lib.hid h3
  have F4 := Lib.hid h4
  rw [show numsB n = (b1 && (b2 && (b3 && b4))) from by unfold numsB; rw [h1, h2, h3, h4]]
  clear h1 h2 h3 h4
  go_enter Tryz.func110, Tryz.ntmps110
  go_wp2_with (first
    | (go_at_call 138; (with_reducible refine (within_s n.mode 4095 _).mono ?_); rintro e w1 ⟨rfl, hs⟩; rw [F1.out]; replace Hb := Lib.hid (Hb.out.keep hs Hb.out.lt); replace H := Lib.hid (Stp.trans H.out hs); clear hs q0 q1 q2 q3 q4 q5 q6 q7; obtain ⟨q0, q1, q2, q3, q4, q5, q6, q7⟩ := nd_cells Hb.out; rcases b1)
    | (go_at_call 138; (with_reducible refine (within_s n.uid 1099511627776 _).mono ?_); rintro e w1 ⟨rfl, hs⟩; rw [F2.out]; replace Hb := Lib.hid (Hb.out.keep hs Hb.out.lt); replace H := Lib.hid (Stp.trans H.out hs); clear hs q0 q1 q2 q3 q4 q5 q6 q7; obtain ⟨q0, q1, q2, q3, q4, q5, q6, q7⟩ := nd_cells Hb.out; rcases b2)
    | (go_at_call 138; (with_reducible refine (within_s n.gid 1099511627776 _).mono ?_); rintro e w1 ⟨rfl, hs⟩; rw [F3.out]; replace Hb := Lib.hid (Hb.out.keep hs Hb.out.lt); replace H := Lib.hid (Stp.trans H.out hs); clear hs q0 q1 q2 q3 q4 q5 q6 q7; obtain ⟨q0, q1, q2, q3, q4, q5, q6, q7⟩ := nd_cells Hb.out; rcases b3)
    | (go_at_call 138; (with_reducible refine (within_s n.time 1099511627776 _).mono ?_); rintro e w1 ⟨rfl, hs⟩; rw [F4.out]; replace Hb := Lib.hid (Hb.out.keep hs Hb.out.lt); replace H := Lib.hid (Stp.trans H.out hs); clear hs q0 q1 q2 q3 q4 q5 q6 q7; obtain ⟨q0, q1, q2, q3, q4, q5, q6, q7⟩ := nd_cells Hb.out))
  all_goals go_ret
  all_goals exact ⟨rfl, H.out⟩
end Go.Proofs.YtllnnlmhbmladaaGreatDoor.Tree

namespace Go.Proofs.YtllnnlmhbmladaaGreatDoor.Tree
open Go.RowKit Go.Proofs.YtllnnlmhbmladaaGreatDoor.Base Go.Proofs.YtllnnlmhbmladaaGreatDoor.Node Go.Proofs.YtllnnlmhbmladaaGreatDoor.Long

theorem one_no {n : Nd} (h : n.kind ≠ 48 ∧ n.kind ≠ 49 ∧ n.kind ≠ 50 ∧ n.kind ≠ 53) : oneB n = false := by
  have : kindB n = false := by
    unfold kindB
    rw [if_neg h.1, if_neg h.2.1, if_neg h.2.2.1, if_neg h.2.2.2]
  unfold oneB
  rw [this]
  simp
theorem one_yes {n : Nd} {k : Bool} (h : kindB n = k) : oneB n = (k && (PathM.mayB n.path && numsB n)) := by
  unfold oneB
  rw [h]
  cases k <;> cases PathM.mayB n.path <;> cases numsB n <;> rfl
theorem find_other {k : UInt8} (h : k ≠ 48 ∧ k ≠ 49 ∧ k ≠ 50 ∧ k ≠ 53) : Instr.findNow (.int .u8) (.int .u8 (k.toNat : Int)) kinds.toList 0 = some none := by
  have e : ∀ m : UInt8, k ≠ m → ((k.toNat : Int) == (m.toNat : Int)) = false := fun m hm => beq_eq_false_iff_ne.2 fun h2 => hm (UInt8.toNat_inj.1 (by omega))
  have e1 : ((k.toNat : Int) == 48) = false := e 48 h.1
  have e2 : ((k.toNat : Int) == 49) = false := e 49 h.2.1
  have e3 : ((k.toNat : Int) == 50) = false := e 50 h.2.2.1
  have e4 : ((k.toNat : Int) == 53) = false := e 53 h.2.2.2
  simp [Instr.findNow, Instr.sameNow, e1, e2, e3, e4]
theorem dec_cast (m k : Nat) : decide (m ≤ k) = decide ((m : Int) ≤ (k : Int)) := by
  rw [Bool.eq_iff_iff, decide_eq_true_eq, decide_eq_true_eq]
  omega
theorem kind_48 {n : Nd} (h : n.kind = 48) : kindB n = ((n.link == []) && decide ((n.data.length : Int) ≤ 4000)) := by
  unfold kindB
  rw [if_pos h, dec_cast]
  rfl
theorem kind_49 {n : Nd} (h : n.kind = 49) : kindB n = (PathM.mayB n.link && bareB n) := by
  unfold kindB
  rw [h, if_neg (by decide), if_pos rfl, bareB_is]
theorem kind_50 {n : Nd} (h : n.kind = 50) : kindB n = (textL n.link && (n.data == [])) := by
  unfold kindB
  rw [h, if_neg (by decide), if_neg (by decide), if_pos rfl]
theorem kind_53 {n : Nd} (h : n.kind = 53) : kindB n = ((n.link == []) && (n.data == [])) := by
  unfold kindB
  rw [h, if_neg (by decide), if_neg (by decide), if_neg (by decide), if_pos rfl]
set_option maxRecDepth 100000 in
theorem one_other (n : Nd) (hk : n.kind ≠ 48 ∧ n.kind ≠ 49 ∧ n.kind ≠ 50 ∧ n.kind ≠ 53) (w : World) :
    Calls Tryz.prog 77 #[nv n] w fun e w' => e = .returned (.bool (oneB n)) ∧ Stp w w' := by
  have h0 := Stp.refl w
  have Hb0 := Lib.hid (Blk.new w 23 (ncells n))
  have H0 := Lib.hid (Stp.alloc h0 (.cells (ncells n) 23))
  obtain ⟨q0, q1, q2, q3, q4, q5, q6, q7⟩ := nd_cells Hb0.out
  rw [one_no hk]
  have Hk := Lib.hid hk
  clear hk
  go_enter Tryz.func77, Tryz.ntmps77
  go_wp2_with fail
  go_region_with (go_at_call 108; refine (rules_s _).mono ?_; rintro e w1 ⟨g, rfl, hm, hs⟩; have Hb := Lib.hid (Blk.keep (Blk.drew Hb0.out) hs Hb0.out.lt); have H := Lib.hid (Stp.trans (Stp.drewN H0.out 1) hs); clear hs q0 q1 q2 q3 q4 q5 q6 q7; obtain ⟨q0, q1, q2, q3, q4, q5, q6, q7⟩ := nd_cells Hb.out; have hlk := map_none hm _ (find_other Hk.out))
  all_goals go_wp2_with fail
  all_goals go_ret
  all_goals exact ⟨rfl, H.out⟩
set_option maxRecDepth 100000 in
set_option maxHeartbeats 1000000 in
theorem one_48 (n : Nd) (hn : SmallN n) (hk : n.kind = 48) (w : World) :
    Calls Tryz.prog 77 #[nv n] w fun e w' => e = .returned (.bool (oneB n)) ∧ Stp w w' := by
  have h0 := Stp.refl w
  have Hn := Lib.hid hn
  have Hb0 := Lib.hid (Blk.new w 23 (ncells n))
  have H0 := Lib.hid (Stp.alloc h0 (.cells (ncells n) 23))
  obtain ⟨q0, q1, q2, q3, q4, q5, q6, q7⟩ := nd_cells Hb0.out
  rw [one_yes (kind_48 hk)]
  have Ek := Lib.hid (show (n.kind.toNat : Int) = 48 by rw [hk]; rfl)
  clear hk hn
  obtain ⟨b1, h1⟩ : ∃ b, ((n.link == []) && decide ((n.data.length : Int) ≤ 4000)) = b := ⟨_, rfl⟩
  obtain ⟨b2, h2⟩ : ∃ b, PathM.mayB n.path = b := ⟨_, rfl⟩
  obtain ⟨b3, h3⟩ : ∃ b, numsB n = b := ⟨_, rfl⟩
  have F1 := Lib.hid h1
  have F2 := Lib.hid h2
  have F3 := Lib.hid h3
  rw [h1, h2, h3]
  clear h1 h2 h3
  go_enter Tryz.func77, Tryz.ntmps77
  go_wp2_with fail
  go_region_with (go_at_call 108; refine (rules_s _).mono ?_; rintro e w1 ⟨g, rfl, hm, hs⟩; have Hb := Lib.hid (Blk.keep (Blk.drew Hb0.out) hs Hb0.out.lt); have H := Lib.hid (Stp.trans (Stp.drewN H0.out 1) hs); clear hs q0 q1 q2 q3 q4 q5 q6 q7; obtain ⟨q0, q1, q2, q3, q4, q5, q6, q7⟩ := nd_cells Hb.out; have hlk := map_get hm 48 0 _ rfl; rw [← Ek.out] at hlk)
  all_goals go_wp2_with (first
    | (go_at_call 131; (with_reducible refine (rule1_s n _).mono ?_); rintro e w2 ⟨rfl, hs⟩; rw [F1.out]; replace Hb := Lib.hid (Hb.out.keep hs Hb.out.lt); replace H := Lib.hid (Stp.trans H.out hs); clear hs q0 q1 q2 q3 q4 q5 q6 q7; obtain ⟨q0, q1, q2, q3, q4, q5, q6, q7⟩ := nd_cells Hb.out; rcases b1)
    | (go_at_call 109; (with_reducible refine (Path.may_s n.path _ Hn.out.path).mono ?_); rintro e w3 ⟨rfl, hs⟩; rw [F2.out]; replace Hb := Lib.hid (Hb.out.keep hs Hb.out.lt); replace H := Lib.hid (Stp.trans H.out hs); clear hs q0 q1 q2 q3 q4 q5 q6 q7; obtain ⟨q0, q1, q2, q3, q4, q5, q6, q7⟩ := nd_cells Hb.out; rcases b2)
    | (go_at_call 110; (with_reducible refine (bounded_s n _).mono ?_); rintro e w4 ⟨rfl, hs⟩; rw [F3.out]; replace Hb := Lib.hid (Hb.out.keep hs Hb.out.lt); replace H := Lib.hid (Stp.trans H.out hs); clear hs q0 q1 q2 q3 q4 q5 q6 q7; obtain ⟨q0, q1, q2, q3, q4, q5, q6, q7⟩ := nd_cells Hb.out))
  all_goals go_ret
  all_goals exact ⟨rfl, H.out⟩
set_option maxRecDepth 100000 in
set_option maxHeartbeats 1000000 in
theorem one_49 (n : Nd) (hn : SmallN n) (hk : n.kind = 49) (w : World) :
    Calls Tryz.prog 77 #[nv n] w fun e w' => e = .returned (.bool (oneB n)) ∧ Stp w w' := by
  have h0 := Stp.refl w
  have Hn := Lib.hid hn
  have Hb0 := Lib.hid (Blk.new w 23 (ncells n))
  have H0 := Lib.hid (Stp.alloc h0 (.cells (ncells n) 23))
  obtain ⟨q0, q1, q2, q3, q4, q5, q6, q7⟩ := nd_cells Hb0.out
  rw [one_yes (kind_49 hk)]
  have Ek := Lib.hid (show (n.kind.toNat : Int) = 49 by rw [hk]; rfl)
  clear hk hn
  obtain ⟨b1, h1⟩ : ∃ b, (PathM.mayB n.link && bareB n) = b := ⟨_, rfl⟩
  obtain ⟨b2, h2⟩ : ∃ b, PathM.mayB n.path = b := ⟨_, rfl⟩
  obtain ⟨b3, h3⟩ : ∃ b, numsB n = b := ⟨_, rfl⟩
  have F1 := Lib.hid h1
  have F2 := Lib.hid h2
  have F3 := Lib.hid h3
  rw [h1, h2, h3]
  clear h1 h2 h3
  go_enter Tryz.func77, Tryz.ntmps77
  go_wp2_with fail
  go_region_with (go_at_call 108; refine (rules_s _).mono ?_; rintro e w1 ⟨g, rfl, hm, hs⟩; have Hb := Lib.hid (Blk.keep (Blk.drew Hb0.out) hs Hb0.out.lt); have H := Lib.hid (Stp.trans (Stp.drewN H0.out 1) hs); clear hs q0 q1 q2 q3 q4 q5 q6 q7; obtain ⟨q0, q1, q2, q3, q4, q5, q6, q7⟩ := nd_cells Hb.out; have hlk := map_get hm 49 1 _ rfl; rw [← Ek.out] at hlk)
  all_goals go_wp2_with (first
    | (go_at_call 132; (with_reducible refine (rule2_s n Hn.out _).mono ?_); rintro e w2 ⟨rfl, hs⟩; rw [F1.out]; replace Hb := Lib.hid (Hb.out.keep hs Hb.out.lt); replace H := Lib.hid (Stp.trans H.out hs); clear hs q0 q1 q2 q3 q4 q5 q6 q7; obtain ⟨q0, q1, q2, q3, q4, q5, q6, q7⟩ := nd_cells Hb.out; rcases b1)
    | (go_at_call 109; (with_reducible refine (Path.may_s n.path _ Hn.out.path).mono ?_); rintro e w3 ⟨rfl, hs⟩; rw [F2.out]; replace Hb := Lib.hid (Hb.out.keep hs Hb.out.lt); replace H := Lib.hid (Stp.trans H.out hs); clear hs q0 q1 q2 q3 q4 q5 q6 q7; obtain ⟨q0, q1, q2, q3, q4, q5, q6, q7⟩ := nd_cells Hb.out; rcases b2)
    | (go_at_call 110; (with_reducible refine (bounded_s n _).mono ?_); rintro e w4 ⟨rfl, hs⟩; rw [F3.out]; replace Hb := Lib.hid (Hb.out.keep hs Hb.out.lt); replace H := Lib.hid (Stp.trans H.out hs); clear hs q0 q1 q2 q3 q4 q5 q6 q7; obtain ⟨q0, q1, q2, q3, q4, q5, q6, q7⟩ := nd_cells Hb.out))
  all_goals go_ret
  all_goals exact ⟨rfl, H.out⟩
set_option maxRecDepth 100000 in
set_option maxHeartbeats 1000000 in
theorem one_50 (n : Nd) (hn : SmallN n) (hk : n.kind = 50) (w : World) :
    Calls Tryz.prog 77 #[nv n] w fun e w' => e = .returned (.bool (oneB n)) ∧ Stp w w' := by
  have h0 := Stp.refl w
  have Hn := Lib.hid hn
  have Hb0 := Lib.hid (Blk.new w 23 (ncells n))
  have H0 := Lib.hid (Stp.alloc h0 (.cells (ncells n) 23))
  obtain ⟨q0, q1, q2, q3, q4, q5, q6, q7⟩ := nd_cells Hb0.out
  rw [one_yes (kind_50 hk)]
  have Ek := Lib.hid (show (n.kind.toNat : Int) = 50 by rw [hk]; rfl)
  clear hk hn
  obtain ⟨b1, h1⟩ : ∃ b, (textL n.link && (n.data == [])) = b := ⟨_, rfl⟩
  obtain ⟨b2, h2⟩ : ∃ b, PathM.mayB n.path = b := ⟨_, rfl⟩
  obtain ⟨b3, h3⟩ : ∃ b, numsB n = b := ⟨_, rfl⟩
  have F1 := Lib.hid h1
  have F2 := Lib.hid h2
  have F3 := Lib.hid h3
  rw [h1, h2, h3]
  clear h1 h2 h3
  go_enter Tryz.func77, Tryz.ntmps77
  go_wp2_with fail
  go_region_with (go_at_call 108; refine (rules_s _).mono ?_; rintro e w1 ⟨g, rfl, hm, hs⟩; have Hb := Lib.hid (Blk.keep (Blk.drew Hb0.out) hs Hb0.out.lt); have H := Lib.hid (Stp.trans (Stp.drewN H0.out 1) hs); clear hs q0 q1 q2 q3 q4 q5 q6 q7; obtain ⟨q0, q1, q2, q3, q4, q5, q6, q7⟩ := nd_cells Hb.out; have hlk := map_get hm 50 2 _ rfl; rw [← Ek.out] at hlk)
  all_goals go_wp2_with (first
    | (go_at_call 133; (with_reducible refine (rule3_s n Hn.out _).mono ?_); rintro e w2 ⟨rfl, hs⟩; rw [F1.out]; replace Hb := Lib.hid (Hb.out.keep hs Hb.out.lt); replace H := Lib.hid (Stp.trans H.out hs); clear hs q0 q1 q2 q3 q4 q5 q6 q7; obtain ⟨q0, q1, q2, q3, q4, q5, q6, q7⟩ := nd_cells Hb.out; rcases b1)
    | (go_at_call 109; (with_reducible refine (Path.may_s n.path _ Hn.out.path).mono ?_); rintro e w3 ⟨rfl, hs⟩; rw [F2.out]; replace Hb := Lib.hid (Hb.out.keep hs Hb.out.lt); replace H := Lib.hid (Stp.trans H.out hs); clear hs q0 q1 q2 q3 q4 q5 q6 q7; obtain ⟨q0, q1, q2, q3, q4, q5, q6, q7⟩ := nd_cells Hb.out; rcases b2)
    | (go_at_call 110; (with_reducible refine (bounded_s n _).mono ?_); rintro e w4 ⟨rfl, hs⟩; rw [F3.out]; replace Hb := Lib.hid (Hb.out.keep hs Hb.out.lt); replace H := Lib.hid (Stp.trans H.out hs); clear hs q0 q1 q2 q3 q4 q5 q6 q7; obtain ⟨q0, q1, q2, q3, q4, q5, q6, q7⟩ := nd_cells Hb.out))
  all_goals go_ret
  all_goals exact ⟨rfl, H.out⟩
set_option maxRecDepth 100000 in
set_option maxHeartbeats 1000000 in
theorem one_53 (n : Nd) (hn : SmallN n) (hk : n.kind = 53) (w : World) :
    Calls Tryz.prog 77 #[nv n] w fun e w' => e = .returned (.bool (oneB n)) ∧ Stp w w' := by
  have h0 := Stp.refl w
  have Hn := Lib.hid hn
  have Hb0 := Lib.hid (Blk.new w 23 (ncells n))
  have H0 := Lib.hid (Stp.alloc h0 (.cells (ncells n) 23))
  obtain ⟨q0, q1, q2, q3, q4, q5, q6, q7⟩ := nd_cells Hb0.out
  rw [one_yes (kind_53 hk)]
  have Ek := Lib.hid (show (n.kind.toNat : Int) = 53 by rw [hk]; rfl)
  clear hk hn
  obtain ⟨b1, h1⟩ : ∃ b, ((n.link == []) && (n.data == [])) = b := ⟨_, rfl⟩
  obtain ⟨b2, h2⟩ : ∃ b, PathM.mayB n.path = b := ⟨_, rfl⟩
  obtain ⟨b3, h3⟩ : ∃ b, numsB n = b := ⟨_, rfl⟩
  have F1 := Lib.hid h1
  have F2 := Lib.hid h2
  have F3 := Lib.hid h3
  rw [h1, h2, h3]
  clear h1 h2 h3
  go_enter Tryz.func77, Tryz.ntmps77
  go_wp2_with fail
  go_region_with (go_at_call 108; refine (rules_s _).mono ?_; rintro e w1 ⟨g, rfl, hm, hs⟩; have Hb := Lib.hid (Blk.keep (Blk.drew Hb0.out) hs Hb0.out.lt); have H := Lib.hid (Stp.trans (Stp.drewN H0.out 1) hs); clear hs q0 q1 q2 q3 q4 q5 q6 q7; obtain ⟨q0, q1, q2, q3, q4, q5, q6, q7⟩ := nd_cells Hb.out; have hlk := map_get hm 53 3 _ rfl; rw [← Ek.out] at hlk)
  all_goals go_wp2_with (first
    | (go_at_call 134; (with_reducible refine (rule4_s n _).mono ?_); rintro e w2 ⟨rfl, hs⟩; rw [F1.out]; replace Hb := Lib.hid (Hb.out.keep hs Hb.out.lt); replace H := Lib.hid (Stp.trans H.out hs); clear hs q0 q1 q2 q3 q4 q5 q6 q7; obtain ⟨q0, q1, q2, q3, q4, q5, q6, q7⟩ := nd_cells Hb.out; rcases b1)
    | (go_at_call 109; (with_reducible refine (Path.may_s n.path _ Hn.out.path).mono ?_); rintro e w3 ⟨rfl, hs⟩; rw [F2.out]; replace Hb := Lib.hid (Hb.out.keep hs Hb.out.lt); replace H := Lib.hid (Stp.trans H.out hs); clear hs q0 q1 q2 q3 q4 q5 q6 q7; obtain ⟨q0, q1, q2, q3, q4, q5, q6, q7⟩ := nd_cells Hb.out; rcases b2)
    | (go_at_call 110; (with_reducible refine (bounded_s n _).mono ?_); rintro e w4 ⟨rfl, hs⟩; rw [F3.out]; replace Hb := Lib.hid (Hb.out.keep hs Hb.out.lt); replace H := Lib.hid (Stp.trans H.out hs); clear hs q0 q1 q2 q3 q4 q5 q6 q7; obtain ⟨q0, q1, q2, q3, q4, q5, q6, q7⟩ := nd_cells Hb.out))
  all_goals go_ret
  all_goals exact ⟨rfl, H.out⟩
theorem tone_s (n : Nd) (hn : SmallN n) (w : World) :
    Calls Tryz.prog 77 #[nv n] w fun e w' => e = .returned (.bool (oneB n)) ∧ Stp w w' := by
  by_cases h1 : n.kind = 48
  · exact one_48 n hn h1 w
  · by_cases h2 : n.kind = 49
    · exact one_49 n hn h2 w
    · by_cases h3 : n.kind = 50
      · exact one_50 n hn h3 w
      · by_cases h4 : n.kind = 53
        · exact one_53 n hn h4 w
        · exact one_other n ⟨h1, h2, h3, h4⟩ w
end Go.Proofs.YtllnnlmhbmladaaGreatDoor.Tree

namespace Go.Proofs.YtllnnlmhbmladaaGreatDoor.Tree
open Go.RowKit Go.Proofs.YtllnnlmhbmladaaGreatDoor.Base Go.Proofs.YtllnnlmhbmladaaGreatDoor.Node Go.Proofs.YtllnnlmhbmladaaGreatDoor.Long

set_option maxRecDepth 100000 in
/-- Is a node's path the one that is looked for? -/
theorem find1_s (n : Nd) (p : L) (g : Nat) (w : World) (hp : w.cell? ⟨g, 0, none⟩ = some (.string ⟨p.toArray⟩)) (hg : g < w.heap.size) :
    Calls Tryz.prog 149 #[nv n, .pointer (some ⟨g, 0, none⟩)] w fun e w' => e = .returned (.bool (n.path == p)) ∧ Stp w w' := by
  have h0 := Stp.refl w
  obtain ⟨q0, q1, q2, q3, q4, q5, q6, q7⟩ := nd_cells (Blk.new w 23 (ncells n))
  have hp2 : (w.alloc (.cells (ncells n) 23)).cell? ⟨g, 0, none⟩ = some (.string ⟨p.toArray⟩) := by rw [World.cell?_alloc_old _ _ _ (Nat.ne_of_lt hg)]; exact hp
  clear hp
  obtain ⟨b, hb⟩ : ∃ b, (n.path == p) = b := ⟨_, rfl⟩
  rw [hb]
  cases b
  all_goals
    go_enter Tryz.func149, Tryz.ntmps149
    go_wp2_with fail
    go_ret
    exact ⟨rfl, Stp.alloc h0 _⟩

set_option maxRecDepth 100000 in
set_option maxHeartbeats 2000000 in
theorem index_s (ns : List Nd) (p : L) (g : Nat) (A : Option Addr) (c : Nat) (w : World) (ha : RdN w A c ns) (hl : ns.length < 9223372036854775808) (hp : w.cell? ⟨g, 0, none⟩ = some (.string ⟨p.toArray⟩)) (hg : g < w.heap.size) :
    Calls Tryz.prog 148 #[.slice A ns.length c, .func (.func 149) #[] #[.pointer (some ⟨g, 0, none⟩)]] w fun e w' => e = .returned (.int .i64 (findV ns p)) ∧ Stp w w' := by
  obtain ⟨r, hr⟩ : ∃ r, findV ns p = r := ⟨_, rfl⟩
  have Hr := Lib.hid hr
  rw [hr]
  clear hr
  have Hp := Lib.hid hp
  have Ha := Lib.hid ha
  clear hp ha
  go_enter Tryz.func148, Tryz.ntmps148
  go_wp2_with fail
  go_loopw [5, 8] (fun _ i wr => ∃ k : Nat, k ≤ ns.length ∧ i = .int .i64 k ∧ Hid (Stp w wr) ∧ Hid (∀ (j : Nat) (m : Nd), j < k → ns[j]? = some m → m.path ≠ p)) (fun _ i _ => ns.length - (intOf i).toNat)
  case atStart => exact ⟨0, by omega, rfl, Lib.hid (Stp.refl w), Lib.hid (fun j m hj => by omega)⟩
  case round =>
    obtain ⟨k, hk, rfl, H1, Hn⟩ := hrel
    by_cases hlt : k < ns.length
    · obtain ⟨n, hn⟩ : ∃ n, ns[k]? = some n := ⟨_, List.getElem?_eq_getElem hlt⟩
      obtain ⟨b, o, rfl, hb, q0, q1, q2, q3, q4, q5, q6, q7⟩ := (Ha.out.keep H1.out).cells hn
      have Hk := Lib.hid hn
      have hc := Ha.out.1
      have Hg := Lib.hid (Nat.lt_of_lt_of_le hg H1.out.size)
      have Hpc := Lib.hid ((H1.out.cell (p := ⟨g, 0, none⟩) hg).trans Hp.out)
      clear hn
      by_cases he : n.path = p
      · have Hb := Lib.hid (show (n.path == p) = true from beq_iff_eq.2 he)
        have He := Lib.hid he
        clear he
        go_wp2_with (go_at_call 149; refine (find1_s n p g _ Hpc.out Hg.out).mono ?_; rintro e w2 ⟨rfl, hs⟩; rw [Hb.out]; have H2 := Lib.hid (Stp.trans H1.out hs); clear hs)
        go_ret
        refine ⟨congrArg (fun x => Ending.returned (.int .i64 x)) ?_, H2.out⟩
        rw [← Hr.out, findV, findN_of Hk.out He.out Hn.out]
      · have Hb := Lib.hid (show (n.path == p) = false from beq_eq_false_iff_ne.2 he)
        have Hs := Lib.hid (none_step Hk.out he Hn.out)
        clear he
        go_wp2_with (go_at_call 149; refine (find1_s n p g _ Hpc.out Hg.out).mono ?_; rintro e w2 ⟨rfl, hs⟩; rw [Hb.out]; have H2 := Lib.hid (Stp.trans H1.out hs); clear hs)
        go_roundw
        case rel => exact ⟨k + 1, by omega, by go_num, H2, Hs⟩
        case measure => simp [intOf]; omega
    · obtain rfl : k = ns.length := by omega
      have hn := Hn.out
      go_wp2_with fail
      go_ret
      refine ⟨congrArg (fun x => Ending.returned (.int .i64 x)) ?_, H1.out⟩
      rw [← Hr.out, findV, findN_none (fun j m hm => hn j m (List.getElem?_eq_some_iff.1 hm).1 hm)]

set_option maxRecDepth 100000 in
theorem tfind_s (ns : List Nd) (p : L) (A : Option Addr) (c : Nat) (w : World) (ha : RdN w A c ns) (hl : ns.length ≤ 1000) :
    Calls Tryz.prog 124 #[.slice A ns.length c, .string ⟨p.toArray⟩] w fun e w' => e = .returned (.int .i64 (findV ns p)) ∧ Stp w w' := by
  have h0 := Stp.refl w
  have hmf : ∀ (fn : Fn) (first cap : Array Value) (w : World), (Instr.makeFunc fn first cap).run Tryz.prog w = .ok (.func fn first cap) w := fun _ _ _ _ => rfl
  have H1 := Lib.hid (Stp.alloc h0 (.cells #[.string ⟨p.toArray⟩] 9))
  go_enter Tryz.func124, Tryz.ntmps124
  go_wp2_with (go_at_call 148; refine (index_s ns p w.heap.size A c _ (ha.keep H1.out) (by omega) (by rw [World.cell?_alloc_new]; rfl) (by rw [World.size_alloc]; omega)).mono ?_; rintro e w2 ⟨rfl, hs⟩; have H2 := Lib.hid (Stp.trans H1.out hs); clear hs)
  go_ret
  exact ⟨rfl, H2.out⟩

end Go.Proofs.YtllnnlmhbmladaaGreatDoor.Tree

namespace Go.Proofs.YtllnnlmhbmladaaGreatDoor.Tree
open Go.RowKit Go.Proofs.YtllnnlmhbmladaaGreatDoor.Base Go.Proofs.YtllnnlmhbmladaaGreatDoor.Node Go.Proofs.YtllnnlmhbmladaaGreatDoor.Long

/-- Is a path greater than the last one of a list? -/
def riseV (ns : List Nd) (p : L) : Bool := match ns.getLast? with | none => true | some m => !(Op.bytesLess p m.path || p == m.path)
theorem rise_last {ns : List Nd} {m : Nd} {j : Nat} (hj : ns.length = j + 1) (hm : ns[j]? = some m) (p : L) : riseV ns p = !(Op.bytesLess p m.path || p == m.path) := by
  unfold riseV
  rw [List.getLast?_eq_getElem?, hj, Nat.add_sub_cancel, hm]
theorem step_of (pre : List Nd) (n : Nd) : stepB pre n = (oneB n && (riseV pre n.path && ((!(PathM.parB n.path) || hasB pre (PathM.parV n.path) 53) && (!(decide (n.kind = 49)) || hasB pre n.link 48)))) := rfl

theorem blk_first {w : World} {g : Nat} {t : TypeId} {v : Value} (h : Blk w g t #[v]) : w.cell? ⟨g, 0, none⟩ = some v := by
  rw [h.cell]
  rfl
set_option maxRecDepth 100000 in
theorem rises_s (ns : List Nd) (p : L) (A : Option Addr) (c : Nat) (w : World) (ha : RdN w A c ns) (hl : ns.length < 9223372036854775808) :
    Calls Tryz.prog 122 #[.slice A ns.length c, .string ⟨p.toArray⟩] w fun e w' => e = .returned (.bool (riseV ns p)) ∧ Stp w w' := by
  have h0 := Stp.refl w
  cases hz : ns.length with
  | zero =>
    obtain rfl := List.eq_nil_of_length_eq_zero hz
    go_enter Tryz.func122, Tryz.ntmps122
    go_wp2_with fail
    go_ret
    exact ⟨rfl, h0⟩
  | succ j =>
    obtain ⟨m, hm⟩ : ∃ n, ns[j]? = some n := ⟨_, List.getElem?_eq_getElem (by omega)⟩
    obtain ⟨b, o, rfl, hb, q0, q1, q2, q3, q4, q5, q6, q7⟩ := ha.cells hm
    have hc := ha.1
    rw [rise_last hz hm]
    rw [hz] at hl hc
    clear hm hz ha
    obtain ⟨le, hle⟩ : ∃ x, (Op.bytesLess p m.path || p == m.path) = x := ⟨_, rfl⟩
    rw [hle]
    cases le
    all_goals
      go_enter Tryz.func122, Tryz.ntmps122
      go_wp2_with fail
      go_ret
      exact ⟨rfl, h0⟩

set_option maxRecDepth 100000 in
set_option maxHeartbeats 1000000 in
theorem ahead_s (ns : List Nd) (p : L) (kd : UInt8) (kk : Int) (hkk : kk = (kd.toNat : Int)) (g : Nat) (A : Option Addr) (c : Nat) (w : World) (hg : w.cell? ⟨g, 0, none⟩ = some (.slice A ns.length c)) (hgl : g < w.heap.size) (ha : RdN w A c ns) (hl : ns.length ≤ 1000) :
    Calls Tryz.prog 123 #[.string ⟨p.toArray⟩, .int .u8 kk, .pointer (some ⟨g, 0, none⟩)] w fun e w' => e = .returned (.bool (hasB ns p kd)) ∧ Stp w w' := by
  subst hkk
  have h0 := Stp.refl w
  cases hf : findN p ns with
  | none =>
    have Hv := Lib.hid (show findV ns p = -1 by rw [findV, hf])
    rw [show hasB ns p kd = false by rw [hasB, hf]]
    clear hf
    go_enter Tryz.func123, Tryz.ntmps123
    go_wp2_with (go_at_call 124; refine (tfind_s ns p A c _ ha hl).mono ?_; rintro e w' ⟨rfl, hs⟩; rw [Hv.out]; replace h0 := Stp.trans h0 hs; clear hs)
    go_ret
    exact ⟨rfl, h0⟩
  | some i =>
    obtain ⟨n, hn, _⟩ := findN_lt hf
    have hi := findN_bound hf
    have Hv := Lib.hid (show findV ns p = (i : Int) by rw [findV, hf])
    rw [show hasB ns p kd = decide (n.kind = kd) by rw [hasB, hf]; simp [hn]]
    have hg0 : decide ((0 : Int) ≤ (i : Int)) = true := decide_eq_true (by omega)
    have hc := ha.1
    have gk : ((n.kind.toNat : Int) == (kd.toNat : Int)) = decide (n.kind = kd) := by
      rw [Bool.eq_iff_iff, beq_iff_eq, decide_eq_true_eq]
      exact ⟨fun h => UInt8.toNat_inj.1 (by omega), fun h => by rw [h]⟩
    have Hn := Lib.hid hn
    have Hg := Lib.hid hg
    have Ha := Lib.hid ha
    clear hf hn ha
    go_enter Tryz.func123, Tryz.ntmps123
    go_wp2_with (go_at_call 124; refine (tfind_s ns p A c _ Ha.out hl).mono ?_; rintro e w' ⟨rfl, hs⟩; rw [Hv.out]; have hg2 := (hs.cell (p := ⟨g, 0, none⟩) hgl).trans Hg.out; obtain ⟨b, o, rfl, hb, -, -, q2, -⟩ := (Ha.out.keep hs).cells Hn.out; replace h0 := Stp.trans h0 hs; clear hs hg)
    go_ret
    exact ⟨rfl, h0⟩

set_option maxRecDepth 100000 in
set_option maxHeartbeats 2000000 in
theorem follow_s (ns : List Nd) (n : Nd) (A : Option Addr) (c : Nat) (w : World) (ha : RdN w A c ns) (hl : ns.length ≤ 1000) (hn : SmallN n) :
    Calls Tryz.prog 100 #[.slice A ns.length c, nv n] w fun e w' => e = .returned (.bool (stepB ns n)) ∧ Stp w w' := by
  have h0 := Stp.refl w
  have hmf : ∀ (fn : Fn) (first cap : Array Value) (w : World), (Instr.makeFunc fn first cap).run Tryz.prog w = .ok (.func fn first cap) w := fun _ _ _ _ => rfl
  have Hs := Lib.hid (Blk.alloc (Blk.new w 63 #[.slice A ns.length c]) (.cells (ncells n) 23))
  have hb1 := Blk.new (w.alloc (.cells #[.slice A ns.length c] 63)) 23 (ncells n)
  rw [World.size_alloc] at hb1
  have Hb := Lib.hid hb1
  have H := Lib.hid (Stp.alloc (Stp.alloc h0 (.cells #[.slice A ns.length c] 63)) (.cells (ncells n) 23))
  have Ha := Lib.hid (ha.keep H.out)
  clear hb1
  obtain ⟨q0, q1, q2, q3, q4, q5, q6, q7⟩ := nd_cells Hb.out
  have s0 := blk_first Hs.out
  have Hn := Lib.hid hn
  obtain ⟨on, h1⟩ : ∃ x, oneB n = x := ⟨_, rfl⟩
  obtain ⟨ri, h2⟩ : ∃ x, riseV ns n.path = x := ⟨_, rfl⟩
  obtain ⟨pb, p1⟩ : ∃ x, PathM.parB n.path = x := ⟨_, rfl⟩
  obtain ⟨pv, p0⟩ : ∃ x, PathM.parV n.path = x := ⟨_, rfl⟩
  obtain ⟨hd, p2⟩ : ∃ x, hasB ns pv 53 = x := ⟨_, rfl⟩
  obtain ⟨kd, p3⟩ : ∃ x, decide (n.kind = 49) = x := ⟨_, rfl⟩
  obtain ⟨hf, p4⟩ : ∃ x, hasB ns n.link 48 = x := ⟨_, rfl⟩
  have g49 : ((n.kind.toNat : Int) != 49) = !kd := by
    rw [← p3]
    by_cases h : n.kind = 49
    · rw [h]; rfl
    · rw [decide_eq_false h]
      have : ¬ (n.kind.toNat : Int) = 49 := fun h2 => h (UInt8.toNat_inj.1 (by show n.kind.toNat = 49; omega))
      simp [this]
  rw [step_of, h1, h2, p1, p0, p2, p3, p4]
  have F1 := Lib.hid h1
  have F2 := Lib.hid h2
  have P0 := Lib.hid p0
  have P1 := Lib.hid p1
  have P2 := Lib.hid p2
  have P4 := Lib.hid p4
  clear h1 h2 p0 p1 p2 p3 p4 ha hn
  go_enter Tryz.func100, Tryz.ntmps100
  go_wp2_with (first
    | (go_at_call 77; (with_reducible refine (tone_s n Hn.out _).mono ?_); rintro e w1 ⟨rfl, hs⟩; rw [F1.out]; (replace Hs := Lib.hid (Hs.out.keep hs Hs.out.lt)); (replace Hb := Lib.hid (Hb.out.keep hs Hb.out.lt)); (replace H := Lib.hid (Stp.trans H.out hs)); (replace Ha := Lib.hid (Ha.out.keep hs)); clear hs q0 q1 q2 q3 q4 q5 q6 q7 s0; obtain ⟨q0, q1, q2, q3, q4, q5, q6, q7⟩ := nd_cells Hb.out; have s0 := blk_first Hs.out; rcases on)
    | (go_at_call 122; (with_reducible refine (rises_s ns n.path A c _ Ha.out (by omega)).mono ?_); rintro e w1 ⟨rfl, hs⟩; rw [F2.out]; (replace Hs := Lib.hid (Hs.out.keep hs Hs.out.lt)); (replace Hb := Lib.hid (Hb.out.keep hs Hb.out.lt)); (replace H := Lib.hid (Stp.trans H.out hs)); (replace Ha := Lib.hid (Ha.out.keep hs)); clear hs q0 q1 q2 q3 q4 q5 q6 q7 s0; obtain ⟨q0, q1, q2, q3, q4, q5, q6, q7⟩ := nd_cells Hb.out; have s0 := blk_first Hs.out; rcases ri)
    | (go_at_call 125; (with_reducible refine (Path.parent_s n.path _ Hn.out.path).mono ?_); rintro e w1 ⟨rfl, hs⟩; rw [P0.out, P1.out]; (replace Hs := Lib.hid (Hs.out.keep hs Hs.out.lt)); (replace Hb := Lib.hid (Hb.out.keep hs Hb.out.lt)); (replace H := Lib.hid (Stp.trans H.out hs)); (replace Ha := Lib.hid (Ha.out.keep hs)); clear hs q0 q1 q2 q3 q4 q5 q6 q7 s0; obtain ⟨q0, q1, q2, q3, q4, q5, q6, q7⟩ := nd_cells Hb.out; have s0 := blk_first Hs.out; rcases pb)
    | (go_at_call 123; (with_reducible refine (ahead_s ns pv 53 53 rfl w.heap.size A c _ s0 Hs.out.lt Ha.out hl).mono ?_); rintro e w1 ⟨rfl, hs⟩; rw [P2.out]; (replace Hs := Lib.hid (Hs.out.keep hs Hs.out.lt)); (replace Hb := Lib.hid (Hb.out.keep hs Hb.out.lt)); (replace H := Lib.hid (Stp.trans H.out hs)); (replace Ha := Lib.hid (Ha.out.keep hs)); clear hs q0 q1 q2 q3 q4 q5 q6 q7 s0; obtain ⟨q0, q1, q2, q3, q4, q5, q6, q7⟩ := nd_cells Hb.out; have s0 := blk_first Hs.out; rcases hd)
    | (go_at_call 123; (with_reducible refine (ahead_s ns n.link 48 48 rfl w.heap.size A c _ s0 Hs.out.lt Ha.out hl).mono ?_); rintro e w1 ⟨rfl, hs⟩; rw [P4.out]; (replace Hs := Lib.hid (Hs.out.keep hs Hs.out.lt)); (replace Hb := Lib.hid (Hb.out.keep hs Hb.out.lt)); (replace H := Lib.hid (Stp.trans H.out hs)); (replace Ha := Lib.hid (Ha.out.keep hs)); clear hs q0 q1 q2 q3 q4 q5 q6 q7 s0; obtain ⟨q0, q1, q2, q3, q4, q5, q6, q7⟩ := nd_cells Hb.out; have s0 := blk_first Hs.out))
  all_goals first | go_ret | skip
  all_goals first | exact ⟨rfl, H.out⟩ | (refine ⟨congrArg (fun b => Ending.returned (.bool b)) ?_, H.out⟩; clear q0 q1 q2 q3 q4 q5 q6 q7 s0 Hs Hb H Ha; simp [*]; done)

theorem follow_n (ns : List Nd) (m : Nat) (hm : ns.length = m) (n : Nd) (A : Option Addr) (c : Nat) (w : World) (ha : RdN w A c ns) (hl : ns.length ≤ 1000) (hn : SmallN n) :
    Calls Tryz.prog 100 #[.slice A m c, nv n] w fun e w' => e = .returned (.bool (stepB ns n)) ∧ Stp w w' := by
  subst hm
  exact follow_s ns n A c w ha hl hn
set_option maxRecDepth 100000 in
set_option maxHeartbeats 2000000 in
theorem tmay_s (ns : List Nd) (A : Option Addr) (c : Nat) (w : World) (ha : RdN w A c ns) (hl : ns.length ≤ 1000) (hs : ∀ n ∈ ns, SmallN n) :
    Calls Tryz.prog 66 #[.slice A ns.length c] w fun e w' => e = .returned (.bool (mayT ns)) ∧ Stp w w' := by
  have h0 := Stp.refl w
  by_cases h20 : ns.length ≤ 20
  · have g20 : decide ((20 : Int) < (ns.length : Int)) = false := decide_eq_false (by omega)
    obtain ⟨R, hR⟩ : ∃ R, mayT ns = R := ⟨_, rfl⟩
    have HR := Lib.hid hR
    rw [hR]
    have Hs := Lib.hid hs
    have Ha := Lib.hid ha
    clear hR hs ha
    go_enter Tryz.func66, Tryz.ntmps66
    go_wp2_with fail
    go_loopw [3, 4, 10] (fun _ _ i wr => ∃ k : Nat, k ≤ ns.length ∧ i = .int .i64 k ∧ Hid (Stp w wr) ∧ Hid (∀ (j : Nat) (m : Nd), j < k → ns[j]? = some m → stepB (ns.take j) m = true)) (fun _ _ i _ => ns.length - (intOf i).toNat)
    case atStart => exact ⟨0, by omega, rfl, Lib.hid (Stp.refl w), Lib.hid (fun j m hj => by omega)⟩
    case round =>
      obtain ⟨k, hk, rfl, H1, Hy⟩ := hrel
      by_cases hlt : k < ns.length
      · obtain ⟨n, hn⟩ : ∃ n, ns[k]? = some n := ⟨_, List.getElem?_eq_getElem hlt⟩
        obtain ⟨b, o, rfl, -, q0, q1, q2, q3, q4, q5, q6, q7⟩ := (Ha.out.keep H1.out).cells hn
        have hc := Ha.out.1
        have Hk := Lib.hid hn
        have Hsn := Lib.hid (Hs.out n (List.mem_of_getElem? hn))
        have hsl := nslice_h b o ns.length c k (by omega)
        have htk : (ns.take k).length = k := by rw [List.length_take]; omega
        have Htk := Lib.hid htk
        have Hal := Lib.hid (Stp.alloc H1.out (.cells (ncells n) 23))
        have Hb0 := Lib.hid (Blk.new wr 23 (ncells n))
        obtain ⟨on, h1⟩ : ∃ x, stepB (ns.take k) n = x := ⟨_, rfl⟩
        have F1 := Lib.hid h1
        clear hn h1 htk
        go_wp2_with fail
        obtain ⟨q0, q1, q2, q3, q4, q5, q6, q7⟩ := nd_cells Hb0.out
        go_region_with (go_at_call 100; refine (follow_n (ns.take k) k Htk.out n _ c _ ((Ha.out.keep (Stp.drewN Hal.out 1)).take k) (by have := Htk.out; omega) Hsn.out).mono ?_; rintro e w1 ⟨rfl, hs⟩; rw [F1.out]; have H2 := Lib.hid (Stp.trans (Stp.drewN Hal.out 1) hs); clear hs)
        rcases on
        · go_wp2_with fail
          go_ret
          refine ⟨congrArg (fun b => Ending.returned (.bool b)) ?_, H2.out⟩
          rw [← HR.out, mayT_no Hk.out F1.out]
        · go_wp2_with fail
          go_roundw
          case rel => exact ⟨k + 1, by omega, by go_num, H2, Lib.hid (yes_step Hk.out F1.out Hy.out)⟩
          case measure => simp [intOf]; omega
      · obtain rfl : k = ns.length := by omega
        have hy := mayT_yes h20 Hy.out
        rw [HR.out] at hy
        subst hy
        go_wp2_with fail
        go_ret
        exact ⟨rfl, H1.out⟩
  · have g : decide ((20 : Int) < (ns.length : Int)) = true := decide_eq_true (by omega)
    rw [mayT_long h20]
    clear h20
    go_enter Tryz.func66, Tryz.ntmps66
    go_wp2_with fail
    go_ret
    exact ⟨rfl, h0⟩
end Go.Proofs.YtllnnlmhbmladaaGreatDoor.Tree

namespace Go.Proofs.YtllnnlmhbmladaaGreatDoor.Tree
open Go.RowKit Go.Proofs.YtllnnlmhbmladaaGreatDoor.Base Go.Proofs.YtllnnlmhbmladaaGreatDoor.Node Go.Proofs.YtllnnlmhbmladaaGreatDoor.Long

def fewT (ns : List Nd) : Bool := decide (ns.length ≤ 30) && ns.all fewN
def nodeA : Nd := ⟨[97], [], 53, 493, 0, 0, 0, []⟩
def nodeB : Nd := ⟨[97, 47, 98], [], 48, 420, 0, 0, 7, [104, 101, 108, 108, 111]⟩
theorem ex_facts : mayT [nodeA, nodeB] = true ∧ oneB nodeA = true ∧ findV [nodeA, nodeB] [97, 47, 98] = 1 ∧ (underV [nodeA, nodeB] [97]).length = 1 ∧ mayT [nodeB] = false := by decide +kernel
end Go.Proofs.YtllnnlmhbmladaaGreatDoor.Tree

