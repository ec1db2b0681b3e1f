/-
  Contracts of package tree: the rules by kinds, as the map that the code makes: no statement is proved here.
  Contracts of package tree: each rule, the bounds, One: no statement is proved here.
  Contracts of package tree: One: no statement is proved here.
-/
import Derived.Test.YtopihahjjcpnpaaGreatDoorTreeOne
import Derived.Test.YtopihahjjcpnpaaGreatDoorPathK
import Derived.MapKept
import Derived.Deep.RegionWith
namespace Go.Proofs.YtopihahjjcpnpaaGreatDoor.Tree
open Go.RowKit Go.Proofs.YtopihahjjcpnpaaGreatDoor.Base Go.Proofs.YtopihahjjcpnpaaGreatDoor.Node Go.Proofs.YtopihahjjcpnpaaGreatDoor.Long

abbrev fnv (i : Nat) : Value := .func (.func i) #[] #[]
/-- A map's entries: kinds and functions, as they were laid in. -/
abbrev ent (k : Int) (f : Value) (b : Nat) : MapEntry := { key := .int .u8 k, val := f, born := b }
theorem map_type : Tryz.prog.underlying 199 = some (.map 5 56) := by kernel_rfl
theorem check_key (w : World) (b : Bool) (k : Int) : (Instr.checkKey b 10000 5 (.int .u8 k)).run Tryz.prog w = .ok () w :=
  MapKept.run_checkKey Tryz.underlying5 (by simp [MapKept.IsKey]) b 9999
theorem find_key (w : World) (k : Int) (es : List MapEntry) (r : Option (Nat × Value)) (h : Instr.findNow (.int .u8) (.int .u8 k) es 0 = some r) :
    (Instr.findKey 5 (.int .u8 k) es).run Tryz.prog w = .ok r w := by
  unfold Instr.findKey
  simp [run_underlying Tryz.underlying5, h, Result.andThen]
theorem heap_new (w : World) (o : Obj) : (w.alloc o).heap[w.heap.size]? = some o := by
  show (w.heap.push o)[w.heap.size]? = some o
  simp
theorem heap_set (w : World) (o o' : Obj) : ({ w.alloc o with heap := (w.alloc o).heap.setIfInBounds w.heap.size o' } : World) = w.alloc o' := by
  show ({ w with heap := (w.heap.push o).setIfInBounds w.heap.size o' } : World) = { w with heap := w.heap.push o' }
  congr 1
  apply Array.ext
  · simp
  · intro i h1 h2
    by_cases h : i = w.heap.size
    · subst h
      simp
    · rw [Array.getElem_setIfInBounds_ne (hj := by simpa using h2) (h := fun e => h e.symm)]
      simp only [Array.size_setIfInBounds, Array.size_push] at h1
      rw [Array.getElem_push_lt (by omega), Array.getElem_push_lt (by omega)]
theorem map_put (w : World) (es : Array MapEntry) (c : Nat) (k : Int) (f : Value) (hno : Instr.findNow (.int .u8) (.int .u8 k) es.toList 0 = some none) :
    (Instr.mapUpdate 199 (.map (some w.heap.size)) (.int .u8 k) f).run Tryz.prog (w.alloc (.map es c)) = .ok () (w.alloc (.map (es.push (ent k f c)) (c + 1))) := by
  have hb : (w.alloc (.map es c)).heap[w.heap.size]? = some (.map es c) := heap_new _ _
  simp [Instr.mapUpdate, run_underlying map_type, MapKept.run_getObj_map hb, check_key, find_key _ _ _ _ hno, MapKept.run_setObj_map _ hb, Result.andThen]
  exact heap_set _ _ _
theorem map_get {w : World} {g : Nat} {es : Array MapEntry} {c : Nat} (hb : w.heap[g]? = some (.map es c)) (k : Int) (i : Nat) (f : Value) (h : Instr.findNow (.int .u8) (.int .u8 k) es.toList 0 = some (some (i, f))) :
    (Instr.lookup 199 (.map (some g)) (.int .u8 k) true).run Tryz.prog w = .ok (.tuple #[f, .bool true]) w := by
  simp [Instr.lookup, run_underlying map_type, MapKept.run_getObj_map hb, check_key, find_key _ _ _ _ h, Result.andThen]
theorem map_none {w : World} {g : Nat} {es : Array MapEntry} {c : Nat} (hb : w.heap[g]? = some (.map es c)) (k : Int) (h : Instr.findNow (.int .u8) (.int .u8 k) es.toList 0 = some none) :
    (Instr.lookup 199 (.map (some g)) (.int .u8 k) true).run Tryz.prog w = .ok (.tuple #[.nilFunc, .bool false]) w := by
  simp [Instr.lookup, run_underlying map_type, MapKept.run_getObj_map hb, check_key, find_key _ _ _ _ h, Result.andThen]

abbrev kinds : Array MapEntry := #[ent 48 (fnv 193) 0, ent 49 (fnv 194) 1, ent 50 (fnv 195) 2, ent 53 (fnv 196) 3]
set_option maxRecDepth 100000 in
theorem rules_s (w : World) : Calls Tryz.prog 175 #[] w fun e w' => ∃ g, e = .returned (.map (some g)) ∧ w'.heap[g]? = some (.map kinds 4) ∧ Stp w w' := by
  have h0 := Stp.refl w
  have hmm := @run_makeMap Tryz.prog
  have e1 := map_put w #[] 0 48 (fnv 193) rfl
  have e2 := map_put w #[ent 48 (fnv 193) 0] 1 49 (fnv 194) rfl
  have e3 := map_put w #[ent 48 (fnv 193) 0, ent 49 (fnv 194) 1] 2 50 (fnv 195) rfl
  have e4 := map_put w #[ent 48 (fnv 193) 0, ent 49 (fnv 194) 1, ent 50 (fnv 195) 2] 3 53 (fnv 196) rfl
  simp only [List.push_toArray, List.cons_append, List.nil_append] at e1 e2 e3 e4
  go_enter Tryz.func175, Tryz.ntmps175
  go_wp2_with fail
  go_ret
  exact ⟨w.heap.size, rfl, heap_new _ _, Stp.alloc h0 _⟩
end Go.Proofs.YtopihahjjcpnpaaGreatDoor.Tree

namespace Go.Proofs.YtopihahjjcpnpaaGreatDoor.Tree
open Go.RowKit Go.Proofs.YtopihahjjcpnpaaGreatDoor.Base Go.Proofs.YtopihahjjcpnpaaGreatDoor.Node Go.Proofs.YtopihahjjcpnpaaGreatDoor.Long

def bareB (n : Nd) : Bool := decide (n = ⟨n.path, n.link, n.kind, 0, 0, 0, 0, []⟩)
theorem bareB_is (n : Nd) : bareB n = ((n.data == []) && (decide (n.mode = 0) && (decide (n.uid = 0) && (decide (n.gid = 0) && decide (n.time = 0))))) := by
  rw [Bool.eq_iff_iff]
  unfold bareB
  rw [decide_eq_true_eq, Nd.ext_iff']
  simp
  constructor
  · rintro ⟨h1, h2, h3, h4, h5⟩
    exact ⟨h5, h1, h2, h3, h4⟩
  · rintro ⟨h5, h1, h2, h3, h4⟩
    exact ⟨h1, h2, h3, h4, h5⟩

set_option maxRecDepth 100000 in
theorem rule1_s (n : Nd) (w : World) : Calls Tryz.prog 193 #[nv n] w fun e w' => e = .returned (.bool ((n.link == []) && decide ((n.data.length : Int) ≤ 4000))) ∧ Stp w w' := by
  have h0 := Stp.refl w
  obtain ⟨q0, q1, q2, q3, q4, q5, q6, q7⟩ := nd_cells (Blk.new w 52 (ncells n))
  go_enter Tryz.func193, Tryz.ntmps193
  go_wp2_with fail
  all_goals go_ret
  all_goals refine ⟨congrArg (fun b => Ending.returned (.bool b)) ?_, Stp.alloc h0 _⟩
  all_goals simp [*]
set_option maxRecDepth 100000 in
theorem rule2_s (n : Nd) (hn : SmallN n) (w : World) : Calls Tryz.prog 194 #[nv n] w fun e w' => e = .returned (.bool (PathM.mayB n.link && bareB n)) ∧ Stp w w' := by
  have h0 := Stp.refl w
  have Hb0 := Lib.hid (Blk.new w 52 (ncells n))
  have H0 := Lib.hid (Stp.alloc h0 (.cells (ncells n) 52))
  obtain ⟨q0, q1, q2, q3, q4, q5, q6, q7⟩ := nd_cells Hb0.out
  have Hn := Lib.hid hn
  obtain ⟨m2, h2⟩ : ∃ m, PathM.mayB n.link = m := ⟨_, rfl⟩
  have F2 := Lib.hid h2
  rw [h2]
  clear h2 hn
  go_enter Tryz.func194, Tryz.ntmps194
  go_wp2_with (first
    | (go_at_call 176; refine (Path.may_s n.link _ Hn.out.link).mono ?_; rintro e w1 ⟨rfl, hs⟩; rw [F2.out]; have Hb := Lib.hid (Hb0.out.keep hs Hb0.out.lt); have H := Lib.hid (Stp.trans H0.out hs); clear hs q0 q1 q2 q3 q4 q5 q6 q7; obtain ⟨q0, q1, q2, q3, q4, q5, q6, q7⟩ := nd_cells Hb.out; rcases m2))
  all_goals go_ret
  all_goals refine ⟨congrArg (fun b => Ending.returned (.bool b)) ?_, H.out⟩
  all_goals first | rfl | (rw [bareB_is]; simp [*])
set_option maxRecDepth 100000 in
theorem rule3_s (n : Nd) (hn : SmallN n) (w : World) : Calls Tryz.prog 195 #[nv n] w fun e w' => e = .returned (.bool (textL n.link && (n.data == []))) ∧ Stp w w' := by
  have h0 := Stp.refl w
  have Hb0 := Lib.hid (Blk.new w 52 (ncells n))
  have H0 := Lib.hid (Stp.alloc h0 (.cells (ncells n) 52))
  obtain ⟨q0, q1, q2, q3, q4, q5, q6, q7⟩ := nd_cells Hb0.out
  have Hn := Lib.hid hn
  obtain ⟨m2, h2⟩ : ∃ m, textL n.link = m := ⟨_, rfl⟩
  have F2 := Lib.hid h2
  rw [h2]
  clear h2 hn
  go_enter Tryz.func195, Tryz.ntmps195
  go_wp2_with (first
    | (go_at_call 147; refine (text_s n.link _).mono ?_; rintro e w1 ⟨rfl, hs⟩; rw [F2.out]; have Hb := Lib.hid (Hb0.out.keep hs Hb0.out.lt); have H := Lib.hid (Stp.trans H0.out hs); clear hs q0 q1 q2 q3 q4 q5 q6 q7; obtain ⟨q0, q1, q2, q3, q4, q5, q6, q7⟩ := nd_cells Hb.out; rcases m2))
  all_goals go_ret
  all_goals refine ⟨congrArg (fun b => Ending.returned (.bool b)) ?_, H.out⟩
  all_goals first | rfl | (simp [*])
set_option maxRecDepth 100000 in
theorem rule4_s (n : Nd) (w : World) : Calls Tryz.prog 196 #[nv n] w fun e w' => e = .returned (.bool ((n.link == []) && (n.data == []))) ∧ Stp w w' := by
  have h0 := Stp.refl w
  obtain ⟨q0, q1, q2, q3, q4, q5, q6, q7⟩ := nd_cells (Blk.new w 52 (ncells n))
  go_enter Tryz.func196, Tryz.ntmps196
  go_wp2_with fail
  all_goals go_ret
  all_goals refine ⟨congrArg (fun b => Ending.returned (.bool b)) ?_, Stp.alloc h0 _⟩
  all_goals simp [*]

set_option maxRecDepth 100000 in
theorem within_s (x most : Int) (w : World) : Calls Tryz.prog 200 #[.int .i64 x, .int .i64 most] w fun e w' => e = .returned (.bool (decide (0 ≤ x ∧ x ≤ most))) ∧ Stp w w' := by
  have h0 := Stp.refl w
  go_enter Tryz.func200, Tryz.ntmps200
  go_wp2_with fail
  all_goals go_ret
  all_goals refine ⟨congrArg (fun b => Ending.returned (.bool b)) ?_, h0⟩
  all_goals first | (symm; simp; omega; done) | (simp; omega; done)

set_option maxRecDepth 100000 in
theorem bounded_s (n : Nd) (w : World) : Calls Tryz.prog 177 #[nv n] w fun e w' => e = .returned (.bool (numsB n)) ∧ Stp w w' := by
  have h0 := Stp.refl w
  have Hb := Lib.hid (Blk.new w 52 (ncells n))
  have H := Lib.hid (Stp.alloc h0 (.cells (ncells n) 52))
  obtain ⟨q0, q1, q2, q3, q4, q5, q6, q7⟩ := nd_cells Hb.out
  obtain ⟨b1, h1⟩ : ∃ b, decide (0 ≤ n.mode ∧ n.mode ≤ 4095) = b := ⟨_, rfl⟩
  obtain ⟨b2, h2⟩ : ∃ b, decide (0 ≤ n.uid ∧ n.uid ≤ 1099511627776) = b := ⟨_, rfl⟩
  obtain ⟨b3, h3⟩ : ∃ b, decide (0 ≤ n.gid ∧ n.gid ≤ 1099511627776) = b := ⟨_, rfl⟩
  obtain ⟨b4, h4⟩ : ∃ b, decide (0 ≤ n.time ∧ n.time ≤ 1099511627776) = b := ⟨_, rfl⟩
  have F1 := Lib.hid h1
  have F2 := Lib.hid h2
  have F3 := Lib.hid h3
  have F4 := Lib.hid h4
  rw [show numsB n = (b1 && (b2 && (b3 && b4))) from by unfold numsB; rw [h1, h2, h3, h4]]
  clear h1 h2 h3 h4
  go_enter Tryz.func177, Tryz.ntmps177
  go_wp2_with (first
    | (go_at_call 200; (with_reducible refine (within_s n.mode 4095 _).mono ?_); rintro e w1 ⟨rfl, hs⟩; rw [F1.out]; replace Hb := Lib.hid (Hb.out.keep hs Hb.out.lt); replace H := Lib.hid (Stp.trans H.out hs); clear hs q0 q1 q2 q3 q4 q5 q6 q7; obtain ⟨q0, q1, q2, q3, q4, q5, q6, q7⟩ := nd_cells Hb.out; rcases b1)
    | (go_at_call 200; (with_reducible refine (within_s n.uid 1099511627776 _).mono ?_); rintro e w1 ⟨rfl, hs⟩; rw [F2.out]; replace Hb := Lib.hid (Hb.out.keep hs Hb.out.lt); replace H := Lib.hid (Stp.trans H.out hs); clear hs q0 q1 q2 q3 q4 q5 q6 q7; obtain ⟨q0, q1, q2, q3, q4, q5, q6, q7⟩ := nd_cells Hb.out; rcases b2)
    | (go_at_call 200; (with_reducible refine (within_s n.gid 1099511627776 _).mono ?_); rintro e w1 ⟨rfl, hs⟩; rw [F3.out]; replace Hb := Lib.hid (Hb.out.keep hs Hb.out.lt); replace H := Lib.hid (Stp.trans H.out hs); clear hs q0 q1 q2 q3 q4 q5 q6 q7; obtain ⟨q0, q1, q2, q3, q4, q5, q6, q7⟩ := nd_cells Hb.out; rcases b3)
    | (go_at_call 200; (with_reducible refine (within_s n.time 1099511627776 _).mono ?_); rintro e w1 ⟨rfl, hs⟩; rw [F4.out]; replace Hb := Lib.hid (Hb.out.keep hs Hb.out.lt); replace H := Lib.hid (Stp.trans H.out hs); clear hs q0 q1 q2 q3 q4 q5 q6 q7; obtain ⟨q0, q1, q2, q3, q4, q5, q6, q7⟩ := nd_cells Hb.out))
  all_goals go_ret
  all_goals exact ⟨rfl, H.out⟩
end Go.Proofs.YtopihahjjcpnpaaGreatDoor.Tree

namespace Go.Proofs.YtopihahjjcpnpaaGreatDoor.Tree
open Go.RowKit Go.Proofs.YtopihahjjcpnpaaGreatDoor.Base Go.Proofs.YtopihahjjcpnpaaGreatDoor.Node Go.Proofs.YtopihahjjcpnpaaGreatDoor.Long

theorem one_no {n : Nd} (h : n.kind ≠ 48 ∧ n.kind ≠ 49 ∧ n.kind ≠ 50 ∧ n.kind ≠ 53) : oneB n = false := by
  have : kindB n = false := by
    unfold kindB
    rw [if_neg h.1, if_neg h.2.1, if_neg h.2.2.1, if_neg h.2.2.2]
  unfold oneB
  rw [this]
  simp
theorem one_yes {n : Nd} {k : Bool} (h : kindB n = k) : oneB n = (k && (PathM.mayB n.path && numsB n)) := by
  unfold oneB
  rw [h]
  cases k <;> cases PathM.mayB n.path <;> cases numsB n <;> rfl
theorem find_other {k : UInt8} (h : k ≠ 48 ∧ k ≠ 49 ∧ k ≠ 50 ∧ k ≠ 53) : Instr.findNow (.int .u8) (.int .u8 (k.toNat : Int)) kinds.toList 0 = some none := by
  have e : ∀ m : UInt8, k ≠ m → ((k.toNat : Int) == (m.toNat : Int)) = false := fun m hm => beq_eq_false_iff_ne.2 fun h2 => hm (UInt8.toNat_inj.1 (by omega))
  have e1 : ((k.toNat : Int) == 48) = false := e 48 h.1
  have e2 : ((k.toNat : Int) == 49) = false := e 49 h.2.1
  have e3 : ((k.toNat : Int) == 50) = false := e 50 h.2.2.1
  have e4 : ((k.toNat : Int) == 53) = false := e 53 h.2.2.2
  simp [Instr.findNow, Instr.sameNow, e1, e2, e3, e4]
theorem dec_cast (m k : Nat) : decide (m ≤ k) = decide ((m : Int) ≤ (k : Int)) := by
  rw [Bool.eq_iff_iff, decide_eq_true_eq, decide_eq_true_eq]
  omega
theorem kind_48 {n : Nd} (h : n.kind = 48) : kindB n = ((n.link == []) && decide ((n.data.length : Int) ≤ 4000)) := by
  unfold kindB
  rw [if_pos h, dec_cast]
  rfl
theorem kind_49 {n : Nd} (h : n.kind = 49) : kindB n = (PathM.mayB n.link && bareB n) := by
  unfold kindB
  rw [h, if_neg (by decide), if_pos rfl, bareB_is]
theorem kind_50 {n : Nd} (h : n.kind = 50) : kindB n = (textL n.link && (n.data == [])) := by
  unfold kindB
  rw [h, if_neg (by decide), if_neg (by decide), if_pos rfl]
theorem kind_53 {n : Nd} (h : n.kind = 53) : kindB n = ((n.link == []) && (n.data == [])) := by
  unfold kindB
  rw [h, if_neg (by decide), if_neg (by decide), if_neg (by decide), if_pos rfl]
theorem kind_at {n : Nd} {k : UInt8} (h : n.kind = k) {w : World} {g : Nat} {t : TypeId} (hb : Blk w g t (ncells n)) : w.cell? ⟨g, 2, none⟩ = some (.int .u8 (k.toNat : Int)) := by
  rw [← h]
  exact (nd_cells hb).2.2.1

set_option maxRecDepth 100000 in
theorem one_other (n : Nd) (hk : n.kind ≠ 48 ∧ n.kind ≠ 49 ∧ n.kind ≠ 50 ∧ n.kind ≠ 53) (w : World) :
    Calls Tryz.prog 146 #[nv n] w fun e w' => e = .returned (.bool (oneB n)) ∧ Stp w w' := by
  have h0 := Stp.refl w
  have Hb0 := Lib.hid (Blk.new w 52 (ncells n))
  have H0 := Lib.hid (Stp.alloc h0 (.cells (ncells n) 52))
  obtain ⟨q0, q1, q2, q3, q4, q5, q6, q7⟩ := nd_cells Hb0.out
  rw [one_no hk]
  have Hk := Lib.hid hk
  clear hk
  go_enter Tryz.func146, Tryz.ntmps146
  go_wp2_with fail
  go_region_with (go_at_call 175; refine (rules_s _).mono ?_; rintro e w1 ⟨g, rfl, hm, hs⟩; have Hb := Lib.hid (Blk.keep (Blk.drew Hb0.out) hs Hb0.out.lt); have H := Lib.hid (Stp.trans (Stp.drewN H0.out 1) hs); clear hs q0 q1 q2 q3 q4 q5 q6 q7; obtain ⟨q0, q1, q2, q3, q4, q5, q6, q7⟩ := nd_cells Hb.out; have hlk := map_none hm _ (find_other Hk.out))
  all_goals go_wp2_with fail
  all_goals go_ret
  all_goals exact ⟨rfl, H.out⟩
set_option maxRecDepth 100000 in
set_option maxHeartbeats 1000000 in
theorem one_48 (n : Nd) (hn : SmallN n) (hk : n.kind = 48) (w : World) :
    Calls Tryz.prog 146 #[nv n] w fun e w' => e = .returned (.bool (oneB n)) ∧ Stp w w' := by
  have h0 := Stp.refl w
  have Hn := Lib.hid hn
  have Hb0 := Lib.hid (Blk.new w 52 (ncells n))
  have H0 := Lib.hid (Stp.alloc h0 (.cells (ncells n) 52))
  obtain ⟨q0, q1, q2, q3, q4, q5, q6, q7⟩ := nd_cells Hb0.out
  rw [one_yes (kind_48 hk)]
  have Ek := Lib.hid (show (n.kind.toNat : Int) = 48 by rw [hk]; rfl)
  clear hk hn
  obtain ⟨b1, h1⟩ : ∃ b, ((n.link == []) && decide ((n.data.length : Int) ≤ 4000)) = b := ⟨_, rfl⟩
  obtain ⟨b2, h2⟩ : ∃ b, PathM.mayB n.path = b := ⟨_, rfl⟩
  obtain ⟨b3, h3⟩ : ∃ b, numsB n = b := ⟨_, rfl⟩
  have F1 := Lib.hid h1
  have F2 := Lib.hid h2
  have F3 := Lib.hid h3
  rw [h1, h2, h3]
  clear h1 h2 h3
  go_enter Tryz.func146, Tryz.ntmps146
  go_wp2_with fail
  go_region_with (go_at_call 175; refine (rules_s _).mono ?_; rintro e w1 ⟨g, rfl, hm, hs⟩; have Hb := Lib.hid (Blk.keep (Blk.drew Hb0.out) hs Hb0.out.lt); have H := Lib.hid (Stp.trans (Stp.drewN H0.out 1) hs); clear hs q0 q1 q2 q3 q4 q5 q6 q7; obtain ⟨q0, q1, q2, q3, q4, q5, q6, q7⟩ := nd_cells Hb.out; have hlk := map_get hm 48 0 _ rfl; rw [← Ek.out] at hlk)
  all_goals go_wp2_with (first
    | (go_at_call 193; (with_reducible refine (rule1_s n _).mono ?_); rintro e w2 ⟨rfl, hs⟩; rw [F1.out]; replace Hb := Lib.hid (Hb.out.keep hs Hb.out.lt); replace H := Lib.hid (Stp.trans H.out hs); clear hs q0 q1 q2 q3 q4 q5 q6 q7; obtain ⟨q0, q1, q2, q3, q4, q5, q6, q7⟩ := nd_cells Hb.out; rcases b1)
    | (go_at_call 176; (with_reducible refine (Path.may_s n.path _ Hn.out.path).mono ?_); rintro e w3 ⟨rfl, hs⟩; rw [F2.out]; replace Hb := Lib.hid (Hb.out.keep hs Hb.out.lt); replace H := Lib.hid (Stp.trans H.out hs); clear hs q0 q1 q2 q3 q4 q5 q6 q7; obtain ⟨q0, q1, q2, q3, q4, q5, q6, q7⟩ := nd_cells Hb.out; rcases b2)
    | (go_at_call 177; (with_reducible refine (bounded_s n _).mono ?_); rintro e w4 ⟨rfl, hs⟩; rw [F3.out]; replace Hb := Lib.hid (Hb.out.keep hs Hb.out.lt); replace H := Lib.hid (Stp.trans H.out hs); clear hs q0 q1 q2 q3 q4 q5 q6 q7; obtain ⟨q0, q1, q2, q3, q4, q5, q6, q7⟩ := nd_cells Hb.out))
  all_goals go_ret
  all_goals exact ⟨rfl, H.out⟩
set_option maxRecDepth 100000 in
set_option maxHeartbeats 1000000 in
theorem one_49 (n : Nd) (hn : SmallN n) (hk : n.kind = 49) (w : World) :
    Calls Tryz.prog 146 #[nv n] w fun e w' => e = .returned (.bool (oneB n)) ∧ Stp w w' := by
  have h0 := Stp.refl w
  have Hn := Lib.hid hn
  have Hb0 := Lib.hid (Blk.new w 52 (ncells n))
  have H0 := Lib.hid (Stp.alloc h0 (.cells (ncells n) 52))
  obtain ⟨q0, q1, q2, q3, q4, q5, q6, q7⟩ := nd_cells Hb0.out
  rw [one_yes (kind_49 hk)]
  have Ek := Lib.hid (show (n.kind.toNat : Int) = 49 by rw [hk]; rfl)
  clear hk hn
  obtain ⟨b1, h1⟩ : ∃ b, (PathM.mayB n.link && bareB n) = b := ⟨_, rfl⟩
  obtain ⟨b2, h2⟩ : ∃ b, PathM.mayB n.path = b := ⟨_, rfl⟩
  obtain ⟨b3, h3⟩ : ∃ b, numsB n = b := ⟨_, rfl⟩
  have F1 := Lib.hid h1
  have F2 := Lib.hid h2
  have F3 := Lib.hid h3
  rw [h1, h2, h3]
  clear h1 h2 h3
  go_enter Tryz.func146, Tryz.ntmps146
  go_wp2_with fail
  go_region_with (go_at_call 175; refine (rules_s _).mono ?_; rintro e w1 ⟨g, rfl, hm, hs⟩; have Hb := Lib.hid (Blk.keep (Blk.drew Hb0.out) hs Hb0.out.lt); have H := Lib.hid (Stp.trans (Stp.drewN H0.out 1) hs); clear hs q0 q1 q2 q3 q4 q5 q6 q7; obtain ⟨q0, q1, q2, q3, q4, q5, q6, q7⟩ := nd_cells Hb.out; have hlk := map_get hm 49 1 _ rfl; rw [← Ek.out] at hlk)
  all_goals go_wp2_with (first
    | (go_at_call 194; (with_reducible refine (rule2_s n Hn.out _).mono ?_); rintro e w2 ⟨rfl, hs⟩; rw [F1.out]; replace Hb := Lib.hid (Hb.out.keep hs Hb.out.lt); replace H := Lib.hid (Stp.trans H.out hs); clear hs q0 q1 q2 q3 q4 q5 q6 q7; obtain ⟨q0, q1, q2, q3, q4, q5, q6, q7⟩ := nd_cells Hb.out; rcases b1)
    | (go_at_call 176; (with_reducible refine (Path.may_s n.path _ Hn.out.path).mono ?_); rintro e w3 ⟨rfl, hs⟩; rw [F2.out]; replace Hb := Lib.hid (Hb.out.keep hs Hb.out.lt); replace H := Lib.hid (Stp.trans H.out hs); clear hs q0 q1 q2 q3 q4 q5 q6 q7; obtain ⟨q0, q1, q2, q3, q4, q5, q6, q7⟩ := nd_cells Hb.out; rcases b2)
    | (go_at_call 177; (with_reducible refine (bounded_s n _).mono ?_); rintro e w4 ⟨rfl, hs⟩; rw [F3.out]; replace Hb := Lib.hid (Hb.out.keep hs Hb.out.lt); replace H := Lib.hid (Stp.trans H.out hs); clear hs q0 q1 q2 q3 q4 q5 q6 q7; obtain ⟨q0, q1, q2, q3, q4, q5, q6, q7⟩ := nd_cells Hb.out))
  all_goals go_ret
  all_goals exact ⟨rfl, H.out⟩
set_option maxRecDepth 100000 in
set_option maxHeartbeats 1000000 in
theorem one_50 (n : Nd) (hn : SmallN n) (hk : n.kind = 50) (w : World) :
    Calls Tryz.prog 146 #[nv n] w fun e w' => e = .returned (.bool (oneB n)) ∧ Stp w w' := by
  have h0 := Stp.refl w
  have Hn := Lib.hid hn
  have Hb0 := Lib.hid (Blk.new w 52 (ncells n))
  have H0 := Lib.hid (Stp.alloc h0 (.cells (ncells n) 52))
  obtain ⟨q0, q1, q2, q3, q4, q5, q6, q7⟩ := nd_cells Hb0.out
  rw [one_yes (kind_50 hk)]
  have Ek := Lib.hid (show (n.kind.toNat : Int) = 50 by rw [hk]; rfl)
  clear hk hn
  obtain ⟨b1, h1⟩ : ∃ b, (textL n.link && (n.data == [])) = b := ⟨_, rfl⟩
  obtain ⟨b2, h2⟩ : ∃ b, PathM.mayB n.path = b := ⟨_, rfl⟩
  obtain ⟨b3, h3⟩ : ∃ b, numsB n = b := ⟨_, rfl⟩
  have F1 := Lib.hid h1
  have F2 := Lib.hid h2
  have F3 := Lib.hid h3
  rw [h1, h2, h3]
  clear h1 h2 h3
  go_enter Tryz.func146, Tryz.ntmps146
  go_wp2_with fail
  go_region_with (go_at_call 175; refine (rules_s _).mono ?_; rintro e w1 ⟨g, rfl, hm, hs⟩; have Hb := Lib.hid (Blk.keep (Blk.drew Hb0.out) hs Hb0.out.lt); have H := Lib.hid (Stp.trans (Stp.drewN H0.out 1) hs); clear hs q0 q1 q2 q3 q4 q5 q6 q7; obtain ⟨q0, q1, q2, q3, q4, q5, q6, q7⟩ := nd_cells Hb.out; have hlk := map_get hm 50 2 _ rfl; rw [← Ek.out] at hlk)
  all_goals go_wp2_with (first
    | (go_at_call 195; (with_reducible refine (rule3_s n Hn.out _).mono ?_); rintro e w2 ⟨rfl, hs⟩; rw [F1.out]; replace Hb := Lib.hid (Hb.out.keep hs Hb.out.lt); replace H := Lib.hid (Stp.trans H.out hs); clear hs q0 q1 q2 q3 q4 q5 q6 q7; obtain ⟨q0, q1, q2, q3, q4, q5, q6, q7⟩ := nd_cells Hb.out; rcases b1)
    | (go_at_call 176; (with_reducible refine (Path.may_s n.path _ Hn.out.path).mono ?_); rintro e w3 ⟨rfl, hs⟩; rw [F2.out]; replace Hb := Lib.hid (Hb.out.keep hs Hb.out.lt); replace H := Lib.hid (Stp.trans H.out hs); clear hs q0 q1 q2 q3 q4 q5 q6 q7; obtain ⟨q0, q1, q2, q3, q4, q5, q6, q7⟩ := nd_cells Hb.out; rcases b2)
    | (go_at_call 177; (with_reducible refine (bounded_s n _).mono ?_); rintro e w4 ⟨rfl, hs⟩; rw [F3.out]; replace Hb := Lib.hid (Hb.out.keep hs Hb.out.lt); replace H := Lib.hid (Stp.trans H.out hs); clear hs q0 q1 q2 q3 q4 q5 q6 q7; obtain ⟨q0, q1, q2, q3, q4, q5, q6, q7⟩ := nd_cells Hb.out))
  all_goals go_ret
  all_goals exact ⟨rfl, H.out⟩
set_option maxRecDepth 100000 in
set_option maxHeartbeats 1000000 in
theorem one_53 (n : Nd) (hn : SmallN n) (hk : n.kind = 53) (w : World) :
    Calls Tryz.prog 146 #[nv n] w fun e w' => e = .returned (.bool (oneB n)) ∧ Stp w w' := by
  have h0 := Stp.refl w
  have Hn := Lib.hid hn
  have Hb0 := Lib.hid (Blk.new w 52 (ncells n))
  have H0 := Lib.hid (Stp.alloc h0 (.cells (ncells n) 52))
  obtain ⟨q0, q1, q2, q3, q4, q5, q6, q7⟩ := nd_cells Hb0.out
  rw [one_yes (kind_53 hk)]
  have Ek := Lib.hid (show (n.kind.toNat : Int) = 53 by rw [hk]; rfl)
  clear hk hn
  obtain ⟨b1, h1⟩ : ∃ b, ((n.link == []) && (n.data == [])) = b := ⟨_, rfl⟩
  obtain ⟨b2, h2⟩ : ∃ b, PathM.mayB n.path = b := ⟨_, rfl⟩
  obtain ⟨b3, h3⟩ : ∃ b, numsB n = b := ⟨_, rfl⟩
  have F1 := Lib.hid h1
  have F2 := Lib.hid h2
  have F3 := Lib.hid h3
  rw [h1, h2, h3]
  clear h1 h2 h3
  go_enter Tryz.func146, Tryz.ntmps146
  go_wp2_with fail
  go_region_with (go_at_call 175; refine (rules_s _).mono ?_; rintro e w1 ⟨g, rfl, hm, hs⟩; have Hb := Lib.hid (Blk.keep (Blk.drew Hb0.out) hs Hb0.out.lt); have H := Lib.hid (Stp.trans (Stp.drewN H0.out 1) hs); clear hs q0 q1 q2 q3 q4 q5 q6 q7; obtain ⟨q0, q1, q2, q3, q4, q5, q6, q7⟩ := nd_cells Hb.out; have hlk := map_get hm 53 3 _ rfl; rw [← Ek.out] at hlk)
  all_goals go_wp2_with (first
    | (go_at_call 196; (with_reducible refine (rule4_s n _).mono ?_); rintro e w2 ⟨rfl, hs⟩; rw [F1.out]; replace Hb := Lib.hid (Hb.out.keep hs Hb.out.lt); replace H := Lib.hid (Stp.trans H.out hs); clear hs q0 q1 q2 q3 q4 q5 q6 q7; obtain ⟨q0, q1, q2, q3, q4, q5, q6, q7⟩ := nd_cells Hb.out; rcases b1)
    | (go_at_call 176; (with_reducible refine (Path.may_s n.path _ Hn.out.path).mono ?_); rintro e w3 ⟨rfl, hs⟩; rw [F2.out]; replace Hb := Lib.hid (Hb.out.keep hs Hb.out.lt); replace H := Lib.hid (Stp.trans H.out hs); clear hs q0 q1 q2 q3 q4 q5 q6 q7; obtain ⟨q0, q1, q2, q3, q4, q5, q6, q7⟩ := nd_cells Hb.out; rcases b2)
    | (go_at_call 177; (with_reducible refine (bounded_s n _).mono ?_); rintro e w4 ⟨rfl, hs⟩; rw [F3.out]; replace Hb := Lib.hid (Hb.out.keep hs Hb.out.lt); replace H := Lib.hid (Stp.trans H.out hs); clear hs q0 q1 q2 q3 q4 q5 q6 q7; obtain ⟨q0, q1, q2, q3, q4, q5, q6, q7⟩ := nd_cells Hb.out))
  all_goals go_ret
  all_goals exact ⟨rfl, H.out⟩
theorem tone_s (n : Nd) (hn : SmallN n) (w : World) :
    Calls Tryz.prog 146 #[nv n] w fun e w' => e = .returned (.bool (oneB n)) ∧ Stp w w' := by
  by_cases h1 : n.kind = 48
  · exact one_48 n hn h1 w
  · by_cases h2 : n.kind = 49
    · exact one_49 n hn h2 w
    · by_cases h3 : n.kind = 50
      · exact one_50 n hn h3 w
      · by_cases h4 : n.kind = 53
        · exact one_53 n hn h4 w
        · exact one_other n ⟨h1, h2, h3, h4⟩ w
end Go.Proofs.YtopihahjjcpnpaaGreatDoor.Tree

