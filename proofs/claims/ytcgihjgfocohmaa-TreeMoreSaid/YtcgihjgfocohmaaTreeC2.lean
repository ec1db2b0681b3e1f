/-
  Contracts of package tree: the rules by kinds, as the map that the code makes: no statement is proved here.
-/
import Derived.Test.YtcgihjgfocohmaaTreeOne
import Derived.Test.YtcgihjgfocohmaaPathS
import Derived.MapKept
namespace Go.Proofs.Ytcgihjgfocohmaa.Tree
open Go.RowKit Go.Proofs.Ytcgihjgfocohmaa.Base Go.Proofs.Ytcgihjgfocohmaa.Node Go.Proofs.Ytcgihjgfocohmaa.Long

abbrev fnv (i : Nat) : Value := .func (.func i) #[] #[]
/-- A map's entries: kinds and functions, as they were laid in. -/
abbrev ent (k : Int) (f : Value) (b : Nat) : MapEntry := { key := .int .u8 k, val := f, born := b }
theorem map_type : Try.prog.underlying 43 = some (.map 5 26) := by kernel_rfl
theorem func_zero (w : World) : (zeroValue 26).run Try.prog w = .ok .nilFunc w := by rfl
theorem check_key (w : World) (b : Bool) (k : Int) : (Instr.checkKey b 10000 5 (.int .u8 k)).run Try.prog w = .ok () w :=
  MapKept.run_checkKey Try.underlying5 (by simp [MapKept.IsKey]) b 9999
theorem find_key (w : World) (k : Int) (es : List MapEntry) (r : Option (Nat × Value)) (h : Instr.findNow (.int .u8) (.int .u8 k) es 0 = some r) :
    (Instr.findKey 5 (.int .u8 k) es).run Try.prog w = .ok r w := by
  unfold Instr.findKey
  simp [run_underlying Try.underlying5, h, Result.andThen]
theorem heap_new (w : World) (o : Obj) : (w.alloc o).heap[w.heap.size]? = some o := by
  show (w.heap.push o)[w.heap.size]? = some o
  simp
theorem heap_set (w : World) (o o' : Obj) : ({ w.alloc o with heap := (w.alloc o).heap.setIfInBounds w.heap.size o' } : World) = w.alloc o' := by
  show ({ w with heap := (w.heap.push o).setIfInBounds w.heap.size o' } : World) = { w with heap := w.heap.push o' }
  congr 1
  apply Array.ext
  · simp
  · intro i h1 h2
    by_cases h : i = w.heap.size
    · subst h
      simp
    · rw [Array.getElem_setIfInBounds_ne (hj := by simpa using h2) (h := fun e => h e.symm)]
      simp only [Array.size_setIfInBounds, Array.size_push] at h1
      rw [Array.getElem_push_lt (by omega), Array.getElem_push_lt (by omega)]
theorem map_put (w : World) (es : Array MapEntry) (c : Nat) (k : Int) (f : Value) (hno : Instr.findNow (.int .u8) (.int .u8 k) es.toList 0 = some none) :
    (Instr.mapUpdate 43 (.map (some w.heap.size)) (.int .u8 k) f).run Try.prog (w.alloc (.map es c)) = .ok () (w.alloc (.map (es.push (ent k f c)) (c + 1))) := by
  have hb : (w.alloc (.map es c)).heap[w.heap.size]? = some (.map es c) := heap_new _ _
  simp [Instr.mapUpdate, run_underlying map_type, MapKept.run_getObj_map hb, check_key, find_key _ _ _ _ hno, MapKept.run_setObj_map _ hb, Result.andThen]
  exact heap_set _ _ _
theorem map_get {w : World} {g : Nat} {es : Array MapEntry} {c : Nat} (hb : w.heap[g]? = some (.map es c)) (k : Int) (i : Nat) (f : Value) (h : Instr.findNow (.int .u8) (.int .u8 k) es.toList 0 = some (some (i, f))) :
    (Instr.lookup 43 (.map (some g)) (.int .u8 k) true).run Try.prog w = .ok (.tuple #[f, .bool true]) w := by
  simp [Instr.lookup, run_underlying map_type, MapKept.run_getObj_map hb, check_key, find_key _ _ _ _ h, Result.andThen]
theorem map_none {w : World} {g : Nat} {es : Array MapEntry} {c : Nat} (hb : w.heap[g]? = some (.map es c)) (k : Int) (h : Instr.findNow (.int .u8) (.int .u8 k) es.toList 0 = some none) :
    (Instr.lookup 43 (.map (some g)) (.int .u8 k) true).run Try.prog w = .ok (.tuple #[.nilFunc, .bool false]) w := by
  simp [Instr.lookup, run_underlying map_type, MapKept.run_getObj_map hb, check_key, find_key _ _ _ _ h, Result.andThen]

abbrev kinds : Array MapEntry := #[ent 48 (fnv 41) 0, ent 49 (fnv 42) 1, ent 50 (fnv 43) 2, ent 53 (fnv 45) 3]
set_option maxRecDepth 100000 in
theorem rules_s (w : World) : Calls Try.prog 30 #[] w fun e w' => ∃ g, e = .returned (.map (some g)) ∧ w'.heap[g]? = some (.map kinds 4) ∧ Stp w w' := by
  have h0 := Stp.refl w
  have hmm := @run_makeMap Try.prog
  have e1 := map_put w #[] 0 48 (fnv 41) rfl
  have e2 := map_put w #[ent 48 (fnv 41) 0] 1 49 (fnv 42) rfl
  have e3 := map_put w #[ent 48 (fnv 41) 0, ent 49 (fnv 42) 1] 2 50 (fnv 43) rfl
  have e4 := map_put w #[ent 48 (fnv 41) 0, ent 49 (fnv 42) 1, ent 50 (fnv 43) 2] 3 53 (fnv 45) rfl
  simp only [List.push_toArray, List.cons_append, List.nil_append] at e1 e2 e3 e4
  go_enter Try.func30, Try.ntmps30
  go_wp2_with fail
  go_ret
  exact ⟨w.heap.size, rfl, heap_new _ _, Stp.alloc h0 _⟩
end Go.Proofs.Ytcgihjgfocohmaa.Tree
