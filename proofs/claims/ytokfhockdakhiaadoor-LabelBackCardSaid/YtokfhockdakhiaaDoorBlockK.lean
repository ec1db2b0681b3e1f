/-
  What the library's functions on slices of bytes return at this program's numbers (bytes.Equal, slices.EqualFunc over it), and package block's May, Same, Zero, Many: no statement is proved here.
  A range over a function whose elements bear content (each is handed on with a fact on the world in which it is handed on): a law over any program; no statement is proved here.
  Contracts of package block's iterator over the blocks of a text, and of list that ranges over it: no statement is proved here.
  What strings.Builder's methods return at this program's numbers (Write, String), at a builder that the call has laid itself: no statement is proved here.
  Contracts of package block: Cut, Zeros, join, Text: no statement is proved here.
  The statements' helpers for blocks (long, Few, awake): no statement is proved here.
-/
import Derived.Test.YtokfhockdakhiaaDoorProg
import Derived.Test.YtokfhockdakhiaaDoorBase
import Derived.Test.YtokfhockdakhiaaDoorBlockM
import Derived.WalkKit
import Derived.IntWalk
import Derived.RangeFuncNested
import Derived.RangeFuncBound
import Derived.RangeFuncCalls
import Derived.RangeFuncLeaves
import Derived.RangeFuncBox
import Derived.Shelf.Abstract
import Derived.Shelf.RegionOpen
import Derived.OwnWalkIn
import Derived.TacticsInMore
import Derived.LoopNIn
import Derived.LoopIn
import Derived.Lib.Builder
import Derived.Lib.UnsafeStr
import Derived.Laws.Externs
import Derived.Laws.Entries
import Derived.BigQuiet
import Derived.Deep.QuietTactic
namespace Go.Proofs.YtokfhockdakhiaaDoor.Block
open Go.RowKit Go.Proofs.YtokfhockdakhiaaDoor.Base Go.Proofs.YtokfhockdakhiaaDoor.BlockM

theorem str_rd {w : World} {A : Option Addr} {c : Nat} {l : L} (h : RdA w A c (bs l)) :
    (convert 22 9 (.slice A l.length c)).run Tryd.prog w = .ok (.string ⟨l.toArray⟩) w := by
  have h' := h
  unfold RdA at h'
  rw [bs_length] at h'
  exact run_string_rd (P := Tryd.prog) w 22 9 5 Tryd.underlying22 Tryd.underlying5 Tryd.underlying9 _ _ _ h'

set_option maxRecDepth 100000 in
theorem equal_s (l m : L) (A B : Option Addr) (c d : Nat) (w : World) (ha : RdA w A c (bs l)) (hb : RdA w B d (bs m)) :
    Calls Tryd.prog 23 #[.slice A l.length c, .slice B m.length d] w fun e w' => e = .returned (.bool (l == m)) ∧ Stp w w' := by
  have h0 := Stp.refl w
  have c1 := str_rd ha
  have c2 := str_rd hb
  go_enter Tryd.func23, Tryd.ntmps23
  go_wp2_with fail
  go_ret
  exact ⟨rfl, h0⟩

theorem take_succ_eq {ls ms : List L} {k : Nat} {l m : L} (hl : ls[k]? = some l) (hm : ms[k]? = some m) (h : ls.take k = ms.take k) : (ls.take (k + 1) = ms.take (k + 1)) ↔ l = m := by
  rw [List.take_add_one, List.take_add_one, hl, hm, h]
  simp

/-! ### package block -/
theorem mayV_step {ls : List L} {k : Nat} {l : L} (hl : ls[k]? = some l) (h : mayV (ls.take k) = true) : mayV (ls.take (k + 1)) = decide (l.length = 512) := by
  unfold mayV at h ⊢
  rw [List.take_add_one, hl, List.all_append, h]
  simp
theorem mayV_no {ls : List L} {k : Nat} {l : L} (hl : ls[k]? = some l) (h : l.length ≠ 512) : mayV ls = false := by
  rw [Bool.eq_false_iff]
  intro hm
  exact h (mayV_iff.1 hm l (List.mem_of_getElem? hl))
theorem zeroV_step {l : L} {k : Nat} {x : UInt8} (hl : l[k]? = some x) (h : zeroV (l.take k) = true) : zeroV (l.take (k + 1)) = decide (x = 0) := by
  unfold zeroV at h ⊢
  rw [List.take_add_one, hl, List.all_append, h]
  simp
theorem zeroV_no {l : L} {k : Nat} {x : UInt8} (hl : l[k]? = some x) (h : x ≠ 0) : zeroV l = false := by
  rw [Bool.eq_false_iff]
  intro hm
  simp only [zeroV, List.all_eq_true, decide_eq_true_eq] at hm
  exact h (hm x (List.mem_of_getElem? hl))

set_option maxRecDepth 100000 in
theorem zero_s (l : L) (A : Option Addr) (c : Nat) (w : World) (ha : RdA w A c (bs l)) (hl : l.length < 9223372036854775808) :
    Calls Tryd.prog 26 #[.slice A l.length c] w fun e w' => e = .returned (.bool (zeroV l)) ∧ Stp w w' := by
  obtain ⟨r, hr⟩ : ∃ r, zeroV l = r := ⟨_, rfl⟩
  rw [hr]
  have Hr := Lib.hid hr
  clear hr
  go_enter Tryd.func26, Tryd.ntmps26
  go_wp2_with fail
  go_loopw [7] (fun i wr => ∃ k : Nat, k ≤ l.length ∧ i = .int .i64 k ∧ Stp w wr ∧ Hid (zeroV (l.take k) = true)) (fun i _ => l.length - (intOf i).toNat)
  case atStart => exact ⟨0, by omega, rfl, Stp.refl w, Lib.hid (by simp [zeroV])⟩
  case round =>
    obtain ⟨k, hk, rfl, h0, Hk⟩ := hrel
    by_cases hlt : k < l.length
    · obtain ⟨x, hl1⟩ : ∃ x, l[k]? = some x := ⟨_, List.getElem?_eq_getElem hlt⟩
      obtain ⟨b, o, rfl, hcell⟩ := (ha.keep h0).at_ (j := k) (by rw [bs_length]; exact hlt)
      have ca := hcell k (.int .u8 (x.toNat : Int)) (by rw [bs_at hlt, ← (List.getElem?_eq_some_iff.1 hl1).2])
      have Hs := Lib.hid (zeroV_step hl1 Hk.out)
      have Hl1 := Lib.hid hl1
      clear hl1 hcell
      by_cases h5 : x = 0
      · have g : ((x.toNat : Int) != 0) = false := by simp [h5]
        have H5 := Lib.hid h5
        clear h5
        go_wp2_with fail
        go_roundw
        case rel => exact ⟨k + 1, by omega, by go_num, h0, Lib.hid (by rw [Hs.out]; exact decide_eq_true H5.out)⟩
        case measure => simp [intOf]; omega
      · have g : ((x.toNat : Int) != 0) = true := by
          rw [bne_iff_ne]
          intro h
          exact h5 (UInt8.toNat_inj.1 (by show x.toNat = 0; omega))
        have H5 := Lib.hid h5
        clear h5
        go_wp2_with fail
        go_ret
        refine ⟨?_, h0⟩
        rw [← Hr.out, zeroV_no Hl1.out H5.out]
        rfl
    · obtain rfl : k = l.length := by omega
      go_wp2_with fail
      go_ret
      refine ⟨?_, h0⟩
      have h := Hk.out
      rw [List.take_length] at h
      rw [← Hr.out, h]
      rfl
end Go.Proofs.YtokfhockdakhiaaDoor.Block

namespace Go.Proofs.YtokfhockdakhiaaDoor.Range
open Go.RowKit Go.Proofs.YtokfhockdakhiaaDoor.Base

variable {F : Fence} {n : Nat} {P : Program}

/-- The iterator's word: whatever the caller keeps (J), if each element x, handed on in a world where C x is so, keeps it, then all have come (S), or the first of them (Sp). -/
def SeqC {α : Type} (F : Fence) (n : Nat) (P : Program) (g : Nat) (lb : Array Value) (encs : α → Array Value) (C : α → World → Prop) (Kp : World → World → Prop) (S Sp : List α → Prop) (N : Nat) (w : World) : Prop :=
  ∀ (l : Nat) (J Jx : List α → World → Prop) (W : World), Below w.heap.size w W → AbidesFrom W.heap.size J → AbidesFrom W.heap.size Jx →
    (∀ pre x W1, J pre W1 → C x W1 → pre.length < N → YieldAt F (n - 1) P l (encs x) W1 fun e W' =>
      (e = .returned (.bool true) ∧ J (pre ++ [x]) W' ∧ Kp W1 W') ∨ (e = .returned (.bool false) ∧ Jx (pre ++ [x]) W')) →
    J [] W →
    CallsIn F n P g (#[.func (.yield l) #[] #[]] ++ lb) W fun e W' => (∃ v, e = .returned v) ∧ ((∃ xs, S xs ∧ J xs W') ∨ (∃ pre, Sp pre ∧ Jx pre W'))

/-- What a caller keeps, beside the loop's record (block l) and the block for the rounds' deferred calls (block d). -/
def Kept (l d : Nat) (r : Loop) (I : World → Prop) (W : World) : Prop := I W ∧ W.heap[l]? = some (.loop r) ∧ W.heap[d]? = some (.deferred (some []))

theorem Kept.abides {β : Type} {B l d : Nat} {r : Loop} {I : β → World → Prop} {n₀ : Nat} (hI : OwnFrom n₀ I) (hB : n₀ ≤ B) : AbidesFrom B fun s W => Kept l d r (I s) W := by
  rintro s X Y row ⟨hs, hl, hd⟩ hg hrow
  have hw : ∀ r, row = some r → ∃ o : Obj, X.heap[r]? = some o ∧ o.isWalk = true := fun r e => (hrow r e).2
  refine ⟨hI s X Y row hs hg fun r e => ?_, (grownBy_keeps hg hw hl rfl).trans hl, (grownBy_keeps hg hw hd rfl).trans hd⟩
  obtain ⟨h1, o, h2, h3⟩ := hrow r e
  exact ⟨Nat.le_trans hB h1, o, h2, Obj.not_cells_of_walk h3⟩

/-- The law: 'for x := range seq { body }', the body told of what C says. -/
theorem range_c {α : Type} {g : Operand} {ps : Array Tmp} {assign body : Code} {Q : Exit → Act → World → Prop} {a : Act} {w : World}
    (hro : F.round = none) (h1 : 1 ≤ n) {gf : Nat} {lb : Array Value} (hg : a.eval g = .func (.func gf) #[] lb) (hFg : F.fn gf) (eg : ∀ args w, (callFunc gf args).run P w = .ok (.enter gf args) w)
    {encs : α → Array Value} {C : α → World → Prop} {Kp : World → World → Prop} {S Sp : List α → Prop} {N : Nat} {w0 : World} (hseq : SeqC F (n - 1) P gf lb encs C Kp S Sp N w0) (hb0 : Below w0.heap.size w0 w)
    (hKt : ∀ {A B D : World}, Kp A B → Kp B D → Kp A D) (hKb : ∀ (W : World) (l : Nat) (o o' : Obj), w.heap.size ≤ l → W.heap[l]? = some o → o.isCells = false → o.isWalk = false → Kp W (W.putObj l o')) (hps : ∀ x, (encs x).size = ps.size)
    (I : List α → World → Prop) (Ix : Code → List α → World → Prop) (hI : OwnFrom w.heap.size I) (hIx : ∀ c, OwnFrom w.heap.size (Ix c)) (h0 : I [] w)
    (Ax : α → Act → World → Prop) (hAx : ∀ x a', OwnFrom w.heap.size (fun (_ : Unit) W => Ax x a' W))
    (hassign : ∀ (l : Nat) (pre : List α) (x : α) (W : World) (K : Act → World → Prop), I pre W → C x W → (∀ a' W', KeepsFrom w.heap.size W W' → Kp W W' → I pre W' → Ax x a' W' → K a' W') →
      assign.wpIn (F.inRound l) (n - 1 - 1) P (Exit.then K (fun _ _ _ => False)) { tmps := (ps.zip (encs x)).foldl (fun t (p, v) => t.setIfInBounds p v) a.tmps, defers := [] } W)
    (hbody : ∀ (l : Nat) (pre : List α) (x : α) (a' : Act) (W : World), w.heap.size ≤ l → (∃ r, W.heap[l]? = some (.loop r)) → I pre W → Ax x a' W → pre.length < N → body.wpIn (F.inRound l) (n - 1 - 1) P (ownPostG w.heap.size Kp I Ix (pre ++ [x]) W) a' W)
    (hdone : ∀ (D : Nat) (xs : List α) (W : World), w.heap.size ≤ D → S xs → I xs W → W.heap[D]? = some (.deferred (some [])) → Q .normal { a with defers := { target := .collected D, args := #[] } :: a.defers } W)
    (hstop : ∀ (D : Nat) (c : Code) (pre : List α) (W : World), w.heap.size ≤ D → Sp pre → Ix c pre W → W.heap[D]? = some (.deferred (some [])) → c.wpIn F n P Q { a with defers := { target := .collected D, args := #[] } :: a.defers } W) :
    (Code.rangeFunc g ps assign body).wpIn F n P Q a w := by
  refine wpIn_rangeFunc fun fn hfn => ?_
  obtain ⟨mk, hmk⟩ : ∃ mk : LoopState → Option Code → Loop, mk = fun st pe => { state := st, pending := pe, fn, tmps := a.tmps, params := ps, assign, body, defers := w.heap.size } := ⟨_, rfl⟩
  obtain ⟨d, hd⟩ : ∃ d, d = w.heap.size := ⟨_, rfl⟩
  obtain ⟨V, hV⟩ : ∃ V, V = (w.alloc (.deferred (some []))).alloc (.loop (mk .ready none)) := ⟨_, rfl⟩
  have hVs : V.heap.size = d + 2 := by rw [hV, hd]; simp
  -- what lies there when the iterator begins
  have start : Kept (d + 1) d (mk .ready none) (I []) V := by
    refine ⟨by rw [hV]; exact hI.alloc _ (hI.alloc _ h0), ?_, ?_⟩
    · have h := World.alloc_heap_new (w.alloc (.deferred (some []))) (.loop (mk .ready none))
      rw [World.size_alloc] at h
      rw [hV, hd]
      exact h
    · rw [hV, hd]
      exact (Below.heap_alloc _ _ _ (by simp)).trans (World.alloc_heap_new w _)
  -- the record turned: what the caller keeps stays
  have turn : ∀ {β : Type} {X : β → World → Prop} (s : β) (W : World) (r r' : Loop), OwnFrom w.heap.size X → Kept (d + 1) d r (X s) W → Kept (d + 1) d r' (X s) (W.putObj (d + 1) (.loop r')) := by
    rintro β X s W r r' hX ⟨hs, hl, hk⟩
    exact ⟨hX.putObj _ hs (by omega) hl rfl, World.putObj_heap_same (Array.getElem?_eq_some_iff.1 hl).1, (World.putObj_heap_other (by omega)).trans hk⟩
  have turnK : ∀ (W : World) (r r' : Loop), W.heap[d + 1]? = some (.loop r) → Kp W (W.putObj (d + 1) (.loop r')) := fun W r r' h => hKb W (d + 1) _ _ (by omega) h rfl rfl
  rw [hro]
  refine ⟨d + 1, [{ target := .collected d, args := #[] }], V, { target := .fn (.func gf) lb, args := #[.func (.yield (d + 1)) #[] #[]] }, V, gf, #[.func (.yield (d + 1)) #[] #[]] ++ lb, V, ?_, ?_, ?_, ?_, fun _ => h1, ?_⟩
  · rw [hV, hmk, hd]
    exact run_enterLoop_outer _ _ _ _ _
  · simp only [resolve, hg]
    simp [go_sem]
  · intro f' hf'
    simp [Target.leads] at hf'
    subst hf'
    exact hFg
  · simp [invoke, go_sem, eg]
  refine (hseq (d + 1) (fun pre W => Kept (d + 1) d (mk .ready none) (I pre) W) (fun pre W => ∃ c, Kept (d + 1) d (mk .done (some c)) (Ix c pre) W) V
    (hb0.trans (by rw [hV]; exact (((Below.refl _ w).alloc (Nat.le_refl _) _).alloc (by simp) _).mono hb0.size))
    (Kept.abides hI (by omega)) (fun s X Y row hs hgr hr => by
      obtain ⟨c, hc⟩ := hs
      exact ⟨c, Kept.abides (B := V.heap.size) (hIx c) (by omega) s X Y row hc hgr hr⟩) ?round start).mono ?_
  case round =>
    rintro pre x W ⟨hi, hl, hk⟩ hc hlen
    have hy := run_yield (P := P) (args := encs x) hl (by rw [hmk]; exact hps x)
    rw [hmk] at hy
    refine ⟨fn, _, assign, body, hy, roundIn_of_wpIn hfn (hassign _ pre x W _ hi hc fun a' Z hkz hpz hiz haz => ?_)⟩
    clear hy
    have hlz := hkz.same _ _ (by omega) hl rfl
    have hdz := hkz.same _ _ (by omega) hk rfl
    obtain ⟨R, hR⟩ : ∃ R : Loop, R = { mk .ready none with state := .busy } := ⟨_, rfl⟩
    have hbeg := run_beginRound (P := P) hlz (by rw [hmk])
    rw [← hR] at hbeg
    refine ⟨_, hbeg, ?_⟩
    obtain ⟨hiy, hly, hdy⟩ := turn (X := I) pre Z _ R hI ⟨hiz, hlz, hdz⟩
    have hpy := turnK Z _ R hlz
    refine wpIn_mono (hbody _ pre x a' _ (by omega) ⟨_, hly⟩ hiy ((hAx x a').putObj (s := ()) _ haz (by omega) hlz rfl) hlen) ?_
    -- behind the body: the record is ready, or done, again
    have back : ∀ (jump : Option Code) (U : World), KeepsFrom w.heap.size (Z.putObj (d + 1) (.loop R)) U → U.heap[d + 1]? = some (.loop R) ∧ U.heap[d]? = some (.deferred (some [])) ∧
        (Instr.endRound (d + 1) jump).run P U = .ok (.bool jump.isNone) (U.putObj (d + 1) (.loop (mk (if jump.isNone then .ready else .done) jump))) := by
      intro jump U hU
      have hlu := hU.same _ _ (by omega) hly rfl
      have hend := run_endRound (P := P) jump hlu
      rw [hR, hmk] at hend
      refine ⟨hlu, hU.same _ _ (by omega) hdy rfl, ?_⟩
      rw [hmk]
      exact hend
    have left : ∀ (c : Code) (U : World), KeepsFrom w.heap.size (Z.putObj (d + 1) (.loop R)) U → Ix c (pre ++ [x]) U → ∃ v U', (Instr.endRound (d + 1) (some c)).run P U = .ok v U' ∧
        ((Ending.returned v = .returned (.bool true) ∧ Kept (d + 1) d (mk .ready none) (I (pre ++ [x])) U' ∧ Kp W U') ∨ (Ending.returned v = .returned (.bool false) ∧ ∃ c, Kept (d + 1) d (mk .done (some c)) (Ix c (pre ++ [x])) U')) := by
      intro c U hU hx
      obtain ⟨hlu, hdu, hend⟩ := back (some c) U hU
      exact ⟨_, _, hend, .inr ⟨rfl, c, turn (X := Ix c) _ U _ _ (hIx c) ⟨hx, hlu, hdu⟩⟩⟩
    rintro e b U hp
    cases e with
    | normal =>
      obtain ⟨hU, hpU, hiU⟩ := hp
      obtain ⟨hlu, hdu, hend⟩ := back none U hU
      exact ⟨_, _, hend, .inl ⟨rfl, turn (X := I) _ U _ _ hI ⟨hiU, hlu, hdu⟩, hKt hpz (hKt hpy (hKt hpU (turnK U _ _ hlu)))⟩⟩
    | ret => exact left .ret U hp.1 hp.2
    | exit id => exact left (.exit id) U hp.1 hp.2
    | goto t => exact left (.goto t) U hp.1 hp.2
    | panic ch => exact hp.elim
    | outgrown => exact hp.elim
  · rintro e U ⟨⟨v, rfl⟩, (⟨xs, hS, hkept⟩ | ⟨pre, hSp, c, hkept⟩)⟩
    · have hend := run_endLoop (P := P) hkept.2.1 (by rw [hmk]; simp)
      have hpe : (mk .ready none).pending = none := by rw [hmk]
      obtain ⟨hi, _, hk⟩ := turn (X := I) xs U _ { mk .ready none with state := .exhausted } hI hkept
      exact ⟨none, U.putObj (d + 1) (.loop { mk .ready none with state := .exhausted }), hend.trans (congrArg (fun q => Result.ok q _) hpe), hdone d xs _ (by omega) hS hi hk⟩
    · have hend := run_endLoop (P := P) hkept.2.1 (by rw [hmk]; simp)
      have hpe : (mk .done (some c)).pending = some c := by rw [hmk]
      obtain ⟨hi, _, hk⟩ := turn (X := Ix c) pre U _ { mk .done (some c) with state := .exhausted } (hIx c) hkept
      exact ⟨some c, U.putObj (d + 1) (.loop { mk .done (some c) with state := .exhausted }), hend.trans (congrArg (fun q => Result.ok q _) hpe), hstop d c pre _ (by omega) hSp hi hk⟩
end Go.Proofs.YtokfhockdakhiaaDoor.Range

namespace Go.Proofs.YtokfhockdakhiaaDoor.Block
open Go.RowKit Go.Shelf Go.Proofs.YtokfhockdakhiaaDoor.Base Go.Proofs.YtokfhockdakhiaaDoor.BlockM Go.Proofs.YtokfhockdakhiaaDoor.Range Go.Proofs.YtokfhockdakhiaaDoor.Str

attribute [local go_sem] Oper.semAt_some

theorem byte_info : (Tryd.prog.info? 5).map (fun i => (i.zero, i.size, i.bytes)) = some (some (.int .u8 0), 1, 1) := by kernel_rfl
theorem byte_size : (Tryd.prog.info? 5).map (·.size) = some 1 := by kernel_rfl
theorem bytes_info : (Tryd.prog.info? 22).map (fun i => (i.zero, i.size, i.bytes)) = some (some (.slice none 0 0), 1, 24) := by kernel_rfl

/-- A block that is handed on: the number of its memory, and its bytes. -/
abbrev Handed := Nat × L
def Holds (x : Handed) (W : World) : Prop := Blk W x.1 5 (bs x.2).toArray
def hand (x : Handed) : Array Value := #[.slice (some ⟨x.1, 0, none⟩) 512 512]

theorem filled (s : L) : (bs (s.take 512) ++ (Array.replicate 512 (Value.int .u8 0)).toList.drop (min s.length 512)) = bs (blk s) := by
  rw [Array.toList_replicate, List.drop_replicate, blk, bs_append]
  congr 1
  rw [noughts, bs, List.map_replicate, show 512 - min s.length 512 = 512 - s.length by omega]
  rfl
theorem filled_arr (s : L) : ((bs (s.take 512) ++ (Array.replicate 512 (Value.int .u8 0)).toList.drop (min s.length 512)).toArray) = (bs (blk s)).toArray := by rw [filled]
theorem drop_on (s : L) (k : Nat) : (s.drop (512 * k)).drop (min (s.drop (512 * k)).length 512) = s.drop (512 * (k + 1)) := by
  rw [List.drop_drop]
  by_cases h : 512 ≤ (s.drop (512 * k)).length
  · rw [Nat.min_eq_right h]
    congr 1
  · rw [List.length_drop] at h ⊢
    rw [List.drop_of_length_le (by omega), List.drop_of_length_le (by omega)]

theorem new_row {w w2 : World} {o : Obj} (h : (w.alloc o).grownBy w2 (some w.heap.size)) : w.grownBy w2 none :=
  ⟨h.os, h.tape, h.output, Nat.le_trans (by simp) h.size, fun k hk _ => (h.block k (by simp; omega) (by simp; omega)).trans (Below.heap_alloc w o k hk)⟩

def val (x : Handed) : Value := .slice (some ⟨x.1, 0, none⟩) 512 512

theorem blk_not_row {W : World} {g : Nat} {t e : TypeId} {cs : Array Value} (h : Blk W g t cs) (hte : t ≠ e) {base size k : Nat} {v : Value} {xs : List Value} (hr : W.ownsRow base e size v k xs) : some g ≠ v.ownBlock := by
  obtain ⟨_, ⟨rfl, _⟩ | ⟨g', cap, cur, rfl, _, hg, _⟩⟩ := hr
  · simp [Value.ownBlock]
  · simp only [Value.ownBlock]
    rintro e'
    cases e'
    unfold Blk at h
    rw [hg] at h
    cases h
    exact hte rfl
theorem blk_not_box {W : World} {g b : Nat} {t e : TypeId} {cs : Array Value} {v : Value} (h : Blk W g t cs) (hte : t ≠ e) (hb : Boxed W b e v) : g ≠ b := by
  rintro rfl
  unfold Blk at h
  rw [show W.heap[g]? = _ from hb] at h
  cases h
  exact hte rfl
theorem holds_own (B : Nat) : OwnFrom B (fun (pre : List Handed) W => ∀ x ∈ pre, Holds x W) := fun _ _ _ _ hs hg hr x hx =>
  (grownBy_keeps_cells hg (fun r e => (hr r e).2) (hs x hx) rfl).trans (hs x hx)
theorem holds_own1 (B : Nat) (x : Handed) : OwnFrom B (fun (_ : Unit) W => Holds x W) := fun _ _ _ _ hs hg hr =>
  (grownBy_keeps_cells hg (fun r e => (hr r e).2) hs rfl).trans hs

/-- The slice at A holds slices of whole blocks of bytes, of 512 bytes each, that hold the texts ls. -/
def RdH (w : World) (A : Option Addr) (cap : Nat) (ls : List L) : Prop :=
  ∃ ys : List Handed, ys.map (·.2) = ls ∧ (∀ b ∈ ls, b.length = 512) ∧ RdA w A cap (ys.map val) ∧ ∀ x ∈ ys, Holds x w
theorem RdH.keep {w w' : World} {A : Option Addr} {cap : Nat} {ls : List L} (h : RdH w A cap ls) (hs : Stp w w') : RdH w' A cap ls := by
  obtain ⟨ys, h1, h2, h3, h4⟩ := h
  exact ⟨ys, h1, h2, h3.keep hs, fun x hx => Blk.keep (h4 x hx) hs (Blk.lt (h4 x hx))⟩
theorem RdH.rdL {w : World} {A : Option Addr} {cap : Nat} {ls : List L} (h : RdH w A cap ls) : RdL w A cap ls := by
  obtain ⟨ys, he, h5, hA, hh⟩ := h
  have hlen : ys.length = ls.length := by rw [← he, List.length_map]
  refine ⟨ys.map val, by rw [List.length_map, hlen], hA, fun j l hj => ?_⟩
  rw [← he, List.getElem?_map] at hj
  obtain ⟨x, hx, rfl⟩ := Option.map_eq_some_iff.1 hj
  have hm := List.mem_of_getElem? hx
  have hb : Blk w x.1 5 (bs x.2).toArray := hh x hm
  have hx5 : x.2.length = 512 := h5 _ (by rw [← he]; exact List.mem_map_of_mem hm)
  refine ⟨val x, by rw [List.getElem?_map, hx]; rfl, ?_⟩
  have h := (Base.Own.of_blk (lo := 0) hb (Nat.zero_le _) (n := 512) (by simp [bs_length, hx5]) (by unfold maxLen; omega)).rd
  simpa [val] using h

/-- What was handed on, gathered in a slice, reads as the blocks. -/
theorem gathered {W : World} {v : Value} {ys : List Handed} {bl : List L} (hr : Rd W W.heap.size v (ys.map val)) (hh : ∀ x ∈ ys, Holds x W) (he : ys.map (·.2) = bl) (h5 : ∀ b ∈ bl, b.length = 512) :
    ∃ A cap, v = .slice A bl.length cap ∧ RdH W A cap bl := by
  have hlen : ys.length = bl.length := by rw [← he, List.length_map]
  obtain ⟨A, cap, rfl, hA⟩ := RdA.of hr
  rw [List.length_map]
  exact ⟨A, cap, by rw [hlen], ys, he, h5, hA, hh⟩

end Go.Proofs.YtokfhockdakhiaaDoor.Block

namespace Go.Proofs.YtokfhockdakhiaaDoor.Builder
open Go.RowKit Go.Proofs.YtokfhockdakhiaaDoor.Base

theorem byte_info : (Tryd.prog.info? 5).map (fun i => (i.zero, i.size, i.bytes)) = some (some (.int .u8 0), 1, 1) := by kernel_rfl
theorem byte_cells : Tryd.prog.cellsOf 5 = 1 := by kernel_rfl

end Go.Proofs.YtokfhockdakhiaaDoor.Builder

namespace Go.Proofs.YtokfhockdakhiaaDoor.Block
open Go.RowKit Go.Shelf Go.Proofs.YtokfhockdakhiaaDoor.Base Go.Proofs.YtokfhockdakhiaaDoor.BlockM Go.Proofs.YtokfhockdakhiaaDoor.Str

theorem flatten_step {ls : List L} {k : Nat} {l : L} (hl : ls[k]? = some l) : (ls.take (k + 1)).flatten = (ls.take k).flatten ++ l := by
  rw [List.take_add_one, hl, List.flatten_append]
  simp
theorem flatten_le {ls : List L} (h : mayV ls = true) (k : Nat) : (ls.take k).flatten.length ≤ 512 * ls.length := by
  have h' : mayV (ls.take k) = true := mayV_iff.2 fun b hb => mayV_iff.1 h b (List.mem_of_mem_take hb)
  rw [may_flatten h', List.length_take]
  omega

end Go.Proofs.YtokfhockdakhiaaDoor.Block

namespace Go.Proofs.YtokfhockdakhiaaDoor.Block
open Go.RowKit Go.Shelf Go.Proofs.YtokfhockdakhiaaDoor.Base Go.Proofs.YtokfhockdakhiaaDoor.BlockM Go.Proofs.YtokfhockdakhiaaDoor.Str

theorem stp_of_grown {w w1 : World} (h : w.grownBy w1 none) : Stp w w1 := ⟨h.os, h.tape, h.output, h.size, fun j hj => h.block j hj (by simp)⟩
/-- A row of bytes 0, as a string. -/
theorem noughts_str {w : World} {g k : Nat} (h : Blk w g 5 (Array.replicate k (.int .u8 0))) (hk : k ≤ 100000) :
    (convert 22 9 (.slice (some ⟨g, 0, none⟩) k k)).run Tryd.prog w = .ok (.string ⟨(noughts k).toArray⟩) w := by
  have hrd : Rd w w.heap.size (.slice (some ⟨g, 0, none⟩) k k) (bs (noughts k)) := by
    have h' := (Base.Own.of_blk (lo := 0) h (Nat.zero_le _) (n := k) (by simp) (by unfold maxLen; omega)).rd
    simpa [noughts, bs] using h'
  exact run_string_rd (P := Tryd.prog) w 22 9 5 Tryd.underlying22 Tryd.underlying5 Tryd.underlying9 _ _ _ hrd

/-- k bytes, the first i of them 1, the others 0. -/
def ones (k i : Nat) : L := List.replicate i 1 ++ noughts (k - i)
theorem ones_length {k i : Nat} (h : i ≤ k) : (ones k i).length = k := by simp [ones, noughts]; omega
theorem ones_set {k i : Nat} (h : i < k) : (ones k i).set i 1 = ones k (i + 1) := by
  obtain ⟨j, hj⟩ : ∃ j, k - i = j + 1 := ⟨k - i - 1, by omega⟩
  rw [ones, ones, noughts, hj, List.replicate_succ, List.set_append_right _ _ (by simp), List.length_replicate, Nat.sub_self, List.set_cons_zero, List.replicate_succ', noughts, show k - (i + 1) = j by omega]
  simp

/-- At most 60 blocks, of at most 600 bytes each? -/
def fewV (ls : List L) : Bool := decide (ls.length ≤ 60) && ls.all fun b => decide (b.length ≤ 600)
theorem fewV_iff {ls : List L} : fewV ls = true ↔ ls.length ≤ 60 ∧ ∀ b ∈ ls, b.length ≤ 600 := by simp [fewV]

/-- The chapter's example: 513 bytes 1 take two blocks. -/
theorem example_facts {s : L} (hs : s = List.replicate 513 1) :
    s.length = 513 ∧ (cutV s).length = 2 ∧ (cutV s)[1]? = some (1 :: noughts 511) := by
  have hl : s.length = 513 := by rw [hs, List.length_replicate]
  refine ⟨hl, by rw [cutV_length, hl]; rfl, ?_⟩
  rw [cutV_at (by rw [hl]; decide), hs, List.drop_replicate, blk]
  rfl

end Go.Proofs.YtokfhockdakhiaaDoor.Block

