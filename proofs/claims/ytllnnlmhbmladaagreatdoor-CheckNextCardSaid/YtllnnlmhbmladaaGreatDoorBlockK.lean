/-
  What the library's functions on slices of bytes return at this program's numbers (bytes.Equal, slices.EqualFunc over it), and package block's May, Same, Zero, Many: no statement is proved here.
  A range over a function whose elements bear content (each is handed on with a fact on the world in which it is handed on): a law over any program; no statement is proved here.
  Contracts of package block's iterator over the blocks of a text, and of list that ranges over it: no statement is proved here.
  What strings.Builder's methods return at this program's numbers (Write, String), at a builder that the call has laid itself: no statement is proved here.
  Contracts of package block: Cut, Zeros, join, Text: no statement is proved here.
  The statements' helpers for blocks (long, Few, awake): no statement is proved here.
-/
import Derived.Test.YtllnnlmhbmladaaGreatDoorProg
import Derived.Test.YtllnnlmhbmladaaGreatDoorBase
import Derived.Test.YtllnnlmhbmladaaGreatDoorBlockM
import Derived.WalkKit
import Derived.IntWalk
import Derived.RangeFuncNested
import Derived.RangeFuncBound
import Derived.RangeFuncCalls
import Derived.RangeFuncLeaves
import Derived.RangeFuncBox
import Derived.Shelf.Abstract
import Derived.Shelf.RegionOpen
import Derived.OwnWalkIn
import Derived.TacticsInMore
import Derived.LoopNIn
import Derived.LoopIn
import Derived.Lib.Builder
import Derived.Lib.UnsafeStr
import Derived.Laws.Externs
import Derived.Laws.Entries
import Derived.BigQuiet
import Derived.Deep.QuietTactic
namespace Go.Proofs.YtllnnlmhbmladaaGreatDoor.Block
open Go.RowKit Go.Proofs.YtllnnlmhbmladaaGreatDoor.Base Go.Proofs.YtllnnlmhbmladaaGreatDoor.BlockM

theorem str_rd {w : World} {A : Option Addr} {c : Nat} {l : L} (h : RdA w A c (bs l)) :
    (convert 46 9 (.slice A l.length c)).run Tryz.prog w = .ok (.string ⟨l.toArray⟩) w := by
  have h' := h
  unfold RdA at h'
  rw [bs_length] at h'
  exact run_string_rd (P := Tryz.prog) w 46 9 5 Tryz.underlying46 Tryz.underlying5 Tryz.underlying9 _ _ _ h'

set_option maxRecDepth 100000 in
theorem equal_s (l m : L) (A B : Option Addr) (c d : Nat) (w : World) (ha : RdA w A c (bs l)) (hb : RdA w B d (bs m)) :
    Calls Tryz.prog 37 #[.slice A l.length c, .slice B m.length d] w fun e w' => e = .returned (.bool (l == m)) ∧ Stp w w' := by
  have h0 := Stp.refl w
  have c1 := str_rd ha
  have c2 := str_rd hb
  go_enter Tryz.func37, Tryz.ntmps37
  go_wp2_with fail
  go_ret
  exact ⟨rfl, h0⟩

theorem take_succ_eq {ls ms : List L} {k : Nat} {l m : L} (hl : ls[k]? = some l) (hm : ms[k]? = some m) (h : ls.take k = ms.take k) : (ls.take (k + 1) = ms.take (k + 1)) ↔ l = m := by
  rw [List.take_add_one, List.take_add_one, hl, hm, h]
  simp

set_option maxRecDepth 100000 in
set_option maxHeartbeats 1000000 in
theorem same_lists (ls ms : List L) (A B : Option Addr) (c d : Nat) (w : World) (ha : RdL w A c ls) (hb : RdL w B d ms) (hl : ls.length < 9223372036854775808) (hm : ms.length < 9223372036854775808) :
    Calls Tryz.prog 112 #[.slice A ls.length c, .slice B ms.length d, .func (.func 37) #[] #[]] w fun e w' => e = .returned (.bool (ls == ms)) ∧ Stp w w' := by
  have h0 := Stp.refl w
  by_cases hlen : ls.length = ms.length
  · have g0 : ((ls.length : Int) != (ms.length : Int)) = false := by simp [hlen]
    rw [← hlen]
    rw [← hlen] at g0
    obtain ⟨r, hr⟩ : ∃ r, (ls == ms) = r := ⟨_, rfl⟩
    rw [hr]
    have Hr := Lib.hid hr
    have Hlen := Lib.hid hlen
    clear hr hlen
    go_enter Tryz.func112, Tryz.ntmps112
    go_wp2_with fail
    go_loopw [17] (fun i wr => ∃ k : Nat, k ≤ ls.length ∧ i = .int .i64 k ∧ Stp w wr ∧ Hid (ls.take k = ms.take k)) (fun i _ => ls.length - (intOf i).toNat)
    case atStart => exact ⟨0, by omega, rfl, Stp.refl w, Lib.hid (by simp)⟩
    case round =>
      obtain ⟨k, hk, rfl, h0, Hk⟩ := hrel
      by_cases hlt : k < ls.length
      · obtain ⟨l, hl1⟩ : ∃ l, ls[k]? = some l := ⟨_, List.getElem?_eq_getElem hlt⟩
        obtain ⟨m, hm1⟩ : ∃ m, ms[k]? = some m := ⟨_, List.getElem?_eq_getElem (by rw [← Hlen.out]; exact hlt)⟩
        obtain ⟨b, o, A1, c1, rfl, ca, ra⟩ := (ha.keep h0).at_ hl1
        obtain ⟨b', o', B1, d1, rfl, cb, rb⟩ := (hb.keep h0).at_ hm1
        have Hs := Lib.hid (take_succ_eq hl1 hm1 Hk.out)
        have Hl1 := Lib.hid hl1
        have Hm1 := Lib.hid hm1
        clear hl1 hm1
        cases he : (l == m)
        · have He := Lib.hid he
          clear he
          go_wp2_with (go_at_call 37; refine (equal_s l m _ _ _ _ _ ra rb).mono ?_; rintro e w' ⟨rfl, hs⟩; replace h0 := Stp.trans h0 hs; clear hs; rw [He.out])
          go_ret
          refine ⟨?_, h0⟩
          have e : r = false := by
            rw [← Hr.out, beq_eq_false_iff_ne]
            rintro rfl
            have h := Hs.out.1 rfl
            have h2 := He.out
            rw [h] at h2
            simp at h2
          rw [e]
          rfl
        · have He := Lib.hid he
          clear he
          go_wp2_with (go_at_call 37; refine (equal_s l m _ _ _ _ _ ra rb).mono ?_; rintro e w' ⟨rfl, hs⟩; replace h0 := Stp.trans h0 hs; clear hs; rw [He.out])
          go_roundw
          case rel => exact ⟨k + 1, by omega, by go_num, h0, Lib.hid (Hs.out.2 (by simpa using He.out))⟩
          case measure => simp [intOf]; omega
      · obtain rfl : k = ls.length := by omega
        go_wp2_with fail
        go_ret
        refine ⟨?_, h0⟩
        have e : r = true := by
          have h := Hk.out
          rw [List.take_length, Hlen.out, List.take_length] at h
          rw [← Hr.out, h]
          simp
        rw [e]
        rfl
  · have g0 : ((ls.length : Int) != (ms.length : Int)) = true := by simp; omega
    have e : (ls == ms) = false := by
      rw [beq_eq_false_iff_ne]
      rintro rfl
      exact hlen rfl
    rw [e]
    clear e
    go_enter Tryz.func112, Tryz.ntmps112
    go_wp2_with fail
    go_ret
    exact ⟨rfl, h0⟩

/-! ### package block -/
set_option maxRecDepth 100000 in
theorem same_s (ls ms : List L) (A B : Option Addr) (c d : Nat) (w : World) (ha : RdL w A c ls) (hb : RdL w B d ms) (hl : ls.length < 9223372036854775808) (hm : ms.length < 9223372036854775808) :
    Calls Tryz.prog 85 #[.slice A ls.length c, .slice B ms.length d] w fun e w' => e = .returned (.bool (ls == ms)) ∧ Stp w w' := by
  have h0 := Stp.refl w
  obtain ⟨r, hr⟩ : ∃ r, (ls == ms) = r := ⟨_, rfl⟩
  rw [hr]
  have Hr := Lib.hid hr
  clear hr
  go_enter Tryz.func85, Tryz.ntmps85
  go_wp2_with (go_at_call 112; refine (same_lists ls ms _ _ _ _ _ ha hb hl hm).mono ?_; rintro e w' ⟨rfl, hs⟩; replace h0 := Stp.trans h0 hs; clear hs; rw [Hr.out])
  go_ret
  exact ⟨rfl, h0⟩

set_option maxRecDepth 100000 in
/-- How many: any number. -/
theorem many_s (n : Int) (w : World) (hn : n < 9223372036854775808) (hn' : -9223372036854775808 ≤ n) :
    Calls Tryz.prog 64 #[.int .i64 n] w fun e w' => e = .returned (.int .i64 (manyV n)) ∧ Stp w w' := by
  have h0 := Stp.refl w
  by_cases h1 : n < 1
  · rw [manyV_neg h1]
    go_enter Tryz.func64, Tryz.ntmps64
    go_wp2_with fail
    go_ret
    exact ⟨rfl, h0⟩
  · have e : manyV n = (n - 1) / 512 + 1 := by simp [manyV, h1]
    have hb := manyV_bound hn
    rw [e] at hb ⊢
    clear e
    go_enter Tryz.func64, Tryz.ntmps64
    go_wp2_with fail
    go_ret
    exact ⟨rfl, h0⟩

theorem zeroV_step {l : L} {k : Nat} {x : UInt8} (hl : l[k]? = some x) (h : zeroV (l.take k) = true) : zeroV (l.take (k + 1)) = decide (x = 0) := by
  unfold zeroV at h ⊢
  rw [List.take_add_one, hl, List.all_append, h]
  simp
theorem zeroV_no {l : L} {k : Nat} {x : UInt8} (hl : l[k]? = some x) (h : x ≠ 0) : zeroV l = false := by
  rw [Bool.eq_false_iff]
  intro hm
  simp only [zeroV, List.all_eq_true, decide_eq_true_eq] at hm
  exact h (hm x (List.mem_of_getElem? hl))

set_option maxRecDepth 100000 in
theorem zero_s (l : L) (A : Option Addr) (c : Nat) (w : World) (ha : RdA w A c (bs l)) (hl : l.length < 9223372036854775808) :
    Calls Tryz.prog 54 #[.slice A l.length c] w fun e w' => e = .returned (.bool (zeroV l)) ∧ Stp w w' := by
  obtain ⟨r, hr⟩ : ∃ r, zeroV l = r := ⟨_, rfl⟩
  rw [hr]
  have Hr := Lib.hid hr
  clear hr
  go_enter Tryz.func54, Tryz.ntmps54
  go_wp2_with fail
  go_loopw [7] (fun i wr => ∃ k : Nat, k ≤ l.length ∧ i = .int .i64 k ∧ Stp w wr ∧ Hid (zeroV (l.take k) = true)) (fun i _ => l.length - (intOf i).toNat)
  case atStart => exact ⟨0, by omega, rfl, Stp.refl w, Lib.hid (by simp [zeroV])⟩
  case round =>
    obtain ⟨k, hk, rfl, h0, Hk⟩ := hrel
    by_cases hlt : k < l.length
    · obtain ⟨x, hl1⟩ : ∃ x, l[k]? = some x := ⟨_, List.getElem?_eq_getElem hlt⟩
      obtain ⟨b, o, rfl, hcell⟩ := (ha.keep h0).at_ (j := k) (by rw [bs_length]; exact hlt)
      have ca := hcell k (.int .u8 (x.toNat : Int)) (by rw [bs_at hlt, ← (List.getElem?_eq_some_iff.1 hl1).2])
      have Hs := Lib.hid (zeroV_step hl1 Hk.out)
      have Hl1 := Lib.hid hl1
      clear hl1 hcell
      by_cases h5 : x = 0
      · have g : ((x.toNat : Int) != 0) = false := by simp [h5]
        have H5 := Lib.hid h5
        clear h5
        go_wp2_with fail
        go_roundw
        case rel => exact ⟨k + 1, by omega, by go_num, h0, Lib.hid (by rw [Hs.out]; exact decide_eq_true H5.out)⟩
        case measure => simp [intOf]; omega
      · have g : ((x.toNat : Int) != 0) = true := by
          rw [bne_iff_ne]
          intro h
          exact h5 (UInt8.toNat_inj.1 (by show x.toNat = 0; omega))
        have H5 := Lib.hid h5
        clear h5
        go_wp2_with fail
        go_ret
        refine ⟨?_, h0⟩
        rw [← Hr.out, zeroV_no Hl1.out H5.out]
        rfl
    · obtain rfl : k = l.length := by omega
      go_wp2_with fail
      go_ret
      refine ⟨?_, h0⟩
      have h := Hk.out
      rw [List.take_length] at h
      rw [← Hr.out, h]
      rfl
end Go.Proofs.YtllnnlmhbmladaaGreatDoor.Block

namespace Go.Proofs.YtllnnlmhbmladaaGreatDoor.Range
open Go.RowKit Go.Proofs.YtllnnlmhbmladaaGreatDoor.Base

variable {F : Fence} {n : Nat} {P : Program}

/-- The iterator's word: whatever the caller keeps (J), if each element x, handed on in a world where C x is so, keeps it, then all have come (S), or the first of them (Sp). -/
def SeqC {α : Type} (F : Fence) (n : Nat) (P : Program) (g : Nat) (lb : Array Value) (encs : α → Array Value) (C : α → World → Prop) (Kp : World → World → Prop) (S Sp : List α → Prop) (N : Nat) (w : World) : Prop :=
  ∀ (l : Nat) (J Jx : List α → World → Prop) (W : World), Below w.heap.size w W → AbidesFrom W.heap.size J → AbidesFrom W.heap.size Jx →
    (∀ pre x W1, J pre W1 → C x W1 → pre.length < N → YieldAt F (n - 1) P l (encs x) W1 fun e W' =>
      (e = .returned (.bool true) ∧ J (pre ++ [x]) W' ∧ Kp W1 W') ∨ (e = .returned (.bool false) ∧ Jx (pre ++ [x]) W')) →
    J [] W →
    CallsIn F n P g (#[.func (.yield l) #[] #[]] ++ lb) W fun e W' => (∃ v, e = .returned v) ∧ ((∃ xs, S xs ∧ J xs W') ∨ (∃ pre, Sp pre ∧ Jx pre W'))

/-- What a caller keeps, beside the loop's record (block l) and the block for the rounds' deferred calls (block d). -/
def Kept (l d : Nat) (r : Loop) (I : World → Prop) (W : World) : Prop := I W ∧ W.heap[l]? = some (.loop r) ∧ W.heap[d]? = some (.deferred (some []))

theorem Kept.abides {β : Type} {B l d : Nat} {r : Loop} {I : β → World → Prop} {n₀ : Nat} (hI : OwnFrom n₀ I) (hB : n₀ ≤ B) : AbidesFrom B fun s W => Kept l d r (I s) W := by
  rintro s X Y row ⟨hs, hl, hd⟩ hg hrow
  have hw : ∀ r, row = some r → ∃ o : Obj, X.heap[r]? = some o ∧ o.isWalk = true := fun r e => (hrow r e).2
  refine ⟨hI s X Y row hs hg fun r e => ?_, (grownBy_keeps hg hw hl rfl).trans hl, (grownBy_keeps hg hw hd rfl).trans hd⟩
  obtain ⟨h1, o, h2, h3⟩ := hrow r e
  exact ⟨Nat.le_trans hB h1, o, h2, Obj.not_cells_of_walk h3⟩

/-- The law: 'for x := range seq { body }', the body told of what C says. -/
theorem range_c {α : Type} {g : Operand} {ps : Array Tmp} {assign body : Code} {Q : Exit → Act → World → Prop} {a : Act} {w : World}
    (hro : F.round = none) (h1 : 1 ≤ n) {gf : Nat} {lb : Array Value} (hg : a.eval g = .func (.func gf) #[] lb) (hFg : F.fn gf) (eg : ∀ args w, (callFunc gf args).run P w = .ok (.enter gf args) w)
    {encs : α → Array Value} {C : α → World → Prop} {Kp : World → World → Prop} {S Sp : List α → Prop} {N : Nat} {w0 : World} (hseq : SeqC F (n - 1) P gf lb encs C Kp S Sp N w0) (hb0 : Below w0.heap.size w0 w)
    (hKt : ∀ {A B D : World}, Kp A B → Kp B D → Kp A D) (hKb : ∀ (W : World) (l : Nat) (o o' : Obj), w.heap.size ≤ l → W.heap[l]? = some o → o.isCells = false → o.isWalk = false → Kp W (W.putObj l o')) (hps : ∀ x, (encs x).size = ps.size)
    (I : List α → World → Prop) (Ix : Code → List α → World → Prop) (hI : OwnFrom w.heap.size I) (hIx : ∀ c, OwnFrom w.heap.size (Ix c)) (h0 : I [] w)
    (Ax : α → Act → World → Prop) (hAx : ∀ x a', OwnFrom w.heap.size (fun (_ : Unit) W => Ax x a' W))
    (hassign : ∀ (l : Nat) (pre : List α) (x : α) (W : World) (K : Act → World → Prop), I pre W → C x W → (∀ a' W', KeepsFrom w.heap.size W W' → Kp W W' → I pre W' → Ax x a' W' → K a' W') →
      assign.wpIn (F.inRound l) (n - 1 - 1) P (Exit.then K (fun _ _ _ => False)) { tmps := (ps.zip (encs x)).foldl (fun t (p, v) => t.setIfInBounds p v) a.tmps, defers := [] } W)
    (hbody : ∀ (l : Nat) (pre : List α) (x : α) (a' : Act) (W : World), w.heap.size ≤ l → (∃ r, W.heap[l]? = some (.loop r)) → I pre W → Ax x a' W → pre.length < N → body.wpIn (F.inRound l) (n - 1 - 1) P (ownPostG w.heap.size Kp I Ix (pre ++ [x]) W) a' W)
    (hdone : ∀ (D : Nat) (xs : List α) (W : World), w.heap.size ≤ D → S xs → I xs W → W.heap[D]? = some (.deferred (some [])) → Q .normal { a with defers := { target := .collected D, args := #[] } :: a.defers } W)
    (hstop : ∀ (D : Nat) (c : Code) (pre : List α) (W : World), w.heap.size ≤ D → Sp pre → Ix c pre W → W.heap[D]? = some (.deferred (some [])) → c.wpIn F n P Q { a with defers := { target := .collected D, args := #[] } :: a.defers } W) :
    (Code.rangeFunc g ps assign body).wpIn F n P Q a w := by
  refine wpIn_rangeFunc fun fn hfn => ?_
  obtain ⟨mk, hmk⟩ : ∃ mk : LoopState → Option Code → Loop, mk = fun st pe => { state := st, pending := pe, fn, tmps := a.tmps, params := ps, assign, body, defers := w.heap.size } := ⟨_, rfl⟩
  obtain ⟨d, hd⟩ : ∃ d, d = w.heap.size := ⟨_, rfl⟩
  obtain ⟨V, hV⟩ : ∃ V, V = (w.alloc (.deferred (some []))).alloc (.loop (mk .ready none)) := ⟨_, rfl⟩
  have hVs : V.heap.size = d + 2 := by rw [hV, hd]; simp
  -- what lies there when the iterator begins
  have start : Kept (d + 1) d (mk .ready none) (I []) V := by
    refine ⟨by rw [hV]; exact hI.alloc _ (hI.alloc _ h0), ?_, ?_⟩
    · have h := World.alloc_heap_new (w.alloc (.deferred (some []))) (.loop (mk .ready none))
      rw [World.size_alloc] at h
      rw [hV, hd]
      exact h
    · rw [hV, hd]
      exact (Below.heap_alloc _ _ _ (by simp)).trans (World.alloc_heap_new w _)
  -- the record turned: what the caller keeps stays
  have turn : ∀ {β : Type} {X : β → World → Prop} (s : β) (W : World) (r r' : Loop), OwnFrom w.heap.size X → Kept (d + 1) d r (X s) W → Kept (d + 1) d r' (X s) (W.putObj (d + 1) (.loop r')) := by
    rintro β X s W r r' hX ⟨hs, hl, hk⟩
    exact ⟨hX.putObj _ hs (by omega) hl rfl, World.putObj_heap_same (Array.getElem?_eq_some_iff.1 hl).1, (World.putObj_heap_other (by omega)).trans hk⟩
  have turnK : ∀ (W : World) (r r' : Loop), W.heap[d + 1]? = some (.loop r) → Kp W (W.putObj (d + 1) (.loop r')) := fun W r r' h => hKb W (d + 1) _ _ (by omega) h rfl rfl
  rw [hro]
  refine ⟨d + 1, [{ target := .collected d, args := #[] }], V, { target := .fn (.func gf) lb, args := #[.func (.yield (d + 1)) #[] #[]] }, V, gf, #[.func (.yield (d + 1)) #[] #[]] ++ lb, V, ?_, ?_, ?_, ?_, fun _ => h1, ?_⟩
  · rw [hV, hmk, hd]
    exact run_enterLoop_outer _ _ _ _ _
  · simp only [resolve, hg]
    simp [go_sem]
  · intro f' hf'
    simp [Target.leads] at hf'
    subst hf'
    exact hFg
  · simp [invoke, go_sem, eg]
  refine (hseq (d + 1) (fun pre W => Kept (d + 1) d (mk .ready none) (I pre) W) (fun pre W => ∃ c, Kept (d + 1) d (mk .done (some c)) (Ix c pre) W) V
    (hb0.trans (by rw [hV]; exact (((Below.refl _ w).alloc (Nat.le_refl _) _).alloc (by simp) _).mono hb0.size))
    (Kept.abides hI (by omega)) (fun s X Y row hs hgr hr => by
      obtain ⟨c, hc⟩ := hs
      exact ⟨c, Kept.abides (B := V.heap.size) (hIx c) (by omega) s X Y row hc hgr hr⟩) ?round start).mono ?_
  case round =>
    rintro pre x W ⟨hi, hl, hk⟩ hc hlen
    have hy := run_yield (P := P) (args := encs x) hl (by rw [hmk]; exact hps x)
    rw [hmk] at hy
    refine ⟨fn, _, assign, body, hy, roundIn_of_wpIn hfn (hassign _ pre x W _ hi hc fun a' Z hkz hpz hiz haz => ?_)⟩
    clear hy
    have hlz := hkz.same _ _ (by omega) hl rfl
    have hdz := hkz.same _ _ (by omega) hk rfl
    obtain ⟨R, hR⟩ : ∃ R : Loop, R = { mk .ready none with state := .busy } := ⟨_, rfl⟩
    have hbeg := run_beginRound (P := P) hlz (by rw [hmk])
    rw [← hR] at hbeg
    refine ⟨_, hbeg, ?_⟩
    obtain ⟨hiy, hly, hdy⟩ := turn (X := I) pre Z _ R hI ⟨hiz, hlz, hdz⟩
    have hpy := turnK Z _ R hlz
    refine wpIn_mono (hbody _ pre x a' _ (by omega) ⟨_, hly⟩ hiy ((hAx x a').putObj (s := ()) _ haz (by omega) hlz rfl) hlen) ?_
    -- behind the body: the record is ready, or done, again
    have back : ∀ (jump : Option Code) (U : World), KeepsFrom w.heap.size (Z.putObj (d + 1) (.loop R)) U → U.heap[d + 1]? = some (.loop R) ∧ U.heap[d]? = some (.deferred (some [])) ∧
        (Instr.endRound (d + 1) jump).run P U = .ok (.bool jump.isNone) (U.putObj (d + 1) (.loop (mk (if jump.isNone then .ready else .done) jump))) := by
      intro jump U hU
      have hlu := hU.same _ _ (by omega) hly rfl
      have hend := run_endRound (P := P) jump hlu
      rw [hR, hmk] at hend
      refine ⟨hlu, hU.same _ _ (by omega) hdy rfl, ?_⟩
      rw [hmk]
      exact hend
    have left : ∀ (c : Code) (U : World), KeepsFrom w.heap.size (Z.putObj (d + 1) (.loop R)) U → Ix c (pre ++ [x]) U → ∃ v U', (Instr.endRound (d + 1) (some c)).run P U = .ok v U' ∧
        ((Ending.returned v = .returned (.bool true) ∧ Kept (d + 1) d (mk .ready none) (I (pre ++ [x])) U' ∧ Kp W U') ∨ (Ending.returned v = .returned (.bool false) ∧ ∃ c, Kept (d + 1) d (mk .done (some c)) (Ix c (pre ++ [x])) U')) := by
      intro c U hU hx
      obtain ⟨hlu, hdu, hend⟩ := back (some c) U hU
      exact ⟨_, _, hend, .inr ⟨rfl, c, turn (X := Ix c) _ U _ _ (hIx c) ⟨hx, hlu, hdu⟩⟩⟩
    rintro e b U hp
    cases e with
    | normal =>
      obtain ⟨hU, hpU, hiU⟩ := hp
      obtain ⟨hlu, hdu, hend⟩ := back none U hU
      exact ⟨_, _, hend, .inl ⟨rfl, turn (X := I) _ U _ _ hI ⟨hiU, hlu, hdu⟩, hKt hpz (hKt hpy (hKt hpU (turnK U _ _ hlu)))⟩⟩
    | ret => exact left .ret U hp.1 hp.2
    | exit id => exact left (.exit id) U hp.1 hp.2
    | goto t => exact left (.goto t) U hp.1 hp.2
    | panic ch => exact hp.elim
    | outgrown => exact hp.elim
  · rintro e U ⟨⟨v, rfl⟩, (⟨xs, hS, hkept⟩ | ⟨pre, hSp, c, hkept⟩)⟩
    · have hend := run_endLoop (P := P) hkept.2.1 (by rw [hmk]; simp)
      have hpe : (mk .ready none).pending = none := by rw [hmk]
      obtain ⟨hi, _, hk⟩ := turn (X := I) xs U _ { mk .ready none with state := .exhausted } hI hkept
      exact ⟨none, U.putObj (d + 1) (.loop { mk .ready none with state := .exhausted }), hend.trans (congrArg (fun q => Result.ok q _) hpe), hdone d xs _ (by omega) hS hi hk⟩
    · have hend := run_endLoop (P := P) hkept.2.1 (by rw [hmk]; simp)
      have hpe : (mk .done (some c)).pending = some c := by rw [hmk]
      obtain ⟨hi, _, hk⟩ := turn (X := Ix c) pre U _ { mk .done (some c) with state := .exhausted } (hIx c) hkept
      exact ⟨some c, U.putObj (d + 1) (.loop { mk .done (some c) with state := .exhausted }), hend.trans (congrArg (fun q => Result.ok q _) hpe), hstop d c pre _ (by omega) hSp hi hk⟩
end Go.Proofs.YtllnnlmhbmladaaGreatDoor.Range

namespace Go.Proofs.YtllnnlmhbmladaaGreatDoor.Block
open Go.RowKit Go.Shelf Go.Proofs.YtllnnlmhbmladaaGreatDoor.Base Go.Proofs.YtllnnlmhbmladaaGreatDoor.BlockM Go.Proofs.YtllnnlmhbmladaaGreatDoor.Range Go.Proofs.YtllnnlmhbmladaaGreatDoor.Str

attribute [local go_sem] Oper.semAt_some

theorem byte_info : (Tryz.prog.info? 5).map (fun i => (i.zero, i.size, i.bytes)) = some (some (.int .u8 0), 1, 1) := by kernel_rfl
theorem byte_size : (Tryz.prog.info? 5).map (·.size) = some 1 := by kernel_rfl
theorem bytes_info : (Tryz.prog.info? 46).map (fun i => (i.zero, i.size, i.bytes)) = some (some (.slice none 0 0), 1, 24) := by kernel_rfl

/-- A block that is handed on: the number of its memory, and its bytes. -/
abbrev Handed := Nat × L
def Holds (x : Handed) (W : World) : Prop := Blk W x.1 5 (bs x.2).toArray
def hand (x : Handed) : Array Value := #[.slice (some ⟨x.1, 0, none⟩) 512 512]

theorem filled (s : L) : (bs (s.take 512) ++ (Array.replicate 512 (Value.int .u8 0)).toList.drop (min s.length 512)) = bs (blk s) := by
  rw [Array.toList_replicate, List.drop_replicate, blk, bs_append]
  congr 1
  rw [noughts, bs, List.map_replicate, show 512 - min s.length 512 = 512 - s.length by omega]
  rfl
theorem filled_arr (s : L) : ((bs (s.take 512) ++ (Array.replicate 512 (Value.int .u8 0)).toList.drop (min s.length 512)).toArray) = (bs (blk s)).toArray := by rw [filled]
theorem drop_on (s : L) (k : Nat) : (s.drop (512 * k)).drop (min (s.drop (512 * k)).length 512) = s.drop (512 * (k + 1)) := by
  rw [List.drop_drop]
  by_cases h : 512 ≤ (s.drop (512 * k)).length
  · rw [Nat.min_eq_right h]
    congr 1
  · rw [List.length_drop] at h ⊢
    rw [List.drop_of_length_le (by omega), List.drop_of_length_le (by omega)]

theorem new_row {w w2 : World} {o : Obj} (h : (w.alloc o).grownBy w2 (some w.heap.size)) : w.grownBy w2 none :=
  ⟨h.os, h.tape, h.output, Nat.le_trans (by simp) h.size, fun k hk _ => (h.block k (by simp; omega) (by simp; omega)).trans (Below.heap_alloc w o k hk)⟩

set_option maxRecDepth 100000 in
set_option maxHeartbeats 1000000 in
/-- The iterator: the first n blocks of the text, in order, or the first of them, where a round has said no more. -/
theorem blocks1_in (m : Nat) (hm : 1 ≤ m) (l Bs Bn : Nat) (s : L) (n : Nat) (hs : s.length ≤ 9223372036854775807) (hn : n < 9223372036854775808) (J Jx : List Handed → World → Prop)
    (hJ : ∀ pre W W', J pre W → W.grownBy W' none → J pre W')
    (hY : ∀ pre x W, J pre W → Holds x W → pre.length < n → YieldAt Fence.wide (m - 1) Tryz.prog l (hand x) W fun e W' =>
      (e = .returned (.bool true) ∧ J (pre ++ [x]) W' ∧ True) ∨ (e = .returned (.bool false) ∧ Jx (pre ++ [x]) W'))
    (W : World) (hBs : W.cell? ⟨Bs, 0, none⟩ = some (.string ⟨s.toArray⟩)) (hBn : W.cell? ⟨Bn, 0, none⟩ = some (.int .i64 (n : Int))) (h0 : J [] W) :
    CallsIn Fence.wide m Tryz.prog 99 #[.func (.yield l) #[] #[], .pointer (some ⟨Bs, 0, none⟩), .pointer (some ⟨Bn, 0, none⟩)] W fun e W' => (∃ v, e = .returned v) ∧
      ((∃ ys, ys.map (·.2) = blks n s ∧ J ys W') ∨ (∃ pre, pre.map (·.2) <+: blks n s ∧ Jx pre W')) := by
  refine callsIn_of_wp Tryz.func99 rfl trivial ?_ rfl
  simp only [Tryz.ntmps99, List.size_toArray, List.length_cons, List.length_nil, Nat.reduceAdd, Nat.reduceSub, Array.replicate_succ, Array.replicate_zero, List.push_toArray, List.append_toArray, List.nil_append, List.cons_append]
  gi_wp2
  gi_loopw [4, 8] (fun r i wr => ∃ (k : Nat) (pre : List Handed), k ≤ n ∧ i = .int .i64 k ∧ r = .string ⟨(s.drop (512 * k)).toArray⟩ ∧ Hid (pre.map (·.2) = blks k s) ∧ pre.length = k ∧ J pre wr)
    (fun _ i _ => n - (intOf i).toNat)
  case atStart => exact ⟨0, [], by omega, rfl, by simp, Lib.hid rfl, rfl, h0⟩
  case round =>
    obtain ⟨k, pre, hk, rfl, rfl, Hp, hpl, hJs⟩ := hrel
    by_cases hlt : k < n
    · obtain ⟨rest, hrest⟩ : ∃ rest, s.drop (512 * k) = rest := ⟨_, rfl⟩
      have Hon : Hid (rest.drop (min rest.length 512) = s.drop (512 * (k + 1))) := Lib.hid (by rw [← hrest]; exact drop_on s k)
      rw [hrest]
      have Hrest := Lib.hid hrest
      have hcut := cut_l rest (min rest.length 512) (by omega)
      have hrl : rest.length ≤ 9223372036854775807 := by rw [← hrest, List.length_drop]; omega
      clear hrest
      gi_wp2_with (first
        | (gi_at_make; refine wpListIn_make_blk _ rfl (.const (.int .i64 512)) (.const (.int .i64 512)) 46 rfl 5 (.int .u8 0) 1 Tryz.underlying46 byte_info rfl .i64 .i64 512 512 rfl rfl rfl (by decide) (by unfold maxLen; omega) ?_)
        | (refine wpListIn_copy_str _ rfl (.tmp 12) (.tmp 13) 46 9 rfl 5 Tryz.underlying46 byte_size wr.heap.size 512 512 5 (Array.replicate 512 (.int .u8 0)) rest rfl rfl (Blk.new wr _ _) (by simp) ?_; intro w2 hb2 hg2; obtain ⟨fn, tmps, assign, body, hy, hR⟩ := hY pre (wr.heap.size, blk rest) w2 (hJ _ _ _ hJs (new_row hg2)) (by rw [filled_arr] at hb2; exact hb2) (by omega); dsimp only [hand] at hy))
      refine hR.mono ?_
      rintro e W3 (⟨rfl, hJ3, _⟩ | ⟨rfl, hJx3⟩)
      · gi_wp2
        go_roundw
        case rel => exact ⟨k + 1, pre ++ [(wr.heap.size, blk rest)], by omega, by go_num, by rw [Hon.out], Lib.hid (by rw [List.map_append, Hp.out, blks_snoc, Hrest.out]; rfl), by simp [hpl], hJ3⟩
        case measure => simp [intOf]; omega
      · gi_wp2
        refine bodyPost_ret (results_none rfl _ _ _) rfl ?_
        refine ⟨⟨_, rfl⟩, .inr ⟨pre ++ [(wr.heap.size, blk rest)], ?_, hJx3⟩⟩
        rw [List.map_append, Hp.out, ← Hrest.out]
        have h := blks_add (k + 1) (n - (k + 1)) s
        rw [show k + 1 + (n - (k + 1)) = n by omega, blks_snoc] at h
        exact ⟨_, h.symm⟩
    · obtain rfl : k = n := by omega
      gi_wp2
      go_end0
      exact ⟨⟨_, rfl⟩, .inl ⟨pre, Hp.out, hJs⟩⟩

/-- What blocks answers, in the form of the law. -/
theorem blocks_seq (m : Nat) (hm : 1 ≤ m) (Bs Bn : Nat) (s : L) (n : Nat) (hs : s.length ≤ 9223372036854775807) (hn : n < 9223372036854775808) (w : World) (hls : Bs < w.heap.size) (hln : Bn < w.heap.size)
    (hBs : w.cell? ⟨Bs, 0, none⟩ = some (.string ⟨s.toArray⟩)) (hBn : w.cell? ⟨Bn, 0, none⟩ = some (.int .i64 (n : Int))) :
    SeqC Fence.wide m Tryz.prog 99 #[.pointer (some ⟨Bs, 0, none⟩), .pointer (some ⟨Bn, 0, none⟩)] hand Holds (fun _ _ => True) (fun ys => ys.map (·.2) = blks n s) (fun pre => pre.map (·.2) <+: blks n s) n w := fun l J Jx W hW hJ _ hY h0 =>
  blocks1_in m hm l Bs Bn s n hs hn J Jx (fun pre A B h hg => hJ pre A B none h hg (fun r e => by cases e)) hY W ((hW.cell (p := ⟨Bs, 0, none⟩) hls).trans hBs) ((hW.cell (p := ⟨Bn, 0, none⟩) hln).trans hBn) h0

set_option maxRecDepth 100000 in
/-- blocks: the text and the number are boxed; the function value captures the boxes. -/
theorem blocks_any (s : ByteArray) (n : Int) (w : World) :
    Calls Tryz.prog 63 #[.string s, .int .i64 n] w fun e w' => e = .returned (.func (.func 99) #[] #[.pointer (some ⟨w.heap.size, 0, none⟩), .pointer (some ⟨w.heap.size + 1, 0, none⟩)]) ∧
      w' = (w.alloc (.cells #[.string s] 9)).alloc (.cells #[.int .i64 n] 3) := by
  have hmf : ∀ (fn : Fn) (first cap : Array Value) (w : World), (Instr.makeFunc fn first cap).run Tryz.prog w = .ok (.func fn first cap) w := fun _ _ _ _ => rfl
  go_enter Tryz.func63, Tryz.ntmps63
  go_wp2_with fail
  go_ret
  exact ⟨rfl, rfl⟩

def val (x : Handed) : Value := .slice (some ⟨x.1, 0, none⟩) 512 512

theorem blk_not_row {W : World} {g : Nat} {t e : TypeId} {cs : Array Value} (h : Blk W g t cs) (hte : t ≠ e) {base size k : Nat} {v : Value} {xs : List Value} (hr : W.ownsRow base e size v k xs) : some g ≠ v.ownBlock := by
  obtain ⟨_, ⟨rfl, _⟩ | ⟨g', cap, cur, rfl, _, hg, _⟩⟩ := hr
  · simp [Value.ownBlock]
  · simp only [Value.ownBlock]
    rintro e'
    cases e'
    unfold Blk at h
    rw [hg] at h
    cases h
    exact hte rfl
theorem blk_not_box {W : World} {g b : Nat} {t e : TypeId} {cs : Array Value} {v : Value} (h : Blk W g t cs) (hte : t ≠ e) (hb : Boxed W b e v) : g ≠ b := by
  rintro rfl
  unfold Blk at h
  rw [show W.heap[g]? = _ from hb] at h
  cases h
  exact hte rfl
theorem holds_own (B : Nat) : OwnFrom B (fun (pre : List Handed) W => ∀ x ∈ pre, Holds x W) := fun _ _ _ _ hs hg hr x hx =>
  (grownBy_keeps_cells hg (fun r e => (hr r e).2) (hs x hx) rfl).trans (hs x hx)
theorem holds_own1 (B : Nat) (x : Handed) : OwnFrom B (fun (_ : Unit) W => Holds x W) := fun _ _ _ _ hs hg hr =>
  (grownBy_keeps_cells hg (fun r e => (hr r e).2) hs rfl).trans hs

/-- The slice at A holds slices of whole blocks of bytes, of 512 bytes each, that hold the texts ls. -/
def RdH (w : World) (A : Option Addr) (cap : Nat) (ls : List L) : Prop :=
  ∃ ys : List Handed, ys.map (·.2) = ls ∧ (∀ b ∈ ls, b.length = 512) ∧ RdA w A cap (ys.map val) ∧ ∀ x ∈ ys, Holds x w
theorem RdH.keep {w w' : World} {A : Option Addr} {cap : Nat} {ls : List L} (h : RdH w A cap ls) (hs : Stp w w') : RdH w' A cap ls := by
  obtain ⟨ys, h1, h2, h3, h4⟩ := h
  exact ⟨ys, h1, h2, h3.keep hs, fun x hx => Blk.keep (h4 x hx) hs (Blk.lt (h4 x hx))⟩
theorem RdH.rdL {w : World} {A : Option Addr} {cap : Nat} {ls : List L} (h : RdH w A cap ls) : RdL w A cap ls := by
  obtain ⟨ys, he, h5, hA, hh⟩ := h
  have hlen : ys.length = ls.length := by rw [← he, List.length_map]
  refine ⟨ys.map val, by rw [List.length_map, hlen], hA, fun j l hj => ?_⟩
  rw [← he, List.getElem?_map] at hj
  obtain ⟨x, hx, rfl⟩ := Option.map_eq_some_iff.1 hj
  have hm := List.mem_of_getElem? hx
  have hb : Blk w x.1 5 (bs x.2).toArray := hh x hm
  have hx5 : x.2.length = 512 := h5 _ (by rw [← he]; exact List.mem_map_of_mem hm)
  refine ⟨val x, by rw [List.getElem?_map, hx]; rfl, ?_⟩
  have h := (Base.Own.of_blk (lo := 0) hb (Nat.zero_le _) (n := 512) (by simp [bs_length, hx5]) (by unfold maxLen; omega)).rd
  simpa [val] using h

/-- What was handed on, gathered in a slice, reads as the blocks. -/
theorem gathered {W : World} {v : Value} {ys : List Handed} {bl : List L} (hr : Rd W W.heap.size v (ys.map val)) (hh : ∀ x ∈ ys, Holds x W) (he : ys.map (·.2) = bl) (h5 : ∀ b ∈ bl, b.length = 512) :
    ∃ A cap, v = .slice A bl.length cap ∧ RdH W A cap bl := by
  have hlen : ys.length = bl.length := by rw [← he, List.length_map]
  obtain ⟨A, cap, rfl, hA⟩ := RdA.of hr
  rw [List.length_map]
  exact ⟨A, cap, by rw [hlen], ys, he, h5, hA, hh⟩

set_option maxRecDepth 100000 in
set_option maxHeartbeats 2000000 in
theorem list_h (s : L) (n Bs Bn : Nat) (w : World) (hs : s.length ≤ 9223372036854775807) (hn : n ≤ 1000000) (hls : Bs < w.heap.size) (hln : Bn < w.heap.size)
    (hBs : w.cell? ⟨Bs, 0, none⟩ = some (.string ⟨s.toArray⟩)) (hBn : w.cell? ⟨Bn, 0, none⟩ = some (.int .i64 (n : Int))) :
    Calls Tryz.prog 62 #[.func (.func 99) #[] #[.pointer (some ⟨Bs, 0, none⟩), .pointer (some ⟨Bn, 0, none⟩)]] w fun e w' => ∃ A cap, e = .returned (.slice A n cap) ∧ RdH w' A cap (blks n s) ∧ Stp w w' := by
  obtain ⟨i0, hi, hz0, hz1, hz2⟩ := info_parts bytes_info
  refine (callsIn_wide (n := 3)).1 ?_
  refine callsIn_of_wp_marks Tryz.func62 rfl trivial ?_ rfl
  simp only [Tryz.ntmps62, List.size_toArray, List.length_cons, List.length_nil, Nat.reduceAdd, Nat.reduceSub, Array.replicate_succ, Array.replicate_zero, List.push_toArray, List.append_toArray, List.nil_append, List.cons_append]
  gi_wp2
  have bO := Boxed.new w 36 (.slice none 0 0)
  have hB0 : Below w.heap.size w (w.alloc (.cells #[.slice none 0 0] 36)) := (Below.refl _ w).alloc (Nat.le_refl _) _
  refine range_c rfl (by omega) (gf := 99) (lb := #[.pointer (some ⟨Bs, 0, none⟩), .pointer (some ⟨Bn, 0, none⟩)]) rfl trivial (enters_of Tryz.func99 (by kernel_rfl) rfl)
    (blocks_seq _ (by omega) Bs Bn s n hs (by omega) (w.alloc (.cells #[.slice none 0 0] 36)) (by simp; omega) (by simp; omega) ((hB0.cell (p := ⟨Bs, 0, none⟩) hls).trans hBs) ((hB0.cell (p := ⟨Bn, 0, none⟩) hln).trans hBn)) (Below.refl _ _)
    (fun _ _ => trivial) (fun _ _ _ _ _ _ _ _ => trivial) (fun _ => rfl)
    (fun pre W => ((∃ v, Boxed W w.heap.size 36 v ∧ W.ownsRow w.heap.size 46 1 v pre.length (pre.map val) ∧ True) ∧ ∀ x ∈ pre, Holds x W) ∧ Below w.heap.size w W)
    (fun _ _ _ => False)
    (OwnFrom.and (OwnFrom.and (Go.Own.from (holdsRow_own w.heap.size w.heap.size 36 46 1 (fun pre : List Handed => pre.length) (fun pre => pre.map val) (fun _ _ => True)) _) (holds_own _)) (ownFrom_below (Nat.le_refl _) (by simp)))
    (fun _ _ _ _ _ hs _ _ => hs)
    ⟨⟨⟨_, bO, World.ownsRow_nil _ _ _ _, trivial⟩, by simp⟩, hB0⟩
    (fun x a' W => a' = { tmps := #[.func (.func 99) #[] #[.pointer (some ⟨Bs, 0, none⟩), .pointer (some ⟨Bn, 0, none⟩)], undef, .slice none 0 0, .pointer (some ⟨w.heap.size, 0, none⟩), val x, .func (.func 99) #[] #[.pointer (some ⟨Bs, 0, none⟩), .pointer (some ⟨Bn, 0, none⟩)], val x, undef, undef, undef, undef, undef], defers := [] } ∧ Holds x W)
    (fun x a' => OwnFrom.and (fun _ _ _ _ h _ _ => h) (holds_own1 _ x)) ?assign ?body ?done ?stop
  case assign =>
    intro l pre x W K hi hc hK
    have hK' := hK _ W (KeepsFrom.refl _ _) trivial hi ⟨rfl, hc⟩
    clear hK
    simp only [val] at hK'
    simp only [hand]
    gi_wp2
    exact hK'
  case body =>
    rintro l pre x a' W hwl hl ⟨⟨⟨v, hv, hrow, _⟩, hh⟩, hB⟩ ⟨rfl, hx⟩ hlt
    have hc := hv.cell
    simp only [val]
    gi_wp2_with (gi_at_builtin; refine wpListIn_append_own _ rfl _ _ 36 rfl w.heap.size 46 i0 (.slice none 0 0) 1 24 Tryz.underlying36 hi hz0 hz1 hz2 rfl (by decide) _ _ _ rfl (hrow.alloc _) ⟨W.heap.size, 0, none⟩ 1 1 [.slice (some ⟨x.1, 0, none⟩) 512 512] rfl rfl (cell_one_new _ _ _) (by simp [Value.oneCell']) (by unfold maxLen; omega) (by omega) (by have := hB.size; simp; omega) ?_; intro v' w4 hown' hgrow _; obtain ⟨g', cap', rfl⟩ := ownsRow_succ hown'; obtain ⟨hv1, hv2, hr2, hk2, hb2⟩ := hv.appended (by decide) hrow hB.size (Nat.le_refl _) hown' hgrow; have hc1 := hv1.cell; have hf1 := hv1.frozen)
    refine ⟨hk2.from _, trivial, ⟨⟨_, hv2, by rw [List.length_append, List.map_append]; exact hr2, trivial⟩, fun y hy => ?_⟩, hB.trans hb2⟩
    have hy' : Holds y W := by
      rcases List.mem_append.1 hy with h | h
      · exact hh y h
      · rw [List.mem_singleton.1 h]
        exact hx
    exact (((Blk.alloc hy' _).grown hgrow (blk_not_row hy' (by decide) hrow)).far (p := ⟨w.heap.size, 0, none⟩) (blk_not_box hy' (by decide) hv) _)
  case done =>
    rintro D ys W hD hys ⟨⟨⟨v, hv, hrow, _⟩, hh⟩, hB⟩ hK
    have hc := hv.cell
    have Hys := Lib.hid hys
    clear hys
    gi_wp2
    refine ⟨by simp, .inl ⟨_, _, rfl, run_takeDeferred hK, ?_⟩⟩
    have hrow2 := ownsRow_putObj hrow (.deferred none) hK rfl
    have hh2 : ∀ x ∈ ys, Holds x (W.putObj D (.deferred none)) := fun x hx => (holds_own 0).putObj (.deferred none) hh (Nat.zero_le _) hK rfl x hx
    obtain ⟨A, cap, rfl, hr⟩ := gathered (rd_of_row hrow2) hh2 Hys.out (fun b hb => blks_mem hb)
    rw [blks_length]
    exact ⟨_, results_tmp rfl _ _ _, A, cap, rfl, hr, hB.trans (belowK_b (w := w) (Nat.le_refl _) W D _ _ (by simp at hD; omega) hK rfl rfl)⟩
  case stop =>
    rintro D c pre W _ _ h _
    exact h.elim
end Go.Proofs.YtllnnlmhbmladaaGreatDoor.Block

namespace Go.Proofs.YtllnnlmhbmladaaGreatDoor.Builder
open Go.RowKit Go.Proofs.YtllnnlmhbmladaaGreatDoor.Base

theorem lies : liesAt Tryz.prog Tryz.prog.depth 198 (2 / Tryz.prog.cellsOf 198) 0 198 1 = true := by kernel_rfl
theorem byte_info : (Tryz.prog.info? 5).map (fun i => (i.zero, i.size, i.bytes)) = some (some (.int .u8 0), 1, 1) := by kernel_rfl
theorem byte_cells : Tryz.prog.cellsOf 5 = 1 := by kernel_rfl

/-- The builder in block b holds the bytes l; p is what its first field holds. -/
def At (w : World) (B b : Nat) (p : Value) (l : List UInt8) : Prop :=
  B ≤ b ∧ ∃ v, w.heap[b]? = some (.cells #[p, v] 198 (0, 0)) ∧ Base.Own w B 5 v (bs l) ∧ v.ownBlock ≠ some b ∧ (l = [] → v = .slice none 0 0)
theorem At.lt {w : World} {B b : Nat} {p : Value} {l : List UInt8} (h : At w B b p l) : b < w.heap.size := by
  obtain ⟨_, v, hb, _⟩ := h
  exact lt_of_block hb
end Go.Proofs.YtllnnlmhbmladaaGreatDoor.Builder

namespace Go.Proofs.YtllnnlmhbmladaaGreatDoor.Block
open Go.RowKit Go.Shelf Go.Proofs.YtllnnlmhbmladaaGreatDoor.Base Go.Proofs.YtllnnlmhbmladaaGreatDoor.BlockM Go.Proofs.YtllnnlmhbmladaaGreatDoor.Str

set_option maxRecDepth 100000 in
theorem cut_hd (s : L) (w : World) (hs : s.length ≤ 1000000) :
    Calls Tryz.prog 40 #[.string ⟨s.toArray⟩] w fun e w' => ∃ A cap, e = .returned (.slice A (cutV s).length cap) ∧ RdH w' A cap (cutV s) ∧ Stp w w' := by
  have h0 := Stp.refl w
  obtain ⟨n, hn⟩ : ∃ n, manyN s.length = n := ⟨_, rfl⟩
  have hmv : manyV (s.length : Int) = (n : Int) := by rw [manyV_nat, hn]
  have hn6 : n ≤ 1000000 := by rw [← hn]; exact manyN_small (by omega)
  rw [cutV_length, cutV, hn]
  have Hmv := Lib.hid hmv
  clear hn hmv
  go_enter Tryz.func40, Tryz.ntmps40
  go_wp2_with fail
  refine (many_s _ _ (by omega) (by omega)).mono ?_
  rintro e w1 ⟨rfl, hs1⟩
  rw [Hmv.out]
  replace h0 := Stp.trans h0 hs1
  clear hs1
  go_wp2_with fail
  refine (blocks_any _ _ _).mono ?_
  rintro e w2 ⟨rfl, rfl⟩
  have b1 := Boxed.new w1 9 (.string ⟨s.toArray⟩)
  have b2 := Boxed.new (w1.alloc (.cells #[.string ⟨s.toArray⟩] 9)) 3 (.int .i64 (n : Int))
  have b1' := b1.alloc (.cells #[.int .i64 (n : Int)] 3)
  rw [World.size_alloc] at b2
  have h1 : Stp w ((w1.alloc (.cells #[.string ⟨s.toArray⟩] 9)).alloc (.cells #[.int .i64 (n : Int)] 3)) := (h0.alloc _).alloc _
  go_wp2_with fail
  refine (list_h s n w1.heap.size (w1.heap.size + 1) _ (by omega) hn6 (by simp; omega) (by simp) b1'.cell b2.cell).mono ?_
  rintro e w3 ⟨A, cap, rfl, hr, hs3⟩
  replace h1 := Stp.trans h1 hs3
  clear hs3
  go_wp2_with fail
  go_ret
  exact ⟨A, cap, rfl, hr, h1⟩

theorem cut_s (s : L) (w : World) (hs : s.length ≤ 1000000) :
    Calls Tryz.prog 40 #[.string ⟨s.toArray⟩] w fun e w' => ∃ A cap, e = .returned (.slice A (cutV s).length cap) ∧ RdL w' A cap (cutV s) ∧ Stp w w' :=
  (cut_hd s w hs).mono fun _ _ ⟨A, cap, h1, h2, h3⟩ => ⟨A, cap, h1, h2.rdL, h3⟩

set_option maxRecDepth 100000 in
theorem zeros_s (n : Int) (w : World) :
    Calls Tryz.prog 47 #[.int .i64 n] w fun e w' => ∃ A cap, e = .returned (.slice A (zerosV n).length cap) ∧ RdL w' A cap (zerosV n) ∧ Stp w w' := by
  have h0 := Stp.refl w
  by_cases hn : 1 ≤ n ∧ n ≤ 400
  · rw [zerosV_yes hn, blks_length]
    obtain ⟨k, rfl⟩ := Int.eq_ofNat_of_zero_le (show 0 ≤ n by omega)
    rw [Int.toNat_natCast]
    have g1 : decide ((k : Int) < 1) = false := decide_eq_false (by omega)
    have g2 : decide ((400 : Int) < (k : Int)) = false := decide_eq_false (by omega)
    have g3 : k ≤ 400 := by omega
    clear hn
    go_enter Tryz.func47, Tryz.ntmps47
    go_wp2_with fail
    refine (blocks_any _ _ _).mono ?_
    rintro e w2 ⟨rfl, rfl⟩
    have b1 := Boxed.new w 9 (.string ⟨#[]⟩)
    have b2 := Boxed.new (w.alloc (.cells #[.string ⟨#[]⟩] 9)) 3 (.int .i64 (k : Int))
    have b1' := b1.alloc (.cells #[.int .i64 (k : Int)] 3)
    rw [World.size_alloc] at b2
    have h1 : Stp w ((w.alloc (.cells #[.string ⟨#[]⟩] 9)).alloc (.cells #[.int .i64 (k : Int)] 3)) := (h0.alloc _).alloc _
    go_wp2_with fail
    refine (list_h [] k w.heap.size (w.heap.size + 1) _ (by simp) (by omega) (by simp; omega) (by simp) b1'.cell b2.cell).mono ?_
    rintro e w3 ⟨A, cap, rfl, hr, hs3⟩
    replace h1 := Stp.trans h1 hs3
    clear hs3
    go_wp2_with fail
    go_ret
    exact ⟨A, cap, rfl, hr.rdL, h1⟩
  · rw [zerosV_no hn]
    have key : decide (n < 1) = true ∨ (decide (n < 1) = false ∧ decide (400 < n) = true) := by
      simp only [decide_eq_true_eq, decide_eq_false_iff_not]
      omega
    clear hn
    rcases key with g1 | ⟨g1, g2⟩
    all_goals
      go_enter Tryz.func47, Tryz.ntmps47
      go_wp2_with fail
      go_ret
      exact ⟨none, 0, rfl, RdL.nil w, h0⟩

end Go.Proofs.YtllnnlmhbmladaaGreatDoor.Block

namespace Go.Proofs.YtllnnlmhbmladaaGreatDoor.Block
open Go.RowKit Go.Shelf Go.Proofs.YtllnnlmhbmladaaGreatDoor.Base Go.Proofs.YtllnnlmhbmladaaGreatDoor.BlockM Go.Proofs.YtllnnlmhbmladaaGreatDoor.Str

/-- k bytes, the first i of them 1, the others 0. -/
def ones (k i : Nat) : L := List.replicate i 1 ++ noughts (k - i)
end Go.Proofs.YtllnnlmhbmladaaGreatDoor.Block

