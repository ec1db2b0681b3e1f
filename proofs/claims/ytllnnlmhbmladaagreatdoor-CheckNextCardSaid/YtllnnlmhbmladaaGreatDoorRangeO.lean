/-
  A range over a function that writes boxes of its own between the rounds: each side's memory told by block numbers (O: what is the caller's): a law over any program; no statement is proved here.
  What a caller's rows keep through the iterator's steps, and appends within a round: no statement is proved here.
-/
import Derived.Test.YtllnnlmhbmladaaGreatDoorBase
import Derived.Shelf.Abstract
import Derived.RangeFuncNested
import Derived.RangeFuncBound
import Derived.RangeFuncCalls
import Derived.RangeFuncLeaves
import Derived.RangeFuncBox
import Derived.TacticsInMore
import Derived.OwnWalkIn
import Derived.LoopNIn
import Derived.LoopIn
import Derived.BigQuiet
import Derived.Deep.QuietTactic
import Derived.Deep.Cut
namespace Go.Proofs.YtllnnlmhbmladaaGreatDoor.RangeO
open Go.RowKit Go.Proofs.YtllnnlmhbmladaaGreatDoor.Base

/-- A step of the iterator's: what lies there stays, but boxes (Bx) from block B on that are not the caller's. -/
structure Sme (Bx : Obj → Prop) (O : Nat → Prop) (B : Nat) (W W' : World) : Prop where
  os : W'.os = W.os
  tape : W'.tape = W.tape
  output : W'.output = W.output
  size : W.heap.size ≤ W'.heap.size
  block : ∀ k, k < W.heap.size → W'.heap[k]? = W.heap[k]? ∨ (B ≤ k ∧ ¬ O k ∧ ∃ o o', W.heap[k]? = some o ∧ W'.heap[k]? = some o' ∧ Bx o ∧ Bx o')

/-- A round: nothing is written but what is the caller's. -/
structure Rnd (O : Nat → Prop) (W W' : World) : Prop where
  os : W'.os = W.os
  tape : W'.tape = W.tape
  output : W'.output = W.output
  size : W.heap.size ≤ W'.heap.size
  block : ∀ k, k < W.heap.size → ¬ O k → W'.heap[k]? = W.heap[k]?

section
variable {Bx Bx' : Obj → Prop} {O O' : Nat → Prop} {B B' : Nat} {W X Y : World}
theorem Sme.of_stp (h : Stp W X) : Sme Bx O B W X := ⟨h.os, h.tape, h.output, h.size, fun k hk => .inl (h.block k hk)⟩
theorem Sme.refl (W : World) : Sme Bx O B W W := Sme.of_stp (Stp.refl W)
theorem Sme.trans (h : Sme Bx O B W X) (k : Sme Bx O B X Y) : Sme Bx O B W Y := by
  refine ⟨k.os.trans h.os, k.tape.trans h.tape, k.output.trans h.output, Nat.le_trans h.size k.size, fun j hj => ?_⟩
  rcases h.block j hj with e | ⟨e1, e2, o, o', e3, e4, e5, e6⟩
  · rcases k.block j (Nat.lt_of_lt_of_le hj h.size) with f | ⟨f1, f2, o, o', f3, f4, f5, f6⟩
    · exact .inl (f.trans e)
    · exact .inr ⟨f1, f2, o, o', e.symm.trans f3, f4, f5, f6⟩
  · rcases k.block j (Nat.lt_of_lt_of_le hj h.size) with f | ⟨f1, f2, p, p', f3, f4, f5, f6⟩
    · exact .inr ⟨e1, e2, o, o', e3, f.trans e4, e5, e6⟩
    · exact .inr ⟨e1, e2, o, p', e3, f4, e5, f6⟩
theorem Sme.mono (h : Sme Bx O B W X) (hx : ∀ o, Bx o → Bx' o) (hB : B' ≤ B) : Sme Bx' O B' W X :=
  ⟨h.os, h.tape, h.output, h.size, fun k hk => (h.block k hk).imp id fun ⟨a, b, o, o', c, d, e, f⟩ => ⟨Nat.le_trans hB a, b, o, o', c, d, hx _ e, hx _ f⟩⟩
theorem Sme.putObj {l : Nat} {o : Obj} (o' : Obj) (hl : W.heap[l]? = some o) (hB : B ≤ l) (hO : ¬ O l) (h : Bx o) (h' : Bx o') : Sme Bx O B W (W.putObj l o') := by
  refine ⟨rfl, rfl, rfl, by simp, fun k hk => ?_⟩
  by_cases e : k = l
  · subst e
    exact .inr ⟨hB, hO, o, o', hl, World.putObj_heap_same (Array.getElem?_eq_some_iff.1 hl).1, h, h'⟩
  · exact .inl (World.putObj_heap_other e)
/-- A block of no box stays. -/
theorem Sme.same (h : Sme Bx O B W X) {k : Nat} {o : Obj} (hk : W.heap[k]? = some o) (hn : ¬ Bx o ∨ O k ∨ k < B) : X.heap[k]? = some o := by
  rcases h.block k (Array.getElem?_eq_some_iff.1 hk).1 with e | ⟨e1, e2, p, p', e3, e4, e5, e6⟩
  · exact e.trans hk
  · rw [hk] at e3
    cases e3
    rcases hn with g | g | g
    · exact absurd e5 g
    · exact absurd g e2
    · omega
theorem Rnd.of_stp (h : Stp W X) : Rnd O W X := ⟨h.os, h.tape, h.output, h.size, fun k hk _ => h.block k hk⟩
theorem Rnd.refl (W : World) : Rnd O W W := Rnd.of_stp (Stp.refl W)
theorem Rnd.trans (h : Rnd O W X) (k : Rnd O' X Y) (hs : ∀ j, O' j → O j ∨ W.heap.size ≤ j) : Rnd O W Y :=
  ⟨k.os.trans h.os, k.tape.trans h.tape, k.output.trans h.output, Nat.le_trans h.size k.size, fun j hj hn => (k.block j (Nat.lt_of_lt_of_le hj h.size) (fun e => by
    rcases hs j e with g | g
    · exact hn g
    · omega)).trans (h.block j hj hn)⟩
theorem Rnd.mono (h : Rnd O W X) (hs : ∀ j, O j → O' j) : Rnd O' W X := ⟨h.os, h.tape, h.output, h.size, fun k hk hn => h.block k hk fun e => hn (hs k e)⟩
theorem Rnd.alloc (h : Rnd O W X) (o : Obj) : Rnd O W (X.alloc o) := h.trans (Rnd.of_stp (O := O) (Stp.alloc (Stp.refl X) o)) (fun _ e => .inl e)
theorem Rnd.grown {row : Option Nat} (h : Rnd O W X) (hg : X.grownBy Y row) (hr : ∀ r, row = some r → O r ∨ W.heap.size ≤ r) : Rnd O W Y :=
  ⟨hg.os.trans h.os, hg.tape.trans h.tape, hg.output.trans h.output, Nat.le_trans h.size hg.size, fun k hk hn => (hg.block k (Nat.lt_of_lt_of_le hk h.size) (fun e => by
    rcases hr k e.symm with g | g
    · exact hn g
    · omega)).trans (h.block k hk hn)⟩
theorem Rnd.setCell (h : Rnd O W X) {p : Addr} (hp : O p.block ∨ W.heap.size ≤ p.block) (u : Value) : Rnd O W (X.setCell p u) :=
  ⟨h.os, h.tape, h.output, by show _ ≤ (X.heap.modify _ _).size; rw [Array.size_modify]; exact h.size, fun k hk hn => (Below.heap_setCell X p u k (by
    rintro rfl
    rcases hp with g | g
    · exact hn g
    · omega)).trans (h.block k hk hn)⟩
theorem Rnd.putObj (h : Rnd O W X) {l : Nat} (hl : O l) (o : Obj) : Rnd O W (X.putObj l o) :=
  ⟨h.os, h.tape, h.output, by simpa using h.size, fun k hk hn => (World.putObj_heap_other (by rintro rfl; exact hn hl)).trans (h.block k hk hn)⟩
theorem Rnd.below (h : Rnd O W X) {n : Nat} (hn : n ≤ W.heap.size) (hO : ∀ k, k < n → ¬ O k) : Below n W X := ⟨h.os, h.tape, h.output, h.size, fun k hk => h.block k (by omega) (hO k hk)⟩
theorem Rnd.same (h : Rnd O W X) {k : Nat} {o : Obj} (hk : W.heap[k]? = some o) (hn : ¬ O k) : X.heap[k]? = some o := (h.block k (Array.getElem?_eq_some_iff.1 hk).1 hn).trans hk
end

/-- The iterator's word. C: what it says of an element, in the world in which it is handed on; R: the blocks that it reads and that lay there ahead of it; D: no block of the caller's holds a byte. -/
def SeqO {α : Type} (P : Program) (g : Nat) (lb : Array Value) (encs : α → Array Value) (C : α → World → Prop) (Bx : Obj → Prop) (D : Prop) (R : Nat → Prop) (S Sp : List α → Prop) (N : Nat) (w0 : World) : Prop :=
  ∀ (n l : Nat) (J Jx : (Nat → Prop) → List α → World → Prop) (O : Nat → Prop) (W : World), 1 ≤ n → Stp w0 W → w0.heap.size ≤ l → l < W.heap.size → (∀ O s X, J O s X → ∀ i, X.cell? ⟨l, i, none⟩ = none) → (∀ k, R k → ¬ O k) →
    (∀ O s X Y, J O s X → Sme Bx O W.heap.size X Y → J O s Y) → (∀ O s X Y, Jx O s X → Sme Bx O W.heap.size X Y → Jx O s Y) →
    (∀ O s X, J O s X → ∀ k, O k → k < X.heap.size) → (D → ∀ O s X, J O s X → ∀ k i x, O k → X.cell? ⟨k, i, none⟩ ≠ some (.int .u8 x)) →
    (∀ O pre x X, J O pre X → C x X → pre.length < N → YieldAt Fence.wide (n - 1) P l (encs x) X fun e Y =>
      (e = .returned (.bool true) ∧ ∃ O', J O' (pre ++ [x]) Y ∧ (∀ k, O' k → O k ∨ X.heap.size ≤ k) ∧ Rnd (fun k => O k ∨ k = l) X Y) ∨ (e = .returned (.bool false) ∧ ∃ O', Jx O' (pre ++ [x]) Y)) →
    J O [] W →
    CallsIn Fence.wide n P g (#[.func (.yield l) #[] #[]] ++ lb) W fun e Y => (∃ v, e = .returned v) ∧ ((∃ xs O, S xs ∧ J O xs Y) ∨ (∃ pre O, Sp pre ∧ Jx O pre Y))

/-- What a body says of the world behind it. -/
def postO {α : Type} (I : (Nat → Prop) → List α → World → Prop) (Ix : Code → (Nat → Prop) → List α → World → Prop) (O : Nat → Prop) (xs : List α) (X : World) : Exit → Act → World → Prop
  | .normal, _, Y => ∃ O', I O' xs Y ∧ (∀ k, O' k → O k ∨ X.heap.size ≤ k) ∧ Rnd O X Y
  | .ret, _, Y => ∃ O', Ix .ret O' xs Y ∧ Rnd O X Y
  | .exit id, _, Y => ∃ O', Ix (.exit id) O' xs Y ∧ Rnd O X Y
  | .goto t, _, Y => ∃ O', Ix (.goto t) O' xs Y ∧ Rnd O X Y
  | .panic _, _, _ => False
  | .outgrown, _, _ => False

/-- The law. -/
theorem range_o {α : Type} {P : Program} {n : Nat} {g : Operand} {ps : Array Tmp} {assign body : Code} {Q : Exit → Act → World → Prop} {a : Act} {w : World}
    (h1 : 2 ≤ n) {gf : Nat} {lb : Array Value} (hg : a.eval g = .func (.func gf) #[] lb) (eg : ∀ args w, (callFunc gf args).run P w = .ok (.enter gf args) w)
    {encs : α → Array Value} {C : α → World → Prop} {Bx : Obj → Prop} {D : Prop} {R : Nat → Prop} {S Sp : List α → Prop} {N : Nat} {w0 : World} (hseq : SeqO P gf lb encs C Bx D R S Sp N w0) (hb0 : Stp w0 w) (hps : ∀ x, (encs x).size = ps.size)
    (I : (Nat → Prop) → List α → World → Prop) (Ix : Code → (Nat → Prop) → List α → World → Prop) (O : Nat → Prop) (hR : ∀ k, R k → ¬ O k)
    (hI : ∀ O s X Y, I O s X → Sme (fun o => Bx o ∨ o.isCells = false) O w.heap.size X Y → I O s Y)
    (hIx : ∀ c O s X Y, Ix c O s X → Sme (fun o => Bx o ∨ o.isCells = false) O w.heap.size X Y → Ix c O s Y)
    (hO : ∀ O s X, I O s X → ∀ k, O k → ∃ o, X.heap[k]? = some o ∧ o.isCells = true)
    (hOx : ∀ c O s X, Ix c O s X → ∀ k, O k → ∃ o, X.heap[k]? = some o ∧ o.isCells = true)
    (h8 : D → ∀ O s X, I O s X → ∀ k i x, O k → X.cell? ⟨k, i, none⟩ ≠ some (.int .u8 x))
    (h0 : I O [] w)
    (Ax : α → Act → World → Prop) (hAx : ∀ x a' X l r r', Ax x a' X → X.heap[l]? = some (.loop r) → Ax x a' (X.putObj l (.loop r')))
    (hassign : ∀ (l : Nat) (O : Nat → Prop) (pre : List α) (x : α) (X : World) (K : Act → World → Prop), I O pre X → C x X → (∀ a' X', Stp X X' → Ax x a' X' → K a' X') →
      assign.wpIn (Fence.wide.inRound l) (n - 1 - 1) P (Exit.then K (fun _ _ _ => False)) { tmps := (ps.zip (encs x)).foldl (fun t (p, v) => t.setIfInBounds p v) a.tmps, defers := [] } X)
    (hbody : ∀ (l : Nat) (O : Nat → Prop) (pre : List α) (x : α) (a' : Act) (X : World), w.heap.size ≤ l → I O pre X → Ax x a' X → pre.length < N → body.wpIn (Fence.wide.inRound l) (n - 1 - 1) P (postO I Ix O (pre ++ [x]) X) a' X)
    (hdone : ∀ (d : Nat) (O : Nat → Prop) (xs : List α) (X : World), w.heap.size ≤ d → S xs → I O xs X → X.heap[d]? = some (.deferred (some [])) → Q .normal { a with defers := { target := .collected d, args := #[] } :: a.defers } X)
    (hstop : ∀ (d : Nat) (c : Code) (O : Nat → Prop) (pre : List α) (X : World), w.heap.size ≤ d → Sp pre → Ix c O pre X → X.heap[d]? = some (.deferred (some [])) → c.wpIn Fence.wide n P Q { a with defers := { target := .collected d, args := #[] } :: a.defers } X) :
    (Code.rangeFunc g ps assign body).wpIn Fence.wide n P Q a w := by
  refine wpIn_rangeFunc fun fn hfn => ?_
  obtain ⟨mk, hmk⟩ : ∃ mk : LoopState → Option Code → Loop, mk = fun st pe => { state := st, pending := pe, fn, tmps := a.tmps, params := ps, assign, body, defers := w.heap.size } := ⟨_, rfl⟩
  obtain ⟨d, hd⟩ : ∃ d, d = w.heap.size := ⟨_, rfl⟩
  obtain ⟨V, hV⟩ : ∃ V, V = (w.alloc (.deferred (some []))).alloc (.loop (mk .ready none)) := ⟨_, rfl⟩
  have hVs : V.heap.size = d + 2 := by rw [hV, hd]; simp
  have hVw : Stp w V := by rw [hV]; exact Stp.alloc (Stp.alloc (Stp.refl w) _) _
  -- the loop's record is nobody's
  have no : ∀ (O : Nat → Prop) (s : List α) (X : World) (r : Loop), I O s X → X.heap[d + 1]? = some (.loop r) → ¬ O (d + 1) := fun O s X r hi hl hn => by
    obtain ⟨o, ho, hc⟩ := hO O s X hi _ hn
    rw [hl] at ho
    cases ho
    cases hc
  have nod : ∀ (O : Nat → Prop) (s : List α) (X : World), I O s X → X.heap[d]? = some (.deferred (some [])) → ¬ O d := fun O s X hi hl hn => by
    obtain ⟨o, ho, hc⟩ := hO O s X hi _ hn
    rw [hl] at ho
    cases ho
    cases hc
  have nox : ∀ (c : Code) (O : Nat → Prop) (s : List α) (X : World) (r : Loop), Ix c O s X → X.heap[d + 1]? = some (.loop r) → ¬ O (d + 1) := fun c O s X r hi hl hn => by
    obtain ⟨o, ho, hc⟩ := hOx c O s X hi _ hn
    rw [hl] at ho
    cases ho
    cases hc
  have turn : ∀ (O : Nat → Prop) (s : List α) (X : World) (r r' : Loop), I O s X → X.heap[d + 1]? = some (.loop r) → X.heap[d]? = some (.deferred (some [])) →
      I O s (X.putObj (d + 1) (.loop r')) ∧ (X.putObj (d + 1) (.loop r')).heap[d + 1]? = some (.loop r') ∧ (X.putObj (d + 1) (.loop r')).heap[d]? = some (.deferred (some [])) := fun O s X r r' hi hl hk =>
    ⟨hI O s X _ hi (Sme.putObj _ hl (by omega) (no O s X r hi hl) (.inr rfl) (.inr rfl)), World.putObj_heap_same (Array.getElem?_eq_some_iff.1 hl).1, (World.putObj_heap_other (by omega)).trans hk⟩
  have turnx : ∀ (c : Code) (O : Nat → Prop) (s : List α) (X : World) (r r' : Loop), Ix c O s X → X.heap[d + 1]? = some (.loop r) → X.heap[d]? = some (.deferred (some [])) →
      Ix c O s (X.putObj (d + 1) (.loop r')) ∧ (X.putObj (d + 1) (.loop r')).heap[d + 1]? = some (.loop r') ∧ (X.putObj (d + 1) (.loop r')).heap[d]? = some (.deferred (some [])) := fun c O s X r r' hi hl hk =>
    ⟨hIx c O s X _ hi (Sme.putObj _ hl (by omega) (nox c O s X r hi hl) (.inr rfl) (.inr rfl)), World.putObj_heap_same (Array.getElem?_eq_some_iff.1 hl).1, (World.putObj_heap_other (by omega)).trans hk⟩
  have start : I O [] V ∧ V.heap[d + 1]? = some (.loop (mk .ready none)) ∧ V.heap[d]? = some (.deferred (some [])) := by
    refine ⟨hI _ _ _ _ h0 (Sme.of_stp hVw), ?_, ?_⟩
    · have h := World.alloc_heap_new (w.alloc (.deferred (some []))) (.loop (mk .ready none))
      rw [World.size_alloc] at h
      rw [hV, hd]
      exact h
    · rw [hV, hd]
      exact (Below.heap_alloc _ _ _ (by simp)).trans (World.alloc_heap_new w _)
  rw [show Fence.wide.round = none from rfl]
  refine ⟨d + 1, [{ target := .collected d, args := #[] }], V, { target := .fn (.func gf) lb, args := #[.func (.yield (d + 1)) #[] #[]] }, V, gf, #[.func (.yield (d + 1)) #[] #[]] ++ lb, V, ?_, ?_, ?_, ?_, fun _ => by omega, ?_⟩
  · rw [hV, hmk, hd]
    exact run_enterLoop_outer _ _ _ _ _
  · simp only [resolve, hg]
    simp [go_sem]
  · intro f' hf'
    trivial
  · simp [invoke, go_sem, eg]
  refine (hseq (n - 1) (d + 1) (fun O pre W => I O pre W ∧ W.heap[d + 1]? = some (.loop (mk .ready none)) ∧ W.heap[d]? = some (.deferred (some [])))
    (fun O pre W => ∃ c, Ix c O pre W ∧ W.heap[d + 1]? = some (.loop (mk .done (some c))) ∧ W.heap[d]? = some (.deferred (some []))) O V (by omega) (Stp.trans hb0 hVw) (by have := hb0.size; omega) (by omega) (fun O s X hj i => by simp [World.cell?, hj.2.1]) hR
    ?stay ?stayx (fun O s X hj k hk => by obtain ⟨o, ho, _⟩ := hO O s X hj.1 k hk; exact (Array.getElem?_eq_some_iff.1 ho).1) (fun hD O s X hj => h8 hD O s X hj.1) ?round start).mono ?_
  case stay =>
    rintro O s X Y ⟨hi, hl, hk⟩ hs
    exact ⟨hI _ _ _ _ hi (hs.mono (fun _ => .inl) (by omega)), hs.same hl (.inr (.inr (by omega))), hs.same hk (.inr (.inr (by omega)))⟩
  case stayx =>
    rintro O s X Y ⟨c, hi, hl, hk⟩ hs
    exact ⟨c, hIx _ _ _ _ _ hi (hs.mono (fun _ => .inl) (by omega)), hs.same hl (.inr (.inr (by omega))), hs.same hk (.inr (.inr (by omega)))⟩
  case round =>
    rintro O pre x W ⟨hi, hl, hk⟩ hc hlen
    have hy := run_yield (P := P) (args := encs x) hl (by rw [hmk]; exact hps x)
    rw [hmk] at hy
    refine ⟨fn, _, assign, body, hy, roundIn_of_wpIn hfn (hassign _ O pre x W _ hi hc fun a' Z hz haz => ?_)⟩
    clear hy
    have hlz : Z.heap[d + 1]? = _ := (hz.block _ (Array.getElem?_eq_some_iff.1 hl).1).trans hl
    have hdz : Z.heap[d]? = _ := (hz.block _ (Array.getElem?_eq_some_iff.1 hk).1).trans hk
    have hiz := hI _ _ _ _ hi (Sme.of_stp hz)
    obtain ⟨R', hR'⟩ : ∃ R' : Loop, R' = { mk .ready none with state := .busy } := ⟨_, rfl⟩
    have hbeg := run_beginRound (P := P) hlz (by rw [hmk])
    rw [← hR'] at hbeg
    refine ⟨_, hbeg, ?_⟩
    obtain ⟨hiy, hly, hdy⟩ := turn O pre Z _ R' hiz hlz hdz
    have hYs : W.heap.size ≤ (Z.putObj (d + 1) (.loop R')).heap.size := by rw [World.putObj_size]; exact hz.size
    have hRY : Rnd (fun k => O k ∨ k = d + 1) W (Z.putObj (d + 1) (.loop R')) := (Rnd.of_stp hz).putObj (.inr rfl) _
    refine wpIn_mono (hbody _ O pre x a' _ (by omega) hiy (hAx _ _ _ _ _ _ haz hlz) hlen) ?_
    have back : ∀ (jump : Option Code) (U : World), Rnd O (Z.putObj (d + 1) (.loop R')) U → U.heap[d + 1]? = some (.loop R') ∧ U.heap[d]? = some (.deferred (some [])) ∧
        (Instr.endRound (d + 1) jump).run P U = .ok (.bool jump.isNone) (U.putObj (d + 1) (.loop (mk (if jump.isNone then .ready else .done) jump))) := by
      intro jump U hU
      have hlu := hU.same hly (no _ _ _ _ hiy hly)
      have hend := run_endRound (P := P) jump hlu
      rw [hR', hmk] at hend
      refine ⟨hlu, hU.same hdy (nod _ _ _ hiy hdy), ?_⟩
      rw [hmk]
      exact hend
    have left : ∀ (c : Code) (O' : Nat → Prop) (U : World), Rnd O (Z.putObj (d + 1) (.loop R')) U → Ix c O' (pre ++ [x]) U → ∃ v U', (Instr.endRound (d + 1) (some c)).run P U = .ok v U' ∧
        ((Ending.returned v = .returned (.bool true) ∧ ∃ O', (I O' (pre ++ [x]) U' ∧ U'.heap[d + 1]? = some (.loop (mk .ready none)) ∧ U'.heap[d]? = some (.deferred (some []))) ∧ (∀ k, O' k → O k ∨ W.heap.size ≤ k) ∧ Rnd (fun k => O k ∨ k = d + 1) W U') ∨
          (Ending.returned v = .returned (.bool false) ∧ ∃ O' c, Ix c O' (pre ++ [x]) U' ∧ U'.heap[d + 1]? = some (.loop (mk .done (some c))) ∧ U'.heap[d]? = some (.deferred (some [])))) := by
      intro c O' U hU hx
      obtain ⟨hlu, hdu, hend⟩ := back (some c) U hU
      exact ⟨_, _, hend, .inr ⟨rfl, O', c, turnx c O' _ U _ _ hx hlu hdu⟩⟩
    rintro e b U hp
    cases e with
    | normal =>
      obtain ⟨O', hiU, hsub, hRU⟩ := hp
      obtain ⟨hlu, hdu, hend⟩ := back none U hRU
      refine ⟨_, _, hend, .inl ⟨rfl, O', turn O' _ U _ _ hiU hlu hdu, fun k hk => (hsub k hk).imp id (fun h => Nat.le_trans hYs h), ?_⟩⟩
      exact (hRY.trans (O' := O) hRU (fun j hj => .inl (.inl hj))).putObj (.inr rfl) _
    | ret => obtain ⟨O', hx, hRU⟩ := hp; exact left .ret O' U hRU hx
    | exit id => obtain ⟨O', hx, hRU⟩ := hp; exact left (.exit id) O' U hRU hx
    | goto t => obtain ⟨O', hx, hRU⟩ := hp; exact left (.goto t) O' U hRU hx
    | panic ch => exact hp.elim
    | outgrown => exact hp.elim
  · rintro e U ⟨⟨v, rfl⟩, (⟨xs, O', hS, hi, hl, hk⟩ | ⟨pre, O', hSp, c, hi, hl, hk⟩)⟩
    · have hend := run_endLoop (P := P) hl (by rw [hmk]; simp)
      have hpe : (mk .ready none).pending = none := by rw [hmk]
      obtain ⟨hi', _, hk'⟩ := turn O' xs U _ { mk .ready none with state := .exhausted } hi hl hk
      exact ⟨none, U.putObj (d + 1) (.loop { mk .ready none with state := .exhausted }), hend.trans (congrArg (fun q => Result.ok q _) hpe), hdone d O' xs _ (by omega) hS hi' hk'⟩
    · have hend := run_endLoop (P := P) hl (by rw [hmk]; simp)
      have hpe : (mk .done (some c)).pending = some c := by rw [hmk]
      obtain ⟨hi', _, hk'⟩ := turnx c O' pre U _ { mk .done (some c) with state := .exhausted } hi hl hk
      exact ⟨some c, U.putObj (d + 1) (.loop { mk .done (some c) with state := .exhausted }), hend.trans (congrArg (fun q => Result.ok q _) hpe), hstop d c O' pre _ (by omega) hSp hi' hk'⟩
end Go.Proofs.YtllnnlmhbmladaaGreatDoor.RangeO

namespace Go.Proofs.YtllnnlmhbmladaaGreatDoor.RangeG
open Go.RowKit Go.Shelf Go.Proofs.YtllnnlmhbmladaaGreatDoor.Base Go.Proofs.YtllnnlmhbmladaaGreatDoor.RangeO

attribute [local go_sem] Oper.semAt_some

abbrev L := List UInt8
def IntBox (o : Obj) : Prop := ∃ y : Int, o = .cells #[.int .i64 y] 3 (0, 0)
theorem cell_rnd {O : Nat → Prop} {W X : World} (h : Rnd O W X) {a : Addr} {v : Value} (hc : W.cell? a = some v) (hn : ¬ O a.block) : X.cell? a = some v :=
  (World.cell?_of_block (h.block a.block (World.block_lt_of_cell? W a hc) hn)).trans hc
theorem rd_rnd {O : Nat → Prop} {W X : World} (h : Rnd O W X) {A : Option Addr} {c : Nat} {xs : List Value} (hr : RdA W A c xs) (hn : ∀ b o, A = some ⟨b, o, none⟩ → xs ≠ [] → ¬ O b) : RdA X A c xs := by
  obtain ⟨A', cap, h1, h2, h3⟩ := hr
  simp only [Value.slice.injEq] at h1
  obtain ⟨rfl, -, rfl⟩ := h1
  refine ⟨A, c, rfl, h2, fun hx => ?_⟩
  obtain ⟨b, o, rfl, hb, hu⟩ := h3 hx
  exact ⟨b, o, rfl, Nat.lt_of_lt_of_le hb h.size, fun j u hj => cell_rnd h (hu j u hj) (hn b o rfl hx)⟩
theorem stp_cell {W X : World} (h : Stp W X) {a : Addr} {v : Value} (hc : W.cell? a = some v) : X.cell? a = W.cell? a := h.cell (World.block_lt_of_cell? W a hc)
theorem boxed_kept {W X : World} {B : Nat} {t : TypeId} {v : Value} (h : Boxed W B t v) (hs : Stp W X) : Boxed X B t v := (hs.block B h.lt).trans h
theorem yield_any {m m' l : Nat} {args : Array Value} {W : World} {R : Ending → World → Prop} (h : YieldAt Fence.wide m Tryz.prog l args W R) : YieldAt Fence.wide m' Tryz.prog l args W R := by
  obtain ⟨fn, tmps, assign, body, hy, h1, h2⟩ := h
  exact ⟨fn, tmps, assign, body, hy, h1, fun c cs _ => h2 c cs (room_wide _)⟩

/-! ### what the caller's memory keeps through the iterator's steps -/
abbrev Bx' (o : Obj) : Prop := IntBox o ∨ o.isCells = false
section
variable {O : Nat → Prop} {B : Nat} {X Y : World}
theorem byte_same (hs : Sme Bx' O B X Y) {b i : Nat} {x : Int} (h : X.cell? ⟨b, i, none⟩ = some (.int .u8 x)) : Y.heap[b]? = X.heap[b]? := by
  have hb := World.block_lt_of_cell? X _ h
  rcases hs.block b hb with e | ⟨-, -, o, o', e1, -, e2, -⟩
  · exact e
  · exfalso
    rcases e2 with ⟨y, rfl⟩ | e2
    · have hk : Blk X b 3 #[.int .i64 y] := e1
      rw [hk.cell i] at h
      have hm := Array.mem_of_getElem? h
      simp at hm
    · cases o <;> simp [Obj.isCells] at e2 <;> simp [World.cell?, e1] at h
theorem rd_sme {u : Value} {l : L} (hs : Sme Bx' O B X Y) (h : Rd X X.heap.size u (bs l)) : Rd Y Y.heap.size u (bs l) := by
  obtain ⟨A, cap, rfl, hc, hr⟩ := h
  refine ⟨A, cap, rfl, hc, fun hn => ?_⟩
  obtain ⟨b, o, rfl, hb, hu⟩ := hr hn
  have h0 : 0 < l.length := by
    rcases Nat.eq_zero_or_pos l.length with e | e
    · exact absurd (List.eq_nil_of_length_eq_zero (by rw [bs_length, e])) hn
    · exact e
  have e := byte_same hs (hu 0 _ (bs_at h0))
  exact ⟨b, o, rfl, Nat.lt_of_lt_of_le hb hs.size, fun j u hj => (World.cell?_of_block (a := ⟨b, o + j, none⟩) e).trans (hu j u hj)⟩
theorem own_sme {lo : Nat} {e : TypeId} {v : Value} {xs : List Value} (hs : Sme Bx' O B X Y) (h : Base.Own X lo e v xs) (ho : ∀ g, v.ownBlock = some g → O g) : Base.Own Y lo e v xs := by
  rcases h with h | ⟨g, cap, cur, fz, rfl, hl, hg, rest⟩
  · exact .inl h
  · exact .inr ⟨g, cap, cur, fz, rfl, hl, hs.same hg (.inr (.inl (ho g rfl))), rest⟩
theorem allsl_sme {lo : Nat} {e : TypeId} {v : Value} {xs : List Value} (hs : Sme Bx' O B X Y) (hw : Base.Own X lo e v xs) (h : AllSl X v) (ho : ∀ g, v.ownBlock = some g → O g) : AllSl Y v := fun g hg j c hc => by
  have e : Y.heap[g]? = X.heap[g]? := by
    rcases hs.block g (hw.lt g hg).2 with e | ⟨-, e, -⟩
    · exact e
    · exact absurd (ho g hg) e
  rw [World.cell?_of_block (a := ⟨g, j, none⟩) e] at hc
  exact h g hg j c hc
theorem rows_sme {lo : Nat} {e : TypeId} {v : Value} {ls : List L} (hs : Sme Bx' O B X Y) (h : Base.Rows X lo e v ls) (ho : ∀ g, v.ownBlock = some g → O g) : Base.Rows Y lo e v ls := by
  obtain ⟨us, h1, h2, h3, h4⟩ := h
  refine ⟨us, own_sme hs h1 ho, allsl_sme hs h1 h2 ho, h3, fun j l hj => ?_⟩
  obtain ⟨u, hu, hr⟩ := h4 j l hj
  exact ⟨u, hu, rd_sme hs hr⟩
theorem stp_sme {w : World} (hs : Sme Bx' O B X Y) (h : Stp w X) (hB : w.heap.size ≤ B) : Stp w Y :=
  ⟨hs.os.trans h.os, hs.tape.trans h.tape, hs.output.trans h.output, Nat.le_trans h.size hs.size, fun k hk => by
    rcases hs.block k (Nat.lt_of_lt_of_le hk h.size) with e | ⟨e, -⟩
    · exact e.trans (h.block k hk)
    · omega⟩
theorem own_cells {lo : Nat} {e : TypeId} {v : Value} {xs : List Value} (h : Base.Own X lo e v xs) {k : Nat} (hk : v.ownBlock = some k) : ∃ o, X.heap[k]? = some o ∧ o.isCells = true := by
  rcases h with ⟨rfl, -⟩ | ⟨g, cap, cur, fz, rfl, -, hg, -⟩
  · simp [Value.ownBlock] at hk
  · simp [Value.ownBlock] at hk
    subst hk
    exact ⟨_, hg, rfl⟩
end

/-! ### appends within a round -/
section
variable {F : Fence} {n : Nat} {P : Program} (w : World) {ops : Array Oper} {rest : List Oper} {o : Oper} {a : Act} {Q : Exit → Act → World → Prop} {lo : Nat} {ls ms : List (List UInt8)}
theorem wpListIn_append_rd (hgd : o.guard = none) (s x : Operand) (t : TypeId)
    (ho : o.op = .call { callee := .builtin .append, args := #[s, x], argTypes := #[t, t] })
    (lo : Nat) (e : TypeId) (z : Value) (bytes : Nat) (ht : P.underlying t = some (.slice e)) (hi : (P.info? e).map (fun i => (i.zero, i.size, i.bytes)) = some (some z, 1, bytes)) (hzs : z.cells.size = 1)
    (v : Value) (xs : List Value) (hs : a.eval s = v) (hown : Base.Own w lo e v xs)
    (B : Nat) (u : Value) (news : List Value) (hx : a.eval x = u) (hr : Rd w B u news) (h1 : ∀ u ∈ news, u.oneCell' = true)
    (h63 : xs.length + news.length ≤ maxLen) (hbytes : (xs.length + news.length) * bytes ≤ 140737488355328) (hlo : lo ≤ w.heap.size)
    (h : ∀ v' w', Base.Own w' lo e v' (xs ++ news) → w.grownBy w' v.ownBlock → (v'.ownBlock = v.ownBlock ∨ v'.ownBlock = some w.heap.size) → wpListIn F n P ops Q rest (a.put o.dst v') w') : wpListIn F n P ops Q (o :: rest) a w := by
  refine wpListIn_plain hgd fun K hK' => ?_
  obtain ⟨i, hi', hz, hsz, hby⟩ := info_parts hi
  obtain ⟨v', w', hrun, r1, r2, r3⟩ := run_append_rd (P := P) w lo t o.type e i z bytes ht hi' hz hsz hby hzs v xs hown B u news hr h1 h63 hbytes hlo
  unfold Oper.wpIn
  refine ⟨?_, ?_⟩
  · simp [Oper.about, ho, resolve, Target.leads, Sem.run_pure]
  · rw [Oper.semAt_plain F _ _ (by rw [ho]; intro c hc'; cases hc')]
    simp [execOp, ho, resolve, invoke, builtin, hs, hx, hrun, Result.andThen]
    exact hK' _ _ (h v' w' r1 r2 r3)
theorem wpListIn_append_rows (hgd : o.guard = none) (s x : Operand) (t : TypeId)
    (ho : o.op = .call { callee := .builtin .append, args := #[s, x], argTypes := #[t, t] })
    (e : TypeId) (ht : P.underlying t = some (.slice e)) (hi : (P.info? e).map (fun i => (i.zero, i.size, i.bytes)) = some (some (.slice none 0 0), 1, 24))
    (v : Value) (hs : a.eval s = v) (h : Base.Rows w lo e v ls) {A : Option Addr} {m c : Nat} (hx : a.eval x = .slice A m c) (hm : RdL w A c ms) (hn : ms.length = m) (hl : ls.length + ms.length ≤ 1000000000) (hlo : lo ≤ w.heap.size)
    (hK : ∀ v' w', Base.Rows w' lo e v' (ls ++ ms) → w.grownBy w' v.ownBlock → (v'.ownBlock = v.ownBlock ∨ v'.ownBlock = some w.heap.size) → wpListIn F n P ops Q rest (a.put o.dst v') w') : wpListIn F n P ops Q (o :: rest) a w := by
  refine wpListIn_plain hgd fun K hK' => ?_
  obtain ⟨v', w', hrun, r1, r2⟩ := h.more (P := P) t o.type ht hi hm hn hl hlo
  have r3 : v'.ownBlock = v.ownBlock ∨ v'.ownBlock = some w.heap.size := by
    obtain ⟨us, g1, g2, g3, g4⟩ := h
    obtain ⟨ns, k1, k2, k3⟩ := hm
    obtain ⟨i, hi', hz, hsz, hby⟩ := info_parts hi
    have h1 : ∀ u ∈ ns, u.oneCell' = true := fun u hu => by
      obtain ⟨j, hj⟩ := List.getElem?_of_mem hu
      have hjl : j < ms.length := by rw [← k1]; exact (List.getElem?_eq_some_iff.1 hj).1
      obtain ⟨u2, hu2, hr⟩ := k3 j _ (List.getElem?_eq_getElem hjl)
      rw [hj] at hu2
      cases hu2
      obtain ⟨A, cap, rfl, _⟩ := hr
      rfl
    unfold RdA at k2
    rw [k1, hn] at k2
    obtain ⟨v2, w2, q1, -, -, q4⟩ := run_append_rd (P := P) w lo t o.type e i _ 24 ht hi' hz hsz hby rfl v us g1 w.heap.size (.slice A m c) ns k2 h1 (by rw [g3, k1]; unfold maxLen; omega) (by rw [g3, k1]; omega) hlo
    rw [hrun] at q1
    cases q1
    exact q4
  unfold Oper.wpIn
  refine ⟨?_, ?_⟩
  · simp [Oper.about, ho, resolve, Target.leads, Sem.run_pure]
  · rw [Oper.semAt_plain F _ _ (by rw [ho]; intro c hc'; cases hc')]
    simp [execOp, ho, resolve, invoke, builtin, hs, hx, hrun, Result.andThen]
    exact hK' _ _ (hK v' w' r1 r2 r3)
end
theorem own_ne {X : World} {b : Nat} {e : TypeId} {v : Value} {ls : List (List UInt8)} (h : Base.Rows X (b + 1) e v ls) : v.ownBlock ≠ some b := fun hb => by
  obtain ⟨us, h1, -⟩ := h
  have := (h1.lt b hb).1
  omega
theorem rows_far {X : World} {b lo : Nat} {t e : TypeId} {v u : Value} {ls : List (List UInt8)} (h : Base.Rows X lo e v ls) (hb : Boxed X b t u) (hu : ∀ k x, u ≠ .int k x) (hv : v.ownBlock ≠ some b) (u' : Value) : Base.Rows (X.setCell ⟨b, 0, none⟩ u') lo e v ls := by
  obtain ⟨us, h1, h2, h3, h4⟩ := h
  refine ⟨us, h1.far hv u', fun g hg j c hc => ?_, h3, fun j l hj => ?_⟩
  · rw [World.cell?_of_block (a := ⟨g, j, none⟩) (Below.heap_setCell X ⟨b, 0, none⟩ u' g (by rintro rfl; exact hv hg))] at hc
    exact h2 g hg j c hc
  · obtain ⟨x, hx, hr⟩ := h4 j l hj
    refine ⟨x, hx, ?_⟩
    obtain ⟨A, cap, rfl, hc, hr⟩ := hr
    refine ⟨A, cap, rfl, hc, fun hn => ?_⟩
    obtain ⟨g, o, rfl, hg, hu2⟩ := hr hn
    refine ⟨g, o, rfl, by simpa [World.setCell] using hg, fun i c hi => ?_⟩
    refine (World.cell?_of_block (a := ⟨g, o + i, none⟩) (Below.heap_setCell X ⟨b, 0, none⟩ u' g ?_)).trans (hu2 i c hi)
    rintro rfl
    have hk : Blk X g t #[u] := hb
    have h0 := hu2 i c hi
    rw [hk.cell] at h0
    have hm := Array.mem_of_getElem? h0
    simp only [List.mem_toArray, List.mem_singleton] at hm
    subst hm
    have hm := List.mem_of_getElem? hi
    obtain ⟨y, -, hy⟩ := List.mem_map.1 hm
    exact hu _ _ hy.symm
end Go.Proofs.YtllnnlmhbmladaaGreatDoor.RangeG
