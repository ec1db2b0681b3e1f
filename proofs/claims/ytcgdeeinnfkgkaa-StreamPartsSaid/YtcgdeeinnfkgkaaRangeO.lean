/-
  A range over a function that writes boxes of its own between the rounds: each side's memory told by block numbers (O: what is the caller's): a law over any program; no statement is proved here.
  Contracts of package block's list and Zeros that tell, too, that the row is a new one: no statement is proved here.
-/
import Derived.Test.YtcgdeeinnfkgkaaBase
import Derived.RangeFuncNested
import Derived.RangeFuncBound
import Derived.RangeFuncCalls
import Derived.RangeFuncLeaves
import Derived.RangeFuncBox
import Derived.TacticsInMore
import Derived.Test.YtcgdeeinnfkgkaaBlockK
namespace Go.Proofs.Ytcgdeeinnfkgkaa.RangeO
open Go.RowKit Go.Proofs.Ytcgdeeinnfkgkaa.Base

/-- A step of the iterator's: what lies there stays, but boxes (Bx) from block B on that are not the caller's. -/
structure Sme (Bx : Obj → Prop) (O : Nat → Prop) (B : Nat) (W W' : World) : Prop where
  os : W'.os = W.os
  tape : W'.tape = W.tape
  output : W'.output = W.output
  size : W.heap.size ≤ W'.heap.size
  block : ∀ k, k < W.heap.size → W'.heap[k]? = W.heap[k]? ∨ (B ≤ k ∧ ¬ O k ∧ ∃ o o', W.heap[k]? = some o ∧ W'.heap[k]? = some o' ∧ Bx o ∧ Bx o')

/-- A round: nothing is written but what is the caller's. -/
structure Rnd (O : Nat → Prop) (W W' : World) : Prop where
  os : W'.os = W.os
  tape : W'.tape = W.tape
  output : W'.output = W.output
  size : W.heap.size ≤ W'.heap.size
  block : ∀ k, k < W.heap.size → ¬ O k → W'.heap[k]? = W.heap[k]?

section
variable {Bx Bx' : Obj → Prop} {O O' : Nat → Prop} {B B' : Nat} {W X Y : World}
theorem Sme.of_stp (h : Stp W X) : Sme Bx O B W X := ⟨h.os, h.tape, h.output, h.size, fun k hk => .inl (h.block k hk)⟩
theorem Sme.refl (W : World) : Sme Bx O B W W := Sme.of_stp (Stp.refl W)
theorem Sme.trans (h : Sme Bx O B W X) (k : Sme Bx O B X Y) : Sme Bx O B W Y := by
  refine ⟨k.os.trans h.os, k.tape.trans h.tape, k.output.trans h.output, Nat.le_trans h.size k.size, fun j hj => ?_⟩
  rcases h.block j hj with e | ⟨e1, e2, o, o', e3, e4, e5, e6⟩
  · rcases k.block j (Nat.lt_of_lt_of_le hj h.size) with f | ⟨f1, f2, o, o', f3, f4, f5, f6⟩
    · exact .inl (f.trans e)
    · exact .inr ⟨f1, f2, o, o', e.symm.trans f3, f4, f5, f6⟩
  · rcases k.block j (Nat.lt_of_lt_of_le hj h.size) with f | ⟨f1, f2, p, p', f3, f4, f5, f6⟩
    · exact .inr ⟨e1, e2, o, o', e3, f.trans e4, e5, e6⟩
    · exact .inr ⟨e1, e2, o, p', e3, f4, e5, f6⟩
theorem Sme.mono (h : Sme Bx O B W X) (hx : ∀ o, Bx o → Bx' o) (hB : B' ≤ B) : Sme Bx' O B' W X :=
  ⟨h.os, h.tape, h.output, h.size, fun k hk => (h.block k hk).imp id fun ⟨a, b, o, o', c, d, e, f⟩ => ⟨Nat.le_trans hB a, b, o, o', c, d, hx _ e, hx _ f⟩⟩
theorem Sme.putObj {l : Nat} {o : Obj} (o' : Obj) (hl : W.heap[l]? = some o) (hB : B ≤ l) (hO : ¬ O l) (h : Bx o) (h' : Bx o') : Sme Bx O B W (W.putObj l o') := by
  refine ⟨rfl, rfl, rfl, by simp, fun k hk => ?_⟩
  by_cases e : k = l
  · subst e
    exact .inr ⟨hB, hO, o, o', hl, World.putObj_heap_same (Array.getElem?_eq_some_iff.1 hl).1, h, h'⟩
  · exact .inl (World.putObj_heap_other e)
/-- A block of no box stays. -/
theorem Sme.same (h : Sme Bx O B W X) {k : Nat} {o : Obj} (hk : W.heap[k]? = some o) (hn : ¬ Bx o ∨ O k ∨ k < B) : X.heap[k]? = some o := by
  rcases h.block k (Array.getElem?_eq_some_iff.1 hk).1 with e | ⟨e1, e2, p, p', e3, e4, e5, e6⟩
  · exact e.trans hk
  · rw [hk] at e3
    cases e3
    rcases hn with g | g | g
    · exact absurd e5 g
    · exact absurd g e2
    · omega
theorem Rnd.of_stp (h : Stp W X) : Rnd O W X := ⟨h.os, h.tape, h.output, h.size, fun k hk _ => h.block k hk⟩
theorem Rnd.refl (W : World) : Rnd O W W := Rnd.of_stp (Stp.refl W)
theorem Rnd.trans (h : Rnd O W X) (k : Rnd O' X Y) (hs : ∀ j, O' j → O j ∨ W.heap.size ≤ j) : Rnd O W Y :=
  ⟨k.os.trans h.os, k.tape.trans h.tape, k.output.trans h.output, Nat.le_trans h.size k.size, fun j hj hn => (k.block j (Nat.lt_of_lt_of_le hj h.size) (fun e => by
    rcases hs j e with g | g
    · exact hn g
    · omega)).trans (h.block j hj hn)⟩
theorem Rnd.mono (h : Rnd O W X) (hs : ∀ j, O j → O' j) : Rnd O' W X := ⟨h.os, h.tape, h.output, h.size, fun k hk hn => h.block k hk fun e => hn (hs k e)⟩
theorem Rnd.alloc (h : Rnd O W X) (o : Obj) : Rnd O W (X.alloc o) := h.trans (Rnd.of_stp (O := O) (Stp.alloc (Stp.refl X) o)) (fun _ e => .inl e)
theorem Rnd.grown {row : Option Nat} (h : Rnd O W X) (hg : X.grownBy Y row) (hr : ∀ r, row = some r → O r ∨ W.heap.size ≤ r) : Rnd O W Y :=
  ⟨hg.os.trans h.os, hg.tape.trans h.tape, hg.output.trans h.output, Nat.le_trans h.size hg.size, fun k hk hn => (hg.block k (Nat.lt_of_lt_of_le hk h.size) (fun e => by
    rcases hr k e.symm with g | g
    · exact hn g
    · omega)).trans (h.block k hk hn)⟩
theorem Rnd.setCell (h : Rnd O W X) {p : Addr} (hp : O p.block ∨ W.heap.size ≤ p.block) (u : Value) : Rnd O W (X.setCell p u) :=
  ⟨h.os, h.tape, h.output, by show _ ≤ (X.heap.modify _ _).size; rw [Array.size_modify]; exact h.size, fun k hk hn => (Below.heap_setCell X p u k (by
    rintro rfl
    rcases hp with g | g
    · exact hn g
    · omega)).trans (h.block k hk hn)⟩
theorem Rnd.putObj (h : Rnd O W X) {l : Nat} (hl : O l) (o : Obj) : Rnd O W (X.putObj l o) :=
  ⟨h.os, h.tape, h.output, by simpa using h.size, fun k hk hn => (World.putObj_heap_other (by rintro rfl; exact hn hl)).trans (h.block k hk hn)⟩
theorem Rnd.below (h : Rnd O W X) {n : Nat} (hn : n ≤ W.heap.size) (hO : ∀ k, k < n → ¬ O k) : Below n W X := ⟨h.os, h.tape, h.output, h.size, fun k hk => h.block k (by omega) (hO k hk)⟩
theorem Rnd.same (h : Rnd O W X) {k : Nat} {o : Obj} (hk : W.heap[k]? = some o) (hn : ¬ O k) : X.heap[k]? = some o := (h.block k (Array.getElem?_eq_some_iff.1 hk).1 hn).trans hk
end

/-- The iterator's word. C: what it says of an element, in the world in which it is handed on; R: the blocks that it reads and that lay there ahead of it; D: no block of the caller's holds a byte. -/
def SeqO {α : Type} (P : Program) (g : Nat) (lb : Array Value) (encs : α → Array Value) (C : α → World → Prop) (Bx : Obj → Prop) (D : Prop) (R : Nat → Prop) (S Sp : List α → Prop) (N : Nat) (w0 : World) : Prop :=
  ∀ (n l : Nat) (J Jx : (Nat → Prop) → List α → World → Prop) (O : Nat → Prop) (W : World), 1 ≤ n → Stp w0 W → w0.heap.size ≤ l → l < W.heap.size → (∀ O s X, J O s X → ∀ i, X.cell? ⟨l, i, none⟩ = none) → (∀ k, R k → ¬ O k) →
    (∀ O s X Y, J O s X → Sme Bx O W.heap.size X Y → J O s Y) → (∀ O s X Y, Jx O s X → Sme Bx O W.heap.size X Y → Jx O s Y) →
    (∀ O s X, J O s X → ∀ k, O k → k < X.heap.size) → (D → ∀ O s X, J O s X → ∀ k i x, O k → X.cell? ⟨k, i, none⟩ ≠ some (.int .u8 x)) →
    (∀ O pre x X, J O pre X → C x X → pre.length < N → YieldAt Fence.wide (n - 1) P l (encs x) X fun e Y =>
      (e = .returned (.bool true) ∧ ∃ O', J O' (pre ++ [x]) Y ∧ (∀ k, O' k → O k ∨ X.heap.size ≤ k) ∧ Rnd (fun k => O k ∨ k = l) X Y) ∨ (e = .returned (.bool false) ∧ ∃ O', Jx O' (pre ++ [x]) Y)) →
    J O [] W →
    CallsIn Fence.wide n P g (#[.func (.yield l) #[] #[]] ++ lb) W fun e Y => (∃ v, e = .returned v) ∧ ((∃ xs O, S xs ∧ J O xs Y) ∨ (∃ pre O, Sp pre ∧ Jx O pre Y))

/-- What a body says of the world behind it. -/
def postO {α : Type} (I : (Nat → Prop) → List α → World → Prop) (Ix : Code → (Nat → Prop) → List α → World → Prop) (O : Nat → Prop) (xs : List α) (X : World) : Exit → Act → World → Prop
  | .normal, _, Y => ∃ O', I O' xs Y ∧ (∀ k, O' k → O k ∨ X.heap.size ≤ k) ∧ Rnd O X Y
  | .ret, _, Y => ∃ O', Ix .ret O' xs Y ∧ Rnd O X Y
  | .exit id, _, Y => ∃ O', Ix (.exit id) O' xs Y ∧ Rnd O X Y
  | .goto t, _, Y => ∃ O', Ix (.goto t) O' xs Y ∧ Rnd O X Y
  | .panic _, _, _ => False
  | .outgrown, _, _ => False

/-- The law. -/
theorem range_o {α : Type} {P : Program} {n : Nat} {g : Operand} {ps : Array Tmp} {assign body : Code} {Q : Exit → Act → World → Prop} {a : Act} {w : World}
    (h1 : 2 ≤ n) {gf : Nat} {lb : Array Value} (hg : a.eval g = .func (.func gf) #[] lb) (eg : ∀ args w, (callFunc gf args).run P w = .ok (.enter gf args) w)
    {encs : α → Array Value} {C : α → World → Prop} {Bx : Obj → Prop} {D : Prop} {R : Nat → Prop} {S Sp : List α → Prop} {N : Nat} {w0 : World} (hseq : SeqO P gf lb encs C Bx D R S Sp N w0) (hb0 : Stp w0 w) (hps : ∀ x, (encs x).size = ps.size)
    (I : (Nat → Prop) → List α → World → Prop) (Ix : Code → (Nat → Prop) → List α → World → Prop) (O : Nat → Prop) (hR : ∀ k, R k → ¬ O k)
    (hI : ∀ O s X Y, I O s X → Sme (fun o => Bx o ∨ o.isCells = false) O w.heap.size X Y → I O s Y)
    (hIx : ∀ c O s X Y, Ix c O s X → Sme (fun o => Bx o ∨ o.isCells = false) O w.heap.size X Y → Ix c O s Y)
    (hO : ∀ O s X, I O s X → ∀ k, O k → ∃ o, X.heap[k]? = some o ∧ o.isCells = true)
    (hOx : ∀ c O s X, Ix c O s X → ∀ k, O k → ∃ o, X.heap[k]? = some o ∧ o.isCells = true)
    (h8 : D → ∀ O s X, I O s X → ∀ k i x, O k → X.cell? ⟨k, i, none⟩ ≠ some (.int .u8 x))
    (h0 : I O [] w)
    (Ax : α → Act → World → Prop) (hAx : ∀ x a' X l r r', Ax x a' X → X.heap[l]? = some (.loop r) → Ax x a' (X.putObj l (.loop r')))
    (hassign : ∀ (l : Nat) (O : Nat → Prop) (pre : List α) (x : α) (X : World) (K : Act → World → Prop), I O pre X → C x X → (∀ a' X', Stp X X' → Ax x a' X' → K a' X') →
      assign.wpIn (Fence.wide.inRound l) (n - 1 - 1) P (Exit.then K (fun _ _ _ => False)) { tmps := (ps.zip (encs x)).foldl (fun t (p, v) => t.setIfInBounds p v) a.tmps, defers := [] } X)
    (hbody : ∀ (l : Nat) (O : Nat → Prop) (pre : List α) (x : α) (a' : Act) (X : World), w.heap.size ≤ l → I O pre X → Ax x a' X → pre.length < N → body.wpIn (Fence.wide.inRound l) (n - 1 - 1) P (postO I Ix O (pre ++ [x]) X) a' X)
    (hdone : ∀ (d : Nat) (O : Nat → Prop) (xs : List α) (X : World), w.heap.size ≤ d → S xs → I O xs X → X.heap[d]? = some (.deferred (some [])) → Q .normal { a with defers := { target := .collected d, args := #[] } :: a.defers } X)
    (hstop : ∀ (d : Nat) (c : Code) (O : Nat → Prop) (pre : List α) (X : World), w.heap.size ≤ d → Sp pre → Ix c O pre X → X.heap[d]? = some (.deferred (some [])) → c.wpIn Fence.wide n P Q { a with defers := { target := .collected d, args := #[] } :: a.defers } X) :
    (Code.rangeFunc g ps assign body).wpIn Fence.wide n P Q a w := by
  refine wpIn_rangeFunc fun fn hfn => ?_
  obtain ⟨mk, hmk⟩ : ∃ mk : LoopState → Option Code → Loop, mk = fun st pe => { state := st, pending := pe, fn, tmps := a.tmps, params := ps, assign, body, defers := w.heap.size } := ⟨_, rfl⟩
  obtain ⟨d, hd⟩ : ∃ d, d = w.heap.size := ⟨_, rfl⟩
  obtain ⟨V, hV⟩ : ∃ V, V = (w.alloc (.deferred (some []))).alloc (.loop (mk .ready none)) := ⟨_, rfl⟩
  have hVs : V.heap.size = d + 2 := by rw [hV, hd]; simp
  have hVw : Stp w V := by rw [hV]; exact Stp.alloc (Stp.alloc (Stp.refl w) _) _
  -- the loop's record is nobody's
  have no : ∀ (O : Nat → Prop) (s : List α) (X : World) (r : Loop), I O s X → X.heap[d + 1]? = some (.loop r) → ¬ O (d + 1) := fun O s X r hi hl hn => by
    obtain ⟨o, ho, hc⟩ := hO O s X hi _ hn
    rw [hl] at ho
    cases ho
    cases hc
  have nod : ∀ (O : Nat → Prop) (s : List α) (X : World), I O s X → X.heap[d]? = some (.deferred (some [])) → ¬ O d := fun O s X hi hl hn => by
    obtain ⟨o, ho, hc⟩ := hO O s X hi _ hn
    rw [hl] at ho
    cases ho
    cases hc
  have nox : ∀ (c : Code) (O : Nat → Prop) (s : List α) (X : World) (r : Loop), Ix c O s X → X.heap[d + 1]? = some (.loop r) → ¬ O (d + 1) := fun c O s X r hi hl hn => by
    obtain ⟨o, ho, hc⟩ := hOx c O s X hi _ hn
    rw [hl] at ho
    cases ho
    cases hc
  have turn : ∀ (O : Nat → Prop) (s : List α) (X : World) (r r' : Loop), I O s X → X.heap[d + 1]? = some (.loop r) → X.heap[d]? = some (.deferred (some [])) →
      I O s (X.putObj (d + 1) (.loop r')) ∧ (X.putObj (d + 1) (.loop r')).heap[d + 1]? = some (.loop r') ∧ (X.putObj (d + 1) (.loop r')).heap[d]? = some (.deferred (some [])) := fun O s X r r' hi hl hk =>
    ⟨hI O s X _ hi (Sme.putObj _ hl (by omega) (no O s X r hi hl) (.inr rfl) (.inr rfl)), World.putObj_heap_same (Array.getElem?_eq_some_iff.1 hl).1, (World.putObj_heap_other (by omega)).trans hk⟩
  have turnx : ∀ (c : Code) (O : Nat → Prop) (s : List α) (X : World) (r r' : Loop), Ix c O s X → X.heap[d + 1]? = some (.loop r) → X.heap[d]? = some (.deferred (some [])) →
      Ix c O s (X.putObj (d + 1) (.loop r')) ∧ (X.putObj (d + 1) (.loop r')).heap[d + 1]? = some (.loop r') ∧ (X.putObj (d + 1) (.loop r')).heap[d]? = some (.deferred (some [])) := fun c O s X r r' hi hl hk =>
    ⟨hIx c O s X _ hi (Sme.putObj _ hl (by omega) (nox c O s X r hi hl) (.inr rfl) (.inr rfl)), World.putObj_heap_same (Array.getElem?_eq_some_iff.1 hl).1, (World.putObj_heap_other (by omega)).trans hk⟩
  have start : I O [] V ∧ V.heap[d + 1]? = some (.loop (mk .ready none)) ∧ V.heap[d]? = some (.deferred (some [])) := by
    refine ⟨hI _ _ _ _ h0 (Sme.of_stp hVw), ?_, ?_⟩
    · have h := World.alloc_heap_new (w.alloc (.deferred (some []))) (.loop (mk .ready none))
      rw [World.size_alloc] at h
      rw [hV, hd]
      exact h
    · rw [hV, hd]
      exact (Below.heap_alloc _ _ _ (by simp)).trans (World.alloc_heap_new w _)
  rw [show Fence.wide.round = none from rfl]
  refine ⟨d + 1, [{ target := .collected d, args := #[] }], V, { target := .fn (.func gf) lb, args := #[.func (.yield (d + 1)) #[] #[]] }, V, gf, #[.func (.yield (d + 1)) #[] #[]] ++ lb, V, ?_, ?_, ?_, ?_, fun _ => by omega, ?_⟩
  · rw [hV, hmk, hd]
    exact run_enterLoop_outer _ _ _ _ _
  · simp only [resolve, hg]
    simp [go_sem]
  · intro f' hf'
    trivial
  · simp [invoke, go_sem, eg]
  refine (hseq (n - 1) (d + 1) (fun O pre W => I O pre W ∧ W.heap[d + 1]? = some (.loop (mk .ready none)) ∧ W.heap[d]? = some (.deferred (some [])))
    (fun O pre W => ∃ c, Ix c O pre W ∧ W.heap[d + 1]? = some (.loop (mk .done (some c))) ∧ W.heap[d]? = some (.deferred (some []))) O V (by omega) (Stp.trans hb0 hVw) (by have := hb0.size; omega) (by omega) (fun O s X hj i => by simp [World.cell?, hj.2.1]) hR
    ?stay ?stayx (fun O s X hj k hk => by obtain ⟨o, ho, _⟩ := hO O s X hj.1 k hk; exact (Array.getElem?_eq_some_iff.1 ho).1) (fun hD O s X hj => h8 hD O s X hj.1) ?round start).mono ?_
  case stay =>
    rintro O s X Y ⟨hi, hl, hk⟩ hs
    exact ⟨hI _ _ _ _ hi (hs.mono (fun _ => .inl) (by omega)), hs.same hl (.inr (.inr (by omega))), hs.same hk (.inr (.inr (by omega)))⟩
  case stayx =>
    rintro O s X Y ⟨c, hi, hl, hk⟩ hs
    exact ⟨c, hIx _ _ _ _ _ hi (hs.mono (fun _ => .inl) (by omega)), hs.same hl (.inr (.inr (by omega))), hs.same hk (.inr (.inr (by omega)))⟩
  case round =>
    rintro O pre x W ⟨hi, hl, hk⟩ hc hlen
    have hy := run_yield (P := P) (args := encs x) hl (by rw [hmk]; exact hps x)
    rw [hmk] at hy
    refine ⟨fn, _, assign, body, hy, roundIn_of_wpIn hfn (hassign _ O pre x W _ hi hc fun a' Z hz haz => ?_)⟩
    clear hy
    have hlz : Z.heap[d + 1]? = _ := (hz.block _ (Array.getElem?_eq_some_iff.1 hl).1).trans hl
    have hdz : Z.heap[d]? = _ := (hz.block _ (Array.getElem?_eq_some_iff.1 hk).1).trans hk
    have hiz := hI _ _ _ _ hi (Sme.of_stp hz)
    obtain ⟨R', hR'⟩ : ∃ R' : Loop, R' = { mk .ready none with state := .busy } := ⟨_, rfl⟩
    have hbeg := run_beginRound (P := P) hlz (by rw [hmk])
    rw [← hR'] at hbeg
    refine ⟨_, hbeg, ?_⟩
    obtain ⟨hiy, hly, hdy⟩ := turn O pre Z _ R' hiz hlz hdz
    have hYs : W.heap.size ≤ (Z.putObj (d + 1) (.loop R')).heap.size := by rw [World.putObj_size]; exact hz.size
    have hRY : Rnd (fun k => O k ∨ k = d + 1) W (Z.putObj (d + 1) (.loop R')) := (Rnd.of_stp hz).putObj (.inr rfl) _
    refine wpIn_mono (hbody _ O pre x a' _ (by omega) hiy (hAx _ _ _ _ _ _ haz hlz) hlen) ?_
    have back : ∀ (jump : Option Code) (U : World), Rnd O (Z.putObj (d + 1) (.loop R')) U → U.heap[d + 1]? = some (.loop R') ∧ U.heap[d]? = some (.deferred (some [])) ∧
        (Instr.endRound (d + 1) jump).run P U = .ok (.bool jump.isNone) (U.putObj (d + 1) (.loop (mk (if jump.isNone then .ready else .done) jump))) := by
      intro jump U hU
      have hlu := hU.same hly (no _ _ _ _ hiy hly)
      have hend := run_endRound (P := P) jump hlu
      rw [hR', hmk] at hend
      refine ⟨hlu, hU.same hdy (nod _ _ _ hiy hdy), ?_⟩
      rw [hmk]
      exact hend
    have left : ∀ (c : Code) (O' : Nat → Prop) (U : World), Rnd O (Z.putObj (d + 1) (.loop R')) U → Ix c O' (pre ++ [x]) U → ∃ v U', (Instr.endRound (d + 1) (some c)).run P U = .ok v U' ∧
        ((Ending.returned v = .returned (.bool true) ∧ ∃ O', (I O' (pre ++ [x]) U' ∧ U'.heap[d + 1]? = some (.loop (mk .ready none)) ∧ U'.heap[d]? = some (.deferred (some []))) ∧ (∀ k, O' k → O k ∨ W.heap.size ≤ k) ∧ Rnd (fun k => O k ∨ k = d + 1) W U') ∨
          (Ending.returned v = .returned (.bool false) ∧ ∃ O' c, Ix c O' (pre ++ [x]) U' ∧ U'.heap[d + 1]? = some (.loop (mk .done (some c))) ∧ U'.heap[d]? = some (.deferred (some [])))) := by
      intro c O' U hU hx
      obtain ⟨hlu, hdu, hend⟩ := back (some c) U hU
      exact ⟨_, _, hend, .inr ⟨rfl, O', c, turnx c O' _ U _ _ hx hlu hdu⟩⟩
    rintro e b U hp
    cases e with
    | normal =>
      obtain ⟨O', hiU, hsub, hRU⟩ := hp
      obtain ⟨hlu, hdu, hend⟩ := back none U hRU
      refine ⟨_, _, hend, .inl ⟨rfl, O', turn O' _ U _ _ hiU hlu hdu, fun k hk => (hsub k hk).imp id (fun h => Nat.le_trans hYs h), ?_⟩⟩
      exact (hRY.trans (O' := O) hRU (fun j hj => .inl (.inl hj))).putObj (.inr rfl) _
    | ret => obtain ⟨O', hx, hRU⟩ := hp; exact left .ret O' U hRU hx
    | exit id => obtain ⟨O', hx, hRU⟩ := hp; exact left (.exit id) O' U hRU hx
    | goto t => obtain ⟨O', hx, hRU⟩ := hp; exact left (.goto t) O' U hRU hx
    | panic ch => exact hp.elim
    | outgrown => exact hp.elim
  · rintro e U ⟨⟨v, rfl⟩, (⟨xs, O', hS, hi, hl, hk⟩ | ⟨pre, O', hSp, c, hi, hl, hk⟩)⟩
    · have hend := run_endLoop (P := P) hl (by rw [hmk]; simp)
      have hpe : (mk .ready none).pending = none := by rw [hmk]
      obtain ⟨hi', _, hk'⟩ := turn O' xs U _ { mk .ready none with state := .exhausted } hi hl hk
      exact ⟨none, U.putObj (d + 1) (.loop { mk .ready none with state := .exhausted }), hend.trans (congrArg (fun q => Result.ok q _) hpe), hdone d O' xs _ (by omega) hS hi' hk'⟩
    · have hend := run_endLoop (P := P) hl (by rw [hmk]; simp)
      have hpe : (mk .done (some c)).pending = some c := by rw [hmk]
      obtain ⟨hi', _, hk'⟩ := turnx c O' pre U _ { mk .done (some c) with state := .exhausted } hi hl hk
      exact ⟨some c, U.putObj (d + 1) (.loop { mk .done (some c) with state := .exhausted }), hend.trans (congrArg (fun q => Result.ok q _) hpe), hstop d c O' pre _ (by omega) hSp hi' hk'⟩
end Go.Proofs.Ytcgdeeinnfkgkaa.RangeO

namespace Go.Proofs.Ytcgdeeinnfkgkaa.Block
open Go.RowKit Go.Shelf Go.Proofs.Ytcgdeeinnfkgkaa.Base Go.Proofs.Ytcgdeeinnfkgkaa.BlockM Go.Proofs.Ytcgdeeinnfkgkaa.Range Go.Proofs.Ytcgdeeinnfkgkaa.Str

attribute [local go_sem] Oper.semAt_some

set_option maxRecDepth 100000 in
set_option maxHeartbeats 2000000 in
theorem list_f (s : L) (n Bs Bn : Nat) (w : World) (hn1 : 1 ≤ n) (hs : s.length ≤ 9223372036854775807) (hn : n ≤ 1000000) (hls : Bs < w.heap.size) (hln : Bn < w.heap.size)
    (hBs : w.cell? ⟨Bs, 0, none⟩ = some (.string ⟨s.toArray⟩)) (hBn : w.cell? ⟨Bn, 0, none⟩ = some (.int .i64 (n : Int))) :
    Calls Try.prog 31 #[.func (.func 54) #[] #[.pointer (some ⟨Bs, 0, none⟩), .pointer (some ⟨Bn, 0, none⟩)]] w fun e w' => ∃ g cap, e = .returned (.slice (some ⟨g, 0, none⟩) n cap) ∧ w.heap.size ≤ g ∧ RdL w' (some ⟨g, 0, none⟩) cap (blks n s) ∧ Stp w w' := by
  obtain ⟨i0, hi, hz0, hz1, hz2⟩ := info_parts bytes_info
  refine (callsIn_wide (n := 3)).1 ?_
  refine callsIn_of_wp_marks Try.func31 rfl trivial ?_ rfl
  simp only [Try.ntmps31, List.size_toArray, List.length_cons, List.length_nil, Nat.reduceAdd, Nat.reduceSub, Array.replicate_succ, Array.replicate_zero, List.push_toArray, List.append_toArray, List.nil_append, List.cons_append]
  gi_wp2
  have bO := Boxed.new w 25 (.slice none 0 0)
  have hB0 : Below w.heap.size w (w.alloc (.cells #[.slice none 0 0] 25)) := (Below.refl _ w).alloc (Nat.le_refl _) _
  refine range_c rfl (by omega) (gf := 54) (lb := #[.pointer (some ⟨Bs, 0, none⟩), .pointer (some ⟨Bn, 0, none⟩)]) rfl trivial (enters_of Try.func54 (by kernel_rfl) rfl)
    (blocks_seq _ (by omega) Bs Bn s n hs (by omega) (w.alloc (.cells #[.slice none 0 0] 25)) (by simp; omega) (by simp; omega) ((hB0.cell (p := ⟨Bs, 0, none⟩) hls).trans hBs) ((hB0.cell (p := ⟨Bn, 0, none⟩) hln).trans hBn)) (Below.refl _ _)
    (fun _ _ => trivial) (fun _ _ _ _ _ _ _ _ => trivial) (fun _ => rfl)
    (fun pre W => ((∃ v, Boxed W w.heap.size 25 v ∧ W.ownsRow w.heap.size 35 1 v pre.length (pre.map val) ∧ True) ∧ ∀ x ∈ pre, Holds x W) ∧ Below w.heap.size w W)
    (fun _ _ _ => False)
    (OwnFrom.and (OwnFrom.and (Go.Own.from (holdsRow_own w.heap.size w.heap.size 25 35 1 (fun pre : List Handed => pre.length) (fun pre => pre.map val) (fun _ _ => True)) _) (holds_own _)) (ownFrom_below (Nat.le_refl _) (by simp)))
    (fun _ _ _ _ _ hs _ _ => hs)
    ⟨⟨⟨_, bO, World.ownsRow_nil _ _ _ _, trivial⟩, by simp⟩, hB0⟩
    (fun x a' W => a' = { tmps := #[.func (.func 54) #[] #[.pointer (some ⟨Bs, 0, none⟩), .pointer (some ⟨Bn, 0, none⟩)], undef, .slice none 0 0, .pointer (some ⟨w.heap.size, 0, none⟩), val x, .func (.func 54) #[] #[.pointer (some ⟨Bs, 0, none⟩), .pointer (some ⟨Bn, 0, none⟩)], val x, undef, undef, undef, undef, undef], defers := [] } ∧ Holds x W)
    (fun x a' => OwnFrom.and (fun _ _ _ _ h _ _ => h) (holds_own1 _ x)) ?assign ?body ?done ?stop
  case assign =>
    intro l pre x W K hi hc hK
    have hK' := hK _ W (KeepsFrom.refl _ _) trivial hi ⟨rfl, hc⟩
    clear hK
    simp only [val] at hK'
    simp only [hand]
    gi_wp2
    exact hK'
  case body =>
    rintro l pre x a' W hwl hl ⟨⟨⟨v, hv, hrow, _⟩, hh⟩, hB⟩ ⟨rfl, hx⟩ hlt
    have hc := hv.cell
    simp only [val]
    gi_wp2_with (gi_at_builtin; refine wpListIn_append_own _ rfl _ _ 25 rfl w.heap.size 35 i0 (.slice none 0 0) 1 24 Try.underlying25 hi hz0 hz1 hz2 rfl (by decide) _ _ _ rfl (hrow.alloc _) ⟨W.heap.size, 0, none⟩ 1 1 [.slice (some ⟨x.1, 0, none⟩) 512 512] rfl rfl (cell_one_new _ _ _) (by simp [Value.oneCell']) (by unfold maxLen; omega) (by omega) (by have := hB.size; simp; omega) ?_; intro v' w4 hown' hgrow _; obtain ⟨g', cap', rfl⟩ := ownsRow_succ hown'; obtain ⟨hv1, hv2, hr2, hk2, hb2⟩ := hv.appended (by decide) hrow hB.size (Nat.le_refl _) hown' hgrow; have hc1 := hv1.cell; have hf1 := hv1.frozen)
    refine ⟨hk2.from _, trivial, ⟨⟨_, hv2, by rw [List.length_append, List.map_append]; exact hr2, trivial⟩, fun y hy => ?_⟩, hB.trans hb2⟩
    have hy' : Holds y W := by
      rcases List.mem_append.1 hy with h | h
      · exact hh y h
      · rw [List.mem_singleton.1 h]
        exact hx
    exact (((Blk.alloc hy' _).grown hgrow (blk_not_row hy' (by decide) hrow)).far (p := ⟨w.heap.size, 0, none⟩) (blk_not_box hy' (by decide) hv) _)
  case done =>
    rintro D ys W hD hys ⟨⟨⟨v, hv, hrow, _⟩, hh⟩, hB⟩ hK
    have hc := hv.cell
    have Hys := Lib.hid hys
    clear hys
    gi_wp2
    refine ⟨by simp, .inl ⟨_, _, rfl, run_takeDeferred hK, ?_⟩⟩
    have hrow2 := ownsRow_putObj hrow (.deferred none) hK rfl
    have hh2 : ∀ x ∈ ys, Holds x (W.putObj D (.deferred none)) := fun x hx => (holds_own 0).putObj (.deferred none) hh (Nat.zero_le _) hK rfl x hx
    have hyl : ys.length = n := by rw [← List.length_map (·.2), Hys.out, blks_length]
    obtain ⟨A, cap, rfl, hr⟩ := gathered (rd_of_row hrow2) hh2 Hys.out (fun b hb => blks_mem hb)
    obtain ⟨-, ⟨e1, e2⟩ | ⟨g, cap', cur, e1, hbg, -⟩⟩ := hrow2
    · omega
    · simp only [Value.slice.injEq] at e1
      obtain ⟨rfl, -, rfl⟩ := e1
      rw [blks_length]
      exact ⟨_, results_tmp rfl _ _ _, g, cap, rfl, hbg, hr.rdL, hB.trans (belowK_b (w := w) (Nat.le_refl _) W D _ _ (by simp at hD; omega) hK rfl rfl)⟩
  case stop =>
    rintro D c pre W _ _ h _
    exact h.elim
set_option maxRecDepth 100000 in
theorem zeros_f (k : Nat) (g0 : 1 ≤ k) (g3 : k ≤ 400) (w : World) :
    Calls Try.prog 42 #[.int .i64 (k : Int)] w fun e w' => ∃ g cap, e = .returned (.slice (some ⟨g, 0, none⟩) k cap) ∧ w.heap.size ≤ g ∧ RdL w' (some ⟨g, 0, none⟩) cap (blks k []) ∧ Stp w w' := by
  have h0 := Stp.refl w
  have g1 : decide ((k : Int) < 1) = false := decide_eq_false (by omega)
  have g2 : decide ((400 : Int) < (k : Int)) = false := decide_eq_false (by omega)
  go_enter Try.func42, Try.ntmps42
  go_wp2_with fail
  refine (blocks_any _ _ _).mono ?_
  rintro e w2 ⟨rfl, rfl⟩
  have b1 := Boxed.new w 9 (.string ⟨#[]⟩)
  have b2 := Boxed.new (w.alloc (.cells #[.string ⟨#[]⟩] 9)) 3 (.int .i64 (k : Int))
  have b1' := b1.alloc (.cells #[.int .i64 (k : Int)] 3)
  rw [World.size_alloc] at b2
  have h1 : Stp w ((w.alloc (.cells #[.string ⟨#[]⟩] 9)).alloc (.cells #[.int .i64 (k : Int)] 3)) := (h0.alloc _).alloc _
  go_wp2_with fail
  refine (list_f [] k w.heap.size (w.heap.size + 1) _ g0 (by simp) (by omega) (by simp; omega) (by simp) b1'.cell b2.cell).mono ?_
  rintro e w3 ⟨A, cap, rfl, hA, hr, hs3⟩
  replace hA := Nat.le_trans h1.size hA
  replace h1 := Stp.trans h1 hs3
  clear hs3
  go_wp2_with fail
  go_ret
  exact ⟨A, cap, rfl, hA, hr, h1⟩
end Go.Proofs.Ytcgdeeinnfkgkaa.Block

