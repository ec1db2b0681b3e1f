/-
  A range over a function whose elements bear content (each is handed on with a fact on the world in which it is handed on): a law over any program; no statement is proved here.
-/
import Derived.RangeFuncNested
import Derived.Test.YtleoiejkipobbaaBase
namespace Go.Proofs.Ytleoiejkipobbaa.Range
open Go.RowKit Go.Proofs.Ytleoiejkipobbaa.Base

variable {F : Fence} {n : Nat} {P : Program}

/-- The iterator's word: whatever the caller keeps (J), if each element x, handed on in a world where C x is so, keeps it, then all have come (S), or the first of them (Sp). -/
def SeqC {α : Type} (F : Fence) (n : Nat) (P : Program) (g : Nat) (lb : Array Value) (encs : α → Array Value) (C : α → World → Prop) (Kp : World → World → Prop) (S Sp : List α → Prop) (N : Nat) (w : World) : Prop :=
  ∀ (l : Nat) (J Jx : List α → World → Prop) (W : World), Below w.heap.size w W → AbidesFrom W.heap.size J → AbidesFrom W.heap.size Jx →
    (∀ pre x W1, J pre W1 → C x W1 → pre.length < N → YieldAt F (n - 1) P l (encs x) W1 fun e W' =>
      (e = .returned (.bool true) ∧ J (pre ++ [x]) W' ∧ Kp W1 W') ∨ (e = .returned (.bool false) ∧ Jx (pre ++ [x]) W')) →
    J [] W →
    CallsIn F n P g (#[.func (.yield l) #[] #[]] ++ lb) W fun e W' => (∃ v, e = .returned v) ∧ ((∃ xs, S xs ∧ J xs W') ∨ (∃ pre, Sp pre ∧ Jx pre W'))

/-- What a caller keeps, beside the loop's record (block l) and the block for the rounds' deferred calls (block d). -/
def Kept (l d : Nat) (r : Loop) (I : World → Prop) (W : World) : Prop := I W ∧ W.heap[l]? = some (.loop r) ∧ W.heap[d]? = some (.deferred (some []))

theorem Kept.abides {β : Type} {B l d : Nat} {r : Loop} {I : β → World → Prop} {n₀ : Nat} (hI : OwnFrom n₀ I) (hB : n₀ ≤ B) : AbidesFrom B fun s W => Kept l d r (I s) W := by
  rintro s X Y row ⟨hs, hl, hd⟩ hg hrow
  have hw : ∀ r, row = some r → ∃ o : Obj, X.heap[r]? = some o ∧ o.isWalk = true := fun r e => (hrow r e).2
  refine ⟨hI s X Y row hs hg fun r e => ?_, (grownBy_keeps hg hw hl rfl).trans hl, (grownBy_keeps hg hw hd rfl).trans hd⟩
  obtain ⟨h1, o, h2, h3⟩ := hrow r e
  exact ⟨Nat.le_trans hB h1, o, h2, Obj.not_cells_of_walk h3⟩

/-- The law: 'for x := range seq { body }', the body told of what C says. -/
theorem range_c {α : Type} {g : Operand} {ps : Array Tmp} {assign body : Code} {Q : Exit → Act → World → Prop} {a : Act} {w : World}
    (hro : F.round = none) (h1 : 1 ≤ n) {gf : Nat} {lb : Array Value} (hg : a.eval g = .func (.func gf) #[] lb) (hFg : F.fn gf) (eg : ∀ args w, (callFunc gf args).run P w = .ok (.enter gf args) w)
    {encs : α → Array Value} {C : α → World → Prop} {Kp : World → World → Prop} {S Sp : List α → Prop} {N : Nat} {w0 : World} (hseq : SeqC F (n - 1) P gf lb encs C Kp S Sp N w0) (hb0 : Below w0.heap.size w0 w)
    (hKt : ∀ {A B D : World}, Kp A B → Kp B D → Kp A D) (hKb : ∀ (W : World) (l : Nat) (o o' : Obj), w.heap.size ≤ l → W.heap[l]? = some o → o.isCells = false → o.isWalk = false → Kp W (W.putObj l o')) (hps : ∀ x, (encs x).size = ps.size)
    (I : List α → World → Prop) (Ix : Code → List α → World → Prop) (hI : OwnFrom w.heap.size I) (hIx : ∀ c, OwnFrom w.heap.size (Ix c)) (h0 : I [] w)
    (Ax : α → Act → World → Prop) (hAx : ∀ x a', OwnFrom w.heap.size (fun (_ : Unit) W => Ax x a' W))
    (hassign : ∀ (l : Nat) (pre : List α) (x : α) (W : World) (K : Act → World → Prop), I pre W → C x W → (∀ a' W', KeepsFrom w.heap.size W W' → Kp W W' → I pre W' → Ax x a' W' → K a' W') →
      assign.wpIn (F.inRound l) (n - 1 - 1) P (Exit.then K (fun _ _ _ => False)) { tmps := (ps.zip (encs x)).foldl (fun t (p, v) => t.setIfInBounds p v) a.tmps, defers := [] } W)
    (hbody : ∀ (l : Nat) (pre : List α) (x : α) (a' : Act) (W : World), w.heap.size ≤ l → (∃ r, W.heap[l]? = some (.loop r)) → I pre W → Ax x a' W → pre.length < N → body.wpIn (F.inRound l) (n - 1 - 1) P (ownPostG w.heap.size Kp I Ix (pre ++ [x]) W) a' W)
    (hdone : ∀ (D : Nat) (xs : List α) (W : World), w.heap.size ≤ D → S xs → I xs W → W.heap[D]? = some (.deferred (some [])) → Q .normal { a with defers := { target := .collected D, args := #[] } :: a.defers } W)
    (hstop : ∀ (D : Nat) (c : Code) (pre : List α) (W : World), w.heap.size ≤ D → Sp pre → Ix c pre W → W.heap[D]? = some (.deferred (some [])) → c.wpIn F n P Q { a with defers := { target := .collected D, args := #[] } :: a.defers } W) :
    (Code.rangeFunc g ps assign body).wpIn F n P Q a w := by
  refine wpIn_rangeFunc fun fn hfn => ?_
  obtain ⟨mk, hmk⟩ : ∃ mk : LoopState → Option Code → Loop, mk = fun st pe => { state := st, pending := pe, fn, tmps := a.tmps, params := ps, assign, body, defers := w.heap.size } := ⟨_, rfl⟩
  obtain ⟨d, hd⟩ : ∃ d, d = w.heap.size := ⟨_, rfl⟩
  obtain ⟨V, hV⟩ : ∃ V, V = (w.alloc (.deferred (some []))).alloc (.loop (mk .ready none)) := ⟨_, rfl⟩
  have hVs : V.heap.size = d + 2 := by rw [hV, hd]; simp
  -- what lies there when the iterator begins
  have start : Kept (d + 1) d (mk .ready none) (I []) V := by
    refine ⟨by rw [hV]; exact hI.alloc _ (hI.alloc _ h0), ?_, ?_⟩
    · have h := World.alloc_heap_new (w.alloc (.deferred (some []))) (.loop (mk .ready none))
      rw [World.size_alloc] at h
      rw [hV, hd]
      exact h
    · rw [hV, hd]
      exact (Below.heap_alloc _ _ _ (by simp)).trans (World.alloc_heap_new w _)
  -- the record turned: what the caller keeps stays
  have turn : ∀ {β : Type} {X : β → World → Prop} (s : β) (W : World) (r r' : Loop), OwnFrom w.heap.size X → Kept (d + 1) d r (X s) W → Kept (d + 1) d r' (X s) (W.putObj (d + 1) (.loop r')) := by
    rintro β X s W r r' hX ⟨hs, hl, hk⟩
    exact ⟨hX.putObj _ hs (by omega) hl rfl, World.putObj_heap_same (Array.getElem?_eq_some_iff.1 hl).1, (World.putObj_heap_other (by omega)).trans hk⟩
  have turnK : ∀ (W : World) (r r' : Loop), W.heap[d + 1]? = some (.loop r) → Kp W (W.putObj (d + 1) (.loop r')) := fun W r r' h => hKb W (d + 1) _ _ (by omega) h rfl rfl
  rw [hro]
  refine ⟨d + 1, [{ target := .collected d, args := #[] }], V, { target := .fn (.func gf) lb, args := #[.func (.yield (d + 1)) #[] #[]] }, V, gf, #[.func (.yield (d + 1)) #[] #[]] ++ lb, V, ?_, ?_, ?_, ?_, fun _ => h1, ?_⟩
  · rw [hV, hmk, hd]
    exact run_enterLoop_outer _ _ _ _ _
  · simp only [resolve, hg]
    simp [go_sem]
  · intro f' hf'
    simp [Target.leads] at hf'
    subst hf'
    exact hFg
  · simp [invoke, go_sem, eg]
  refine (hseq (d + 1) (fun pre W => Kept (d + 1) d (mk .ready none) (I pre) W) (fun pre W => ∃ c, Kept (d + 1) d (mk .done (some c)) (Ix c pre) W) V
    (hb0.trans (by rw [hV]; exact (((Below.refl _ w).alloc (Nat.le_refl _) _).alloc (by simp) _).mono hb0.size))
    (Kept.abides hI (by omega)) (fun s X Y row hs hgr hr => by
      obtain ⟨c, hc⟩ := hs
      exact ⟨c, Kept.abides (B := V.heap.size) (hIx c) (by omega) s X Y row hc hgr hr⟩) ?round start).mono ?_
  case round =>
    rintro pre x W ⟨hi, hl, hk⟩ hc hlen
    have hy := run_yield (P := P) (args := encs x) hl (by rw [hmk]; exact hps x)
    rw [hmk] at hy
    refine ⟨fn, _, assign, body, hy, roundIn_of_wpIn hfn (hassign _ pre x W _ hi hc fun a' Z hkz hpz hiz haz => ?_)⟩
    clear hy
    have hlz := hkz.same _ _ (by omega) hl rfl
    have hdz := hkz.same _ _ (by omega) hk rfl
    obtain ⟨R, hR⟩ : ∃ R : Loop, R = { mk .ready none with state := .busy } := ⟨_, rfl⟩
    have hbeg := run_beginRound (P := P) hlz (by rw [hmk])
    rw [← hR] at hbeg
    refine ⟨_, hbeg, ?_⟩
    obtain ⟨hiy, hly, hdy⟩ := turn (X := I) pre Z _ R hI ⟨hiz, hlz, hdz⟩
    have hpy := turnK Z _ R hlz
    refine wpIn_mono (hbody _ pre x a' _ (by omega) ⟨_, hly⟩ hiy ((hAx x a').putObj (s := ()) _ haz (by omega) hlz rfl) hlen) ?_
    -- behind the body: the record is ready, or done, again
    have back : ∀ (jump : Option Code) (U : World), KeepsFrom w.heap.size (Z.putObj (d + 1) (.loop R)) U → U.heap[d + 1]? = some (.loop R) ∧ U.heap[d]? = some (.deferred (some [])) ∧
        (Instr.endRound (d + 1) jump).run P U = .ok (.bool jump.isNone) (U.putObj (d + 1) (.loop (mk (if jump.isNone then .ready else .done) jump))) := by
      intro jump U hU
      have hlu := hU.same _ _ (by omega) hly rfl
      have hend := run_endRound (P := P) jump hlu
      rw [hR, hmk] at hend
      refine ⟨hlu, hU.same _ _ (by omega) hdy rfl, ?_⟩
      rw [hmk]
      exact hend
    have left : ∀ (c : Code) (U : World), KeepsFrom w.heap.size (Z.putObj (d + 1) (.loop R)) U → Ix c (pre ++ [x]) U → ∃ v U', (Instr.endRound (d + 1) (some c)).run P U = .ok v U' ∧
        ((Ending.returned v = .returned (.bool true) ∧ Kept (d + 1) d (mk .ready none) (I (pre ++ [x])) U' ∧ Kp W U') ∨ (Ending.returned v = .returned (.bool false) ∧ ∃ c, Kept (d + 1) d (mk .done (some c)) (Ix c (pre ++ [x])) U')) := by
      intro c U hU hx
      obtain ⟨hlu, hdu, hend⟩ := back (some c) U hU
      exact ⟨_, _, hend, .inr ⟨rfl, c, turn (X := Ix c) _ U _ _ (hIx c) ⟨hx, hlu, hdu⟩⟩⟩
    rintro e b U hp
    cases e with
    | normal =>
      obtain ⟨hU, hpU, hiU⟩ := hp
      obtain ⟨hlu, hdu, hend⟩ := back none U hU
      exact ⟨_, _, hend, .inl ⟨rfl, turn (X := I) _ U _ _ hI ⟨hiU, hlu, hdu⟩, hKt hpz (hKt hpy (hKt hpU (turnK U _ _ hlu)))⟩⟩
    | ret => exact left .ret U hp.1 hp.2
    | exit id => exact left (.exit id) U hp.1 hp.2
    | goto t => exact left (.goto t) U hp.1 hp.2
    | panic ch => exact hp.elim
    | outgrown => exact hp.elim
  · rintro e U ⟨⟨v, rfl⟩, (⟨xs, hS, hkept⟩ | ⟨pre, hSp, c, hkept⟩)⟩
    · have hend := run_endLoop (P := P) hkept.2.1 (by rw [hmk]; simp)
      have hpe : (mk .ready none).pending = none := by rw [hmk]
      obtain ⟨hi, _, hk⟩ := turn (X := I) xs U _ { mk .ready none with state := .exhausted } hI hkept
      exact ⟨none, U.putObj (d + 1) (.loop { mk .ready none with state := .exhausted }), hend.trans (congrArg (fun q => Result.ok q _) hpe), hdone d xs _ (by omega) hS hi hk⟩
    · have hend := run_endLoop (P := P) hkept.2.1 (by rw [hmk]; simp)
      have hpe : (mk .done (some c)).pending = some c := by rw [hmk]
      obtain ⟨hi, _, hk⟩ := turn (X := Ix c) pre U _ { mk .done (some c) with state := .exhausted } (hIx c) hkept
      exact ⟨some c, U.putObj (d + 1) (.loop { mk .done (some c) with state := .exhausted }), hend.trans (congrArg (fun q => Result.ok q _) hpe), hstop d c pre _ (by omega) hSp hi hk⟩
end Go.Proofs.Ytleoiejkipobbaa.Range
