/-
  Contracts of package check's iterator over the places of the tapes that are so, and of the first thing that an iterator hands on: no statement is proved here.
-/
import Derived.Test.YtllnnlmhbmladaaGreatDoorTapeI
import Derived.Test.YtllnnlmhbmladaaGreatDoorRangeO
import Derived.Sort.CutIn
import Derived.Shelf.AbstractIn
namespace Go.Proofs.YtllnnlmhbmladaaGreatDoor.Check
open Go.RowKit Go.Shelf Go.Proofs.YtllnnlmhbmladaaGreatDoor.Str Go.Proofs.YtllnnlmhbmladaaGreatDoor.Base Go.Proofs.YtllnnlmhbmladaaGreatDoor.RangeO Go.Proofs.YtllnnlmhbmladaaGreatDoor.RangeG
open Go.Proofs.YtllnnlmhbmladaaGreatDoor.TapeM (Tp)
open Go.Proofs.YtllnnlmhbmladaaGreatDoor.Tape (FewT SmallT tc tcs tcells)
open Go.Proofs.YtllnnlmhbmladaaGreatDoor.Drive (RdS RowS)
set_option linter.unusedVariables false

attribute [local go_sem] Oper.semAt_some

/-! ### plain -/
/-- The places of the tapes that are so. -/
def placesV (p : Tp → Bool) : List Tp → Nat → List Int
  | [], _ => []
  | t :: ts, i => if p t = true then (i : Int) :: placesV p ts (i + 1) else placesV p ts (i + 1)
theorem places_app (p : Tp → Bool) (us : List Tp) : ∀ (ts : List Tp) (i : Nat), placesV p (ts ++ us) i = placesV p ts i ++ placesV p us (i + ts.length)
  | [], i => by simp [placesV]
  | t :: ts, i => by
    rw [List.cons_append, placesV, placesV, places_app p us ts (i + 1), List.length_cons, show i + 1 + ts.length = i + (ts.length + 1) by omega]
    split <;> rfl
theorem places_take (p : Tp → Bool) {ts : List Tp} {k : Nat} {t : Tp} (h : ts[k]? = some t) : placesV p (ts.take (k + 1)) 0 = placesV p (ts.take k) 0 ++ (if p t = true then [(k : Int)] else []) := by
  have hl : (ts.take k).length = k := by
    rw [List.length_take]
    have := (List.getElem?_eq_some_iff.1 h).1
    omega
  rw [List.take_add_one, h, places_app, hl, Nat.zero_add]
  rfl
theorem places_pre (p : Tp → Bool) (ts : List Tp) (k : Nat) : placesV p (ts.take k) 0 <+: placesV p ts 0 := by
  have := places_app p (ts.drop k) (ts.take k) 0
  rw [List.take_append_drop] at this
  exact ⟨_, this.symm⟩
theorem places_len (p : Tp → Bool) : ∀ (ts : List Tp) (i : Nat), (placesV p ts i).length ≤ ts.length
  | [], _ => Nat.le_refl _
  | t :: ts, i => by
    have := places_len p ts (i + 1)
    rw [placesV]
    split
    · rw [List.length_cons, List.length_cons]; omega
    · rw [List.length_cons]; omega

/-! ### the iterator -/
abbrev encP (x : Int) : Array Value := #[.int .i64 x]
theorem stp_round {w00 W X : World} {O : Nat → Prop} {l : Nat} (h0 : Stp w00 W) (h : Rnd (fun k => O k ∨ k = l) W X) (hO : ∀ k, k < w00.heap.size → ¬ O k) (hl : w00.heap.size ≤ l) : Stp w00 X :=
  Below.trans h0 (h.below h0.size fun k hk hn => by
    rcases hn with hn | hn
    · exact hO k hk hn
    · omega)
set_option maxRecDepth 100000 in
set_option maxHeartbeats 1000000 in
theorem places_in (n : Nat) (hn : 1 ≤ n) (l : Nat) (p : Tp → Bool) (ts : List Tp) (m : Nat) (hm : ts.length = m) (hm9 : m ≤ 1000) (A : Option Addr) (c tl ti fd : Nat) (cap : Array Value) (hent : ∀ (args : Array Value) (w : World), (callFunc fd args).run Tryz.prog w = .ok (.enter fd args) w) (w00 W : World) (O : Nat → Prop)
    (J Jx : (Nat → Prop) → List Int → World → Prop) (ha : RdS w00 A c ts) (h00 : Stp w00 W) (htl : W.cell? ⟨tl, 0, none⟩ = some (.slice A m c)) (hti : W.cell? ⟨ti, 0, none⟩ = some (.func (.func fd) #[] cap))
    (htO : ¬ O ti ∧ ti ≠ l) (hO : ∀ k, k < w00.heap.size → ¬ O k) (hll : w00.heap.size ≤ l)
    (hdo : ∀ t ∈ ts, ∀ (y : Nat), t.rows.length = y → ∀ (Aj : Option Addr) (kj : Nat) (wr : World), Stp w00 wr → RdL wr Aj kj t.rows → Calls Tryz.prog fd (#[tc t.cap Aj y kj t.mark] ++ cap) wr fun e w' => e = .returned (.bool (p t)) ∧ Stp wr w')
    (stay : ∀ O s X Y, J O s X → Sme IntBox O W.heap.size X Y → J O s Y)
    (hround : ∀ O pre x X, J O pre X → True → pre.length < m → YieldAt Fence.wide (n - 1) Tryz.prog l (encP x) X fun e Y =>
      (e = .returned (.bool true) ∧ ∃ O', J O' (pre ++ [x]) Y ∧ (∀ k, O' k → O k ∨ X.heap.size ≤ k) ∧ Rnd (fun k => O k ∨ k = l) X Y) ∨ (e = .returned (.bool false) ∧ ∃ O', Jx O' (pre ++ [x]) Y))
    (hJ : J O [] W) :
    CallsIn Fence.wide n Tryz.prog 30 #[.func (.yield l) #[] #[], .pointer (some ⟨tl, 0, none⟩), .pointer (some ⟨ti, 0, none⟩)] W fun e Y => (∃ v, e = .returned v) ∧
      ((∃ xs O, xs = placesV p ts 0 ∧ J O xs Y) ∨ (∃ pre O, pre <+: placesV p ts 0 ∧ Jx O pre Y)) := by
  refine callsIn_of_wp Tryz.func30 rfl trivial ?_ rfl
  simp only [Tryz.ntmps30, List.size_toArray, List.length_cons, List.length_nil, Nat.reduceAdd, Nat.reduceSub, Array.replicate_succ, Array.replicate_zero, List.push_toArray, List.append_toArray, List.nil_append, List.cons_append]
  have HR0 := Lib.hid hround
  have HS0 := Lib.hid stay
  have HD := Lib.hid hdo
  have HJ0 := Lib.hid hJ
  have Ha := Lib.hid ha
  have Hti := Lib.hid hti
  have HtO := Lib.hid htO
  have HO := Lib.hid hO
  have H00 := Lib.hid h00
  have Hm := Lib.hid hm
  clear hround stay hdo hJ ha hti htO hO h00 hm
  gi_wp2
  gi_loopw [8] (fun i wr => ∃ (j : Nat) (xs : List Int) (O' : Nat → Prop), j ≤ m ∧ i = .int .i64 (j : Int) ∧ Hid (xs = placesV p (ts.take j) 0) ∧ Hid (J O' xs wr) ∧
    Hid (∀ i, O' i → O i ∨ W.heap.size ≤ i) ∧ Hid (Rnd (fun i => O i ∨ i = l) W wr)) (fun i _ => m - (intOf i).toNat)
  case atStart => exact ⟨0, [], O, by omega, rfl, Lib.hid rfl, HJ0, Lib.hid fun _ h => .inl h, Lib.hid (Rnd.refl W)⟩
  case round =>
    obtain ⟨j, xs, O', hj, rfl, Hx, HJ, Hs, HR⟩ := hrel
    by_cases hlt : j < m
    · obtain ⟨t, ht1⟩ : ∃ t, ts[j]? = some t := ⟨_, List.getElem?_eq_getElem (by rw [Hm.out]; exact hlt)⟩
      have h0r : Stp w00 wr := stp_round H00.out HR.out HO.out hll
      obtain ⟨bb, oo, Aj, kj, rfl, c0, c1, c2, ra⟩ := (Ha.out.keep h0r).at_ ht1
      obtain ⟨y, hy⟩ : ∃ y, t.rows.length = y := ⟨_, rfl⟩
      rw [hy] at c1
      have q1 : wr.cell? ⟨ti, 0, none⟩ = some (.func (.func fd) #[] cap) := RangeG.cell_rnd HR.out Hti.out (by rintro (h | h); exact HtO.out.1 h; exact HtO.out.2 h)
      have hxl : xs.length < m := by
        have h := places_len p (ts.take j) 0
        rw [← Hx.out, List.length_take] at h
        omega
      have hcall := HD.out t (List.mem_of_getElem? ht1) y hy Aj kj
      have Ht1 := Lib.hid ht1
      have Ra := Lib.hid ra
      have Hc := Lib.hid hcall
      have H0r := Lib.hid h0r
      have Hxl := Lib.hid hxl
      clear ht1 hy ra hcall h0r hxl
      have g0 : decide ((j : Int) < (m : Int)) = true := decide_eq_true (by omega)
      gi_upto_region 3 with fail
      have hf := Blk.new wr 38 (tcs t.cap Aj y kj t.mark)
      have hst := Stp.alloc (Stp.refl wr) (.cells (tcs t.cap Aj y kj t.mark) 38)
      change Code.wpIn _ _ _ _ _ _ (wr.alloc (.cells (tcs t.cap Aj y kj t.mark) 38))
      generalize wr.alloc (.cells (tcs t.cap Aj y kj t.mark) 38) = X1 at hf hst ⊢
      replace q1 := (stp_cell hst q1).trans q1
      obtain ⟨⟨t0, t1, t2⟩, -, -, -⟩ := Tape.tt_all hf
      have Hst := Lib.hid hst
      have Hpl := Lib.hid (places_take p Ht1.out)
      clear hst hf c0 c1 c2
      obtain ⟨pt, hpt⟩ : ∃ b, p t = b := ⟨_, rfl⟩
      have Hpt := Lib.hid hpt
      clear hpt
      cases pt
      · gi_wp2_with (refine ⟨trivial, ?_⟩; gi_at_fn fd; refine (callsIn_wide.2 (Hc.out _ (Stp.trans H0r.out Hst.out) (Ra.out.keep Hst.out))).mono ?_; rintro e Y1 ⟨rfl, hs⟩; rw [Hpt.out]; have HY := Lib.hid (Stp.trans Hst.out hs); clear hs)
        refine ⟨fun f hf => (by cases hf), ?_⟩
        gi_wp2
        go_roundw
        case rel =>
          refine ⟨j + 1, xs, O', by omega, by go_num, Lib.hid (by rw [Hpl.out, Hpt.out, ← Hx.out]; simp), Lib.hid (HS0.out _ _ _ _ HJ.out ?_), Hs, Lib.hid ?_⟩
          · exact (Sme.of_stp HY.out)
          · exact HR.out.trans (Rnd.of_stp (O := fun _ => False) HY.out) (fun _ h => h.elim)
        case measure => simp [intOf]; omega
      · gi_wp2_with (refine ⟨trivial, ?_⟩; gi_at_fn fd; refine (callsIn_wide.2 (Hc.out _ (Stp.trans H0r.out Hst.out) (Ra.out.keep Hst.out))).mono ?_; rintro e Y1 ⟨rfl, hs⟩; rw [Hpt.out]; have HY := Lib.hid (Stp.trans Hst.out hs); clear hs; obtain ⟨fn, tmps, assign, body, hy, hR2⟩ := yield_any (m' := n - 1) (HR0.out O' xs (j : Int) Y1 (HS0.out _ _ _ _ HJ.out (Sme.of_stp HY.out)) trivial Hxl.out); dsimp only [encP] at hy)
        refine hR2.mono ?_
        rintro e Y (⟨rfl, O2, hJ2, hs2, hR3⟩ | ⟨rfl, O2, hJ2⟩)
        · have HJ2 := Lib.hid hJ2
          have Hs2 := Lib.hid hs2
          have HR3 := Lib.hid hR3
          clear hJ2 hs2 hR3
          gi_wp2
          go_roundw
          case rel =>
            refine ⟨j + 1, xs ++ [(j : Int)], O2, by omega, by go_num, Lib.hid (by rw [Hpl.out, Hpt.out, ← Hx.out]; rfl), HJ2, Lib.hid fun i hi => ?_, Lib.hid ?_⟩
            · rcases Hs2.out i hi with h | h
              · exact Hs.out i h
              · have := HR.out.size
                have := HY.out.size
                exact .inr (by omega)
            · refine (HR.out.trans (Rnd.of_stp (O := fun _ => False) HY.out) (fun _ h => h.elim)).trans HR3.out fun i hi => ?_
              rcases hi with h | h
              · exact (Hs.out i h).imp .inl id
              · exact .inl (.inr h)
          case measure => simp [intOf]; omega
        · gi_wp2
          refine bodyPost_ret (results_none rfl _ _ _) rfl ?_
          refine ⟨⟨_, rfl⟩, .inr ⟨xs ++ [(j : Int)], O2, ?_, hJ2⟩⟩
          have e1 := places_pre p ts (j + 1)
          rw [Hpl.out, Hpt.out, ← Hx.out] at e1
          exact e1
    · obtain rfl : j = m := by omega
      have g0 : decide ((j : Int) < (j : Int)) = false := decide_eq_false (by omega)
      gi_wp2
      refine bodyPost_end (results_none rfl _ _ _) rfl ?_
      exact ⟨⟨_, rfl⟩, .inl ⟨xs, O', by rw [Hx.out, List.take_of_length_le (by rw [Hm.out]; exact Nat.le_refl _)], HJ.out⟩⟩

/-- The iterator, in the form of the law. -/
theorem places_seq (p : Tp → Bool) (ts : List Tp) (m : Nat) (hm : ts.length = m) (hm9 : m ≤ 1000) (A : Option Addr) (c tl ti fd : Nat) (cap : Array Value) (hent : ∀ (args : Array Value) (w : World), (callFunc fd args).run Tryz.prog w = .ok (.enter fd args) w) (w00 w0 : World) (ha : RdS w00 A c ts) (h00 : Stp w00 w0)
    (htl : w0.cell? ⟨tl, 0, none⟩ = some (.slice A m c)) (hti : w0.cell? ⟨ti, 0, none⟩ = some (.func (.func fd) #[] cap))
    (hdo : ∀ t ∈ ts, ∀ (y : Nat), t.rows.length = y → ∀ (Aj : Option Addr) (kj : Nat) (wr : World), Stp w00 wr → RdL wr Aj kj t.rows → Calls Tryz.prog fd (#[tc t.cap Aj y kj t.mark] ++ cap) wr fun e w' => e = .returned (.bool (p t)) ∧ Stp wr w') :
    SeqO Tryz.prog 30 #[.pointer (some ⟨tl, 0, none⟩), .pointer (some ⟨ti, 0, none⟩)] encP (fun _ _ => True) IntBox False (fun k => k < w00.heap.size ∨ k = ti) (fun xs => xs = placesV p ts 0) (fun pre => pre <+: placesV p ts 0) m w0 :=
  fun n l J Jx O W hn hW hl0 hl1 _ hR stay _ _ _ hround h0 =>
    have hlb := World.block_lt_of_cell? w0 _ hti
    places_in n hn l p ts m hm hm9 A c tl ti fd cap hent w00 W O J Jx ha (Stp.trans h00 hW) ((stp_cell hW htl).trans htl) ((stp_cell hW hti).trans hti) ⟨hR ti (.inr rfl), by show ti ≠ l; have : ti < w0.heap.size := hlb; omega⟩
      (fun k hk => hR k (.inl hk)) (Nat.le_trans h00.size hl0) hdo stay hround h0
set_option maxRecDepth 100000 in
/-- places: the tapes and the function are boxed; the function value captures the boxes. -/
theorem places_any (A : Option Addr) (n c fd : Nat) (cap : Array Value) (w : World) :
    Calls Tryz.prog 19 #[.slice A n c, .func (.func fd) #[] cap] w fun e w' => e = .returned (.func (.func 30) #[] #[.pointer (some ⟨w.heap.size, 0, none⟩), .pointer (some ⟨w.heap.size + 1, 0, none⟩)]) ∧
      w' = (w.alloc (.cells #[.slice A n c] 26)).alloc (.cells #[.func (.func fd) #[] cap] 54) := by
  have hmf : ∀ (fn : Fn) (first cap : Array Value) (w : World), (Instr.makeFunc fn first cap).run Tryz.prog w = .ok (.func fn first cap) w := fun _ _ _ _ => rfl
  go_enter Tryz.func19, Tryz.ntmps19
  go_wp2_with fail
  go_ret
  exact ⟨rfl, rfl⟩

/-! ### the first thing that is handed on -/
/-- While nothing came. -/
def IFi (w : World) (O : Nat → Prop) (pre : List Int) (X : World) : Prop :=
  (∀ k, O k ↔ k = w.heap.size) ∧ Boxed X w.heap.size 3 (.int .i64 0) ∧ pre = [] ∧ Stp w X
/-- What came. -/
def XFi (w : World) (c : Code) (O : Nat → Prop) (pre : List Int) (X : World) : Prop :=
  c = .ret ∧ (∀ k, O k ↔ k = w.heap.size) ∧ (∃ x, pre = [x] ∧ Boxed X w.heap.size 3 (.int .i64 x)) ∧ Stp w X
theorem box_take {r D : Nat} {X : World} {v : Value} {t : TypeId} (h : Boxed X r t v) (hK : X.heap[D]? = some (.deferred (some []))) : (X.putObj D (.deferred none)).cell? ⟨r, 0, none⟩ = some v :=
  cell_kept h.cell (grownBy_putObj' X D (.deferred none)) (fun r e => by cases e; exact ⟨_, hK, rfl⟩)
set_option maxRecDepth 100000 in
set_option maxHeartbeats 2000000 in
theorem first_s (gf : Nat) (lb : Array Value) (eg : ∀ (args : Array Value) (w : World), (callFunc gf args).run Tryz.prog w = .ok (.enter gf args) w) (R : Nat → Prop) (V : List Int) (N : Nat) (w : World)
    (hseq : ∀ w0, Stp w w0 → SeqO Tryz.prog gf lb encP (fun _ _ => True) IntBox False R (fun xs => xs = V) (fun pre => pre <+: V) N w0) (hR : ∀ k, R k → k < w.heap.size) (o x : Int) (hx : V.head?.getD o = x) :
    Calls Tryz.prog 18 #[.func (.func gf) #[] lb, .int .i64 o] w fun e w' => e = .returned (.int .i64 x) ∧ Stp w w' := by
  have Hx := Lib.hid hx
  clear hx
  refine (callsIn_wide (n := 4)).1 ?_
  refine callsIn_of_wp_marks Tryz.func18 rfl trivial ?_ rfl
  simp only [Tryz.ntmps18, List.size_toArray, List.length_cons, List.length_nil, Nat.reduceAdd, Nat.reduceSub, Array.replicate_succ, Array.replicate_zero, List.push_toArray, List.append_toArray, List.nil_append, List.cons_append]
  gi_wp2_with fail
  have bO := Boxed.new w 3 (.int .i64 0)
  have hst : Stp w (w.alloc (.cells #[.int .i64 0] 3)) := Stp.alloc (Stp.refl w) _
  have hsz : (w.alloc (.cells #[.int .i64 0] 3)).heap.size = w.heap.size + 1 := by simp
  refine range_o (by omega) (gf := gf) (lb := lb) rfl eg (hseq _ hst) (Stp.refl _) (fun _ => rfl)
    (IFi w) (XFi w) (fun k => k = w.heap.size) (fun k h e => by have := hR k h; omega) ?hI ?hIx ?hO ?hOx (fun h => h.elim) ?h0
    (fun x a' X => a' = { tmps := #[.func (.func gf) #[] lb, .int .i64 o, undef, undef, .pointer (some ⟨w.heap.size, 0, none⟩), .int .i64 x, .func (.func gf) #[] lb, .int .i64 x, undef, undef], defers := [] }) (fun x a' X l r r' h hl => h) ?assign ?body ?done ?stop
  case hI =>
    rintro O s X Y ⟨h1, h2, h3, h4⟩ hs
    rw [hsz] at hs
    exact ⟨h1, hs.same h2 (.inr (.inr (by omega))), h3, stp_sme hs h4 (by omega)⟩
  case hIx =>
    rintro c O s X Y ⟨h1, h2, ⟨y, h3, h4⟩, h5⟩ hs
    rw [hsz] at hs
    exact ⟨h1, h2, ⟨y, h3, hs.same h4 (.inr (.inr (by omega)))⟩, stp_sme hs h5 (by omega)⟩
  case hO =>
    rintro O s X ⟨h1, h2, h3, h4⟩ k hk
    obtain rfl := (h1 k).1 hk
    exact ⟨_, h2, rfl⟩
  case hOx =>
    rintro c O s X ⟨h1, h2, ⟨y, h3, h4⟩, h5⟩ k hk
    obtain rfl := (h2 k).1 hk
    exact ⟨_, h4, rfl⟩
  case h0 => exact ⟨fun k => Iff.rfl, bO, rfl, hst⟩
  case assign =>
    intro l O pre x X K hi hc hK
    gi_wp2
    exact hK _ _ (Stp.refl X) rfl
  case body =>
    rintro l O pre x a' X hwl ⟨h1, h2, rfl, h4⟩ rfl hlt
    have hc := h2.cell
    have hf := h2.frozen
    have H1 := Lib.hid h1
    have H2 := Lib.hid h2
    have H4 := Lib.hid h4
    clear h1 h2 h4 bO
    gi_wp2
    exact ⟨O, ⟨rfl, H1.out, ⟨x, rfl, H2.out.set _⟩, Below.setCell H4.out (p := ⟨w.heap.size, 0, none⟩) (Nat.le_refl _) _⟩, (Rnd.refl X (O := O)).setCell (p := ⟨w.heap.size, 0, none⟩) (.inl ((H1.out _).2 rfl)) _⟩
  case done =>
    rintro D O ys X hD hys ⟨h1, h2, h3, h4⟩ hK
    rw [hsz] at hD
    subst hys
    have hx := Hx.out
    rw [h3] at hx
    have hxo : x = o := hx.symm
    subst hxo
    have f1 := h2.frozen
    have c1 := h2.cell
    have H2 := Lib.hid h2
    have H4 := Lib.hid h4
    clear h1 h2 h3 h4 bO hx
    gi_wp2
    have n1 : D ≠ w.heap.size := by omega
    have hK' : (X.setCell ⟨w.heap.size, 0, none⟩ (.int .i64 x)).heap[D]? = some (.deferred (some [])) := (Below.heap_setCell _ _ _ _ n1).trans hK
    have r1 := box_take (H2.out.set (.int .i64 x)) hK'
    exact ⟨by simp, .inl ⟨_, _, rfl, run_takeDeferred hK', ⟨.int .i64 x, by simp [results, Tryz.f18, go_sem, r1], rfl, stp_sme (O := fun _ => False) (Sme.putObj _ hK' (B := w.heap.size) (by omega) (fun h => h) (.inr rfl) (.inr rfl)) (Below.setCell H4.out (p := ⟨w.heap.size, 0, none⟩) (Nat.le_refl _) _) (Nat.le_refl _)⟩⟩⟩
  case stop =>
    rintro D c O pre X hD hpre ⟨rfl, h2, ⟨y, rfl, h4⟩, h5⟩ hK
    rw [hsz] at hD
    have hw : y = x := by
      rw [← Hx.out]
      obtain ⟨r, hr⟩ := hpre
      rw [← hr]
      rfl
    subst hw
    clear bO
    gi_wp2
    have r1 := box_take h4 hK
    exact ⟨by simp, .inl ⟨_, _, rfl, run_takeDeferred hK, ⟨.int .i64 y, by simp [results, Tryz.f18, go_sem, r1], rfl, stp_sme (O := fun _ => False) (Sme.putObj _ hK (B := w.heap.size) (by omega) (fun h => h) (.inr rfl) (.inr rfl)) h5 (Nat.le_refl _)⟩⟩⟩
end Go.Proofs.YtllnnlmhbmladaaGreatDoor.Check
