/-
  What package parse's code does with a block, whatever the phase: take, which panics and recovers. No statement is proved here.
  Package parse's Step: the code's contract. No statement is proved here.
  Package parse's Run: the code's contract. No statement is proved here.
  Package parse's Same: the code's contract. No statement is proved here. Package parse's code: its four contracts, and entry's Put; and the walks over any slices of bytes. No statement is proved here.
-/
import Derived.Test.YthjdejjejlhioaaGreatDoorParseR7
import Derived.Test.YthjdejjejlhioaaGreatDoorParseMayC
import Derived.Test.YthjdejjejlhioaaGreatDoorParseI
import Derived.Deep.RegionLaw
import Derived.Deep.CutRange
import Derived.Test.YthjdejjejlhioaaGreatDoorEvs
import Derived.BigQuiet
namespace Go.Proofs.YthjdejjejlhioaaGreatDoor.Parse
open Go.RowKit Go.Proofs.YthjdejjejlhioaaGreatDoor.Str Go.Proofs.YthjdejjejlhioaaGreatDoor.Base Go.Proofs.YthjdejjejlhioaaGreatDoor.Node Go.Proofs.YthjdejjejlhioaaGreatDoor.Long Go.Proofs.YthjdejjejlhioaaGreatDoor.Head
open Go.Proofs.YthjdejjejlhioaaGreatDoor.Tree (oneB)

/-- The method of each phase. -/
def methF (p : Nat) : FuncId := [135, 136, 137, 138, 139, 140].getD p 0
theorem index_meths (g : Nat) (p : Nat) (hp : p < 6) (w : World) : (Instr.index 167 (.agg (meths g)) (.int .i64 (p : Int))).run Tryz.prog w = .ok (.func (.func (methF p)) #[.pointer (some ⟨g, 0, none⟩)] #[]) w := by
  have hp : p = 0 ∨ p = 1 ∨ p = 2 ∨ p = 3 ∨ p = 4 ∨ p = 5 := by omega
  rcases hp with rfl | rfl | rfl | rfl | rfl | rfl <;> simp [Instr.index, go_sem, methF]
theorem call_meths (p : Nat) (hp : p < 6) (args : Array Value) (w : World) : (callFunc (methF p) args).run Tryz.prog w = .ok (.enter (methF p) args) w := by
  have hp : p = 0 ∨ p = 1 ∨ p = 2 ∨ p = 3 ∨ p = 4 ∨ p = 5 := by omega
  rcases hp with rfl | rfl | rfl | rfl | rfl | rfl <;> (simp only [methF, List.getD, List.getElem?_cons_zero, List.getElem?_cons_succ, Option.getD_some]; go_simp)
/-- What a phase does, by its contract. -/
theorem meth_s (g lo : Nat) (s : St) (hm : mayS s = true) (p : Nat) (hp : s.phase = (p : Int)) (b : L) (hb : b.length = 512) (A : Option Addr) (c : Nat) (w : World) (h : Lies w g lo s (.slice none 0 0) []) (ha : RdA w A c (bs b)) :
    Calls Tryz.prog (methF p) #[.pointer (some ⟨g, 0, none⟩), .slice A b.length c] w fun e w' => Took g lo (stepS s b) w e w' := by
  have hr := may_phase hm
  have hst : ∀ t : Ans, (if mayS s = false ∨ b.length ≠ 512 then (s, [], 1) else t) = t := fun t => if_neg (by rw [hm]; simp [hb])
  unfold stepS
  rw [hst]
  have hp2 : p = 0 ∨ p = 1 ∨ p = 2 ∨ p = 3 ∨ p = 4 ∨ p = 5 := by omega
  rcases hp2 with rfl | rfl | rfl | rfl | rfl | rfl
  · rw [if_neg (by rw [hp]; decide), if_neg (by rw [hp]; decide), if_neg (by rw [hp]; decide), if_neg (by rw [hp]; decide)]
    exact header_s g lo s _ b hb (by rw [hp]; rfl) hm A c w h ha
  · obtain ⟨k1, ⟨k2, k3, k4, k5⟩, k6, k7⟩ := (name_iff hp).1 hm
    rw [if_neg (by rw [hp]; decide), if_neg (by rw [hp]; decide), if_pos (.inl (by rw [hp]; rfl))]
    have := name_s g lo s _ (s.size.toNat - 1) (by omega) (by omega) (by omega) b hb A c w h ha
    unfold textS
    rw [show (⟨0, zeroN, 0, 0, [], b.take (s.size.toNat - 1), s.link⟩ : St) = (if s.phase = 1 then { s with phase := 0, size := 0, left := 0, name := b.take (s.size.toNat - 1) } else { s with phase := 0, size := 0, left := 0, link := b.take (s.size.toNat - 1) }) by
      rw [if_pos (by rw [hp]; rfl), k1, k2]] at this
    exact this
  · obtain ⟨k1, ⟨k2, k3, k4, k5⟩, k6, k7⟩ := (link_iff hp).1 hm
    rw [if_neg (by rw [hp]; decide), if_neg (by rw [hp]; decide), if_pos (.inr (by rw [hp]; rfl))]
    have := link_s g lo s _ (s.size.toNat - 1) (by omega) (by omega) (by omega) b hb A c w h ha
    unfold textS
    rw [show (⟨0, zeroN, 0, 0, [], s.name, b.take (s.size.toNat - 1)⟩ : St) = (if s.phase = 1 then { s with phase := 0, size := 0, left := 0, name := b.take (s.size.toNat - 1) } else { s with phase := 0, size := 0, left := 0, link := b.take (s.size.toNat - 1) }) by
      rw [if_neg (by rw [hp]; decide), k1, k2]] at this
    exact this
  · obtain ⟨k1, ⟨k2, k3, k4, k5, k6, k7, k8, k9⟩, k10, k11⟩ := (data_iff hp).1 hm
    rw [if_neg (by rw [hp]; decide), if_neg (by rw [hp]; decide), if_neg (by rw [hp]; decide), if_pos (by rw [hp]; rfl)]
    exact data_s g lo s _ s.left.toNat (by omega) (by omega) (by omega) b hb A c w h ha
  · obtain ⟨k1, ⟨k2, k3, k4⟩, k5, k6⟩ := (over_iff (.inl hp)).1 hm
    rw [if_neg (by rw [hp]; decide), if_pos (by rw [hp]; rfl)]
    obtain rfl : s = phS 4 := by
      obtain ⟨_, _, _, _, _, _, _⟩ := s
      simp only at k1 k2 k3 k4 k5 k6 hp
      subst k1 k2 k3 k4 k5 k6 hp
      rfl
    exact noughts_s g lo _ b hb A c w h ha
  · rw [if_pos (by rw [hp]; rfl)]
    exact nothing_s g lo s _ w
/-- What is asked at a panic, and what else. -/
def OnPanic (Pn : List PanicEntry → Act → World → Prop) (Q : Exit → Act → World → Prop) : Exit → Act → World → Prop
  | .panic ch, a, w => Pn ch a w
  | e, a, w => Q e a w
theorem wp_part {c : Code} {Q : Exit → Act → World → Prop} {a : Act} {w : World} (Pn : List PanicEntry → Act → World → Prop) (hp : ∀ ch a' w', Pn ch a' w' → Q (.panic ch) a' w') (h : c.wp Tryz.prog (OnPanic Pn Q) a w) : c.wp Tryz.prog Q a w :=
  Code.wp_mono (fun e a' w' h => by cases e <;> first | exact h | exact hp _ _ _ h) h
theorem onp_normal {Pn : List PanicEntry → Act → World → Prop} {Q : Exit → Act → World → Prop} {a : Act} {w : World} (h : Q .normal a w) : OnPanic Pn Q .normal a w := h
/-- At a panic: the deferred closure waits, the result's cell is at r, and so on. -/
def Pn (r : Nat) (R : List PanicEntry → World → Prop) (ch : List PanicEntry) (a : Act) (w : World) : Prop :=
  a.defers = [{ target := .fn (.func 101) #[.pointer (some ⟨r, 0, none⟩)], args := #[] }] ∧ a.tmps[4]? = some (.pointer (some ⟨r, 0, none⟩)) ∧ R ch w
theorem onp_put {r : Nat} {R : List PanicEntry → World → Prop} {Q : Exit → Act → World → Prop} {o : Option Nat} {v : Value} (hd : o ≠ some 4) : ∀ (ch : List PanicEntry) (a : Act) (w : World), OnPanic (Pn r R) Q (.panic ch) (a.put o v) w → OnPanic (Pn r R) Q (.panic ch) a w := by
  intro ch a w h
  obtain ⟨h1, h2, h3⟩ : Pn r R ch (a.put o v) w := h
  show Pn r R ch a w
  cases o with
  | none => exact ⟨h1, h2, h3⟩
  | some d =>
    have hd2 : d ≠ 4 := fun e => hd (by rw [e])
    refine ⟨h1, ?_, h3⟩
    simpa [Act.put, Array.getElem?_setIfInBounds, hd2] using h2
/-- What take answers, and what the parser then is. -/
def Taken (g : Nat) (a : Ans) (w : World) (e : Ending) (w' : World) : Prop :=
  e = .returned (.int .i64 a.2.2) ∧ (a.2.2 = 0 → ∃ lo v, Lies w' g lo a.1 v a.2.1) ∧ Kp g w.heap.size w w'
theorem Kp.less {g lo lo' : Nat} {w w' : World} (h : Kp g lo w w') (hl : lo' ≤ lo) : Kp g lo' w w' := ⟨h.os, h.tape, h.output, h.size, fun k hk hg => h.block k (by omega) hg⟩
/-- What holds at a panic. -/
def TkR (g : Nat) (a : Ans) (w : World) (r : Nat) (ch : List PanicEntry) (W : World) : Prop := ∃ k, k = a.2.2 ∧ k ≠ 0 ∧ ch = [pe k] ∧ Kp g r w W ∧ Blk W r 30 #[.int .i64 0]
theorem Kp.far {g lo : Nat} {w w' : World} (h : Kp g lo w w') {b i : Nat} (hb : lo ≤ b) (u : Value) : Kp g lo w (w'.setCell ⟨b, i, none⟩ u) :=
  ⟨h.os, h.tape, h.output, by simpa [World.setCell] using h.size, fun k hk hg => (Below.heap_setCell w' ⟨b, i, none⟩ u k (by show k ≠ b; omega)).trans (h.block k hk hg)⟩
set_option maxRecDepth 100000 in
set_option maxHeartbeats 4000000 in
theorem take_yes (g : Nat) (s : St) (hs : SmallS s) (hm : mayS s = true) (b : L) (hb : b.length = 512) (A : Option Addr) (c : Nat) (w : World) (hbk : Blk w g 120 (pcells s (.slice none 0 0))) (ha : RdA w A c (bs b)) :
    Calls Tryz.prog 63 #[.pointer (some ⟨g, 0, none⟩), .slice A b.length c] w fun e w' => Taken g (stepS s b) w e w' := by
  have hmf : ∀ (fn : Fn) (first cap : Array Value) (w : World), (Instr.makeFunc fn first cap).run Tryz.prog w = .ok (.func fn first cap) w := fun _ _ _ _ => rfl
  obtain ⟨p, hp⟩ : ∃ p : Nat, s.phase = (p : Int) := ⟨s.phase.toNat, by have := may_phase hm; omega⟩
  have Hp := Lib.hid hp
  have Hp6 := Lib.hid (show p < 6 by have := may_phase hm; omega)
  have Hm := Lib.hid hm
  have Hs := Lib.hid hs
  have HB := Lib.hid hb
  have h1 := Stp.alloc (Stp.refl w) (.cells #[.int .i64 0] 30)
  have H := Lib.hid (show Lies (w.alloc (.cells #[.int .i64 0] 30)) g (w.heap.size + 1) s (.slice none 0 0) [] from ⟨hbk.alloc _, RowE.nil _ _, by have := hbk.lt; omega, by rw [World.size_alloc]; exact Nat.le_refl _⟩)
  have HKp := Lib.hid (Kp.of_stp (g := g) h1 (Nat.le_refl w.heap.size))
  have Hr := Lib.hid (Blk.new w 30 #[.int .i64 0])
  have HRG := Lib.hid (show w.heap.size ≠ g from Nat.ne_of_gt hbk.lt)
  have Ha := Lib.hid (ha.keep h1)
  have hlen : ((b.length : Int) == 512) = true := by rw [hb]; rfl
  have hix := fun W => index_meths g p Hp6.out W
  have hcf := fun args W => call_meths p Hp6.out args W
  obtain ⟨r, hr⟩ : ∃ x, w.heap.size = x := ⟨_, rfl⟩
  rw [hr] at Hr HRG HKp H
  have HRL := Lib.hid (show r < r + 1 by omega)
  have HRE := Lib.hid hr
  obtain ⟨q0, q1, q2, q3, q4, q5, q6, q7, q8, q9, q10, q11, q12, q13, q14⟩ := H.out.cells
  clear hb hp hm hs ha h1 hbk
  go_enter_defers Tryz.func63, Tryz.ntmps63
  go_upto_region 3 with (first
    | (go_at_call 18; (refine (cmay_s s _ (by rfl) Hs.out _).mono ?_); rintro e w2 ⟨rfl, hs⟩; rw [Hm.out]; replace HKp := Lib.hid (HKp.out.stp hs (Nat.le_trans (Nat.le_succ _) H.out.le)); replace H := Lib.hid (H.out.keep hs); replace Ha := Lib.hid (Ha.out.keep hs); replace Hr := Lib.hid (Hr.out.keep hs Hr.out.lt); clear hs q0 q1 q2 q3 q4 q5 q6 q7 q8 q9 q10 q11 q12 q13 q14; obtain ⟨q0, q1, q2, q3, q4, q5, q6, q7, q8, q9, q10, q11, q12, q13, q14⟩ := H.out.cells)
    | (go_at_call 102; (with_reducible refine (must_yes _ _).mono ?_); rintro e w3 ⟨rfl, rfl⟩))
  clear q1 q2 q3 q4 q5 q6 q7 q8 q9 q10 q11 q12 q13 q14 hlen
  rw [Hp.out] at q0
  have HLE := Lib.hid (Nat.le_trans (Nat.le_succ _) H.out.le)
  refine wp_part (Pn r (TkR g (stepS s b) w r)) ?imp ?_
  case imp =>
    rintro ch a' w7 ⟨hd, h4, k, hk, hk0, rfl, hkp, hblk⟩
    change bodyPostD Tryz.prog Tryz.f63 (fun e w' => Taken g (stepS s b) w e w') (.panic [pe k]) a' w7
    unfold bodyPostD
    simp only
    rw [hd]
    refine leaves_cons (f := 101) (args := #[.pointer (some ⟨r, 0, none⟩)]) (by simp) (by simp [go_sem]) ?_
    refine (catch_panicking ⟨r, 0, none⟩ 0 k [] _ (by rw [hblk.cell]; rfl) (hblk.free 0)).mono ?_
    rintro e u' w8 ⟨rfl, rfl, rfl⟩
    have hb2 := hblk.put 0 (.int .i64 k)
    have r2 : (w7.setCell ⟨r, 0, none⟩ (.int .i64 k)).cell? ⟨r, 0, none⟩ = some (.int .i64 k) := by rw [hb2.cell]; rfl
    show Leaves Tryz.prog Tryz.f63 a'.tmps _ [] .returning _
    refine ⟨.int .i64 k, ?_, ?_⟩
    · simp [results, Tryz.results63, go_sem, h4, r2]
    · refine ⟨by rw [hk], fun h0 => absurd (hk.trans h0) hk0, ?_⟩
      rw [HRE.out]
      exact hkp.far (Nat.le_refl r) _
  refine wp_region_any (by kernel_rfl) ?_
  try (change wpAny _ _ _ _ _ _ _ (World.drew _))
  refine wpAny_take (i := 0) (v := ?v0a) rfl (by kernel_rfl) (by kernel_rfl) (by kernel_rfl) (onp_put (by decide)) (Or.inl ⟨by rfl, ?hy0a⟩) ?rest0a
  case hy0a => (intro w; go_simp; try with_reducible rfl)
  refine wpAny_take (i := 2) (v := ?v2a) rfl (by kernel_rfl) (by kernel_rfl) (by kernel_rfl) (onp_put (by decide)) (Or.inl ⟨by rfl, ?hy2a⟩) ?rest2a
  case hy2a => (intro w; go_simp; try with_reducible rfl)
  refine wpAny_take (i := 3) (v := ?v3a) rfl (by kernel_rfl) (by kernel_rfl) (by kernel_rfl) (onp_put (by decide)) (Or.inl ⟨by rfl, ?hy3a⟩) ?rest3a
  case hy3a => (intro w; go_simp; try with_reducible rfl)
  refine wpAny_take (i := 4) (v := ?v4a) rfl (by kernel_rfl) (by kernel_rfl) (by kernel_rfl) (onp_put (by decide)) (Or.inl ⟨by rfl, ?hy4a⟩) ?rest4a
  case hy4a => (intro w; go_simp; try with_reducible rfl)
  refine wpAny_take (i := 5) (v := ?v5a) rfl (by kernel_rfl) (by kernel_rfl) (by kernel_rfl) (onp_put (by decide)) (Or.inl ⟨by rfl, ?hy5a⟩) ?rest5a
  case hy5a => (intro w; go_simp; try with_reducible rfl)
  refine wpAny_take (i := 8) (v := ?v8a) rfl (by kernel_rfl) (by kernel_rfl) (by kernel_rfl) (onp_put (by decide)) (Or.inl ⟨by rfl, ?hy8a⟩) ?rest8a
  case hy8a => (intro w; go_simp; try with_reducible rfl)
  refine wpAny_ready (rs := [1, 6]) (by kernel_rfl) (by simp) ?_
  refine AllReady.cons rfl (fun K hK => ?wc) (AllReady.cons rfl (fun K hK => ?wl) AllReady.nil)
  case wc =>
    go_simp
    refine (phases_s g _).mono ?_
    rintro e w5 ⟨rfl, hs⟩
    replace H := Lib.hid (H.out.keep (Stp.trans (stp_dr (Stp.refl _)) hs))
    replace HKp := Lib.hid (HKp.out.stp (Stp.trans (stp_dr (Stp.refl _)) hs) HLE.out)
    have HLE5 := Lib.hid H.out.le
    replace Ha := Lib.hid (Ha.out.keep (Stp.trans (stp_dr (Stp.refl _)) hs))
    replace Hr := Lib.hid (Hr.out.keep (Stp.trans (stp_dr (Stp.refl _)) hs) Hr.out.lt)
    clear hs q0
    obtain ⟨q0, q1, q2, q3, q4, q5, q6, q7, q8, q9, q10, q11, q12, q13, q14⟩ := H.out.cells
    clear q1 q2 q3 q4 q5 q6 q7 q8 q9 q10 q11 q12 q13 q14
    rw [Hp.out] at q0
    refine hK _ _ ?_
    clear hK K
    refine wpAny_ready (rs := [6]) (by kernel_rfl) (by simp) ?_
    refine AllReady.cons rfl (fun K hK => ?_) AllReady.nil
    go_simp
    refine hK _ _ ?_
    clear hK K
    refine wpAny_ready (rs := [7]) (by kernel_rfl) (by simp) ?_
    refine AllReady.cons rfl (fun K hK => ?_) AllReady.nil
    go_simp
    refine hK _ _ ?_
    clear hK K
    refine wpAny_ready (rs := [9]) (by kernel_rfl) (by simp) ?_
    refine AllReady.cons rfl (fun K hK => ?_) AllReady.nil
    go_simp
    refine (meth_s g _ s Hm.out p Hp.out b HB.out A c _ H.out Ha.out).mono ?_
    rintro e w6 ⟨⟨h1, rfl, v6, hv6⟩ | ⟨h1, rfl⟩, hk6⟩
    · have H6 := Lib.hid hv6
      have K6 := Lib.hid (HKp.out.trans (hk6.less (Nat.le_succ r)))
      have Hr6 := Lib.hid (hk6.blk Hr.out HRL.out HRG.out)
      have HE := Lib.hid h1
      clear hv6 hk6 h1
      refine hK _ _ ?_
      clear hK K
      refine wpAny_done (by kernel_rfl) ?_ _
      refine onp_normal ?_
      have r0 : w6.cell? ⟨r, 0, none⟩ = some (.int .i64 0) := by rw [Hr6.out.cell]; rfl
      have r1 : w6.frozen? ⟨r, 0, none⟩ = false := Hr6.out.free 0
      go_wp2_with fail
      refine leaves_cons (f := 101) (args := #[.pointer (some ⟨r, 0, none⟩)]) (by simp) (by simp [go_sem]) ?_
      refine (catch_idle ⟨r, 0, none⟩ _).mono ?_
      rintro e u' w'' ⟨rfl, rfl, rfl⟩
      have hb2 := Hr6.out.put 0 (.int .i64 0)
      have r2 : (w6.setCell ⟨r, 0, none⟩ (.int .i64 0)).cell? ⟨r, 0, none⟩ = some (.int .i64 0) := by rw [hb2.cell]; rfl
      show Leaves Tryz.prog Tryz.f63 _ _ [] .returning _
      refine ⟨.int .i64 0, by simp [results, Tryz.results63, go_sem, r2], by rw [HE.out], fun _ => ⟨r + 1, v6, ⟨H6.out.blk.far (Ne.symm HRG.out) _, H6.out.row.put (Nat.lt_succ_self r) 0 _, H6.out.lt, Nat.le_trans H6.out.le ((Kp.refl g r w6).far (b := r) (i := 0) (Nat.le_refl r) (.int .i64 0)).size⟩⟩, ?_⟩
      rw [HRE.out]
      exact K6.out.far (Nat.le_refl r) _
    · exact ⟨rfl, rfl, _, rfl, h1, rfl, HKp.out.trans (hk6.less (Nat.le_succ r)), hk6.blk Hr.out HRL.out HRG.out⟩
  case wl =>
    go_simp
    refine hK _ _ ?_
    clear hK K
    refine wpAny_ready (rs := [1]) (by kernel_rfl) (by simp) ?_
    refine AllReady.cons rfl (fun K hK => ?_) AllReady.nil
    go_simp
    refine (phases_s g _).mono ?_
    rintro e w5 ⟨rfl, hs⟩
    replace H := Lib.hid (H.out.keep (Stp.trans (stp_dr (Stp.refl _)) hs))
    replace HKp := Lib.hid (HKp.out.stp (Stp.trans (stp_dr (Stp.refl _)) hs) HLE.out)
    have HLE5 := Lib.hid H.out.le
    replace Ha := Lib.hid (Ha.out.keep (Stp.trans (stp_dr (Stp.refl _)) hs))
    replace Hr := Lib.hid (Hr.out.keep (Stp.trans (stp_dr (Stp.refl _)) hs) Hr.out.lt)
    clear hs q0
    obtain ⟨q0, q1, q2, q3, q4, q5, q6, q7, q8, q9, q10, q11, q12, q13, q14⟩ := H.out.cells
    clear q1 q2 q3 q4 q5 q6 q7 q8 q9 q10 q11 q12 q13 q14
    rw [Hp.out] at q0
    refine hK _ _ ?_
    clear hK K
    refine wpAny_ready (rs := [7]) (by kernel_rfl) (by simp) ?_
    refine AllReady.cons rfl (fun K hK => ?_) AllReady.nil
    go_simp
    refine hK _ _ ?_
    clear hK K
    refine wpAny_ready (rs := [9]) (by kernel_rfl) (by simp) ?_
    refine AllReady.cons rfl (fun K hK => ?_) AllReady.nil
    go_simp
    refine (meth_s g _ s Hm.out p Hp.out b HB.out A c _ H.out Ha.out).mono ?_
    rintro e w6 ⟨⟨h1, rfl, v6, hv6⟩ | ⟨h1, rfl⟩, hk6⟩
    · have H6 := Lib.hid hv6
      have K6 := Lib.hid (HKp.out.trans (hk6.less (Nat.le_succ r)))
      have Hr6 := Lib.hid (hk6.blk Hr.out HRL.out HRG.out)
      have HE := Lib.hid h1
      clear hv6 hk6 h1
      refine hK _ _ ?_
      clear hK K
      refine wpAny_done (by kernel_rfl) ?_ _
      refine onp_normal ?_
      have r0 : w6.cell? ⟨r, 0, none⟩ = some (.int .i64 0) := by rw [Hr6.out.cell]; rfl
      have r1 : w6.frozen? ⟨r, 0, none⟩ = false := Hr6.out.free 0
      go_wp2_with fail
      refine leaves_cons (f := 101) (args := #[.pointer (some ⟨r, 0, none⟩)]) (by simp) (by simp [go_sem]) ?_
      refine (catch_idle ⟨r, 0, none⟩ _).mono ?_
      rintro e u' w'' ⟨rfl, rfl, rfl⟩
      have hb2 := Hr6.out.put 0 (.int .i64 0)
      have r2 : (w6.setCell ⟨r, 0, none⟩ (.int .i64 0)).cell? ⟨r, 0, none⟩ = some (.int .i64 0) := by rw [hb2.cell]; rfl
      show Leaves Tryz.prog Tryz.f63 _ _ [] .returning _
      refine ⟨.int .i64 0, by simp [results, Tryz.results63, go_sem, r2], by rw [HE.out], fun _ => ⟨r + 1, v6, ⟨H6.out.blk.far (Ne.symm HRG.out) _, H6.out.row.put (Nat.lt_succ_self r) 0 _, H6.out.lt, Nat.le_trans H6.out.le ((Kp.refl g r w6).far (b := r) (i := 0) (Nat.le_refl r) (.int .i64 0)).size⟩⟩, ?_⟩
      rw [HRE.out]
      exact K6.out.far (Nat.le_refl r) _
    · exact ⟨rfl, rfl, _, rfl, h1, rfl, HKp.out.trans (hk6.less (Nat.le_succ r)), hk6.blk Hr.out HRL.out HRG.out⟩
set_option maxRecDepth 100000 in
set_option maxHeartbeats 2000000 in
theorem take_no (g : Nat) (s : St) (b : L) (hs : SmallS s) (hm : ¬ (mayS s = true ∧ b.length = 512)) (A : Option Addr) (c : Nat) (w : World) (hbk : Blk w g 120 (pcells s (.slice none 0 0))) :
    Calls Tryz.prog 63 #[.pointer (some ⟨g, 0, none⟩), .slice A b.length c] w fun e w' => Taken g (s, [], 1) w e w' := by
  have hmf : ∀ (fn : Fn) (first cap : Array Value) (w : World), (Instr.makeFunc fn first cap).run Tryz.prog w = .ok (.func fn first cap) w := fun _ _ _ _ => rfl
  have Hs := Lib.hid hs
  obtain ⟨M, hM⟩ : ∃ x, mayS s = x := ⟨_, rfl⟩
  have HM := Lib.hid hM
  rw [hM] at hm
  have h1 := Stp.alloc (Stp.refl w) (.cells #[.int .i64 0] 30)
  have hb1 := hbk.alloc (.cells #[.int .i64 0] 30)
  have H := Lib.hid (show Lies (w.alloc (.cells #[.int .i64 0] 30)) g (w.heap.size + 1) s (.slice none 0 0) [] from ⟨hbk.alloc _, RowE.nil _ _, by have := hbk.lt; omega, by rw [World.size_alloc]; exact Nat.le_refl _⟩)
  have HKp := Lib.hid (Kp.of_stp (g := g) h1 (Nat.le_refl w.heap.size))
  have Hr := Lib.hid (Blk.new w 30 #[.int .i64 0])
  obtain ⟨r, hr⟩ : ∃ x, w.heap.size = x := ⟨_, rfl⟩
  rw [hr] at Hr HKp H
  have HRE := Lib.hid hr
  obtain ⟨q0, q1, q2, q3, q4, q5, q6, q7, q8, q9, q10, q11, q12, q13, q14⟩ := H.out.cells
  have hlen : M = true → ((b.length : Int) == 512) = false := fun e => by rw [beq_eq_false_iff_ne]; intro h; exact hm ⟨e, by omega⟩
  have HLn := Lib.hid hlen
  clear hm hM h1 hb1 hbk hs hlen
  have fin : ∀ w7 : World, Kp g r w w7 → Blk w7 r 30 #[.int .i64 0] → ∀ tmps : Array Value, tmps[4]? = some (.pointer (some ⟨r, 0, none⟩)) →
      Leaves Tryz.prog Tryz.f63 tmps (fun e w' => Taken g (s, [], 1) w e w') [{ target := .fn (.func 101) #[.pointer (some ⟨r, 0, none⟩)], args := #[] }] (.panicking [pe 1]) w7 := by
    intro w7 hkp hblk tmps h4
    refine leaves_cons (f := 101) (args := #[.pointer (some ⟨r, 0, none⟩)]) (by simp) (by simp [go_sem]) ?_
    refine (catch_panicking ⟨r, 0, none⟩ 0 1 [] _ (by rw [hblk.cell]; rfl) (hblk.free 0)).mono ?_
    rintro e u' w8 ⟨rfl, rfl, rfl⟩
    have hb2 := hblk.put 0 (.int .i64 1)
    have r2 : (w7.setCell ⟨r, 0, none⟩ (.int .i64 1)).cell? ⟨r, 0, none⟩ = some (.int .i64 1) := by rw [hb2.cell]; rfl
    show Leaves Tryz.prog Tryz.f63 tmps _ [] .returning _
    refine ⟨.int .i64 1, by simp [results, Tryz.results63, go_sem, h4, r2], rfl, fun h => absurd h (by show ¬ (1 : Int) = 0; decide), ?_⟩
    rw [HRE.out]
    exact hkp.far (Nat.le_refl r) _
  have Fin := Lib.hid fin
  clear fin
  cases M
  · go_enter_defers Tryz.func63, Tryz.ntmps63
    go_wp2_with (first
      | (go_at_call 18; (refine (cmay_s s _ (by rfl) Hs.out _).mono ?_); rintro e w2 ⟨rfl, hs⟩; rw [HM.out]; replace HKp := Lib.hid (HKp.out.stp hs (Nat.le_trans (Nat.le_succ _) H.out.le)); replace Hr := Lib.hid (Hr.out.keep hs Hr.out.lt); clear hs)
      | (go_at_call 102; (with_reducible refine (must_no _ _).mono ?_); rintro e w3 ⟨rfl, rfl⟩))
    exact Fin.out _ HKp.out Hr.out _ rfl
  · have hlen := HLn.out rfl
    go_enter_defers Tryz.func63, Tryz.ntmps63
    go_wp2_with (first
      | (go_at_call 18; (refine (cmay_s s _ (by rfl) Hs.out _).mono ?_); rintro e w2 ⟨rfl, hs⟩; rw [HM.out]; replace HKp := Lib.hid (HKp.out.stp hs (Nat.le_trans (Nat.le_succ _) H.out.le)); replace Hr := Lib.hid (Hr.out.keep hs Hr.out.lt); clear hs)
      | (go_at_call 102; (with_reducible refine (must_no _ _).mono ?_); rintro e w3 ⟨rfl, rfl⟩))
    exact Fin.out _ HKp.out Hr.out _ rfl
end Go.Proofs.YthjdejjejlhioaaGreatDoor.Parse

namespace Go.Proofs.YthjdejjejlhioaaGreatDoor.Parse
open Go.RowKit Go.Proofs.YthjdejjejlhioaaGreatDoor.Str Go.Proofs.YthjdejjejlhioaaGreatDoor.Base Go.Proofs.YthjdejjejlhioaaGreatDoor.Node Go.Proofs.YthjdejjejlhioaaGreatDoor.Long Go.Proofs.YthjdejjejlhioaaGreatDoor.Head

theorem take_s (g : Nat) (s : St) (hs : SmallS s) (b : L) (A : Option Addr) (c : Nat) (w : World) (hbk : Blk w g 120 (pcells s (.slice none 0 0))) (ha : RdA w A c (bs b)) :
    Calls Tryz.prog 63 #[.pointer (some ⟨g, 0, none⟩), .slice A b.length c] w fun e w' => Taken g (stepS s b) w e w' := by
  by_cases h : mayS s = true ∧ b.length = 512
  · exact take_yes g s hs h.1 b h.2 A c w hbk ha
  · have e : stepS s b = (s, [], 1) := by
      unfold stepS
      rw [if_pos]
      by_cases h1 : mayS s = true
      · exact .inr fun h2 => h ⟨h1, h2⟩
      · exact .inl (by simpa using h1)
    rw [e]
    exact take_no g s b hs h A c w hbk
theorem take_v (g : Nat) (s : St) (hs : SmallS s) (b : L) (t : St) (y : List Evt) (e0 : Int) (hst : stepS s b = (t, y, e0)) (A : Option Addr) (c : Nat) (w : World) (hbk : Blk w g 120 (pcells s (.slice none 0 0))) (ha : RdA w A c (bs b)) :
    Calls Tryz.prog 63 #[.pointer (some ⟨g, 0, none⟩), .slice A b.length c] w fun e w' => e = .returned (.int .i64 e0) ∧ (e0 = 0 → ∃ lo v, Lies w' g lo t v y) ∧ Kp g w.heap.size w w' := by
  have h := take_s g s hs b A c w hbk ha
  rw [hst] at h
  exact h
theorem pst_free {w : World} {g : Nat} {t : TypeId} {cs : Array Value} (hb : Blk w g t cs) : ∀ i, w.frozen? ⟨g, i, none⟩ = false := fun i => hb.free i
/-- The state t laid into the result's cells. -/
theorem fills_one {w : World} {g : Nat} {t : TypeId} {z : St} (s : St) (h : Blk w g t (scells z)) : Blk (fillP w g s) g t (scells s) := fillC_all (scells s).toList h rfl
theorem fills_st {w w1 : World} {g : Nat} (s : St) (h : Stp w w1) (hg : w.heap.size ≤ g) : Stp w (fillP w1 g s) := fillC_stp hg (scells s).toList 0 w1 h
theorem st_of_p {w : World} {g : Nat} {t : TypeId} {s : St} {v : Value} (hb : Blk w g t (pcells s v)) :
    w.cell? ⟨g, 0, none⟩ = some (.int .i64 s.phase) ∧ w.cell? ⟨g, 1, none⟩ = some (.string ⟨s.node.path.toArray⟩) ∧ w.cell? ⟨g, 2, none⟩ = some (.string ⟨s.node.link.toArray⟩) ∧ w.cell? ⟨g, 3, none⟩ = some (.int .u8 (s.node.kind.toNat : Int)) ∧ w.cell? ⟨g, 4, none⟩ = some (.int .i64 s.node.mode) ∧
    w.cell? ⟨g, 5, none⟩ = some (.int .i64 s.node.uid) ∧ w.cell? ⟨g, 6, none⟩ = some (.int .i64 s.node.gid) ∧ w.cell? ⟨g, 7, none⟩ = some (.int .i64 s.node.time) ∧ w.cell? ⟨g, 8, none⟩ = some (.string ⟨s.node.data.toArray⟩) ∧ w.cell? ⟨g, 9, none⟩ = some (.int .i64 s.size) ∧ w.cell? ⟨g, 10, none⟩ = some (.int .i64 s.left) ∧
    w.cell? ⟨g, 11, none⟩ = some (.string ⟨s.text.toArray⟩) ∧ w.cell? ⟨g, 12, none⟩ = some (.string ⟨s.name.toArray⟩) ∧ w.cell? ⟨g, 13, none⟩ = some (.string ⟨s.link.toArray⟩) ∧ w.cell? ⟨g, 14, none⟩ = some v := by
  refine ⟨?_, ?_, ?_, ?_, ?_, ?_, ?_, ?_, ?_, ?_, ?_, ?_, ?_, ?_, ?_⟩ <;> (rw [hb.cell]; rfl)

set_option maxRecDepth 100000 in
set_option maxHeartbeats 4000000 in
theorem step_c (s : St) (hs : SmallS s) (b : L) (t : St) (y : List Evt) (e0 : Int) (hst : stepS s b = (t, y, e0)) (A : Option Addr) (c : Nat) (w : World) (ha : RdA w A c (bs b)) :
    Calls Tryz.prog 38 #[sv s, .slice A b.length c] w fun e w' => ∃ v, e = .returned (.tuple #[sv t, v, .int .i64 e0]) ∧ (∃ B d, v = .slice B y.length d ∧ RdE w' B d y) ∧ Stp w w' := by
  have Hs := Lib.hid hs
  have h1 := Stp.alloc (Stp.alloc (Stp.refl w) (.cells (scells s) 46)) (.cells (scells zeroS) 46)
  have h2 := Stp.alloc h1 (.cells (pcells s (.slice none 0 0)) 120)
  have Hb := Lib.hid (((Blk.new w 46 (scells s)).alloc (.cells (scells zeroS) 46)).alloc (.cells (pcells s (.slice none 0 0)) 120))
  have Hr := Lib.hid ((Blk.new (w.alloc (.cells (scells s) 46)) 46 (scells zeroS)).alloc (.cells (pcells s (.slice none 0 0)) 120))
  have Hg := Lib.hid (Blk.new ((w.alloc (.cells (scells s) 46)).alloc (.cells (scells zeroS) 46)) 120 (pcells s (.slice none 0 0)))
  have H2 := Lib.hid h2
  have Ha := Lib.hid (ha.keep h2)
  rw [World.size_alloc] at Hr Hg
  rw [World.size_alloc] at Hg
  have Hst := Lib.hid hst
  have q1 := st_cells ((Blk.new w 46 (scells s)).alloc (.cells (scells zeroS) 46))
  obtain ⟨q0, q1, q2, q3, q4, q5, q6, q7, q8, q9, q10, q11, q12, q13⟩ := q1
  have HY := Lib.hid (show e0 ≠ 0 → s = t ∧ y = [] from fun h => by
    have := step_stay (s := s) (b := b) (by rw [hst]; exact h)
    rw [hst] at this
    exact ⟨this.1.symm, this.2⟩)
  obtain ⟨g0, hg0⟩ : ∃ x, w.heap.size = x := ⟨_, rfl⟩
  have HG0 := Lib.hid hg0
  rw [hg0] at Hb Hr Hg
  clear h1 h2 ha hs hst q0 q1 q2 q3 q4 q5 q6 q7 q8 q9 q10 q11 q12 q13
  have hall : ∀ o : Obj, (∀ i, ((w.alloc (.cells (scells s) 46)).alloc o).cell? ⟨g0, i, none⟩ = (scells s)[i]?) := fun o i => by
    rw [← HG0.out, ((Blk.new w 46 (scells s)).alloc o).cell]
  by_cases he : e0 = 0
  · subst he
    go_enter Tryz.func38, Tryz.ntmps38
    go_wp2_with (go_at_call 63; (refine (take_v _ s Hs.out b t y 0 Hst.out A c _ Hg.out Ha.out).mono ?_); rintro e w2 ⟨rfl, hgo, hk⟩; obtain ⟨lo, v, hl⟩ := hgo rfl; have HL := Lib.hid hl; have Hr2 := Lib.hid (hk.blk Hr.out Hr.out.lt (by omega)); have HS := Lib.hid (hk.stp0 H2.out (by omega) H2.out.size); clear hl hk hgo hall)
    obtain ⟨q0, q1, q2, q3, q4, q5, q6, q7, q8, q9, q10, q11, q12, q13, q14⟩ := st_of_p HL.out.blk
    obtain ⟨r0, r1, r2, r3, r4, r5, r6, r7, r8, r9, r10, r11, r12, r13⟩ := st_cells Hr2.out
    have hz := pst_free Hr2.out
    clear hg0 Hb Hr Hg H2 Ha Hs HY
    go_region
    go_wp2_with fail
    change bodyPost _ _ _ _ _ (fillP w2 (g0 + 1) t).drew
    have hB := Blk.drew (fills_one t Hr2.out)
    have hW := stp_dr (fills_st (g := g0 + 1) t HS.out (by have := HG0.out; omega))
    have hR : RowE (fillP w2 (g0 + 1) t).drew lo v y := RowE.keep (fillC_row (g := g0 + 1) (by have := HL.out.lt; omega) (scells t).toList 0 _ HL.out.row) (stp_dr (Stp.refl _))
    generalize (fillP w2 (g0 + 1) t).drew = W7 at hB hW hR ⊢
    clear r0 r1 r2 r3 r4 r5 r6 r7 r8 r9 r10 r11 r12 r13 hz q0 q1 q2 q3 q4 q5 q6 q7 q8 q9 q10 q11 q12 q13 q14
    obtain ⟨r0, r1, r2, r3, r4, r5, r6, r7, r8, r9, r10, r11, r12, r13⟩ := st_cells hB
    refine bodyPost_ret (v := .tuple #[sv t, v, .int .i64 0]) (by simp [results, Tryz.results38, go_sem, r0, r1, r2, r3, r4, r5, r6, r7, r8, r9, r10, r11, r12, r13]) rfl ⟨v, rfl, ?_, hW⟩
    obtain ⟨B, d, hv, hE⟩ := hR.rd
    exact ⟨B, d, hv, hE⟩
  · have hne : (e0 != 0) = true := by rw [bne_iff_ne]; exact he
    obtain ⟨rfl, rfl⟩ := HY.out he
    have HE := Lib.hid he
    clear he
    go_enter Tryz.func38, Tryz.ntmps38
    go_wp2_with (go_at_call 63; (refine (take_v _ s Hs.out b s [] e0 Hst.out A c _ Hg.out Ha.out).mono ?_); rintro e w2 ⟨rfl, -, hk⟩; have Hb2 := Lib.hid (hk.blk Hb.out Hb.out.lt (by omega)); have Hr2 := Lib.hid (hk.blk Hr.out Hr.out.lt (by omega)); have HS := Lib.hid (hk.stp0 H2.out (by omega) H2.out.size); clear hk hall; obtain ⟨q0, q1, q2, q3, q4, q5, q6, q7, q8, q9, q10, q11, q12, q13⟩ := st_cells Hb2.out; obtain ⟨r0, r1, r2, r3, r4, r5, r6, r7, r8, r9, r10, r11, r12, r13⟩ := st_cells Hr2.out; have hz := pst_free Hr2.out)
    change bodyPost _ _ _ _ _ (fillP w2 (g0 + 1) s)
    have hB := fills_one s Hr2.out
    have hW := fills_st (g := g0 + 1) s HS.out (by have := HG0.out; omega)
    generalize fillP w2 (g0 + 1) s = W7 at hB hW ⊢
    clear r0 r1 r2 r3 r4 r5 r6 r7 r8 r9 r10 r11 r12 r13 hz q0 q1 q2 q3 q4 q5 q6 q7 q8 q9 q10 q11 q12 q13
    obtain ⟨r0, r1, r2, r3, r4, r5, r6, r7, r8, r9, r10, r11, r12, r13⟩ := st_cells hB
    exact bodyPost_ret (v := .tuple #[sv s, .slice none 0 0, .int .i64 e0]) (by simp [results, Tryz.results38, go_sem, r0, r1, r2, r3, r4, r5, r6, r7, r8, r9, r10, r11, r12, r13]) rfl ⟨_, rfl, ⟨none, 0, rfl, RdE.nil _⟩, hW⟩
end Go.Proofs.YthjdejjejlhioaaGreatDoor.Parse

namespace Go.Proofs.YthjdejjejlhioaaGreatDoor.Parse
open Go.RowKit Go.Proofs.YthjdejjejlhioaaGreatDoor.Str Go.Proofs.YthjdejjejlhioaaGreatDoor.Base Go.Proofs.YthjdejjejlhioaaGreatDoor.Node Go.Proofs.YthjdejjejlhioaaGreatDoor.Long Go.Proofs.YthjdejjejlhioaaGreatDoor.Head

/-- What was told up to here, and what comes. -/
def glue (xs : List Evt) (k : Nat) (r : St × List Evt × Nat × Int) : St × List Evt × Nat × Int := (r.1, xs ++ r.2.1, k + r.2.2.1, r.2.2.2)
theorem glue_bad {s : St} {b : L} {xs : List Evt} {k : Nat} {t : St} {y : List Evt} {e0 : Int} (l : List L) (h : stepS s b = (t, y, e0)) (h0 : e0 ≠ 0) : glue xs k (runS s (b :: l)) = (s, xs, k, e0) := by
  rw [run_bad l (by rw [h]; exact h0), h]
  unfold glue
  rw [List.append_nil]
  rfl
theorem glue_end {s : St} {b : L} {xs : List Evt} {k : Nat} {t : St} {y : List Evt} (l : List L) (h : stepS s b = (t, y, 0)) (h5 : t.phase = 5) : glue xs k (runS s (b :: l)) = (t, xs ++ y, k + 1, 0) := by
  rw [run_end l (by rw [h]) (by rw [h]; exact h5), h]
  rfl
theorem glue_on {s : St} {b : L} {xs : List Evt} {k : Nat} {t : St} {y : List Evt} (l : List L) (h : stepS s b = (t, y, 0)) (h5 : t.phase ≠ 5) : glue xs k (runS s (b :: l)) = glue (xs ++ y) (k + 1) (runS t l) := by
  rw [run_on l (by rw [h]) (by rw [h]; exact h5), h]
  unfold glue
  simp only [List.append_assoc]
  rw [Nat.add_assoc, Nat.add_comm 1]
theorem glue_nil (s : St) (xs : List Evt) (k : Nat) : glue xs k (runS s []) = (s, xs, k, 0) := by
  rw [run_nil]
  unfold glue
  rw [List.append_nil]
  rfl
theorem step_y {s : St} {b : L} {t : St} {y : List Evt} {e0 : Int} (h : stepS s b = (t, y, e0)) : y.length ≤ 2 := by
  rcases step_ok s b with ⟨-, -, h2⟩ | ⟨-, -, h2, -⟩
  · rw [h] at h2
    rw [show y = [] from h2]
    simp
  · rw [h] at h2
    exact h2
theorem step_cv (s : St) (v : Value) (hv : v = sv s) (hs : SmallS s) (b : L) (t : St) (y : List Evt) (e0 : Int) (hst : stepS s b = (t, y, e0)) (A : Option Addr) (c : Nat) (w : World) (ha : RdA w A c (bs b)) :
    Calls Tryz.prog 38 #[v, .slice A b.length c] w fun e w' => ∃ B d, e = .returned (.tuple #[sv t, .slice B y.length d, .int .i64 e0]) ∧ RdE w' B d y ∧ Stp w w' := by
  subst hv
  refine (step_c s hs b t y e0 hst A c w ha).mono ?_
  rintro e w' ⟨v, rfl, ⟨B, d, rfl, hE⟩, hS⟩
  exact ⟨B, d, rfl, hE, hS⟩

theorem fillC_other {g b : Nat} {t : TypeId} {cs : Array Value} (hb : b ≠ g) : ∀ (vs : List Value) (i : Nat) (w : World), Blk w b t cs → Blk (fillC g vs i w) b t cs
  | [], _, _, h => h
  | v :: vs, i, _, h => fillC_other hb vs (i + 1) _ (h.far (p := ⟨g, i, none⟩) hb v)
theorem RowE.rd' {w : World} {lo : Nat} {v : Value} {xs : List Evt} (h : RowE w lo v xs) : ∃ B d, v = .slice B xs.length d ∧ RdE w B d xs := h.rd
theorem st_later {w : World} {g : Nat} {ty : TypeId} {s : St} (hb : Blk w g ty (scells s)) :
    (∀ o : Obj, (w.alloc o).cell? ⟨g, 0, none⟩ = some (.int .i64 s.phase)) ∧ (∀ o : Obj, (w.alloc o).cell? ⟨g, 1, none⟩ = some (.string ⟨s.node.path.toArray⟩)) ∧ (∀ o : Obj, (w.alloc o).cell? ⟨g, 2, none⟩ = some (.string ⟨s.node.link.toArray⟩)) ∧ (∀ o : Obj, (w.alloc o).cell? ⟨g, 3, none⟩ = some (.int .u8 (s.node.kind.toNat : Int))) ∧ (∀ o : Obj, (w.alloc o).cell? ⟨g, 4, none⟩ = some (.int .i64 s.node.mode)) ∧ (∀ o : Obj, (w.alloc o).cell? ⟨g, 5, none⟩ = some (.int .i64 s.node.uid)) ∧ (∀ o : Obj, (w.alloc o).cell? ⟨g, 6, none⟩ = some (.int .i64 s.node.gid)) ∧ (∀ o : Obj, (w.alloc o).cell? ⟨g, 7, none⟩ = some (.int .i64 s.node.time)) ∧ (∀ o : Obj, (w.alloc o).cell? ⟨g, 8, none⟩ = some (.string ⟨s.node.data.toArray⟩)) ∧ (∀ o : Obj, (w.alloc o).cell? ⟨g, 9, none⟩ = some (.int .i64 s.size)) ∧ (∀ o : Obj, (w.alloc o).cell? ⟨g, 10, none⟩ = some (.int .i64 s.left)) ∧ (∀ o : Obj, (w.alloc o).cell? ⟨g, 11, none⟩ = some (.string ⟨s.text.toArray⟩)) ∧ (∀ o : Obj, (w.alloc o).cell? ⟨g, 12, none⟩ = some (.string ⟨s.name.toArray⟩)) ∧ (∀ o : Obj, (w.alloc o).cell? ⟨g, 13, none⟩ = some (.string ⟨s.link.toArray⟩)) := by
  refine ⟨?_, ?_, ?_, ?_, ?_, ?_, ?_, ?_, ?_, ?_, ?_, ?_, ?_, ?_⟩ <;> (intro o; rw [(hb.alloc o).cell]; rfl)
theorem st_later_free {w : World} {g : Nat} {ty : TypeId} {cs : Array Value} (hb : Blk w g ty cs) (o : Obj) (i : Nat) : (w.alloc o).frozen? ⟨g, i, none⟩ = false := (hb.alloc o).free i

set_option maxRecDepth 100000 in
set_option maxHeartbeats 8000000 in
theorem run_c (s : St) (hs : SmallS s) (l : List L) (n : Nat) (hn : l.length = n) (hn1 : n ≤ 1000) (r : St × List Evt × Nat × Int) (hr : runS s l = r) (A : Option Addr) (c : Nat) (w : World) (ha : RdL w A c l) :
    Calls Tryz.prog 21 #[sv s, .slice A n c] w fun e w' => ∃ v, e = .returned (.tuple #[sv r.1, v, .int .i64 (r.2.2.1 : Int), .int .i64 r.2.2.2]) ∧ (∃ B d, v = .slice B r.2.1.length d ∧ RdE w' B d r.2.1) ∧ Stp w w' := by
  have h1 := Stp.alloc (Stp.alloc (Stp.refl w) (.cells (scells s) 46)) (.cells (scells zeroS) 46)
  have Hb0 := Lib.hid ((Blk.new w 46 (scells s)).alloc (.cells (scells zeroS) 46))
  have Hr0 := Lib.hid (Blk.new (w.alloc (.cells (scells s) 46)) 46 (scells zeroS))
  rw [World.size_alloc] at Hr0
  have H10 := Lib.hid h1
  have Ha := Lib.hid ha
  have HN := Lib.hid hn
  have HN1 := Lib.hid hn1
  have HR := Lib.hid hr
  have Hs0 := Lib.hid hs
  obtain ⟨g0, hg0⟩ : ∃ x, w.heap.size = x := ⟨_, rfl⟩
  have HG0 := Lib.hid hg0
  rw [hg0] at Hb0 Hr0
  clear h1 ha hn hn1 hr hs
  go_enter Tryz.func21, Tryz.ntmps21
  go_wp2_with fail
  go_loopw [8, 16] (fun v i wr => ∃ (k : Nat) (sk : St) (xs : List Evt), k ≤ n ∧ i = .int .i64 (k : Int) ∧ Hid (Blk wr g0 46 (scells sk)) ∧ Hid (Blk wr (g0 + 1) 46 (scells zeroS)) ∧ Hid (RowE wr (g0 + 2) v xs) ∧ Hid (Stp w wr) ∧ Hid (g0 + 2 ≤ wr.heap.size) ∧ Hid (glue xs k (runS sk (l.drop k)) = r) ∧ Hid (SmallS sk) ∧ Hid (xs.length ≤ 2 * k))
    (fun _ i _ => n - (intOf i).toNat)
  case atStart =>
    exact ⟨0, s, [], Nat.zero_le _, rfl, Hb0, Hr0, Lib.hid (RowE.nil _ _), H10, Lib.hid (by rw [World.size_alloc, World.size_alloc, HG0.out]; exact Nat.le_refl _), Lib.hid (by rw [List.drop_zero, HR.out]; unfold glue; simp), Hs0, Lib.hid (Nat.le_refl 0)⟩
  case round =>
    obtain ⟨k, sk, xs, hk, rfl, Hb, Hr, Hv, Hst, Hle, Hgl, Hss, Hlx⟩ := hrel
    obtain ⟨q0, q1, q2, q3, q4, q5, q6, q7, q8, q9, q10, q11, q12, q13⟩ := st_cells Hb.out
    by_cases hlt : k < n
    · have g5 : decide ((k : Int) < (n : Int)) = true := decide_eq_true (by omega)
      have hb : l[k]? = some (l[k]'(by rw [HN.out]; exact hlt)) := List.getElem?_eq_getElem (by rw [HN.out]; exact hlt)
      have hdr : l.drop k = l[k]'(by rw [HN.out]; exact hlt) :: l.drop (k + 1) := List.drop_eq_getElem_cons (by rw [HN.out]; exact hlt)
      obtain ⟨b, hbb⟩ : ∃ b, l[k]'(by rw [HN.out]; exact hlt) = b := ⟨_, rfl⟩
      rw [hbb] at hb hdr
      obtain ⟨bb, o, A1, c1, rfl, hcell, hrd⟩ := (Ha.out.keep Hst.out).at_ hb
      have Hx := Lib.hid hrd
      have hgl := Hgl.out
      rw [hdr] at hgl
      obtain ⟨t, y, e0, hst0⟩ : ∃ t y e0, stepS sk b = (t, y, e0) := ⟨_, _, _, rfl⟩
      have Hst0 := Lib.hid hst0
      have HL2 := Lib.hid (step_y hst0)
      by_cases he : e0 = 0
      · subst he
        have Hgl2 := Lib.hid hgl
        have HS2 := Lib.hid (show SmallS t by have := step_small Hss.out b; rw [hst0] at this; exact this)
        clear hgl hst0 hb hdr hbb hrd
        go_upto_region 8 with (go_at_call 38; (refine (step_cv sk _ (by rfl) Hss.out b t y 0 Hst0.out A1 c1 _ Hx.out).mono ?_); rintro e w2 ⟨B2, d2, rfl, hE, hs⟩; have HE := Lib.hid hE; have Hb2 := Lib.hid (Hb.out.keep hs Hb.out.lt); have Hr2 := Lib.hid (Hr.out.keep hs Hr.out.lt); have Hv2 := Lib.hid (Hv.out.keep hs); have Hst2 := Lib.hid (Stp.trans Hst.out hs); have Hle2 := Lib.hid (Nat.le_trans Hle.out hs.size); clear hE hs q0 q1 q2 q3 q4 q5 q6 q7 q8 q9 q10 q11 q12 q13; skip)
        obtain ⟨g1, hg1⟩ : ∃ x, w2.heap.size = x := ⟨_, rfl⟩
        have Ht := Lib.hid (Blk.new w2 46 (scells t))
        have hs4 := Stp.alloc (Stp.refl w2) (.cells (scells t) 46)
        have hvo : ∀ q, u8.ownBlock = some q → g0 + 2 ≤ q ∧ q < g1 := fun q e => by rw [← hg1]; exact Hv2.out.own q e
        have Hvo := Lib.hid hvo
        have hg2 : g0 + 2 ≤ g1 := by rw [← hg1]; exact Hle2.out
        have Hg2 := Lib.hid hg2
        obtain ⟨w4, hw4⟩ : ∃ x, w2.alloc (.cells (scells t) 46) = x := ⟨_, rfl⟩
        have hw5 := hw4
        simp only [Parse.scells] at hw5
        rw [hw4] at Ht hs4
        rw [hg1] at Ht
        replace Hb2 := Lib.hid (Hb2.out.keep hs4 Hb2.out.lt)
        replace Hr2 := Lib.hid (Hr2.out.keep hs4 Hr2.out.lt)
        replace Hv2 := Lib.hid (Hv2.out.keep hs4)
        replace HE := Lib.hid (HE.out.keep hs4)
        replace Hst2 := Lib.hid (Stp.trans Hst2.out hs4)
        replace Hle2 := Lib.hid (Nat.le_trans Hle2.out hs4.size)
        simp only [hg1]
        rw [hw5]
        clear hw4 hw5 hg1 hs4 hvo hg2
        obtain ⟨q0, q1, q2, q3, q4, q5, q6, q7, q8, q9, q10, q11, q12, q13⟩ := st_cells Hb2.out
        obtain ⟨m0, m1, m2, m3, m4, m5, m6, m7, m8, m9, m10, m11, m12, m13⟩ := st_cells Ht.out
        have hz := pst_free Hb2.out
        have hlen1 : xs.length + y.length ≤ 1000000 := by have h1 := Hlx.out; have h2 := HL2.out; have h3 := HN1.out; omega
        have hs5 := stp_dr (Stp.refl w4)
        have Hv5 := Lib.hid (Hv2.out.keep hs5)
        have HE5 := Lib.hid (HE.out.keep hs5)
        have hle5 : g0 + 2 ≤ w4.drew.heap.size := Nat.le_trans Hle2.out hs5.size
        have Hst5 := Lib.hid (Stp.trans Hst2.out hs5)
        have Hn0 := Lib.hid (show u8.ownBlock ≠ some g0 from fun e => by have h1 := Hvo.out g0 e; omega)
        have Hn1 := Lib.hid (show u8.ownBlock ≠ some (g0 + 1) from fun e => by have h1 := Hvo.out (g0 + 1) e; omega)
        have Hn2 := Lib.hid (show u8.ownBlock ≠ some g1 from fun e => by have h1 := Hvo.out g1 e; omega)
        have HGl := Lib.hid (show w.heap.size ≤ g0 + 2 by have := HG0.out; omega)
        clear hs5 hg0
        go_cut [8] from 34 to 45 (fun s8 wx => ∃ B5 k5, s8 = .slice B5 (xs.length + y.length) k5 ∧ Hid (Blk wx g0 46 (scells t)) ∧ Hid (Blk wx (g0 + 1) 46 (scells zeroS)) ∧ Hid (RowE wx (g0 + 2) (.slice B5 (xs.length + y.length) k5) (xs ++ y)) ∧ Hid (Stp w wx) ∧ Hid (g0 + 2 ≤ wx.heap.size))
        case first =>
          go_region_law (refine step_app_evs w4.drew rfl _ _ rfl (g0 + 2) u8 xs rfl Hv5.out y B2 y.length d2 rfl HE5.out rfl hlen1 hle5 ?_; intro v1 w5 hr5 hg5; obtain ⟨B5, k5, rfl, -⟩ := hr5.rd; have Hr5 := Lib.hid hr5; have hb5 := Lib.hid (Blk.grown (show Blk w4.drew g0 _ _ from Hb2.out) hg5 (Ne.symm Hn0.out)); have hr6 := Lib.hid (Blk.grown (show Blk w4.drew (g0 + 1) _ _ from Hr2.out) hg5 (Ne.symm Hn1.out)); have ht5 := Lib.hid (Blk.grown (show Blk w4.drew g1 _ _ from Ht.out) hg5 (Ne.symm Hn2.out)); have Hst6 := Lib.hid (Hv5.out.stp Hst5.out HGl.out hg5); have Hle6 := Lib.hid (Nat.le_trans hle5 hg5.size); clear hr5 hg5; obtain ⟨q0, q1, q2, q3, q4, q5, q6, q7, q8, q9, q10, q11, q12, q13⟩ := st_cells hb5.out; obtain ⟨m0, m1, m2, m3, m4, m5, m6, m7, m8, m9, m10, m11, m12, m13⟩ := st_cells ht5.out; have hz := pst_free hb5.out)
          all_goals
            change Exit.then _ _ Exit.normal _ (fillP w5 g0 t)
            have hB : Blk (fillP w5 g0 t) g0 46 (scells t) := fills_one t hb5.out
            have hR0 : Blk (fillP w5 g0 t) (g0 + 1) 46 (scells zeroS) := fillC_other (Nat.succ_ne_self g0) (scells t).toList 0 _ hr6.out
            have hV : RowE (fillP w5 g0 t) (g0 + 2) (.slice B5 (xs ++ y).length k5) (xs ++ y) := fillC_row (g := g0) (Nat.lt_add_of_pos_right (by decide)) (scells t).toList 0 _ Hr5.out
            rw [List.length_append] at hV
            have hW : Stp w (fillP w5 g0 t) := fills_st (g := g0) t Hst6.out (Nat.le_of_eq HG0.out)
            have hLe : g0 + 2 ≤ (fillP w5 g0 t).heap.size := Nat.le_trans Hle6.out (fillP_tch (g := g0) (v := .slice none 0 0) t (Tch.refl g0 _ w5)).size
            generalize fillP w5 g0 t = W6 at hB hR0 hV hW hLe ⊢
            have HB7 := Lib.hid hB
            have HR7 := Lib.hid hR0
            have HV7 := Lib.hid hV
            have HW7 := Lib.hid hW
            have HL7 := Lib.hid hLe
            clear q0 q1 q2 q3 q4 q5 q6 q7 q8 q9 q10 q11 q12 q13 m0 m1 m2 m3 m4 m5 m6 m7 m8 m9 m10 m11 m12 m13 hz
            go_wp2_with fail
            go_meet
            exact ⟨B5, k5, rfl, HB7, HR7, HV7, HW7, HL7⟩
        case rest =>
          obtain ⟨B5, k5, rfl, HB7, HR7, HV7, HW7, HL7⟩ := hcut
          clear q0 q1 q2 q3 q4 q5 q6 q7 q8 q9 q10 q11 q12 q13 m0 m1 m2 m3 m4 m5 m6 m7 m8 m9 m10 m11 m12 m13 hz
          obtain ⟨q0, q1, q2, q3, q4, q5, q6, q7, q8, q9, q10, q11, q12, q13⟩ := st_cells HB7.out
          by_cases h5 : t.phase = 5
          · have HF := Lib.hid (Hgl2.out.symm.trans (glue_end _ Hst0.out h5))
            have hq5 : (t.phase == 5) = true := by rw [h5]; rfl
            clear h5
            obtain ⟨r0, r1, r2, r3, r4, r5, r6, r7, r8, r9, r10, r11, r12, r13⟩ := st_cells HR7.out
            have hz := pst_free HR7.out
            go_wp2_with fail
            change bodyPost _ _ _ _ _ (fillP (wc) (g0 + 1) t)
            have hB := fills_one t (HR7.out)
            have hW := fills_st (g := g0 + 1) t (HW7.out) (by have := HG0.out; omega)
            have hV : RowE (fillP (wc) (g0 + 1) t) (g0 + 2) (.slice B5 (xs.length + y.length) k5) (xs ++ y) := fillC_row (g := g0 + 1) (Nat.lt_succ_self (g0 + 1)) (scells t).toList 0 _ (HV7.out)
            generalize fillP (wc) (g0 + 1) t = W7 at hB hW hV ⊢
            clear q0 q1 q2 q3 q4 q5 q6 q7 q8 q9 q10 q11 q12 q13 r0 r1 r2 r3 r4 r5 r6 r7 r8 r9 r10 r11 r12 r13 hz
            obtain ⟨r0, r1, r2, r3, r4, r5, r6, r7, r8, r9, r10, r11, r12, r13⟩ := st_cells hB
            have hk1 := HN1.out
            refine bodyPost_ret (v := .tuple #[sv t, (.slice B5 (xs.length + y.length) k5), .int .i64 ((k : Int) + 1), .int .i64 0]) (by simp [results, Tryz.results21, go_sem, r0, r1, r2, r3, r4, r5, r6, r7, r8, r9, r10, r11, r12, r13]; unfold wrap64; omega) rfl ⟨(.slice B5 (xs.length + y.length) k5), by rw [HF.out]; rfl, by rw [HF.out]; exact hV.rd', hW⟩
          · have HF := Lib.hid (Hgl2.out.symm.trans (glue_on _ Hst0.out h5))
            have hq5 : (t.phase == 5) = false := beq_eq_false_iff_ne.2 h5
            have hk1 := HN1.out
            clear h5
            go_wp2_with fail
            go_roundw
            case rel => exact ⟨k + 1, t, xs ++ y, by omega, by go_num, HB7, HR7, HV7, HW7, HL7, Lib.hid HF.out.symm, HS2, Lib.hid (by have h1 := Hlx.out; have h2 := HL2.out; rw [List.length_append]; omega)⟩
            case measure => simp [intOf]; omega
      · have HF := Lib.hid (hgl.symm.trans (glue_bad _ hst0 he))
        have hne : (e0 != 0) = true := by rw [bne_iff_ne]; exact he
        have HE0 := Lib.hid he
        clear hgl hst0 he hb hdr hbb hrd
        go_wp2_with (go_at_call 38; (refine (step_cv sk _ (by rfl) Hss.out b t y e0 Hst0.out A1 c1 _ Hx.out).mono ?_); rintro e w2 ⟨B2, d2, rfl, hE, hs⟩; have HE := Lib.hid hE; have Hb2 := Lib.hid (Hb.out.keep hs Hb.out.lt); have Hr2 := Lib.hid (Hr.out.keep hs Hr.out.lt); have Hv2 := Lib.hid (Hv.out.keep hs); have Hst2 := Lib.hid (Stp.trans Hst.out hs); have Hle2 := Lib.hid (Nat.le_trans Hle.out hs.size); clear hE hs q0 q1 q2 q3 q4 q5 q6 q7 q8 q9 q10 q11 q12 q13; obtain ⟨q0, q1, q2, q3, q4, q5, q6, q7, q8, q9, q10, q11, q12, q13⟩ := st_later Hb2.out; obtain ⟨r0, r1, r2, r3, r4, r5, r6, r7, r8, r9, r10, r11, r12, r13⟩ := st_later Hr2.out; have hz := st_later_free Hr2.out)
        change bodyPost _ _ _ _ _ (fillP (w2.alloc (.cells (scells t) 46)) (g0 + 1) sk)
        have hB := fills_one sk (show Blk (w2.alloc (.cells (scells t) 46)) (g0 + 1) 46 (scells zeroS) from Hr2.out.alloc _)
        have hW := fills_st (g := g0 + 1) sk (show Stp w (w2.alloc (.cells (scells t) 46)) from Stp.alloc Hst2.out _) (by have := HG0.out; omega)
        have hV : RowE (fillP (w2.alloc (.cells (scells t) 46)) (g0 + 1) sk) (g0 + 2) u8 xs := fillC_row (g := g0 + 1) (Nat.lt_succ_self (g0 + 1)) (scells sk).toList 0 _ (show RowE (w2.alloc (.cells (scells t) 46)) (g0 + 2) u8 xs from Hv2.out.keep (Stp.alloc (Stp.refl w2) _))
        generalize fillP (w2.alloc (.cells (scells t) 46)) (g0 + 1) sk = W7 at hB hW hV ⊢
        clear q0 q1 q2 q3 q4 q5 q6 q7 q8 q9 q10 q11 q12 q13 r0 r1 r2 r3 r4 r5 r6 r7 r8 r9 r10 r11 r12 r13 hz
        obtain ⟨r0, r1, r2, r3, r4, r5, r6, r7, r8, r9, r10, r11, r12, r13⟩ := st_cells hB
        refine bodyPost_ret (v := .tuple #[sv sk, u8, .int .i64 (k : Int), .int .i64 e0]) (by simp [results, Tryz.results21, go_sem, r0, r1, r2, r3, r4, r5, r6, r7, r8, r9, r10, r11, r12, r13]) rfl ⟨u8, by rw [HF.out], by rw [HF.out]; exact hV.rd', hW⟩
    · obtain rfl : k = n := by omega
      have g5 : decide ((k : Int) < (k : Int)) = false := decide_eq_false (by omega)
      obtain ⟨r0, r1, r2, r3, r4, r5, r6, r7, r8, r9, r10, r11, r12, r13⟩ := st_cells Hr.out
      have hz := pst_free Hr.out
      have HF := Lib.hid (show r = (sk, xs, k, 0) from Hgl.out.symm.trans (by rw [List.drop_of_length_le (Nat.le_of_eq HN.out)]; exact glue_nil sk xs k))
      clear hlt
      go_wp2_with fail
      change bodyPost _ _ _ _ _ (fillP (wr) (g0 + 1) sk)
      have hB := fills_one sk (Hr.out)
      have hW := fills_st (g := g0 + 1) sk (Hst.out) (by have := HG0.out; omega)
      have hV : RowE (fillP (wr) (g0 + 1) sk) (g0 + 2) u8 xs := fillC_row (g := g0 + 1) (Nat.lt_succ_self (g0 + 1)) (scells sk).toList 0 _ (Hv.out)
      generalize fillP (wr) (g0 + 1) sk = W7 at hB hW hV ⊢
      clear q0 q1 q2 q3 q4 q5 q6 q7 q8 q9 q10 q11 q12 q13 r0 r1 r2 r3 r4 r5 r6 r7 r8 r9 r10 r11 r12 r13 hz
      obtain ⟨r0, r1, r2, r3, r4, r5, r6, r7, r8, r9, r10, r11, r12, r13⟩ := st_cells hB
      refine bodyPost_ret (v := .tuple #[sv sk, u8, .int .i64 (k : Int), .int .i64 0]) (by simp [results, Tryz.results21, go_sem, r0, r1, r2, r3, r4, r5, r6, r7, r8, r9, r10, r11, r12, r13]) rfl ⟨u8, by rw [HF.out], by rw [HF.out]; exact hV.rd', hW⟩
end Go.Proofs.YthjdejjejlhioaaGreatDoor.Parse

namespace Go.Proofs.YthjdejjejlhioaaGreatDoor.Parse
open Go.RowKit Go.Proofs.YthjdejjejlhioaaGreatDoor.Str Go.Proofs.YthjdejjejlhioaaGreatDoor.Base Go.Proofs.YthjdejjejlhioaaGreatDoor.Node

end Go.Proofs.YthjdejjejlhioaaGreatDoor.Parse

namespace Go.Proofs.YthjdejjejlhioaaGreatDoor.Parse
open Go.RowKit Go.Proofs.YthjdejjejlhioaaGreatDoor.Str Go.Proofs.YthjdejjejlhioaaGreatDoor.Base Go.Proofs.YthjdejjejlhioaaGreatDoor.Node

theorem run_i : RunI := fun s v hv hs l n hn hn1 _ t y k m e0 hr hk A c w ha => by
  subst hk hv
  refine (run_c s hs l n hn hn1 (t, y, m, e0) hr A c w ha).mono ?_
  rintro e w' ⟨v, rfl, ⟨B, d, rfl, hE⟩, hS⟩
  exact ⟨B, d, rfl, hE, hS⟩
end Go.Proofs.YthjdejjejlhioaaGreatDoor.Parse

