/-
  What package parse's code does with a block, whatever the phase: take, which panics and recovers. No statement is proved here.
-/
import Derived.Test.YtejgnhicgeiceaaParseR7
import Derived.Test.YtejgnhicgeiceaaParseMayC
namespace Go.Proofs.Ytejgnhicgeiceaa.Parse
open Go.RowKit Go.Proofs.Ytejgnhicgeiceaa.Str Go.Proofs.Ytejgnhicgeiceaa.Base Go.Proofs.Ytejgnhicgeiceaa.Node Go.Proofs.Ytejgnhicgeiceaa.Long Go.Proofs.Ytejgnhicgeiceaa.Head
open Go.Proofs.Ytejgnhicgeiceaa.Tree (oneB)

/-- The method of each phase. -/
def methF (p : Nat) : FuncId := [69, 70, 71, 72, 73, 74].getD p 0
theorem index_meths (g : Nat) (p : Nat) (hp : p < 6) (w : World) : (Instr.index 84 (.agg (meths g)) (.int .i64 (p : Int))).run Try.prog w = .ok (.func (.func (methF p)) #[.pointer (some ⟨g, 0, none⟩)] #[]) w := by
  have hp : p = 0 ∨ p = 1 ∨ p = 2 ∨ p = 3 ∨ p = 4 ∨ p = 5 := by omega
  rcases hp with rfl | rfl | rfl | rfl | rfl | rfl <;> simp [Instr.index, go_sem, methF]
theorem call_meths (p : Nat) (hp : p < 6) (args : Array Value) (w : World) : (callFunc (methF p) args).run Try.prog w = .ok (.enter (methF p) args) w := by
  have hp : p = 0 ∨ p = 1 ∨ p = 2 ∨ p = 3 ∨ p = 4 ∨ p = 5 := by omega
  rcases hp with rfl | rfl | rfl | rfl | rfl | rfl <;> (simp only [methF, List.getD, List.getElem?_cons_zero, List.getElem?_cons_succ, Option.getD_some]; go_simp)
/-- What a phase does, by its contract. -/
theorem meth_s (g lo : Nat) (s : St) (hm : mayS s = true) (p : Nat) (hp : s.phase = (p : Int)) (b : L) (hb : b.length = 512) (A : Option Addr) (c : Nat) (w : World) (h : Lies w g lo s (.slice none 0 0) []) (ha : RdA w A c (bs b)) :
    Calls Try.prog (methF p) #[.pointer (some ⟨g, 0, none⟩), .slice A b.length c] w fun e w' => Took g lo (stepS s b) w e w' := by
  have hr := may_phase hm
  have hst : ∀ t : Ans, (if mayS s = false ∨ b.length ≠ 512 then (s, [], 1) else t) = t := fun t => if_neg (by rw [hm]; simp [hb])
  unfold stepS
  rw [hst]
  have hp2 : p = 0 ∨ p = 1 ∨ p = 2 ∨ p = 3 ∨ p = 4 ∨ p = 5 := by omega
  rcases hp2 with rfl | rfl | rfl | rfl | rfl | rfl
  · rw [if_neg (by rw [hp]; decide), if_neg (by rw [hp]; decide), if_neg (by rw [hp]; decide), if_neg (by rw [hp]; decide)]
    exact header_s g lo s _ b hb (by rw [hp]; rfl) hm A c w h ha
  · obtain ⟨k1, ⟨k2, k3, k4, k5⟩, k6, k7⟩ := (name_iff hp).1 hm
    rw [if_neg (by rw [hp]; decide), if_neg (by rw [hp]; decide), if_pos (.inl (by rw [hp]; rfl))]
    have := name_s g lo s _ (s.size.toNat - 1) (by omega) (by omega) (by omega) b hb A c w h ha
    unfold textS
    rw [show (⟨0, zeroN, 0, 0, [], b.take (s.size.toNat - 1), s.link⟩ : St) = (if s.phase = 1 then { s with phase := 0, size := 0, left := 0, name := b.take (s.size.toNat - 1) } else { s with phase := 0, size := 0, left := 0, link := b.take (s.size.toNat - 1) }) by
      rw [if_pos (by rw [hp]; rfl), k1, k2]] at this
    exact this
  · obtain ⟨k1, ⟨k2, k3, k4, k5⟩, k6, k7⟩ := (link_iff hp).1 hm
    rw [if_neg (by rw [hp]; decide), if_neg (by rw [hp]; decide), if_pos (.inr (by rw [hp]; rfl))]
    have := link_s g lo s _ (s.size.toNat - 1) (by omega) (by omega) (by omega) b hb A c w h ha
    unfold textS
    rw [show (⟨0, zeroN, 0, 0, [], s.name, b.take (s.size.toNat - 1)⟩ : St) = (if s.phase = 1 then { s with phase := 0, size := 0, left := 0, name := b.take (s.size.toNat - 1) } else { s with phase := 0, size := 0, left := 0, link := b.take (s.size.toNat - 1) }) by
      rw [if_neg (by rw [hp]; decide), k1, k2]] at this
    exact this
  · obtain ⟨k1, ⟨k2, k3, k4, k5, k6, k7, k8, k9⟩, k10, k11⟩ := (data_iff hp).1 hm
    rw [if_neg (by rw [hp]; decide), if_neg (by rw [hp]; decide), if_neg (by rw [hp]; decide), if_pos (by rw [hp]; rfl)]
    exact data_s g lo s _ s.left.toNat (by omega) (by omega) (by omega) b hb A c w h ha
  · obtain ⟨k1, ⟨k2, k3, k4⟩, k5, k6⟩ := (over_iff (.inl hp)).1 hm
    rw [if_neg (by rw [hp]; decide), if_pos (by rw [hp]; rfl)]
    obtain rfl : s = phS 4 := by
      obtain ⟨_, _, _, _, _, _, _⟩ := s
      simp only at k1 k2 k3 k4 k5 k6 hp
      subst k1 k2 k3 k4 k5 k6 hp
      rfl
    exact noughts_s g lo _ b hb A c w h ha
  · rw [if_pos (by rw [hp]; rfl)]
    exact nothing_s g lo s _ w
/-- What is asked at a panic, and what else. -/
def OnPanic (Pn : List PanicEntry → Act → World → Prop) (Q : Exit → Act → World → Prop) : Exit → Act → World → Prop
  | .panic ch, a, w => Pn ch a w
  | e, a, w => Q e a w
theorem wp_part {c : Code} {Q : Exit → Act → World → Prop} {a : Act} {w : World} (Pn : List PanicEntry → Act → World → Prop) (hp : ∀ ch a' w', Pn ch a' w' → Q (.panic ch) a' w') (h : c.wp Try.prog (OnPanic Pn Q) a w) : c.wp Try.prog Q a w :=
  Code.wp_mono (fun e a' w' h => by cases e <;> first | exact h | exact hp _ _ _ h) h
theorem onp_normal {Pn : List PanicEntry → Act → World → Prop} {Q : Exit → Act → World → Prop} {a : Act} {w : World} (h : Q .normal a w) : OnPanic Pn Q .normal a w := h
/-- At a panic: the deferred closure waits, the result's cell is at r, and so on. -/
def Pn (r : Nat) (R : List PanicEntry → World → Prop) (ch : List PanicEntry) (a : Act) (w : World) : Prop :=
  a.defers = [{ target := .fn (.func 44) #[.pointer (some ⟨r, 0, none⟩)], args := #[] }] ∧ a.tmps[4]? = some (.pointer (some ⟨r, 0, none⟩)) ∧ R ch w
theorem onp_put {r : Nat} {R : List PanicEntry → World → Prop} {Q : Exit → Act → World → Prop} {o : Option Nat} {v : Value} (hd : o ≠ some 4) : ∀ (ch : List PanicEntry) (a : Act) (w : World), OnPanic (Pn r R) Q (.panic ch) (a.put o v) w → OnPanic (Pn r R) Q (.panic ch) a w := by
  intro ch a w h
  obtain ⟨h1, h2, h3⟩ : Pn r R ch (a.put o v) w := h
  show Pn r R ch a w
  cases o with
  | none => exact ⟨h1, h2, h3⟩
  | some d =>
    have hd2 : d ≠ 4 := fun e => hd (by rw [e])
    refine ⟨h1, ?_, h3⟩
    simpa [Act.put, Array.getElem?_setIfInBounds, hd2] using h2
/-- What take answers, and what the parser then is. -/
def Taken (g : Nat) (a : Ans) (w : World) (e : Ending) (w' : World) : Prop :=
  e = .returned (.int .i64 a.2.2) ∧ (a.2.2 = 0 → ∃ lo v, Lies w' g lo a.1 v a.2.1) ∧ Kp g w.heap.size w w'
theorem Kp.less {g lo lo' : Nat} {w w' : World} (h : Kp g lo w w') (hl : lo' ≤ lo) : Kp g lo' w w' := ⟨h.os, h.tape, h.output, h.size, fun k hk hg => h.block k (by omega) hg⟩
/-- What holds at a panic. -/
def TkR (g : Nat) (a : Ans) (w : World) (r : Nat) (ch : List PanicEntry) (W : World) : Prop := ∃ k, k = a.2.2 ∧ k ≠ 0 ∧ ch = [pe k] ∧ Kp g r w W ∧ Blk W r 30 #[.int .i64 0]
theorem Kp.far {g lo : Nat} {w w' : World} (h : Kp g lo w w') {b i : Nat} (hb : lo ≤ b) (u : Value) : Kp g lo w (w'.setCell ⟨b, i, none⟩ u) :=
  ⟨h.os, h.tape, h.output, by simpa [World.setCell] using h.size, fun k hk hg => (Below.heap_setCell w' ⟨b, i, none⟩ u k (by show k ≠ b; omega)).trans (h.block k hk hg)⟩
set_option maxRecDepth 100000 in
set_option maxHeartbeats 4000000 in
theorem take_yes (g : Nat) (s : St) (hs : SmallS s) (hm : mayS s = true) (b : L) (hb : b.length = 512) (A : Option Addr) (c : Nat) (w : World) (hbk : Blk w g 53 (pcells s (.slice none 0 0))) (ha : RdA w A c (bs b)) :
    Calls Try.prog 24 #[.pointer (some ⟨g, 0, none⟩), .slice A b.length c] w fun e w' => Taken g (stepS s b) w e w' := by
  have hmf : ∀ (fn : Fn) (first cap : Array Value) (w : World), (Instr.makeFunc fn first cap).run Try.prog w = .ok (.func fn first cap) w := fun _ _ _ _ => rfl
  obtain ⟨p, hp⟩ : ∃ p : Nat, s.phase = (p : Int) := ⟨s.phase.toNat, by have := may_phase hm; omega⟩
  have Hp := Lib.hid hp
  have Hp6 := Lib.hid (show p < 6 by have := may_phase hm; omega)
  have Hm := Lib.hid hm
  have Hs := Lib.hid hs
  have HB := Lib.hid hb
  have h1 := Stp.alloc (Stp.refl w) (.cells #[.int .i64 0] 30)
  have H := Lib.hid (show Lies (w.alloc (.cells #[.int .i64 0] 30)) g (w.heap.size + 1) s (.slice none 0 0) [] from ⟨hbk.alloc _, RowE.nil _ _, by have := hbk.lt; omega, by rw [World.size_alloc]; exact Nat.le_refl _⟩)
  have HKp := Lib.hid (Kp.of_stp (g := g) h1 (Nat.le_refl w.heap.size))
  have Hr := Lib.hid (Blk.new w 30 #[.int .i64 0])
  have HRG := Lib.hid (show w.heap.size ≠ g from Nat.ne_of_gt hbk.lt)
  have Ha := Lib.hid (ha.keep h1)
  have hlen : ((b.length : Int) == 512) = true := by rw [hb]; rfl
  have hix := fun W => index_meths g p Hp6.out W
  have hcf := fun args W => call_meths p Hp6.out args W
  obtain ⟨r, hr⟩ : ∃ x, w.heap.size = x := ⟨_, rfl⟩
  rw [hr] at Hr HRG HKp H
  have HRL := Lib.hid (show r < r + 1 by omega)
  have HRE := Lib.hid hr
  obtain ⟨q0, q1, q2, q3, q4, q5, q6, q7, q8, q9, q10, q11, q12, q13, q14⟩ := H.out.cells
  clear hb hp hm hs ha h1 hbk
  go_enter_defers Try.func24, Try.ntmps24
  go_upto_region 3 with (first
    | (go_at_call 13; (refine (cmay_s s _ (by rfl) Hs.out _).mono ?_); rintro e w2 ⟨rfl, hs⟩; rw [Hm.out]; replace HKp := Lib.hid (HKp.out.stp hs (Nat.le_trans (Nat.le_succ _) H.out.le)); replace H := Lib.hid (H.out.keep hs); replace Ha := Lib.hid (Ha.out.keep hs); replace Hr := Lib.hid (Hr.out.keep hs Hr.out.lt); clear hs q0 q1 q2 q3 q4 q5 q6 q7 q8 q9 q10 q11 q12 q13 q14; obtain ⟨q0, q1, q2, q3, q4, q5, q6, q7, q8, q9, q10, q11, q12, q13, q14⟩ := H.out.cells)
    | (go_at_call 45; (with_reducible refine (must_yes _ _).mono ?_); rintro e w3 ⟨rfl, rfl⟩))
  clear q1 q2 q3 q4 q5 q6 q7 q8 q9 q10 q11 q12 q13 q14 hlen
  rw [Hp.out] at q0
  have HLE := Lib.hid (Nat.le_trans (Nat.le_succ _) H.out.le)
  refine wp_part (Pn r (TkR g (stepS s b) w r)) ?imp ?_
  case imp =>
    rintro ch a' w7 ⟨hd, h4, k, hk, hk0, rfl, hkp, hblk⟩
    change bodyPostD Try.prog Try.f24 (fun e w' => Taken g (stepS s b) w e w') (.panic [pe k]) a' w7
    unfold bodyPostD
    simp only
    rw [hd]
    refine leaves_cons (f := 44) (args := #[.pointer (some ⟨r, 0, none⟩)]) (by simp) (by simp [go_sem]) ?_
    refine (catch_panicking ⟨r, 0, none⟩ 0 k [] _ (by rw [hblk.cell]; rfl) (hblk.free 0)).mono ?_
    rintro e u' w8 ⟨rfl, rfl, rfl⟩
    have hb2 := hblk.put 0 (.int .i64 k)
    have r2 : (w7.setCell ⟨r, 0, none⟩ (.int .i64 k)).cell? ⟨r, 0, none⟩ = some (.int .i64 k) := by rw [hb2.cell]; rfl
    show Leaves Try.prog Try.f24 a'.tmps _ [] .returning _
    refine ⟨.int .i64 k, ?_, ?_⟩
    · simp [results, Try.results24, go_sem, h4, r2]
    · refine ⟨by rw [hk], fun h0 => absurd (hk.trans h0) hk0, ?_⟩
      rw [HRE.out]
      exact hkp.far (Nat.le_refl r) _
  refine wp_region_any (by kernel_rfl) ?_
  try (change wpAny _ _ _ _ _ _ _ (World.drew _))
  refine wpAny_take (i := 0) (v := ?v0a) rfl (by kernel_rfl) (by kernel_rfl) (by kernel_rfl) (onp_put (by decide)) (Or.inl ⟨by rfl, ?hy0a⟩) ?rest0a
  case hy0a => (intro w; go_simp; try with_reducible rfl)
  refine wpAny_take (i := 2) (v := ?v2a) rfl (by kernel_rfl) (by kernel_rfl) (by kernel_rfl) (onp_put (by decide)) (Or.inl ⟨by rfl, ?hy2a⟩) ?rest2a
  case hy2a => (intro w; go_simp; try with_reducible rfl)
  refine wpAny_take (i := 3) (v := ?v3a) rfl (by kernel_rfl) (by kernel_rfl) (by kernel_rfl) (onp_put (by decide)) (Or.inl ⟨by rfl, ?hy3a⟩) ?rest3a
  case hy3a => (intro w; go_simp; try with_reducible rfl)
  refine wpAny_take (i := 4) (v := ?v4a) rfl (by kernel_rfl) (by kernel_rfl) (by kernel_rfl) (onp_put (by decide)) (Or.inl ⟨by rfl, ?hy4a⟩) ?rest4a
  case hy4a => (intro w; go_simp; try with_reducible rfl)
  refine wpAny_take (i := 5) (v := ?v5a) rfl (by kernel_rfl) (by kernel_rfl) (by kernel_rfl) (onp_put (by decide)) (Or.inl ⟨by rfl, ?hy5a⟩) ?rest5a
  case hy5a => (intro w; go_simp; try with_reducible rfl)
  refine wpAny_take (i := 8) (v := ?v8a) rfl (by kernel_rfl) (by kernel_rfl) (by kernel_rfl) (onp_put (by decide)) (Or.inl ⟨by rfl, ?hy8a⟩) ?rest8a
  case hy8a => (intro w; go_simp; try with_reducible rfl)
  refine wpAny_ready (rs := [1, 6]) (by kernel_rfl) (by simp) ?_
  refine AllReady.cons rfl (fun K hK => ?wc) (AllReady.cons rfl (fun K hK => ?wl) AllReady.nil)
  case wc =>
    go_simp
    refine (phases_s g _).mono ?_
    rintro e w5 ⟨rfl, hs⟩
    replace H := Lib.hid (H.out.keep (Stp.trans (stp_dr (Stp.refl _)) hs))
    replace HKp := Lib.hid (HKp.out.stp (Stp.trans (stp_dr (Stp.refl _)) hs) HLE.out)
    have HLE5 := Lib.hid H.out.le
    replace Ha := Lib.hid (Ha.out.keep (Stp.trans (stp_dr (Stp.refl _)) hs))
    replace Hr := Lib.hid (Hr.out.keep (Stp.trans (stp_dr (Stp.refl _)) hs) Hr.out.lt)
    clear hs q0
    obtain ⟨q0, q1, q2, q3, q4, q5, q6, q7, q8, q9, q10, q11, q12, q13, q14⟩ := H.out.cells
    clear q1 q2 q3 q4 q5 q6 q7 q8 q9 q10 q11 q12 q13 q14
    rw [Hp.out] at q0
    refine hK _ _ ?_
    clear hK K
    refine wpAny_ready (rs := [6]) (by kernel_rfl) (by simp) ?_
    refine AllReady.cons rfl (fun K hK => ?_) AllReady.nil
    go_simp
    refine hK _ _ ?_
    clear hK K
    refine wpAny_ready (rs := [7]) (by kernel_rfl) (by simp) ?_
    refine AllReady.cons rfl (fun K hK => ?_) AllReady.nil
    go_simp
    refine hK _ _ ?_
    clear hK K
    refine wpAny_ready (rs := [9]) (by kernel_rfl) (by simp) ?_
    refine AllReady.cons rfl (fun K hK => ?_) AllReady.nil
    go_simp
    refine (meth_s g _ s Hm.out p Hp.out b HB.out A c _ H.out Ha.out).mono ?_
    rintro e w6 ⟨⟨h1, rfl, v6, hv6⟩ | ⟨h1, rfl⟩, hk6⟩
    · have H6 := Lib.hid hv6
      have K6 := Lib.hid (HKp.out.trans (hk6.less (Nat.le_succ r)))
      have Hr6 := Lib.hid (hk6.blk Hr.out HRL.out HRG.out)
      have HE := Lib.hid h1
      clear hv6 hk6 h1
      refine hK _ _ ?_
      clear hK K
      refine wpAny_done (by kernel_rfl) ?_ _
      refine onp_normal ?_
      have r0 : w6.cell? ⟨r, 0, none⟩ = some (.int .i64 0) := by rw [Hr6.out.cell]; rfl
      have r1 : w6.frozen? ⟨r, 0, none⟩ = false := Hr6.out.free 0
      go_wp2_with fail
      refine leaves_cons (f := 44) (args := #[.pointer (some ⟨r, 0, none⟩)]) (by simp) (by simp [go_sem]) ?_
      refine (catch_idle ⟨r, 0, none⟩ _).mono ?_
      rintro e u' w'' ⟨rfl, rfl, rfl⟩
      have hb2 := Hr6.out.put 0 (.int .i64 0)
      have r2 : (w6.setCell ⟨r, 0, none⟩ (.int .i64 0)).cell? ⟨r, 0, none⟩ = some (.int .i64 0) := by rw [hb2.cell]; rfl
      show Leaves Try.prog Try.f24 _ _ [] .returning _
      refine ⟨.int .i64 0, by simp [results, Try.results24, go_sem, r2], by rw [HE.out], fun _ => ⟨r + 1, v6, ⟨H6.out.blk.far (Ne.symm HRG.out) _, H6.out.row.put (Nat.lt_succ_self r) 0 _, H6.out.lt, Nat.le_trans H6.out.le ((Kp.refl g r w6).far (b := r) (i := 0) (Nat.le_refl r) (.int .i64 0)).size⟩⟩, ?_⟩
      rw [HRE.out]
      exact K6.out.far (Nat.le_refl r) _
    · exact ⟨rfl, rfl, _, rfl, h1, rfl, HKp.out.trans (hk6.less (Nat.le_succ r)), hk6.blk Hr.out HRL.out HRG.out⟩
  case wl =>
    go_simp
    refine hK _ _ ?_
    clear hK K
    refine wpAny_ready (rs := [1]) (by kernel_rfl) (by simp) ?_
    refine AllReady.cons rfl (fun K hK => ?_) AllReady.nil
    go_simp
    refine (phases_s g _).mono ?_
    rintro e w5 ⟨rfl, hs⟩
    replace H := Lib.hid (H.out.keep (Stp.trans (stp_dr (Stp.refl _)) hs))
    replace HKp := Lib.hid (HKp.out.stp (Stp.trans (stp_dr (Stp.refl _)) hs) HLE.out)
    have HLE5 := Lib.hid H.out.le
    replace Ha := Lib.hid (Ha.out.keep (Stp.trans (stp_dr (Stp.refl _)) hs))
    replace Hr := Lib.hid (Hr.out.keep (Stp.trans (stp_dr (Stp.refl _)) hs) Hr.out.lt)
    clear hs q0
    obtain ⟨q0, q1, q2, q3, q4, q5, q6, q7, q8, q9, q10, q11, q12, q13, q14⟩ := H.out.cells
    clear q1 q2 q3 q4 q5 q6 q7 q8 q9 q10 q11 q12 q13 q14
    rw [Hp.out] at q0
    refine hK _ _ ?_
    clear hK K
    refine wpAny_ready (rs := [7]) (by kernel_rfl) (by simp) ?_
    refine AllReady.cons rfl (fun K hK => ?_) AllReady.nil
    go_simp
    refine hK _ _ ?_
    clear hK K
    refine wpAny_ready (rs := [9]) (by kernel_rfl) (by simp) ?_
    refine AllReady.cons rfl (fun K hK => ?_) AllReady.nil
    go_simp
    refine (meth_s g _ s Hm.out p Hp.out b HB.out A c _ H.out Ha.out).mono ?_
    rintro e w6 ⟨⟨h1, rfl, v6, hv6⟩ | ⟨h1, rfl⟩, hk6⟩
    · have H6 := Lib.hid hv6
      have K6 := Lib.hid (HKp.out.trans (hk6.less (Nat.le_succ r)))
      have Hr6 := Lib.hid (hk6.blk Hr.out HRL.out HRG.out)
      have HE := Lib.hid h1
      clear hv6 hk6 h1
      refine hK _ _ ?_
      clear hK K
      refine wpAny_done (by kernel_rfl) ?_ _
      refine onp_normal ?_
      have r0 : w6.cell? ⟨r, 0, none⟩ = some (.int .i64 0) := by rw [Hr6.out.cell]; rfl
      have r1 : w6.frozen? ⟨r, 0, none⟩ = false := Hr6.out.free 0
      go_wp2_with fail
      refine leaves_cons (f := 44) (args := #[.pointer (some ⟨r, 0, none⟩)]) (by simp) (by simp [go_sem]) ?_
      refine (catch_idle ⟨r, 0, none⟩ _).mono ?_
      rintro e u' w'' ⟨rfl, rfl, rfl⟩
      have hb2 := Hr6.out.put 0 (.int .i64 0)
      have r2 : (w6.setCell ⟨r, 0, none⟩ (.int .i64 0)).cell? ⟨r, 0, none⟩ = some (.int .i64 0) := by rw [hb2.cell]; rfl
      show Leaves Try.prog Try.f24 _ _ [] .returning _
      refine ⟨.int .i64 0, by simp [results, Try.results24, go_sem, r2], by rw [HE.out], fun _ => ⟨r + 1, v6, ⟨H6.out.blk.far (Ne.symm HRG.out) _, H6.out.row.put (Nat.lt_succ_self r) 0 _, H6.out.lt, Nat.le_trans H6.out.le ((Kp.refl g r w6).far (b := r) (i := 0) (Nat.le_refl r) (.int .i64 0)).size⟩⟩, ?_⟩
      rw [HRE.out]
      exact K6.out.far (Nat.le_refl r) _
    · exact ⟨rfl, rfl, _, rfl, h1, rfl, HKp.out.trans (hk6.less (Nat.le_succ r)), hk6.blk Hr.out HRL.out HRG.out⟩
set_option maxRecDepth 100000 in
set_option maxHeartbeats 2000000 in
theorem take_no (g : Nat) (s : St) (b : L) (hs : SmallS s) (hm : ¬ (mayS s = true ∧ b.length = 512)) (A : Option Addr) (c : Nat) (w : World) (hbk : Blk w g 53 (pcells s (.slice none 0 0))) :
    Calls Try.prog 24 #[.pointer (some ⟨g, 0, none⟩), .slice A b.length c] w fun e w' => Taken g (s, [], 1) w e w' := by
  have hmf : ∀ (fn : Fn) (first cap : Array Value) (w : World), (Instr.makeFunc fn first cap).run Try.prog w = .ok (.func fn first cap) w := fun _ _ _ _ => rfl
  have Hs := Lib.hid hs
  obtain ⟨M, hM⟩ : ∃ x, mayS s = x := ⟨_, rfl⟩
  have HM := Lib.hid hM
  rw [hM] at hm
  have h1 := Stp.alloc (Stp.refl w) (.cells #[.int .i64 0] 30)
  have hb1 := hbk.alloc (.cells #[.int .i64 0] 30)
  have H := Lib.hid (show Lies (w.alloc (.cells #[.int .i64 0] 30)) g (w.heap.size + 1) s (.slice none 0 0) [] from ⟨hbk.alloc _, RowE.nil _ _, by have := hbk.lt; omega, by rw [World.size_alloc]; exact Nat.le_refl _⟩)
  have HKp := Lib.hid (Kp.of_stp (g := g) h1 (Nat.le_refl w.heap.size))
  have Hr := Lib.hid (Blk.new w 30 #[.int .i64 0])
  obtain ⟨r, hr⟩ : ∃ x, w.heap.size = x := ⟨_, rfl⟩
  rw [hr] at Hr HKp H
  have HRE := Lib.hid hr
  obtain ⟨q0, q1, q2, q3, q4, q5, q6, q7, q8, q9, q10, q11, q12, q13, q14⟩ := H.out.cells
  have hlen : M = true → ((b.length : Int) == 512) = false := fun e => by rw [beq_eq_false_iff_ne]; intro h; exact hm ⟨e, by omega⟩
  have HLn := Lib.hid hlen
  clear hm hM h1 hb1 hbk hs hlen
  have fin : ∀ w7 : World, Kp g r w w7 → Blk w7 r 30 #[.int .i64 0] → ∀ tmps : Array Value, tmps[4]? = some (.pointer (some ⟨r, 0, none⟩)) →
      Leaves Try.prog Try.f24 tmps (fun e w' => Taken g (s, [], 1) w e w') [{ target := .fn (.func 44) #[.pointer (some ⟨r, 0, none⟩)], args := #[] }] (.panicking [pe 1]) w7 := by
    intro w7 hkp hblk tmps h4
    refine leaves_cons (f := 44) (args := #[.pointer (some ⟨r, 0, none⟩)]) (by simp) (by simp [go_sem]) ?_
    refine (catch_panicking ⟨r, 0, none⟩ 0 1 [] _ (by rw [hblk.cell]; rfl) (hblk.free 0)).mono ?_
    rintro e u' w8 ⟨rfl, rfl, rfl⟩
    have hb2 := hblk.put 0 (.int .i64 1)
    have r2 : (w7.setCell ⟨r, 0, none⟩ (.int .i64 1)).cell? ⟨r, 0, none⟩ = some (.int .i64 1) := by rw [hb2.cell]; rfl
    show Leaves Try.prog Try.f24 tmps _ [] .returning _
    refine ⟨.int .i64 1, by simp [results, Try.results24, go_sem, h4, r2], rfl, fun h => absurd h (by show ¬ (1 : Int) = 0; decide), ?_⟩
    rw [HRE.out]
    exact hkp.far (Nat.le_refl r) _
  have Fin := Lib.hid fin
  clear fin
  cases M
  · go_enter_defers Try.func24, Try.ntmps24
    go_wp2_with (first
      | (go_at_call 13; (refine (cmay_s s _ (by rfl) Hs.out _).mono ?_); rintro e w2 ⟨rfl, hs⟩; rw [HM.out]; replace HKp := Lib.hid (HKp.out.stp hs (Nat.le_trans (Nat.le_succ _) H.out.le)); replace Hr := Lib.hid (Hr.out.keep hs Hr.out.lt); clear hs)
      | (go_at_call 45; (with_reducible refine (must_no _ _).mono ?_); rintro e w3 ⟨rfl, rfl⟩))
    exact Fin.out _ HKp.out Hr.out _ rfl
  · have hlen := HLn.out rfl
    go_enter_defers Try.func24, Try.ntmps24
    go_wp2_with (first
      | (go_at_call 13; (refine (cmay_s s _ (by rfl) Hs.out _).mono ?_); rintro e w2 ⟨rfl, hs⟩; rw [HM.out]; replace HKp := Lib.hid (HKp.out.stp hs (Nat.le_trans (Nat.le_succ _) H.out.le)); replace Hr := Lib.hid (Hr.out.keep hs Hr.out.lt); clear hs)
      | (go_at_call 45; (with_reducible refine (must_no _ _).mono ?_); rintro e w3 ⟨rfl, rfl⟩))
    exact Fin.out _ HKp.out Hr.out _ rfl
end Go.Proofs.Ytejgnhicgeiceaa.Parse
