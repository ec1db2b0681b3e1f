/-
  Contracts of package check's Blocks, Who and Find: no statement is proved here.
-/
import Derived.Test.YtllnnlmhbmladaaGreatDoorCheckI
import Derived.Test.YtllnnlmhbmladaaGreatDoorLabelA
import Derived.Test.YtllnnlmhbmladaaGreatDoorTapeK
import Derived.Test.YtllnnlmhbmladaaGreatDoorRecK
import Derived.Test.YtllnnlmhbmladaaGreatDoorCheckP
namespace Go.Proofs.YtllnnlmhbmladaaGreatDoor.Check
open Go.Sort Go.RowKit Go.Shelf Go.Proofs.YtllnnlmhbmladaaGreatDoor.Str Go.Proofs.YtllnnlmhbmladaaGreatDoor.Base Go.Proofs.YtllnnlmhbmladaaGreatDoor.Node Go.Proofs.YtllnnlmhbmladaaGreatDoor.Head Go.Proofs.YtllnnlmhbmladaaGreatDoor.LabelM Go.Proofs.YtllnnlmhbmladaaGreatDoor.ContM Go.Proofs.YtllnnlmhbmladaaGreatDoor.VolM Go.Proofs.YtllnnlmhbmladaaGreatDoor.Vol Go.Proofs.YtllnnlmhbmladaaGreatDoor.StripM Go.Proofs.YtllnnlmhbmladaaGreatDoor.CheckM Go.Proofs.YtllnnlmhbmladaaGreatDoor.RangeO Go.Proofs.YtllnnlmhbmladaaGreatDoor.RangeG
open Go.Proofs.YtllnnlmhbmladaaGreatDoor.TapeM (Tp)
open Go.Proofs.YtllnnlmhbmladaaGreatDoor.RecM (blocksV mayR blocksB)
open Go.Proofs.YtllnnlmhbmladaaGreatDoor.Tape (FewT SmallT tc tcs tcells)
open Go.Proofs.YtllnnlmhbmladaaGreatDoor.Drive (RdS RowS)
open Go.Proofs.YtllnnlmhbmladaaGreatDoor.Parse (St zeroS)
set_option linter.unusedVariables false

attribute [local go_sem] Oper.semAt_some

/-! ### one tape -/
theorem recs_n (rs : LL) (m : Nat) (hm : rs.length = m) (V : LL) (hV : blocksV rs = V) (z : Nat) (hz : V.length = z) (A : Option Addr) (c : Nat) (w : World) (ha : RdL w A c rs) (hl : m ≤ 4000) (hls : ∀ r ∈ rs, r.length < 9223372036854775808) :
    Calls Tryz.prog 24 #[.slice A m c] w fun e w' => ∃ B d, e = .returned (.tuple #[.slice B z d, .bool (blocksB rs)]) ∧ RdL w' B d V ∧ Stp w w' := by
  subst hm hV hz
  exact Rec.blocks_s rs A c w ha hl hls
set_option maxRecDepth 100000 in
set_option maxHeartbeats 1000000 in
theorem cblocks_s (c : Int) (ls : LL) (m : Bool) (n : Nat) (hf : FewC ⟨c, ls, m⟩) (hn : ls.length = n) (V : LL) (E : Int) (hV : blocksT ⟨c, ls, m⟩ = (V, E)) (z : Nat) (hz : V.length = z) (A : Option Addr) (k : Nat) (w : World) (ha : RdL w A k ls) :
    Calls Tryz.prog 14 #[tc c A n k m] w fun e w' => ∃ B d, e = .returned (.tuple #[.slice B z d, .int .i64 E]) ∧ RdL w' B d V ∧ Stp w w' := by
  have hst := Stp.alloc (Stp.refl w) (.cells (tcs c A n k m) 38)
  have hb := Blk.new w 38 (tcs c A n k m)
  have hn4 : n ≤ 4000 := by have := hf.few.few; dsimp only at this; omega
  have hls : ∀ r ∈ ls, r.length < 9223372036854775808 := fun r hr => by have := hf.few.each r hr; omega
  have HF := Lib.hid hf.few
  have Hn := Lib.hid hn
  have H0 := Lib.hid hst
  have Ha := Lib.hid (ha.keep hst)
  have Hz := Lib.hid hz
  have Hls := Lib.hid hls
  obtain ⟨b, hb0⟩ : ∃ b, TapeM.mayT ⟨c, ls, m⟩ = b := ⟨_, rfl⟩
  have Hb0 := Lib.hid hb0
  have Hb := Lib.hid hb
  obtain ⟨⟨t0, t1, t2⟩, -, -, -⟩ := Tape.tt_all hb
  clear hst hn ha hz hb hls
  cases b
  · obtain ⟨rfl, rfl⟩ : V = [] ∧ E = 1 := by
      rw [blocksT, if_neg (by rw [hb0]; decide)] at hV
      cases hV
      exact ⟨rfl, rfl⟩
    obtain rfl : z = 0 := Hz.out.symm
    clear hV hb0 hf
    go_enter Tryz.func14, Tryz.ntmps14
    go_wp2_with (go_at_call 23; refine (Tape.tmay_s c ls m n HF.out Hn.out false Hb0.out A k _ Ha.out).mono ?_; rintro e w1 ⟨rfl, hs⟩; replace H0 := Lib.hid (Stp.trans H0.out hs); clear hs)
    go_ret2
    exact ⟨none, 0, rfl, RdL.nil _, H0.out⟩
  · obtain ⟨hV1, rfl⟩ : blocksV ls = V ∧ E = 0 := by
      rw [blocksT, if_pos hb0] at hV
      cases hV
      exact ⟨rfl, rfl⟩
    have HV := Lib.hid hV1
    clear hV hb0 hf hV1
    go_enter Tryz.func14, Tryz.ntmps14
    go_wp2_with (first
      | (go_at_call 23; refine (Tape.tmay_s c ls m n HF.out Hn.out true Hb0.out A k _ Ha.out).mono ?_; rintro e w1 ⟨rfl, hs⟩; replace H0 := Lib.hid (Stp.trans H0.out hs); replace Ha := Lib.hid (Ha.out.keep hs); replace Hb := Lib.hid (Hb.out.keep hs Hb.out.lt); clear hs t0 t1 t2; obtain ⟨⟨t0, t1, t2⟩, -, -, -⟩ := Tape.tt_all Hb.out)
      | (go_at_call 24; refine (recs_n ls n Hn.out V HV.out z Hz.out A k _ Ha.out hn4 Hls.out).mono ?_; rintro e w2 ⟨B, d, rfl, hr, hs⟩; have HR := Lib.hid hr; replace H0 := Lib.hid (Stp.trans H0.out hs); clear hs hr))
    go_ret2
    exact ⟨B, d, rfl, HR.out, H0.out⟩
set_option maxRecDepth 100000 in
set_option maxHeartbeats 1000000 in
theorem cwho_s (c : Int) (ls : LL) (m : Bool) (n : Nat) (hf : FewC ⟨c, ls, m⟩) (hn : ls.length = n) (x : List UInt8) (i e0 : Int) (hw : whoT ⟨c, ls, m⟩ = (x, i, e0)) (A : Option Addr) (k : Nat) (w : World) (ha : RdL w A k ls) (htab : Label.Tab w) :
    Calls Tryz.prog 12 #[tc c A n k m] w fun e w' => e = .returned (.tuple #[.string ⟨x.toArray⟩, .int .i64 i, .int .i64 e0]) ∧ Stp w w' := by
  have hst := Stp.alloc (Stp.refl w) (.cells (tcs c A n k m) 38)
  have hb := Blk.new w 38 (tcs c A n k m)
  obtain ⟨V, E, hV⟩ : ∃ V E, blocksT ⟨c, ls, m⟩ = (V, E) := ⟨_, _, rfl⟩
  obtain ⟨z, hz⟩ : ∃ z, V.length = z := ⟨_, rfl⟩
  have HF := Lib.hid hf
  have Hn := Lib.hid hn
  have H0 := Lib.hid hst
  have Ha := Lib.hid (ha.keep hst)
  have HT := Lib.hid (Label.Tab.keep htab hst)
  have Hz := Lib.hid hz
  have HV := Lib.hid hV
  have Hb := Lib.hid hb
  obtain ⟨⟨t0, t1, t2⟩, -, -, -⟩ := Tape.tt_all hb
  have key : (E = 1 ∧ x = [] ∧ i = 0 ∧ e0 = 1) ∨ (E = 0 ∧ z = 0 ∧ x = [] ∧ i = 0 ∧ e0 = 7) ∨ (E = 0 ∧ ∃ b r, V = b :: r ∧ 0 < z ∧ getL b = (x, i, e0)) := by
    rw [blocksT] at hV
    rw [whoT] at hw
    split at hV
    · rename_i hm
      rw [if_pos hm] at hw
      cases hV
      dsimp only at hw
      cases hb : blocksV ls with
      | nil =>
        rw [hb] at hw hz
        cases hw
        exact .inr (.inl ⟨rfl, hz.symm, rfl, rfl, rfl⟩)
      | cons b r =>
        rw [hb] at hw hz
        refine .inr (.inr ⟨rfl, b, r, rfl, ?_, hw⟩)
        rw [← hz, List.length_cons]
        omega
    · rename_i hm
      rw [if_neg hm] at hw
      cases hV
      cases hw
      exact .inl ⟨rfl, rfl, rfl, rfl⟩
  clear hst hn ha hz hb hV htab hf hw
  rcases key with ⟨rfl, rfl, rfl, rfl⟩ | ⟨rfl, rfl, rfl, rfl, rfl⟩ | ⟨rfl, b, r, rfl, hz0, hg⟩
  · go_enter Tryz.func12, Tryz.ntmps12
    go_wp2_with (go_at_call 14; refine (cblocks_s c ls m n HF.out Hn.out V 1 HV.out z Hz.out A k _ Ha.out).mono ?_; rintro e w1 ⟨B, d, rfl, -, hs⟩; replace H0 := Lib.hid (Stp.trans H0.out hs); clear hs)
    go_ret3
    exact ⟨rfl, H0.out⟩
  · go_enter Tryz.func12, Tryz.ntmps12
    go_wp2_with (go_at_call 14; refine (cblocks_s c ls m n HF.out Hn.out V 0 HV.out 0 Hz.out A k _ Ha.out).mono ?_; rintro e w1 ⟨B, d, rfl, -, hs⟩; replace H0 := Lib.hid (Stp.trans H0.out hs); clear hs)
    go_ret3
    exact ⟨rfl, H0.out⟩
  · have g0 : ((z : Int) == 0) = false := by rw [beq_eq_false_iff_ne]; omega
    have Hg := Lib.hid hg
    clear hg
    go_enter Tryz.func12, Tryz.ntmps12
    go_wp2_with (first
      | (go_at_call 14; refine (cblocks_s c ls m n HF.out Hn.out (b :: r) 0 HV.out z Hz.out A k _ Ha.out).mono ?_; rintro e w1 ⟨B, d, rfl, hr, hs⟩; replace H0 := Lib.hid (Stp.trans H0.out hs); replace HT := Lib.hid (HT.out.keep hs); obtain ⟨p, o, A1, c1, rfl, hq, hr1⟩ := hr.at_ (j := 0) (l := b) rfl; rw [Nat.add_zero] at hq; have HR := Lib.hid hr1; clear hs hr hr1)
      | (go_at_call 22; refine (Label.lget_s b _ rfl x i e0 Hg.out A1 c1 _ HR.out HT.out).mono ?_; rintro e w2 ⟨rfl, hs⟩; replace H0 := Lib.hid (Stp.trans H0.out hs); clear hs))
    go_ret3
    exact ⟨rfl, H0.out⟩
theorem blocks_le {t : Tp} (hf : FewC t) {V : LL} {E : Int} (h : blocksT t = (V, E)) : V.length ≤ 1000 ∧ ∀ b ∈ V, b.length < 9223372036854775808 := by
  rw [blocksT] at h
  split at h
  · cases h
    exact ⟨hf.blocks, fun b hb => by have := blocks_512 _ b hb; omega⟩
  · cases h
    exact ⟨by simp, by simp⟩
/-! ### is it the one that is asked, does it fit -/
theorem places_find (name : List UInt8) (n : Int) : ∀ (ts : List Tp) (i : Nat), placesV (isT name n) ts i = findG name n ts i
  | [], _ => rfl
  | t :: ts, i => by rw [placesV, findG, places_find name n ts (i + 1)]
theorem places_next (s : St) (name : List UInt8) (n : Int) : ∀ (ts : List Tp) (i : Nat), (placesV (fun t => decide ((fitsT s name n t).2 = 0)) ts i).head?.getD (-1) = nextG s name n ts i
  | [], _ => rfl
  | t :: ts, i => by
    rw [placesV, nextG]
    by_cases h : (fitsT s name n t).2 = 0
    · rw [if_pos (by simp [h]), if_pos h]
      rfl
    · rw [if_neg (by simp [h]), if_neg h, places_next s name n ts (i + 1)]
set_option maxRecDepth 100000 in
set_option maxHeartbeats 1000000 in
theorem asked_s (t : Tp) (hf : FewC t) (y : Nat) (hy : t.rows.length = y) (name : List UInt8) (i : Int) (bn bi : Nat) (A : Option Addr) (k : Nat) (w : World) (ha : RdL w A k t.rows) (htab : Label.Tab w) (hn : w.cell? ⟨bn, 0, none⟩ = some (.string ⟨name.toArray⟩)) (hi : w.cell? ⟨bi, 0, none⟩ = some (.int .i64 i)) :
    Calls Tryz.prog 20 (#[tc t.cap A y k t.mark] ++ #[.pointer (some ⟨bn, 0, none⟩), .pointer (some ⟨bi, 0, none⟩)]) w fun e w' => e = .returned (.bool (isT name i t)) ∧ Stp w w' := by
  obtain ⟨x, j, e0, hg⟩ : ∃ x j e0, whoT t = (x, j, e0) := ⟨_, _, _, rfl⟩
  obtain ⟨q1, k1⟩ : ∃ q, (e0 == 0) = q := ⟨_, rfl⟩
  obtain ⟨q2, k2⟩ : ∃ q, (x == name) = q := ⟨_, rfl⟩
  obtain ⟨q3, k3⟩ : ∃ q, (j == i) = q := ⟨_, rfl⟩
  have E : isT name i t = (q1 && (q2 && q3)) := by
    rw [isT, hg, ← k1, ← k2, ← k3, Bool.eq_iff_iff]
    simp only [decide_eq_true_eq, Prod.mk.injEq, Bool.and_eq_true, beq_iff_eq]
    constructor
    · rintro ⟨a, b, c⟩
      exact ⟨c, a, b⟩
    · rintro ⟨c, a, b⟩
      exact ⟨a, b, c⟩
  have hst := Stp.alloc (Stp.refl w) (.cells (tcs t.cap A y k t.mark) 38)
  have hb := Blk.new w 38 (tcs t.cap A y k t.mark)
  have HE := Lib.hid E
  have HG := Lib.hid hg
  have HF := Lib.hid hf
  have Hy := Lib.hid hy
  have H0 := Lib.hid hst
  have Ha := Lib.hid (ha.keep hst)
  have HT := Lib.hid (Label.Tab.keep htab hst)
  have m0 := (stp_cell hst hn).trans hn
  have m1 := (stp_cell hst hi).trans hi
  obtain ⟨⟨t0, t1, t2⟩, -, -, -⟩ := Tape.tt_all hb
  clear E hg hf hy ha htab hst hb hn hi
  cases q1 <;> cases q2 <;> cases q3
  all_goals
    go_enter Tryz.func20, Tryz.ntmps20
    go_wp2_with (go_at_call 12; refine (cwho_s t.cap t.rows t.mark y HF.out Hy.out x j e0 HG.out A k _ Ha.out HT.out).mono ?_; rintro e w1 ⟨rfl, hs⟩; replace H0 := Lib.hid (Stp.trans H0.out hs); replace m0 := (stp_cell hs m0).trans m0; replace m1 := (stp_cell hs m1).trans m1; clear hs)
    go_ret
    exact ⟨by rw [HE.out]; rfl, H0.out⟩
/-! ### Find -/
theorem znts_info : (Tryz.prog.info? 3).map (fun i => (i.zero, i.size, i.bytes)) = some (some (.int .i64 0), 1, 8) := by kernel_rfl
theorem own_stp3 {w0 w w' : World} {lo : Nat} {e : TypeId} {v : Value} {xs : List Value} (h : Base.Own w lo e v xs) (h0 : Stp w0 w) (hlo : w0.heap.size ≤ lo) (hg : w.grownBy w' v.ownBlock) : Stp w0 w' :=
  Below.grown h0 hg h0.size (fun j hj => Nat.le_trans hlo (h.lt j hj).1)
/-- What Find has gathered: in the box behind w. -/
def IF (w : World) (O : Nat → Prop) (pre : List Int) (X : World) : Prop :=
  ∃ v, (∀ k, O k ↔ (k = w.heap.size ∨ v.ownBlock = some k)) ∧ Boxed X w.heap.size 31 v ∧ Base.Own X (w.heap.size + 1) 3 v (zcs pre) ∧ Stp w X
set_option maxRecDepth 100000 in
set_option maxHeartbeats 2000000 in
theorem cfind_s (ts : List Tp) (m : Nat) (hm : ts.length = m) (hm9 : m ≤ 1000) (hf : ∀ t ∈ ts, FewC t) (name : List UInt8) (i : Int) (X : List Int) (hX : findT ts name i = X) (z : Nat) (hz : X.length = z) (A : Option Addr) (c : Nat) (w : World) (ha : RdS w A c ts) (htab : Label.Tab w) :
    Calls Tryz.prog 10 #[.slice A m c, .string ⟨name.toArray⟩, .int .i64 i] w fun e w' => ∃ B d, e = .returned (.slice B z d) ∧ RdZ w' B d X ∧ Stp w w' := by
  obtain ⟨W1, hW1⟩ : ∃ W, w.alloc (.cells #[.string ⟨name.toArray⟩] 9) = W := ⟨_, rfl⟩
  obtain ⟨W2, hW2⟩ : ∃ W, W1.alloc (.cells #[.int .i64 i] 3) = W := ⟨_, rfl⟩
  have s1 : W1.heap.size = w.heap.size + 1 := by rw [← hW1, World.size_alloc]
  have s2 : W2.heap.size = w.heap.size + 2 := by rw [← hW2, World.size_alloc, s1]
  have b1 : W2.cell? ⟨w.heap.size, 0, none⟩ = some (.string ⟨name.toArray⟩) := by
    have h := (Boxed.new w 9 (.string ⟨name.toArray⟩)).alloc (.cells #[.int .i64 i] 3)
    rw [hW1] at h
    rw [← hW2]
    exact h.cell
  have b2 : W2.cell? ⟨w.heap.size + 1, 0, none⟩ = some (.int .i64 i) := by
    have h := Boxed.new W1 3 (.int .i64 i)
    rw [← hW2, ← s1]
    exact h.cell
  have h02 : Stp w W2 := by
    rw [← hW2, ← hW1]
    exact Stp.alloc (Stp.alloc (Stp.refl w) _) _
  have ha2 := ha.keep h02
  have ht2 := Label.Tab.keep htab h02
  have hdo : ∀ t ∈ ts, ∀ (z : Nat), t.rows.length = z → ∀ (Aj : Option Addr) (kj : Nat) (wr : World), Stp W2 wr → RdL wr Aj kj t.rows → Calls Tryz.prog 20 (#[tc t.cap Aj z kj t.mark] ++ #[.pointer (some ⟨w.heap.size, 0, none⟩), .pointer (some ⟨w.heap.size + 1, 0, none⟩)]) wr fun e w' => e = .returned (.bool (isT name i t)) ∧ Stp wr w' :=
    fun t ht z hz Aj kj wr hwr hr => asked_s t (hf t ht) z hz name i _ _ Aj kj wr hr (Label.Tab.keep ht2 hwr) ((stp_cell hwr b1).trans b1) ((stp_cell hwr b2).trans b2)
  have hX2 : placesV (isT name i) ts 0 = X := by rw [places_find, ← hX]; rfl
  have hent : ∀ (args : Array Value) (w : World), (callFunc 20 args).run Tryz.prog w = .ok (.enter 20 args) w := enters_of Tryz.func20 (by kernel_rfl) rfl
  have HD := Lib.hid hdo
  have Ha := Lib.hid ha2
  have Hm := Lib.hid hm
  have HX := Lib.hid hX2
  have Hz := Lib.hid hz
  have Hent := Lib.hid hent
  have H02 := Lib.hid h02
  have SZ := Lib.hid s2
  have HW : Hid ((w.alloc (.cells #[.string ⟨name.toArray⟩] 9)).alloc (.cells #[.int .i64 i] 3) = W2) := Lib.hid (by rw [hW1, hW2])
  have hmf : ∀ (fn : Fn) (first cap : Array Value) (w : World), (Instr.makeFunc fn first cap).run Tryz.prog w = .ok (.func fn first cap) w := fun _ _ _ _ => rfl
  clear hf hX ha htab hW1 hW2 s1 s2 b1 b2 ha2 ht2 hdo hX2 hm h02 hz hent
  refine (callsIn_wide (n := 4)).1 ?_
  refine callsIn_of_wp_marks Tryz.func10 rfl trivial ?_ rfl
  simp only [Tryz.ntmps10, List.size_toArray, List.length_cons, List.length_nil, Nat.reduceAdd, Nat.reduceSub, Array.replicate_succ, Array.replicate_zero, List.push_toArray, List.append_toArray, List.nil_append, List.cons_append]
  gi_wp2_with (refine ⟨trivial, ?_⟩; gi_at_call 19; refine (callsIn_wide.2 (places_any A m c _ _ _)).mono ?_; rintro e w2 ⟨rfl, rfl⟩)
  rw [HW.out]
  have e2 : w.heap.size + 1 + 1 = W2.heap.size := by rw [SZ.out]
  rw [e2]
  have bO := Boxed.new W2 31 (.slice none 0 0)
  have bT := Boxed.new (W2.alloc (.cells #[.slice none 0 0] 31)) 26 (.slice A m c)
  have bI := Boxed.new ((W2.alloc (.cells #[.slice none 0 0] 31)).alloc (.cells #[.slice A m c] 26)) 54 (.func (.func 20) #[] #[.pointer (some ⟨w.heap.size, 0, none⟩), .pointer (some ⟨w.heap.size + 1, 0, none⟩)])
  have bO' := (bO.alloc (.cells #[.slice A m c] 26)).alloc (.cells #[.func (.func 20) #[] #[.pointer (some ⟨w.heap.size, 0, none⟩), .pointer (some ⟨w.heap.size + 1, 0, none⟩)]] 54)
  have bT' := bT.alloc (.cells #[.func (.func 20) #[] #[.pointer (some ⟨w.heap.size, 0, none⟩), .pointer (some ⟨w.heap.size + 1, 0, none⟩)]] 54)
  have hst := Stp.alloc (Stp.alloc (Stp.alloc (Stp.refl W2) (.cells #[.slice none 0 0] 31)) (.cells #[.slice A m c] 26)) (.cells #[.func (.func 20) #[] #[.pointer (some ⟨w.heap.size, 0, none⟩), .pointer (some ⟨w.heap.size + 1, 0, none⟩)]] 54)
  simp only [World.size_alloc] at bT' bI
  refine range_o (by omega) (gf := 30) (lb := #[.pointer (some ⟨W2.heap.size + 1, 0, none⟩), .pointer (some ⟨W2.heap.size + 1 + 1, 0, none⟩)]) rfl (enters_of Tryz.func30 (by kernel_rfl) rfl)
    (places_seq (isT name i) ts m Hm.out hm9 A c (W2.heap.size + 1) (W2.heap.size + 1 + 1) 20 #[.pointer (some ⟨w.heap.size, 0, none⟩), .pointer (some ⟨w.heap.size + 1, 0, none⟩)] Hent.out W2 _ Ha.out hst bT'.cell bI.cell HD.out) (Stp.refl _) (fun _ => rfl)
    (IF W2) (fun _ _ _ _ => False) (fun k => k = W2.heap.size) (by rintro k (h | rfl) <;> omega) ?hI (fun _ _ _ _ _ h _ => h.elim) ?hO (fun _ _ _ _ h => h.elim) (fun h => h.elim) ?h0
    (fun x a' X => a' = { tmps := #[.slice A m c, .string ⟨name.toArray⟩, .int .i64 i, undef, .pointer (some ⟨w.heap.size, 0, none⟩), .pointer (some ⟨w.heap.size + 1, 0, none⟩), .slice none 0 0, .func (.func 20) #[] #[.pointer (some ⟨w.heap.size, 0, none⟩), .pointer (some ⟨w.heap.size + 1, 0, none⟩)], .pointer (some ⟨W2.heap.size, 0, none⟩), .int .i64 x, .func (.func 20) #[] #[.pointer (some ⟨w.heap.size, 0, none⟩), .pointer (some ⟨w.heap.size + 1, 0, none⟩)], .slice A m c, .func (.func 20) #[] #[.pointer (some ⟨w.heap.size, 0, none⟩), .pointer (some ⟨w.heap.size + 1, 0, none⟩)], .func (.func 30) #[] #[.pointer (some ⟨W2.heap.size + 1, 0, none⟩), .pointer (some ⟨W2.heap.size + 1 + 1, 0, none⟩)], .int .i64 x, undef, undef, undef, undef, undef], defers := [] })
    (fun x a' X l r r' h hl => h) ?assign ?body ?done (fun _ _ _ _ _ _ _ h _ => h.elim)
  case hI =>
    rintro O s X Y ⟨v, h1, h2, h3, h4⟩ hs
    exact ⟨v, h1, hs.same h2 (.inr (.inl ((h1 _).2 (.inl rfl)))), own_sme hs h3 (fun g hg => (h1 g).2 (.inr hg)), stp_sme hs h4 hst.size⟩
  case hO =>
    rintro O s X ⟨v, h1, h2, h3, h4⟩ k hk
    rcases (h1 k).1 hk with rfl | h
    · exact ⟨_, h2, rfl⟩
    · exact own_cells h3 h
  case h0 => exact ⟨_, fun k => by simp [Value.ownBlock], bO', Base.Own.nil _ _ _, hst⟩
  case assign =>
    intro l O pre x X K hi hc hK
    gi_wp2
    exact hK _ _ (Stp.refl X) rfl
  case body =>
    rintro l O pre x a' X hwl ⟨v, h1, h2, h3, h4⟩ rfl hlt
    have hc := h2.cell
    obtain ⟨A', cap', rfl, -⟩ := RdA.of h3.rd
    obtain ⟨q, hq⟩ : ∃ q, pre.length = q := ⟨_, rfl⟩
    have hqi : (zcs pre).length = q := by rw [zcs_length, hq]
    rw [hqi] at h1 h2 h3 hc
    rw [hq] at hlt
    have H1 := Lib.hid h1
    have H2 := Lib.hid h2
    have H3 := Lib.hid h3
    have H4 := Lib.hid h4
    have Hqi := Lib.hid hqi
    have hv : (Value.slice A' q cap').ownBlock ≠ some W2.heap.size := fun hb => by
      have := (h3.lt _ hb).1
      omega
    clear h1 h2 h3 h4 bO bT bI bO' bT' hwl hq hqi
    gi_wp2_with (gi_at_builtin; refine wpListIn_append_rd _ rfl (.tmp 15) (.tmp 17) 31 rfl (W2.heap.size + 1) 3 (.int .i64 0) 8 Tryz.underlying31 znts_info rfl _ (zcs pre) rfl (H3.out.alloc _) (X.heap.size + 1) _ [.int .i64 x] rfl (rd_lit X 3 _) (by simp [Value.oneCell']) (by rw [Hqi.out]; simp only [List.length_cons, List.length_nil]; unfold maxLen; omega) (by rw [Hqi.out]; simp only [List.length_cons, List.length_nil]; omega) (by have := H2.out.lt; rw [World.size_alloc]; omega) ?_; intro v' w4 hr' hg' hb'; obtain ⟨A2, cap2, rfl, -⟩ := RdA.of hr'.rd; have hb4 := (H2.out.alloc _).kept hg' (fun e => hv e.symm); have hc4 := hb4.cell; have hf4 := hb4.frozen; have Hr := Lib.hid hr'; have Hg := Lib.hid hg'; have Hb := Lib.hid hb'; have H2' := Lib.hid hb4; clear hr' hg' hb' hb4)
    have hr := Hr.out
    have hb := Hb.out
    simp only [List.length_append, Hqi.out, List.length_cons, List.length_nil, Nat.zero_add] at hr hb
    have hO := H1.out
    have hne : (Value.slice A2 (q + 1) cap2).ownBlock ≠ some W2.heap.size := fun hb => by
      have := (hr.lt _ hb).1
      omega
    rw [Hqi.out]
    refine ⟨fun k => k = W2.heap.size ∨ (Value.slice A2 (q + 1) cap2).ownBlock = some k, ⟨_, fun k => Iff.rfl, H2'.out.set _, ?_, ?_⟩, fun k hk => ?_, ?_⟩
    · rw [zcs_append]
      exact hr.far hne _
    · exact Below.setCell (own_stp3 (H3.out.alloc _) (Stp.alloc H4.out _) (by omega) Hg.out) (p := ⟨W2.heap.size, 0, none⟩) (Nat.le_refl _) _
    · rcases hk with rfl | hk
      · exact .inl ((hO _).2 (.inl rfl))
      · rcases hb with e | e
        · exact .inl ((hO _).2 (.inr (e.symm.trans hk)))
        · rw [e, World.size_alloc] at hk
          simp only [Option.some.injEq] at hk
          exact .inr (by omega)
    · exact (((Rnd.refl X).alloc _).grown Hg.out (fun r hr => .inl ((hO r).2 (.inr hr)))).setCell (.inl ((hO _).2 (.inl rfl))) _
  case done =>
    rintro D O ys X hD hys ⟨v, h1, h2, h3, h4⟩ hK
    rw [hys, HX.out] at h3
    obtain ⟨A', cap', rfl, -⟩ := RdA.of h3.rd
    have hc := h2.cell
    have HR := Lib.hid h3
    have H4 := Lib.hid h4
    rw [zcs_length, Hz.out] at hc
    clear h1 h2 h3 h4 hys bO bT bI bO' bT'
    gi_wp2
    refine ⟨by simp, .inl ⟨_, _, rfl, run_takeDeferred hK, ?_⟩⟩
    have hs : Sme Bx' (fun k => (Value.slice A' (zcs _).length cap').ownBlock = some k) W2.heap.size X (X.putObj D (.deferred none)) :=
      Sme.putObj _ hK (by have := hst.size; omega) (fun h => by
        obtain ⟨o, ho, hc⟩ := own_cells HR.out h
        rw [hK] at ho
        cases ho
        cases hc) (.inr rfl) (.inr rfl)
    have hrd := (own_sme hs HR.out (fun g hg => hg)).rd
    refine ⟨_, results_tmp rfl _ _ _, A', cap', rfl, hrd, Stp.trans H02.out (stp_sme hs H4.out (Nat.le_refl _))⟩
end Go.Proofs.YtllnnlmhbmladaaGreatDoor.Check
