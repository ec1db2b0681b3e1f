/-
  Package tape's exported calls: their contracts; no statement is proved here.
-/
import Derived.Test.YtaknnkcfoafkdaaTapeL
namespace Go.Proofs.Ytaknnkcfoafkdaa.Tape
open Go.RowKit Go.Proofs.Ytaknnkcfoafkdaa.Str Go.Proofs.Ytaknnkcfoafkdaa.Base Go.Proofs.Ytaknnkcfoafkdaa.BlockM Go.Proofs.Ytaknnkcfoafkdaa.RecM Go.Proofs.Ytaknnkcfoafkdaa.TapeM

theorem fillV_one (t : Tp) (r : L) : fillV t [r] = ((writeV t r).1, (if (writeV t r).2 = 0 then 1 else 0), (writeV t r).2) := by
  cases hm : mayT t
  · simp [fillV, writeV, hm]
  · rw [fillV, if_pos hm]
    by_cases h : (writeV t r).2 = 0
    · simp [fillG, h]
    · rw [fillG_err (r := r) rfl h, if_neg h, writeV_no h]
theorem rdL_lit {w : World} {g l d : Nat} {B : Option Addr} {r : L} (h : Blk w g 25 #[.slice B l d]) (hr : RdA w B d (bs r)) (hl : r.length = l) : RdL w (some ⟨g, 0, none⟩) 1 [r] := by
  subst hl
  have h2 := (Base.Own.of_blk (lo := 0) h (Nat.zero_le _) (n := 1) rfl (by unfold maxLen; omega)).rd
  refine ⟨[.slice B r.length d], rfl, h2, fun j l hj => ?_⟩
  cases j with
  | succ j => simp at hj
  | zero =>
    simp only [List.getElem?_cons_zero, Option.some.injEq] at hj
    subst hj
    refine ⟨_, rfl, ?_⟩
    have := hr
    unfold RdA at this
    rwa [bs_length] at this
/-- What the call's end tells. -/
theorem ends {w w' : World} {A' : Option Addr} {n' k' : Nat} {ls' : List L} {S : Nat → Prop} (hR : FRows w' S (.slice A' n' k') ls') (hS : ∀ b, S b → w.heap.size ≤ b) : RdL w' A' k' ls' ∧ ∀ g, g < w.heap.size → Clear g w' A' k' ls' :=
  ⟨hR.rd_n.2, fun g hg => hR.clear (fun h => by have := hS g h; omega)⟩
/-- What the method asks of a literal of one record. -/
theorem lit_clear {w w1 : World} {g l d : Nat} {B : Option Addr} {r : L} {vb : Option Nat} {c : Int} {A : Option Addr} {n k : Nat} {m : Bool} (h1 : Stp w w1) (hr : RdA w B d (bs r)) (hl : r.length = l) (hv : ∀ b, vb = some b → w.heap.size + 2 ≤ b ∧ b < w1.heap.size) (hg : w1.heap.size = g) (w' : World)
    (hw : Wr g vb ((w1.alloc (.cells (tcs c A n k m) 84)).alloc (.cells #[.slice B l d] 25)) w') : RdL w' (some ⟨g + 1, 0, none⟩) 1 [r] := by
  subst hg
  have hb := Blk.new (w1.alloc (.cells (tcs c A n k m) 84)) 25 #[.slice B l d]
  rw [World.size_alloc] at hb
  have hs : Stp w ((w1.alloc (.cells (tcs c A n k m) 84)).alloc (.cells #[.slice B l d] 25)) := Stp.alloc (Stp.alloc h1 _) _
  refine rdL_lit (g := w1.heap.size + 1) ((hw.block _ hb.lt (by omega) (fun e => by have := (hv _ e.symm).2; omega)).trans hb) (hr.keep (hw.back hs h1.size (fun b hb => by have := (hv b hb).1; omega))) hl
/-- The blocks of a tape that is being made: behind the call's own, and not the reel. -/
abbrev Beh (w : World) (g : Nat) : Nat → Prop := fun b => w.heap.size + 2 ≤ b ∧ b ≠ g

theorem rows_clear {w w1 : World} {g d : Nat} {B : Option Addr} {rs : List L} {vb : Option Nat} {c : Int} {A : Option Addr} {n k : Nat} {m : Bool} (h1 : Stp w w1) (hr : RdL w B d rs) (hv : ∀ b, vb = some b → w.heap.size + 2 ≤ b ∧ b < w1.heap.size) (hg : w1.heap.size = g) (w' : World)
    (hw : Wr g vb (w1.alloc (.cells (tcs c A n k m) 84)) w') : RdL w' B d rs := by
  subst hg
  exact hr.keep (hw.back (Stp.alloc h1 _) h1.size (fun b hb => by have := (hv b hb).1; omega))
theorem own_vb {w w0 w1 : World} {v : Value} {ls : List L} (hs : w0.heap.size = w.heap.size + 2) (h : FRows w1 (From w0.heap.size) v ls) : ∀ b, v.ownBlock = some b → w.heap.size + 2 ≤ b ∧ b < w1.heap.size :=
  fun b hb => ⟨by rw [← hs]; exact (h.lt b hb).1, (h.lt b hb).2⟩
theorem own_beh {w w0 w1 : World} {v : Value} {ls : List L} (hs : w0.heap.size = w.heap.size + 2) (h : FRows w1 (From w0.heap.size) v ls) : FRows w1 (Beh w w1.heap.size) v ls :=
  h.less fun b hb (hl : w0.heap.size ≤ b) => ⟨by omega, by omega⟩
theorem beh_lo {w w0 w1 w2 : World} (hs : w0.heap.size = w.heap.size + 2) (h1 : Stp w0 w1) (_ : Stp w1 w2) (h3 : w1.heap.size < w2.heap.size) : ∀ b, w2.heap.size ≤ b → Beh w w1.heap.size b :=
  fun b hb => ⟨by have := h1.size; omega, by omega⟩
theorem beh_one {w w1 : World} (h : w.heap.size + 2 ≤ w1.heap.size) : w.heap.size + 1 ≠ w1.heap.size := by omega
theorem vb_one {w w1 : World} {vb : Option Nat} (hv : ∀ b, vb = some b → w.heap.size + 2 ≤ b ∧ b < w1.heap.size) (_ : w.heap.size + 2 ≤ w1.heap.size) : some (w.heap.size + 1) ≠ vb := fun e => by
  have := (hv _ e.symm).1
  omega

set_option maxRecDepth 100000 in
set_option maxHeartbeats 2000000 in
theorem write_s (c : Int) (ls : List L) (m : Bool) (n : Nat) (hf : FewT ⟨c, ls, m⟩) (hn : ls.length = n) (r : L) (l : Nat) (hl : r.length = l) (hl2 : l ≤ 100000)
    (c' : Int) (ls' : List L) (m' : Bool) (n' e0 : Nat) (hv : writeV ⟨c, ls, m⟩ r = (⟨c', ls', m'⟩, e0)) (hn' : ls'.length = n') (ei : Int) (he : (e0 : Int) = ei) (A B : Option Addr) (k d : Nat) (w : World) (ha : RdL w A k ls) (hr : RdA w B d (bs r)) :
    Calls Try.prog 57 #[tc c A n k m, .slice B l d] w fun e w' => ∃ A' k', e = .returned (.tuple #[tc c' A' n' k' m', .int .i64 ei]) ∧ RdL w' A' k' ls' ∧ Stp w w' ∧ ∀ g, g < w.heap.size → Clear g w' A' k' ls' := by
  obtain ⟨jj, hv2⟩ : ∃ jj, fillV ⟨c, ls, m⟩ [r] = (⟨c', ls', m'⟩, jj, e0) := ⟨_, by rw [fillV_one, hv]⟩
  have Hv := Lib.hid hv2
  have HF := Lib.hid hf
  have Hn := Lib.hid hn
  have Ha := Lib.hid ha
  have Hr := Lib.hid hr
  have Hl := Lib.hid hl
  have Hl3 : Hid (∀ x ∈ [r], x.length ≤ 100000) := Lib.hid (by simp [hl]; exact hl2)
  obtain ⟨b0, b1, hst0, hsz0⟩ := two_blks w c A n k m
  obtain ⟨⟨q0, q1, q2⟩, -, -, -⟩ := tt_all b0
  have B1 := Lib.hid b1
  have H0 := Lib.hid hst0
  have S0 := Lib.hid hsz0
  clear hf hn ha hr hl b0 b1 hst0 hsz0 hv hv2
  go_enter Try.func57, Try.ntmps57
  go_wp2_with (first
    | (go_at_call 66; refine (own_s c ls m n HF.out Hn.out A k _ (Ha.out.keep H0.out)).mono ?_; rintro e w1 ⟨A1, k1, rfl, hR, hs⟩; have hvb := own_vb S0.out hR; have hs2 := (Stp.alloc (Stp.alloc (Stp.refl w1) (.cells (tcs c A1 n k1 m) 84)) (.cells #[.slice B l d] 25)); have HX := Lib.hid ((lit_clear (c := c) (A := A1) (n := n) (k := k1) (m := m) (Stp.trans H0.out hs) Hr.out Hl.out hvb rfl)); have HB := Lib.hid (((Blk.new w1 84 (tcs c A1 n k1 m)).alloc (.cells #[.slice B l d] 25))); have Hng : Hid (¬ Beh w w1.heap.size w1.heap.size) := Lib.hid (fun h => h.2 rfl); have Hlo := Lib.hid (beh_lo S0.out hs hs2 (by simp only [World.size_alloc]; omega)); have HR2 := Lib.hid ((own_beh S0.out hR).keep hs2); have B2 := Lib.hid ((B1.out.keep hs B1.out.lt).keep hs2 (B1.out.keep hs B1.out.lt).lt); have H2 := Lib.hid (Stp.trans (Stp.trans H0.out hs) hs2); have Hvb := Lib.hid hvb; have Hsz1 := Lib.hid (Nat.le_trans (Nat.le_of_eq S0.out.symm) hs.size); clear hR hs hs2 hvb q0 q1 q2)
    | (go_at_call 67; refine (wr_s w1.heap.size (Beh w w1.heap.size) c ls m n HF.out Hn.out [r] 1 rfl (by omega) Hl3.out c' ls' m' n' _ e0 Hv.out hn' ei he A1 _ k1 1 _ HB.out Hng.out Hlo.out HR2.out HX.out).mono ?_; rintro e w3 ⟨rfl, A3, k3, hb3, hR3, hw3⟩; have B3 := Lib.hid ((hw3.block _ B2.out.lt (beh_one Hsz1.out) (vb_one Hvb.out Hsz1.out)).trans B2.out); have HR3 := Lib.hid hR3; have H3 := Lib.hid (hw3.back H2.out (Nat.le_trans (Nat.le_add_right _ 2) Hsz1.out) (fun b hb => Nat.le_trans (Nat.le_add_right _ 2) (Hvb.out b hb).1)); obtain ⟨⟨q0, q1, q2⟩, -, -, -⟩ := tt_all hb3; obtain ⟨⟨r0, r1, r2⟩, s0, s1, s2⟩ := tt_all (show Blk w3 (w.heap.size + 1) 41 (tcs 0 none 0 0 false) from B3.out); clear hb3 hR3 hw3))
  have hf := fillt_blk c' A3 n' k3 m' (show Blk w3 (w.heap.size + 1) 41 (tcs 0 none 0 0 false) from B3.out)
  have hR := HR3.out.abv (fillt_abv (Abv.refl w3) (g := w.heap.size + 1) (fun (h : Beh w w1.heap.size (w.heap.size + 1)) => by have := h.1; omega) c' A3 n' k3 m')
  have hst := fillt_stp c' A3 n' k3 m' H3.out (g := w.heap.size + 1) (by omega)
  change bodyPost _ _ _ _ _ (fillT w3 (w.heap.size + 1) c' A3 n' k3 m')
  generalize fillT w3 (w.heap.size + 1) c' A3 n' k3 m' = W at hf hR hst ⊢
  clear q0 q1 q2 r0 r1 r2 s0 s1 s2
  obtain ⟨⟨q0, q1, q2⟩, -, -, -⟩ := tt_all hf
  obtain ⟨x1, x2⟩ := ends (w := w) hR (fun b h => by have := h.1; omega)
  refine bodyPost_ret (v := .tuple #[tc c' A3 n' k3 m', .int .i64 ei]) (by simp [results, Try.results57, go_sem, *]) rfl ⟨A3, k3, rfl, x1, hst, x2⟩

end Go.Proofs.Ytaknnkcfoafkdaa.Tape
