/-
  Package drive: what is done to the tape that is mounted: the methods' contracts; no statement is proved here.
-/
import Derived.Test.YtaknnkcfoafkdaaDriveL
import Derived.Test.YtaknnkcfoafkdaaTapeO
import Derived.Test.YtaknnkcfoafkdaaTapeP
import Derived.BigQuiet
import Derived.Deep.RegionLaw
import Derived.Deep.Cut
namespace Go.Proofs.Ytaknnkcfoafkdaa.Drive
open Go.RowKit Go.Proofs.Ytaknnkcfoafkdaa.Str Go.Proofs.Ytaknnkcfoafkdaa.Base Go.Proofs.Ytaknnkcfoafkdaa.BlockM Go.Proofs.Ytaknnkcfoafkdaa.RecM Go.Proofs.Ytaknnkcfoafkdaa.TapeM Go.Proofs.Ytaknnkcfoafkdaa.Tape Go.Proofs.Ytaknnkcfoafkdaa.DriveM
set_option linter.unusedVariables false

/-- The tape that is mounted, and its place. -/
abbrev mcs (c : Int) (A : Option Addr) (n k : Nat) (m : Bool) (p : Int) : Array Value := #[.int .i64 c, .slice A n k, .bool m, .int .i64 p]
theorem mm_all {w : World} {g : Nat} {t : TypeId} {c : Int} {A : Option Addr} {n k : Nat} {m : Bool} {p : Int} (hb : Blk w g t (mcs c A n k m p)) :
    (w.cell? ⟨g, 0, none⟩ = some (.int .i64 c) ∧ w.cell? ⟨g, 1, none⟩ = some (.slice A n k) ∧ w.cell? ⟨g, 2, none⟩ = some (.bool m) ∧ w.cell? ⟨g, 3, none⟩ = some (.int .i64 p)) ∧ w.frozen? ⟨g, 0, none⟩ = false ∧ w.frozen? ⟨g, 1, none⟩ = false ∧ w.frozen? ⟨g, 2, none⟩ = false ∧ w.frozen? ⟨g, 3, none⟩ = false :=
  ⟨⟨by rw [hb.cell]; rfl, by rw [hb.cell]; rfl, by rw [hb.cell]; rfl, by rw [hb.cell]; rfl⟩, hb.free 0, hb.free 1, hb.free 2, hb.free 3⟩

/-- What a call of package tape answers lies in new memory. -/
theorem new_rows {w9 w0 : World} {A : Option Addr} {k lo : Nat} {ls : List L} (hr : RdL w9 A k ls) (hc : ∀ g, g < w0.heap.size → Clear g w9 A k ls) (hlo : lo ≤ w0.heap.size) : InS (From lo) w9 A k ls :=
  clear_rows hr fun g _ hg => hc g (by have : ¬ lo ≤ g := hg; omega)
theorem new_alloc {w9 w0 W : World} {A : Option Addr} {k lo n : Nat} {ls : List L} {c : Int} {m : Bool} (h0 : Stp W w0) (hs : Stp w0 w9) (hr : RdL w9 A k ls) (hc : ∀ g, g < w0.heap.size → Clear g w9 A k ls) (hlo : lo ≤ w0.heap.size) :
    Blk (w9.alloc (.cells (tcs c A n k m) 41)) w9.heap.size 41 (tcs c A n k m) ∧ InS (From lo) (w9.alloc (.cells (tcs c A n k m) 41)) A k ls ∧ Stp W (w9.alloc (.cells (tcs c A n k m) 41)) :=
  ⟨Blk.new w9 _ _, (new_rows hr hc hlo).keep (Stp.alloc (Stp.refl _) _), Stp.alloc (Stp.trans h0 hs) _⟩
theorem new_fill {w9 w0 W : World} {p : Nat} {A : Option Addr} {k lo n : Nat} {ls : List L} {c : Int} {m : Bool} (h0 : Stp W w0) (hs : Stp w0 w9) (hN : Blk w9 p 41 (tcs 0 none 0 0 false)) (hp : W.heap.size ≤ p) (hp2 : p < w0.heap.size) (hr : RdL w9 A k ls) (hc : ∀ g, g < w0.heap.size → Clear g w9 A k ls) (hlo : lo ≤ p) :
    Blk (fillT w9 p c A n k m) p 41 (tcs c A n k m) ∧ InS (From lo) (fillT w9 p c A n k m) A k ls ∧ Stp W (fillT w9 p c A n k m) :=
  ⟨fillt_blk c A n k m hN, ((new_rows (lo := p + 1) hr hc (by omega)).abv (fillt_abv (Abv.refl _) (by show ¬ p + 1 ≤ p; omega) c A n k m)).less (fun b _ (hb : p + 1 ≤ b) => show lo ≤ b by omega), fillt_stp c A n k m (Stp.trans h0 hs) hp⟩
set_option maxRecDepth 100000 in
set_option maxHeartbeats 2000000 in
theorem cut_m (g : Nat) (c : Int) (ls : List L) (m : Bool) (n : Nat) (hf : FewT ⟨c, ls, m⟩) (hn : ls.length = n) (p : Int) (hi0 : -9223372036854775808 ≤ p) (hi1 : p < 9223372036854775808)
    (c' : Int) (ls' : List L) (m' : Bool) (n' e0 : Nat) (hv : cutT ⟨c, ls, m⟩ p = (⟨c', ls', m'⟩, e0)) (hn' : ls'.length = n') (A : Option Addr) (k : Nat) (w : World) (hb : Blk w g 77 (mcs c A n k m p)) (ha : RdL w A k ls) :
    Calls Try.prog 58 #[.pointer (some ⟨g, 0, none⟩)] w fun e w' => ∃ A' k', e = .returned (tc c' A' n' k' m') ∧ InS (From w.heap.size) w' A' k' ls' ∧ Stp w w' := by
  obtain ⟨ei, he⟩ : ∃ ei : Int, (e0 : Int) = ei := ⟨_, rfl⟩
  have HF := Lib.hid hf
  have Hn := Lib.hid hn
  have Hn' := Lib.hid hn'
  have Hv := Lib.hid hv
  have He := Lib.hid he
  have hst := Stp.alloc (Stp.refl w) (.cells zcells 41)
  have BR := Lib.hid (Blk.new w 41 zcells)
  have B0 := Lib.hid (hb.alloc (.cells zcells 41))
  have Ra := Lib.hid (ha.keep hst)
  have Xs := Lib.hid hst
  have Xz := Lib.hid (show (w.alloc (.cells zcells 41)).heap.size = w.heap.size + 1 from World.size_alloc _ _)
  clear hf hn hn' hv he hb ha hst
  go_enter Try.func58, Try.ntmps58
  go_upto_region 1 with fail
  generalize w.alloc (.cells zcells 41) = w1 at BR B0 Ra Xs Xz ⊢
  obtain ⟨⟨q0, q1, q2, q3⟩, -, -, -, -⟩ := mm_all B0.out
  go_cut [3, 4] from 5 (fun s3 s4 wx => ∃ pb At kt, s3 = .pointer (some ⟨pb, 0, none⟩) ∧ s4 = .int .i64 ei ∧ Hid (Blk wx pb 41 (tcs c' At n' kt m')) ∧ Hid (InS (From (w.heap.size + 1)) wx At kt ls') ∧ Hid (Stp w1 wx))
  case first =>
    have Xa := Lib.hid (show Stp w1 w1.drew from Stp.drewN (Stp.refl w1) 1)
    have Xb := Lib.hid (show Stp w1 (w1.alloc (.cells (tcs 0 none 0 0 false) 41)).drew from Stp.drewN (Stp.alloc (Stp.refl w1) _) 1)
    have Nb := Lib.hid (Blk.drew (Blk.new w1 41 (tcs 0 none 0 0 false)))
    obtain ⟨⟨r0, r1, r2, r3⟩, -, -, -, -⟩ := mm_all (Blk.drew B0.out)
    obtain ⟨⟨q4, q5, q6, q7⟩, -, -, -, -⟩ := mm_all (B0.out.alloc (.cells (tcs 0 none 0 0 false) 41))
    have hsz1 : w1.drew.heap.size = w1.heap.size := rfl
    have hsz2 : (w1.alloc (.cells (tcs 0 none 0 0 false) 41)).drew.heap.size = w1.heap.size + 1 := World.size_alloc _ _
    have Z1 := Lib.hid hsz1
    have Z2 := Lib.hid hsz2
    clear hsz1 hsz2
    go_region_law (first
      | (go_simp; go_at_call 68; (with_reducible refine (cut_s c ls m n HF.out Hn.out p hi0 hi1 c' ls' m' n' e0 Hv.out Hn'.out ei He.out A k w1.drew (Ra.out.keep Xa.out)).mono ?_); rintro e w9 ⟨A9, k9, rfl, hr, hs, hc⟩; have X := Lib.hid (new_alloc (n := n') (c := c') (m := m') Xa.out hs hr hc (Nat.le_of_eq (Xz.out.symm.trans Z1.out.symm))); clear hr hs hc)
      | (go_simp; go_at_call 68; (with_reducible refine (cut_s c ls m n HF.out Hn.out p hi0 hi1 c' ls' m' n' e0 Hv.out Hn'.out ei He.out A k (w1.alloc (.cells (tcs 0 none 0 0 false) 41)).drew (Ra.out.keep Xb.out)).mono ?_); rintro e w9 ⟨A9, k9, rfl, hr, hs, hc⟩; have NB := Lib.hid (Nb.out.keep hs Nb.out.lt); have X := Lib.hid (new_fill (n := n') (c := c') (m := m') Xb.out hs NB.out (Nat.le_refl _) (by rw [Z2.out]; omega) hr hc (Nat.le_of_eq Xz.out.symm)); clear hr hs hc; obtain ⟨⟨n0, n1, n2⟩, m0, m1, m2⟩ := tt_all NB.out))
    all_goals
      go_wp2_with fail
      go_meet
      with_reducible exact ⟨_, A9, k9, rfl, rfl, Lib.hid X.out.1, Lib.hid X.out.2.1, Lib.hid X.out.2.2⟩
  case rest =>
    obtain ⟨pb, At, kt, rfl, rfl, HT1, HT2, HT3⟩ := hcut
    have hB := BR.out.keep HT3.out BR.out.lt
    obtain ⟨⟨t0, t1, t2⟩, -, -, -⟩ := tt_all HT1.out
    obtain ⟨⟨r0, r1, r2⟩, s0, s1, s2⟩ := tt_all (show Blk wc w.heap.size 41 (tcs 0 none 0 0 false) from hB)
    clear q0 q1 q2 q3
    go_wp2_with fail
    have hf := fillt_blk c' At n' kt m' (show Blk wc w.heap.size 41 (tcs 0 none 0 0 false) from hB)
    have hI := (HT2.out.abv (fillt_abv (Abv.refl wc) (g := w.heap.size) (by show ¬ w.heap.size + 1 ≤ w.heap.size; omega) c' At n' kt m')).less (S' := From w.heap.size) (fun b _ (hb : w.heap.size + 1 ≤ b) => show w.heap.size ≤ b by omega)
    have hst := fillt_stp c' At n' kt m' (Stp.trans Xs.out HT3.out) (g := w.heap.size) (Nat.le_refl _)
    change bodyPost _ _ _ _ _ (fillT wc w.heap.size c' At n' kt m')
    generalize fillT wc w.heap.size c' At n' kt m' = WW at hf hI hst ⊢
    clear t0 t1 t2 r0 r1 r2 s0 s1 s2
    obtain ⟨⟨q0, q1, q2⟩, -, -, -⟩ := tt_all hf
    refine bodyPost_ret (v := tc c' At n' kt m') (by simp [results, Try.results58, go_sem, *]) rfl ⟨At, kt, rfl, hI, hst⟩
end Go.Proofs.Ytaknnkcfoafkdaa.Drive
