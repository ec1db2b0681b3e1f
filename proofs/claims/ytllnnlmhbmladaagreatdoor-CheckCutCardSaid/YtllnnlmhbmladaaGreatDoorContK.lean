/-
  What the walks of package cont's laws ask of its code, and the chapter's example: no statement is proved here. Contracts of package cont's own functions: which nodes go on, what stands ahead, the header, lists put together, and May, Many, Put: no statement is proved here.
  Contracts of package cont's own functions: what stands as a long name, the file of a header, a file with so many bytes; and that what Get answers is what the document asks: no statement is proved here. Package cont: what Get keeps in memory, what it asks one behind the other, and the closure that asks: no statement is proved here. The contracts of package cont's calls: what the first blocks tell of a file that goes on (Get), and all four: no statement is proved here.
-/
import Derived.Test.YtllnnlmhbmladaaGreatDoorVolM
import Derived.Test.YtllnnlmhbmladaaGreatDoorLongTx
import Derived.Test.YtllnnlmhbmladaaGreatDoorHeadMay
import Derived.Test.YtllnnlmhbmladaaGreatDoorBlockRef
import Derived.Test.YtllnnlmhbmladaaGreatDoorLongK
import Derived.Test.YtllnnlmhbmladaaGreatDoorTreeS
import Derived.Deep.RegionWith
import Derived.StillTailTactics
import Derived.Deep.Cut
import Derived.Test.YtllnnlmhbmladaaGreatDoorEntrySl
import Derived.Test.YtllnnlmhbmladaaGreatDoorHeadHlp
import Derived.Test.YtllnnlmhbmladaaGreatDoorShelf
namespace Go.Proofs.YtllnnlmhbmladaaGreatDoor.Cont
open Go.RowKit Go.Proofs.YtllnnlmhbmladaaGreatDoor.Str Go.Proofs.YtllnnlmhbmladaaGreatDoor.Base Go.Proofs.YtllnnlmhbmladaaGreatDoor.Node Go.Proofs.YtllnnlmhbmladaaGreatDoor.Head Go.Proofs.YtllnnlmhbmladaaGreatDoor.Long Go.Proofs.YtllnnlmhbmladaaGreatDoor.ContM
open Go.Proofs.YtllnnlmhbmladaaGreatDoor.Tree (oneB)
set_option linter.unusedVariables false
abbrev L := List UInt8

def exC (t : L) : Nd := ⟨[97], [], 48, 0, 0, 0, 0, t⟩
end Go.Proofs.YtllnnlmhbmladaaGreatDoor.Cont

namespace Go.Proofs.YtllnnlmhbmladaaGreatDoor.Cont
open Go.RowKit Go.Proofs.YtllnnlmhbmladaaGreatDoor.Str Go.Proofs.YtllnnlmhbmladaaGreatDoor.Base Go.Proofs.YtllnnlmhbmladaaGreatDoor.Node Go.Proofs.YtllnnlmhbmladaaGreatDoor.Head Go.Proofs.YtllnnlmhbmladaaGreatDoor.Long Go.Proofs.YtllnnlmhbmladaaGreatDoor.ContM
open Go.Proofs.YtllnnlmhbmladaaGreatDoor.Tree (oneB)
set_option linter.unusedVariables false

theorem kkind (n : Nd) : ((n.kind.toNat : Int) == 48) = decide (n.kind = 48) := ty_eq n.kind 48 (by omega)
set_option maxRecDepth 100000 in
set_option maxHeartbeats 4000000 in
theorem isfile_s (n : Nd) (v : Value) (hv : v = nv n) (hn : SmallN n) (b : Bool) (hb : isFile n = b) (w : World) :
    Calls Tryz.prog 106 #[v] w fun e w' => e = .returned (.bool b) ∧ Stp w w' := by
  subst hv
  have h0 := Stp.alloc (Stp.refl w) (.cells (ncells n) 23)
  have Hn := Lib.hid hn
  obtain ⟨q0, q1, q2, q3, q4, q5, q6, q7⟩ := nd_cells (Blk.new w 23 (ncells n))
  obtain ⟨b1, k1⟩ : ∃ b, oneB n = b := ⟨_, rfl⟩
  obtain ⟨b2, k2⟩ : ∃ b, ((n.kind.toNat : Int) == 48) = b := ⟨_, rfl⟩
  have hb2 : (b1 && b2) = b := by rw [← hb, isFile, ← kkind, k1, k2]
  have K1 := Lib.hid k1
  have Hb2 := Lib.hid hb2
  clear hn k1 hb hb2
  cases b2
  · go_enter Tryz.func106, Tryz.ntmps106
    go_wp2_with fail
    go_ret
    exact ⟨by rw [← Hb2.out]; simp, h0⟩
  · go_enter Tryz.func106, Tryz.ntmps106
    go_wp2_with (go_at_call 77; (with_reducible refine (Tree.tone_s n Hn.out _).mono ?_); rintro e w1 ⟨rfl, hs⟩; rw [K1.out]; replace h0 := Stp.trans h0 hs; clear hs q0 q1 q2 q3 q4 q5 q6 q7)
    go_ret
    exact ⟨by rw [← Hb2.out]; simp, h0⟩

theorem nil_rd (w : World) : ∃ A c, (Value.slice none 0 0) = .slice A 0 c ∧ RdL w A c [] := by
  obtain ⟨A, c, h, hL⟩ := (Base.Rows.nil w w.heap.size 46).rdL
  exact ⟨A, c, h, hL⟩
set_option maxRecDepth 100000 in
set_option maxHeartbeats 4000000 in
theorem cahead_s (p : L) (hp : textL p = true) (ls : List L) (hls : aheadC p = ls) (z : Nat) (hz : ls.length = z) (w : World) :
    Calls Tryz.prog 75 #[.string ⟨p.toArray⟩] w fun e w' => ∃ A c, e = .returned (.slice A z c) ∧ RdL w' A c ls ∧ Stp w w' := by
  have h0 := Stp.refl w
  have hl := (textL_iff.1 hp).2.1
  by_cases h : 100 < p.length
  · have hok : putOkL 76 p = true := putOkL_iff.2 ⟨.inr rfl, hp⟩
    have e : putLs 76 p = ls := by rw [← hls, aheadC, if_pos h, putLs_yes hok]
    have k1 : decide ((p.length : Int) ≤ 100) = false := decide_eq_false (by omega)
    have HE := Lib.hid e
    have HZ := Lib.hid hz
    have Hl := Lib.hid (show p.length ≤ 900000 by omega)
    clear hls hok e hz hp hl h
    go_enter Tryz.func75, Tryz.ntmps75
    go_wp2_with (go_at_call 107; (with_reducible refine (lput_v 76 76 rfl p _ Hl.out).mono ?_); rintro e w1 ⟨A, c, rfl, hr, hs⟩; rw [HE.out] at hr; rw [HE.out, HZ.out]; have HR := Lib.hid hr; replace h0 := Stp.trans h0 hs; clear hs hr)
    go_ret
    exact ⟨A, c, rfl, HR.out, h0⟩
  · have e : [] = ls := by rw [← hls, aheadC, if_neg h]
    subst e
    subst hz
    have k1 : decide ((p.length : Int) ≤ 100) = true := decide_eq_true (by omega)
    clear hls hp hl h
    go_enter Tryz.func75, Tryz.ntmps75
    go_wp2_with fail
    go_ret
    obtain ⟨A, c, h, hL⟩ := nil_rd w
    exact ⟨A, c, congrArg _ h, hL, h0⟩
theorem cut_min (p : L) (m : Int) (hm : m = min (p.length : Int) 100) (w : World) : (Instr.slice 9 (.string ⟨p.toArray⟩) none (some (.int .i64 m)) none).run Tryz.prog w = .ok (.string ⟨(p.take 100).toArray⟩) w := by
  have e : m = ((min p.length 100 : Nat) : Int) := by omega
  have h := cut_h p (min p.length 100) (by omega) w
  have h2 : p.take (min p.length 100) = p.take 100 := by
    by_cases h : p.length ≤ 100
    · rw [Nat.min_eq_left h, List.take_length, List.take_of_length_le h]
    · rw [Nat.min_eq_right (by omega)]
  rw [h2] at h
  rw [e]
  exact h
theorem min_run (p : L) (a : Array TypeId) (t : TypeId) (w : World) : (Builtin.min_ a t #[.int .i64 (p.length : Int), .int .i64 100]).run Tryz.prog w = .ok (.int .i64 (min (p.length : Int) 100)) w := by
  unfold Builtin.min_
  have e : (if (100 : Int) < (p.length : Int) then (100 : Int) else (p.length : Int)) = min (p.length : Int) 100 := by split <;> omega
  rw [← e]
  rfl
set_option maxRecDepth 100000 in
set_option maxHeartbeats 1000000 in
theorem chead_s (n : Nd) (v : Value) (hv : v = nv n) (hn : SmallN n) (off : Int) (hm : mayC n off = true) (H : Hd) (hH : headC n off = H) (w : World) :
    Calls Tryz.prog 73 #[v, .int .i64 off] w fun e w' => e = .returned (Head.hv H) ∧ Stp w w' := by
  subst hv
  have h1 := Stp.alloc (Stp.refl w) (.cells (ncells n) 23)
  have h0 := Stp.alloc h1 (.cells (hcells zeroH) 77)
  have hw1 := h1.size
  have Hb := Lib.hid ((Blk.new w 23 (ncells n)).alloc (.cells (hcells zeroH) 77))
  obtain ⟨gz, hgz⟩ : ∃ x, (w.alloc (.cells (ncells n) 23)).heap.size = x := ⟨_, rfl⟩
  have Hz0 := Blk.new (w.alloc (.cells (ncells n) 23)) 77 (hcells zeroH)
  have hgl : w.heap.size < gz := by rw [← hgz, World.size_alloc]; omega
  rw [hgz] at Hz0 hw1
  have Hz := Lib.hid Hz0
  obtain ⟨W, hW⟩ : ∃ W, (w.alloc (.cells (ncells n) 23)).alloc (.cells (hcells zeroH) 77) = W := ⟨_, rfl⟩
  obtain ⟨hf, g1, g2, -⟩ := mayC_iff.1 hm
  have g3 := (Entry.oneF (isFile_iff.1 hf).1).data
  have g4 : (n.data.length : Int) ≤ 4000 := by omega
  have c1 := fun m hm w => cut_min n.path m hm w
  have HH := Lib.hid hH
  clear hn Hz0 h1 hH hm hf g3
  go_enter Tryz.func73, Tryz.ntmps73
  go_upto_region 1 with fail
  change Code.wp _ _ _ _ ((w.alloc (.cells (ncells n) 23)).alloc (.cells (hcells zeroH) 77))
  rw [hW] at h0 Hb Hz ⊢
  obtain ⟨q0, q1, q2, q3, q4, q5, q6, q7⟩ := nd_cells Hb.out
  obtain ⟨⟨z0, z1, z2, z3, z4, z5, z6, z7, z8, z9, z10⟩, y0, y1, y2, y3, y4, y5, y6, y7, y8, y9, y10⟩ := zy Hz.out
  have c2 := min_run n.path
  have c3 := fun w => cut_min n.path _ rfl w
  obtain ⟨mn, hmn⟩ : ∃ m, min (n.path.length : Int) 100 = m := ⟨_, rfl⟩
  rw [hmn] at c2 c3
  clear hmn c1
  clear hW
  go_still_tail 25, (by kernel_rfl)
  change wpList _ _ _ _ _ W.drew
  have hst : Stp W W.drew := Stp.drewN (Stp.refl _) 1
  replace h0 := Stp.trans h0 hst
  replace Hb := Lib.hid (Hb.out.keep hst Hb.out.lt)
  replace Hz := Lib.hid (Hz.out.keep hst Hz.out.lt)
  generalize W.drew = W2 at h0 Hb Hz
  clear hst q0 q1 q2 q3 q4 q5 q6 q7 z0 z1 z2 z3 z4 z5 z6 z7 z8 z9 z10 y0 y1 y2 y3 y4 y5 y6 y7 y8 y9 y10
  obtain ⟨q0, q1, q2, q3, q4, q5, q6, q7⟩ := nd_cells Hb.out
  obtain ⟨⟨z0, z1, z2, z3, z4, z5, z6, z7, z8, z9, z10⟩, y0, y1, y2, y3, y4, y5, y6, y7, y8, y9, y10⟩ := zy Hz.out
  go_wp2_with fail
  have hH2 := HH.out
  have hf := fill_blk H Hz.out
  have hst := fill_stp H h0 hw1
  subst hH2
  change bodyPost _ _ _ _ _ (fillW W2 gz (headC n off))
  generalize fillW W2 gz (headC n off) = W at hf hst ⊢
  clear z0 z1 z2 z3 z4 z5 z6 z7 z8 z9 z10 y0 y1 y2 y3 y4 y5 y6 y7 y8 y9 y10
  obtain ⟨z0, z1, z2, z3, z4, z5, z6, z7, z8, z9, z10⟩ := hd_cells hf
  refine bodyPost_ret (v := hv (headC n off)) (by simp [results, Tryz.results73, go_sem, *]) rfl ⟨rfl, hst⟩

/-- A row of lists of blocks. -/
structure KdLL (w : World) (g n cap : Nat) (lss : List (List L)) : Prop where
  len : lss.length = n
  le : n ≤ cap
  lt : g < w.heap.size
  at_ : ∀ (j : Nat) (ls : List L), lss[j]? = some ls → ∃ A c, w.cell? ⟨g, j, none⟩ = some (.slice A ls.length c) ∧ RdL w A c ls
theorem KdLL.keep {w w' : World} {g n cap : Nat} {lss : List (List L)} (h : KdLL w g n cap lss) (hs : Stp w w') : KdLL w' g n cap lss :=
  ⟨h.len, h.le, Nat.lt_of_lt_of_le h.lt hs.size, fun j ls hj => by
    obtain ⟨A, c, h1, h2⟩ := h.at_ j ls hj
    exact ⟨A, c, (hs.cell (p := ⟨g, j, none⟩) h.lt).trans h1, h2.keep hs⟩⟩
theorem KdLL.two {w : World} {g : Nat} {t : TypeId} {A B : Option Addr} {a b x y : Nat} {p q : List L} (h : Blk w g t #[.slice A x a, .slice B y b])
    (hp : RdL w A a p) (hx : p.length = x) (hq : RdL w B b q) (hy : q.length = y) : KdLL w g 2 2 [p, q] := by
  subst hx hy
  refine ⟨rfl, Nat.le_refl _, h.lt, fun j ls hj => ?_⟩
  match j, hj with
  | 0, hj =>
    simp only [List.getElem?_cons_zero, Option.some.injEq] at hj
    subst hj
    exact ⟨A, a, by rw [h.cell]; rfl, hp⟩
  | 1, hj =>
    simp only [List.getElem?_cons_succ, List.getElem?_cons_zero, Option.some.injEq] at hj
    subst hj
    exact ⟨B, b, by rw [h.cell]; rfl, hq⟩
  | j + 2, hj => simp at hj
theorem kflat_step {lss : List (List L)} {k : Nat} {x : List L} (h : lss[k]? = some x) : (lss.take (k + 1)).flatten = (lss.take k).flatten ++ x := by
  rw [List.take_add_one, h]
  simp
theorem kflat_take (lss : List (List L)) (k : Nat) : ((lss.take k).flatten).length ≤ lss.flatten.length := by
  conv => rhs; rw [← List.take_append_drop k lss, List.flatten_append, List.length_append]
  omega
theorem kflat_room {lss : List (List L)} {k : Nat} {x : List L} {N : Nat} (h : lss[k]? = some x) (hN : lss.flatten.length ≤ N) : (lss.take k).flatten.length + x.length ≤ N := by
  have := kflat_take lss (k + 1)
  rw [kflat_step h, List.length_append] at this
  omega
set_option maxRecDepth 100000 in
set_option maxHeartbeats 2000000 in
theorem cjoin_s (lss : List (List L)) (g n cap : Nat) (w : World) (hv : KdLL w g n cap lss) (hl : lss.flatten.length ≤ 1000000000) (hn : n < 1000000) :
    Calls Tryz.prog 74 #[.slice (some ⟨g, 0, none⟩) n cap] w fun e w' => ∃ v, e = .returned v ∧ Base.Rows w' w.heap.size 46 v lss.flatten ∧ Stp w w' := by
  obtain ⟨r, hr⟩ : ∃ r, lss.flatten = r := ⟨_, rfl⟩
  have Hr := Lib.hid hr
  have hlen := hv.len
  have Hv := Lib.hid hv
  have Hl := Lib.hid hl
  rw [hr]
  clear hr hv hl
  go_enter Tryz.func74, Tryz.ntmps74
  go_wp2_with fail
  go_loopw [3, 8] (fun v i wr => ∃ k : Nat, k ≤ n ∧ i = .int .i64 (k : Int) ∧ Hid (Base.Rows wr w.heap.size 46 v (lss.take k).flatten) ∧ Hid (Stp w wr)) (fun _ i _ => n - (intOf i).toNat)
  case atStart => exact ⟨0, by omega, rfl, Lib.hid (Base.Rows.nil _ _ _), Lib.hid (Stp.refl w)⟩
  case round =>
    obtain ⟨k, hk, rfl, HR, H1⟩ := hrel
    by_cases hlt : k < n
    · obtain ⟨x, hx⟩ : ∃ x, lss[k]? = some x := ⟨_, List.getElem?_eq_getElem (by omega)⟩
      obtain ⟨A, c, hc, hL⟩ := (Hv.out.keep H1.out).at_ k x hx
      have HL := Lib.hid hL
      have Hx := Lib.hid hx
      clear hL hx
      go_wp2_with (at_builtin; refine Base.wpList_append_rows (P := Tryz.prog) rfl (.tmp 12) (.tmp 13) 36 rfl 46 Tryz.underlying36 slices_info _ rfl HR.out rfl HL.out rfl (kflat_room Hx.out Hl.out) H1.out.size ?_; intro v' w4 hR4 hg4; have H4 := Lib.hid (HR.out.stp H1.out (Nat.le_refl _) hg4); rw [← kflat_step Hx.out] at hR4; have HR4 := Lib.hid hR4; clear hR4 hg4)
      go_roundw
      case rel => exact ⟨k + 1, by omega, by go_num, HR4, H4⟩
      case measure => simp [intOf]; omega
    · obtain rfl : k = n := by omega
      have hR := HR.out
      rw [List.take_of_length_le (by omega), Hr.out] at hR
      have HR9 := Lib.hid hR
      clear hR
      go_wp2_with fail
      go_ret
      exact ⟨_, rfl, HR9.out, H1.out⟩
theorem klit_rd {w : World} {A : Option Addr} {n cap : Nat} {l : L} {e : TypeId} (h : RdA w A cap (bs l)) (hn : l.length = n) : RdL (w.alloc (.cells #[.slice A n cap] e)) (some ⟨w.heap.size, 0, none⟩) 1 [l] := by
  obtain ⟨A', c', he, hL⟩ := (Rows.one (e := e) h hn).rdL
  cases he
  exact hL
theorem cjoin_two {p q r : List L} {A B : Option Addr} {a b x y z : Nat} {t : TypeId} (w : World) {g : Nat} (hg : w.heap.size = g) (hp : RdL w A a p) (hx : p.length = x) (hq : RdL w B b q) (hy : q.length = y) (hr : p ++ q = r) (hz : r.length = z) (hl : z ≤ 1000000000) :
    Calls Tryz.prog 74 #[.slice (some ⟨g, 0, none⟩) 2 2] (w.alloc (.cells #[.slice A x a, .slice B y b] t)) fun e w' => ∃ A' c', e = .returned (.slice A' z c') ∧ RdL w' A' c' r ∧ Stp w w' := by
  subst hg
  have hs := Stp.alloc (Stp.refl w) (.cells #[.slice A x a, .slice B y b] t)
  have hfl : [p, q].flatten = r := by simp [← hr]
  refine (cjoin_s [p, q] _ 2 2 _ (KdLL.two (Blk.new w t #[.slice A x a, .slice B y b]) (hp.keep hs) hx (hq.keep hs) hy) (by rw [hfl, hz]; exact hl) (by omega)).mono ?_
  rintro e w' ⟨v, rfl, h, hs2⟩
  rw [hfl] at h
  obtain ⟨A', c', rfl, hL⟩ := h.rdL
  exact ⟨A', c', by rw [hz], hL, Stp.trans hs hs2⟩

set_option maxRecDepth 100000 in
set_option maxHeartbeats 4000000 in
theorem cmay_s (n : Nd) (v : Value) (hv : v = nv n) (hn : SmallN n) (off : Int) (b : Bool) (hb : mayC n off = b) (w : World) :
    Calls Tryz.prog 72 #[v, .int .i64 off] w fun e w' => e = .returned (.bool b) ∧ Stp w w' := by
  subst hv
  have h0 := Stp.alloc (Stp.refl w) (.cells (ncells n) 23)
  have Hn := Lib.hid hn
  have Hb := Lib.hid (Blk.new w 23 (ncells n))
  obtain ⟨q0, q1, q2, q3, q4, q5, q6, q7⟩ := nd_cells Hb.out
  obtain ⟨b1, k1⟩ : ∃ b, isFile n = b := ⟨_, rfl⟩
  obtain ⟨b3, k3⟩ : ∃ b, decide (0 ≤ off) = b := ⟨_, rfl⟩
  obtain ⟨b4, k4⟩ : ∃ b, decide (off < (n.data.length : Int)) = b := ⟨_, rfl⟩
  have hb2 := hb
  rw [mayC, k1, k3, k4] at hb2
  have K1 := Lib.hid k1
  by_cases hall : b1 = true ∧ b3 = true ∧ b4 = true
  · obtain ⟨rfl, rfl, rfl⟩ := hall
    have g1 : 0 ≤ off := by simpa using k3
    have g2 : off ≤ 9223372036854775807 := by
      have h4 : off < (n.data.length : Int) := by simpa using k4
      have := hn.data
      omega
    have hb3 : decide (off % 512 = 0) = b := by simpa using hb2
    obtain ⟨r, hr⟩ : ∃ r, off % 512 = r := ⟨_, rfl⟩
    rw [hr] at hb3
    have k5 : (r == 0) = b := by rw [← hb3, Bool.eq_iff_iff, beq_iff_eq, decide_eq_true_eq]
    clear hn k1 hb hb2 hb3
    go_enter Tryz.func72, Tryz.ntmps72
    go_wp2_with (go_at_call 106; (with_reducible refine (isfile_s n _ rfl Hn.out _ K1.out _).mono ?_); rintro e w1 ⟨rfl, hs⟩; replace Hb := Lib.hid (Hb.out.keep hs Hb.out.lt); replace h0 := Stp.trans h0 hs; clear hs q0 q1 q2 q3 q4 q5 q6 q7; obtain ⟨q0, q1, q2, q3, q4, q5, q6, q7⟩ := nd_cells Hb.out)
    go_ret
    exact ⟨rfl, h0⟩
  · have hbf : b = false := by
      rw [← hb2]
      cases b1 <;> cases b3 <;> cases b4 <;> simp_all
    subst hbf
    clear hn k1 hb hb2
    cases b1
    · clear k3 k4 hall
      go_enter Tryz.func72, Tryz.ntmps72
      go_wp2_with (go_at_call 106; (with_reducible refine (isfile_s n _ rfl Hn.out _ K1.out _).mono ?_); rintro e w1 ⟨rfl, hs⟩; replace Hb := Lib.hid (Hb.out.keep hs Hb.out.lt); replace h0 := Stp.trans h0 hs; clear hs q0 q1 q2 q3 q4 q5 q6 q7; obtain ⟨q0, q1, q2, q3, q4, q5, q6, q7⟩ := nd_cells Hb.out)
      go_ret
      exact ⟨rfl, h0⟩
    · cases b3
      · clear k4 hall
        go_enter Tryz.func72, Tryz.ntmps72
        go_wp2_with (go_at_call 106; (with_reducible refine (isfile_s n _ rfl Hn.out _ K1.out _).mono ?_); rintro e w1 ⟨rfl, hs⟩; replace Hb := Lib.hid (Hb.out.keep hs Hb.out.lt); replace h0 := Stp.trans h0 hs; clear hs q0 q1 q2 q3 q4 q5 q6 q7; obtain ⟨q0, q1, q2, q3, q4, q5, q6, q7⟩ := nd_cells Hb.out)
        go_ret
        exact ⟨rfl, h0⟩
      · obtain rfl : b4 = false := by simpa using hall
        clear hall
        go_enter Tryz.func72, Tryz.ntmps72
        go_wp2_with (go_at_call 106; (with_reducible refine (isfile_s n _ rfl Hn.out _ K1.out _).mono ?_); rintro e w1 ⟨rfl, hs⟩; replace Hb := Lib.hid (Hb.out.keep hs Hb.out.lt); replace h0 := Stp.trans h0 hs; clear hs q0 q1 q2 q3 q4 q5 q6 q7; obtain ⟨q0, q1, q2, q3, q4, q5, q6, q7⟩ := nd_cells Hb.out)
        go_ret
        exact ⟨rfl, h0⟩
set_option maxRecDepth 100000 in
set_option maxHeartbeats 4000000 in
theorem cput_s (n : Nd) (v : Value) (hv : v = nv n) (hn : SmallN n) (off : Int) (ls : List L) (hls : putC n off = ls) (z : Nat) (hz : ls.length = z) (b : Bool) (hb : mayC n off = b) (w : World) :
    Calls Tryz.prog 46 #[v, .int .i64 off] w fun e w' => ∃ A c, e = .returned (.tuple #[.slice A z c, .bool b]) ∧ RdL w' A c ls ∧ Stp w w' := by
  subst hv
  have h0 := Stp.alloc (Stp.refl w) (.cells (ncells n) 23)
  have Hn := Lib.hid hn
  have Hb := Lib.hid (Blk.new w 23 (ncells n))
  obtain ⟨q0, q1, q2, q3, q4, q5, q6, q7⟩ := nd_cells Hb.out
  cases b
  · rw [putC_no hb] at hls
    subst hls
    subst hz
    have Hm := Lib.hid hb
    clear hn hb
    go_enter Tryz.func46, Tryz.ntmps46
    go_wp2_with (go_at_call 72; (with_reducible refine (cmay_s n _ rfl Hn.out off false Hm.out _).mono ?_); rintro e w1 ⟨rfl, hs⟩; replace h0 := Stp.trans h0 hs; clear hs q0 q1 q2 q3 q4 q5 q6 q7)
    go_ret2
    exact ⟨none, 0, rfl, RdL.nil _, h0⟩
  · rw [putC_yes hb] at hls
    obtain ⟨a1, a2⟩ := headC_may hb
    obtain ⟨H, hH⟩ : ∃ H, headC n off = H := ⟨_, rfl⟩
    rw [hH] at a1 a2 hls
    obtain ⟨B, hB⟩ : ∃ x, blk H = x := ⟨_, rfl⟩
    have hBl : B.length = 512 := by rw [← hB]; exact blk_length a1 a2
    rw [hB] at hls
    have hPB : putB H = B := by rw [← hB]; exact if_pos a1
    obtain ⟨AA, hA⟩ : ∃ x, aheadC n.path = x := ⟨_, rfl⟩
    obtain ⟨za, hza⟩ : ∃ x, AA.length = x := ⟨_, rfl⟩
    rw [hA] at hls
    have hzz : z ≤ 1000000000 := by
      have h1 := aheadC_length n.path
      rw [hA] at h1
      rw [← hz, ← hls, List.length_append, h1]
      split <;> (simp only [List.length_cons, List.length_nil]; omega)
    have hf := (mayC_iff.1 hb).1
    have Hf := Lib.hid (path_text hf)
    have HH := Lib.hid hH
    have HPB := Lib.hid hPB
    have HBl := Lib.hid hBl
    have Ha1 := Lib.hid a1
    have Ha2 := Lib.hid a2
    have HA := Lib.hid hA
    have Hza := Lib.hid hza
    have Hls := Lib.hid hls
    have Hz := Lib.hid hz
    have Hzz := Lib.hid hzz
    have Hm := Lib.hid hb
    have Hone := Lib.hid (show [B].length = 1 from rfl)
    clear hn hb hls a1 a2 hH hB hBl hPB hA hza hzz hf hz
    go_enter Tryz.func46, Tryz.ntmps46
    go_wp2_with (first
      | (go_at_call 72; (with_reducible refine (cmay_s n _ rfl Hn.out off true Hm.out _).mono ?_); rintro e w1 ⟨rfl, hs⟩; replace Hb := Lib.hid (Hb.out.keep hs Hb.out.lt); replace h0 := Stp.trans h0 hs; clear hs q0 q1 q2 q3 q4 q5 q6 q7; obtain ⟨q0, q1, q2, q3, q4, q5, q6, q7⟩ := nd_cells Hb.out)
      | (go_at_call 73; (with_reducible refine (chead_s n _ rfl Hn.out off Hm.out H HH.out _).mono ?_); rintro e w2 ⟨rfl, hs⟩; replace Hb := Lib.hid (Hb.out.keep hs Hb.out.lt); replace h0 := Stp.trans h0 hs; clear hs q0 q1 q2 q3 q4 q5 q6 q7; obtain ⟨q0, q1, q2, q3, q4, q5, q6, q7⟩ := nd_cells Hb.out)
      | (go_at_call 57; (with_reducible refine (put_v H _ rfl Ha2.out _).mono ?_); rintro e w3 ⟨A3, c3, rfl, hr, hs⟩; rw [HPB.out] at hr; rw [HPB.out, HBl.out, Ha1.out]; have Hr := Lib.hid hr; replace Hb := Lib.hid (Hb.out.keep hs Hb.out.lt); replace h0 := Stp.trans h0 hs; clear hs q0 q1 q2 q3 q4 q5 q6 q7 hr; obtain ⟨q0, q1, q2, q3, q4, q5, q6, q7⟩ := nd_cells Hb.out)
      | (go_at_call 75; (with_reducible refine (cahead_s n.path Hf.out AA HA.out za Hza.out _).mono ?_); rintro e w4 ⟨A4, c4, rfl, hr, hs⟩; have H4 := Lib.hid (hr.keep (Stp.alloc (Stp.refl _) (.cells #[.slice A3 512 c3] 46))); have Hl4 := Lib.hid (klit_rd (e := 46) (Hr.out.keep hs) HBl.out); replace h0 := Stp.alloc (Stp.trans h0 hs) (.cells #[.slice A3 512 c3] 46); clear hs q0 q1 q2 q3 q4 q5 q6 q7 hr Hb)
      | (go_at_call 74; (with_reducible refine (cjoin_two (w4.alloc (.cells #[.slice A3 512 c3] 46)) (World.size_alloc _ _) H4.out Hza.out Hl4.out Hone.out Hls.out Hz.out Hzz.out).mono ?_); rintro e w5 ⟨A5, c5, rfl, hr, hs⟩; replace h0 := Stp.trans h0 hs; have HR5 := Lib.hid hr; clear hs hr))
    go_ret2
    exact ⟨A5, c5, rfl, HR5.out, h0⟩
end Go.Proofs.YtllnnlmhbmladaaGreatDoor.Cont

namespace Go.Proofs.YtllnnlmhbmladaaGreatDoor.Cont
open Go.RowKit Go.Proofs.YtllnnlmhbmladaaGreatDoor.Str Go.Proofs.YtllnnlmhbmladaaGreatDoor.Base Go.Proofs.YtllnnlmhbmladaaGreatDoor.Node Go.Proofs.YtllnnlmhbmladaaGreatDoor.Head Go.Proofs.YtllnnlmhbmladaaGreatDoor.Long Go.Proofs.YtllnnlmhbmladaaGreatDoor.ContM
open Go.Proofs.YtllnnlmhbmladaaGreatDoor.Tree (oneB)
set_option linter.unusedVariables false

/-- What stands ahead as a long name, and in how many blocks. -/
def longV (ls : List L) : L × Nat := if 2 ≤ ls.length ∧ (getH (ls.getD 0 [])).ty = 76 then (upto (ls.getD 1 []), 2) else ([], 0)
/-- The file that the block at a place tells of. -/
def fileV (x p : L) : Nd := withN (nodeC (getH x) (nameC (getH x) p)) (getH x).real.toNat
theorem cget_yes {ls : List L} {x p : L} {k : Nat} (hx : ls[k]? = some x) (hs : putC (fileV x p) (getH x).off = ls.take (k + 1)) (hr : 0 ≤ (getH x).real) :
    getC ls = (nodeC (getH x) (nameC (getH x) p), (getH x).off, (getH x).real, ((k + 1 : Nat) : Int), true) := by
  have hk : k < ls.length := (List.getElem?_eq_some_iff.1 hx).1
  have hl : (putC (fileV x p) (getH x).off).length = k + 1 := by rw [hs, List.length_take]; omega
  have hm : mayC (fileV x p) (getH x).off = true := by
    cases h : mayC (fileV x p) (getH x).off
    · rw [putC_no h] at hl
      simp at hl
    · rfl
  have h := get_of (l := ls) hm (by rw [hl]; exact hs.symm)
  rw [h, hl]
  have e1 : bare (fileV x p) = nodeC (getH x) (nameC (getH x) p) := rfl
  have e2 : ((fileV x p).data.length : Int) = (getH x).real := by
    show ((List.replicate (getH x).real.toNat (0 : UInt8)).length : Int) = _
    rw [List.length_replicate]
    omega
  rw [e1, e2]
theorem file_of {n : Nd} {off : Int} (h : mayC n off = true) (hd : n.data = List.replicate n.data.length 0) {p : L} (hp : nameC (headC n off) p = n.path) : fileV (blk (headC n off)) p = n := by
  obtain ⟨h1, h2⟩ := getH_put h
  have f := Entry.oneF (isFile_iff.1 (mayC_iff.1 h).1).1
  rw [fileV, h2, hp, bare_is h]
  have e1 : (headC n off).real.toNat = n.data.length := by show ((n.data.length : Int)).toNat = _; omega
  rw [e1, withN, ← hd]
  rfl
theorem cget_no {ls : List L} (h : ∀ x, ls[(longV ls).2]? = some x → (getH x).ty = 77 → (getH x).real ≤ 4000 → putC (fileV x (longV ls).1) (getH x).off ≠ ls.take ((longV ls).2 + 1)) : getC ls = none5 := by
  rcases get_yes ls with e | ⟨n, off, hm, hd, hl, ht, -⟩
  · exact e
  · exfalso
    have hf := (mayC_iff.1 hm).1
    have hx := textL_iff.1 (path_text hf)
    have h4 := (Entry.oneF (isFile_iff.1 hf).1).data
    obtain ⟨h1, h2⟩ := getH_put hm
    by_cases hl3 : 100 < n.path.length
    · have e : putC n off = [blk (llH 76 n.path), BlockM.blk (n.path ++ [0]), blk (headC n off)] := by rw [putC_yes hm, aheadC, if_pos hl3]; rfl
      have e3 : (putC n off).length = 3 := by rw [e]; rfl
      rw [e3] at hl ht
      obtain ⟨a, b, c, r, rfl⟩ : ∃ a b c r, ls = a :: b :: c :: r := by
        match ls, hl with
        | a :: b :: c :: r, _ => exact ⟨a, b, c, r, rfl⟩
      have hh : a = blk (llH 76 n.path) ∧ b = BlockM.blk (n.path ++ [0]) ∧ c = blk (headC n off) := by
        rw [e] at ht
        have h1 : [a, b, c] = [blk (llH 76 n.path), BlockM.blk (n.path ++ [0]), blk (headC n off)] := ht
        rw [List.cons.injEq, List.cons.injEq, List.cons.injEq] at h1
        exact ⟨h1.1, h1.2.1, h1.2.2.1⟩
      obtain ⟨e11, e12, e13⟩ := hh
      obtain ⟨k1, k2, k3⟩ := Entry.llH_ok (ahead_ok hf)
      have el : longV (a :: b :: c :: r) = (n.path, 2) := by
        rw [longV, if_pos]
        · show (upto b, 2) = _
          rw [e12, upto_text hx.2.2 hx.2.1]
        · refine ⟨by simp, ?_⟩
          show (getH a).ty = 76
          rw [e11, get_blk k1 k2, k3]
      rw [el] at h
      have hp : nameC (headC n off) n.path = n.path := by rw [nameC, if_neg (by rintro e; rw [e] at hl3; simp at hl3)]
      refine h c rfl ?_ ?_ ?_
      · rw [e13, h2]; rfl
      · rw [e13, h2]; show (n.data.length : Int) ≤ 4000; omega
      · show putC (fileV c n.path) (getH c).off = _
        rw [e13, file_of hm hd hp, h2]
        show putC n off = _
        rw [← e13]
        exact ht.symm
    · have e : putC n off = [blk (headC n off)] := by rw [putC_yes hm, aheadC, if_neg hl3]; rfl
      have e1 : (putC n off).length = 1 := by rw [e]; rfl
      rw [e1] at hl ht
      obtain ⟨a, r, rfl⟩ : ∃ a r, ls = a :: r := by
        match ls, hl with
        | a :: r, _ => exact ⟨a, r, rfl⟩
      have hh : a = blk (headC n off) := by
        rw [e] at ht
        have h1 : [a] = [blk (headC n off)] := ht
        rw [List.cons.injEq] at h1
        exact h1.1
      have el : longV (a :: r) = ([], 0) := by
        rw [longV, if_neg]
        rintro ⟨-, h7⟩
        have h8 : (getH a).ty = 76 := h7
        rw [hh, h2] at h8
        have h9 : (77 : UInt8) = 76 := h8
        exact absurd h9 (by decide)
      rw [el] at h
      have hp : nameC (headC n off) [] = n.path := by rw [nameC, if_pos rfl]; exact List.take_of_length_le (by omega)
      refine h a rfl ?_ ?_ ?_
      · rw [hh, h2]; rfl
      · rw [hh, h2]; show (n.data.length : Int) ≤ 4000; omega
      · show putC (fileV a []) (getH a).off = _
        rw [hh, file_of hm hd hp, h2]
        show putC n off = _
        rw [← hh]
        exact ht.symm

theorem repeat_noughts (R : Nat) (hR : R ≤ 4000) (t : L) (ht : List.replicate R 0 = t) (w : World) :
    Calls Tryz.prog 111 #[.string ⟨#[0]⟩, .int .i64 (R : Int)] w fun e w' => e = .returned (.string ⟨t.toArray⟩) ∧ Stp w w' := by
  refine (Tryz.strings_Repeat ⟨#[0]⟩ R w (by omega) (by show 1 * R ≤ _; omega)).mono ?_
  rintro e w' ⟨rfl, hs⟩
  refine ⟨?_, hs⟩
  have := Lib.repeatL_replicate 0 1 R
  rw [Nat.mul_one] at this
  rw [← ht]
  show Ending.returned (.string ⟨(Lib.repeatL [0] R).toArray⟩) = _
  rw [← this]
  rfl
set_option maxRecDepth 100000 in
set_option maxHeartbeats 2000000 in
theorem filled_s (n : Nd) (v : Value) (hv : v = nv n) (R : Nat) (hR : R ≤ 4000) (r : Int) (hr : r = (R : Int)) (m : Nd) (hm : withN n R = m) (w : World) :
    Calls Tryz.prog 84 #[v, .int .i64 r] w fun e w' => e = .returned (nv m) ∧ Stp w w' := by
  subst hv hr
  have h1 := Stp.alloc (Stp.refl w) (.cells (ncells n) 23)
  have h0 := Stp.alloc h1 (.cells (ncells zeroN) 23)
  have hw1 := h1.size
  have hb := (Blk.new w 23 (ncells n)).alloc (.cells (ncells zeroN) 23)
  obtain ⟨gz, hgz⟩ : ∃ x, (w.alloc (.cells (ncells n) 23)).heap.size = x := ⟨_, rfl⟩
  have Hz0 := Blk.new (w.alloc (.cells (ncells n) 23)) 23 (ncells zeroN)
  have hgl : w.heap.size < gz := by rw [← hgz, World.size_alloc]; omega
  rw [hgz] at Hz0 hw1
  obtain ⟨t, ht⟩ : ∃ t : L, List.replicate R 0 = t := ⟨_, rfl⟩
  have hmt : (ncells n).setIfInBounds 7 (.string ⟨t.toArray⟩) = ncells m := by rw [← hm, ← ht]; rfl
  have Hb := Lib.hid hb
  have Hz := Lib.hid Hz0
  have Ht := Lib.hid ht
  have HR := Lib.hid hR
  have Hmt := Lib.hid hmt
  obtain ⟨q0, q1, q2, q3, q4, q5, q6, q7⟩ := nd_cells hb
  clear hb Hz0 h1 ht hR hm hmt
  go_enter Tryz.func84, Tryz.ntmps84
  go_upto_region 2 with (go_at_call 111; refine (repeat_noughts R HR.out t Ht.out _).mono ?_; rintro e w1 ⟨rfl, hs⟩; replace Hb := Lib.hid (Hb.out.keep hs Hb.out.lt); replace Hz := Lib.hid (Hz.out.keep hs Hz.out.lt); replace h0 := Stp.trans h0 hs; have hfr := Hb.out.free 7; clear hs q0 q1 q2 q3 q4 q5 q6 q7; obtain ⟨q0, q1, q2, q3, q4, q5, q6, q7⟩ := nd_cells Hb.out)
  have x1 := Hb.out.put 7 (.string ⟨t.toArray⟩)
  rw [Hmt.out] at x1
  have x2 := Hz.out.far (p := ⟨w.heap.size, 7, none⟩) (by show gz ≠ w.heap.size; omega) (.string ⟨t.toArray⟩)
  have x3 := set_stp h0 (Nat.le_refl w.heap.size) 7 (.string ⟨t.toArray⟩)
  clear q0 q1 q2 q3 q4 q5 q6 q7 hfr h0
  generalize w1.setCell ⟨w.heap.size, 7, none⟩ (.string ⟨t.toArray⟩) = W at x1 x2 x3 ⊢
  have X2 := Lib.hid x2
  obtain ⟨q0, q1, q2, q3, q4, q5, q6, q7⟩ := nd_cells x1
  obtain ⟨⟨z0, z1, z2, z3, z4, z5, z6, z7⟩, y0, y1, y2, y3, y4, y5, y6, y7⟩ := nzy x2
  clear x1 x2
  go_wp2_with fail
  have hf := filln_blk m X2.out
  have hst := filln_stp m x3 hw1
  change bodyPost _ _ _ _ _ (fillN W gz m)
  generalize fillN W gz m = Y at hf hst ⊢
  clear z0 z1 z2 z3 z4 z5 z6 z7 y0 y1 y2 y3 y4 y5 y6 y7 q0 q1 q2 q3 q4 q5 q6 q7
  obtain ⟨z0, z1, z2, z3, z4, z5, z6, z7⟩ := nd_cells hf
  refine bodyPost_ret (v := nv m) (by simp [results, Tryz.results84, go_sem, *]) rfl ⟨rfl, hst⟩
set_option maxRecDepth 100000 in
set_option maxHeartbeats 2000000 in
theorem fileof_s (h : Hd) (v : Value) (hv : v = Head.hv h) (p u : L) (hu : nameC h p = u) (m : Nd) (hm : nodeC h u = m) (w : World) :
    Calls Tryz.prog 83 #[v, .string ⟨p.toArray⟩] w fun e w' => e = .returned (nv m) ∧ Stp w w' := by
  subst hv
  have h1 := Stp.alloc (Stp.refl w) (.cells (hcells h) 77)
  have h0 := Stp.alloc h1 (.cells (ncells zeroN) 23)
  have hw1 := h1.size
  have hb := (Blk.new w 77 (hcells h)).alloc (.cells (ncells zeroN) 23)
  obtain ⟨gz, hgz⟩ : ∃ x, (w.alloc (.cells (hcells h) 77)).heap.size = x := ⟨_, rfl⟩
  have Hz0 := Blk.new (w.alloc (.cells (hcells h) 77)) 23 (ncells zeroN)
  have hgl : w.heap.size < gz := by rw [← hgz, World.size_alloc]; omega
  rw [hgz] at Hz0 hw1
  have Hz := Lib.hid Hz0
  have Hm := Lib.hid hm
  have key : ((p == []) = true ∧ h.name = u) ∨ ((p == []) = false ∧ p = u) := by
    rw [nameC] at hu
    split at hu
    · rename_i e
      exact .inl ⟨by simp [e], hu⟩
    · rename_i e
      exact .inr ⟨by simpa using e, hu⟩
  obtain ⟨q0, q1, q2, q3, q4, q5, q6, q7, q8, q9, q10⟩ := hd_cells hb
  obtain ⟨⟨z0, z1, z2, z3, z4, z5, z6, z7⟩, y0, y1, y2, y3, y4, y5, y6, y7⟩ := nzy Hz0
  clear hb Hz0 h1 hu hm
  obtain ⟨W, hW⟩ : ∃ W, (w.alloc (.cells (hcells h) 77)).alloc (.cells (ncells zeroN) 23) = W := ⟨_, rfl⟩
  rcases key with ⟨k1, k2⟩ | ⟨k1, rfl⟩
  all_goals
    go_enter Tryz.func83, Tryz.ntmps83
    go_upto_region 1 with fail
    change Code.wp _ _ _ _ ((w.alloc (.cells (hcells h) 77)).alloc (.cells (ncells zeroN) 23))
    rw [hW] at h0 Hz q0 q1 q2 q3 q4 q5 q6 q7 q8 q9 q10 z0 z1 z2 z3 z4 z5 z6 z7 y0 y1 y2 y3 y4 y5 y6 y7 ⊢
    clear hW
    go_wp2_with fail
    have hf := filln_blk m Hz.out
    have hst := filln_stp m h0 hw1
    have hm2 := Hm.out
    try subst k2
    subst hm2
  · change bodyPost _ _ _ _ _ (fillN W gz (nodeC h h.name))
    generalize fillN W gz (nodeC h h.name) = Y at hf hst ⊢
    clear z0 z1 z2 z3 z4 z5 z6 z7 y0 y1 y2 y3 y4 y5 y6 y7 q0 q1 q2 q3 q4 q5 q6 q7 q8 q9 q10
    obtain ⟨z0, z1, z2, z3, z4, z5, z6, z7⟩ := nd_cells hf
    refine bodyPost_ret (v := nv (nodeC h h.name)) (by simp [results, Tryz.results83, go_sem, *]) rfl ⟨rfl, hst⟩
  · change bodyPost _ _ _ _ _ (fillN W gz (nodeC h p))
    generalize fillN W gz (nodeC h p) = Y at hf hst ⊢
    clear z0 z1 z2 z3 z4 z5 z6 z7 y0 y1 y2 y3 y4 y5 y6 y7 q0 q1 q2 q3 q4 q5 q6 q7 q8 q9 q10
    obtain ⟨z0, z1, z2, z3, z4, z5, z6, z7⟩ := nd_cells hf
    refine bodyPost_ret (v := nv (nodeC h p)) (by simp [results, Tryz.results83, go_sem, *]) rfl ⟨rfl, hst⟩
set_option maxRecDepth 100000 in
set_option maxHeartbeats 2000000 in
theorem clong_s (ls : List L) (z : Nat) (hz : ls.length = z) (hsm : ∀ l ∈ ls, l.length < 9223372036854775808) (p : L) (k : Nat) (hp : longV ls = (p, k)) (A : Option Addr) (c : Nat) (w : World) (ha : RdL w A c ls) :
    Calls Tryz.prog 78 #[.slice A z c] w fun e w' => e = .returned (.tuple #[.string ⟨p.toArray⟩, .int .i64 (k : Int)]) ∧ Stp w w' := by
  have h0 := Stp.refl w
  by_cases h2 : 2 ≤ z
  · obtain ⟨x, hx⟩ : ∃ x, ls[0]? = some x := ⟨_, List.getElem?_eq_getElem (by omega)⟩
    obtain ⟨y, hy⟩ : ∃ y, ls[1]? = some y := ⟨_, List.getElem?_eq_getElem (by omega)⟩
    obtain ⟨b, o, A1, c1, rfl, hc1, hR1⟩ := ha.at_ hx
    obtain ⟨b', o', A2, c2, hbo, hc2, hR2⟩ := ha.at_ hy
    obtain ⟨rfl, rfl⟩ : b = b' ∧ o = o' := by cases hbo; exact ⟨rfl, rfl⟩
    have hcb : b < w.heap.size := World.block_lt_of_cell? w _ hc1
    rw [Nat.add_zero] at hc1
    have ey : ls.getD 1 [] = y := by rw [List.getD_eq_getElem?_getD, hy]; rfl
    have ex : ls.getD 0 [] = x := by rw [List.getD_eq_getElem?_getD, hx]; rfl
    have k1 : decide ((z : Int) < 2) = false := decide_eq_false (by omega)
    have g0 : (0 : Int) < (z : Int) := by omega
    have g1 : (1 : Int) < (z : Int) := by omega
    have hylen : y.length ≤ 9223372036854775807 := by have := hsm y (List.mem_of_getElem? hy); omega
    obtain ⟨G, hG⟩ : ∃ G, getH x = G := ⟨_, rfl⟩
    have e76 : ((G.ty.toNat : Int) == 76) = decide (G.ty = 76) := ty_eq G.ty 76 (by omega)
    rw [longV, ex, ey, hG] at hp
    have HG := Lib.hid hG
    have HR1 := Lib.hid hR1
    have HR2 := Lib.hid hR2
    have Hy := Lib.hid hylen
    by_cases ht : G.ty = 76
    · rw [if_pos ⟨by omega, ht⟩, Prod.mk.injEq] at hp
      obtain ⟨rfl, rfl⟩ := hp
      have k2 : ((G.ty.toNat : Int) != 76) = false := by rw [bne, e76, decide_eq_true ht]; rfl
      obtain ⟨u, hu⟩ : ∃ u, upto y = u := ⟨_, rfl⟩
      have Hu := Lib.hid hu
      rw [hu]
      clear ha hx hy hsm hR1 hR2 hG e76 ht hylen hu ey ex hz h2
      go_enter Tryz.func78, Tryz.ntmps78
      go_wp2_with (first
        | (go_at_call 34; refine (hget_s x A1 c1 _ HR1.out).mono ?_; rintro e w1 ⟨rfl, hs⟩; rw [HG.out]; replace hs := Stp.alloc hs (.cells (hcells G) 77); replace h0 := Stp.trans h0 hs; obtain ⟨x0, x1, x2, x3, x4, x5, x6, x7, x8, x9, x10⟩ := hd_cells (Blk.new w1 77 (hcells G)); have hcv := run_string_rd (P := Tryz.prog) (w1.alloc (.cells (hcells G) 77)) 46 9 5 Tryz.underlying46 Tryz.underlying5 Tryz.underlying9 _ _ _ (HR2.out.keep hs); rw [bs_length] at hcv; have hc3 := (hs.cell (p := ⟨b, o + 1, none⟩) hcb).trans hc2; clear hs)
        | (go_at_call 89; refine (cut_any y _ Hy.out).mono ?_; rintro e w2 ⟨b2, b3, rfl, nd, rfl⟩; rw [Hu.out]; replace h0 := Stp.drewN h0 nd))
      go_ret2
      exact ⟨rfl, h0⟩
    · rw [if_neg (by rintro ⟨-, h⟩; exact ht h), Prod.mk.injEq] at hp
      obtain ⟨rfl, rfl⟩ := hp
      have k2 : ((G.ty.toNat : Int) != 76) = true := by rw [bne, e76, decide_eq_false ht]; rfl
      clear ha hx hy hsm hR1 hR2 hG e76 ht hylen ey ex hz h2 hc2
      go_enter Tryz.func78, Tryz.ntmps78
      go_wp2_with (go_at_call 34; refine (hget_s x A1 c1 _ HR1.out).mono ?_; rintro e w1 ⟨rfl, hs⟩; rw [HG.out]; replace hs := Stp.alloc hs (.cells (hcells G) 77); replace h0 := Stp.trans h0 hs; obtain ⟨x0, x1, x2, x3, x4, x5, x6, x7, x8, x9, x10⟩ := hd_cells (Blk.new w1 77 (hcells G)); clear hs)
      go_ret2
      exact ⟨rfl, h0⟩
  · rw [longV, if_neg (by rintro ⟨h, -⟩; omega), Prod.mk.injEq] at hp
    obtain ⟨rfl, rfl⟩ := hp
    have k1 : decide ((z : Int) < 2) = true := decide_eq_true (by omega)
    clear ha hsm hz h2
    go_enter Tryz.func78, Tryz.ntmps78
    go_wp2_with fail
    go_ret2
    exact ⟨rfl, h0⟩
end Go.Proofs.YtllnnlmhbmladaaGreatDoor.Cont

namespace Go.Proofs.YtllnnlmhbmladaaGreatDoor.Cont
open Go.RowKit Go.Proofs.YtllnnlmhbmladaaGreatDoor.Str Go.Proofs.YtllnnlmhbmladaaGreatDoor.Base Go.Proofs.YtllnnlmhbmladaaGreatDoor.Node Go.Proofs.YtllnnlmhbmladaaGreatDoor.Head Go.Proofs.YtllnnlmhbmladaaGreatDoor.Long Go.Proofs.YtllnnlmhbmladaaGreatDoor.ContM
open Go.Proofs.YtllnnlmhbmladaaGreatDoor.Tree (oneB)
set_option linter.unusedVariables false

theorem fillw_far {w : World} {g g' : Nat} {t : TypeId} {cs : Array Value} (h : Hd) (hb : Blk w g' t cs) (hne : g' ≠ g) : Blk (fillW w g h) g' t cs :=
  ((((((((((hb.far (p := ⟨g, 0, none⟩) hne _).far (p := ⟨g, 1, none⟩) hne _).far (p := ⟨g, 2, none⟩) hne _).far (p := ⟨g, 3, none⟩) hne _).far (p := ⟨g, 4, none⟩) hne _).far (p := ⟨g, 5, none⟩) hne _).far (p := ⟨g, 6, none⟩) hne _).far (p := ⟨g, 7, none⟩) hne _).far (p := ⟨g, 8, none⟩) hne _).far (p := ⟨g, 9, none⟩) hne _).far (p := ⟨g, 10, none⟩) hne _
theorem fillc_far {g g' : Nat} {t : TypeId} {cs : Array Value} (hne : g' ≠ g) : ∀ (vs : List Value) (i : Nat) (w : World), Blk w g' t cs → Blk (fillC g vs i w) g' t cs
  | [], _, _, h => h
  | v :: vs, i, w, h => fillc_far hne vs (i + 1) _ (h.far (p := ⟨g, i, none⟩) hne v)
theorem filln_far {w : World} {g g' : Nat} {t : TypeId} {cs : Array Value} (n : Nd) (hb : Blk w g' t cs) (hne : g' ≠ g) : Blk (fillN w g n) g' t cs := fillc_far hne (ncells n).toList 0 w hb

/-- What Get keeps: the blocks, its answer's place, the name, the place, the header, the file, and whether all was so. -/
structure GS (w0 w : World) (A : Option Addr) (z c G : Nat) (p : L) (k : Nat) (H : Hd) (M : Nd) (b : Bool) : Prop where
  stp : Stp w0 w
  ge : w0.heap.size + 2 ≤ G
  l : Blk w w0.heap.size 36 #[.slice A z c]
  r : Blk w (w0.heap.size + 1) 23 (ncells zeroN)
  nm : Blk w G 9 #[.string ⟨p.toArray⟩]
  pl : Blk w (G + 1) 3 #[.int .i64 (k : Int)]
  h : Blk w (G + 2) 77 (hcells H)
  n : Blk w (G + 3) 23 (ncells M)
  s : Blk w (G + 4) 4 #[.bool b]
section
variable {w0 w w' : World} {A : Option Addr} {z c G : Nat} {p : L} {k : Nat} {H : Hd} {M : Nd} {b : Bool}
theorem GS.keep (h : GS w0 w A z c G p k H M b) (hs : Stp w w') : GS w0 w' A z c G p k H M b :=
  ⟨Stp.trans h.stp hs, h.ge, h.l.keep hs h.l.lt, h.r.keep hs h.r.lt, h.nm.keep hs h.nm.lt, h.pl.keep hs h.pl.lt, h.h.keep hs h.h.lt, h.n.keep hs h.n.lt, h.s.keep hs h.s.lt⟩
theorem GS.sets (h : GS w0 w A z c G p k H M b) (b' : Bool) : GS w0 (w.setCell ⟨G + 4, 0, none⟩ (.bool b')) A z c G p k H M b' := by
  have g := h.ge
  exact ⟨set_stp h.stp (by omega) 0 _, g, h.l.far (by show w0.heap.size ≠ G + 4; omega) _, h.r.far (by show w0.heap.size + 1 ≠ G + 4; omega) _, h.nm.far (by show G ≠ G + 4; omega) _, h.pl.far (by show G + 1 ≠ G + 4; omega) _,
    h.h.far (by show G + 2 ≠ G + 4; omega) _, h.n.far (by show G + 3 ≠ G + 4; omega) _, h.s.put 0 _⟩
theorem GS.fillh (h : GS w0 w A z c G p k H M b) (H' : Hd) : GS w0 (fillW w (G + 2) H') A z c G p k H' M b := by
  have g := h.ge
  exact ⟨fill_stp H' h.stp (by omega), g, fillw_far H' h.l (by omega), fillw_far H' h.r (by omega), fillw_far H' h.nm (by omega), fillw_far H' h.pl (by omega), fill_blk H' h.h, fillw_far H' h.n (by omega), fillw_far H' h.s (by omega)⟩
theorem GS.filln (h : GS w0 w A z c G p k H M b) (M' : Nd) : GS w0 (fillN w (G + 3) M') A z c G p k H M' b := by
  have g := h.ge
  exact ⟨filln_stp M' h.stp (by omega), g, filln_far M' h.l (by omega), filln_far M' h.r (by omega), filln_far M' h.nm (by omega), filln_far M' h.pl (by omega), filln_far M' h.h (by omega), filln_blk M' h.n, filln_far M' h.s (by omega)⟩
theorem GS.cells (h : GS w0 w A z c G p k H M b) : w.cell? ⟨w0.heap.size, 0, none⟩ = some (.slice A z c) ∧ w.cell? ⟨G, 0, none⟩ = some (.string ⟨p.toArray⟩) ∧ w.cell? ⟨G + 1, 0, none⟩ = some (.int .i64 (k : Int)) :=
  ⟨by rw [h.l.cell]; rfl, by rw [h.nm.cell]; rfl, by rw [h.pl.cell]; rfl⟩
theorem GS.flag (h : GS w0 w A z c G p k H M b) : w.cell? ⟨G + 4, 0, none⟩ = some (.bool b) ∧ w.frozen? ⟨G + 4, 0, none⟩ = false := ⟨by rw [h.s.cell]; rfl, h.s.free 0⟩
end

set_option maxRecDepth 100000 in
/-- Is there a block at the place? -/
theorem ask_one {w0 w : World} {A : Option Addr} {z c G : Nat} {p : L} {k : Nat} {H : Hd} {M : Nd} {b b1 : Bool} (h : GS w0 w A z c G p k H M b) (hb : decide ((k : Int) < (z : Int)) = b1) :
    Calls Tryz.prog 80 #[.pointer (some ⟨G + 1, 0, none⟩), .pointer (some ⟨w0.heap.size, 0, none⟩)] w fun e w' => e = .returned (.bool b1) ∧ GS w0 w' A z c G p k H M b := by
  obtain ⟨q0, q1, q2⟩ := h.cells
  have HS := Lib.hid h
  clear h
  go_enter Tryz.func80, Tryz.ntmps80
  go_wp2_with fail
  go_ret
  exact ⟨by simp [← hb], HS.out⟩
set_option maxRecDepth 100000 in
set_option maxHeartbeats 2000000 in
/-- Is it a header of the kind? -/
theorem ask_two {w0 w : World} {A : Option Addr} {z c G : Nat} {p : L} {k : Nat} {M : Nd} {b b2 : Bool} (h : GS w0 w A z c G p k zeroH M b) {ls : List L} (hz : ls.length = z) (ha : RdL w0 A c ls) {x : L} (hx : ls[k]? = some x) {H : Hd} (hH : getH x = H)
    (hb : (decide (H.ty = 77) && decide (H.real ≤ 4000)) = b2) :
    Calls Tryz.prog 81 #[.pointer (some ⟨w0.heap.size, 0, none⟩), .pointer (some ⟨G + 1, 0, none⟩), .pointer (some ⟨G + 2, 0, none⟩)] w fun e w' => e = .returned (.bool b2) ∧ GS w0 w' A z c G p k H M b := by
  obtain ⟨bb, o, A1, c1, rfl, hc1, hR1⟩ := (ha.keep h.stp).at_ hx
  have hk : k < z := by rw [← hz]; exact (List.getElem?_eq_some_iff.1 hx).1
  have g0 : (0 : Int) ≤ (k : Int) := by omega
  have g1 : (k : Int) < (z : Int) := by omega
  have e77 : ((H.ty.toNat : Int) == 77) = decide (H.ty = 77) := ty_eq H.ty 77 (by omega)
  rw [← e77] at hb
  obtain ⟨q0, q1, q2⟩ := h.cells
  obtain ⟨t1, ht1⟩ : ∃ t, ((H.ty.toNat : Int) == 77) = t := ⟨_, rfl⟩
  obtain ⟨t2, ht2⟩ : ∃ t, decide (H.real ≤ 4000) = t := ⟨_, rfl⟩
  rw [ht1, ht2] at hb
  have HS := Lib.hid h
  have HH := Lib.hid hH
  have HR1 := Lib.hid hR1
  have Hb := Lib.hid hb
  clear h hz ha hx hH hR1 hk hb e77
  go_enter Tryz.func81, Tryz.ntmps81
  go_upto_region 2 with (go_at_call 34; refine (hget_s x A1 c1 _ HR1.out).mono ?_; rintro e w1 ⟨rfl, hs⟩; rw [HH.out]; replace HS := Lib.hid (HS.out.keep hs); clear hs q0 q1 q2 hc1; obtain ⟨⟨z0, z1, z2, z3, z4, z5, z6, z7, z8, z9, z10⟩, y0, y1, y2, y3, y4, y5, y6, y7, y8, y9, y10⟩ := zy HS.out.h)
  have hf := HS.out.fillh H
  change Code.wp _ _ _ _ (fillW w1 (G + 2) H)
  generalize fillW w1 (G + 2) H = W at hf ⊢
  clear HS z0 z1 z2 z3 z4 z5 z6 z7 z8 z9 z10 y0 y1 y2 y3 y4 y5 y6 y7 y8 y9 y10
  have HS := Lib.hid hf
  obtain ⟨x0, x1, x2, x3, x4, x5, x6, x7, x8, x9, x10⟩ := hd_cells hf.h
  clear hf
  cases t1
  all_goals
    go_wp2_with fail
    go_ret
    exact ⟨by rw [← Hb.out]; simp, HS.out⟩
theorem same_v (ls ms : List L) (j k : Nat) (hj : ls.length = j) (hk : ms.length = k) (A B : Option Addr) (c d : Nat) (w : World) (ha : RdL w A c ls) (hb : RdL w B d ms) (hl : j < 9223372036854775808) (hm : k < 9223372036854775808) (b : Bool) (hb' : (ls == ms) = b) :
    Calls Tryz.prog 85 #[.slice A j c, .slice B k d] w fun e w' => e = .returned (.bool b) ∧ Stp w w' := by
  subst hj hk hb'
  exact Block.same_s ls ms A B c d w ha hb hl hm
set_option maxRecDepth 100000 in
set_option maxHeartbeats 4000000 in
/-- Has the file just these blocks? -/
theorem ask_three {w0 w : World} {A : Option Addr} {z c G : Nat} {p : L} {k : Nat} {H : Hd} {b b3 : Bool} (h : GS w0 w A z c G p k H zeroN b) {ls : List L} (hz : ls.length = z) (hz3 : z < 9223372036854775808) (ha : RdL w0 A c ls) {x : L} (hx : ls[k]? = some x)
    {M : Nd} (hM : nodeC H (nameC H p) = M) {R : Nat} (hR : H.real = (R : Int)) (hR4 : R ≤ 4000) {N : Nd} (hN : withN M R = N) (hsN : SmallN N) {P : List L} (hP : putC N H.off = P) (hb : (P == ls.take (k + 1)) = b3) :
    Calls Tryz.prog 82 #[.pointer (some ⟨G + 2, 0, none⟩), .pointer (some ⟨G, 0, none⟩), .pointer (some ⟨G + 3, 0, none⟩), .pointer (some ⟨w0.heap.size, 0, none⟩), .pointer (some ⟨G + 1, 0, none⟩)] w fun e w' =>
      e = .returned (.bool b3) ∧ GS w0 w' A z c G p k H M b := by
  obtain ⟨bb, o, A1, c1, hA, -, -⟩ := ha.at_ hx
  have hk : k < z := by rw [← hz]; exact (List.getElem?_eq_some_iff.1 hx).1
  have hzc : z ≤ c := by
    obtain ⟨us, e1, e2, -⟩ := ha
    have := RdA.length_le e2
    omega
  subst hA
  have g0 : (0 : Int) ≤ (k : Int) + 1 := by omega
  have g1 : (k : Int) + 1 ≤ 9223372036854775807 := by omega
  have csl : ∀ w, (Instr.slice 36 (.slice (some ⟨bb, o, none⟩) z c) none (some (.int .i64 ((k : Int) + 1))) none).run Tryz.prog w = .ok (.slice (some ⟨bb, o, none⟩) (k + 1) c) w := fun w => by
    have := Entry.slice_to bb o z c (k + 1) (by omega) w
    exact this
  obtain ⟨q0, q1, q2⟩ := h.cells
  obtain ⟨x0, x1, x2, x3, x4, x5, x6, x7, x8, x9, x10⟩ := hd_cells h.h
  have hPl : P.length < 9223372036854775808 := by
    rw [← hP, putC]
    split
    · rw [List.length_append, aheadC_length]
      split <;> simp
    · simp
  obtain ⟨zp, hzp⟩ : ∃ zp, P.length = zp := ⟨_, rfl⟩
  obtain ⟨mb, hmb⟩ : ∃ mb, mayC N H.off = mb := ⟨_, rfl⟩
  rw [hzp] at hPl
  have HS := Lib.hid h
  have HM := Lib.hid hM
  have HR := Lib.hid hR
  have HR4 := Lib.hid hR4
  have HN := Lib.hid hN
  have HsN := Lib.hid hsN
  have HP := Lib.hid hP
  have HPl := Lib.hid hPl
  have HZ := Lib.hid hzp
  have Hmb := Lib.hid hmb
  have Hb := Lib.hid hb
  have HL := Lib.hid ha
  have Hk := Lib.hid (show (ls.take (k + 1)).length = k + 1 by rw [List.length_take]; omega)
  have Hk2 := Lib.hid (show k + 1 < 9223372036854775808 by omega)
  clear h hz ha hx hM hR hR4 hN hsN hP hPl hzp hmb hb hk hzc hz3
  go_enter Tryz.func82, Tryz.ntmps82
  go_upto_region 2 with (go_at_call 83; refine (fileof_s H _ rfl p _ rfl M HM.out _).mono ?_; rintro e w1 ⟨rfl, hs⟩; replace HS := Lib.hid (HS.out.keep hs); clear hs q0 q1 q2 x0 x1 x2 x3 x4 x5 x6 x7 x8 x9 x10; obtain ⟨⟨z0, z1, z2, z3, z4, z5, z6, z7⟩, y0, y1, y2, y3, y4, y5, y6, y7⟩ := nzy HS.out.n)
  have hf := HS.out.filln M
  change Code.wp _ _ _ _ (fillN w1 (G + 3) M)
  generalize fillN w1 (G + 3) M = W at hf ⊢
  clear HS z0 z1 z2 z3 z4 z5 z6 z7 y0 y1 y2 y3 y4 y5 y6 y7
  have hf2 : GS w0 W.drew (some ⟨bb, o, none⟩) z c G p k H M b := hf.keep (Stp.drewN (Stp.refl W) 1)
  have HS := Lib.hid hf2
  clear hf hf2
  obtain ⟨u0, u1, u2, u3, u4, u5, u6, u7⟩ := nd_cells HS.out.n
  obtain ⟨x0, x1, x2, x3, x4, x5, x6, x7, x8, x9, x10⟩ := hd_cells HS.out.h
  rw [HR.out] at x10
  clear x0 x1 x2 x3 x4 x5 x6 x7 x8
  go_region_with (first
    | (go_at_call 84; (with_reducible refine (filled_s M _ rfl R HR4.out _ rfl N HN.out _).mono ?_); rintro e w2 ⟨rfl, hs⟩; replace HS := Lib.hid (HS.out.keep hs); clear hs u0 u1 u2 u3 u4 u5 u6 u7 x9 x10; obtain ⟨x0, x1, x2, x3, x4, x5, x6, x7, x8, x9, x10⟩ := hd_cells HS.out.h; clear x0 x1 x2 x3 x4 x5 x6 x7 x8 x10)
    | (go_at_call 46; (with_reducible refine (cput_s N _ rfl HsN.out H.off P HP.out zp HZ.out mb Hmb.out _).mono ?_); rintro e w3 ⟨A3, c3, rfl, hr, hs⟩; replace HS := Lib.hid (HS.out.keep hs); have H3 := Lib.hid hr; clear hs hr x9; obtain ⟨q0, q1, q2⟩ := HS.out.cells))
  all_goals
    go_wp2_with (go_at_call 85; refine (same_v P (ls.take (k + 1)) zp (k + 1) HZ.out Hk.out A3 _ c3 c _ H3.out (Entry.rdL_take (HL.out.keep HS.out.stp) (k + 1)) HPl.out Hk2.out b3 Hb.out).mono ?_; rintro e w4 ⟨rfl, hs⟩; replace HS := Lib.hid (HS.out.keep hs); clear hs q0 q1 q2)
    go_ret
    exact ⟨rfl, HS.out⟩

set_option maxRecDepth 100000 in
theorem must_no {w0 w : World} {A : Option Addr} {z c G : Nat} {p : L} {k : Nat} {H : Hd} {M : Nd} (fv : Value) (h : GS w0 w A z c G p k H M false) :
    Calls Tryz.prog 79 #[fv, .pointer (some ⟨G + 4, 0, none⟩)] w fun e w' => e = .returned (.tuple #[]) ∧ GS w0 w' A z c G p k H M false := by
  obtain ⟨f0, f1⟩ := h.flag
  have HS := Lib.hid h
  clear h
  go_enter Tryz.func79, Tryz.ntmps79
  go_wp2_with fail
  go_end0
  exact ⟨rfl, HS.out.sets false⟩
set_option maxRecDepth 100000 in
theorem must_one {w0 w : World} {A : Option Addr} {z c G : Nat} {p : L} {k : Nat} {H H' : Hd} {M M' : Nd} {b : Bool} (h : GS w0 w A z c G p k H M true)
    (hc : Calls Tryz.prog 80 #[.pointer (some ⟨G + 1, 0, none⟩), .pointer (some ⟨w0.heap.size, 0, none⟩)] w fun e w' => e = .returned (.bool b) ∧ GS w0 w' A z c G p k H' M' true) :
    Calls Tryz.prog 79 #[.func (.func 80) #[] #[.pointer (some ⟨G + 1, 0, none⟩), .pointer (some ⟨w0.heap.size, 0, none⟩)], .pointer (some ⟨G + 4, 0, none⟩)] w fun e w' => e = .returned (.tuple #[]) ∧ GS w0 w' A z c G p k H' M' b := by
  obtain ⟨f0, f1⟩ := h.flag
  have HC := Lib.hid hc
  clear h hc
  go_enter Tryz.func79, Tryz.ntmps79
  go_wp2_with (go_at_call 80; refine HC.out.mono ?_; rintro e w1 ⟨rfl, hg⟩; have HG := Lib.hid hg; clear f0 f1 hg; obtain ⟨f0, f1⟩ := HG.out.flag)
  go_end0
  exact ⟨rfl, HG.out.sets b⟩
set_option maxRecDepth 100000 in
theorem must_two {w0 w : World} {A : Option Addr} {z c G : Nat} {p : L} {k : Nat} {H H' : Hd} {M M' : Nd} {b : Bool} (h : GS w0 w A z c G p k H M true)
    (hc : Calls Tryz.prog 81 #[.pointer (some ⟨w0.heap.size, 0, none⟩), .pointer (some ⟨G + 1, 0, none⟩), .pointer (some ⟨G + 2, 0, none⟩)] w fun e w' => e = .returned (.bool b) ∧ GS w0 w' A z c G p k H' M' true) :
    Calls Tryz.prog 79 #[.func (.func 81) #[] #[.pointer (some ⟨w0.heap.size, 0, none⟩), .pointer (some ⟨G + 1, 0, none⟩), .pointer (some ⟨G + 2, 0, none⟩)], .pointer (some ⟨G + 4, 0, none⟩)] w fun e w' => e = .returned (.tuple #[]) ∧ GS w0 w' A z c G p k H' M' b := by
  obtain ⟨f0, f1⟩ := h.flag
  have HC := Lib.hid hc
  clear h hc
  go_enter Tryz.func79, Tryz.ntmps79
  go_wp2_with (go_at_call 81; refine HC.out.mono ?_; rintro e w1 ⟨rfl, hg⟩; have HG := Lib.hid hg; clear f0 f1 hg; obtain ⟨f0, f1⟩ := HG.out.flag)
  go_end0
  exact ⟨rfl, HG.out.sets b⟩
set_option maxRecDepth 100000 in
theorem must_three {w0 w : World} {A : Option Addr} {z c G : Nat} {p : L} {k : Nat} {H H' : Hd} {M M' : Nd} {b : Bool} (h : GS w0 w A z c G p k H M true)
    (hc : Calls Tryz.prog 82 #[.pointer (some ⟨G + 2, 0, none⟩), .pointer (some ⟨G, 0, none⟩), .pointer (some ⟨G + 3, 0, none⟩), .pointer (some ⟨w0.heap.size, 0, none⟩), .pointer (some ⟨G + 1, 0, none⟩)] w fun e w' => e = .returned (.bool b) ∧ GS w0 w' A z c G p k H' M' true) :
    Calls Tryz.prog 79 #[.func (.func 82) #[] #[.pointer (some ⟨G + 2, 0, none⟩), .pointer (some ⟨G, 0, none⟩), .pointer (some ⟨G + 3, 0, none⟩), .pointer (some ⟨w0.heap.size, 0, none⟩), .pointer (some ⟨G + 1, 0, none⟩)], .pointer (some ⟨G + 4, 0, none⟩)] w fun e w' => e = .returned (.tuple #[]) ∧ GS w0 w' A z c G p k H' M' b := by
  obtain ⟨f0, f1⟩ := h.flag
  have HC := Lib.hid hc
  clear h hc
  go_enter Tryz.func79, Tryz.ntmps79
  go_wp2_with (go_at_call 82; refine HC.out.mono ?_; rintro e w1 ⟨rfl, hg⟩; have HG := Lib.hid hg; clear f0 f1 hg; obtain ⟨f0, f1⟩ := HG.out.flag)
  go_end0
  exact ⟨rfl, HG.out.sets b⟩
end Go.Proofs.YtllnnlmhbmladaaGreatDoor.Cont

namespace Go.Proofs.YtllnnlmhbmladaaGreatDoor.Cont
open Go.RowKit Go.Proofs.YtllnnlmhbmladaaGreatDoor.Str Go.Proofs.YtllnnlmhbmladaaGreatDoor.Base Go.Proofs.YtllnnlmhbmladaaGreatDoor.Node Go.Proofs.YtllnnlmhbmladaaGreatDoor.Head Go.Proofs.YtllnnlmhbmladaaGreatDoor.Long Go.Proofs.YtllnnlmhbmladaaGreatDoor.ContM
open Go.Proofs.YtllnnlmhbmladaaGreatDoor.Tree (oneB)
set_option linter.unusedVariables false

abbrev getW (w1 : World) (p : L) (K : Nat) : World := ((((w1.alloc (.cells #[.string ⟨p.toArray⟩] 9)).alloc (.cells #[.int .i64 (K : Int)] 3)).alloc (.cells (hcells zeroH) 77)).alloc (.cells (ncells zeroN) 23)).alloc (.cells #[.bool true] 4)
theorem gs_new {w w1 : World} {A : Option Addr} {z c : Nat} (p : L) (K : Nat) (h0 : Stp w w1) (hl : Blk w1 w.heap.size 36 #[.slice A z c]) (hr : Blk w1 (w.heap.size + 1) 23 (ncells zeroN)) : GS w (getW w1 p K) A z c w1.heap.size p K zeroH zeroN true := by
  have g := hr.lt
  have e1 : (w1.alloc (.cells #[.string ⟨p.toArray⟩] 9)).heap.size = w1.heap.size + 1 := World.size_alloc _ _
  have e2 : ((w1.alloc (.cells #[.string ⟨p.toArray⟩] 9)).alloc (.cells #[.int .i64 (K : Int)] 3)).heap.size = w1.heap.size + 2 := by rw [World.size_alloc, e1]
  have e3 : (((w1.alloc (.cells #[.string ⟨p.toArray⟩] 9)).alloc (.cells #[.int .i64 (K : Int)] 3)).alloc (.cells (hcells zeroH) 77)).heap.size = w1.heap.size + 3 := by rw [World.size_alloc, e2]
  have e4 : ((((w1.alloc (.cells #[.string ⟨p.toArray⟩] 9)).alloc (.cells #[.int .i64 (K : Int)] 3)).alloc (.cells (hcells zeroH) 77)).alloc (.cells (ncells zeroN) 23)).heap.size = w1.heap.size + 4 := by rw [World.size_alloc, e3]
  have b1 := Blk.new (w1.alloc (.cells #[.string ⟨p.toArray⟩] 9)) 3 #[.int .i64 (K : Int)]
  have b2 := Blk.new ((w1.alloc (.cells #[.string ⟨p.toArray⟩] 9)).alloc (.cells #[.int .i64 (K : Int)] 3)) 77 (hcells zeroH)
  have b3 := Blk.new (((w1.alloc (.cells #[.string ⟨p.toArray⟩] 9)).alloc (.cells #[.int .i64 (K : Int)] 3)).alloc (.cells (hcells zeroH) 77)) 23 (ncells zeroN)
  have b4 := Blk.new ((((w1.alloc (.cells #[.string ⟨p.toArray⟩] 9)).alloc (.cells #[.int .i64 (K : Int)] 3)).alloc (.cells (hcells zeroH) 77)).alloc (.cells (ncells zeroN) 23)) 4 #[.bool true]
  rw [e1] at b1
  rw [e2] at b2
  rw [e3] at b3
  rw [e4] at b4
  exact ⟨Stp.alloc (Stp.alloc (Stp.alloc (Stp.alloc (Stp.alloc h0 _) _) _) _) _, by omega, ((((hl.alloc _).alloc _).alloc _).alloc _).alloc _, ((((hr.alloc _).alloc _).alloc _).alloc _).alloc _,
    ((((Blk.new w1 9 #[.string ⟨p.toArray⟩]).alloc _).alloc _).alloc _).alloc _, ((b1.alloc _).alloc _).alloc _, (b2.alloc _).alloc _, b3.alloc _, b4⟩
theorem kok_blk {l : L} (h : codeB l = 0) : mayH (getH l) = true ∧ blk (getH l) = l ∧ l.length = 512 := by
  unfold getH
  rw [if_pos h]
  unfold codeB at h
  split at h
  · rename_i h1
    split at h
    · cases h
    · split at h
      · split at h
        · rename_i h4
          exact ⟨h4.1, h4.2, h1⟩
        · cases h
      · cases h
  · cases h
theorem kgot_small {l : L} (hc : codeB l = 0) (ht : (getH l).ty = 77) : SmallH (getH l) ∧ 0 ≤ (getH l).real := by
  obtain ⟨h1, h2, h3⟩ := kok_blk hc
  refine ⟨by rw [getH, if_pos hc]; exact small_guess h3, ?_⟩
  have hn : numsOk (getH l) = true := by
    unfold mayH at h1
    simp only [Bool.and_eq_true] at h1
    exact h1.2
  unfold numsOk at hn
  rw [ht] at hn
  simp only [Bool.and_eq_true, decide_true, Bool.not_true, Bool.false_or] at hn
  exact (Num.putOk_iff.1 hn.2.2).1
theorem longV_place (ls : List L) : (longV ls).2 ≤ 2 := by
  unfold longV
  split <;> simp
theorem upto_le (x : L) : (upto x).length ≤ x.length := by
  have := congrArg List.length (upto_take x)
  rw [List.length_take] at this
  omega
set_option maxRecDepth 100000 in
set_option maxHeartbeats 4000000 in
theorem cget_s (ls : List L) (z : Nat) (hz : ls.length = z) (hz3 : z < 9223372036854775808) (hsm : ∀ l ∈ ls, l.length < 9223372036854775808) (m : Nd) (off whole k : Int) (b : Bool) (hg : getC ls = (m, off, whole, k, b)) (A : Option Addr) (c : Nat) (w : World) (ha : RdL w A c ls) :
    Calls Tryz.prog 53 #[.slice A z c] w fun e w' => e = .returned (.tuple #[nv m, .int .i64 off, .int .i64 whole, .int .i64 k, .bool b]) ∧ Stp w w' := by
  obtain ⟨p, K, hp⟩ : ∃ p K, longV ls = (p, K) := ⟨_, _, rfl⟩
  have h1 := Stp.alloc (Stp.refl w) (.cells #[.slice A z c] 36)
  have h0 := Stp.alloc h1 (.cells (ncells zeroN) 23)
  have hl := (Blk.new w 36 #[.slice A z c]).alloc (.cells (ncells zeroN) 23)
  have hr := Blk.new (w.alloc (.cells #[.slice A z c] 36)) 23 (ncells zeroN)
  rw [World.size_alloc] at hr
  have HB := Lib.hid hl
  have HZ := Lib.hid hr
  have H0 := Lib.hid h0
  have Hz := Lib.hid hz
  have Hz3 := Lib.hid hz3
  have Hsm := Lib.hid hsm
  have Hg := Lib.hid hg
  have HL := Lib.hid ha
  have Hp := Lib.hid hp
  have q0 : ((w.alloc (.cells #[.slice A z c] 36)).alloc (.cells (ncells zeroN) 23)).cell? ⟨w.heap.size, 0, none⟩ = some (.slice A z c) := by rw [hl.cell]; rfl
  clear h1 h0 hl hr hz hz3 hsm hg ha hp
  go_enter Tryz.func53, Tryz.ntmps53
  go_upto_region 5 with (go_at_call 78; refine (clong_s ls z Hz.out Hsm.out p K Hp.out A c _ (HL.out.keep H0.out)).mono ?_; rintro e w1 ⟨rfl, hs⟩; replace HB := Lib.hid (HB.out.keep hs HB.out.lt); replace HZ := Lib.hid (HZ.out.keep hs HZ.out.lt); replace H0 := Lib.hid (Stp.trans H0.out hs); clear hs q0)
  have hG := gs_new p K H0.out HB.out HZ.out
  change Code.wp _ _ _ _ (getW w1 p K)
  generalize getW w1 p K = W at hG ⊢
  clear H0 HB HZ
  generalize w1.heap.size = G at hG ⊢
  have HS := Lib.hid hG
  have hK : K ≤ 2 := by have := longV_place ls; rw [Hp.out] at this; exact this
  clear hG
  have key : (decide ((K : Int) < (z : Int)) = false ∧ getC ls = none5) ∨ (decide ((K : Int) < (z : Int)) = true ∧ ∃ x H, ls[K]? = some x ∧ getH x = H ∧
      (((decide (H.ty = 77) && decide (H.real ≤ 4000)) = false ∧ getC ls = none5) ∨
       ((decide (H.ty = 77) && decide (H.real ≤ 4000)) = true ∧ ∃ M R N P, nodeC H (nameC H p) = M ∧ H.real = ((R : Nat) : Int) ∧ R ≤ 4000 ∧ withN M R = N ∧ SmallN N ∧ putC N H.off = P ∧
        (((P == ls.take (K + 1)) = false ∧ getC ls = none5) ∨ ((P == ls.take (K + 1)) = true ∧ getC ls = (M, H.off, H.real, ((K + 1 : Nat) : Int), true)))))) := by
    have hz := Hz.out
    have hp := Hp.out
    by_cases hlt : K < z
    · refine .inr ⟨decide_eq_true (by omega), ls[K]'(by omega), _, List.getElem?_eq_getElem (by omega), rfl, ?_⟩
      have hx : ls[K]? = some (ls[K]'(by omega)) := List.getElem?_eq_getElem (by omega)
      generalize ls[K]'(by omega) = x at hx ⊢
      by_cases hb : (getH x).ty = 77 ∧ (getH x).real ≤ 4000
      · refine .inr ⟨by rw [decide_eq_true hb.1, decide_eq_true hb.2]; rfl, ?_⟩
        have hc0 : codeB x = 0 := by
          by_cases h : codeB x = 0
          · exact h
          · exfalso
            have h9 := hb.1
            rw [getH, if_neg h] at h9
            exact absurd h9 (by decide)
        obtain ⟨hsmH, h00⟩ := kgot_small hc0 hb.1
        have hR : (getH x).real = ((getH x).real.toNat : Int) := by omega
        refine ⟨_, (getH x).real.toNat, _, _, rfl, hR, by omega, rfl, ?_, rfl, ?_⟩
        · have hpl : p.length < 9223372036854775808 := by
            have e : p = (longV ls).1 := by rw [hp]
            rw [e, longV]
            split
            · rename_i h2
              have hy : ls[1]? = some (ls[1]'(by omega)) := List.getElem?_eq_getElem (by omega)
              have e1 : ls.getD 1 [] = ls[1]'(by omega) := by rw [List.getD_eq_getElem?_getD, hy]; rfl
              have h3 := Hsm.out _ (List.mem_of_getElem? hy)
              have h4 := upto_le (ls[1]'(by omega))
              rw [e1]
              show (upto (ls[1]'(by omega))).length < _
              omega
            · simp
          constructor
          · show (nameC (getH x) p).length ≤ _
            rw [nameC]
            split
            · exact hsmH.name
            · omega
          · show ([] : L).length ≤ _
            simp
          · exact hsmH.mode
          · exact hsmH.uid
          · exact hsmH.gid
          · exact hsmH.time
          · show (List.replicate (getH x).real.toNat (0 : UInt8)).length ≤ _
            rw [List.length_replicate]
            have := hb.2
            omega
        · by_cases hq : putC (fileV x p) (getH x).off = ls.take (K + 1)
          · exact .inr ⟨beq_iff_eq.2 hq, cget_yes hx hq h00⟩
          · refine .inl ⟨beq_eq_false_iff_ne.2 hq, cget_no fun y hy h1 h2 => ?_⟩
            rw [hp] at hy ⊢
            rw [show y = x from Option.some.inj (hy.symm.trans hx)]
            exact hq
      · refine .inl ⟨?_, cget_no fun y hy h1 h2 => ?_⟩
        · rw [Bool.eq_false_iff]
          intro e
          rw [Bool.and_eq_true, decide_eq_true_eq, decide_eq_true_eq] at e
          exact hb e
        · rw [hp] at hy
          rw [show y = x from Option.some.inj (hy.symm.trans hx)] at h1 h2
          exact absurd ⟨h1, h2⟩ hb
    · refine .inl ⟨decide_eq_false (by omega), cget_no fun y hy h1 h2 => ?_⟩
      rw [hp] at hy
      have := (List.getElem?_eq_some_iff.1 hy).1
      exact absurd (by omega) hlt
  rcases key with ⟨k1, hno⟩ | ⟨k1, x, H, hx, hH, key⟩
  · have Hz5 := Lib.hid (Hg.out.symm.trans hno)
    have K1 := Lib.hid k1
    clear k1 hno
    go_upto_region 9 with (first
      | (go_at_call 79; (with_reducible refine (must_one HS.out (ask_one HS.out K1.out)).mono ?_); rintro e w2 ⟨rfl, hg⟩; have HS2 := Lib.hid hg; clear hg)
      | (go_at_call 79; (with_reducible refine (must_no _ HS2.out).mono ?_); rintro e w3 ⟨rfl, hg⟩; have HS3 := Lib.hid hg; clear hg)
      | (go_at_call 79; (with_reducible refine (must_no _ HS3.out).mono ?_); rintro e w4 ⟨rfl, hg⟩; have HS4 := Lib.hid hg; clear hg))
    have hz5 := Hz5.out
    rw [Prod.mk.injEq, Prod.mk.injEq, Prod.mk.injEq, Prod.mk.injEq] at hz5
    obtain ⟨rfl, rfl, rfl, rfl, rfl⟩ := hz5
    obtain ⟨f0, f1⟩ := HS4.out.flag
    obtain ⟨⟨z0, z1, z2, z3, z4, z5, z6, z7⟩, y0, y1, y2, y3, y4, y5, y6, y7⟩ := nzy HS4.out.r
    go_wp2_with fail
    have hf := filln_blk zeroN HS4.out.r
    have hst := filln_stp zeroN HS4.out.stp (show w.heap.size ≤ w.heap.size + 1 by omega)
    change bodyPost _ _ _ _ _ (fillN w4 (w.heap.size + 1) zeroN)
    generalize fillN w4 (w.heap.size + 1) zeroN = Y at hf hst ⊢
    clear z0 z1 z2 z3 z4 z5 z6 z7 y0 y1 y2 y3 y4 y5 y6 y7 f0 f1
    obtain ⟨z0, z1, z2, z3, z4, z5, z6, z7⟩ := nd_cells hf
    refine bodyPost_ret (v := .tuple #[nv zeroN, .int .i64 0, .int .i64 0, .int .i64 0, .bool false]) (by simp [results, Tryz.results53, go_sem, *]) rfl ⟨rfl, hst⟩
  · have K1 := Lib.hid k1
    have Hx := Lib.hid hx
    have HH := Lib.hid hH
    clear k1 hx hH
    rcases key with ⟨k2, hno⟩ | ⟨k2, M, R, N, P, hM, hR, hR4, hN, hsN, hP, key⟩
    · have Hz5 := Lib.hid (Hg.out.symm.trans hno)
      have K2 := Lib.hid k2
      clear k2 hno
      go_upto_region 9 with (first
        | (go_at_call 79; (with_reducible refine (must_one HS.out (ask_one HS.out K1.out)).mono ?_); rintro e w2 ⟨rfl, hg⟩; have HS2 := Lib.hid hg; clear hg)
        | (go_at_call 79; (with_reducible refine (must_two HS2.out (ask_two HS2.out Hz.out HL.out Hx.out HH.out K2.out)).mono ?_); rintro e w3 ⟨rfl, hg⟩; have HS3 := Lib.hid hg; clear hg)
        | (go_at_call 79; (with_reducible refine (must_no _ HS3.out).mono ?_); rintro e w4 ⟨rfl, hg⟩; have HS4 := Lib.hid hg; clear hg))
      have hz5 := Hz5.out
      rw [Prod.mk.injEq, Prod.mk.injEq, Prod.mk.injEq, Prod.mk.injEq] at hz5
      obtain ⟨rfl, rfl, rfl, rfl, rfl⟩ := hz5
      obtain ⟨f0, f1⟩ := HS4.out.flag
      obtain ⟨⟨z0, z1, z2, z3, z4, z5, z6, z7⟩, y0, y1, y2, y3, y4, y5, y6, y7⟩ := nzy HS4.out.r
      go_wp2_with fail
      have hf := filln_blk zeroN HS4.out.r
      have hst := filln_stp zeroN HS4.out.stp (show w.heap.size ≤ w.heap.size + 1 by omega)
      change bodyPost _ _ _ _ _ (fillN w4 (w.heap.size + 1) zeroN)
      generalize fillN w4 (w.heap.size + 1) zeroN = Y at hf hst ⊢
      clear z0 z1 z2 z3 z4 z5 z6 z7 y0 y1 y2 y3 y4 y5 y6 y7 f0 f1
      obtain ⟨z0, z1, z2, z3, z4, z5, z6, z7⟩ := nd_cells hf
      refine bodyPost_ret (v := .tuple #[nv zeroN, .int .i64 0, .int .i64 0, .int .i64 0, .bool false]) (by simp [results, Tryz.results53, go_sem, *]) rfl ⟨rfl, hst⟩
    · have K2 := Lib.hid k2
      have HM := Lib.hid hM
      have HR := Lib.hid hR
      have HR4 := Lib.hid hR4
      have HN := Lib.hid hN
      have HsN := Lib.hid hsN
      have HP := Lib.hid hP
      clear k2 hM hR hR4 hN hsN hP
      rcases key with ⟨k3, hno⟩ | ⟨k3, hyes⟩
      · have Hz5 := Lib.hid (Hg.out.symm.trans hno)
        have K3 := Lib.hid k3
        clear k3 hno
        go_upto_region 9 with (first
          | (go_at_call 79; (with_reducible refine (must_one HS.out (ask_one HS.out K1.out)).mono ?_); rintro e w2 ⟨rfl, hg⟩; have HS2 := Lib.hid hg; clear hg)
          | (go_at_call 79; (with_reducible refine (must_two HS2.out (ask_two HS2.out Hz.out HL.out Hx.out HH.out K2.out)).mono ?_); rintro e w3 ⟨rfl, hg⟩; have HS3 := Lib.hid hg; clear hg)
          | (go_at_call 79; (with_reducible refine (must_three HS3.out (ask_three HS3.out Hz.out Hz3.out HL.out Hx.out HM.out HR.out HR4.out HN.out HsN.out HP.out K3.out)).mono ?_); rintro e w4 ⟨rfl, hg⟩; have HS4 := Lib.hid hg; clear hg))
        have hz5 := Hz5.out
        rw [Prod.mk.injEq, Prod.mk.injEq, Prod.mk.injEq, Prod.mk.injEq] at hz5
        obtain ⟨rfl, rfl, rfl, rfl, rfl⟩ := hz5
        obtain ⟨f0, f1⟩ := HS4.out.flag
        obtain ⟨⟨z0, z1, z2, z3, z4, z5, z6, z7⟩, y0, y1, y2, y3, y4, y5, y6, y7⟩ := nzy HS4.out.r
        go_wp2_with fail
        have hf := filln_blk zeroN HS4.out.r
        have hst := filln_stp zeroN HS4.out.stp (show w.heap.size ≤ w.heap.size + 1 by omega)
        change bodyPost _ _ _ _ _ (fillN w4 (w.heap.size + 1) zeroN)
        generalize fillN w4 (w.heap.size + 1) zeroN = Y at hf hst ⊢
        clear z0 z1 z2 z3 z4 z5 z6 z7 y0 y1 y2 y3 y4 y5 y6 y7 f0 f1
        obtain ⟨z0, z1, z2, z3, z4, z5, z6, z7⟩ := nd_cells hf
        refine bodyPost_ret (v := .tuple #[nv zeroN, .int .i64 0, .int .i64 0, .int .i64 0, .bool false]) (by simp [results, Tryz.results53, go_sem, *]) rfl ⟨rfl, hst⟩
      · have Hz5 := Lib.hid (Hg.out.symm.trans hyes)
        have K3 := Lib.hid k3
        clear k3 hyes
        go_upto_region 11 with (first
          | (go_at_call 79; (with_reducible refine (must_one HS.out (ask_one HS.out K1.out)).mono ?_); rintro e w2 ⟨rfl, hg⟩; have HS2 := Lib.hid hg; clear hg)
          | (go_at_call 79; (with_reducible refine (must_two HS2.out (ask_two HS2.out Hz.out HL.out Hx.out HH.out K2.out)).mono ?_); rintro e w3 ⟨rfl, hg⟩; have HS3 := Lib.hid hg; clear hg)
          | (go_at_call 79; (with_reducible refine (must_three HS3.out (ask_three HS3.out Hz.out Hz3.out HL.out Hx.out HM.out HR.out HR4.out HN.out HsN.out HP.out K3.out)).mono ?_); rintro e w4 ⟨rfl, hg⟩; have HS4 := Lib.hid hg; clear hg; obtain ⟨f0, f1⟩ := HS4.out.flag))
        have hz5 := Hz5.out
        rw [Prod.mk.injEq, Prod.mk.injEq, Prod.mk.injEq, Prod.mk.injEq] at hz5
        obtain ⟨rfl, rfl, rfl, rfl, rfl⟩ := hz5
        clear f0 f1
        obtain ⟨⟨z0, z1, z2, z3, z4, z5, z6, z7⟩, y0, y1, y2, y3, y4, y5, y6, y7⟩ := nzy HS4.out.r
        obtain ⟨q0, q1, q2, q3, q4, q5, q6, q7⟩ := nd_cells HS4.out.n
        obtain ⟨x0, x1, x2, x3, x4, x5, x6, x7, x8, x9, x10⟩ := hd_cells HS4.out.h
        obtain ⟨-, -, p2⟩ := HS4.out.cells
        clear x0 x1 x2 x3 x4 x5 x6 x7 x8
        have g0 : (K : Int) + 1 ≤ 9223372036854775807 := by omega
        have hge := HS4.out.ge
        have hf := filln_blk m HS4.out.r
        have hst := filln_stp m HS4.out.stp (show w.heap.size ≤ w.heap.size + 1 by omega)
        go_region
        change Exit.then _ _ Exit.normal _ (fillN w4 (w.heap.size + 1) m).drew
        generalize fillN w4 (w.heap.size + 1) m = Y at hf hst ⊢
        clear z0 z1 z2 z3 z4 z5 z6 z7 y0 y1 y2 y3 y4 y5 y6 y7 q0 q1 q2 q3 q4 q5 q6 q7 x9 x10 p2
        obtain ⟨z0, z1, z2, z3, z4, z5, z6, z7⟩ := nd_cells hf.drew
        go_wp2
        refine bodyPost_ret (v := .tuple #[nv m, .int .i64 H.off, .int .i64 H.real, .int .i64 ((K + 1 : Nat) : Int), .bool true]) (by simp [results, Tryz.results53, go_sem, *]) rfl ⟨rfl, hst.drewN 1⟩
end Go.Proofs.YtllnnlmhbmladaaGreatDoor.Cont

