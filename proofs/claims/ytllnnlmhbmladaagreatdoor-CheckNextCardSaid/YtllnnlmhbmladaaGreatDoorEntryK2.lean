/-
  Contracts of package entry's own functions but Put: no statement is proved here.
  Contracts of package entry: several lists of blocks put together, a node's blocks, and how many: no statement is proved here.
-/
import Derived.Test.YtllnnlmhbmladaaGreatDoorEntryI
import Derived.Test.YtllnnlmhbmladaaGreatDoorNode
import Derived.Test.YtllnnlmhbmladaaGreatDoorLongK
import Derived.Test.YtllnnlmhbmladaaGreatDoorHeadGet
import Derived.Deep.RegionWith
namespace Go.Proofs.YtllnnlmhbmladaaGreatDoor.Entry
open Go.RowKit Go.Proofs.YtllnnlmhbmladaaGreatDoor.Str Go.Proofs.YtllnnlmhbmladaaGreatDoor.Base Go.Proofs.YtllnnlmhbmladaaGreatDoor.Node Go.Proofs.YtllnnlmhbmladaaGreatDoor.Head Go.Proofs.YtllnnlmhbmladaaGreatDoor.Long
open Go.Proofs.YtllnnlmhbmladaaGreatDoor.Tree (oneB)

/-- An entry as a value: the cells of a struct in a struct lie flat. -/
abbrev ev (n : Nd) : Value := nv n
def ofV (n : Nd) : Nd := if oneB n = true then n else zeroN
theorem ofV_yes {n : Nd} (h : oneB n = true) : ofV n = n := by rw [ofV, if_pos h]
theorem ofV_no {n : Nd} (h : oneB n = false) : ofV n = zeroN := by rw [ofV, if_neg (by simp [h])]

set_option maxRecDepth 100000 in
set_option maxHeartbeats 2000000 in
theorem of_s (n : Nd) (hn : SmallN n) (w : World) :
    Calls Tryz.prog 101 #[nv n] w fun e w' => e = .returned (.tuple #[ev (ofV n), .bool (oneB n)]) ∧ Stp w w' := by
  have h1 := Stp.alloc (Stp.refl w) (.cells (ncells n) 23)
  have h0 := Stp.alloc h1 (.cells (ncells zeroN) 156)
  have hw1 := h1.size
  have Hn := Lib.hid hn
  have Hb := Lib.hid ((Blk.new w 23 (ncells n)).alloc (.cells (ncells zeroN) 156))
  obtain ⟨gz, hgz⟩ : ∃ x, (w.alloc (.cells (ncells n) 23)).heap.size = x := ⟨_, rfl⟩
  have Hz0 := Blk.new (w.alloc (.cells (ncells n) 23)) 156 (ncells zeroN)
  rw [hgz] at Hz0 hw1
  have Hz := Lib.hid Hz0
  obtain ⟨q0, q1, q2, q3, q4, q5, q6, q7⟩ := nd_cells (Blk.new w 23 (ncells n))
  clear hn Hz0 h1
  obtain ⟨o, ho⟩ : ∃ o, oneB n = o := ⟨_, rfl⟩
  obtain ⟨z, hz⟩ : ∃ z, ofV n = z := ⟨_, rfl⟩
  have hzz : z = if o = true then n else zeroN := by rw [← hz, ← ho]; rfl
  rw [ho, hz]
  have Ho := Lib.hid ho
  have Hzz := Lib.hid hzz
  clear ho hz hzz
  go_enter Tryz.func101, Tryz.ntmps101
  go_wp2_with (go_at_call 77; go_loud ((with_reducible refine (Tree.tone_s n Hn.out _).mono ?_); rintro e w1 ⟨rfl, hs⟩; rw [Ho.out]; replace h0 := Stp.trans h0 hs; replace Hb := Lib.hid (Hb.out.keep hs Hb.out.lt); replace Hz := Lib.hid (Hz.out.keep hs Hz.out.lt); clear hs q0 q1 q2 q3 q4 q5 q6 q7; obtain ⟨q0, q1, q2, q3, q4, q5, q6, q7⟩ := nd_cells Hb.out; obtain ⟨⟨z0, z1, z2, z3, z4, z5, z6, z7⟩, y0, y1, y2, y3, y4, y5, y6, y7⟩ := nzy Hz.out))
  · have ho : o = false := by simpa using ‹(!o) = true›
    subst ho
    have hz := Hzz.out
    rw [if_neg (by decide)] at hz
    subst hz
    have hf := filln_blk zeroN Hz.out
    have hst := filln_stp zeroN h0 hw1
    change bodyPost _ _ _ _ _ (fillN w1 gz zeroN)
    generalize fillN w1 gz zeroN = W at hf hst ⊢
    clear z0 z1 z2 z3 z4 z5 z6 z7 y0 y1 y2 y3 y4 y5 y6 y7
    obtain ⟨z0, z1, z2, z3, z4, z5, z6, z7⟩ := nd_cells hf
    refine bodyPost_ret (v := .tuple #[ev zeroN, .bool false]) (by simp [results, Tryz.results101, go_sem, *]) rfl ⟨rfl, hst⟩
  · have ho : o = true := by simpa using ‹(!o) = false›
    subst ho
    have hz := Hzz.out
    rw [if_pos rfl] at hz
    subst hz
    have hf := filln_blk z Hz.out
    have hst := filln_stp z h0 hw1
    change bodyPost _ _ _ _ _ (fillN w1 gz z)
    generalize fillN w1 gz z = W at hf hst ⊢
    clear z0 z1 z2 z3 z4 z5 z6 z7 y0 y1 y2 y3 y4 y5 y6 y7
    obtain ⟨z0, z1, z2, z3, z4, z5, z6, z7⟩ := nd_cells hf
    refine bodyPost_ret (v := .tuple #[ev z, .bool true]) (by simp [results, Tryz.results101, go_sem, *]) rfl ⟨rfl, hst⟩

set_option maxRecDepth 100000 in
set_option maxHeartbeats 4000000 in
theorem header_s (n : Nd) (hn : SmallN n) (w : World) :
    Calls Tryz.prog 102 #[nv n] w fun e w' => e = .returned (hv (headE n)) ∧ Stp w w' := by
  have h1 := Stp.alloc (Stp.refl w) (.cells (ncells n) 154)
  have h0 := Stp.alloc h1 (.cells (hcells zeroH) 77)
  have hw1 := h1.size
  have Hn := Lib.hid hn
  have Hb := Lib.hid ((Blk.new w 154 (ncells n)).alloc (.cells (hcells zeroH) 77))
  obtain ⟨gz, hgz⟩ : ∃ x, (w.alloc (.cells (ncells n) 154)).heap.size = x := ⟨_, rfl⟩
  have Hz0 := Blk.new (w.alloc (.cells (ncells n) 154)) 77 (hcells zeroH)
  rw [hgz] at Hz0 hw1
  have Hz := Lib.hid Hz0
  obtain ⟨q0, q1, q2, q3, q4, q5, q6, q7⟩ := nd_cells Hb.out
  obtain ⟨H, hH⟩ : ∃ H, headE n = H := ⟨_, rfl⟩
  have HH := Lib.hid hH
  rw [hH]
  clear hn Hz0 h1 hH
  go_enter Tryz.func102, Tryz.ntmps102
  go_wp2_with (go_at_call 126; go_loud ((with_reducible refine (names_s n Hn.out _).mono ?_); rintro e w1 ⟨rfl, hs⟩; replace h0 := Stp.trans h0 hs; replace Hb := Lib.hid (Hb.out.keep hs Hb.out.lt); replace Hz := Lib.hid (Hz.out.keep hs Hz.out.lt); clear hs q0 q1 q2 q3 q4 q5 q6 q7; obtain ⟨q0, q1, q2, q3, q4, q5, q6, q7⟩ := nd_cells Hb.out; obtain ⟨⟨z0, z1, z2, z3, z4, z5, z6, z7, z8, z9, z10⟩, y0, y1, y2, y3, y4, y5, y6, y7, y8, y9, y10⟩ := zy Hz.out))
  have hH2 := HH.out
  have hf := fill_blk H Hz.out
  have hst := fill_stp H h0 hw1
  subst hH2
  change bodyPost _ _ _ _ _ (fillW w1 gz (headE n))
  generalize fillW w1 gz (headE n) = W at hf hst ⊢
  clear z0 z1 z2 z3 z4 z5 z6 z7 z8 z9 z10 y0 y1 y2 y3 y4 y5 y6 y7 y8 y9 y10
  obtain ⟨z0, z1, z2, z3, z4, z5, z6, z7, z8, z9, z10⟩ := hd_cells hf
  refine bodyPost_ret (v := hv (headE n)) (by simp [results, Tryz.results102, go_sem, *]) rfl ⟨rfl, hst⟩

theorem zero_small : SmallN zeroN := by constructor <;> simp [zeroN]
theorem of_small {n : Nd} (hn : SmallN n) : SmallN (ofV n) := by
  unfold ofV
  split
  · exact hn
  · exact zero_small
theorem data_of (n : Nd) : BlockM.manyN (ofV n).data.length = dataE n := by
  unfold ofV dataE
  split
  · rfl
  · rfl

set_option maxRecDepth 100000 in
set_option maxHeartbeats 2000000 in
theorem edata_s (n : Nd) (hn : SmallN n) (w : World) :
    Calls Tryz.prog 69 #[nv n] w fun e w' => e = .returned (.int .i64 (dataE n : Int)) ∧ Stp w w' := by
  have h0 := Stp.alloc (Stp.refl w) (.cells (ncells n) 23)
  have Hn := Lib.hid hn
  have Hb := Lib.hid (Blk.new w 23 (ncells n))
  obtain ⟨q0, q1, q2, q3, q4, q5, q6, q7⟩ := nd_cells Hb.out
  have Hd := Lib.hid (data_of n)
  have Hz := Lib.hid (of_small hn)
  obtain ⟨z, hz⟩ : ∃ z, ofV n = z := ⟨_, rfl⟩
  rw [hz] at Hd Hz
  have Ho := Lib.hid hz
  clear hn hz
  go_enter Tryz.func69, Tryz.ntmps69
  go_wp2_with (first
    | (go_at_call 101; (with_reducible refine (of_s n Hn.out _).mono ?_); rintro e w1 ⟨rfl, hs⟩; rw [Ho.out]; replace h0 := Stp.trans h0 hs; clear hs)
    | (go_at_call 64; (with_reducible refine (Block.many_s (z.data.length : Int) _ (by have := Hz.out.data; omega) (by omega)).mono ?_); rintro e w2 ⟨rfl, hs⟩; rw [BlockM.manyV_nat, Hd.out]; replace h0 := Stp.trans (Stp.alloc h0 _) hs; clear hs))
  all_goals go_ret
  all_goals exact ⟨rfl, h0⟩
end Go.Proofs.YtllnnlmhbmladaaGreatDoor.Entry

namespace Go.Proofs.YtllnnlmhbmladaaGreatDoor.Entry
open Go.RowKit Go.Proofs.YtllnnlmhbmladaaGreatDoor.Str Go.Proofs.YtllnnlmhbmladaaGreatDoor.Base Go.Proofs.YtllnnlmhbmladaaGreatDoor.Node Go.Proofs.YtllnnlmhbmladaaGreatDoor.Head Go.Proofs.YtllnnlmhbmladaaGreatDoor.Long
open Go.Proofs.YtllnnlmhbmladaaGreatDoor.Tree (oneB)

/-- A row of lists of blocks. -/
structure RdLL (w : World) (g n cap : Nat) (lss : List (List L)) : Prop where
  len : lss.length = n
  le : n ≤ cap
  lt : g < w.heap.size
  at_ : ∀ (j : Nat) (ls : List L), lss[j]? = some ls → ∃ A c, w.cell? ⟨g, j, none⟩ = some (.slice A ls.length c) ∧ RdL w A c ls
theorem RdLL.keep {w w' : World} {g n cap : Nat} {lss : List (List L)} (h : RdLL w g n cap lss) (hs : Stp w w') : RdLL w' g n cap lss :=
  ⟨h.len, h.le, Nat.lt_of_lt_of_le h.lt hs.size, fun j ls hj => by
    obtain ⟨A, c, h1, h2⟩ := h.at_ j ls hj
    exact ⟨A, c, (hs.cell (p := ⟨g, j, none⟩) h.lt).trans h1, h2.keep hs⟩⟩
theorem RdLL.three {w : World} {g : Nat} {t : TypeId} {A B C : Option Addr} {a b c x y z : Nat} {p q r : List L} (h : Blk w g t #[.slice A x a, .slice B y b, .slice C z c])
    (hp : RdL w A a p) (hx : p.length = x) (hq : RdL w B b q) (hy : q.length = y) (hr : RdL w C c r) (hz : r.length = z) : RdLL w g 3 3 [p, q, r] := by
  subst hx hy hz
  refine ⟨rfl, Nat.le_refl _, h.lt, fun j ls hj => ?_⟩
  match j, hj with
  | 0, hj =>
    simp only [List.getElem?_cons_zero, Option.some.injEq] at hj
    subst hj
    exact ⟨A, a, by rw [h.cell]; rfl, hp⟩
  | 1, hj =>
    simp only [List.getElem?_cons_succ, List.getElem?_cons_zero, Option.some.injEq] at hj
    subst hj
    exact ⟨B, b, by rw [h.cell]; rfl, hq⟩
  | 2, hj =>
    simp only [List.getElem?_cons_succ, List.getElem?_cons_zero, Option.some.injEq] at hj
    subst hj
    exact ⟨C, c, by rw [h.cell]; rfl, hr⟩
  | j + 3, hj => simp at hj
theorem flat_step {lss : List (List L)} {k : Nat} {x : List L} (h : lss[k]? = some x) : (lss.take (k + 1)).flatten = (lss.take k).flatten ++ x := by
  rw [List.take_add_one, h]
  simp
theorem flat_take (lss : List (List L)) (k : Nat) : ((lss.take k).flatten).length ≤ lss.flatten.length := by
  conv => rhs; rw [← List.take_append_drop k lss, List.flatten_append, List.length_append]
  omega
theorem flat_room {lss : List (List L)} {k : Nat} {x : List L} {N : Nat} (h : lss[k]? = some x) (hN : lss.flatten.length ≤ N) : (lss.take k).flatten.length + x.length ≤ N := by
  have := flat_take lss (k + 1)
  rw [flat_step h, List.length_append] at this
  omega

set_option maxRecDepth 100000 in
set_option maxHeartbeats 2000000 in
theorem join_s (lss : List (List L)) (g n cap : Nat) (w : World) (hv : RdLL w g n cap lss) (hl : lss.flatten.length ≤ 1000000000) (hn : n < 1000000) :
    Calls Tryz.prog 103 #[.slice (some ⟨g, 0, none⟩) n cap] w fun e w' => ∃ v, e = .returned v ∧ Base.Rows w' w.heap.size 46 v lss.flatten ∧ Stp w w' := by
  obtain ⟨r, hr⟩ : ∃ r, lss.flatten = r := ⟨_, rfl⟩
  have Hr := Lib.hid hr
  have hlen := hv.len
  have Hv := Lib.hid hv
  have Hl := Lib.hid hl
  rw [hr]
  clear hr hv hl
  go_enter Tryz.func103, Tryz.ntmps103
  go_wp2_with fail
  go_loopw [3, 8] (fun v i wr => ∃ k : Nat, k ≤ n ∧ i = .int .i64 (k : Int) ∧ Hid (Base.Rows wr w.heap.size 46 v (lss.take k).flatten) ∧ Hid (Stp w wr)) (fun _ i _ => n - (intOf i).toNat)
  case atStart => exact ⟨0, by omega, rfl, Lib.hid (Base.Rows.nil _ _ _), Lib.hid (Stp.refl w)⟩
  case round =>
    obtain ⟨k, hk, rfl, HR, H1⟩ := hrel
    by_cases hlt : k < n
    · obtain ⟨x, hx⟩ : ∃ x, lss[k]? = some x := ⟨_, List.getElem?_eq_getElem (by omega)⟩
      obtain ⟨A, c, hc, hL⟩ := (Hv.out.keep H1.out).at_ k x hx
      have HL := Lib.hid hL
      have Hx := Lib.hid hx
      clear hL hx
      go_wp2_with (at_builtin; refine Base.wpList_append_rows (P := Tryz.prog) rfl (.tmp 12) (.tmp 13) 36 rfl 46 Tryz.underlying36 slices_info _ rfl HR.out rfl HL.out rfl (flat_room Hx.out Hl.out) H1.out.size ?_; intro v' w4 hR4 hg4; have H4 := Lib.hid (HR.out.stp H1.out (Nat.le_refl _) hg4); rw [← flat_step Hx.out] at hR4; have HR4 := Lib.hid hR4; clear hR4 hg4)
      go_roundw
      case rel => exact ⟨k + 1, by omega, by go_num, HR4, H4⟩
      case measure => simp [intOf]; omega
    · obtain rfl : k = n := by omega
      have hR := HR.out
      rw [List.take_of_length_le (by omega), Hr.out] at hR
      have HR9 := Lib.hid hR
      clear hR
      go_wp2_with fail
      go_ret
      exact ⟨_, rfl, HR9.out, H1.out⟩

theorem rows_less {w : World} {lo lo' : Nat} {e : TypeId} {v : Value} {ls : List L} (h : Base.Rows w lo e v ls) (hl : lo' ≤ lo) : Base.Rows w lo' e v ls := by
  obtain ⟨us, h1, h2, h3, h4⟩ := h
  exact ⟨us, h1.less hl, h2, h3, h4⟩
theorem lit_rd {w : World} {A : Option Addr} {n cap : Nat} {l : L} {e : TypeId} (h : RdA w A cap (bs l)) (hn : l.length = n) : RdL (w.alloc (.cells #[.slice A n cap] e)) (some ⟨w.heap.size, 0, none⟩) 1 [l] := by
  obtain ⟨A', c', he, hL⟩ := (Rows.one (e := e) h hn).rdL
  cases he
  exact hL
theorem path_le {n : Nd} (h : oneB n = true) : n.path.length ≤ 900000 := by
  have := (PathM.mayB_iff.1 (oneF h).path).2.1
  omega
theorem link_le {n : Nd} (h : oneB n = true) : n.link.length ≤ 900000 := by
  rcases (oneF h).link with e | e
  · rw [e]; simp
  · have := (textL_iff.1 e).2.1
    omega
theorem cut_le {n : Nd} (h : oneB n = true) : (BlockM.cutV n.data).length ≤ 8 := by
  rw [BlockM.cutV_length]
  exact BlockM.manyN_small (by have := (oneF h).data; omega)
theorem ahead_le {n : Nd} (h : oneB n = true) : (aheadV n).length ≤ 4 := by
  rw [ahead_length h]
  split <;> split <;> omega
theorem put_flat {n : Nd} (h : oneB n = true) : [aheadV n, [blk (headE n)], BlockM.cutV n.data].flatten = putE n := by
  rw [putE_yes h]
  simp
theorem flat_le {n : Nd} (h : oneB n = true) : [aheadV n, [blk (headE n)], BlockM.cutV n.data].flatten.length ≤ 1000000000 := by
  have h1 := cut_le h
  have h2 := ahead_le h
  simp only [List.flatten_cons, List.flatten_nil, List.length_append, List.length_cons, List.length_nil]
  omega
theorem puta_keep {w w' : World} {A : Option Addr} {c : Nat} {l : L} (h : RdA w A c (bs l)) (hs : Stp w w') : RdA w' A c (bs l) := h.keep hs

theorem join_three {p q r : List L} {A B C : Option Addr} {a b c x y z : Nat} {t : TypeId} (w : World) {g : Nat} (hg : w.heap.size = g) (hp : RdL w A a p) (hx : p.length = x) (hq : RdL w B b q) (hy : q.length = y) (hr : RdL w C c r) (hz : r.length = z) (hl : [p, q, r].flatten.length ≤ 1000000000) :
    Calls Tryz.prog 103 #[.slice (some ⟨g, 0, none⟩) 3 3] (w.alloc (.cells #[.slice A x a, .slice B y b, .slice C z c] t)) fun e w' => ∃ v, e = .returned v ∧ Base.Rows w' w.heap.size 46 v [p, q, r].flatten ∧ Stp w w' := by
  subst hg
  have hs := Stp.alloc (Stp.refl w) (.cells #[.slice A x a, .slice B y b, .slice C z c] t)
  refine (join_s [p, q, r] _ 3 3 _ (RdLL.three (Blk.new w t #[.slice A x a, .slice B y b, .slice C z c]) (hp.keep hs) hx (hq.keep hs) hy (hr.keep hs) hz) hl (by omega)).mono ?_
  rintro e w' ⟨v, rfl, h, hs2⟩
  exact ⟨v, rfl, rows_less h hs.size, Stp.trans hs hs2⟩

set_option maxRecDepth 100000 in
set_option maxHeartbeats 4000000 in
theorem eput_r (n : Nd) (hn : SmallN n) (w : World) :
    Calls Tryz.prog 68 #[nv n] w fun e w' => ∃ v, e = .returned (.tuple #[v, .bool (oneB n)]) ∧ Base.Rows w' w.heap.size 46 v (putE n) ∧ Stp w w' := by
  have h0 := Stp.alloc (Stp.refl w) (.cells (ncells n) 23)
  have Hn := Lib.hid hn
  have Hb := Lib.hid (Blk.new w 23 (ncells n))
  obtain ⟨q0, q1, q2, q3, q4, q5, q6, q7⟩ := nd_cells Hb.out
  clear hn
  cases ho : oneB n
  · rw [putE_no ho]
    have Ho := Lib.hid ho
    have Hz := Lib.hid (ofV_no ho)
    clear ho
    go_enter Tryz.func68, Tryz.ntmps68
    go_wp2_with (go_at_call 101; (with_reducible refine (of_s n Hn.out _).mono ?_); rintro e w1 ⟨rfl, hs⟩; rw [Ho.out, Hz.out]; replace h0 := Stp.trans h0 hs; clear hs)
    go_ret2
    exact ⟨_, rfl, Base.Rows.nil _ _ _, Stp.alloc h0 _⟩
  · have Ho := Lib.hid ho
    have Hz := Lib.hid (ofV_yes ho)
    have hP := put_flat ho
    obtain ⟨P, hPP⟩ : ∃ P, putE n = P := ⟨_, rfl⟩
    rw [hPP] at hP ⊢
    have HP := Lib.hid hP
    have Hfl := Lib.hid (flat_le ho)
    obtain ⟨AA, hA⟩ : ∃ x, aheadV n = x := ⟨_, rfl⟩
    obtain ⟨CC, hC⟩ : ∃ x, BlockM.cutV n.data = x := ⟨_, rfl⟩
    obtain ⟨B, hB⟩ : ∃ x, blk (headE n) = x := ⟨_, rfl⟩
    have hBl : B.length = 512 := by rw [← hB]; exact blk_length (head_may ho) (head_small ho)
    rw [hA, hC, hB] at HP Hfl
    have HA := Lib.hid hA
    have HC := Lib.hid hC
    have HB := Lib.hid ((putB_yes (head_may ho)).trans hB)
    have HBl := Lib.hid hBl
    have Hm := Lib.hid (head_may ho)
    have Hsm := Lib.hid (head_small ho)
    have Hd := Lib.hid (show n.data.length ≤ 1000000 by have := (oneF ho).data; omega)
    have Hp := Lib.hid (path_le ho)
    have Hk := Lib.hid (link_le ho)
    clear ho hP hPP hA hC hB hBl
    go_enter Tryz.func68, Tryz.ntmps68
    go_wp2_with (first
      | (go_at_call 101; (with_reducible refine (of_s n Hn.out _).mono ?_); rintro e w1 ⟨rfl, hs⟩; rw [Ho.out, Hz.out]; replace Hb := Lib.hid (Hb.out.keep hs Hb.out.lt); replace h0 := Stp.trans h0 hs; clear hs q0 q1 q2 q3 q4 q5 q6 q7)
      | (go_at_call 102; (with_reducible refine (header_s n Hn.out _).mono ?_); rintro e w2 ⟨rfl, hs⟩; replace Hb := Lib.hid ((Hb.out.alloc _).keep hs (Hb.out.alloc _).lt); replace h0 := Stp.trans (Stp.alloc h0 _) hs; clear hs)
      | (go_at_call 57; (with_reducible refine (put_v (headE n) _ rfl Hsm.out _).mono ?_); rintro e w4 ⟨A4, c4, rfl, hr, hs⟩; rw [HB.out] at hr; rw [HB.out, HBl.out, Hm.out]; have Hr := Lib.hid hr; replace Hb := Lib.hid (Hb.out.keep hs Hb.out.lt); replace h0 := Stp.trans h0 hs; clear hs hr; obtain ⟨q0, q1, q2, q3, q4, q5, q6, q7⟩ := nd_cells Hb.out))
    have hst : Stp w4 w4.drew := Stp.drewN (Stp.refl _) 1
    replace Hb := Lib.hid (Hb.out.keep hst Hb.out.lt)
    replace Hr := Lib.hid (puta_keep Hr.out hst)
    replace h0 : Stp w w4.drew := Stp.trans h0 hst
    clear hst
    have hb4 : w.heap.size < w4.heap.size := Hb.out.lt
    have Hm3 := Lib.hid (show 3 < 1000000 by omega)
    have Hone := Lib.hid (show [B].length = 1 from rfl)
    go_region_with (first
      | (go_at_call 104; (with_reducible refine (ahead_v n _ rfl Hn.out Hp.out Hk.out _).mono ?_); rintro e w5 ⟨A5, c5, rfl, h5, hs⟩; rw [HA.out] at h5; rw [HA.out]; have H5 := Lib.hid h5
         first
           | (have hl : RdL w5 (some ⟨w4.heap.size, 0, none⟩) 1 [B] := (lit_rd Hr.out HBl.out).keep hs; have Hl := Lib.hid hl; replace h0 := Stp.trans (Stp.alloc h0 _) hs; replace Hb := Lib.hid ((Hb.out.alloc _).keep hs (Hb.out.alloc _).lt); clear hl hs h5)
           | (replace h0 := Stp.trans h0 hs; replace Hr := Lib.hid (puta_keep Hr.out hs); replace Hb := Lib.hid (Hb.out.keep hs Hb.out.lt); clear hs h5)
         clear q0 q1 q2 q3 q4 q5 q6 q7; have hb5 := Hb.out.lt; obtain ⟨q0, q1, q2, q3, q4, q5, q6, q7⟩ := nd_cells Hb.out)
      | (go_at_call 40; (with_reducible refine (cut_v n.data _ rfl CC HC.out CC.length rfl _ Hd.out).mono ?_); rintro e w6 ⟨A6, c6, rfl, h6, hs⟩; have H6 := Lib.hid h6
         first
           | (have hl := (lit_rd Hr.out HBl.out).keep hs; have Hl := Lib.hid hl; replace h0 := Stp.trans (Stp.alloc h0 _) hs; replace H5 := Lib.hid ((H5.out.keep (Stp.alloc (Stp.refl _) _)).keep hs); clear hl hs h6)
           | (replace Hl := Lib.hid (Hl.out.keep hs); replace h0 := Stp.trans h0 hs; replace H5 := Lib.hid (H5.out.keep hs); clear hs h6)
           | (replace h0 := Stp.trans h0 hs; replace Hr := Lib.hid (puta_keep Hr.out hs); replace H5 := Lib.hid (H5.out.keep hs); clear hs h6)
         clear q0 q1 q2 q3 q4 q5 q6 q7)
      | (go_at_call 103
         first
           | ((with_reducible refine (join_three w6 rfl H5.out rfl Hl.out Hone.out H6.out rfl Hfl.out).mono ?_); rintro e w7 ⟨v7, rfl, h7, hs⟩; have H7 := Lib.hid (rows_less h7 h0.size); replace h0 := Stp.trans h0 hs; clear h7 hs)
           | ((with_reducible refine (join_three (w6.alloc (.cells #[.slice A4 512 c4] 46)) (World.size_alloc _ _) (H5.out.keep (Stp.alloc (Stp.refl _) _)) rfl (lit_rd Hr.out HBl.out) Hone.out (H6.out.keep (Stp.alloc (Stp.refl _) _)) rfl Hfl.out).mono ?_); rintro e w7 ⟨v7, rfl, h7, hs⟩; have H7 := Lib.hid (rows_less h7 (Stp.alloc h0 (.cells #[.slice A4 512 c4] 46)).size); replace h0 := Stp.trans (Stp.alloc h0 _) hs; clear h7 hs)))
    all_goals go_wp2_with fail
    all_goals go_ret2
    all_goals (rw [← HP.out]; exact ⟨_, rfl, H7.out, h0⟩)
end Go.Proofs.YtllnnlmhbmladaaGreatDoor.Entry

