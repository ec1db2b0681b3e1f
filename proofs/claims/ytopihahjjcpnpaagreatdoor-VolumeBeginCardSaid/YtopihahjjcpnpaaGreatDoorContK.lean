/-
  What the walks of package cont's laws ask of its code, and the chapter's example: no statement is proved here.
  Contracts of package cont's own functions: which nodes go on, what stands ahead, the header, lists put together, and May, Many, Put: no statement is proved here.
-/
import Derived.Test.YtopihahjjcpnpaaGreatDoorContM
import Derived.Test.YtopihahjjcpnpaaGreatDoorLongTx
import Derived.Test.YtopihahjjcpnpaaGreatDoorHeadMay
import Derived.Test.YtopihahjjcpnpaaGreatDoorBlockRef
import Derived.Test.YtopihahjjcpnpaaGreatDoorLongK
import Derived.Test.YtopihahjjcpnpaaGreatDoorTreeC4
import Derived.Deep.RegionWith
import Derived.StillTailTactics
import Derived.Deep.Cut
namespace Go.Proofs.YtopihahjjcpnpaaGreatDoor.Cont
open Go.RowKit Go.Proofs.YtopihahjjcpnpaaGreatDoor.Str Go.Proofs.YtopihahjjcpnpaaGreatDoor.Base Go.Proofs.YtopihahjjcpnpaaGreatDoor.Node Go.Proofs.YtopihahjjcpnpaaGreatDoor.Head Go.Proofs.YtopihahjjcpnpaaGreatDoor.Long Go.Proofs.YtopihahjjcpnpaaGreatDoor.ContM
open Go.Proofs.YtopihahjjcpnpaaGreatDoor.Tree (oneB)
set_option linter.unusedVariables false
abbrev L := List UInt8

def exC (t : L) : Nd := ⟨[97], [], 48, 0, 0, 0, 0, t⟩
theorem exC_facts {t : L} (ht : List.replicate 1000 0 = t) : mayC (exC t) 512 = true ∧ mayC (exC t) 1024 = false ∧ manyC (exC t) = 1 ∧ (putC (exC t) 512).length = 1 ∧ getC (putC (exC t) 512) = (exC [], 512, 1000, 1, true) := by
  subst ht
  have h1 : mayC (exC (List.replicate 1000 0)) 512 = true := by decide +kernel
  have h2 : mayC (exC (List.replicate 1000 0)) 1024 = false := by decide +kernel
  have h3 : manyC (exC (List.replicate 1000 0)) = 1 := by decide +kernel
  have h4 := putC_length h1
  rw [h3] at h4
  have h5 : (putC (exC (List.replicate 1000 0)) 512).length = 1 := by omega
  have h6 := get_of (l := putC (exC (List.replicate 1000 0)) 512) h1 (by rw [List.take_length])
  rw [h5] at h6
  refine ⟨h1, h2, h3, h5, h6.trans ?_⟩
  have : (exC (List.replicate 1000 0)).data.length = 1000 := by show (List.replicate 1000 (0 : UInt8)).length = 1000; rw [List.length_replicate]
  rw [this]
  rfl
theorem bs_noughts (k : Nat) : (bs (List.replicate k 0)).toArray = Array.replicate k (.int .u8 0) := by simp [bs]
theorem nou_conv {w1 : World} {g : Nat} {t : L} (k : Nat) (hk : k ≤ 100000) (ht : List.replicate k 0 = t) (hb : Blk w1 g 5 (Array.replicate k (.int .u8 0))) :
    (convert 43 9 (.slice (some ⟨g, 0, none⟩) k k)).run Tryz.prog w1 = .ok (.string ⟨t.toArray⟩) w1 := by
  subst ht
  rw [← bs_noughts] at hb
  have h := (Base.Own.of_blk (lo := 0) hb (Nat.zero_le _) (n := k) (by rw [List.size_toArray, bs_length, List.length_replicate]) (by unfold maxLen; omega)).rd
  rw [List.toList_toArray] at h
  have h2 := run_string_rd (P := Tryz.prog) w1 43 9 5 Tryz.underlying43 Tryz.underlying5 Tryz.underlying9 _ _ _ h
  exact h2
theorem made_stp {w w1 : World} (hg1 : w.grownBy w1 none) : Stp w w1 := ⟨hg1.os, hg1.tape, hg1.output, hg1.size, fun j hj => hg1.block j hj (by simp)⟩
end Go.Proofs.YtopihahjjcpnpaaGreatDoor.Cont

namespace Go.Proofs.YtopihahjjcpnpaaGreatDoor.Cont
open Go.RowKit Go.Proofs.YtopihahjjcpnpaaGreatDoor.Str Go.Proofs.YtopihahjjcpnpaaGreatDoor.Base Go.Proofs.YtopihahjjcpnpaaGreatDoor.Node Go.Proofs.YtopihahjjcpnpaaGreatDoor.Head Go.Proofs.YtopihahjjcpnpaaGreatDoor.Long Go.Proofs.YtopihahjjcpnpaaGreatDoor.ContM
open Go.Proofs.YtopihahjjcpnpaaGreatDoor.Tree (oneB)
set_option linter.unusedVariables false

theorem kkind (n : Nd) : ((n.kind.toNat : Int) == 48) = decide (n.kind = 48) := ty_eq n.kind 48 (by omega)
set_option maxRecDepth 100000 in
set_option maxHeartbeats 4000000 in
theorem isfile_s (n : Nd) (v : Value) (hv : v = nv n) (hn : SmallN n) (b : Bool) (hb : isFile n = b) (w : World) :
    Calls Tryz.prog 109 #[v] w fun e w' => e = .returned (.bool b) ∧ Stp w w' := by
  subst hv
  have h0 := Stp.alloc (Stp.refl w) (.cells (ncells n) 52)
  have Hn := Lib.hid hn
  obtain ⟨q0, q1, q2, q3, q4, q5, q6, q7⟩ := nd_cells (Blk.new w 52 (ncells n))
  obtain ⟨b1, k1⟩ : ∃ b, oneB n = b := ⟨_, rfl⟩
  obtain ⟨b2, k2⟩ : ∃ b, ((n.kind.toNat : Int) == 48) = b := ⟨_, rfl⟩
  have hb2 : (b1 && b2) = b := by rw [← hb, isFile, ← kkind, k1, k2]
  have K1 := Lib.hid k1
  have Hb2 := Lib.hid hb2
  clear hn k1 hb hb2
  cases b2
  · go_enter Tryz.func109, Tryz.ntmps109
    go_wp2_with fail
    go_ret
    exact ⟨by rw [← Hb2.out]; simp, h0⟩
  · go_enter Tryz.func109, Tryz.ntmps109
    go_wp2_with (go_at_call 146; (with_reducible refine (Tree.tone_s n Hn.out _).mono ?_); rintro e w1 ⟨rfl, hs⟩; rw [K1.out]; replace h0 := Stp.trans h0 hs; clear hs q0 q1 q2 q3 q4 q5 q6 q7)
    go_ret
    exact ⟨by rw [← Hb2.out]; simp, h0⟩

theorem nil_rd (w : World) : ∃ A c, (Value.slice none 0 0) = .slice A 0 c ∧ RdL w A c [] := by
  obtain ⟨A, c, h, hL⟩ := (Base.Rows.nil w w.heap.size 43).rdL
  exact ⟨A, c, h, hL⟩
set_option maxRecDepth 100000 in
set_option maxHeartbeats 4000000 in
theorem cahead_s (p : L) (hp : textL p = true) (ls : List L) (hls : aheadC p = ls) (z : Nat) (hz : ls.length = z) (w : World) :
    Calls Tryz.prog 71 #[.string ⟨p.toArray⟩] w fun e w' => ∃ A c, e = .returned (.slice A z c) ∧ RdL w' A c ls ∧ Stp w w' := by
  have h0 := Stp.refl w
  have hl := (textL_iff.1 hp).2.1
  by_cases h : 100 < p.length
  · have hok : putOkL 76 p = true := putOkL_iff.2 ⟨.inr rfl, hp⟩
    have e : putLs 76 p = ls := by rw [← hls, aheadC, if_pos h, putLs_yes hok]
    have k1 : decide ((p.length : Int) ≤ 100) = false := decide_eq_false (by omega)
    have HE := Lib.hid e
    have HZ := Lib.hid hz
    have Hl := Lib.hid (show p.length ≤ 900000 by omega)
    clear hls hok e hz hp hl h
    go_enter Tryz.func71, Tryz.ntmps71
    go_wp2_with (go_at_call 110; (with_reducible refine (lput_v 76 76 rfl p _ Hl.out).mono ?_); rintro e w1 ⟨A, c, rfl, hr, hs⟩; rw [HE.out] at hr; rw [HE.out, HZ.out]; have HR := Lib.hid hr; replace h0 := Stp.trans h0 hs; clear hs hr)
    go_ret
    exact ⟨A, c, rfl, HR.out, h0⟩
  · have e : [] = ls := by rw [← hls, aheadC, if_neg h]
    subst e
    subst hz
    have k1 : decide ((p.length : Int) ≤ 100) = true := decide_eq_true (by omega)
    clear hls hp hl h
    go_enter Tryz.func71, Tryz.ntmps71
    go_wp2_with fail
    go_ret
    obtain ⟨A, c, h, hL⟩ := nil_rd w
    exact ⟨A, c, congrArg _ h, hL, h0⟩
theorem cut_min (p : L) (m : Int) (hm : m = min (p.length : Int) 100) (w : World) : (Instr.slice 9 (.string ⟨p.toArray⟩) none (some (.int .i64 m)) none).run Tryz.prog w = .ok (.string ⟨(p.take 100).toArray⟩) w := by
  have e : m = ((min p.length 100 : Nat) : Int) := by omega
  have h := cut_h p (min p.length 100) (by omega) w
  have h2 : p.take (min p.length 100) = p.take 100 := by
    by_cases h : p.length ≤ 100
    · rw [Nat.min_eq_left h, List.take_length, List.take_of_length_le h]
    · rw [Nat.min_eq_right (by omega)]
  rw [h2] at h
  rw [e]
  exact h
theorem min_run (p : L) (a : Array TypeId) (t : TypeId) (w : World) : (Builtin.min_ a t #[.int .i64 (p.length : Int), .int .i64 100]).run Tryz.prog w = .ok (.int .i64 (min (p.length : Int) 100)) w := by
  unfold Builtin.min_
  have e : (if (100 : Int) < (p.length : Int) then (100 : Int) else (p.length : Int)) = min (p.length : Int) 100 := by split <;> omega
  rw [← e]
  rfl
set_option maxRecDepth 100000 in
set_option maxHeartbeats 1000000 in
theorem chead_s (n : Nd) (v : Value) (hv : v = nv n) (hn : SmallN n) (off : Int) (hm : mayC n off = true) (H : Hd) (hH : headC n off = H) (w : World) :
    Calls Tryz.prog 69 #[v, .int .i64 off] w fun e w' => e = .returned (Head.hv H) ∧ Stp w w' := by
  subst hv
  have h1 := Stp.alloc (Stp.refl w) (.cells (ncells n) 52)
  have h0 := Stp.alloc h1 (.cells (hcells zeroH) 76)
  have hw1 := h1.size
  have Hb := Lib.hid ((Blk.new w 52 (ncells n)).alloc (.cells (hcells zeroH) 76))
  obtain ⟨gz, hgz⟩ : ∃ x, (w.alloc (.cells (ncells n) 52)).heap.size = x := ⟨_, rfl⟩
  have Hz0 := Blk.new (w.alloc (.cells (ncells n) 52)) 76 (hcells zeroH)
  have hgl : w.heap.size < gz := by rw [← hgz, World.size_alloc]; omega
  rw [hgz] at Hz0 hw1
  have Hz := Lib.hid Hz0
  obtain ⟨W, hW⟩ : ∃ W, (w.alloc (.cells (ncells n) 52)).alloc (.cells (hcells zeroH) 76) = W := ⟨_, rfl⟩
  obtain ⟨hf, g1, g2, -⟩ := mayC_iff.1 hm
  have g3 := (Entry.oneF (isFile_iff.1 hf).1).data
  have g4 : (n.data.length : Int) ≤ 4000 := by omega
  have c1 := fun m hm w => cut_min n.path m hm w
  have HH := Lib.hid hH
  clear hn Hz0 h1 hH hm hf g3
  go_enter Tryz.func69, Tryz.ntmps69
  go_upto_region 1 with fail
  change Code.wp _ _ _ _ ((w.alloc (.cells (ncells n) 52)).alloc (.cells (hcells zeroH) 76))
  rw [hW] at h0 Hb Hz ⊢
  obtain ⟨q0, q1, q2, q3, q4, q5, q6, q7⟩ := nd_cells Hb.out
  obtain ⟨⟨z0, z1, z2, z3, z4, z5, z6, z7, z8, z9, z10⟩, y0, y1, y2, y3, y4, y5, y6, y7, y8, y9, y10⟩ := zy Hz.out
  have c2 := min_run n.path
  have c3 := fun w => cut_min n.path _ rfl w
  obtain ⟨mn, hmn⟩ : ∃ m, min (n.path.length : Int) 100 = m := ⟨_, rfl⟩
  rw [hmn] at c2 c3
  clear hmn c1
  clear hW
  go_still_tail 25, (by kernel_rfl)
  change wpList _ _ _ _ _ W.drew
  have hst : Stp W W.drew := Stp.drewN (Stp.refl _) 1
  replace h0 := Stp.trans h0 hst
  replace Hb := Lib.hid (Hb.out.keep hst Hb.out.lt)
  replace Hz := Lib.hid (Hz.out.keep hst Hz.out.lt)
  generalize W.drew = W2 at h0 Hb Hz
  clear hst q0 q1 q2 q3 q4 q5 q6 q7 z0 z1 z2 z3 z4 z5 z6 z7 z8 z9 z10 y0 y1 y2 y3 y4 y5 y6 y7 y8 y9 y10
  obtain ⟨q0, q1, q2, q3, q4, q5, q6, q7⟩ := nd_cells Hb.out
  obtain ⟨⟨z0, z1, z2, z3, z4, z5, z6, z7, z8, z9, z10⟩, y0, y1, y2, y3, y4, y5, y6, y7, y8, y9, y10⟩ := zy Hz.out
  go_wp2_with fail
  have hH2 := HH.out
  have hf := fill_blk H Hz.out
  have hst := fill_stp H h0 hw1
  subst hH2
  change bodyPost _ _ _ _ _ (fillW W2 gz (headC n off))
  generalize fillW W2 gz (headC n off) = W at hf hst ⊢
  clear z0 z1 z2 z3 z4 z5 z6 z7 z8 z9 z10 y0 y1 y2 y3 y4 y5 y6 y7 y8 y9 y10
  obtain ⟨z0, z1, z2, z3, z4, z5, z6, z7, z8, z9, z10⟩ := hd_cells hf
  refine bodyPost_ret (v := hv (headC n off)) (by simp [results, Tryz.results69, go_sem, *]) rfl ⟨rfl, hst⟩

/-- A row of lists of blocks. -/
structure KdLL (w : World) (g n cap : Nat) (lss : List (List L)) : Prop where
  len : lss.length = n
  le : n ≤ cap
  lt : g < w.heap.size
  at_ : ∀ (j : Nat) (ls : List L), lss[j]? = some ls → ∃ A c, w.cell? ⟨g, j, none⟩ = some (.slice A ls.length c) ∧ RdL w A c ls
theorem KdLL.keep {w w' : World} {g n cap : Nat} {lss : List (List L)} (h : KdLL w g n cap lss) (hs : Stp w w') : KdLL w' g n cap lss :=
  ⟨h.len, h.le, Nat.lt_of_lt_of_le h.lt hs.size, fun j ls hj => by
    obtain ⟨A, c, h1, h2⟩ := h.at_ j ls hj
    exact ⟨A, c, (hs.cell (p := ⟨g, j, none⟩) h.lt).trans h1, h2.keep hs⟩⟩
theorem KdLL.two {w : World} {g : Nat} {t : TypeId} {A B : Option Addr} {a b x y : Nat} {p q : List L} (h : Blk w g t #[.slice A x a, .slice B y b])
    (hp : RdL w A a p) (hx : p.length = x) (hq : RdL w B b q) (hy : q.length = y) : KdLL w g 2 2 [p, q] := by
  subst hx hy
  refine ⟨rfl, Nat.le_refl _, h.lt, fun j ls hj => ?_⟩
  match j, hj with
  | 0, hj =>
    simp only [List.getElem?_cons_zero, Option.some.injEq] at hj
    subst hj
    exact ⟨A, a, by rw [h.cell]; rfl, hp⟩
  | 1, hj =>
    simp only [List.getElem?_cons_succ, List.getElem?_cons_zero, Option.some.injEq] at hj
    subst hj
    exact ⟨B, b, by rw [h.cell]; rfl, hq⟩
  | j + 2, hj => simp at hj
theorem kflat_step {lss : List (List L)} {k : Nat} {x : List L} (h : lss[k]? = some x) : (lss.take (k + 1)).flatten = (lss.take k).flatten ++ x := by
  rw [List.take_add_one, h]
  simp
theorem kflat_take (lss : List (List L)) (k : Nat) : ((lss.take k).flatten).length ≤ lss.flatten.length := by
  conv => rhs; rw [← List.take_append_drop k lss, List.flatten_append, List.length_append]
  omega
theorem kflat_room {lss : List (List L)} {k : Nat} {x : List L} {N : Nat} (h : lss[k]? = some x) (hN : lss.flatten.length ≤ N) : (lss.take k).flatten.length + x.length ≤ N := by
  have := kflat_take lss (k + 1)
  rw [kflat_step h, List.length_append] at this
  omega
set_option maxRecDepth 100000 in
set_option maxHeartbeats 2000000 in
theorem cjoin_s (lss : List (List L)) (g n cap : Nat) (w : World) (hv : KdLL w g n cap lss) (hl : lss.flatten.length ≤ 1000000000) (hn : n < 1000000) :
    Calls Tryz.prog 70 #[.slice (some ⟨g, 0, none⟩) n cap] w fun e w' => ∃ v, e = .returned v ∧ Base.Rows w' w.heap.size 43 v lss.flatten ∧ Stp w w' := by
  obtain ⟨r, hr⟩ : ∃ r, lss.flatten = r := ⟨_, rfl⟩
  have Hr := Lib.hid hr
  have hlen := hv.len
  have Hv := Lib.hid hv
  have Hl := Lib.hid hl
  rw [hr]
  clear hr hv hl
  go_enter Tryz.func70, Tryz.ntmps70
  go_wp2_with fail
  go_loopw [3, 8] (fun v i wr => ∃ k : Nat, k ≤ n ∧ i = .int .i64 (k : Int) ∧ Hid (Base.Rows wr w.heap.size 43 v (lss.take k).flatten) ∧ Hid (Stp w wr)) (fun _ i _ => n - (intOf i).toNat)
  case atStart => exact ⟨0, by omega, rfl, Lib.hid (Base.Rows.nil _ _ _), Lib.hid (Stp.refl w)⟩
  case round =>
    obtain ⟨k, hk, rfl, HR, H1⟩ := hrel
    by_cases hlt : k < n
    · obtain ⟨x, hx⟩ : ∃ x, lss[k]? = some x := ⟨_, List.getElem?_eq_getElem (by omega)⟩
      obtain ⟨A, c, hc, hL⟩ := (Hv.out.keep H1.out).at_ k x hx
      have HL := Lib.hid hL
      have Hx := Lib.hid hx
      clear hL hx
      go_wp2_with (at_builtin; refine Base.wpList_append_rows (P := Tryz.prog) rfl (.tmp 12) (.tmp 13) 33 rfl 43 Tryz.underlying33 slices_info _ rfl HR.out rfl HL.out rfl (kflat_room Hx.out Hl.out) H1.out.size ?_; intro v' w4 hR4 hg4; have H4 := Lib.hid (HR.out.stp H1.out (Nat.le_refl _) hg4); rw [← kflat_step Hx.out] at hR4; have HR4 := Lib.hid hR4; clear hR4 hg4)
      go_roundw
      case rel => exact ⟨k + 1, by omega, by go_num, HR4, H4⟩
      case measure => simp [intOf]; omega
    · obtain rfl : k = n := by omega
      have hR := HR.out
      rw [List.take_of_length_le (by omega), Hr.out] at hR
      have HR9 := Lib.hid hR
      clear hR
      go_wp2_with fail
      go_ret
      exact ⟨_, rfl, HR9.out, H1.out⟩
theorem krows_less {w : World} {lo lo' : Nat} {e : TypeId} {v : Value} {ls : List L} (h : Base.Rows w lo e v ls) (hl : lo' ≤ lo) : Base.Rows w lo' e v ls := by
  obtain ⟨us, h1, h2, h3, h4⟩ := h
  exact ⟨us, h1.less hl, h2, h3, h4⟩
theorem klit_rd {w : World} {A : Option Addr} {n cap : Nat} {l : L} {e : TypeId} (h : RdA w A cap (bs l)) (hn : l.length = n) : RdL (w.alloc (.cells #[.slice A n cap] e)) (some ⟨w.heap.size, 0, none⟩) 1 [l] := by
  obtain ⟨A', c', he, hL⟩ := (Rows.one (e := e) h hn).rdL
  cases he
  exact hL
theorem cjoin_two {p q r : List L} {A B : Option Addr} {a b x y z : Nat} {t : TypeId} (w : World) {g : Nat} (hg : w.heap.size = g) (hp : RdL w A a p) (hx : p.length = x) (hq : RdL w B b q) (hy : q.length = y) (hr : p ++ q = r) (hz : r.length = z) (hl : z ≤ 1000000000) :
    Calls Tryz.prog 70 #[.slice (some ⟨g, 0, none⟩) 2 2] (w.alloc (.cells #[.slice A x a, .slice B y b] t)) fun e w' => ∃ A' c', e = .returned (.slice A' z c') ∧ RdL w' A' c' r ∧ Stp w w' := by
  subst hg
  have hs := Stp.alloc (Stp.refl w) (.cells #[.slice A x a, .slice B y b] t)
  have hfl : [p, q].flatten = r := by simp [← hr]
  refine (cjoin_s [p, q] _ 2 2 _ (KdLL.two (Blk.new w t #[.slice A x a, .slice B y b]) (hp.keep hs) hx (hq.keep hs) hy) (by rw [hfl, hz]; exact hl) (by omega)).mono ?_
  rintro e w' ⟨v, rfl, h, hs2⟩
  rw [hfl] at h
  obtain ⟨A', c', rfl, hL⟩ := h.rdL
  exact ⟨A', c', by rw [hz], hL, Stp.trans hs hs2⟩

set_option maxRecDepth 100000 in
set_option maxHeartbeats 4000000 in
theorem cmay_s (n : Nd) (v : Value) (hv : v = nv n) (hn : SmallN n) (off : Int) (b : Bool) (hb : mayC n off = b) (w : World) :
    Calls Tryz.prog 68 #[v, .int .i64 off] w fun e w' => e = .returned (.bool b) ∧ Stp w w' := by
  subst hv
  have h0 := Stp.alloc (Stp.refl w) (.cells (ncells n) 52)
  have Hn := Lib.hid hn
  have Hb := Lib.hid (Blk.new w 52 (ncells n))
  obtain ⟨q0, q1, q2, q3, q4, q5, q6, q7⟩ := nd_cells Hb.out
  obtain ⟨b1, k1⟩ : ∃ b, isFile n = b := ⟨_, rfl⟩
  obtain ⟨b3, k3⟩ : ∃ b, decide (0 ≤ off) = b := ⟨_, rfl⟩
  obtain ⟨b4, k4⟩ : ∃ b, decide (off < (n.data.length : Int)) = b := ⟨_, rfl⟩
  have hb2 := hb
  rw [mayC, k1, k3, k4] at hb2
  have K1 := Lib.hid k1
  by_cases hall : b1 = true ∧ b3 = true ∧ b4 = true
  · obtain ⟨rfl, rfl, rfl⟩ := hall
    have g1 : 0 ≤ off := by simpa using k3
    have g2 : off ≤ 9223372036854775807 := by
      have h4 : off < (n.data.length : Int) := by simpa using k4
      have := hn.data
      omega
    have hb3 : decide (off % 512 = 0) = b := by simpa using hb2
    obtain ⟨r, hr⟩ : ∃ r, off % 512 = r := ⟨_, rfl⟩
    rw [hr] at hb3
    have k5 : (r == 0) = b := by rw [← hb3, Bool.eq_iff_iff, beq_iff_eq, decide_eq_true_eq]
    clear hn k1 hb hb2 hb3
    go_enter Tryz.func68, Tryz.ntmps68
    go_wp2_with (go_at_call 109; (with_reducible refine (isfile_s n _ rfl Hn.out _ K1.out _).mono ?_); rintro e w1 ⟨rfl, hs⟩; replace Hb := Lib.hid (Hb.out.keep hs Hb.out.lt); replace h0 := Stp.trans h0 hs; clear hs q0 q1 q2 q3 q4 q5 q6 q7; obtain ⟨q0, q1, q2, q3, q4, q5, q6, q7⟩ := nd_cells Hb.out)
    go_ret
    exact ⟨rfl, h0⟩
  · have hbf : b = false := by
      rw [← hb2]
      cases b1 <;> cases b3 <;> cases b4 <;> simp_all
    subst hbf
    clear hn k1 hb hb2
    cases b1
    · clear k3 k4 hall
      go_enter Tryz.func68, Tryz.ntmps68
      go_wp2_with (go_at_call 109; (with_reducible refine (isfile_s n _ rfl Hn.out _ K1.out _).mono ?_); rintro e w1 ⟨rfl, hs⟩; replace Hb := Lib.hid (Hb.out.keep hs Hb.out.lt); replace h0 := Stp.trans h0 hs; clear hs q0 q1 q2 q3 q4 q5 q6 q7; obtain ⟨q0, q1, q2, q3, q4, q5, q6, q7⟩ := nd_cells Hb.out)
      go_ret
      exact ⟨rfl, h0⟩
    · cases b3
      · clear k4 hall
        go_enter Tryz.func68, Tryz.ntmps68
        go_wp2_with (go_at_call 109; (with_reducible refine (isfile_s n _ rfl Hn.out _ K1.out _).mono ?_); rintro e w1 ⟨rfl, hs⟩; replace Hb := Lib.hid (Hb.out.keep hs Hb.out.lt); replace h0 := Stp.trans h0 hs; clear hs q0 q1 q2 q3 q4 q5 q6 q7; obtain ⟨q0, q1, q2, q3, q4, q5, q6, q7⟩ := nd_cells Hb.out)
        go_ret
        exact ⟨rfl, h0⟩
      · obtain rfl : b4 = false := by simpa using hall
        clear hall
        go_enter Tryz.func68, Tryz.ntmps68
        go_wp2_with (go_at_call 109; (with_reducible refine (isfile_s n _ rfl Hn.out _ K1.out _).mono ?_); rintro e w1 ⟨rfl, hs⟩; replace Hb := Lib.hid (Hb.out.keep hs Hb.out.lt); replace h0 := Stp.trans h0 hs; clear hs q0 q1 q2 q3 q4 q5 q6 q7; obtain ⟨q0, q1, q2, q3, q4, q5, q6, q7⟩ := nd_cells Hb.out)
        go_ret
        exact ⟨rfl, h0⟩
set_option maxRecDepth 100000 in
set_option maxHeartbeats 4000000 in
theorem cput_s (n : Nd) (v : Value) (hv : v = nv n) (hn : SmallN n) (off : Int) (ls : List L) (hls : putC n off = ls) (z : Nat) (hz : ls.length = z) (b : Bool) (hb : mayC n off = b) (w : World) :
    Calls Tryz.prog 38 #[v, .int .i64 off] w fun e w' => ∃ A c, e = .returned (.tuple #[.slice A z c, .bool b]) ∧ RdL w' A c ls ∧ Stp w w' := by
  subst hv
  have h0 := Stp.alloc (Stp.refl w) (.cells (ncells n) 52)
  have Hn := Lib.hid hn
  have Hb := Lib.hid (Blk.new w 52 (ncells n))
  obtain ⟨q0, q1, q2, q3, q4, q5, q6, q7⟩ := nd_cells Hb.out
  cases b
  · rw [putC_no hb] at hls
    subst hls
    subst hz
    have Hm := Lib.hid hb
    clear hn hb
    go_enter Tryz.func38, Tryz.ntmps38
    go_wp2_with (go_at_call 68; (with_reducible refine (cmay_s n _ rfl Hn.out off false Hm.out _).mono ?_); rintro e w1 ⟨rfl, hs⟩; replace h0 := Stp.trans h0 hs; clear hs q0 q1 q2 q3 q4 q5 q6 q7)
    go_ret2
    exact ⟨none, 0, rfl, RdL.nil _, h0⟩
  · rw [putC_yes hb] at hls
    obtain ⟨a1, a2⟩ := headC_may hb
    obtain ⟨H, hH⟩ : ∃ H, headC n off = H := ⟨_, rfl⟩
    rw [hH] at a1 a2 hls
    obtain ⟨B, hB⟩ : ∃ x, blk H = x := ⟨_, rfl⟩
    have hBl : B.length = 512 := by rw [← hB]; exact blk_length a1 a2
    rw [hB] at hls
    have hPB : putB H = B := by rw [← hB]; exact if_pos a1
    obtain ⟨AA, hA⟩ : ∃ x, aheadC n.path = x := ⟨_, rfl⟩
    obtain ⟨za, hza⟩ : ∃ x, AA.length = x := ⟨_, rfl⟩
    rw [hA] at hls
    have hzz : z ≤ 1000000000 := by
      have h1 := aheadC_length n.path
      rw [hA] at h1
      rw [← hz, ← hls, List.length_append, h1]
      split <;> (simp only [List.length_cons, List.length_nil]; omega)
    have hf := (mayC_iff.1 hb).1
    have Hf := Lib.hid (path_text hf)
    have HH := Lib.hid hH
    have HPB := Lib.hid hPB
    have HBl := Lib.hid hBl
    have Ha1 := Lib.hid a1
    have Ha2 := Lib.hid a2
    have HA := Lib.hid hA
    have Hza := Lib.hid hza
    have Hls := Lib.hid hls
    have Hz := Lib.hid hz
    have Hzz := Lib.hid hzz
    have Hm := Lib.hid hb
    have Hone := Lib.hid (show [B].length = 1 from rfl)
    clear hn hb hls a1 a2 hH hB hBl hPB hA hza hzz hf hz
    go_enter Tryz.func38, Tryz.ntmps38
    go_wp2_with (first
      | (go_at_call 68; (with_reducible refine (cmay_s n _ rfl Hn.out off true Hm.out _).mono ?_); rintro e w1 ⟨rfl, hs⟩; replace Hb := Lib.hid (Hb.out.keep hs Hb.out.lt); replace h0 := Stp.trans h0 hs; clear hs q0 q1 q2 q3 q4 q5 q6 q7; obtain ⟨q0, q1, q2, q3, q4, q5, q6, q7⟩ := nd_cells Hb.out)
      | (go_at_call 69; (with_reducible refine (chead_s n _ rfl Hn.out off Hm.out H HH.out _).mono ?_); rintro e w2 ⟨rfl, hs⟩; replace Hb := Lib.hid (Hb.out.keep hs Hb.out.lt); replace h0 := Stp.trans h0 hs; clear hs q0 q1 q2 q3 q4 q5 q6 q7; obtain ⟨q0, q1, q2, q3, q4, q5, q6, q7⟩ := nd_cells Hb.out)
      | (go_at_call 67; (with_reducible refine (put_v H _ rfl Ha2.out _).mono ?_); rintro e w3 ⟨A3, c3, rfl, hr, hs⟩; rw [HPB.out] at hr; rw [HPB.out, HBl.out, Ha1.out]; have Hr := Lib.hid hr; replace Hb := Lib.hid (Hb.out.keep hs Hb.out.lt); replace h0 := Stp.trans h0 hs; clear hs q0 q1 q2 q3 q4 q5 q6 q7 hr; obtain ⟨q0, q1, q2, q3, q4, q5, q6, q7⟩ := nd_cells Hb.out)
      | (go_at_call 71; (with_reducible refine (cahead_s n.path Hf.out AA HA.out za Hza.out _).mono ?_); rintro e w4 ⟨A4, c4, rfl, hr, hs⟩; have H4 := Lib.hid (hr.keep (Stp.alloc (Stp.refl _) (.cells #[.slice A3 512 c3] 43))); have Hl4 := Lib.hid (klit_rd (e := 43) (Hr.out.keep hs) HBl.out); replace h0 := Stp.alloc (Stp.trans h0 hs) (.cells #[.slice A3 512 c3] 43); clear hs q0 q1 q2 q3 q4 q5 q6 q7 hr Hb)
      | (go_at_call 70; (with_reducible refine (cjoin_two (w4.alloc (.cells #[.slice A3 512 c3] 43)) (World.size_alloc _ _) H4.out Hza.out Hl4.out Hone.out Hls.out Hz.out Hzz.out).mono ?_); rintro e w5 ⟨A5, c5, rfl, hr, hs⟩; replace h0 := Stp.trans h0 hs; have HR5 := Lib.hid hr; clear hs hr))
    go_ret2
    exact ⟨A5, c5, rfl, HR5.out, h0⟩
end Go.Proofs.YtopihahjjcpnpaaGreatDoor.Cont

