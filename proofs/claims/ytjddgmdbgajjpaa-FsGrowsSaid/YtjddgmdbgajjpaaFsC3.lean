/-
  What the code's package fs keeps: nodes cloned, and a node put among them: no statement is proved here.
-/
import Derived.Test.YtjddgmdbgajjpaaFsC2
import Derived.Laws.CopyOwn
import Derived.Lib.Overlaps
import Derived.Lib.AppendZerosOnto
import Derived.Deep.RegionLaw
import Derived.Deep.AppendLies
namespace Go.Proofs.Ytjddgmdbgajjpaa.Fs
open Go.Sort Go.RowKit Go.Proofs.Ytjddgmdbgajjpaa.Str Go.Proofs.Ytjddgmdbgajjpaa.Base Go.Proofs.Ytjddgmdbgajjpaa.Node Go.Proofs.Ytjddgmdbgajjpaa.Long Go.Proofs.Ytjddgmdbgajjpaa.FsM
open Go.Proofs.Ytjddgmdbgajjpaa.Tree (node_info)
set_option linter.unusedVariables false

/-! ### nodes cloned -/
theorem ntc_lies {w : World} {A : Option Addr} {k : Nat} {ns : List Nd} (h : RdN w A k ns) (ad : Addr) (hA : A = some ad) : ∀ j u, (ntc ns)[j]? = some u → w.cell? (ad.add j) = some u := by
  intro j u hj
  have hne : ns ≠ [] := by rintro rfl; simp [ntc] at hj
  obtain ⟨b, o, e, -, hc⟩ := h.2 hne
  rw [hA] at e
  cases e
  rw [Addr.add_lit]
  exact hc j u hj
set_option maxRecDepth 100000 in
set_option maxHeartbeats 1000000 in
theorem clone_n (ns : List Nd) (m : Nat) (hm : ns.length = m) (hl : m ≤ 1000) (A : Option Addr) (k : Nat) (w : World) (ha : RdN w A k ns) :
    Calls Try.prog 51 #[.slice A m k] w fun e w' => ∃ v, e = .returned v ∧ w'.ownsRow w.heap.size 26 8 v m (ntc ns) ∧ Stp w w' := by
  obtain ⟨i0, hi0, hz0, hsz, hby⟩ := info_parts node_info
  have qT : ∀ (w : World) (a : Option Addr) (n c n' c' : Nat), (binOp .eql 22 (.slice a n c) (.slice none n' c')).run Try.prog w = .ok (.bool a.isNone) w := fun w a n c n' c' => Lib.run_eql_slice_nil w _ _ a n c n' c' Try.underlying22
  have Ha := Lib.hid ha
  have Hm := Lib.hid hm
  clear ha hm
  cases A with
  | none =>
    have hz : ns = [] := by
      by_cases h : ns = []
      · exact h
      · obtain ⟨b, o, e, -⟩ := Ha.out.2 h
        cases e
    subst hz
    obtain rfl : m = 0 := by rw [← Hm.out]; rfl
    go_enter Try.func51, Try.ntmps51
    go_wp2_with fail
    go_ret
    exact ⟨_, rfl, World.ownsRow_nil _ _ _ _, Stp.refl _⟩
  | some ad =>
    have H1 := Lib.hid (Stp.alloc (Stp.refl w) (.cells #[] 26))
    have HB := Lib.hid (World.ownsRow_made (e := 26) (size := 8) (base := w.heap.size) w #[] 0 (Nat.le_refl _) (by unfold maxLen; omega) rfl)
    have HC := Lib.hid (ntc_lies (Ha.out.keep H1.out) ad rfl)
    have Hlt := Lib.hid (show w.heap.size ≤ (w.alloc (.cells #[] 26)).heap.size by rw [World.size_alloc]; omega)
    go_enter Try.func51, Try.ntmps51
    go_wp2_with (at_builtin; refine wpList_append_own (P := Try.prog) _ rfl (.tmp 5) (.tmp 6) 22 rfl w.heap.size 26 i0 _ 8 88 Try.underlying22 hi0 hz0 hsz hby rfl (by decide) _ 0 [] rfl HB.out ad m k (ntc ns) rfl (by rw [ntc_length, Hm.out]) HC.out (ntc_one ns) (by unfold maxLen; omega) (by omega) Hlt.out ?_; intro v4 w4 hv' hg4 _; have H4 : Hid (Stp w w4) := Lib.hid (row_stp HB.out H1.out (Nat.le_refl _) hg4); have Hv4 : Hid (w4.ownsRow w.heap.size 26 8 v4 m (ntc ns)) := Lib.hid (by rw [Nat.zero_add, List.nil_append] at hv'; exact hv'); clear hv' hg4)
    go_ret
    exact ⟨_, rfl, Hv4.out, H4.out⟩

/-! ### nodes copied -/
theorem grown_setRow (w : World) (g : Nat) (X : Array Value) : w.grownBy (w.setRow g X) (some g) := ⟨rfl, rfl, rfl, by simp [World.setRow], fun k _ hk => setRow_other w g k X (fun e => hk (by rw [e]))⟩
theorem run_copy8 (w : World) (ty : TypeId) (g o dLen dCap : Nat) (ad : Addr) (sLen sCap : Nat) (cur cs : List Value) (q : Nat) (hg : Blk w g 26 cur.toArray) (hq : q = Nat.min sLen dLen) (hcl : cs.length = q * 8)
    (hsrc : ∀ j v, cs[j]? = some v → w.cell? (ad.add j) = some v) (hfit : o + cs.length ≤ cur.length) (h1 : ∀ v ∈ cs, v.oneCell' = true) :
    (Builtin.copy_ #[22, 22] ty #[.slice (some ⟨g, o, none⟩) dLen dCap, .slice (some ad) sLen sCap]).run Try.prog w = .ok (goInt q) (w.setRow g (splice cur o cs).toArray) := by
  obtain ⟨i0, hi0, hz0, hsz, hby⟩ := info_parts node_info
  have hl := run_loadCells_list (P := Try.prog) w ad cs hsrc
  have hst := run_storeCells_at Try.prog g o 26 cs 0 cur.toArray w hg (by simpa using hfit) h1
  rw [hcl] at hl
  simp [Builtin.copy_, run_underlying Try.underlying22, Builtin.lenOf, Builtin.firstCells, sizeOf, typeInfo, hi0, hsz, ← hq, hl, hst, splice]
section
variable {ops : Array Oper} {o : Oper} {a : Act} {K : Act → World → Prop} {Q : Exit → Act → World → Prop} {E : Prop}
theorem step_copy8 {w : World} (hgd : o.guard = none) (d s : Operand) (ho : o.op = .call { callee := .builtin .copy, args := #[d, s], argTypes := #[22, 22] }) (g off dLen dCap : Nat) (ad : Addr) (sLen sCap : Nat)
    (hd : a.eval d = .slice (some ⟨g, off, none⟩) dLen dCap) (hs : a.eval s = .slice (some ad) sLen sCap) (cur cs : List Value) (q : Nat) (hg : Blk w g 26 cur.toArray) (hq : q = Nat.min sLen dLen) (hcl : cs.length = q * 8)
    (hsrc : ∀ j v, cs[j]? = some v → w.cell? (ad.add j) = some v) (hfit : off + cs.length ≤ cur.length) (h1 : ∀ v ∈ cs, v.oneCell' = true)
    (h : ∀ w', Hid (Blk w' g 26 (splice cur off cs).toArray) → Hid (w.grownBy w' (some g)) → K (a.put o.dst (goInt q)) w') :
    if Region.wanted o (yielded ops a.tmps) = true then Oper.wp Try.prog o a w K Q else E := by
  have hw : Region.wanted o (yielded ops a.tmps) = true := by simp [Region.wanted, hgd]
  rw [if_pos hw]
  have hrun := run_copy8 w o.type g off dLen dCap ad sLen sCap cur cs q hg hq hcl hsrc hfit h1
  unfold Oper.wp
  simp [execOp, ho, resolve, invoke, builtin, hd, hs, hrun, Result.andThen]
  exact h _ (setRow_heap w g _ _ _ _ hg) (grown_setRow w g _)
end

/-! ### a node put among nodes -/
theorem ntc_drop : ∀ (i : Nat) (ns : List Nd), ntc (ns.drop i) = (ntc ns).drop (i * 8)
  | 0, ns => by simp
  | i + 1, [] => by simp [ntc]
  | i + 1, n :: ns => by
    rw [List.drop_succ_cons, ntc_drop i ns]
    show _ = ((ncells n).toList ++ ntc ns).drop _
    rw [List.drop_append, show (ncells n).toList.drop ((i + 1) * 8) = [] from List.drop_eq_nil_of_le (by show 8 ≤ _; omega), List.nil_append, show (i + 1) * 8 - (ncells n).toList.length = i * 8 by show (i + 1) * 8 - 8 = _; omega]
theorem ntc_take : ∀ (i : Nat) (ns : List Nd), ntc (ns.take i) = (ntc ns).take (i * 8)
  | 0, ns => by simp [ntc]
  | i + 1, [] => by simp [ntc]
  | i + 1, n :: ns => by
    rw [List.take_succ_cons]
    show (ncells n).toList ++ ntc (ns.take i) = ((ncells n).toList ++ ntc ns).take _
    rw [ntc_take i ns, List.take_append, List.take_of_length_le (l := (ncells n).toList) (by show 8 ≤ _; omega), show (i + 1) * 8 - (ncells n).toList.length = i * 8 by show (i + 1) * 8 - 8 = _; omega]
/-- What two copies lay: the node ahead of what stood from its place on. -/
theorem two_laid {L T C D : List Value} {i8 : Nat} (hL : L.take i8 = T) (hT : T.length = i8) (hC : C.length = 8) (hfit : i8 + 8 + D.length ≤ L.length) (X : List Value) (hX : X = splice (splice L (i8 + 8) D) i8 C ∨ X = splice (splice L i8 C) (i8 + 8) D) : X.take (i8 + 8 + D.length) = T ++ (C ++ D) := by
  have hL8 : i8 ≤ L.length := by omega
  rcases hX with rfl | rfl
  · have e1 : (splice L (i8 + 8) D).take i8 = T := by
      rw [splice, List.take_append, List.take_take, Nat.min_eq_left (by omega), hL, List.length_take, show i8 - min (i8 + 8) L.length = 0 by omega]
      simp
    have e2 : (splice L (i8 + 8) D).drop (i8 + 8) = D ++ L.drop (i8 + 8 + D.length) := by
      rw [splice, List.drop_append, List.drop_eq_nil_of_le (by rw [List.length_take]; omega), List.nil_append, List.length_take, show i8 + 8 - min (i8 + 8) L.length = 0 by omega]
      rfl
    rw [splice, e1, hC, e2, List.take_append, hT, List.take_of_length_le (by omega), List.take_append, hC, List.take_of_length_le (l := C) (by omega), List.take_append, List.take_of_length_le (l := D) (by omega), show i8 + 8 + D.length - i8 - 8 - D.length = 0 by omega]
    simp
  · have e1 : (splice L i8 C).take (i8 + 8) = T ++ C := by
      rw [splice, hL, ← List.append_assoc, List.take_append, List.take_of_length_le (by rw [List.length_append]; omega), List.length_append, hT, hC, Nat.sub_self]
      simp
    rw [splice, e1, List.take_append, List.take_of_length_le (by rw [List.length_append]; omega), List.take_append, List.length_append, hT, hC, List.take_of_length_le (l := D) (by omega), show i8 + 8 + D.length - (i8 + 8) - D.length = 0 by omega]
    simp
abbrev midN (n : Nd) (ns : List Nd) (i : Nat) : List Nd := ns.take i ++ n :: ns.drop i
theorem mid_ntc (n : Nd) (ns : List Nd) (i : Nat) : ntc (midN n ns i) = ntc (ns.take i) ++ ((ncells n).toList ++ ntc (ns.drop i)) := by
  rw [ntc_append]
  rfl
set_option maxRecDepth 100000 in
set_option maxHeartbeats 8000000 in
/-- A node put among nodes of the call's own. -/
theorem insert_s (ns : List Nd) (m : Nat) (hm : ns.length = m) (hl : m ≤ 1000) (n : Nd) (i : Nat) (hi : i ≤ m) (lo : Nat) (v : Value) (gv : Nat) (w : World) (hv : w.ownsRow lo 26 8 v m (ntc ns)) (hn : Blk w gv 26 (ncells n)) (hgv : v.ownBlock ≠ some gv) (hlo : lo ≤ w.heap.size) :
    Calls Try.prog 34 #[v, .int .i64 (i : Int), .slice (some ⟨gv, 0, none⟩) 1 1] w fun e w' => ∃ v', e = .returned v' ∧ w'.ownsRow lo 26 8 v' (m + 1) (ntc (midN n ns i)) ∧ w.grownBy w' v.ownBlock := by
  obtain ⟨i0, hi0, hz0, hsz, hby⟩ := info_parts node_info
  have Hm := Lib.hid hm
  have Hv := Lib.hid hv
  have Hn := Lib.hid hn
  have Hgv := Lib.hid hgv
  have Hlo := Lib.hid hlo
  have HC := Lib.hid (show ∀ (j : Nat) (u : Value), (ncells n).toList[j]? = some u → w.cell? ((⟨gv, 0, none⟩ : Addr).add j) = some u from fun j u hj => by
    rw [Addr.add_lit, Nat.zero_add, hn.cell, ← Array.getElem?_toList]
    exact hj)
  clear hm hn hgv hlo
  by_cases him : i = m
  · subst him
    have hmid : ntc (midN n ns i) = ntc ns ++ (ncells n).toList := by
      rw [mid_ntc, List.take_of_length_le (by rw [Hm.out]; exact Nat.le_refl _), List.drop_eq_nil_of_le (by rw [Hm.out]; exact Nat.le_refl _)]
      simp [ntc]
    have Hmid := Lib.hid hmid
    clear hmid hv
    have key : (v = .slice none 0 0 ∧ i = 0) ∨ ∃ g cap, v = .slice (some ⟨g, 0, none⟩) i cap ∧ i ≤ cap := by
      rcases Hv.out.2 with h | ⟨g, cap, cur, h, -, -, h2, -⟩
      · exact .inl h
      · exact .inr ⟨g, cap, h, h2⟩
    rcases key with ⟨rfl, rfl⟩ | ⟨g, cap, rfl, hcap⟩
    · go_enter Try.func34, Try.ntmps34
      go_wp2_with (at_builtin; refine wpList_append_own (P := Try.prog) _ rfl (.tmp 23) (.tmp 24) 22 rfl lo 26 i0 _ 8 88 Try.underlying22 hi0 hz0 hsz hby rfl (by decide) _ 0 (ntc ns) rfl Hv.out ⟨gv, 0, none⟩ 1 1 (ncells n).toList rfl rfl HC.out (lit_one n) (by unfold maxLen; omega) (by omega) Hlo.out ?_; intro v4 w4 hv' hg4 _; rw [← Hmid.out] at hv'; have H4 := Lib.hid hv'; have HG := Lib.hid hg4; clear hv' hg4)
      go_ret
      exact ⟨_, rfl, H4.out, HG.out⟩
    · have hcut : cap = i ∨ ¬ cap = i := Classical.em _
      have gi : ((i : Int) == (i : Int)) = true := beq_self_eq_true _
      rcases hcut with rfl | hcut
      all_goals
        go_enter Try.func34, Try.ntmps34
        go_wp2_with (at_builtin; refine wpList_append_own (P := Try.prog) _ rfl (.tmp 23) (.tmp 24) 22 rfl lo 26 i0 _ 8 88 Try.underlying22 hi0 hz0 hsz hby rfl (by decide) _ _ (ntc ns) rfl Hv.out ⟨gv, 0, none⟩ 1 1 (ncells n).toList rfl rfl HC.out (lit_one n) (by unfold maxLen; omega) (by omega) Hlo.out ?_; intro v4 w4 hv' hg4 _; rw [← Hmid.out] at hv'; have H4 := Lib.hid hv'; have HG := Lib.hid hg4; clear hv' hg4)
        go_ret
        exact ⟨_, rfl, H4.out, HG.out⟩
  · have him1 : i < m := by omega
    obtain ⟨g, cap, cur, rfl, hlg, hg, hnc, hcm, hcs, htk⟩ : ∃ g cap cur, v = .slice (some ⟨g, 0, none⟩) m cap ∧ lo ≤ g ∧ Blk w g 26 cur ∧ m ≤ cap ∧ cap ≤ maxLen ∧ cur.size = cap * 8 ∧ cur.toList.take (m * 8) = ntc ns := by
      rcases hv.2 with ⟨h, h2⟩ | ⟨g, cap, cur, h, h1, h2, h3, h4, h5, h6⟩
      · omega
      · exact ⟨g, cap, cur, h, h1, h2, h3, h4, h5, h6⟩
    clear hv
    have hcm' : cap ≤ 9223372036854775807 := by unfold maxLen at hcm; omega
    have hgg : gv ≠ g := fun e => Hgv.out (by rw [e]; rfl)
    have gim : ((i : Int) == (m : Int)) = false := by rw [beq_eq_false_iff_ne]; omega
    have hb4 : ¬ cap = i := by omega
    by_cases hroom : m + 1 ≤ cap
    · have gc : decide ((cap : Int) < (m : Int) + 1) = false := decide_eq_false (by omega)
      go_enter Try.func34, Try.ntmps34
      have hsa : w.shape? gv = some (26, 8) := by
        have h := Hn.out
        unfold Blk at h
        simp [World.shape?, h]
      have hsb : w.shape? g = some (26, cur.size) := by
        have h := hg
        unfold Blk at h
        simp [World.shape?, h]
      have hz8 : ∀ W : World, (sizeOf 26).run Try.prog W = .ok 8 W := fun W => by simp [sizeOf, typeInfo, hi0, hsz]
      have hov : ∀ off lb cb, (callFunc 56 #[.slice (some ⟨gv, 0, none⟩) 1 1, .slice (some ⟨g, off, none⟩) lb cb]).run Try.prog w = .ok (.value (.bool false)) w := fun off lb cb => by
        rw [run_callFunc_extern Try.func56 (by kernel_rfl) (by kernel_rfl) (by kernel_rfl) (e := Extern.SlicesOverlaps.overlaps #[22, 22] #[4]) (by kernel_rfl),
          Lib.run_overlaps_apart w 22 4 26 Try.underlying22 8 hz8 ⟨gv, 0, none⟩ ⟨g, off, none⟩ 1 1 lb cb hgg 26 26 8 cur.size hsa hsb (by omega) (Hn.out.free 0) (Hn.out.free 8)]
        rfl
      have hb2 : ¬ cap = i + 1 := by omega
      have gtn : ((i : Int) + 1).toNat = i + 1 := by omega
      have gw1 : IntKind.i64.wrap ((i : Int) + 1) = (i : Int) + 1 := by rw [IntKind.wrap_i64]; omega
      have gn1 : (0 : Int) ≤ (i : Int) + 1 := by omega
      have gle : (i : Int) ≤ (m : Int) := by omega
      have gle2 : (i : Int) ≤ (m : Int) + 1 := by omega
      have gle3 : (i : Int) + 1 ≤ (m : Int) + 1 := by omega
      obtain ⟨D, hD⟩ : ∃ D, D = ntc (ns.drop i) := ⟨_, rfl⟩
      have hDl : D.length = (m - i) * 8 := by rw [hD, ntc_length, List.length_drop, Hm.out]
      have hDs : ∀ j u, D[j]? = some u → w.cell? ((⟨g, i * 8, none⟩ : Addr).add j) = some u := fun j u hj => by
        rw [hD, ntc_drop, List.getElem?_drop, ← htk, List.getElem?_take] at hj
        rw [Addr.add_lit, hg.cell, ← Array.getElem?_toList]
        split at hj
        · exact hj
        · cases hj
      have HD := Lib.hid hD
      have HDl := Lib.hid hDl
      have HDs := Lib.hid hDs
      have Htk := Lib.hid htk
      have Hg := Lib.hid hg
      have HN := Lib.hid (lit_one n)
      have HDo := Lib.hid (show ∀ u ∈ D, u.oneCell' = true from fun u hu => by rw [hD] at hu; exact ntc_one _ u hu)
      clear hsa hsb hz8 hD hDl hDs htk hg
      go_upto_region 15 with (simp only [hov])
      go_region_law (refine step_copy8 rfl (.tmp 73) (.tmp 76) rfl g ((i + 1) * 8) (m + 1 - (i + 1)) (cap - (i + 1)) ⟨g, i * 8, none⟩ (m + 1 - i) (cap - i) (by simp [Act.eval, Act.put]) (by simp [Act.eval, Act.put]) cur.toList D (m - i) Hg.out (by simp only [Nat.min_def]; split <;> omega) HDl.out HDs.out (by rw [HDl.out, Array.length_toList]; omega) HDo.out ?_; intro w4 HB4 HG4)
      have HC4 := Lib.hid (show ∀ (j : Nat) (u : Value), (ncells n).toList[j]? = some u → w4.cell? ((⟨gv, 0, none⟩ : Addr).add j) = some u from fun j u hj => (HG4.out.cell (a := (⟨gv, 0, none⟩ : Addr).add j) (HC.out j u hj) (by rw [Addr.add_lit]; exact fun e => hgg (by injection e))))
      have hLl : (splice cur.toList ((i + 1) * 8) D).length = cap * 8 := by rw [length_splice _ _ _ (by rw [HDl.out, Array.length_toList]; omega), Array.length_toList, hcs]
      obtain ⟨X5, hX5⟩ : ∃ X5, X5 = splice (splice cur.toList ((i + 1) * 8) D) (i * 8) (ncells n).toList := ⟨_, rfl⟩
      obtain ⟨w5, hrun, hb5, hg5⟩ : ∃ w5, (∀ ty, (Builtin.copy_ #[22, 22] ty #[.slice (some ⟨g, i * 8, none⟩) (m + 1 - i) (cap - i), .slice (some ⟨gv, 0, none⟩) 1 1]).run Try.prog w4 = .ok (.int .i64 1) w5) ∧ Blk w5 g 26 X5.toArray ∧ w4.grownBy w5 (some g) :=
        ⟨w4.setRow g X5.toArray, fun ty => by rw [hX5]; exact run_copy8 w4 ty g (i * 8) (m + 1 - i) (cap - i) ⟨gv, 0, none⟩ 1 1 (splice cur.toList ((i + 1) * 8) D) (ncells n).toList 1 HB4.out (by simp only [Nat.min_def]; split <;> omega) rfl HC4.out (by show i * 8 + 8 ≤ _; rw [hLl]; omega) HN.out, setRow_heap w4 g _ _ _ _ HB4.out, grown_setRow w4 g _⟩
      have HB5 := Lib.hid hb5
      have HG5 := Lib.hid hg5
      have HX5 := Lib.hid hX5
      clear hb5 hg5 hX5
      go_wp2
      go_ret
      refine ⟨_, rfl, ⟨by rw [ntc_length, List.length_append, List.length_take, List.length_cons, List.length_drop, Hm.out]; omega, .inr ⟨g, cap, _, rfl, hlg, HB5.out, hroom, hcm, ?_, ?_⟩⟩, ?_⟩
      · rw [List.size_toArray, HX5.out, length_splice _ _ _ (by show i * 8 + 8 ≤ _; rw [hLl]; omega), hLl]
      · have h := two_laid (L := cur.toList) (T := ntc (ns.take i)) (C := (ncells n).toList) (D := D) (i8 := i * 8) (by rw [ntc_take, ← Htk.out, List.take_take, Nat.min_eq_left (by omega)]) (by rw [ntc_length, List.length_take, Hm.out, Nat.min_eq_left (by omega)]) rfl (by rw [HDl.out, Array.length_toList]; omega) _ (.inl (by rw [show i * 8 + 8 = (i + 1) * 8 by omega]))
        rw [HDl.out, show i * 8 + 8 + (m - i) * 8 = (m + 1) * 8 by omega] at h
        rw [mid_ntc, ← HD.out]
        rw [List.toList_toArray, HX5.out]
        exact h
      · exact ⟨HG5.out.os.trans HG4.out.os, HG5.out.tape.trans HG4.out.tape, HG5.out.output.trans HG4.out.output, Nat.le_trans HG4.out.size HG5.out.size, fun k hk hne => (HG5.out.block k (Nat.lt_of_lt_of_le hk HG4.out.size) hne).trans (HG4.out.block k hk hne)⟩
    · obtain rfl : cap = m := by omega
      have gc : decide ((cap : Int) < (cap : Int) + 1) = true := decide_eq_true (by omega)
      have gw1 : IntKind.i64.wrap ((i : Int) + 1) = (i : Int) + 1 := by rw [IntKind.wrap_i64]; omega
      have gn1 : (0 : Int) ≤ (i : Int) + 1 := by omega
      have gtn : ((i : Int) + 1).toNat = i + 1 := by omega
      have gle : (i : Int) ≤ (cap : Int) := by omega
      have gle2 : (i : Int) ≤ (cap : Int) + 1 := by omega
      have gle3 : (i : Int) + 1 ≤ (cap : Int) + 1 := by omega
      obtain ⟨G, hG⟩ : ∃ G, G = grownCap w (cap + 1) cap 26 := ⟨_, rfl⟩
      obtain ⟨ROW, hROW⟩ : ∃ ROW : Array Value, ROW = (ntc (ns.take i)).toArray ++ Builtin.zeroCells (nv zeroN).cells (cap + 1 - i) ++ Builtin.zeroCells (nv zeroN).cells (G - (cap + 1)) := ⟨_, rfl⟩
      have hGn : cap + 1 ≤ G := by rw [hG]; exact grownCap_ge _ _ _ _
      have hGm : G ≤ maxLen := by rw [hG]; exact grownCap_le_maxLen _ _ _ _ (by unfold maxLen; omega)
      have hGm' : G ≤ 9223372036854775807 := by unfold maxLen at hGm; omega
      have hTl : (ntc (ns.take i)).length = i * 8 := by rw [ntc_length, List.length_take, Hm.out, Nat.min_eq_left (by omega)]
      have hold : (Builtin.firstCells i0.size i (.slice (some ⟨g, 0, none⟩) i cap)).run Try.prog w.drew = .ok (ntc (ns.take i)).toArray w.drew := by
        rw [hsz]
        refine run_firstCells_some w.drew 8 i ⟨g, 0, none⟩ i cap (ntc (ns.take i)) hTl (fun j v hj => ?_)
        rw [Addr.add_lit, Nat.zero_add]
        refine (hg.cell j).trans ?_
        rw [ntc_take, ← htk, List.getElem?_take, List.getElem?_take] at hj
        rw [← Array.getElem?_toList]
        split at hj
        · split at hj
          · exact hj
          · cases hj
        · cases hj
      have hrz : ∀ ty, (Builtin.append_ #[22, 3] ty #[.slice (some ⟨g, 0, none⟩) i cap, .int .i64 ((cap : Int) + 1 - (i : Int))]).run Try.prog w = .ok (.slice (some ⟨w.heap.size, 0, none⟩) (cap + 1) G) (w.drew.alloc (.cells ROW 26)) := fun ty => by
        have h := Lib.run_append_grow_zeros w 22 3 ty 26 i0 _ .i64 .i64 Try.underlying22 Try.underlying3 hi0 hz0 (some ⟨g, 0, none⟩) i cap (ntc (ns.take i)) hold (cap + 1 - i) (by omega) (by rw [hsz]; omega) (by omega) (by omega) (by rw [hby]; omega) (by rw [hby, show i + (cap + 1 - i) = cap + 1 by omega]; exact growslice_fits (by omega) (by omega))
        rw [show i + (cap + 1 - i) = cap + 1 by omega, ← hG, ← hROW, show (((cap + 1 - i : Nat)) : Int) = (cap : Int) + 1 - (i : Int) by omega] at h
        exact h
      have hRs : ROW.size = G * 8 := by
        rw [hROW, Array.size_append, Array.size_append, size_zeroCells, size_zeroCells, List.size_toArray, hTl, show (nv zeroN).cells.size = 8 from rfl]
        omega
      have hRt : ROW.toList.take (i * 8) = ntc (ns.take i) := by
        rw [hROW, Array.toList_append, Array.toList_append, List.append_assoc, List.take_append, List.take_of_length_le (by rw [List.toList_toArray, hTl]; exact Nat.le_refl _)]
        simp [hTl]
      obtain ⟨W1, hW1⟩ : ∃ W1, W1 = w.drew.alloc (.cells ROW 26) := ⟨_, rfl⟩
      rw [← hW1] at hrz
      have hb1 : Blk W1 w.heap.size 26 ROW := by rw [hW1]; exact Blk.new w.drew _ _
      have hs1 : Stp w W1 := by rw [hW1]; exact Stp.alloc (Stp.drewN (Stp.refl w) 1) _
      have hg9 : g < w.heap.size := hg.lt
      obtain ⟨g2, hg2⟩ : ∃ g2, w.heap.size = g2 := ⟨_, rfl⟩
      rw [hg2] at hb1 hrz hg9
      have hlg2 : lo ≤ g2 := by rw [← hg2]; exact Hlo.out
      have hge : gv < g2 := by rw [← hg2]; exact Hn.out.lt
      obtain ⟨D, hD⟩ : ∃ D, D = ntc (ns.drop i) := ⟨_, rfl⟩
      have hDl : D.length = (cap - i) * 8 := by rw [hD, ntc_length, List.length_drop, Hm.out]
      have hDs : ∀ j u, D[j]? = some u → w.cell? ((⟨g, i * 8, none⟩ : Addr).add j) = some u := fun j u hj => by
        rw [hD, ntc_drop, List.getElem?_drop, ← htk, List.getElem?_take] at hj
        rw [Addr.add_lit, hg.cell, ← Array.getElem?_toList]
        split at hj
        · exact hj
        · cases hj
      have HDs1 : ∀ j u, D[j]? = some u → W1.cell? ((⟨g, i * 8, none⟩ : Addr).add j) = some u := fun j u hj => cell_stp hs1 (hDs j u hj)
      have HC1 : ∀ (j : Nat) (u : Value), (ncells n).toList[j]? = some u → W1.cell? ((⟨gv, 0, none⟩ : Addr).add j) = some u := fun j u hj => cell_stp hs1 (HC.out j u hj)
      obtain ⟨X2, hX2⟩ : ∃ X2, X2 = splice ROW.toList (i * 8) (ncells n).toList := ⟨_, rfl⟩
      have hX2l : X2.length = G * 8 := by rw [hX2, length_splice _ _ _ (by show i * 8 + 8 ≤ _; rw [Array.length_toList, hRs]; omega), Array.length_toList, hRs]
      obtain ⟨W2, hrun, hb2, hg2'⟩ : ∃ W2, (∀ ty, (Builtin.copy_ #[22, 22] ty #[.slice (some ⟨g2, i * 8, none⟩) (cap + 1 - i) (G - i), .slice (some ⟨gv, 0, none⟩) 1 1]).run Try.prog W1 = .ok (.int .i64 1) W2) ∧ Blk W2 g2 26 X2.toArray ∧ W1.grownBy W2 (some g2) :=
        ⟨W1.setRow g2 X2.toArray, fun ty => by rw [hX2]; exact run_copy8 W1 ty g2 (i * 8) (cap + 1 - i) (G - i) ⟨gv, 0, none⟩ 1 1 ROW.toList (ncells n).toList 1 hb1 (by simp only [Nat.min_def]; split <;> omega) rfl HC1 (by show i * 8 + 8 ≤ _; rw [Array.length_toList, hRs]; omega) (lit_one n), setRow_heap W1 g2 _ _ _ _ hb1, grown_setRow W1 g2 _⟩
      have hDs2 : ∀ j u, D[j]? = some u → W2.cell? ((⟨g, i * 8, none⟩ : Addr).add j) = some u := fun j u hj => hg2'.cell (HDs1 j u hj) (by rw [Addr.add_lit]; exact fun e => (by injection e with e; change g = g2 at e; omega))
      have hDo : ∀ u ∈ D, u.oneCell' = true := fun u hu => by rw [hD] at hu; exact ntc_one _ u hu
      have hgw : w.grownBy W2 none := ⟨hg2'.os.trans hs1.os, hg2'.tape.trans hs1.tape, hg2'.output.trans hs1.output, Nat.le_trans hs1.size hg2'.size, fun k hk _ => (hg2'.block k (Nat.lt_of_lt_of_le hk hs1.size) (fun e => by injection e with e; omega)).trans (hs1.block k hk)⟩
      have hbG : ¬ G = i := by omega
      have hbG1 : ¬ G = i + 1 := by omega
      have HD := Lib.hid hD
      have HDl := Lib.hid hDl
      have HDs2 := Lib.hid hDs2
      have HDo := Lib.hid hDo
      have HB2 := Lib.hid hb2
      have HX2 := Lib.hid hX2
      have HX2l := Lib.hid hX2l
      have HRs := Lib.hid hRs
      have HRt := Lib.hid hRt
      have HTl := Lib.hid hTl
      have HGW := Lib.hid hgw
      have HW2 := Lib.hid (hg2.symm ▸ (Nat.le_refl _) : w.heap.size ≤ g2)
      clear hG hROW hold hRs hRt hW1 hb1 hs1 hg2 hD hDl hDs HDs1 HC1 hX2 hX2l hb2 hg2' hDs2 hDo hgw hTl htk hg
      go_enter Try.func34, Try.ntmps34
      go_upto_region 11 with (at_builtin; refine Lib.wpList_append_run _ rfl _ _ _ _ rfl _ _ rfl rfl _ _ (hrz _) ?_)
      go_region_law (refine step_copy8 rfl (.tmp 50) (.tmp 53) rfl g2 ((i + 1) * 8) (cap + 1 - (i + 1)) (G - (i + 1)) ⟨g, i * 8, none⟩ (cap - i) (cap - i) (by simp [Act.eval, Act.put]) (by simp [Act.eval, Act.put]) X2 D (cap - i) HB2.out (by simp only [Nat.min_def]; split <;> omega) HDl.out HDs2.out (by rw [HDl.out, HX2l.out]; omega) HDo.out ?_; intro w4 HB4 HG4)
      go_wp2
      go_ret
      refine ⟨_, rfl, ⟨by rw [ntc_length, List.length_append, List.length_take, List.length_cons, List.length_drop, Hm.out]; omega, .inr ⟨g2, G, _, rfl, hlg2, HB4.out, hGn, hGm, ?_, ?_⟩⟩, ?_⟩
      · rw [List.size_toArray, length_splice _ _ _ (by rw [HDl.out, HX2l.out]; omega), HX2l.out]
      · have h := two_laid (L := ROW.toList) (T := ntc (ns.take i)) (C := (ncells n).toList) (D := D) (i8 := i * 8) HRt.out HTl.out rfl (by rw [HDl.out, Array.length_toList, HRs.out]; omega) _ (.inr (by rw [show i * 8 + 8 = (i + 1) * 8 by omega]))
        rw [HDl.out, show i * 8 + 8 + (cap - i) * 8 = (cap + 1) * 8 by omega, ← HX2.out] at h
        rw [mid_ntc, ← HD.out, List.toList_toArray]
        exact h
      · exact ⟨HG4.out.os.trans HGW.out.os, HG4.out.tape.trans HGW.out.tape, HG4.out.output.trans HGW.out.output, Nat.le_trans HGW.out.size HG4.out.size, fun k hk hne => (HG4.out.block k (Nat.lt_of_lt_of_le hk HGW.out.size) (fun e => by injection e with e; have := HW2.out; omega)).trans (HGW.out.block k hk (fun e => by cases e))⟩
end Go.Proofs.Ytjddgmdbgajjpaa.Fs
