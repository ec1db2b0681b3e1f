/-
  The document's own answers for package stream: no statement is proved here.
  The document's own answers for package stream: where nodes begin, whose a block is, and lists of numbers: no statement is proved here.
  The document's own answers for package stream: whose a block is, and lists of numbers that are the same: no statement is proved here.
-/
import Derived.Test.YtopihahjjcpnpaaGreatDoorStreamC
import Derived.Test.YtopihahjjcpnpaaGreatDoorEntryRef
import Derived.Test.YtopihahjjcpnpaaGreatDoorStreamM
import Derived.Test.YtopihahjjcpnpaaGreatDoorNodes
import Derived.Deep.RegionLaw
import Derived.Deep.RegionHeld3
import Derived.Deep.QuietTactic
import Derived.BigQuiet
namespace Go.Proofs.YtopihahjjcpnpaaGreatDoor.Stream
open Go.RowKit Go.Proofs.YtopihahjjcpnpaaGreatDoor.Str Go.Proofs.YtopihahjjcpnpaaGreatDoor.Base Go.Proofs.YtopihahjjcpnpaaGreatDoor.Node Go.Proofs.YtopihahjjcpnpaaGreatDoor.Long Go.Proofs.YtopihahjjcpnpaaGreatDoor.Entry
open Go.Proofs.YtopihahjjcpnpaaGreatDoor.Tree (oneB mayT)

theorem int_info : (Tryz.prog.info? 3).map (fun i => (i.zero, i.size, i.bytes)) = some (some (.int .i64 0), 1, 8) := by kernel_rfl
theorem rput_n (n : Nd) (v : Value) (e : v = nv n) (hn : SmallN n) (w : World) :
    Calls Tryz.prog 64 #[v] w fun e w' => ∃ A cap, e = .returned (.tuple #[.slice A (putE n).length cap, .bool (oneB n)]) ∧ RdL w' A cap (putE n) ∧ Stp w w' := by
  subst e
  exact reput_s n hn w
theorem rmany_n (n : Nd) (v : Value) (e : v = nv n) (hn : SmallN n) (w : World) :
    Calls Tryz.prog 116 #[v] w fun e w' => e = .returned (.int .i64 ((putE n).length : Int)) ∧ Stp w w' := by
  subst e
  exact remany_s n hn w
theorem rdata_n (n : Nd) (v : Value) (e : v = nv n) (hn : SmallN n) (w : World) :
    Calls Tryz.prog 76 #[v] w fun e w' => e = .returned (.int .i64 (dataE n : Int)) ∧ Stp w w' := by
  subst e
  exact redata_s n hn w
theorem rzeros_v (w : World) : Calls Tryz.prog 65 #[.int .i64 2] w fun e w' => ∃ A cap, e = .returned (.slice A 2 cap) ∧ RdL w' A cap endsV ∧ Stp w w' := by
  refine (Block.rzeros_s 2 w (by omega)).mono ?_
  rintro e w' ⟨A, cap, h1, h2, h3⟩
  rw [BlockM.zerosV_yes (by omega)] at h1 h2
  exact ⟨A, cap, h1, h2, h3⟩

set_option maxRecDepth 100000 in
set_option maxHeartbeats 4000000 in
theorem rall_s (t : List Nd) (A : Option Addr) (c : Nat) (w : World) (ha : RdN w A c t) (hl : t.length < 9223372036854775808) (hs : ∀ n ∈ t, SmallN n) :
    Calls Tryz.prog 36 #[.slice A t.length c] w fun e w' => ∃ B d, e = .returned (.tuple #[.slice B (allS t).length d, .bool (mayT t)]) ∧ RdL w' B d (allS t) ∧ Stp w w' := by
  have h0 := Stp.refl w
  have Ha := Lib.hid ha
  have Hl := Lib.hid hl
  have Hs := Lib.hid hs
  clear ha hl hs
  cases hm : mayT t
  · rw [allS_no hm]
    have Hm := Lib.hid hm
    clear hm
    go_enter Tryz.func36, Tryz.ntmps36
    go_wp2_with (go_at_call 35; (with_reducible refine (Tree.rmay_s t A c _ Ha.out Hl.out Hs.out).mono ?_); rintro e w1 ⟨rfl, hs⟩; rw [Hm.out]; replace h0 := Stp.trans h0 hs; clear hs)
    go_ret2
    exact ⟨none, 0, rfl, RdL.nil _, h0⟩
  · have h20 := may_len hm
    have hb := blocks_le t
    have Hall := Lib.hid (allS_yes hm)
    obtain ⟨P, hP⟩ : ∃ x, allS t = x := ⟨_, rfl⟩
    rw [hP] at Hall ⊢
    have Hm := Lib.hid hm
    have Hb := Lib.hid hb
    clear hm hb hP
    go_enter Tryz.func36, Tryz.ntmps36
    go_wp2_with (go_at_call 35; (with_reducible refine (Tree.rmay_s t A c _ Ha.out Hl.out Hs.out).mono ?_); rintro e w1 ⟨rfl, hs⟩; rw [Hm.out]; replace Ha := Lib.hid (Ha.out.keep hs); have H1 := Lib.hid hs; clear hs)
    go_loopw [5, 6] (fun v i wr => ∃ k : Nat, k ≤ t.length ∧ i = .int .i64 (k : Int) ∧ Hid (Base.Rows wr w1.heap.size 43 v (blocksT (t.take k))) ∧ Hid (Stp w1 wr)) (fun _ i _ => t.length - (intOf i).toNat)
    case atStart => exact ⟨0, by omega, rfl, Lib.hid (Base.Rows.nil _ _ _), Lib.hid (Stp.refl w1)⟩
    case round =>
      obtain ⟨k, hk, rfl, HR, H2⟩ := hrel
      by_cases hlt : k < t.length
      · obtain ⟨n, hn⟩ : ∃ n, t[k]? = some n := ⟨_, List.getElem?_eq_getElem hlt⟩
        obtain ⟨b, o, rfl, -, q0, q1, q2, q3, q4, q5, q6, q7⟩ := (Ha.out.keep H2.out).cells hn
        have Hk := Lib.hid hn
        have Hsn := Lib.hid (Hs.out n (List.mem_of_getElem? hn))
        have hbk := start_le t (k + 1)
        rw [start_step hn] at hbk
        have Hbk := Lib.hid hbk
        clear hn hbk
        go_wp2_with (first
          | (go_at_call 64; (with_reducible refine (rput_n n _ rfl Hsn.out _).mono ?_); rintro e w3 ⟨A3, c3, rfl, hr, hs⟩; have Hr := Lib.hid hr; replace HR := Lib.hid (HR.out.keep hs); replace H2 := Lib.hid (Stp.trans H2.out hs); clear hr hs q0 q1 q2 q3 q4 q5 q6 q7)
          | (at_builtin; refine Base.wpList_append_rows (P := Tryz.prog) rfl (.tmp 27) (.tmp 28) 33 rfl 43 Tryz.underlying33 slices_info _ rfl HR.out rfl Hr.out rfl (by have h1 := Hb.out; have h2 := Hbk.out; unfold startN at h2; omega) H2.out.size ?_; intro v' w4 hR4 hg4; have H4 := Lib.hid (HR.out.stp H2.out (Nat.le_refl _) hg4); rw [← blocks_step Hk.out] at hR4; have HR4 := Lib.hid hR4; clear hR4 hg4))
        go_roundw
        case rel => exact ⟨k + 1, by omega, by go_num, HR4, H4⟩
        case measure => simp [intOf]; omega
      · obtain rfl : k = t.length := by omega
        have hR := HR.out
        rw [List.take_length] at hR
        have HR9 := Lib.hid hR
        clear hR HR
        go_wp2_with (first
          | (go_at_call 65; (with_reducible refine (rzeros_v _).mono ?_); rintro e w5 ⟨A5, c5, rfl, hr, hs⟩; have Hr := Lib.hid hr; replace HR9 := Lib.hid (HR9.out.keep hs); replace H2 := Lib.hid (Stp.trans H2.out hs); clear hr hs)
          | (at_builtin; refine Base.wpList_append_rows (P := Tryz.prog) rfl (.tmp 30) (.tmp 31) 33 rfl 43 Tryz.underlying33 slices_info _ rfl HR9.out rfl Hr.out endsV_length (by have h1 := Hb.out; have h2 := endsV_length; omega) H2.out.size ?_; intro v' w6 hR6 hg6; have H6 := Lib.hid (HR9.out.stp H2.out (Nat.le_refl _) hg6); rw [← Hall.out] at hR6; obtain ⟨A6, c6, rfl, hL6⟩ := hR6.rdL; have HL6 := Lib.hid hL6; clear hR6 hg6 hL6))
        go_ret2
        exact ⟨A6, c6, rfl, HL6.out, Stp.trans H1.out H6.out⟩
set_option maxRecDepth 100000 in
theorem rmany_s (t : List Nd) (A : Option Addr) (c : Nat) (w : World) (ha : RdN w A c t) (hl : t.length < 9223372036854775808) (hs : ∀ n ∈ t, SmallN n) :
    Calls Tryz.prog 74 #[.slice A t.length c] w fun e w' => e = .returned (.int .i64 ((allS t).length : Int)) ∧ Stp w w' := by
  have h0 := Stp.refl w
  have Ha := Lib.hid ha
  have Hl := Lib.hid hl
  have Hs := Lib.hid hs
  clear ha hl hs
  go_enter Tryz.func74, Tryz.ntmps74
  go_wp2_with (go_at_call 36; (with_reducible refine (rall_s t A c _ Ha.out Hl.out Hs.out).mono ?_); rintro e w1 ⟨B, d, rfl, -, hs⟩; replace h0 := Stp.trans h0 hs; clear hs)
  all_goals go_ret
  all_goals exact ⟨rfl, h0⟩
end Go.Proofs.YtopihahjjcpnpaaGreatDoor.Stream

namespace Go.Proofs.YtopihahjjcpnpaaGreatDoor.Base
open Go.RowKit
section
variable {P : Program} {ops : Array Oper} {o : Oper} {a : Act} {K : Act → World → Prop} {Q : Exit → Act → World → Prop} {E : Prop}
/-- append onto a row of one-cell elements of the call's own, as a step of a region that draws its order. -/
theorem step_app_own (w : World) (hgd : o.guard = none) (s x : Operand) (t : TypeId) (ho : o.op = .call { callee := .builtin .append, args := #[s, x], argTypes := #[t, t] })
    (lo : Nat) (e : TypeId) (z : Value) (bytes : Nat) (ht : P.underlying t = some (.slice e)) (hi : (P.info? e).map (fun i => (i.zero, i.size, i.bytes)) = some (some z, 1, bytes)) (hzs : z.cells.size = 1)
    (v : Value) (xs : List Value) (hs : a.eval s = v) (hown : Base.Own w lo e v xs)
    (B : Nat) (u : Value) (news : List Value) (hx : a.eval x = u) (hr : Rd w B u news) (h1 : ∀ u ∈ news, u.oneCell' = true)
    (h63 : xs.length + news.length ≤ maxLen) (hbytes : (xs.length + news.length) * bytes ≤ 140737488355328) (hlo : lo ≤ w.heap.size)
    (h : ∀ v' w', Base.Own w' lo e v' (xs ++ news) → w.grownBy w' v.ownBlock → K (a.put o.dst v') w') :
    if Region.wanted o (yielded ops a.tmps) = true then Oper.wp P o a w K Q else E := by
  obtain ⟨i, hi', hz, hsz, hby⟩ := info_parts hi
  obtain ⟨v', w', hr', h2, h3, -⟩ := run_append_rd (P := P) w lo t o.type e i z bytes ht hi' hz hsz hby hzs v xs hown B u news hr h1 h63 hbytes hlo
  rw [if_pos (by simp [Region.wanted, hgd])]
  unfold Oper.wp execOp
  simp only [ho, resolve, invoke, builtin, Sem.run_bind, Sem.run_pure, Result.andThen_ok, List.map_toArray, List.map_cons, List.map_nil, hs, hx, hr']
  exact h v' w' h2 h3
/-- append of a slice of slices onto a row of the call's own, as such a step. -/
theorem step_app_rows (w : World) (hgd : o.guard = none) (s x : Operand) (t : TypeId) (ho : o.op = .call { callee := .builtin .append, args := #[s, x], argTypes := #[t, t] })
    (lo : Nat) (e : TypeId) (ht : P.underlying t = some (.slice e)) (hi : (P.info? e).map (fun i => (i.zero, i.size, i.bytes)) = some (some (.slice none 0 0), 1, 24))
    (v : Value) (ls : List (List UInt8)) (hs : a.eval s = v) (h : Rows w lo e v ls) {A : Option Addr} {n c : Nat} {ms : List (List UInt8)} (hx : a.eval x = .slice A n c) (hm : RdL w A c ms) (hn : ms.length = n) (hl : ls.length + ms.length ≤ 1000000000) (hlo : lo ≤ w.heap.size)
    (hK : ∀ v' w', Rows w' lo e v' (ls ++ ms) → w.grownBy w' v.ownBlock → K (a.put o.dst v') w') :
    if Region.wanted o (yielded ops a.tmps) = true then Oper.wp P o a w K Q else E := by
  obtain ⟨v', w', hr', h2, h3⟩ := h.more (P := P) t o.type ht hi hm hn hl hlo
  rw [if_pos (by simp [Region.wanted, hgd])]
  unfold Oper.wp execOp
  simp only [ho, resolve, invoke, builtin, Sem.run_bind, Sem.run_pure, Result.andThen_ok, List.map_toArray, List.map_cons, List.map_nil, hs, hx, hr']
  exact hK v' w' h2 h3
end
theorem Own.stp {w0 w w' : World} {lo : Nat} {e : TypeId} {v : Value} {xs : List Value} (h : Base.Own w lo e v xs) (h0 : Stp w0 w) (hlo : w0.heap.size ≤ lo) (hg : w.grownBy w' v.ownBlock) : Stp w0 w' :=
  Below.grown h0 hg h0.size (fun j hj => Nat.le_trans hlo (h.lt j hj).1)
/-- One cell of a row of the call's own. -/
theorem Own.cell {w : World} {lo : Nat} {e : TypeId} {g n cap j : Nat} {xs : List Value} {u : Value} (h : Base.Own w lo e (.slice (some ⟨g, 0, none⟩) n cap) xs) (hj : xs[j]? = some u) : w.cell? ⟨g, j, none⟩ = some u := by
  obtain ⟨A, c, he, _, hc⟩ := h.rd
  obtain ⟨b, o, rfl, _, hu⟩ := hc (by rintro rfl; simp at hj)
  simp only [Value.slice.injEq, Option.some.injEq, Addr.mk.injEq, and_true] at he
  obtain ⟨⟨rfl, rfl⟩, -, -⟩ := he
  have := hu j u hj
  rwa [Nat.zero_add] at this
end Go.Proofs.YtopihahjjcpnpaaGreatDoor.Base

namespace Go.Proofs.YtopihahjjcpnpaaGreatDoor.Stream
open Go.RowKit Go.Proofs.YtopihahjjcpnpaaGreatDoor.Str Go.Proofs.YtopihahjjcpnpaaGreatDoor.Base Go.Proofs.YtopihahjjcpnpaaGreatDoor.Node Go.Proofs.YtopihahjjcpnpaaGreatDoor.Long Go.Proofs.YtopihahjjcpnpaaGreatDoor.Entry
open Go.Proofs.YtopihahjjcpnpaaGreatDoor.Tree (oneB mayT)

/-- Where the first k nodes, and the one behind them, begin. -/
def startsTo (t : List Nd) (k : Nat) : List Nat := (List.range (k + 1)).map (startN t)
theorem startsTo_length (t : List Nd) (k : Nat) : (startsTo t k).length = k + 1 := by simp [startsTo]
theorem startsTo_at {t : List Nd} {k j : Nat} (h : j ≤ k) : (startsTo t k)[j]? = some (startN t j) := by
  unfold startsTo
  rw [List.getElem?_map, List.getElem?_range (by omega)]
  rfl
theorem startsTo_step (t : List Nd) (k : Nat) : startsTo t (k + 1) = startsTo t k ++ [startN t (k + 1)] := by
  unfold startsTo
  rw [List.range_succ, List.map_append]
  rfl
theorem start_small {t : List Nd} (h : mayT t = true) (k : Nat) : startN t k ≤ 400 := by
  have h1 := start_le t k
  have h2 := blocks_le t
  have h3 := may_len h
  omega

set_option maxRecDepth 100000 in
set_option maxHeartbeats 4000000 in
theorem rstarts_s (t : List Nd) (A : Option Addr) (c : Nat) (w : World) (ha : RdN w A c t) (hl : t.length < 9223372036854775808) (hs : ∀ n ∈ t, SmallN n) :
    Calls Tryz.prog 75 #[.slice A t.length c] w fun e w' => ∃ v, e = .returned v ∧ Base.Own w' w.heap.size 3 v (ics (startsS t)) ∧ Stp w w' := by
  have h0 := Stp.refl w
  have Ha := Lib.hid ha
  have Hl := Lib.hid hl
  have Hs := Lib.hid hs
  clear ha hl hs
  cases hm : mayT t
  · rw [startsS_no hm]
    have Hm := Lib.hid hm
    clear hm
    go_enter Tryz.func75, Tryz.ntmps75
    go_wp2_with (go_at_call 35; (with_reducible refine (Tree.rmay_s t A c _ Ha.out Hl.out Hs.out).mono ?_); rintro e w1 ⟨rfl, hs⟩; rw [Hm.out]; replace h0 := Stp.trans h0 hs; clear hs)
    go_ret
    exact ⟨_, rfl, Base.Own.nil _ _ _, h0⟩
  · have h20 := may_len hm
    have Hsm := Lib.hid (start_small hm)
    have he := startsS_yes hm
    rw [show (List.range (t.length + 1)).map (startN t) = startsTo t t.length from rfl] at he
    rw [he]
    have Hm := Lib.hid hm
    clear hm he
    go_enter Tryz.func75, Tryz.ntmps75
    go_wp2_with (go_at_call 35; (with_reducible refine (Tree.rmay_s t A c _ Ha.out Hl.out Hs.out).mono ?_); rintro e w1 ⟨rfl, hs⟩; rw [Hm.out]; replace Ha := Lib.hid (Ha.out.keep hs); have H1 := Lib.hid hs; clear hs)
    have Hlit := Lib.hid (own_lit w1 3 (.int .i64 0))
    go_loopw [4, 5] (fun v i wr => ∃ k : Nat, k ≤ t.length ∧ i = .int .i64 (k : Int) ∧ Hid (Base.Own wr w1.heap.size 3 v (ics (startsTo t k))) ∧ Hid (Stp w1 wr)) (fun _ i _ => t.length - (intOf i).toNat)
    case atStart => exact ⟨0, by omega, rfl, Lib.hid (by rw [show ics (startsTo t 0) = [.int .i64 0] by simp [startsTo, ics, start_zero]]; exact Hlit.out), Lib.hid (Stp.alloc (Stp.refl w1) _)⟩
    case round =>
      obtain ⟨k, hk, rfl, HR, H2⟩ := hrel
      by_cases hlt : k < t.length
      · obtain ⟨n, hn⟩ : ∃ n, t[k]? = some n := ⟨_, List.getElem?_eq_getElem hlt⟩
        obtain ⟨b, o, rfl, -, q0, q1, q2, q3, q4, q5, q6, q7⟩ := (Ha.out.keep H2.out).cells hn
        obtain ⟨g, cap, rfl, hg1, hg2⟩ := HR.out.form (by rw [Ne, ← List.length_eq_zero_iff, ics_length, startsTo_length]; omega)
        have hlen : (ics (startsTo t k)).length = k + 1 := by rw [ics_length, startsTo_length]
        rw [hlen] at HR ⊢
        have Hlen := Lib.hid hlen
        have c0 := Own.cell HR.out (ics_at (startsTo_at (Nat.le_refl k)))
        have Hk := Lib.hid hn
        have Hsn := Lib.hid (Hs.out n (List.mem_of_getElem? hn))
        obtain ⟨S, hS⟩ : ∃ x, startN t k = x := ⟨_, rfl⟩
        obtain ⟨M, hM⟩ : ∃ x, (putE n).length = x := ⟨_, rfl⟩
        have hS1 := start_step hn
        rw [hS, hM] at hS1
        have h4 := Hsm.out (k + 1)
        rw [hS1] at h4
        have hw : IntKind.i64.wrap ((S : Int) + (M : Int)) = ((S + M : Nat) : Int) := by
          rw [IntKind.wrap_i64]
          omega
        rw [hS] at c0
        have HM := Lib.hid hM
        have HSk := Lib.hid hS
        have HS := Lib.hid (show startsTo t (k + 1) = startsTo t k ++ [S + M] by rw [startsTo_step, hS1])
        have Hbig := Lib.hid (show (ics (startsTo t k)).length + ([.int .i64 ((S + M : Nat) : Int)] : List Value).length ≤ maxLen by rw [hlen]; simp only [List.length_cons, List.length_nil]; unfold maxLen; omega)
        have Hbig2 := Lib.hid (show ((ics (startsTo t k)).length + ([.int .i64 ((S + M : Nat) : Int)] : List Value).length) * 8 ≤ 140737488355328 by rw [hlen]; simp only [List.length_cons, List.length_nil]; omega)
        have Hone := Lib.hid (show ∀ u ∈ ([.int .i64 ((S + M : Nat) : Int)] : List Value), u.oneCell' = true by simp [Value.oneCell'])
        clear hn hS hM hS1 h4 hlen
        go_wp2_with fail
        have hkk : (k : Int) < (k : Int) + 1 := by omega
        have hst : Stp wr wr.drew := Stp.drewN (Stp.refl _) 1
        replace HR := Lib.hid (HR.out.keep hst)
        replace H2 := Lib.hid (show Stp w1 wr.drew from Stp.trans H2.out hst)
        clear hst
        go_region_law (first
          | (refine step_app_own (P := Tryz.prog) (w2.alloc (.cells #[.int .i64 ((S + M : Nat) : Int)] 3)) rfl _ _ 23 rfl w1.heap.size 3 (.int .i64 0) 8 Tryz.underlying23 int_info rfl _ _ rfl (HR.out.alloc _) (w2.heap.size + 1) _ _ rfl (rd_lit w2 3 _) Hone.out Hbig.out Hbig2.out (Nat.le_trans H2.out.size (Stp.alloc (Stp.refl w2) _).size) ?_; intro v' w4 hv' hg4; have H4 := Lib.hid (Own.stp (HR.out.alloc _) (Stp.alloc H2.out _) (Nat.le_refl _) hg4); have HR4 := Lib.hid hv'; clear hv' hg4)
          | (go_simp; go_wp2_with (go_at_call 116; (with_reducible refine (rmany_n n _ rfl Hsn.out _).mono ?_); rintro e w2 ⟨rfl, hs⟩; rw [HM.out]; replace HR := Lib.hid (HR.out.keep hs); replace H2 := Lib.hid (Stp.trans H2.out hs); clear hs c0 q0 q1 q2 q3 q4 q5 q6 q7; have c0 := Own.cell HR.out (ics_at (startsTo_at (t := t) (Nat.le_refl k))); rw [HSk.out] at c0)))
        all_goals go_wp2_with fail
        all_goals
          go_roundw
          case rel => exact ⟨k + 1, by omega, by go_num, Lib.hid (by rw [HS.out, ics_append]; exact HR4.out), H4⟩
          case measure => simp [intOf]; omega
      · obtain rfl : k = t.length := by omega
        go_wp2_with fail
        go_ret
        exact ⟨_, rfl, HR.out.less H1.out.size, Stp.trans H1.out H2.out⟩
end Go.Proofs.YtopihahjjcpnpaaGreatDoor.Stream

namespace Go.Proofs.YtopihahjjcpnpaaGreatDoor.Stream
open Go.RowKit Go.Proofs.YtopihahjjcpnpaaGreatDoor.Str Go.Proofs.YtopihahjjcpnpaaGreatDoor.Base Go.Proofs.YtopihahjjcpnpaaGreatDoor.Node Go.Proofs.YtopihahjjcpnpaaGreatDoor.Head Go.Proofs.YtopihahjjcpnpaaGreatDoor.Long Go.Proofs.YtopihahjjcpnpaaGreatDoor.Entry
open Go.Proofs.YtopihahjjcpnpaaGreatDoor.Tree (oneB mayT)

theorem rstarts_i (t : List Nd) (A : Option Addr) (c : Nat) (w : World) (ha : RdN w A c t) (hl : t.length < 9223372036854775808) (hs : ∀ n ∈ t, SmallN n) :
    Calls Tryz.prog 75 #[.slice A t.length c] w fun e w' => ∃ B d, e = .returned (.slice B (startsS t).length d) ∧ RdI w' B d (startsS t) ∧ Stp w w' := by
  refine (rstarts_s t A c w ha hl hs).mono ?_
  rintro e w' ⟨v, rfl, h, hs⟩
  obtain ⟨B, d, rfl, hr⟩ := RdA.of h.rd
  exact ⟨B, d, by rw [ics_length], hr, hs⟩

theorem own_is (n : Nd) {a i : Nat} (h : a ≤ i) (e : Int) (he : e = ((a + (putE n).length : Nat) : Int)) : (if ((i : Int) - (e - (dataE n : Int))) < 0 then (-1 : Int) else (i : Int) - (e - (dataE n : Int))) = ownV n (i - a) := by
  subst he
  unfold ownV
  split <;> split <;> omega

set_option maxRecDepth 100000 in
set_option maxHeartbeats 4000000 in
theorem rwhere_s (t : List Nd) (i : Int) (A : Option Addr) (c : Nat) (w : World) (ha : RdN w A c t) (hl : t.length < 9223372036854775808) (hs : ∀ n ∈ t, SmallN n) (hi : i < 9223372036854775808) (hi' : -9223372036854775808 ≤ i) :
    Calls Tryz.prog 40 #[.slice A t.length c, .int .i64 i] w fun e w' => e = .returned (.tuple #[.int .i64 (whereS t i).1, .int .i64 (whereS t i).2]) ∧ Stp w w' := by
  have h0 := Stp.refl w
  have Ha := Lib.hid ha
  have Hl := Lib.hid hl
  have Hs := Lib.hid hs
  clear ha hl hs
  by_cases hin : 0 ≤ i ∧ i < ((allS t).length : Int)
  · obtain ⟨hi0, hi1⟩ := hin
    have hm : mayT t = true := by
      cases hq : mayT t with
      | false => rw [allS_no hq] at hi1; simp at hi1; omega
      | true => rfl
    have hal := all_length hm
    have hwh : whereS t i = whereL t 0 i.toNat := by unfold whereS; rw [if_pos ⟨hi0, hi1⟩]
    rw [hwh]
    obtain ⟨j, hij⟩ : ∃ j : Nat, i = (j : Int) := ⟨i.toNat, by omega⟩
    obtain ⟨M, hM⟩ : ∃ x : Int, ((allS t).length : Int) = x := ⟨_, rfl⟩
    obtain ⟨X, hX⟩ : ∃ x, whereL t 0 j = x := ⟨_, rfl⟩
    rw [show i.toNat = j by omega, hX]
    rw [hM] at hi1
    have Hij := Lib.hid hij
    have HX := Lib.hid hX
    have HM := Lib.hid hM
    have Hsm := Lib.hid (start_small hm)
    have h20 := may_len hm
    have hst := startsS_yes hm
    rw [show (List.range (t.length + 1)).map (startN t) = startsTo t t.length from rfl] at hst
    have Hst := Lib.hid hst
    have g0 : decide (i < 0) = false := decide_eq_false (by omega)
    have g1 : decide (M ≤ i) = false := decide_eq_false (by omega)
    clear hm hM hX hal hst hwh hi0 hi1 hij hi hi'
    go_enter Tryz.func40, Tryz.ntmps40
    go_wp2_with (first
      | (go_at_call 74; (with_reducible refine (rmany_s t A c _ Ha.out Hl.out Hs.out).mono ?_); rintro e w1 ⟨rfl, hs⟩; rw [HM.out]; replace Ha := Lib.hid (Ha.out.keep hs); replace h0 := Stp.trans h0 hs; clear hs)
      | (go_at_call 75; (with_reducible refine (rstarts_i t A c _ Ha.out Hl.out Hs.out).mono ?_); rintro e w2 ⟨B, d, rfl, hr, hs⟩; rw [Hst.out] at hr; rw [Hst.out, startsTo_length]; have Hr := Lib.hid hr; replace Ha := Lib.hid (Ha.out.keep hs); replace h0 := Stp.trans h0 hs; clear hs hr))
    have hcB := RdA.length_le Hr.out
    rw [ics_length, startsTo_length] at hcB
    go_loopw [7] (fun x wr => ∃ k : Nat, k ≤ t.length ∧ x = .int .i64 (k : Int) ∧ Hid (startN t k ≤ j) ∧ Hid (Stp w2 wr)) (fun x _ => t.length - (intOf x).toNat)
    case atStart => exact ⟨0, by omega, rfl, Lib.hid (by rw [start_zero]; omega), Lib.hid (Stp.refl w2)⟩
    case round =>
      obtain ⟨k, hk, rfl, Hj, H2⟩ := hrel
      by_cases hlt : k < t.length
      · obtain ⟨n, hn⟩ : ∃ n, t[k]? = some n := ⟨_, List.getElem?_eq_getElem hlt⟩
        obtain ⟨b, o, rfl, hb, q0, q1, q2, q3, q4, q5, q6, q7⟩ := (Ha.out.keep H2.out).cells hn
        obtain ⟨b2, o2, rfl, c0⟩ := RdI.cell (RdA.keep Hr.out H2.out) (startsTo_at (t := t) (k := t.length) (j := k) (by omega))
        obtain ⟨b9, o9, e9, c1⟩ := RdI.cell (RdA.keep Hr.out H2.out) (startsTo_at (t := t) (k := t.length) (j := k + 1) (by omega))
        cases e9
        obtain ⟨S, hS⟩ : ∃ x : Int, (startN t k : Int) = x := ⟨_, rfl⟩
        obtain ⟨T, hT⟩ : ∃ x : Int, (startN t (k + 1) : Int) = x := ⟨_, rfl⟩
        have hST := start_step hn
        have hs1 := Hsm.out (k + 1)
        rw [hS] at c0
        rw [hT] at c1
        have HS := Lib.hid hS
        have HT := Lib.hid hT
        have HST := Lib.hid hST
        have Hk := Lib.hid hn
        have Hsn := Lib.hid (Hs.out n (List.mem_of_getElem? hn))
        have gS : decide (S ≤ i) = true := decide_eq_true (by have := Hj.out; have := Hij.out; omega)
        have hkp : IntKind.i64.wrap ((k : Int) + 1) = (k : Int) + 1 := by
          rw [IntKind.wrap_i64]
          omega
        have hk0 : (0 : Int) ≤ (k : Int) + 1 := by omega
        have hk1 : (k : Int) + 1 < (t.length : Int) + 1 := by omega
        by_cases hjT : j < startN t (k + 1)
        · have gT : decide (i < T) = true := decide_eq_true (by have := Hij.out; omega)
          obtain ⟨D, hD⟩ : ∃ x : Int, (dataE n : Int) = x := ⟨_, rfl⟩
          have hDl := data_le n
          have HD := Lib.hid hD
          have hw1 : IntKind.i64.wrap (T - D) = T - D := by
            rw [IntKind.wrap_i64]
            omega
          have hw2 : IntKind.i64.wrap (i - (T - D)) = i - (T - D) := by
            have := Hij.out
            rw [IntKind.wrap_i64]
            omega
          have hown := own_is n Hj.out T (by rw [← hT, hST])
          rw [hD, ← Hij.out] at hown
          have Hown := Lib.hid hown
          have hXv := whereL_in hn Hj.out hjT
          rw [HX.out] at hXv
          have HXv := Lib.hid hXv
          have HjT := Lib.hid hjT
          clear hD hDl hown hXv hS hT hST hn hs1 hjT
          go_wp2_with fail
          have key : ∀ W, Stp wr W → (W.cell? ⟨b, o + k * 8, none⟩ = some (.string ⟨n.path.toArray⟩) ∧ W.cell? ⟨b, o + k * 8 + 1, none⟩ = some (.string ⟨n.link.toArray⟩) ∧ W.cell? ⟨b, o + k * 8 + 2, none⟩ = some (.int .u8 (n.kind.toNat : Int)) ∧ W.cell? ⟨b, o + k * 8 + 3, none⟩ = some (.int .i64 n.mode) ∧ W.cell? ⟨b, o + k * 8 + 4, none⟩ = some (.int .i64 n.uid) ∧ W.cell? ⟨b, o + k * 8 + 5, none⟩ = some (.int .i64 n.gid) ∧ W.cell? ⟨b, o + k * 8 + 6, none⟩ = some (.int .i64 n.time) ∧ W.cell? ⟨b, o + k * 8 + 7, none⟩ = some (.string ⟨n.data.toArray⟩)) ∧ W.cell? ⟨b2, o2 + (k + 1), none⟩ = some (.int .i64 T) := fun W hW => by
            obtain ⟨b9, o9, e9, -, r0, r1, r2, r3, r4, r5, r6, r7⟩ := (Ha.out.keep (Stp.trans H2.out hW)).cells Hk.out
            cases e9
            obtain ⟨b9, o9, e9, r8⟩ := RdI.cell (RdA.keep Hr.out (Stp.trans H2.out hW)) (startsTo_at (t := t) (k := t.length) (j := k + 1) (by omega))
            cases e9
            rw [HT.out] at r8
            exact ⟨⟨r0, r1, r2, r3, r4, r5, r6, r7⟩, r8⟩
          have Key := Lib.hid key
          clear key
          go_region_held3 (fun W : World => (W.cell? ⟨b, o + k * 8, none⟩ = some (.string ⟨n.path.toArray⟩) ∧ W.cell? ⟨b, o + k * 8 + 1, none⟩ = some (.string ⟨n.link.toArray⟩) ∧ W.cell? ⟨b, o + k * 8 + 2, none⟩ = some (.int .u8 (n.kind.toNat : Int)) ∧ W.cell? ⟨b, o + k * 8 + 3, none⟩ = some (.int .i64 n.mode) ∧ W.cell? ⟨b, o + k * 8 + 4, none⟩ = some (.int .i64 n.uid) ∧ W.cell? ⟨b, o + k * 8 + 5, none⟩ = some (.int .i64 n.gid) ∧ W.cell? ⟨b, o + k * 8 + 6, none⟩ = some (.int .i64 n.time) ∧ W.cell? ⟨b, o + k * 8 + 7, none⟩ = some (.string ⟨n.data.toArray⟩)) ∧ W.cell? ⟨b2, o2 + (k + 1), none⟩ = some (.int .i64 T))
            (first | exact Key.out _ (stp_drew (Stp.refl _)) | exact Key.out _ H3.out)
            (first | (go_at_call 76; (with_reducible refine (rdata_n n _ rfl Hsn.out _).mono ?_); rintro e w3 ⟨rfl, hs⟩; rw [HD.out]; have H3 := Lib.hid (Stp.trans (stp_drew (Stp.refl wr)) hs); clear hs))
          go_wp2_with fail
          all_goals go_ret2
          all_goals (refine ⟨?_, Stp.trans h0 (Stp.trans H2.out H3.out)⟩; rw [HXv.out, ← Hown.out]; first | (rw [if_pos (by omega)]; rfl) | (rw [if_neg (by omega)]; rfl))
        · have gT : decide (i < T) = false := decide_eq_false (by have := Hij.out; omega)
          have HjT := Lib.hid hjT
          clear hS hT hST hn hs1 hjT
          go_wp2_with fail
          go_roundw
          case rel => exact ⟨k + 1, by omega, by go_num, Lib.hid (by have := HjT.out; omega), H2⟩
          case measure => simp [intOf]; omega
      · obtain rfl : k = t.length := by omega
        have hXv := whereL_out Hj.out
        rw [HX.out] at hXv
        have HXv := Lib.hid hXv
        clear hXv
        go_wp2_with fail
        go_ret2
        refine ⟨?_, Stp.trans h0 H2.out⟩
        rw [HXv.out]
        rfl
  · have hwh : whereS t i = (-1, -1) := by unfold whereS; rw [if_neg hin]
    rw [hwh]
    obtain ⟨N, hN⟩ : ∃ x, (allS t).length = x := ⟨_, rfl⟩
    rw [hN] at hin
    have HN := Lib.hid hN
    clear hwh hN
    by_cases hi0 : i < 0
    · go_enter Tryz.func40, Tryz.ntmps40
      go_wp2_with fail
      go_ret2
      exact ⟨rfl, h0⟩
    · have g1 : decide ((N : Int) ≤ i) = true := decide_eq_true (by omega)
      go_enter Tryz.func40, Tryz.ntmps40
      go_wp2_with (go_at_call 74; (with_reducible refine (rmany_s t A c _ Ha.out Hl.out Hs.out).mono ?_); rintro e w1 ⟨rfl, hs⟩; rw [HN.out]; replace h0 := Stp.trans h0 hs; clear hs)
      go_ret2
      exact ⟨rfl, h0⟩
end Go.Proofs.YtopihahjjcpnpaaGreatDoor.Stream

