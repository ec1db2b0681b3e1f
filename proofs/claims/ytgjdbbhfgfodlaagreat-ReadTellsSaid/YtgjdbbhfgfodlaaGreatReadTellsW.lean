/-
  The document's answers for reading (Gather, Part, Read, Used), and the law ReadTells, over the contracts of the code and of the document's parser: no statement is proved here.
-/
import Derived.Test.YtgjdbbhfgfodlaaGreatReadK
import Derived.Test.YtgjdbbhfgfodlaaGreatReadGathersW
import Derived.BigQuiet
import Derived.Deep.Cut
import Derived.Deep.QuietTactic
namespace Go.Proofs.YtgjdbbhfgfodlaaGreat.Read
open Go.RowKit Go.Proofs.YtgjdbbhfgfodlaaGreat.Str Go.Proofs.YtgjdbbhfgfodlaaGreat.Base Go.Proofs.YtgjdbbhfgfodlaaGreat.Node
open Go.Proofs.YtgjdbbhfgfodlaaGreat.Parse (Evt RdE zeroS phS runS stepS St scells sv RunR SmallS)

theorem ntc_set (ds : List Nd) (d : Nd) (l : List UInt8) : (ntc (ds ++ [d])).set (ds.length * 8 + 7) (.string ⟨(d.data ++ l).toArray⟩) = ntc (ds ++ [moreN d l]) := by
  rw [ntc_append, ntc_append, List.set_append_right _ _ (by rw [ntc_length]; omega), ntc_length, show ds.length * 8 + 7 - ds.length * 8 = 7 by omega]
  rfl
theorem ntc_piece {w : World} {b g n cap : Nat} {ds : List Nd} {d : Nd} (h : w.ownsRow b 38 8 (.slice (some ⟨g, 0, none⟩) n cap) n (ntc (ds ++ [d]))) : w.cell? ⟨g, ds.length * 8 + 7, none⟩ = some (.string ⟨d.data.toArray⟩) ∧ w.frozen? ⟨g, ds.length * 8 + 7, none⟩ = false := by
  obtain ⟨cur, hb, h1, h2, h3, h4, hl, -⟩ := row_blk h
  refine ⟨?_, hb.free _⟩
  rw [hb.cell]
  have e : (ntc (ds ++ [d]))[ds.length * 8 + 7]? = some (.string ⟨d.data.toArray⟩) := ntc_at (j := ds.length) (i := 7) (n := d) (by simp) (by omega)
  rw [← h4, List.getElem?_take] at e
  split at e
  · simpa using e
  · cases e
/-- What the document's Gather has after so many events. -/
structure Gg (w wr : World) (l : List Evt) (r : List Nd × Option Nd × Bool) (k : Nat) (ds : List Nd) (c : Option Nd) (v : Value) : Prop where
  go : r = goG ds c (l.drop k)
  row : wr.ownsRow w.heap.size 38 8 v (outG ds c).length (ntc (outG ds c))
  stp : Stp w wr
  len : (outG ds c).length ≤ k
  data : ∀ n, c = some n → n.data.length ≤ (k + 1) * 1000000

theorem drop_at {l : List Evt} {k : Nat} {x : Evt} (h : l[k]? = some x) : l.drop k = x :: l.drop (k + 1) := by
  obtain ⟨hk, rfl⟩ := List.getElem?_eq_some_iff.1 h
  exact List.drop_eq_getElem_cons hk
theorem outG_none (ds : List Nd) : outG ds none = ds := by simp [outG]
theorem outG_some (ds : List Nd) (n : Nd) : outG ds (some n) = ds ++ [n] := rfl

set_option maxRecDepth 100000 in
set_option maxHeartbeats 4000000 in
theorem rgather_s (l : List Evt) (n : Nat) (hn : l.length = n) (hn1 : n ≤ 2999) (hb : ∀ x ∈ l, BytesE x) (r : List Nd × Option Nd × Bool) (hr : goG [] none l = r) (ns : List Nd) (ok : Bool) (m : Nat) (h1 : outG r.1 r.2.1 = ns) (h2 : r.2.2 = ok) (h3 : ns.length = m) (A : Option Addr) (c : Nat) (w : World) (ha : RdE w A c l) :
    Calls Tryz.prog 8 #[.slice A n c] w fun e w' => ∃ B d, e = .returned (.tuple #[.slice B m d, .bool ok]) ∧ RdN w' B d ns ∧ Stp w w' := by
  obtain ⟨i0, hi, hz, hsz, hby⟩ := info_parts Tree.node_info
  have HN := Lib.hid hn
  have Ha := Lib.hid ha
  have HB := Lib.hid hb
  have H1 := Lib.hid h1
  have H2 := Lib.hid h2
  have H3 := Lib.hid h3
  have G0 : Hid (Gg w w l r 0 [] none (.slice none 0 0)) := Lib.hid ⟨hr.symm, World.ownsRow_nil _ _ _ _, Stp.refl w, by simp [outG], fun n h => by cases h⟩
  clear hn ha hb h1 h2 h3 hr
  go_enter Tryz.func8, Tryz.ntmps8
  go_wp2_with fail
  go_loopw [4, 5, 6] (fun v o i wr => ∃ (k : Nat) (ds : List Nd) (cc : Option Nd) (u : Value), u = v ∧ k ≤ n ∧ o = .bool cc.isSome ∧ i = .int .i64 (k : Int) ∧ Hid (Gg w wr l r k ds cc u)) (fun _ _ i _ => n - (intOf i).toNat)
  case atStart => exact ⟨0, [], none, _, rfl, by omega, rfl, rfl, G0⟩
  case round =>
    obtain ⟨k, ds, cc, u, rfl, hk, rfl, rfl, HG⟩ := hrel
    obtain ⟨dl, hdl⟩ : ∃ dl, (outG ds cc).length = dl := ⟨_, rfl⟩
    have hlk := HG.out.len
    rw [hdl] at hlk
    obtain ⟨A4, c4, hu, hR⟩ := RdN.of_row HG.out.row
    rw [hdl] at hu
    subst hu
    have HR := Lib.hid hR
    have Hdl := Lib.hid hdl
    clear hR hdl
    by_cases hlt : k < n
    · obtain ⟨x, hx⟩ : ∃ x, l[k]? = some x := ⟨_, List.getElem?_eq_getElem (by rw [HN.out]; exact hlt)⟩
      obtain ⟨b, o, rfl, hbl, q0, q1, q2, q3, q4, q5, q6, q7, q8, q9⟩ := (Ha.out.keep HG.out.stp).cells hx
      have hc := Ha.out.1
      rw [HN.out] at hc
      have hg := HG.out.go
      rw [drop_at hx] at hg
      have hxb := HB.out x (List.mem_of_getElem? hx)
      have Hxb := Lib.hid hxb
      clear hx hxb
      cases cc with
      | none =>
        simp only [Option.isSome_none]
        by_cases hk0 : x.kind = 0
        · have g0 : (x.kind == 0) = true := by rw [hk0]; rfl
          have hg2 : r = goG ds (some x.node) (l.drop (k + 1)) := by rw [hg, goG, if_pos hk0]
          have Hg2 := Lib.hid hg2
          clear hg hg2 hk0
          go_wp2_with (at_builtin; refine wpList_append_own (P := Tryz.prog) _ rfl (.tmp 26) (.tmp 32) 27 rfl w.heap.size 38 i0 _ 8 88 Tryz.underlying27 hi hz hsz hby rfl (by decide) _ dl (ntc (outG ds none)) rfl ((Hdl.out ▸ HG.out.row :).alloc _) ⟨wr.heap.size, 0, none⟩ 1 1 (ncells x.node).toList rfl rfl (lit_at x.node _ _ _ rfl) (lit_one _) (by unfold maxLen; omega) (by omega) (by have := HG.out.stp.size; rw [World.size_alloc]; omega) ?_; intro v' w4 hv' hg4 _; have H4 := Lib.hid (row_stp ((HG.out.row).alloc _) (Stp.alloc HG.out.stp _) (Nat.le_refl _) hg4); have Hv4 := Lib.hid hv'; clear hv' hg4 q0 q1 q2 q3 q4 q5 q6 q7 q8 q9)
          go_roundw
          case rel =>
            refine ⟨k + 1, ds, some x.node, _, rfl, by omega, rfl, by go_num, Lib.hid ⟨Hg2.out, ?_, H4.out, ?_, fun n hn => ?_⟩⟩
            · have h := Hv4.out
              have h5 := Hdl.out
              rw [outG_none] at h h5
              rw [outG_some, ntc_append, List.length_append, h5]
              exact h
            · have h5 := Hdl.out
              rw [outG_none] at h5
              rw [outG_some, List.length_append, h5]
              simp
              omega
            · cases hn
              have := Hxb.out.2
              omega
          case measure => simp [intOf]; omega
        · have g0 : (x.kind == 0) = false := by rw [beq_eq_false_iff_ne]; exact hk0
          have hg2 : r = (ds, none, false) := by rw [hg, goG, if_neg hk0]
          have Hg2 := Lib.hid hg2
          clear hg hg2 hk0
          obtain ⟨t1, ht1⟩ : ∃ t, (x.kind == 1) = t := ⟨_, rfl⟩
          obtain ⟨t2, ht2⟩ : ∃ t, (x.kind == 2) = t := ⟨_, rfl⟩
          cases t1 <;> cases t2
          all_goals
            go_wp2_with fail
            go_ret2
            have e1 := H1.out
            have e2 := H2.out
            have e3 := H3.out
            have h5 := Hdl.out
            rw [Hg2.out] at e1 e2
            subst e1 e2
            rw [h5] at e3
            subst e3
            exact ⟨A4, c4, rfl, HR.out, HG.out.stp⟩
      | some n0 =>
        simp only [Option.isSome_some]
        have hdl := Hdl.out
        rw [outG_some, List.length_append, List.length_cons, List.length_nil, Nat.zero_add] at hdl
        subst hdl
        have hrow : wr.ownsRow w.heap.size 38 8 (.slice A4 (ds.length + 1) c4) (ds.length + 1) (ntc (ds ++ [n0])) := by
          have h := HG.out.row
          rw [outG_some, List.length_append] at h
          exact h
        by_cases hk1 : x.kind = 1
        · have g0 : (x.kind == 0) = false := by rw [hk1]; rfl
          have g1 : (x.kind == 1) = true := by rw [hk1]; rfl
          have hg2 : r = goG ds (some (moreN n0 x.data)) (l.drop (k + 1)) := by rw [hg, goG, if_pos hk1]
          have Hg2 := Lib.hid hg2
          obtain ⟨g, cap, e⟩ := ownsRow_succ hrow
          cases e
          have hdb := HG.out.data n0 rfl
          have hxb := Hxb.out.1
          have hadd := add_ll n0.data x.data (by omega)
          obtain ⟨hd1, hf1⟩ := ntc_piece hrow
          have d1 : wr.drew.cell? ⟨g, ds.length * 8 + 7, none⟩ = some (.string ⟨n0.data.toArray⟩) := hd1
          have d2 : wr.drew.frozen? ⟨g, ds.length * 8 + 7, none⟩ = false := hf1
          have d3 : wr.drew.cell? ⟨b, o + k * 10 + 9, none⟩ = some (.string ⟨x.data.toArray⟩) := q9
          have HV : Hid ((wr.drew.setCell ⟨g, ds.length * 8 + 7, none⟩ (.string ⟨(n0.data ++ x.data).toArray⟩)).ownsRow w.heap.size 38 8 (.slice (some ⟨g, 0, none⟩) (ds.length + 1) c4) (ds.length + 1) (ntc (ds ++ [moreN n0 x.data]))) := Lib.hid (by
            rw [← ntc_set]
            exact row_put (w := wr.drew) hrow _ _)
          obtain ⟨cur, -, -, hc4, -, -, -, hlo⟩ := row_blk hrow
          have HS : Hid (Stp w (wr.drew.setCell ⟨g, ds.length * 8 + 7, none⟩ (.string ⟨(n0.data ++ x.data).toArray⟩))) := Lib.hid (Below.setCell (Stp.drewN HG.out.stp 1) (p := ⟨g, ds.length * 8 + 7, none⟩) hlo _)
          have Hdb := Lib.hid (And.intro hdb hxb)
          clear hg hg2 hk1 hd1 hf1 hdb hxb hrow hlo hc4
          go_wp2_with fail
          go_region
          all_goals go_wp2_with fail
          go_roundw
          case rel =>
            refine ⟨k + 1, ds, some (moreN n0 x.data), _, rfl, by omega, rfl, by go_num, Lib.hid ⟨Hg2.out, ?_, HS.out, ?_, fun n hn => ?_⟩⟩
            · rw [outG_some, List.length_append]
              exact HV.out
            · rw [outG_some, List.length_append]
              simp
              omega
            · cases hn
              have := Hdb.out
              show (n0.data ++ x.data).length ≤ _
              rw [List.length_append]
              omega
          case measure => simp [intOf]; omega
        · by_cases hk2 : x.kind = 2
          · have g0 : (x.kind == 0) = false := by rw [hk2]; rfl
            have g1 : (x.kind == 1) = false := by rw [hk2]; rfl
            have g2 : (x.kind == 2) = true := by rw [hk2]; rfl
            have hg2 : r = goG (ds ++ [n0]) none (l.drop (k + 1)) := by rw [hg, goG, if_neg hk1, if_pos hk2]
            have Hg2 := Lib.hid hg2
            have Hrow := Lib.hid hrow
            clear hg hg2 hk1 hk2 hrow
            go_wp2_with fail
            go_roundw
            case rel =>
              refine ⟨k + 1, ds ++ [n0], none, _, rfl, by omega, rfl, by go_num, Lib.hid ⟨Hg2.out, ?_, HG.out.stp, ?_, fun n hn => by cases hn⟩⟩
              · rw [outG_none, List.length_append]
                exact Hrow.out
              · rw [outG_none, List.length_append]
                simp
                omega
            case measure => simp [intOf]; omega
          · have g1 : (x.kind == 1) = false := by rw [beq_eq_false_iff_ne]; exact hk1
            have g2 : (x.kind == 2) = false := by rw [beq_eq_false_iff_ne]; exact hk2
            have hg2 : r = (ds, some n0, false) := by rw [hg, goG, if_neg hk1, if_neg hk2]
            have Hg2 := Lib.hid hg2
            clear hg hg2 hk1 hk2 hrow
            obtain ⟨t0, ht0⟩ : ∃ t, (x.kind == 0) = t := ⟨_, rfl⟩
            cases t0
            all_goals
              go_wp2_with fail
              go_ret2
              have e1 := H1.out
              have e2 := H2.out
              have e3 := H3.out
              rw [Hg2.out] at e1 e2
              subst e1 e2
              rw [outG_some, List.length_append] at e3
              subst e3
              exact ⟨A4, c4, rfl, HR.out, HG.out.stp⟩
    · obtain rfl : k = n := by omega
      go_wp2_with fail
      go_ret2
      have hg := HG.out.go
      rw [List.drop_of_length_le (by rw [HN.out]; exact Nat.le_refl _), go_nil] at hg
      have e1 := H1.out
      have e2 := H2.out
      have e3 := H3.out
      have h5 := Hdl.out
      rw [hg] at e1 e2
      subst e1 e2
      rw [h5] at e3
      subst e3
      exact ⟨A4, c4, rfl, HR.out, HG.out.stp⟩

theorem rgather_v (l : List Evt) (n : Nat) (hn : l.length = n) (hn1 : n ≤ 2999) (hb : ∀ x ∈ l, BytesE x) (ns : List Nd) (ok : Bool) (m : Nat) (hg : gatherV l = (ns, ok)) (hm : ns.length = m) (A : Option Addr) (c : Nat) (w : World) (ha : RdE w A c l) :
    Calls Tryz.prog 8 #[.slice A n c] w fun e w' => ∃ B d, e = .returned (.tuple #[.slice B m d, .bool ok]) ∧ RdN w' B d ns ∧ Stp w w' := by
  unfold gatherV at hg
  simp only [Prod.mk.injEq] at hg
  exact rgather_s l n hn hn1 hb _ rfl ns ok m hg.1 hg.2 hm A c w ha

set_option maxRecDepth 100000 in
set_option maxHeartbeats 2000000 in
theorem rused_v (I : RunR) (l : List L) (n : Nat) (hn : l.length = n) (hn1 : n ≤ 1000) (hl : ∀ b ∈ l, b.length < 9223372036854775808) (m : Nat) (hm : usedV l = m) (A : Option Addr) (c : Nat) (w : World) (ha : RdL w A c l) :
    Calls Tryz.prog 15 #[.slice A n c] w fun e w' => e = .returned (.int .i64 (m : Int)) ∧ Stp w w' := by
  have h0 := Stp.refl w
  obtain ⟨t, y, k, e0, hr⟩ : ∃ t y k e0, runS zeroS l = (t, y, k, e0) := ⟨_, _, _, _, rfl⟩
  have hkm : k = m := by rw [← hm]; unfold usedV; rw [hr]
  subst hkm
  have HN := Lib.hid hn
  have HL := Lib.hid hl
  have HA := Lib.hid ha
  have HR := Lib.hid hr
  unfold RunR at I
  have HI := Lib.hid I
  clear hn hl ha hr hm I
  go_enter Tryz.func15, Tryz.ntmps15
  go_wp2_with (go_at_call 20; (with_reducible refine (HI.out zeroS _ Parse.zero_sv Parse.zeroS_small l n HN.out hn1 HL.out t y y.length k e0 HR.out rfl _ _ _ (HA.out.keep (Stp.refl _))).mono ?_); rintro e w2 ⟨B2, d2, rfl, -, hs⟩; replace h0 := Stp.alloc (Stp.trans h0 hs) (.cells (scells t) 50); clear hs)
  go_ret
  exact ⟨rfl, h0⟩

set_option maxRecDepth 100000 in
set_option maxHeartbeats 2000000 in
theorem rpart_v (I : RunR) (l : List L) (n : Nat) (hn : l.length = n) (hn1 : n ≤ 1000) (hl : ∀ b ∈ l, b.length < 9223372036854775808) (ns : List Nd) (e0 : Int) (m : Nat) (hm : partV l = (ns, e0)) (hm2 : ns.length = m) (A : Option Addr) (c : Nat) (w : World) (ha : RdL w A c l) :
    Calls Tryz.prog 10 #[.slice A n c] w fun e w' => ∃ B d, e = .returned (.tuple #[.slice B m d, .int .i64 e0]) ∧ RdN w' B d ns ∧ Stp w w' := by
  have h0 := Stp.refl w
  obtain ⟨t, y, k, e1, hr⟩ : ∃ t y k e0, runS zeroS l = (t, y, k, e0) := ⟨_, _, _, _, rfl⟩
  unfold partV at hm
  rw [hr] at hm
  simp only [Prod.mk.injEq] at hm
  obtain ⟨hm, rfl⟩ := hm
  have hf := Parse.run_facts l zeroS
  have hby := run_bytes l zeroS
  rw [hr] at hf hby
  have hyl : y.length ≤ 2999 := by have h1 := hf.len; have h2 := hf.n; simp only at h1 h2; omega
  obtain ⟨ok, hok⟩ : ∃ ok, gatherV y = (ns, ok) := ⟨(gatherV y).2, by rw [← hm]⟩
  have HN := Lib.hid hn
  have HL := Lib.hid hl
  have HA := Lib.hid ha
  have HR := Lib.hid hr
  unfold RunR at I
  have HI := Lib.hid I
  have HB := Lib.hid hby
  have HO := Lib.hid hok
  have HM := Lib.hid hm2
  clear hn hl ha hr hm I hf hby hok hm2
  go_enter Tryz.func10, Tryz.ntmps10
  go_wp2_with (first
    | (go_at_call 20; (with_reducible refine (HI.out zeroS _ Parse.zero_sv Parse.zeroS_small l n HN.out hn1 HL.out t y y.length k e1 HR.out rfl _ _ _ (HA.out.keep (Stp.refl _))).mono ?_); rintro e w2 ⟨B2, d2, rfl, he, hs⟩; have HE := Lib.hid (he.keep (Stp.alloc (Stp.refl _) (.cells (scells t) 50))); replace h0 := Stp.alloc (Stp.trans h0 hs) (.cells (scells t) 50); clear hs he)
    | (go_at_call 8; go_loud ((with_reducible refine (rgather_v y y.length rfl hyl HB.out ns ok m HO.out HM.out _ _ _ HE.out).mono ?_); rintro e w3 ⟨B3, d3, rfl, hr3, hs⟩; have HR3 := Lib.hid hr3; replace h0 := Stp.trans h0 hs; clear hs hr3)))
  go_ret2
  exact ⟨B3, d3, rfl, HR3.out, h0⟩

set_option maxRecDepth 100000 in
set_option maxHeartbeats 2000000 in
theorem rread_v (I : RunR) (l : List L) (n : Nat) (hn : l.length = n) (hn1 : n ≤ 1000) (hl : ∀ b ∈ l, b.length < 9223372036854775808) (ns : List Nd) (e0 : Int) (m : Nat) (hm : readV l = (ns, e0)) (hm2 : ns.length = m) (A : Option Addr) (c : Nat) (w : World) (ha : RdL w A c l) :
    Calls Tryz.prog 12 #[.slice A n c] w fun e w' => ∃ B d, e = .returned (.tuple #[.slice B m d, .int .i64 e0]) ∧ RdN w' B d ns ∧ Stp w w' := by
  have h0 := Stp.refl w
  obtain ⟨t, y, k, e1, hr⟩ : ∃ t y k e0, runS zeroS l = (t, y, k, e0) := ⟨_, _, _, _, rfl⟩
  have hf := Parse.run_facts l zeroS
  have hby := run_bytes l zeroS
  rw [hr] at hf hby
  have hyl : y.length ≤ 2999 := by have h1 := hf.len; have h2 := hf.n; simp only at h1 h2; omega
  unfold readV at hm
  rw [hr] at hm
  simp only at hm
  have HN := Lib.hid hn
  have HL := Lib.hid hl
  have HA := Lib.hid ha
  have HR := Lib.hid hr
  unfold RunR at I
  have HI := Lib.hid I
  have HB := Lib.hid hby
  by_cases he1 : e1 = 0
  · subst he1
    rw [if_neg (by simp)] at hm
    by_cases h5 : t.phase = 5
    · rw [if_neg (by simp [h5])] at hm
      simp only [Prod.mk.injEq] at hm
      obtain ⟨hm, rfl⟩ := hm
      obtain ⟨ok, hok⟩ : ∃ ok, gatherV y = (ns, ok) := ⟨(gatherV y).2, by rw [← hm]⟩
      have g5 : (t.phase != 5) = false := by rw [h5]; rfl
      have HO := Lib.hid hok
      have HM := Lib.hid hm2
      clear hn hl ha hr hm I hf hby hok hm2 h5
      go_enter Tryz.func12, Tryz.ntmps12
      go_wp2_with (first
        | (go_at_call 20; (with_reducible refine (HI.out zeroS _ Parse.zero_sv Parse.zeroS_small l n HN.out hn1 HL.out t y y.length k 0 HR.out rfl _ _ _ (HA.out.keep (Stp.refl _))).mono ?_); rintro e w2 ⟨B2, d2, rfl, he, hs⟩; have HE := Lib.hid (he.keep (Stp.alloc (Stp.refl _) (.cells (scells t) 50))); replace h0 := Stp.alloc (Stp.trans h0 hs) (.cells (scells t) 50); have q0 := (Parse.st_cells (Blk.new w2 50 (scells t))).1; clear hs he)
        | (go_at_call 8; go_loud ((with_reducible refine (rgather_v y y.length rfl hyl HB.out ns ok m HO.out HM.out _ _ _ HE.out).mono ?_); rintro e w3 ⟨B3, d3, rfl, hr3, hs⟩; have HR3 := Lib.hid hr3; replace h0 := Stp.trans h0 hs; clear hs hr3)))
      go_ret2
      exact ⟨B3, d3, rfl, HR3.out, h0⟩
    · rw [if_pos h5] at hm
      simp only [Prod.mk.injEq] at hm
      obtain ⟨rfl, rfl⟩ := hm
      have g5 : (t.phase != 5) = true := by rw [bne_iff_ne]; exact h5
      subst hm2
      clear hn hl ha hr I hf hby h5
      go_enter Tryz.func12, Tryz.ntmps12
      go_wp2_with (go_at_call 20; (with_reducible refine (HI.out zeroS _ Parse.zero_sv Parse.zeroS_small l n HN.out hn1 HL.out t y y.length k 0 HR.out rfl _ _ _ (HA.out.keep (Stp.refl _))).mono ?_); rintro e w2 ⟨B2, d2, rfl, he, hs⟩; replace h0 := Stp.alloc (Stp.trans h0 hs) (.cells (scells t) 50); have q0 := (Parse.st_cells (Blk.new w2 50 (scells t))).1; clear hs he)
      go_ret2
      exact ⟨none, 0, rfl, RdN.nil _, h0⟩
  · rw [if_pos he1] at hm
    simp only [Prod.mk.injEq] at hm
    obtain ⟨rfl, rfl⟩ := hm
    have g1 : (e1 != 0) = true := by rw [bne_iff_ne]; exact he1
    subst hm2
    clear hn hl ha hr I hf hby he1
    go_enter Tryz.func12, Tryz.ntmps12
    go_wp2_with (go_at_call 20; (with_reducible refine (HI.out zeroS _ Parse.zero_sv Parse.zeroS_small l n HN.out hn1 HL.out t y y.length k e1 HR.out rfl _ _ _ (HA.out.keep (Stp.refl _))).mono ?_); rintro e w2 ⟨B2, d2, rfl, he, hs⟩; replace h0 := Stp.alloc (Stp.trans h0 hs) (.cells (scells t) 50); clear hs he)
    go_ret2
    exact ⟨none, 0, rfl, RdN.nil _, h0⟩

theorem few_bn (ls : List L) (m : Nat) (hm : ls.length = m) (A : Option Addr) (c : Nat) (w : World) (ha : RdL w A c ls) (hl : m < 9223372036854775808) (hls : ∀ l ∈ ls, l.length < 9223372036854775808) :
    Calls Tryz.prog 6 #[.slice A m c] w fun e w' => e = .returned (.bool (Block.fewV ls)) ∧ Stp w w' := by
  subst hm
  exact Block.few_s ls A c w ha hl hls

set_option maxRecDepth 100000 in
set_option maxHeartbeats 4000000 in
theorem tells_no (I : ReadI) (l : List Evt) (b : List L) (nl nb : Nat) (hnl : l.length = nl) (hnb : b.length = nb) (A B : Option Addr) (c d : Nat) (w : World) (ha : RdE w A c l) (hb : RdL w B d b) (hll : nl < 9223372036854775808) (hlb : nb < 9223372036854775808) (hbs : ∀ x ∈ b, x.length < 9223372036854775808)
    (F G : Bool) (hF : fewE l = F) (hG : Block.fewV b = G) (hn : (F = false ∧ G = false) ∨ (F = false ∧ G = true) ∨ (F = true ∧ G = false)) :
    Calls Tryz.prog 3 #[.slice A nl c, .slice B nb d] w fun e w' => e = .returned (.bool true) ∧ Stp w w' := by
  have h0 := Stp.refl w
  have HF := Lib.hid hF
  have HG := Lib.hid hG
  have HI := Lib.hid I
  have Hnl := Lib.hid hnl
  have Hnb := Lib.hid hnb
  have Ha := Lib.hid ha
  have Hb := Lib.hid hb
  have Hbs := Lib.hid hbs
  clear hF hG I hnl hnb ha hb hbs
  rcases hn with ⟨rfl, rfl⟩ | ⟨rfl, rfl⟩ | ⟨rfl, rfl⟩
  all_goals
    go_enter Tryz.func3, Tryz.ntmps3
    go_wp2_with (first
      | (go_at_call 4; (with_reducible refine (awake_s HI.out _).mono ?_); rintro e w1 ⟨rfl, hs⟩; replace h0 := Stp.trans h0 hs; replace Ha := Lib.hid (Ha.out.keep hs); replace Hb := Lib.hid (Hb.out.keep hs); clear hs)
      | (go_at_call 5; (with_reducible refine (fewe_s l _ Hnl.out hll _ _ _ Ha.out).mono ?_); rintro e w2 ⟨rfl, hs⟩; rw [HF.out]; replace h0 := Stp.trans h0 hs; replace Ha := Lib.hid (Ha.out.keep hs); replace Hb := Lib.hid (Hb.out.keep hs); clear hs)
      | (go_at_call 6; (with_reducible refine (few_bn b _ Hnb.out _ _ _ Hb.out hlb Hbs.out).mono ?_); rintro e w3 ⟨rfl, hs⟩; rw [HG.out]; replace h0 := Stp.trans h0 hs; replace Ha := Lib.hid (Ha.out.keep hs); replace Hb := Lib.hid (Hb.out.keep hs); clear hs))
    all_goals go_ret
    all_goals exact ⟨rfl, h0⟩

set_option maxRecDepth 100000 in
set_option maxHeartbeats 4000000 in
theorem tells_yes (I : ReadI) (R : RunR) (l : List Evt) (b : List L) (nl nb : Nat) (hnl : l.length = nl) (hnb : b.length = nb) (A B : Option Addr) (c d : Nat) (w : World) (ha : RdE w A c l) (hb : RdL w B d b) (hbs : ∀ x ∈ b, x.length < 9223372036854775808)
    (hF : fewE l = true) (hG : Block.fewV b = true) :
    Calls Tryz.prog 3 #[.slice A nl c, .slice B nb d] w fun e w' => e = .returned (.bool true) ∧ Stp w w' := by
  have h0 := Stp.refl w
  obtain ⟨hl60, hlx⟩ := fewE_iff.1 hF
  have hb60 := (Block.fewV_iff.1 hG).1
  rw [hnl] at hl60
  rw [hnb] at hb60
  have HB : Hid (∀ x ∈ l, BytesE x) := Lib.hid fun x hx => fewX_bytes (hlx x hx)
  obtain ⟨ns, ok, hg⟩ : ∃ ns ok, gatherV l = (ns, ok) := ⟨_, _, rfl⟩
  obtain ⟨ps, e1, hp⟩ : ∃ ps e1, partV b = (ps, e1) := ⟨_, _, rfl⟩
  obtain ⟨xs, e2, hx⟩ : ∃ xs e2, readV b = (xs, e2) := ⟨_, _, rfl⟩
  obtain ⟨u, hu⟩ : ∃ u, usedV b = u := ⟨_, rfl⟩
  have hgl := gather_len l
  have hpl := part_len b
  have hxl := read_len b
  rw [hg, hnl] at hgl
  rw [hp, hnb] at hpl
  rw [hx, hnb] at hxl
  simp only at hgl hpl hxl
  obtain ⟨nn, hnn⟩ : ∃ m, ns.length = m := ⟨_, rfl⟩
  obtain ⟨np, hnp⟩ : ∃ m, ps.length = m := ⟨_, rfl⟩
  obtain ⟨nx, hnx⟩ : ∃ m, xs.length = m := ⟨_, rfl⟩
  rw [hnn] at hgl
  rw [hnp] at hpl
  rw [hnx] at hxl
  have HF := Lib.hid hF
  have HG := Lib.hid hG
  have HI := Lib.hid I
  have HR := Lib.hid R
  have Hnl := Lib.hid hnl
  have Hnb := Lib.hid hnb
  have Ha := Lib.hid ha
  have Hb := Lib.hid hb
  have Hbs := Lib.hid hbs
  have Hg := Lib.hid hg
  have Hp := Lib.hid hp
  have Hx := Lib.hid hx
  have Hu := Lib.hid hu
  have Hnn := Lib.hid hnn
  have Hnp := Lib.hid hnp
  have Hnx := Lib.hid hnx
  clear hF hG I R hnl hnb ha hb hbs hg hp hx hu hnn hnp hnx hlx
  go_enter Tryz.func3, Tryz.ntmps3
  go_wp2_with (first
    | (go_at_call 4; (with_reducible refine (awake_s HI.out _).mono ?_); rintro e w1 ⟨rfl, hs⟩; replace h0 := Stp.trans h0 hs; replace Ha := Lib.hid (Ha.out.keep hs); replace Hb := Lib.hid (Hb.out.keep hs); clear hs)
    | (go_at_call 5; (with_reducible refine (fewe_s l _ Hnl.out (by omega) _ _ _ Ha.out).mono ?_); rintro e w2 ⟨rfl, hs⟩; rw [HF.out]; replace h0 := Stp.trans h0 hs; replace Ha := Lib.hid (Ha.out.keep hs); replace Hb := Lib.hid (Hb.out.keep hs); clear hs)
    | (go_at_call 6; (with_reducible refine (few_bn b _ Hnb.out _ _ _ Hb.out (by omega) Hbs.out).mono ?_); rintro e w3 ⟨rfl, hs⟩; rw [HG.out]; replace h0 := Stp.trans h0 hs; replace Ha := Lib.hid (Ha.out.keep hs); replace Hb := Lib.hid (Hb.out.keep hs); clear hs)
    | (go_at_call 7; (with_reducible refine (HI.out.gather l _ Hnl.out (by omega) HB.out ns ok _ Hg.out Hnn.out _ _ _ Ha.out).mono ?_); rintro e w4 ⟨B1, d1, rfl, hr, hs⟩; have R1 := Lib.hid hr; replace h0 := Stp.trans h0 hs; replace Ha := Lib.hid (Ha.out.keep hs); replace Hb := Lib.hid (Hb.out.keep hs); clear hs hr)
    | (go_at_call 8; (with_reducible refine (rgather_v l _ Hnl.out (by omega) HB.out ns ok _ Hg.out Hnn.out _ _ _ Ha.out).mono ?_); rintro e w5 ⟨B2, d2, rfl, hr, hs⟩; have R2 := Lib.hid hr; replace h0 := Stp.trans h0 hs; replace Hb := Lib.hid (Hb.out.keep hs); replace R1 := Lib.hid (R1.out.keep hs); clear hs hr)
    | (go_at_call 9; (with_reducible refine (HI.out.part b _ Hnb.out (by omega) Hbs.out ps e1 _ Hp.out Hnp.out _ _ _ Hb.out).mono ?_); rintro e w6 ⟨B3, d3, rfl, hr, hs⟩; have R3 := Lib.hid hr; replace h0 := Stp.trans h0 hs; replace Hb := Lib.hid (Hb.out.keep hs); replace R1 := Lib.hid (R1.out.keep hs); replace R2 := Lib.hid (R2.out.keep hs); clear hs hr)
    | (go_at_call 10; (with_reducible refine (rpart_v HR.out b _ Hnb.out (by omega) Hbs.out ps e1 _ Hp.out Hnp.out _ _ _ Hb.out).mono ?_); rintro e w7 ⟨B4, d4, rfl, hr, hs⟩; have R4 := Lib.hid hr; replace h0 := Stp.trans h0 hs; replace Hb := Lib.hid (Hb.out.keep hs); replace R1 := Lib.hid (R1.out.keep hs); replace R2 := Lib.hid (R2.out.keep hs); replace R3 := Lib.hid (R3.out.keep hs); clear hs hr)
    | (go_at_call 11; (with_reducible refine (HI.out.read b _ Hnb.out (by omega) Hbs.out xs e2 _ Hx.out Hnx.out _ _ _ Hb.out).mono ?_); rintro e w8 ⟨B5, d5, rfl, hr, hs⟩; have R5 := Lib.hid hr; replace h0 := Stp.trans h0 hs; replace Hb := Lib.hid (Hb.out.keep hs); replace R1 := Lib.hid (R1.out.keep hs); replace R2 := Lib.hid (R2.out.keep hs); replace R3 := Lib.hid (R3.out.keep hs); replace R4 := Lib.hid (R4.out.keep hs); clear hs hr)
    | (go_at_call 12; (with_reducible refine (rread_v HR.out b _ Hnb.out (by omega) Hbs.out xs e2 _ Hx.out Hnx.out _ _ _ Hb.out).mono ?_); rintro e w9 ⟨B6, d6, rfl, hr, hs⟩; have R6 := Lib.hid hr; replace h0 := Stp.trans h0 hs; replace Hb := Lib.hid (Hb.out.keep hs); replace R1 := Lib.hid (R1.out.keep hs); replace R2 := Lib.hid (R2.out.keep hs); replace R3 := Lib.hid (R3.out.keep hs); replace R4 := Lib.hid (R4.out.keep hs); replace R5 := Lib.hid (R5.out.keep hs); clear hs hr)
    | (go_at_call 13; (with_reducible refine (rsame_n ns ns _ _ Hnn.out Hnn.out _ _ _ _ _ R1.out R2.out (by omega) true (by simp)).mono ?_); rintro e w10 ⟨rfl, hs⟩; replace h0 := Stp.trans h0 hs; replace Hb := Lib.hid (Hb.out.keep hs); replace R3 := Lib.hid (R3.out.keep hs); replace R4 := Lib.hid (R4.out.keep hs); replace R5 := Lib.hid (R5.out.keep hs); replace R6 := Lib.hid (R6.out.keep hs); clear hs R1 R2)
    | (go_at_call 13; (with_reducible refine (rsame_n ps ps _ _ Hnp.out Hnp.out _ _ _ _ _ R3.out R4.out (by omega) true (by simp)).mono ?_); rintro e w11 ⟨rfl, hs⟩; replace h0 := Stp.trans h0 hs; replace Hb := Lib.hid (Hb.out.keep hs); replace R5 := Lib.hid (R5.out.keep hs); replace R6 := Lib.hid (R6.out.keep hs); clear hs R3 R4)
    | (go_at_call 13; (with_reducible refine (rsame_n xs xs _ _ Hnx.out Hnx.out _ _ _ _ _ R5.out R6.out (by omega) true (by simp)).mono ?_); rintro e w12 ⟨rfl, hs⟩; replace h0 := Stp.trans h0 hs; replace Hb := Lib.hid (Hb.out.keep hs); clear hs R5 R6)
    | (go_at_call 14; (with_reducible refine (HI.out.used b _ Hnb.out (by omega) Hbs.out u Hu.out _ _ _ Hb.out).mono ?_); rintro e w13 ⟨rfl, hs⟩; replace h0 := Stp.trans h0 hs; replace Hb := Lib.hid (Hb.out.keep hs); clear hs)
    | (go_at_call 15; (with_reducible refine (rused_v HR.out b _ Hnb.out (by omega) Hbs.out u Hu.out _ _ _ Hb.out).mono ?_); rintro e w14 ⟨rfl, hs⟩; replace h0 := Stp.trans h0 hs; clear hs))
  all_goals go_ret
  all_goals first | exact ⟨rfl, h0⟩ | (refine ⟨?_, h0⟩; simp)
/-- ReadTells, at any arguments. -/
theorem tells_s (I : ReadI) (R : RunR) (l : List Evt) (b : List L) (nl nb : Nat) (hnl : l.length = nl) (hnb : b.length = nb) (A B : Option Addr) (c d : Nat) (w : World) (ha : RdE w A c l) (hb : RdL w B d b) (hll : nl < 9223372036854775808) (hlb : nb < 9223372036854775808) (hbs : ∀ x ∈ b, x.length < 9223372036854775808) :
    Calls Tryz.prog 3 #[.slice A nl c, .slice B nb d] w fun e w' => e = .returned (.bool true) ∧ Stp w w' := by
  cases hF : fewE l
  · cases hG : Block.fewV b
    · exact tells_no I l b nl nb hnl hnb A B c d w ha hb hll hlb hbs _ _ hF hG (.inl ⟨rfl, rfl⟩)
    · exact tells_no I l b nl nb hnl hnb A B c d w ha hb hll hlb hbs _ _ hF hG (.inr (.inl ⟨rfl, rfl⟩))
  · cases hG : Block.fewV b
    · exact tells_no I l b nl nb hnl hnb A B c d w ha hb hll hlb hbs _ _ hF hG (.inr (.inr ⟨rfl, rfl⟩))
    · exact tells_yes I R l b nl nb hnl hnb A B c d w ha hb hbs hF hG
end Go.Proofs.YtgjdbbhfgfodlaaGreat.Read
