/-
  The walk of LongTells: no statement is proved here.
-/
import Derived.Test.YtleoiejkipobbaaLongRef
import Derived.Deep.RegionHeld3
namespace Go.Proofs.Ytleoiejkipobbaa.Long
open Go.RowKit Go.Proofs.Ytleoiejkipobbaa.Str Go.Proofs.Ytleoiejkipobbaa.Base Go.Proofs.Ytleoiejkipobbaa.Node Go.Proofs.Ytleoiejkipobbaa.Head

theorem rsame_t (ls : List L) (A B : Option Addr) (c d : Nat) (w : World) (ha : RdL w A c ls) (hb : RdL w B d ls) (hl : ls.length ≤ 1000000) :
    Calls Try.prog 29 #[.slice A ls.length c, .slice B ls.length d] w fun e w' => e = .returned (.bool true) ∧ Stp w w' := by
  refine (Block.rsame_s ls ls A B c d w ha hb (by omega) (by omega)).mono ?_
  rintro e w' ⟨rfl, h⟩
  exact ⟨by simp, h⟩
theorem ahead_le4 (n : Nd) : (aheadV n).length ≤ 4 := by
  unfold aheadV
  have h1 := put_le2 75 n.link
  have h2 := put_le2 76 n.path
  rw [List.length_append]
  split <;> split <;> simp <;> omega

set_option maxRecDepth 100000 in
set_option linter.unusedSimpArgs false in
set_option maxHeartbeats 8000000 in
theorem tells_walk (k : UInt8) (s : L) (n : Nd) (hn : SmallN n) (hsz : s.length ≤ 9223372036854775807) (w : World) :
    Calls Try.prog 4 #[.int .u8 (k.toNat : Int), .string ⟨s.toArray⟩, nv n] w fun e w' => e = .returned (.bool true) ∧ Stp w w' := by
  have h0 := Stp.refl w
  have Hn := Lib.hid hn
  have Hb0 := Lib.hid (Blk.new w 35 (ncells n))
  have H0 := Lib.hid (Stp.alloc h0 (.cells (ncells n) 35))
  obtain ⟨fw, hf⟩ : ∃ b, fewN n = b := ⟨_, rfl⟩
  have Hf := Lib.hid hf
  have Hal := Lib.hid (ahead_le4 n)
  have Hpl := Lib.hid (put_le2 k s)
  obtain ⟨ok, hok⟩ : ∃ b, putOkL k s = b := ⟨_, rfl⟩
  obtain ⟨P, hP⟩ : ∃ b, putLs k s = b := ⟨_, rfl⟩
  obtain ⟨nn, h1⟩ : ∃ b, needN n = b := ⟨_, rfl⟩
  obtain ⟨bl, h2⟩ : ∃ b, needL n = b := ⟨_, rfl⟩
  obtain ⟨nm, h3⟩ : ∃ b, nameV n = b := ⟨_, rfl⟩
  obtain ⟨pr, h4⟩ : ∃ b, preV n = b := ⟨_, rfl⟩
  obtain ⟨tl, h5⟩ : ∃ b, linkV n = b := ⟨_, rfl⟩
  obtain ⟨AA, h6⟩ : ∃ b, aheadV n = b := ⟨_, rfl⟩
  obtain ⟨tx, h7⟩ : ∃ b, textL s = b := ⟨_, rfl⟩
  have Hok := Lib.hid hok
  have HP := Lib.hid hP
  rw [hP] at Hpl
  have F1 := Lib.hid h1
  have F2 := Lib.hid h2
  have F3 := Lib.hid h3
  have F4 := Lib.hid h4
  have F5 := Lib.hid h5
  have F6 := Lib.hid h6
  have F7 := Lib.hid h7
  rw [h6] at Hal
  clear hf hok hP h1 h2 h3 h4 h5 h6 h7 hn
  go_enter Try.func4, Try.ntmps4
  go_wp2_with (first
    | (go_at_call 21; refine (awake_s _).mono ?_; rintro e w1 ⟨rfl, hs⟩; have Hb := Lib.hid (Hb0.out.keep hs Hb0.out.lt); have H := Lib.hid (Stp.trans H0.out hs); clear hs; obtain ⟨q0, q1, q2, q3, q4, q5, q6, q7⟩ := nd_cells Hb.out)
    | (go_at_call 22; refine (few_s n _).mono ?_; rintro e w2 ⟨rfl, hs⟩; rw [Hf.out]; replace Hb := Lib.hid (Hb.out.keep hs Hb.out.lt); replace H := Lib.hid (Stp.trans H.out hs); clear hs q0 q1 q2 q3 q4 q5 q6 q7; obtain ⟨q0, q1, q2, q3, q4, q5, q6, q7⟩ := nd_cells Hb.out; rcases fw; all_goals (try (obtain ⟨lp, lk, -⟩ := fewN_iff.1 Hf.out)))
    | (go_at_call 23; refine (lput_s k s _ (by omega)).mono ?_; rintro e w3 ⟨A3, c3, rfl, hr, hs⟩; rw [HP.out] at hr; rw [HP.out, Hok.out]; replace Hb := Lib.hid (Hb.out.keep hs Hb.out.lt); replace H := Lib.hid (Stp.trans H.out hs); have Hr3 := Lib.hid hr; clear hr hs q0 q1 q2 q3 q4 q5 q6 q7)
    | (go_at_call 24; refine (rlput_s k s _ (by omega)).mono ?_; rintro e w4 ⟨A4, c4, rfl, hr, hs⟩; rw [HP.out] at hr; rw [HP.out, Hok.out]; replace Hb := Lib.hid (Hb.out.keep hs Hb.out.lt); replace H := Lib.hid (Stp.trans H.out hs); replace Hr3 := Lib.hid (Hr3.out.keep hs); have Hr4 := Lib.hid hr; clear hr hs; obtain ⟨q0, q1, q2, q3, q4, q5, q6, q7⟩ := nd_cells Hb.out)
    | (go_at_call 25; refine (needs_s n Hn.out _).mono ?_; rintro e w5 ⟨rfl, hs⟩; rw [F1.out, F2.out]; replace Hb := Lib.hid (Hb.out.keep hs Hb.out.lt); replace H := Lib.hid (Stp.trans H.out hs); replace Hr3 := Lib.hid (Hr3.out.keep hs); replace Hr4 := Lib.hid (Hr4.out.keep hs); clear hs q0 q1 q2 q3 q4 q5 q6 q7; obtain ⟨q0, q1, q2, q3, q4, q5, q6, q7⟩ := nd_cells Hb.out)
    | (go_at_call 26; refine (rneeds_s n Hn.out _).mono ?_; rintro e w6 ⟨rfl, hs⟩; rw [F1.out, F2.out]; replace Hb := Lib.hid (Hb.out.keep hs Hb.out.lt); replace H := Lib.hid (Stp.trans H.out hs); replace Hr3 := Lib.hid (Hr3.out.keep hs); replace Hr4 := Lib.hid (Hr4.out.keep hs); clear hs q0 q1 q2 q3 q4 q5 q6 q7; obtain ⟨q0, q1, q2, q3, q4, q5, q6, q7⟩ := nd_cells Hb.out)
    | (go_at_call 27; refine (names_s n Hn.out _).mono ?_; rintro e w7 ⟨rfl, hs⟩; rw [F3.out, F4.out, F5.out]; replace Hb := Lib.hid (Hb.out.keep hs Hb.out.lt); replace H := Lib.hid (Stp.trans H.out hs); replace Hr3 := Lib.hid (Hr3.out.keep hs); replace Hr4 := Lib.hid (Hr4.out.keep hs); clear hs q0 q1 q2 q3 q4 q5 q6 q7; obtain ⟨q0, q1, q2, q3, q4, q5, q6, q7⟩ := nd_cells Hb.out)
    | (go_at_call 28; refine (rnames_s n Hn.out _).mono ?_; rintro e w8 ⟨rfl, hs⟩; rw [F3.out, F4.out, F5.out]; replace Hb := Lib.hid (Hb.out.keep hs Hb.out.lt); replace H := Lib.hid (Stp.trans H.out hs); replace Hr3 := Lib.hid (Hr3.out.keep hs); replace Hr4 := Lib.hid (Hr4.out.keep hs); clear hs q0 q1 q2 q3 q4 q5 q6 q7)
    | (go_at_call 29; (with_reducible refine (rsame_t P _ _ _ _ _ Hr3.out Hr4.out (by have := Hpl.out; omega)).mono ?_); rintro e w9 ⟨rfl, hs⟩; replace Hb := Lib.hid (Hb.out.keep hs Hb.out.lt); replace H := Lib.hid (Stp.trans H.out hs); clear hs Hr3 Hr4))
  all_goals first | (go_ret; exact ⟨rfl, H.out⟩) | skip
  have key : ∀ W, Stp w9 W → (W.cell? ⟨w.heap.size, 0, none⟩ = some (.string ⟨n.path.toArray⟩) ∧ W.cell? ⟨w.heap.size, 1, none⟩ = some (.string ⟨n.link.toArray⟩) ∧ W.cell? ⟨w.heap.size, 2, none⟩ = some (.int .u8 (n.kind.toNat : Int)) ∧ W.cell? ⟨w.heap.size, 3, none⟩ = some (.int .i64 n.mode) ∧
    W.cell? ⟨w.heap.size, 4, none⟩ = some (.int .i64 n.uid) ∧ W.cell? ⟨w.heap.size, 5, none⟩ = some (.int .i64 n.gid) ∧ W.cell? ⟨w.heap.size, 6, none⟩ = some (.int .i64 n.time) ∧ W.cell? ⟨w.heap.size, 7, none⟩ = some (.string ⟨n.data.toArray⟩)) := fun W hW => nd_cells (Hb.out.keep hW Hb.out.lt)
  have Key := Lib.hid key
  clear key
  refine wp_region_held_drew (S := (fun W : World => W.cell? ⟨w.heap.size, 0, none⟩ = some (.string ⟨n.path.toArray⟩) ∧ W.cell? ⟨w.heap.size, 1, none⟩ = some (.string ⟨n.link.toArray⟩) ∧ W.cell? ⟨w.heap.size, 2, none⟩ = some (.int .u8 (n.kind.toNat : Int)) ∧ W.cell? ⟨w.heap.size, 3, none⟩ = some (.int .i64 n.mode) ∧ W.cell? ⟨w.heap.size, 4, none⟩ = some (.int .i64 n.uid) ∧ W.cell? ⟨w.heap.size, 5, none⟩ = some (.int .i64 n.gid) ∧ W.cell? ⟨w.heap.size, 6, none⟩ = some (.int .i64 n.time) ∧ W.cell? ⟨w.heap.size, 7, none⟩ = some (.string ⟨n.data.toArray⟩))) (by kernel_rfl) (Key.out _ (stp_drew (Stp.refl _))) (fun hHeld => ?_)
  refine wpAnyH_take (i := 0) (oi := { dst := some 78, op := Go.Op.load 35 (Go.Operand.tmp 5), type := 35, pos := "law.go:51", after := #[], guard := none }) (v := ?v0) rfl (by kernel_rfl) (by kernel_rfl) (by kernel_rfl) (fun _ _ _ h => h) (Or.inl ⟨by rfl, ?hy0⟩) (by assumption) ?rest0
  case hy0 => (intro w hSw; (try dsimp only at hSw); go_simp; try with_reducible rfl)
  try simp only [Act.put, List.setIfInBounds_toArray, List.set_cons_zero, List.set_cons_succ]
  refine wpAnyH_take (i := 2) (oi := { dst := some 80, op := Go.Op.load 35 (Go.Operand.tmp 5), type := 35, pos := "law.go:51", after := #[], guard := none }) (v := ?v2) rfl (by kernel_rfl) (by kernel_rfl) (by kernel_rfl) (fun _ _ _ h => h) (Or.inl ⟨by rfl, ?hy2⟩) (by assumption) ?rest2
  case hy2 => (intro w hSw; (try dsimp only at hSw); go_simp; try with_reducible rfl)
  try simp only [Act.put, List.setIfInBounds_toArray, List.set_cons_zero, List.set_cons_succ]
  refine wpAnyH_ready (rs := [1]) (by kernel_rfl) (by simp) ?_
  refine AllReadyH.cons (o := { dst := some 79, op := Go.Op.call { callee := Go.Callee.value (Go.Operand.func 30), args := #[Go.Operand.tmp 78], argTypes := #[35] }, type := 37, pos := "law.go:51", after := #[{ on := 0, ground := Go.Ground.data }], guard := none }) rfl (fun K hK => ?_) AllReadyH.nil
  go_simp
  refine (ahead_s n Hn.out (by omega) (by omega) _).mono ?_
  rintro e wa ⟨Aa, ca, rfl, hr, hs⟩
  rw [F6.out] at hr
  rw [F6.out]
  have Ha := Lib.hid (Stp.trans (stp_drew (Stp.refl w9)) hs)
  have Hra := Lib.hid hr
  clear hr hs
  go_wp2_with fail
  refine hK.out _ _ (Key.out _ (Ha.out)) (fun hHeld2 => ?_)
  clear hK K hHeld
  have hHeld := hHeld2
  clear hHeld2
  try simp only [Act.put, List.setIfInBounds_toArray, List.set_cons_zero, List.set_cons_succ]
  refine wpAnyH_ready (rs := [3]) (by kernel_rfl) (by simp) ?_
  refine AllReadyH.cons (o := { dst := some 81, op := Go.Op.call { callee := Go.Callee.value (Go.Operand.func 31), args := #[Go.Operand.tmp 80], argTypes := #[35] }, type := 37, pos := "law.go:51", after := #[{ on := 2, ground := Go.Ground.data }, { on := 1, ground := Go.Ground.chain }], guard := none }) rfl (fun K hK => ?_) AllReadyH.nil
  go_simp
  refine (rahead_s n Hn.out (by omega) (by omega) _).mono ?_
  rintro e wb ⟨Ab, cb, rfl, hr, hs⟩
  rw [F6.out] at hr
  rw [F6.out]
  have Hbb := Lib.hid (Stp.trans (Ha.out) hs)
  have Hrb := Lib.hid hr
  replace Hra := Lib.hid (Hra.out.keep hs)
  clear hr hs
  go_wp2_with fail
  refine hK.out _ _ (Key.out _ (Hbb.out)) (fun hHeld2 => ?_)
  clear hK K hHeld
  have hHeld := hHeld2
  clear hHeld2
  try simp only [Act.put, List.setIfInBounds_toArray, List.set_cons_zero, List.set_cons_succ]
  refine wpAnyH_ready (rs := [4]) (by kernel_rfl) (by simp) ?_
  refine AllReadyH.cons (o := { dst := some 82, op := Go.Op.call { callee := Go.Callee.value (Go.Operand.func 29), args := #[Go.Operand.tmp 79, Go.Operand.tmp 81], argTypes := #[37, 37] }, type := 4, pos := "law.go:51", after := #[{ on := 1, ground := Go.Ground.data }, { on := 3, ground := Go.Ground.data }, { on := 3, ground := Go.Ground.chain }], guard := none }) rfl (fun K hK => ?_) AllReadyH.nil
  go_simp
  (with_reducible refine (rsame_t AA _ _ _ _ _ Hra.out Hrb.out (by have := Hal.out; omega)).mono ?_)
  rintro e wc ⟨rfl, hs⟩
  have Hc := Lib.hid (Stp.trans Hbb.out hs)
  clear hs
  go_wp2_with fail
  refine hK.out _ _ (Key.out _ (Hc.out)) (fun hHeld2 => ?_)
  clear hK K hHeld
  have hHeld := hHeld2
  clear hHeld2
  try simp only [Act.put, List.setIfInBounds_toArray, List.set_cons_zero, List.set_cons_succ]
  refine wpAnyH_take (i := 5) (oi := { dst := some 24, op := Go.Op.assign (Go.Operand.tmp 82), type := 4, pos := "law.go:51", after := #[{ on := 4, ground := Go.Ground.data }, { on := 4, ground := Go.Ground.chain }, { on := 0, ground := Go.Ground.phase }, { on := 1, ground := Go.Ground.phase }, { on := 2, ground := Go.Ground.phase }, { on := 3, ground := Go.Ground.phase }, { on := 4, ground := Go.Ground.phase }], guard := none }) (v := ?v5Hbb) rfl (by kernel_rfl) (by kernel_rfl) (by kernel_rfl) (fun _ _ _ h => h) (Or.inl ⟨by rfl, ?hy5Hbb⟩) (by assumption) ?rest5Hbb
  case hy5Hbb => (intro w hSw; (try dsimp only at hSw); go_simp; try with_reducible rfl)
  try simp only [Act.put, List.setIfInBounds_toArray, List.set_cons_zero, List.set_cons_succ]
  refine wpAnyH_done (by kernel_rfl) ?_ _
  go_wp2_with (first
    | (go_at_call 32; refine (rtext_s s (by omega) _).mono ?_; rintro e wd ⟨rfl, hs⟩; rw [F7.out]; have Hd := Lib.hid (Stp.trans Hc.out hs); clear hs)
    | (go_at_call 33; refine (text_s s _).mono ?_; rintro e we ⟨rfl, hs⟩; rw [F7.out]; have He := Lib.hid (Stp.trans Hd.out hs); clear hs))
  go_ret
  exact ⟨rfl, Stp.trans H.out He.out⟩
theorem tells_any (k : Int) (a : ByteArray) (n : Nd) (hn : SmallN n) (w : World) (h0 : 0 ≤ k) (h1 : k ≤ 255) (ha : a.size ≤ maxLen) :
    Calls Try.prog 4 #[.int .u8 k, .string a, nv n] w fun e w' => e = .returned (.bool true) ∧ Below w.heap.size w w' := by
  obtain ⟨c, rfl⟩ : ∃ c : UInt8, k = (c.toNat : Int) := ⟨UInt8.ofNat k.toNat, by rw [UInt8.toNat_ofNat']; omega⟩
  obtain ⟨a, rfl, ha⟩ := str_form a ha
  exact tells_walk c a n hn ha w
end Go.Proofs.Ytleoiejkipobbaa.Long
