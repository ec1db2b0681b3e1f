/-
  Contracts of package record: mayHold, May, Many, join, chunks and its iterator, Group, Blocks: no statement is proved here.
-/
import Derived.Test.YtllnnlmhbmladaaGreatDoorBlockRef
import Derived.Test.YtllnnlmhbmladaaGreatDoorEntrySl
import Derived.Test.YtllnnlmhbmladaaGreatDoorRangeO
import Derived.Test.YtllnnlmhbmladaaGreatDoorTapeM
import Derived.Laws.CopyRow
import Derived.Laws.IdiomCopy
import Derived.StillTailTactics
import Derived.Deep.RegionWith
import Derived.WalkMore
namespace Go.Proofs.YtllnnlmhbmladaaGreatDoor.Rec
open Go.RowKit Go.Shelf Go.Proofs.YtllnnlmhbmladaaGreatDoor.Str Go.Proofs.YtllnnlmhbmladaaGreatDoor.Base Go.Proofs.YtllnnlmhbmladaaGreatDoor.BlockM Go.Proofs.YtllnnlmhbmladaaGreatDoor.RecM

set_option maxRecDepth 100000 in
theorem hold_s (b : Int) (w : World) : Calls Tryz.prog 61 #[.int .i64 b] w fun e w' => e = .returned (.bool (holdV b)) ∧ Stp w w' := by
  have h0 := Stp.refl w
  obtain ⟨x, hx⟩ : ∃ x, decide (1 ≤ b) = x := ⟨_, rfl⟩
  obtain ⟨y, hy⟩ : ∃ y, decide (b ≤ 20) = y := ⟨_, rfl⟩
  rw [holdV, hx, hy]
  cases x
  all_goals
    go_enter Tryz.func61, Tryz.ntmps61
    go_wp2_with fail
    go_ret
    exact ⟨rfl, h0⟩
set_option maxRecDepth 100000 in
theorem may_s (r : L) (A : Option Addr) (c : Nat) (w : World) (hl : r.length < 9223372036854775808) :
    Calls Tryz.prog 39 #[.slice A r.length c] w fun e w' => e = .returned (.bool (mayR r)) ∧ Stp w w' := by
  have h0 := Stp.refl w
  obtain ⟨n, hn⟩ : ∃ n, r.length = n := ⟨_, rfl⟩
  obtain ⟨y, hy⟩ : ∃ y, holdV ((n / 512 : Nat) : Int) = y := ⟨_, rfl⟩
  rw [mayR, hn, hy]
  rw [hn] at hl
  have Hy : Hid (holdV ((n : Int) / 512) = y) := Lib.hid (by rw [← hy]; rfl)
  by_cases hm : n % 512 = 0
  · have g : ((n : Int) % 512 == 0) = true := by simp; omega
    rw [show decide (n % 512 = 0) = true by simp [hm]]
    clear hy hm hn
    go_enter Tryz.func39, Tryz.ntmps39
    go_wp2_with (go_at_call 61; refine (hold_s _ _).mono ?_; rintro e w' ⟨rfl, hs⟩; replace h0 := Stp.trans h0 hs; clear hs; rw [Hy.out])
    go_ret
    exact ⟨rfl, h0⟩
  · have g : ((n : Int) % 512 == 0) = false := by simp; omega
    rw [show decide (n % 512 = 0) = false by simp [hm]]
    clear hy hm hn
    go_enter Tryz.func39, Tryz.ntmps39
    go_wp2_with fail
    go_ret
    exact ⟨rfl, h0⟩
section
variable {P : Program} (w : World)
theorem run_copy_rd (dT sT ty elem : TypeId) (g o n cap : Nat) (t : TypeId) (cur : Array Value) (B : Nat) (v : Value) (xs : List Value) (hu : P.underlying dT = some (.slice elem)) (hs : (P.info? elem).map (·.size) = some 1)
    (hb : Blk w g t cur) (hv : Rd w B v xs) (h1 : ∀ u ∈ xs, u.oneCell' = true) (hfit : o + xs.length ≤ cur.size) (hn : xs.length ≤ n) :
    ∃ w', (Builtin.copy_ #[dT, sT] ty #[.slice (some ⟨g, o, none⟩) n cap, v]).run P w = .ok (.int .i64 xs.length) w' ∧ Blk w' g t (cur.toList.take o ++ xs ++ cur.toList.drop (o + xs.length)).toArray ∧ w.grownBy w' (some g) := by
  obtain ⟨A, c, rfl, hc, hr⟩ := hv
  by_cases he : xs = []
  · subst he
    refine ⟨w, run_copy_none (P := P) w dT sT ty elem (some ⟨g, o, none⟩) A n cap 0 c hu hs (by simp), ?_, World.grownBy.refl w _⟩
    simpa using hb
  · obtain ⟨b, p, rfl, _, hcell⟩ := hr he
    have hrun := run_copy_row (P := P) w dT sT ty elem g o n cap ⟨b, p, none⟩ xs.length c cur t xs hu hs hb (by simp only [Nat.min_def]; split <;> omega) (fun j u hj => by rw [Addr.add_lit]; exact hcell j u hj) hfit h1
    exact ⟨_, hrun, setRow_heap w g cur _ t _ hb, ⟨rfl, rfl, rfl, by simp [World.setRow], fun k _ hk => setRow_other w g k _ (fun e => hk (by rw [e]))⟩⟩
end
theorem flat_step {rs : List L} {k : Nat} {r : L} (h : rs[k]? = some r) : (rs.take (k + 1)).flatMap cutV = (rs.take k).flatMap cutV ++ cutV r := by
  rw [List.take_add_one, h, List.flatMap_append]
  simp
theorem all_step {rs : List L} {k : Nat} {r : L} (h : rs[k]? = some r) (hk : blocksB (rs.take k) = true) : blocksB (rs.take (k + 1)) = mayR r := by
  unfold blocksB at hk ⊢
  rw [List.take_add_one, h, List.all_append, hk]
  simp
theorem flat_le {rs : List L} (h : blocksB rs = true) : (rs.flatMap cutV).length ≤ 20 * rs.length := by
  induction rs with
  | nil => simp
  | cons r rs ih =>
    have h' := blocksB_iff.1 h
    have hr := mayR_iff.1 (h' r (by simp))
    have hc : (cutV r).length ≤ 20 := by rw [cutV_length]; exact manyN_small (by omega)
    have := ih (blocksB_iff.2 fun x hx => h' x (by simp [hx]))
    rw [List.flatMap_cons, List.length_append, List.length_cons]
    omega

set_option maxRecDepth 100000 in
set_option maxHeartbeats 1000000 in
theorem blocks_s (rs : List L) (A : Option Addr) (c : Nat) (w : World) (ha : RdL w A c rs) (hl : rs.length ≤ 4000) (hls : ∀ r ∈ rs, r.length < 9223372036854775808) :
    Calls Tryz.prog 24 #[.slice A rs.length c] w fun e w' => ∃ B d, e = .returned (.tuple #[.slice B (blocksV rs).length d, .bool (blocksB rs)]) ∧ RdL w' B d (blocksV rs) ∧ Stp w w' := by
  have Hls := Lib.hid hls
  have Ha := Lib.hid ha
  clear hls ha
  go_enter Tryz.func24, Tryz.ntmps24
  go_wp2_with fail
  go_loopw [4, 9] (fun v i wr => ∃ k : Nat, k ≤ rs.length ∧ i = .int .i64 k ∧ Hid (blocksB (rs.take k) = true) ∧ Hid (Base.Rows wr w.heap.size 46 v ((rs.take k).flatMap cutV)) ∧ Hid (Stp w wr)) (fun _ i _ => rs.length - (intOf i).toNat)
  case atStart => exact ⟨0, by omega, rfl, Lib.hid rfl, Lib.hid (Base.Rows.nil _ _ _), Lib.hid (Stp.refl w)⟩
  case round =>
    obtain ⟨k, hk, rfl, Hk, HR, Hs⟩ := hrel
    by_cases hlt : k < rs.length
    · obtain ⟨r, hr⟩ : ∃ r, rs[k]? = some r := ⟨_, List.getElem?_eq_getElem hlt⟩
      obtain ⟨g, o, A1, c1, rfl, ca, ra⟩ := (Ha.out.keep Hs.out).at_ hr
      have Hst := Lib.hid (flat_step hr)
      have Hal := Lib.hid (all_step hr Hk.out)
      have Hr := Lib.hid hr
      have hrl := Hls.out r (List.mem_of_getElem? hr)
      have Hra := Lib.hid ra
      clear hr
      cases hm : mayR r
      · have Hm := Lib.hid hm
        clear hm
        go_wp2_with (go_at_call 39; refine (may_s r _ _ _ hrl).mono ?_; rintro e w2 ⟨rfl, hs⟩; rw [Hm.out]; replace Hs := Lib.hid (Stp.trans Hs.out hs); clear hs)
        go_ret2
        have hB : blocksB rs = false := by
          rw [Bool.eq_false_iff]
          intro h
          have := blocksB_iff.1 h r (List.mem_of_getElem? Hr.out)
          rw [Hm.out] at this
          cases this
        rw [blocksV_no hB, hB]
        exact ⟨none, 0, rfl, RdL.nil _, Hs.out⟩
      · have hml := mayR_iff.1 hm
        have Hm := Lib.hid hm
        clear hm
        go_wp2_with (first
          | (go_at_call 39; refine (may_s r _ _ _ hrl).mono ?_; rintro e w2 ⟨rfl, hs⟩; rw [Hm.out]; replace HR := Lib.hid (HR.out.keep hs); replace Hs := Lib.hid (Stp.trans Hs.out hs); have hcv := Block.str_rd (Hra.out.keep hs); clear hs)
          | (go_at_call 40; refine (Block.cut_s r _ (by omega)).mono ?_; rintro e w3 ⟨B, d, rfl, hb, hs⟩; replace HR := Lib.hid (HR.out.keep hs); replace Hs := Lib.hid (Stp.trans Hs.out hs); have Hb := Lib.hid hb; clear hs hb hcv)
          | (at_builtin; refine Base.wpList_append_rows (P := Tryz.prog) rfl (.tmp 16) (.tmp 19) 36 rfl 46 Tryz.underlying36 Block.bytes_info _ rfl HR.out rfl Hb.out rfl ?h1 Hs.out.size ?_))
        case h1 =>
          have h1 := flat_le Hk.out
          rw [List.length_take] at h1
          have h2 : (cutV r).length ≤ 20 := by rw [cutV_length]; exact manyN_small (by omega)
          omega
        intro v2 w4 hr4 hg4
        have HR4 : Hid (Base.Rows w4 w.heap.size 46 v2 ((rs.take (k + 1)).flatMap cutV)) := Lib.hid (by rw [Hst.out]; exact hr4)
        have Hs4 := Lib.hid (HR.out.stp Hs.out (Nat.le_refl _) hg4)
        clear hr4 hg4
        go_wp2_with fail
        go_roundw
        case rel => exact ⟨k + 1, by omega, by go_num, Lib.hid (by rw [Hal.out]; exact Hm.out), HR4, Hs4⟩
        case measure => simp [intOf]; omega
    · obtain rfl : k = rs.length := by omega
      go_wp2_with fail
      go_ret2
      have h := Hk.out
      have h2 := HR.out
      rw [List.take_length] at h h2
      obtain ⟨B, d, rfl, hL⟩ := h2.rdL
      rw [blocksV_yes h, h]
      exact ⟨B, d, rfl, hL, Hs.out⟩
end Go.Proofs.YtllnnlmhbmladaaGreatDoor.Rec
