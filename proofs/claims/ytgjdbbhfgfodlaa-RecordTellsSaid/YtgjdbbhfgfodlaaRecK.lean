/-
  Contracts of package record: mayHold, May, Many, join, chunks and its iterator, Group, Blocks: no statement is proved here.
-/
import Derived.Test.YtgjdbbhfgfodlaaBlockRef
import Derived.Test.YtgjdbbhfgfodlaaEntrySl
import Derived.Test.YtgjdbbhfgfodlaaRangeO
import Derived.Test.YtgjdbbhfgfodlaaRecM
import Derived.Laws.CopyRow
import Derived.Laws.IdiomCopy
import Derived.StillTailTactics
import Derived.Deep.RegionWith
import Derived.WalkMore
namespace Go.Proofs.Ytgjdbbhfgfodlaa.Rec
open Go.RowKit Go.Shelf Go.Proofs.Ytgjdbbhfgfodlaa.Str Go.Proofs.Ytgjdbbhfgfodlaa.Base Go.Proofs.Ytgjdbbhfgfodlaa.BlockM Go.Proofs.Ytgjdbbhfgfodlaa.RecM

set_option maxRecDepth 100000 in
theorem hold_s (b : Int) (w : World) : Calls Try.prog 41 #[.int .i64 b] w fun e w' => e = .returned (.bool (holdV b)) ∧ Stp w w' := by
  have h0 := Stp.refl w
  obtain ⟨x, hx⟩ : ∃ x, decide (1 ≤ b) = x := ⟨_, rfl⟩
  obtain ⟨y, hy⟩ : ∃ y, decide (b ≤ 20) = y := ⟨_, rfl⟩
  rw [holdV, hx, hy]
  cases x
  all_goals
    go_enter Try.func41, Try.ntmps41
    go_wp2_with fail
    go_ret
    exact ⟨rfl, h0⟩
set_option maxRecDepth 100000 in
theorem may_s (r : L) (A : Option Addr) (c : Nat) (w : World) (hl : r.length < 9223372036854775808) :
    Calls Try.prog 26 #[.slice A r.length c] w fun e w' => e = .returned (.bool (mayR r)) ∧ Stp w w' := by
  have h0 := Stp.refl w
  obtain ⟨n, hn⟩ : ∃ n, r.length = n := ⟨_, rfl⟩
  obtain ⟨y, hy⟩ : ∃ y, holdV ((n / 512 : Nat) : Int) = y := ⟨_, rfl⟩
  rw [mayR, hn, hy]
  rw [hn] at hl
  have Hy : Hid (holdV ((n : Int) / 512) = y) := Lib.hid (by rw [← hy]; rfl)
  by_cases hm : n % 512 = 0
  · have g : ((n : Int) % 512 == 0) = true := by simp; omega
    rw [show decide (n % 512 = 0) = true by simp [hm]]
    clear hy hm hn
    go_enter Try.func26, Try.ntmps26
    go_wp2_with (go_at_call 41; refine (hold_s _ _).mono ?_; rintro e w' ⟨rfl, hs⟩; replace h0 := Stp.trans h0 hs; clear hs; rw [Hy.out])
    go_ret
    exact ⟨rfl, h0⟩
  · have g : ((n : Int) % 512 == 0) = false := by simp; omega
    rw [show decide (n % 512 = 0) = false by simp [hm]]
    clear hy hm hn
    go_enter Try.func26, Try.ntmps26
    go_wp2_with fail
    go_ret
    exact ⟨rfl, h0⟩
set_option maxRecDepth 100000 in
/-- Any numbers. -/
theorem many_s (n b : Int) (w : World) (hn : n < 9223372036854775808) (hn' : -9223372036854775808 ≤ n) :
    Calls Try.prog 27 #[.int .i64 n, .int .i64 b] w fun e w' => e = .returned (.int .i64 (rmanyV n b)) ∧ Stp w w' := by
  have h0 := Stp.refl w
  obtain ⟨y, hy⟩ : ∃ y, holdV b = y := ⟨_, rfl⟩
  by_cases h1 : n < 1
  · have g : decide (n < 1) = true := decide_eq_true h1
    rw [rmanyV_no (.inl h1)]
    clear h1 hy
    go_enter Try.func27, Try.ntmps27
    go_wp2_with fail
    go_ret
    exact ⟨rfl, h0⟩
  · have g : decide (n < 1) = false := decide_eq_false h1
    cases y
    · rw [rmanyV_no (.inr hy)]
      have Hy := Lib.hid hy
      clear hy
      go_enter Try.func27, Try.ntmps27
      go_wp2_with (go_at_call 41; refine (hold_s _ _).mono ?_; rintro e w' ⟨rfl, hs⟩; replace h0 := Stp.trans h0 hs; clear hs; rw [Hy.out])
      go_ret
      exact ⟨rfl, h0⟩
    · have hb := rmanyV_bound (n := n) (b := b) hn
      have hd := div_pos_bound (a := n - 1) (b := b) (by omega) (holdV_iff.1 hy).1
      have hb2 := holdV_iff.1 hy
      rw [rmanyV_yes (by omega) hy] at hb ⊢
      have Hy := Lib.hid hy
      clear hy
      go_enter Try.func27, Try.ntmps27
      go_wp2_with (go_at_call 41; refine (hold_s _ _).mono ?_; rintro e w' ⟨rfl, hs⟩; replace h0 := Stp.trans h0 hs; clear hs; rw [Hy.out])
      go_ret
      exact ⟨rfl, h0⟩

section
variable {P : Program} (w : World)
theorem run_copy_rd (dT sT ty elem : TypeId) (g o n cap : Nat) (t : TypeId) (cur : Array Value) (B : Nat) (v : Value) (xs : List Value) (hu : P.underlying dT = some (.slice elem)) (hs : (P.info? elem).map (·.size) = some 1)
    (hb : Blk w g t cur) (hv : Rd w B v xs) (h1 : ∀ u ∈ xs, u.oneCell' = true) (hfit : o + xs.length ≤ cur.size) (hn : xs.length ≤ n) :
    ∃ w', (Builtin.copy_ #[dT, sT] ty #[.slice (some ⟨g, o, none⟩) n cap, v]).run P w = .ok (.int .i64 xs.length) w' ∧ Blk w' g t (cur.toList.take o ++ xs ++ cur.toList.drop (o + xs.length)).toArray ∧ w.grownBy w' (some g) := by
  obtain ⟨A, c, rfl, hc, hr⟩ := hv
  by_cases he : xs = []
  · subst he
    refine ⟨w, run_copy_none (P := P) w dT sT ty elem (some ⟨g, o, none⟩) A n cap 0 c hu hs (by simp), ?_, World.grownBy.refl w _⟩
    simpa using hb
  · obtain ⟨b, p, rfl, _, hcell⟩ := hr he
    have hrun := run_copy_row (P := P) w dT sT ty elem g o n cap ⟨b, p, none⟩ xs.length c cur t xs hu hs hb (by simp only [Nat.min_def]; split <;> omega) (fun j u hj => by rw [Addr.add_lit]; exact hcell j u hj) hfit h1
    exact ⟨_, hrun, setRow_heap w g cur _ t _ hb, ⟨rfl, rfl, rfl, by simp [World.setRow], fun k _ hk => setRow_other w g k _ (fun e => hk (by rw [e]))⟩⟩
end
theorem rec_cells {b k : Nat} {ls : List L} {l : L} (hm : mayV ls = true) (hl : ls[k]? = some l) (hb : ls.length ≤ b) :
    ((bs (recOf b (ls.take k))).toArray.toList.take (512 * k) ++ bs l ++ (bs (recOf b (ls.take k))).toArray.toList.drop (512 * k + (bs l).length)).toArray = (bs (recOf b (ls.take (k + 1)))).toArray := by
  have hk : k < ls.length := (List.getElem?_eq_some_iff.1 hl).1
  have hl5 : l.length = 512 := mayV_iff.1 hm l (List.mem_of_getElem? hl)
  have hf : (ls.take k).flatten.length = 512 * k := by rw [may_flatten (may_take hm k), List.length_take]; omega
  have hf2 : (ls.take (k + 1)).flatten = (ls.take k).flatten ++ l := by
    rw [List.take_add_one, hl]
    simp
  congr 1
  rw [List.toList_toArray, bs_length, hl5]
  unfold bs recOf
  rw [← List.map_take, ← List.map_drop, ← List.map_append, ← List.map_append]
  congr 1
  rw [← hf, List.take_left, List.drop_append, List.drop_of_length_le (by omega), List.nil_append, noughts_drop, hf2, List.length_append, hf, hl5,
    show 512 * b - 512 * k - (512 * k + 512 - 512 * k) = 512 * b - (512 * k + 512) by omega]
theorem byte_sz (w : World) : (sizeOf 5).run Try.prog w = .ok 1 w := by
  have hi : (Try.prog.info? 5).map (·.size) = some 1 := by kernel_rfl
  cases hq : Try.prog.info? 5 with
  | none => simp [hq] at hi
  | some i =>
    have : i.size = 1 := by simpa [hq] using hi
    simp [sizeOf, typeInfo, hq, this]
theorem slice_on (g N k : Nat) (hk : 512 * k < N) (w : World) : (Instr.slice 24 (.slice (some ⟨g, 0, none⟩) N N) (some (.int .i64 ((k : Int) * 512))) none none).run Try.prog w = .ok (.slice (some ⟨g, 512 * k, none⟩) (N - 512 * k) (N - 512 * k)) w := by
  have he : Try.prog.elem 24 = 5 := by kernel_rfl
  have ek : ((k : Int) * 512) = ((512 * k : Nat) : Int) := by omega
  rw [ek, run_slice_l (P := Try.prog) w 24 _ _ _ (by rw [he]; exact Try.underlying24) .i64 ((512 * k : Nat) : Int) (by omega) (by omega), he, byte_sz]
  simp only [Result.andThen_ok, sliced]
  rw [if_neg (by omega)]
  simp only [Option.map_some, Addr.add_lit, Int.toNat_natCast, Nat.mul_one, Nat.zero_add]

set_option maxRecDepth 100000 in
set_option maxHeartbeats 1000000 in
/-- A record of these blocks, that has room for b: in new memory. -/
theorem rjoin_s (b : Nat) (ls : List L) (A : Option Addr) (c : Nat) (w : World) (ha : RdL w A c ls) (hm : mayV ls = true) (hl : ls.length ≤ b) (hb1 : 1 ≤ b) (hb : b ≤ 20) :
    Calls Try.prog 43 #[.int .i64 (b : Int), .slice A ls.length c] w fun e w' => e = .returned (.slice (some ⟨w.heap.size, 0, none⟩) (512 * b) (512 * b)) ∧ Blk w' w.heap.size 5 (bs (recOf b ls)).toArray ∧ Stp w w' := by
  have Hm := Lib.hid hm
  have hz : Array.replicate (512 * b) (Value.int .u8 0) = (bs (recOf b (ls.take 0))).toArray := by
    rw [List.take_zero, recOf, List.flatten_nil, List.nil_append, List.length_nil, Nat.sub_zero, Block.noughts_arr]
  have Hz := Lib.hid hz
  clear hm hz
  go_enter Try.func43, Try.ntmps43
  go_wp2_with (at_make; refine wpList_make_blk _ rfl _ _ 24 rfl 5 (.int .u8 0) 1 Try.underlying24 Block.byte_info rfl .i64 .i64 ((b : Int) * 512) (512 * b) rfl rfl (by omega) (by omega) (by unfold maxLen; omega) ?_; intro w1 hb1 hs1 hg1; rw [Hz.out] at hb1; have Hb1 := Lib.hid hb1; have Hs1 := Lib.hid (Block.stp_of_grown hg1); clear hb1 hs1 hg1)
  go_loopw [13] (fun i wr => ∃ k : Nat, k ≤ ls.length ∧ i = .int .i64 k ∧ Hid (Blk wr w.heap.size 5 (bs (recOf b (ls.take k))).toArray) ∧ Hid (Stp w wr)) (fun i _ => ls.length - (intOf i).toNat)
  case atStart => exact ⟨0, by omega, rfl, Hb1, Hs1⟩
  case round =>
    obtain ⟨k, hk, rfl, Hb, Hs⟩ := hrel
    by_cases hlt : k < ls.length
    · obtain ⟨l, hl1⟩ : ∃ l, ls[k]? = some l := ⟨_, List.getElem?_eq_getElem hlt⟩
      have hl5 : l.length = 512 := mayV_iff.1 Hm.out l (List.mem_of_getElem? hl1)
      obtain ⟨q, o, A1, c1, rfl, ca, ra⟩ := (ha.keep Hs.out).at_ hl1
      have hsl := slice_on w.heap.size (512 * b) k (by omega)
      have hsz : (bs (recOf b (ls.take k))).length = 512 * b := by rw [bs_length, recOf_length (may_take Hm.out k) (by rw [List.length_take]; omega)]
      have ra2 : Rd wr wr.heap.size (.slice A1 l.length c1) (bs l) := by
        have h := ra
        unfold RdA at h
        rwa [bs_length] at h
      obtain ⟨w2, hrun, h1, h2⟩ := run_copy_rd (P := Try.prog) wr 24 24 3 5 w.heap.size (512 * k) (512 * b - 512 * k) (512 * b - 512 * k) _ _ _ _ (bs l) Try.underlying24 (by kernel_rfl) Hb.out ra2 (bs_one _) (by simp only [List.size_toArray]; rw [hsz, bs_length]; omega) (by rw [bs_length]; omega)
      rw [rec_cells Hm.out hl1 hl] at h1
      have Hb2 := Lib.hid h1
      have Hs2 : Hid (Stp w w2) := Lib.hid (Below.grown Hs.out h2 Hs.out.size (fun j hj => by cases hj; exact Nat.le_refl _))
      rw [hl5] at hrun ca
      clear h1 h2 ra ra2 hl1 hsz
      go_wp2_with fail
      go_roundw
      case rel => exact ⟨k + 1, by omega, by go_num, Hb2, Hs2⟩
      case measure => simp [intOf]; omega
    · obtain rfl : k = ls.length := by omega
      go_wp2_with fail
      go_ret
      have h := Hb.out
      rw [List.take_length] at h
      exact ⟨rfl, h, Hs.out⟩

theorem flat_step {rs : List L} {k : Nat} {r : L} (h : rs[k]? = some r) : (rs.take (k + 1)).flatMap cutV = (rs.take k).flatMap cutV ++ cutV r := by
  rw [List.take_add_one, h, List.flatMap_append]
  simp
theorem all_step {rs : List L} {k : Nat} {r : L} (h : rs[k]? = some r) (hk : blocksB (rs.take k) = true) : blocksB (rs.take (k + 1)) = mayR r := by
  unfold blocksB at hk ⊢
  rw [List.take_add_one, h, List.all_append, hk]
  simp
theorem flat_le {rs : List L} (h : blocksB rs = true) : (rs.flatMap cutV).length ≤ 20 * rs.length := by
  induction rs with
  | nil => simp
  | cons r rs ih =>
    have h' := blocksB_iff.1 h
    have hr := mayR_iff.1 (h' r (by simp))
    have hc : (cutV r).length ≤ 20 := by rw [cutV_length]; exact manyN_small (by omega)
    have := ih (blocksB_iff.2 fun x hx => h' x (by simp [hx]))
    rw [List.flatMap_cons, List.length_append, List.length_cons]
    omega

set_option maxRecDepth 100000 in
set_option maxHeartbeats 1000000 in
theorem blocks_s (rs : List L) (A : Option Addr) (c : Nat) (w : World) (ha : RdL w A c rs) (hl : rs.length ≤ 4000) (hls : ∀ r ∈ rs, r.length < 9223372036854775808) :
    Calls Try.prog 22 #[.slice A rs.length c] w fun e w' => ∃ B d, e = .returned (.tuple #[.slice B (blocksV rs).length d, .bool (blocksB rs)]) ∧ RdL w' B d (blocksV rs) ∧ Stp w w' := by
  have Hls := Lib.hid hls
  have Ha := Lib.hid ha
  clear hls ha
  go_enter Try.func22, Try.ntmps22
  go_wp2_with fail
  go_loopw [4, 9] (fun v i wr => ∃ k : Nat, k ≤ rs.length ∧ i = .int .i64 k ∧ Hid (blocksB (rs.take k) = true) ∧ Hid (Base.Rows wr w.heap.size 24 v ((rs.take k).flatMap cutV)) ∧ Hid (Stp w wr)) (fun _ i _ => rs.length - (intOf i).toNat)
  case atStart => exact ⟨0, by omega, rfl, Lib.hid rfl, Lib.hid (Base.Rows.nil _ _ _), Lib.hid (Stp.refl w)⟩
  case round =>
    obtain ⟨k, hk, rfl, Hk, HR, Hs⟩ := hrel
    by_cases hlt : k < rs.length
    · obtain ⟨r, hr⟩ : ∃ r, rs[k]? = some r := ⟨_, List.getElem?_eq_getElem hlt⟩
      obtain ⟨g, o, A1, c1, rfl, ca, ra⟩ := (Ha.out.keep Hs.out).at_ hr
      have Hst := Lib.hid (flat_step hr)
      have Hal := Lib.hid (all_step hr Hk.out)
      have Hr := Lib.hid hr
      have hrl := Hls.out r (List.mem_of_getElem? hr)
      have Hra := Lib.hid ra
      clear hr
      cases hm : mayR r
      · have Hm := Lib.hid hm
        clear hm
        go_wp2_with (go_at_call 26; refine (may_s r _ _ _ hrl).mono ?_; rintro e w2 ⟨rfl, hs⟩; rw [Hm.out]; replace Hs := Lib.hid (Stp.trans Hs.out hs); clear hs)
        go_ret2
        have hB : blocksB rs = false := by
          rw [Bool.eq_false_iff]
          intro h
          have := blocksB_iff.1 h r (List.mem_of_getElem? Hr.out)
          rw [Hm.out] at this
          cases this
        rw [blocksV_no hB, hB]
        exact ⟨none, 0, rfl, RdL.nil _, Hs.out⟩
      · have hml := mayR_iff.1 hm
        have Hm := Lib.hid hm
        clear hm
        go_wp2_with (first
          | (go_at_call 26; refine (may_s r _ _ _ hrl).mono ?_; rintro e w2 ⟨rfl, hs⟩; rw [Hm.out]; replace HR := Lib.hid (HR.out.keep hs); replace Hs := Lib.hid (Stp.trans Hs.out hs); have hcv := Block.str_rd (Hra.out.keep hs); clear hs)
          | (go_at_call 37; refine (Block.cut_s r _ (by omega)).mono ?_; rintro e w3 ⟨B, d, rfl, hb, hs⟩; replace HR := Lib.hid (HR.out.keep hs); replace Hs := Lib.hid (Stp.trans Hs.out hs); have Hb := Lib.hid hb; clear hs hb hcv)
          | (at_builtin; refine Base.wpList_append_rows (P := Try.prog) rfl (.tmp 16) (.tmp 19) 27 rfl 24 Try.underlying27 Block.bytes_info _ rfl HR.out rfl Hb.out rfl ?h1 Hs.out.size ?_))
        case h1 =>
          have h1 := flat_le Hk.out
          rw [List.length_take] at h1
          have h2 : (cutV r).length ≤ 20 := by rw [cutV_length]; exact manyN_small (by omega)
          omega
        intro v2 w4 hr4 hg4
        have HR4 : Hid (Base.Rows w4 w.heap.size 24 v2 ((rs.take (k + 1)).flatMap cutV)) := Lib.hid (by rw [Hst.out]; exact hr4)
        have Hs4 := Lib.hid (HR.out.stp Hs.out (Nat.le_refl _) hg4)
        clear hr4 hg4
        go_wp2_with fail
        go_roundw
        case rel => exact ⟨k + 1, by omega, by go_num, Lib.hid (by rw [Hal.out]; exact Hm.out), HR4, Hs4⟩
        case measure => simp [intOf]; omega
    · obtain rfl : k = rs.length := by omega
      go_wp2_with fail
      go_ret2
      have h := Hk.out
      have h2 := HR.out
      rw [List.take_length] at h h2
      obtain ⟨B, d, rfl, hL⟩ := h2.rdL
      rw [blocksV_yes h, h]
      exact ⟨B, d, rfl, hL, Hs.out⟩
end Go.Proofs.Ytgjdbbhfgfodlaa.Rec
