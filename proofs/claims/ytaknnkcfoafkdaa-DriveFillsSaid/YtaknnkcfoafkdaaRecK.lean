/-
  Contracts of package record: mayHold, May, Many, join, chunks and its iterator, Group, Blocks: no statement is proved here.
-/
import Derived.Test.YtaknnkcfoafkdaaBlockRef
import Derived.Test.YtaknnkcfoafkdaaEntrySl
import Derived.Test.YtaknnkcfoafkdaaRangeO
import Derived.Test.YtaknnkcfoafkdaaRecM
import Derived.Laws.CopyRow
import Derived.Laws.IdiomCopy
import Derived.StillTailTactics
import Derived.Deep.RegionWith
import Derived.WalkMore
namespace Go.Proofs.Ytaknnkcfoafkdaa.Rec
open Go.RowKit Go.Shelf Go.Proofs.Ytaknnkcfoafkdaa.Str Go.Proofs.Ytaknnkcfoafkdaa.Base Go.Proofs.Ytaknnkcfoafkdaa.BlockM Go.Proofs.Ytaknnkcfoafkdaa.RecM

set_option maxRecDepth 100000 in
theorem hold_s (b : Int) (w : World) : Calls Try.prog 70 #[.int .i64 b] w fun e w' => e = .returned (.bool (holdV b)) ∧ Stp w w' := by
  have h0 := Stp.refl w
  obtain ⟨x, hx⟩ : ∃ x, decide (1 ≤ b) = x := ⟨_, rfl⟩
  obtain ⟨y, hy⟩ : ∃ y, decide (b ≤ 20) = y := ⟨_, rfl⟩
  rw [holdV, hx, hy]
  cases x
  all_goals
    go_enter Try.func70, Try.ntmps70
    go_wp2_with fail
    go_ret
    exact ⟨rfl, h0⟩
set_option maxRecDepth 100000 in
theorem may_s (r : L) (A : Option Addr) (c : Nat) (w : World) (hl : r.length < 9223372036854775808) :
    Calls Try.prog 69 #[.slice A r.length c] w fun e w' => e = .returned (.bool (mayR r)) ∧ Stp w w' := by
  have h0 := Stp.refl w
  obtain ⟨n, hn⟩ : ∃ n, r.length = n := ⟨_, rfl⟩
  obtain ⟨y, hy⟩ : ∃ y, holdV ((n / 512 : Nat) : Int) = y := ⟨_, rfl⟩
  rw [mayR, hn, hy]
  rw [hn] at hl
  have Hy : Hid (holdV ((n : Int) / 512) = y) := Lib.hid (by rw [← hy]; rfl)
  by_cases hm : n % 512 = 0
  · have g : ((n : Int) % 512 == 0) = true := by simp; omega
    rw [show decide (n % 512 = 0) = true by simp [hm]]
    clear hy hm hn
    go_enter Try.func69, Try.ntmps69
    go_wp2_with (go_at_call 70; refine (hold_s _ _).mono ?_; rintro e w' ⟨rfl, hs⟩; replace h0 := Stp.trans h0 hs; clear hs; rw [Hy.out])
    go_ret
    exact ⟨rfl, h0⟩
  · have g : ((n : Int) % 512 == 0) = false := by simp; omega
    rw [show decide (n % 512 = 0) = false by simp [hm]]
    clear hy hm hn
    go_enter Try.func69, Try.ntmps69
    go_wp2_with fail
    go_ret
    exact ⟨rfl, h0⟩
section
variable {P : Program} (w : World)
theorem run_copy_rd (dT sT ty elem : TypeId) (g o n cap : Nat) (t : TypeId) (cur : Array Value) (B : Nat) (v : Value) (xs : List Value) (hu : P.underlying dT = some (.slice elem)) (hs : (P.info? elem).map (·.size) = some 1)
    (hb : Blk w g t cur) (hv : Rd w B v xs) (h1 : ∀ u ∈ xs, u.oneCell' = true) (hfit : o + xs.length ≤ cur.size) (hn : xs.length ≤ n) :
    ∃ w', (Builtin.copy_ #[dT, sT] ty #[.slice (some ⟨g, o, none⟩) n cap, v]).run P w = .ok (.int .i64 xs.length) w' ∧ Blk w' g t (cur.toList.take o ++ xs ++ cur.toList.drop (o + xs.length)).toArray ∧ w.grownBy w' (some g) := by
  obtain ⟨A, c, rfl, hc, hr⟩ := hv
  by_cases he : xs = []
  · subst he
    refine ⟨w, run_copy_none (P := P) w dT sT ty elem (some ⟨g, o, none⟩) A n cap 0 c hu hs (by simp), ?_, World.grownBy.refl w _⟩
    simpa using hb
  · obtain ⟨b, p, rfl, _, hcell⟩ := hr he
    have hrun := run_copy_row (P := P) w dT sT ty elem g o n cap ⟨b, p, none⟩ xs.length c cur t xs hu hs hb (by simp only [Nat.min_def]; split <;> omega) (fun j u hj => by rw [Addr.add_lit]; exact hcell j u hj) hfit h1
    exact ⟨_, hrun, setRow_heap w g cur _ t _ hb, ⟨rfl, rfl, rfl, by simp [World.setRow], fun k _ hk => setRow_other w g k _ (fun e => hk (by rw [e]))⟩⟩
end
theorem rec_cells {b k : Nat} {ls : List L} {l : L} (hm : mayV ls = true) (hl : ls[k]? = some l) (hb : ls.length ≤ b) :
    ((bs (recOf b (ls.take k))).toArray.toList.take (512 * k) ++ bs l ++ (bs (recOf b (ls.take k))).toArray.toList.drop (512 * k + (bs l).length)).toArray = (bs (recOf b (ls.take (k + 1)))).toArray := by
  have hk : k < ls.length := (List.getElem?_eq_some_iff.1 hl).1
  have hl5 : l.length = 512 := mayV_iff.1 hm l (List.mem_of_getElem? hl)
  have hf : (ls.take k).flatten.length = 512 * k := by rw [may_flatten (may_take hm k), List.length_take]; omega
  have hf2 : (ls.take (k + 1)).flatten = (ls.take k).flatten ++ l := by
    rw [List.take_add_one, hl]
    simp
  congr 1
  rw [List.toList_toArray, bs_length, hl5]
  unfold bs recOf
  rw [← List.map_take, ← List.map_drop, ← List.map_append, ← List.map_append]
  congr 1
  rw [← hf, List.take_left, List.drop_append, List.drop_of_length_le (by omega), List.nil_append, noughts_drop, hf2, List.length_append, hf, hl5,
    show 512 * b - 512 * k - (512 * k + 512 - 512 * k) = 512 * b - (512 * k + 512) by omega]
theorem byte_sz (w : World) : (sizeOf 5).run Try.prog w = .ok 1 w := by
  have hi : (Try.prog.info? 5).map (·.size) = some 1 := by kernel_rfl
  cases hq : Try.prog.info? 5 with
  | none => simp [hq] at hi
  | some i =>
    have : i.size = 1 := by simpa [hq] using hi
    simp [sizeOf, typeInfo, hq, this]
theorem slice_on (g N k : Nat) (hk : 512 * k < N) (w : World) : (Instr.slice 25 (.slice (some ⟨g, 0, none⟩) N N) (some (.int .i64 ((k : Int) * 512))) none none).run Try.prog w = .ok (.slice (some ⟨g, 512 * k, none⟩) (N - 512 * k) (N - 512 * k)) w := by
  have he : Try.prog.elem 25 = 5 := by kernel_rfl
  have ek : ((k : Int) * 512) = ((512 * k : Nat) : Int) := by omega
  rw [ek, run_slice_l (P := Try.prog) w 25 _ _ _ (by rw [he]; exact Try.underlying25) .i64 ((512 * k : Nat) : Int) (by omega) (by omega), he, byte_sz]
  simp only [Result.andThen_ok, sliced]
  rw [if_neg (by omega)]
  simp only [Option.map_some, Addr.add_lit, Int.toNat_natCast, Nat.mul_one, Nat.zero_add]

theorem flat_step {rs : List L} {k : Nat} {r : L} (h : rs[k]? = some r) : (rs.take (k + 1)).flatMap cutV = (rs.take k).flatMap cutV ++ cutV r := by
  rw [List.take_add_one, h, List.flatMap_append]
  simp
theorem all_step {rs : List L} {k : Nat} {r : L} (h : rs[k]? = some r) (hk : blocksB (rs.take k) = true) : blocksB (rs.take (k + 1)) = mayR r := by
  unfold blocksB at hk ⊢
  rw [List.take_add_one, h, List.all_append, hk]
  simp
theorem flat_le {rs : List L} (h : blocksB rs = true) : (rs.flatMap cutV).length ≤ 20 * rs.length := by
  induction rs with
  | nil => simp
  | cons r rs ih =>
    have h' := blocksB_iff.1 h
    have hr := mayR_iff.1 (h' r (by simp))
    have hc : (cutV r).length ≤ 20 := by rw [cutV_length]; exact manyN_small (by omega)
    have := ih (blocksB_iff.2 fun x hx => h' x (by simp [hx]))
    rw [List.flatMap_cons, List.length_append, List.length_cons]
    omega

end Go.Proofs.Ytaknnkcfoafkdaa.Rec
