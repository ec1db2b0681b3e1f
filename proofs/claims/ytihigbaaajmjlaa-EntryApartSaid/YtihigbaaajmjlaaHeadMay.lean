/-
  Contracts of package head: what may be: no statement is proved here.
-/
import Derived.Test.YtihigbaaajmjlaaHeadLib
import Derived.Test.YtihigbaaajmjlaaHeadPut2
namespace Go.Proofs.Ytihigbaaajmjlaa.Head
open Go.RowKit Go.Proofs.Ytihigbaaajmjlaa.Base Go.Proofs.Ytihigbaaajmjlaa.NumM Go.Proofs.Ytihigbaaajmjlaa.Num

/-- A header's cells, and it as a value. -/
abbrev hcells (h : Hd) : Array Value := #[.string ⟨h.name.toArray⟩, .string ⟨h.pre.toArray⟩, .string ⟨h.link.toArray⟩, .int .i64 h.mode, .int .i64 h.uid, .int .i64 h.gid, .int .i64 h.size, .int .i64 h.time, .int .u8 (h.ty.toNat : Int), .int .i64 h.off, .int .i64 h.real]
abbrev hv (h : Hd) : Value := .agg (hcells h)

theorem ty_eq (c : UInt8) (n : Nat) (hn : n < 256) : ((c.toNat : Int) == (n : Int)) = decide (c = UInt8.ofNat n) := by
  rw [Bool.eq_iff_iff, beq_iff_eq, decide_eq_true_eq]
  constructor
  · intro h
    apply UInt8.toNat_inj.1
    rw [by_toNat hn]
    omega
  · rintro rfl
    rw [by_toNat hn]
theorem typs_is (c : UInt8) : typs.contains c = ((c.toNat : Int) == 48 || (c.toNat : Int) == 49 || (c.toNat : Int) == 50 || (c.toNat : Int) == 53 || (c.toNat : Int) == 75 || (c.toNat : Int) == 76 || (c.toNat : Int) == 77 || (c.toNat : Int) == 86) := by
  have e := ty_eq c
  rw [show (48 : Int) = ((48 : Nat) : Int) from rfl, show (49 : Int) = ((49 : Nat) : Int) from rfl, show (50 : Int) = ((50 : Nat) : Int) from rfl, show (53 : Int) = ((53 : Nat) : Int) from rfl, show (75 : Int) = ((75 : Nat) : Int) from rfl, show (76 : Int) = ((76 : Nat) : Int) from rfl, show (77 : Int) = ((77 : Nat) : Int) from rfl, show (86 : Int) = ((86 : Nat) : Int) from rfl]
  rw [e 48 (by omega), e 49 (by omega), e 50 (by omega), e 53 (by omega), e 75 (by omega), e 76 (by omega), e 77 (by omega), e 86 (by omega)]
  simp [typs, Bool.or_assoc]

set_option maxRecDepth 100000 in
set_option maxHeartbeats 1000000 in
theorem isType_s (c : UInt8) (w : World) : Calls Try.prog 46 #[.int .u8 (c.toNat : Int)] w fun e w' => e = .returned (.bool (typs.contains c)) ∧ w = w' := by
  rw [typs_is]
  generalize (c.toNat : Int) = x
  go_enter Try.func46, Try.ntmps46
  go_wp2_with fail
  all_goals go_ret
  all_goals refine ⟨?_, rfl⟩
  all_goals simp [*]

theorem is77 (c : UInt8) : ((c.toNat : Int) == 77) = decide (c = 77) := ty_eq c 77 (by omega)
theorem elseZ_m (h : Hd) (hm : ((h.ty.toNat : Int) == 77) = true) : elseZ h = h.pre.isEmpty := by
  rw [is77, decide_eq_true_eq] at hm
  unfold elseZ
  rw [if_pos hm]
theorem elseZ_n (h : Hd) (hm : ((h.ty.toNat : Int) == 77) = false) : elseZ h = (decide (h.off = 0) && decide (h.real = 0)) := by
  rw [is77, decide_eq_false_iff_not] at hm
  unfold elseZ
  rw [if_neg hm]

set_option maxRecDepth 100000 in
theorem elseZ_s (h : Hd) (w : World) : Calls Try.prog 47 #[hv h] w fun e w' => e = .returned (.bool (elseZ h)) ∧ Stp w w' := by
  have h0 := Stp.refl w
  go_enter Try.func47, Try.ntmps47
  go_wp2_with fail
  all_goals go_ret
  all_goals refine ⟨congrArg (fun b => Ending.returned (.bool b)) ?_, Stp.alloc h0 _⟩
  · rw [elseZ_m h (by assumption)]
  · rw [elseZ_n h (by assumption)]; simp [*]; rfl
  · rw [elseZ_n h (by assumption)]; simp [*]

/-! ### the rows of the two lists -/
def txR (h : Hd) : List (Int × Int × Nat) := if h.ty = 77 then txM else txN
def nuR (h : Hd) : List (Int × Int × Nat) := if h.ty = 77 then nuM else nuN
def txo (h : Hd) : List (L × Nat) := if h.ty = 77 then [(h.name, 100), (h.link, 100)] else [(h.name, 100), (h.link, 100), (h.pre, 155)]
def nuo (h : Hd) : List (Int × Nat) := [(h.mode, 8), (h.uid, 8), (h.gid, 8), (h.size, 12), (h.time, 12)] ++ if h.ty = 77 then [(h.off, 12), (h.real, 12)] else []
theorem txtsOk_is (h : Hd) : txtsOk h = (txo h).all fun p => okT p.1 p.2 := by
  unfold txtsOk txo
  by_cases hm : h.ty = 77 <;> simp [hm]
  ac_rfl
theorem numsOk_is (h : Hd) : numsOk h = (nuo h).all fun p => putOk p.1 p.2 := by
  unfold numsOk nuo
  by_cases hm : h.ty = 77 <;> simp [hm, Bool.and_assoc]
theorem txR_length (h : Hd) : (txR h).length = (txo h).length := by unfold txR txo; split <;> rfl
theorem nuR_length (h : Hd) : (nuR h).length = (nuo h).length := by unfold nuR nuo; split <;> rfl
theorem txts_length (h : Hd) : (txR h).length = (txts h).length := by unfold txR txts; split <;> rfl
theorem numsL_length (h : Hd) : (nuR h).length = (numsL h).length := by unfold nuR numsL; split <;> rfl
/-- One row of the texts: where it lies, its room, and its cell. -/
theorem txR_at (h : Hd) (k : Nat) (hk : k < (txR h).length) : ∃ (at_ : Nat) (most : Nat) (f : Nat) (s : L), (txR h)[k]? = some ((at_ : Int), (most : Int), f) ∧ (txo h)[k]? = some (s, most) ∧ (txts h)[k]? = some (at_, s) ∧ (hcells h)[f]? = some (.string ⟨s.toArray⟩) ∧ at_ + most ≤ 512 ∧ at_ < 512 := by
  unfold txR at hk ⊢
  unfold txo txts
  by_cases hm : h.ty = 77
  · simp only [hm, if_true] at hk ⊢
    match k, hk with
    | 0, _ => exact ⟨0, 100, 0, _, rfl, rfl, rfl, rfl, by omega, by omega⟩
    | 1, _ => exact ⟨157, 100, 2, _, rfl, rfl, rfl, rfl, by omega, by omega⟩
    | k + 2, hk => simp [txM] at hk; omega
  · simp only [hm, if_false] at hk ⊢
    match k, hk with
    | 0, _ => exact ⟨0, 100, 0, _, rfl, rfl, rfl, rfl, by omega, by omega⟩
    | 1, _ => exact ⟨157, 100, 2, _, rfl, rfl, rfl, rfl, by omega, by omega⟩
    | 2, _ => exact ⟨345, 155, 1, _, rfl, rfl, rfl, rfl, by omega, by omega⟩
    | k + 3, hk => simp [txN] at hk; omega
structure SmallH (h : Hd) : Prop where
  name : h.name.length ≤ 9223372036854775807
  pre : h.pre.length ≤ 9223372036854775807
  link : h.link.length ≤ 9223372036854775807
  mode : h.mode < 9223372036854775808
  uid : h.uid < 9223372036854775808
  gid : h.gid < 9223372036854775808
  size : h.size < 9223372036854775808
  time : h.time < 9223372036854775808
  off : h.off < 9223372036854775808
  real : h.real < 9223372036854775808
theorem nuR_at (h : Hd) (hs : SmallH h) (k : Nat) (hk : k < (nuR h).length) : ∃ (at_ : Nat) (wd : Nat) (f : Nat) (x : Int), (nuR h)[k]? = some ((at_ : Int), (wd : Int), f) ∧ (nuo h)[k]? = some (x, wd) ∧ (numsL h)[k]? = some (at_, putV x wd) ∧ (hcells h)[f]? = some (.int .i64 x) ∧ at_ + wd ≤ 512 ∧ at_ < 512 ∧ x < 9223372036854775808 := by
  unfold nuR at hk ⊢
  unfold nuo numsL
  have key : ∀ k, k < 5 → ∃ (at_ : Nat) (wd : Nat) (f : Nat) (x : Int), nuN[k]? = some ((at_ : Int), (wd : Int), f) ∧ nuM[k]? = some ((at_ : Int), (wd : Int), f) ∧ [(h.mode, 8), (h.uid, 8), (h.gid, 8), (h.size, 12), (h.time, 12)][k]? = some (x, wd) ∧
      [(100, putV h.mode 8), (108, putV h.uid 8), (116, putV h.gid 8), (124, putV h.size 12), (136, putV h.time 12)][k]? = some (at_, putV x wd) ∧ (hcells h)[f]? = some (.int .i64 x) ∧ at_ + wd ≤ 512 ∧ at_ < 512 ∧ x < 9223372036854775808 := by
    intro k hk
    match k, hk with
    | 0, _ => exact ⟨100, 8, 3, _, rfl, rfl, rfl, rfl, rfl, by omega, by omega, hs.mode⟩
    | 1, _ => exact ⟨108, 8, 4, _, rfl, rfl, rfl, rfl, rfl, by omega, by omega, hs.uid⟩
    | 2, _ => exact ⟨116, 8, 5, _, rfl, rfl, rfl, rfl, rfl, by omega, by omega, hs.gid⟩
    | 3, _ => exact ⟨124, 12, 6, _, rfl, rfl, rfl, rfl, rfl, by omega, by omega, hs.size⟩
    | 4, _ => exact ⟨136, 12, 7, _, rfl, rfl, rfl, rfl, rfl, by omega, by omega, hs.time⟩
    | k + 5, hk => omega
  by_cases hm : h.ty = 77
  · simp only [hm, if_true] at hk ⊢
    by_cases h5 : k < 5
    · obtain ⟨a, wd, f, x, e1, e2, e3, e4, e5⟩ := key k h5
      exact ⟨a, wd, f, x, e2, by rw [List.getElem?_append_left (by simpa using h5)]; exact e3, by rw [List.getElem?_append_left (by simpa using h5)]; exact e4, e5⟩
    · match k, hk, h5 with
      | 5, _, _ => exact ⟨369, 12, 9, _, rfl, rfl, rfl, rfl, by omega, by omega, hs.off⟩
      | 6, _, _ => exact ⟨483, 12, 10, _, rfl, rfl, rfl, rfl, by omega, by omega, hs.real⟩
      | k + 7, hk, _ => simp [nuM] at hk; omega
      | 0, _, h5 | 1, _, h5 | 2, _, h5 | 3, _, h5 | 4, _, h5 => omega
  · simp only [hm, if_false, List.append_nil] at hk ⊢
    obtain ⟨a, wd, f, x, e1, e2, e3, e4, e5⟩ := key k (by simpa [nuN] using hk)
    exact ⟨a, wd, f, x, e1, e3, e4, e5⟩

theorem texts_any (h : Hd) (hb : Nat) (w : World) (hd : Blk w hb 27 (hcells h)) :
    Calls Try.prog 48 #[.pointer (some ⟨hb, 0, none⟩)] w fun e w' => ∃ g cap, e = .returned (.slice (some ⟨g, 0, none⟩) (txR h).length cap) ∧ w.heap.size ≤ g ∧ RdC w' g (rowsC hb (txR h)) ∧ Stp w w' := by
  have h8 : w.cell? ⟨hb, 8, none⟩ = some (.int .u8 (h.ty.toNat : Int)) := by rw [hd.cell]; rfl
  unfold txR
  by_cases hm : h.ty = 77
  · rw [if_pos hm]
    rw [hm] at h8
    exact texts_m hb w h8
  · rw [if_neg hm]
    exact texts_n hb w h.ty hm h8
theorem numbers_any (h : Hd) (hb : Nat) (w : World) (hd : Blk w hb 27 (hcells h)) :
    Calls Try.prog 50 #[.pointer (some ⟨hb, 0, none⟩)] w fun e w' => ∃ g cap, e = .returned (.slice (some ⟨g, 0, none⟩) (nuR h).length cap) ∧ w.heap.size ≤ g ∧ RdC w' g (rowsC hb (nuR h)) ∧ Stp w w' := by
  have h8 : w.cell? ⟨hb, 8, none⟩ = some (.int .u8 (h.ty.toNat : Int)) := by rw [hd.cell]; rfl
  unfold nuR
  by_cases hm : h.ty = 77
  · rw [if_pos hm]
    rw [hm] at h8
    exact numbers_m hb w h8
  · rw [if_neg hm]
    exact numbers_n hb w h.ty hm h8
end Go.Proofs.Ytihigbaaajmjlaa.Head
