/-
  What the library's functions that package head comes to return (strings.IndexByte, strings.Cut at a nought, bytes.Equal), and whether bytes are noughts: no statement is proved here.
  Contracts of package head: what may be: no statement is proved here. The contract of package head's May: no statement is proved here.
-/
import Derived.Test.YtjddgmdbgajjpaaProg
import Derived.Test.YtjddgmdbgajjpaaHeadPut
import Derived.Test.YtjddgmdbgajjpaaBase
import Derived.Lib.Bytealg
import Derived.Lib.Strings
import Derived.Lib.Walk
import Derived.BigQuiet
import Derived.Deep.QuietTactic
namespace Go.Proofs.Ytjddgmdbgajjpaa.Head
open Go.RowKit Go.Proofs.Ytjddgmdbgajjpaa.Base Go.Proofs.Ytjddgmdbgajjpaa.Str

theorem indexByte_upto (l : L) : Lib.indexByte l 0 = if (0 : UInt8) ∈ l then ((upto l).length : Int) else -1 := by
  induction l with
  | nil => rfl
  | cons c l ih =>
    unfold Lib.indexByte
    by_cases hc : c = 0
    · subst hc; simp [upto]
    · have hc' : ¬ 0 = c := fun e => hc e.symm
      have hu : upto (c :: l) = c :: upto l := by simp [upto, hc]
      rw [hu]
      simp only [hc, beq_iff_eq, if_false, ih, List.mem_cons, hc', false_or]
      split
      · simp
      · simp
theorem upto_none {l : L} (h : (0 : UInt8) ∉ l) : upto l = l := by
  unfold upto
  induction l with
  | nil => rfl
  | cons c l ih =>
    have hc : c ≠ 0 := by rintro rfl; simp at h
    have h2 : (0 : UInt8) ∉ l := fun hm => h (by simp [hm])
    simp [hc, ih h2]
theorem upto_take (l : L) : l.take (upto l).length = upto l := by
  unfold upto
  induction l with
  | nil => rfl
  | cons c l ih => by_cases hc : c = 0 <;> simp [hc, ih]
theorem upto_lt {l : L} (h : (0 : UInt8) ∈ l) : (upto l).length < l.length := by
  unfold upto
  induction l with
  | nil => simp at h
  | cons c l ih =>
    by_cases hc : c = 0
    · simp [hc]
    · have : (0 : UInt8) ∈ l := by
        rcases List.mem_cons.1 h with e | e
        · exact absurd e.symm hc
        · exact e
      simp [hc]
      exact ih this

set_option maxRecDepth 100000 in
theorem lIndexByte (s : ByteArray) (c : Int) (w : World) :
    Calls Try.prog 69 #[.string s, .int .u8 c] w fun e w' => e = .returned (.int .i64 (Lib.indexByte s.data.toList c.toNat.toUInt8)) ∧ w = w' := by
  go_enter Try.func69, Try.ntmps69
  go_wp2
  rw [run_callFunc_extern Try.func78 (by kernel_rfl) (by kernel_rfl) (by kernel_rfl) (e := Extern.BytealgIndexByte.indexByte) (by kernel_rfl), Lib.run_indexByteString]
  simp only [Result.andThen]
  rw [Oper.upon_value]
  go_wp2
  go_ret
  exact ⟨rfl, rfl⟩

set_option maxRecDepth 100000 in
theorem indexByte_any (s : ByteArray) (c : Int) (w : World) :
    Calls Try.prog 44 #[.string s, .int .u8 c] w fun e w' => e = .returned (.int .i64 (Lib.indexByte s.data.toList c.toNat.toUInt8)) ∧ w = w' := by
  go_enter Try.func44, Try.ntmps44
  go_wp2_with fail
  refine (lIndexByte _ _ _).mono ?_
  rintro e w' ⟨rfl, rfl⟩
  go_wp2_with fail
  go_ret
  exact ⟨rfl, rfl⟩

theorem indexByte_l (s : L) (c : Int) (w : World) :
    Calls Try.prog 44 #[.string ⟨s.toArray⟩, .int .u8 c] w fun e w' => e = .returned (.int .i64 (Lib.indexByte s c.toNat.toUInt8)) ∧ w = w' := indexByte_any ⟨s.toArray⟩ c w

set_option maxHeartbeats 2000000 in
set_option maxRecDepth 100000 in
theorem lIndex (s : ByteArray) (w : World) :
    Calls Try.prog 82 #[.string s, .string ⟨#[0]⟩] w fun e w' => e = .returned (.int .i64 (Lib.indexByte s.data.toList 0)) ∧ w = w' := by
  go_enter Try.func82, Try.ntmps82
  go_wp2_with (go_at_call 69; refine (lIndexByte _ _ _).mono ?_; rintro e w' ⟨rfl, rfl⟩)
  · have h : ([0] == s.toList) = true := by assumption
    go_ret
    refine ⟨?_, rfl⟩
    have e : s.data.toList = [0] := by rw [← Lib.toList_data]; exact (beq_iff_eq.1 h).symm
    rw [e]
    simp [Lib.indexByte]
  · go_ret
    exact ⟨rfl, rfl⟩

set_option maxHeartbeats 2000000 in
set_option maxRecDepth 100000 in
theorem lCut (s : L) (w : World) (hs : s.length ≤ 9223372036854775807) :
    Calls Try.prog 79 #[.string ⟨s.toArray⟩, .string ⟨#[0]⟩] w fun e w' => ∃ b c, e = .returned (.tuple #[.string ⟨(upto s).toArray⟩, b, c]) ∧ ∃ n, w' = w.drewN n := by
  have hi := indexByte_upto s
  have hsz : (⟨s.toArray⟩ : ByteArray).size = s.length := by simp [ByteArray.size]
  by_cases h0 : (0 : UInt8) ∈ s
  · rw [if_pos h0] at hi
    have hlt := upto_lt h0
    obtain ⟨k, hk⟩ : ∃ k, k = (upto s).length := ⟨_, rfl⟩
    rw [← hk] at hi hlt
    have Ha : Hid ((⟨s.toArray⟩ : ByteArray).extract 0 k = ⟨(upto s).toArray⟩) := Lib.hid (ba_eq (by rw [extract_take, hk]; exact upto_take s))
    have Hi := Lib.hid hi
    obtain ⟨x, hx⟩ : ∃ x : ByteArray, x = ⟨s.toArray⟩ := ⟨_, rfl⟩
    have Hx := Lib.hid hx
    rw [← hx] at Ha hsz ⊢
    have hl2 : k + 1 ≤ x.size := by omega
    have hl3 : x.size ≤ 9223372036854775807 := by omega
    clear hi hk h0 hx hsz hlt hs
    go_enter Try.func79, Try.ntmps79
    go_wp2_with fail
    refine (lIndex _ _).mono ?_
    rintro e w' ⟨rfl, rfl⟩
    rw [show Lib.indexByte x.data.toList 0 = (k : Int) by rw [Hx.out]; exact Hi.out]
    have c1 : (0 : Int) ≤ ↑k := by omega
    have c2 : (↑k : Int) ≤ ↑x.size := by omega
    have c3 : (0 : Int) ≤ ↑k + 1 := by omega
    have c4 : (↑k + 1 : Int) ≤ ↑x.size := by omega
    go_wp2_with fail
    go_quiet (fail)
    all_goals go_wp2_with fail
    all_goals go_ret3
    all_goals exact ⟨_, _, by rw [← Ha.out]; rfl, _, rfl⟩
  · rw [if_neg h0] at hi
    have hu := upto_none h0
    rw [hu]
    have Hi := Lib.hid hi
    clear hi h0 hu hs hsz
    go_enter Try.func79, Try.ntmps79
    go_wp2_with fail
    refine (lIndex _ _).mono ?_
    rintro e w' ⟨rfl, rfl⟩
    rw [show Lib.indexByte (⟨s.toArray⟩ : ByteArray).data.toList 0 = -1 from Hi.out]
    go_wp2_with fail
    go_ret3
    exact ⟨_, _, rfl, 0, rfl⟩

set_option maxRecDepth 100000 in
theorem cut_any (s : L) (w : World) (hs : s.length ≤ 9223372036854775807) :
    Calls Try.prog 71 #[.string ⟨s.toArray⟩, .string ⟨#[0]⟩] w fun e w' => ∃ b c, e = .returned (.tuple #[.string ⟨(upto s).toArray⟩, b, c]) ∧ ∃ n, w' = w.drewN n := by
  have Hs := Lib.hid hs
  clear hs
  go_enter Try.func71, Try.ntmps71
  go_wp2_with fail
  refine (lCut s _ Hs.out).mono ?_
  rintro e w' ⟨b, c, rfl, n, rfl⟩
  go_wp2_with fail
  go_ret3
  exact ⟨_, _, rfl, n, rfl⟩

/-- Noughts alone? -/
def zeroV (b : L) : Bool := b.all fun x => decide (x = 0)
theorem zeroV_iff {b : L} : zeroV b = true ↔ b = zeros b.length := by
  unfold zeroV zeros
  rw [List.eq_replicate_iff]
  simp
theorem zeroV_step {l : L} {k : Nat} {x : UInt8} (hl : l[k]? = some x) (h : zeroV (l.take k) = true) : zeroV (l.take (k + 1)) = decide (x = 0) := by
  unfold zeroV at h ⊢
  rw [List.take_add_one, hl, List.all_append, h]
  simp
theorem zeroV_no {l : L} {k : Nat} {x : UInt8} (hl : l[k]? = some x) (h : x ≠ 0) : zeroV l = false := by
  rw [Bool.eq_false_iff]
  intro hm
  simp only [zeroV, List.all_eq_true, decide_eq_true_eq] at hm
  exact h (hm x (List.mem_of_getElem? hl))


end Go.Proofs.Ytjddgmdbgajjpaa.Head

namespace Go.Proofs.Ytjddgmdbgajjpaa.Head
open Go.RowKit Go.Proofs.Ytjddgmdbgajjpaa.Base Go.Proofs.Ytjddgmdbgajjpaa.NumM Go.Proofs.Ytjddgmdbgajjpaa.Num

/-- A header's cells, and it as a value. -/
abbrev hcells (h : Hd) : Array Value := #[.string ⟨h.name.toArray⟩, .string ⟨h.pre.toArray⟩, .string ⟨h.link.toArray⟩, .int .i64 h.mode, .int .i64 h.uid, .int .i64 h.gid, .int .i64 h.size, .int .i64 h.time, .int .u8 (h.ty.toNat : Int), .int .i64 h.off, .int .i64 h.real]
abbrev hv (h : Hd) : Value := .agg (hcells h)

theorem ty_eq (c : UInt8) (n : Nat) (hn : n < 256) : ((c.toNat : Int) == (n : Int)) = decide (c = UInt8.ofNat n) := by
  rw [Bool.eq_iff_iff, beq_iff_eq, decide_eq_true_eq]
  constructor
  · intro h
    apply UInt8.toNat_inj.1
    rw [by_toNat hn]
    omega
  · rintro rfl
    rw [by_toNat hn]
theorem typs_is (c : UInt8) : typs.contains c = ((c.toNat : Int) == 48 || (c.toNat : Int) == 49 || (c.toNat : Int) == 50 || (c.toNat : Int) == 53 || (c.toNat : Int) == 75 || (c.toNat : Int) == 76 || (c.toNat : Int) == 77 || (c.toNat : Int) == 86) := by
  have e := ty_eq c
  rw [show (48 : Int) = ((48 : Nat) : Int) from rfl, show (49 : Int) = ((49 : Nat) : Int) from rfl, show (50 : Int) = ((50 : Nat) : Int) from rfl, show (53 : Int) = ((53 : Nat) : Int) from rfl, show (75 : Int) = ((75 : Nat) : Int) from rfl, show (76 : Int) = ((76 : Nat) : Int) from rfl, show (77 : Int) = ((77 : Nat) : Int) from rfl, show (86 : Int) = ((86 : Nat) : Int) from rfl]
  rw [e 48 (by omega), e 49 (by omega), e 50 (by omega), e 53 (by omega), e 75 (by omega), e 76 (by omega), e 77 (by omega), e 86 (by omega)]
  simp [typs, Bool.or_assoc]

theorem is77 (c : UInt8) : ((c.toNat : Int) == 77) = decide (c = 77) := ty_eq c 77 (by omega)
theorem elseZ_m (h : Hd) (hm : ((h.ty.toNat : Int) == 77) = true) : elseZ h = h.pre.isEmpty := by
  rw [is77, decide_eq_true_eq] at hm
  unfold elseZ
  rw [if_pos hm]
theorem elseZ_n (h : Hd) (hm : ((h.ty.toNat : Int) == 77) = false) : elseZ h = (decide (h.off = 0) && decide (h.real = 0)) := by
  rw [is77, decide_eq_false_iff_not] at hm
  unfold elseZ
  rw [if_neg hm]

/-! ### the rows of the two lists -/
def txR (h : Hd) : List (Int × Int × Nat) := if h.ty = 77 then txM else txN
def nuR (h : Hd) : List (Int × Int × Nat) := if h.ty = 77 then nuM else nuN
def txo (h : Hd) : List (L × Nat) := if h.ty = 77 then [(h.name, 100), (h.link, 100)] else [(h.name, 100), (h.link, 100), (h.pre, 155)]
def nuo (h : Hd) : List (Int × Nat) := [(h.mode, 8), (h.uid, 8), (h.gid, 8), (h.size, 12), (h.time, 12)] ++ if h.ty = 77 then [(h.off, 12), (h.real, 12)] else []
theorem txtsOk_is (h : Hd) : txtsOk h = (txo h).all fun p => okT p.1 p.2 := by
  unfold txtsOk txo
  by_cases hm : h.ty = 77 <;> simp [hm]
  ac_rfl
theorem numsOk_is (h : Hd) : numsOk h = (nuo h).all fun p => putOk p.1 p.2 := by
  unfold numsOk nuo
  by_cases hm : h.ty = 77 <;> simp [hm, Bool.and_assoc]
theorem txR_length (h : Hd) : (txR h).length = (txo h).length := by unfold txR txo; split <;> rfl
theorem nuR_length (h : Hd) : (nuR h).length = (nuo h).length := by unfold nuR nuo; split <;> rfl
theorem txts_length (h : Hd) : (txR h).length = (txts h).length := by unfold txR txts; split <;> rfl
theorem numsL_length (h : Hd) : (nuR h).length = (numsL h).length := by unfold nuR numsL; split <;> rfl
/-- One row of the texts: where it lies, its room, and its cell. -/
theorem txR_at (h : Hd) (k : Nat) (hk : k < (txR h).length) : ∃ (at_ : Nat) (most : Nat) (f : Nat) (s : L), (txR h)[k]? = some ((at_ : Int), (most : Int), f) ∧ (txo h)[k]? = some (s, most) ∧ (txts h)[k]? = some (at_, s) ∧ (hcells h)[f]? = some (.string ⟨s.toArray⟩) ∧ at_ + most ≤ 512 ∧ at_ < 512 := by
  unfold txR at hk ⊢
  unfold txo txts
  by_cases hm : h.ty = 77
  · simp only [hm, if_true] at hk ⊢
    match k, hk with
    | 0, _ => exact ⟨0, 100, 0, _, rfl, rfl, rfl, rfl, by omega, by omega⟩
    | 1, _ => exact ⟨157, 100, 2, _, rfl, rfl, rfl, rfl, by omega, by omega⟩
    | k + 2, hk => simp [txM] at hk; omega
  · simp only [hm, if_false] at hk ⊢
    match k, hk with
    | 0, _ => exact ⟨0, 100, 0, _, rfl, rfl, rfl, rfl, by omega, by omega⟩
    | 1, _ => exact ⟨157, 100, 2, _, rfl, rfl, rfl, rfl, by omega, by omega⟩
    | 2, _ => exact ⟨345, 155, 1, _, rfl, rfl, rfl, rfl, by omega, by omega⟩
    | k + 3, hk => simp [txN] at hk; omega
structure SmallH (h : Hd) : Prop where
  name : h.name.length ≤ 9223372036854775807
  pre : h.pre.length ≤ 9223372036854775807
  link : h.link.length ≤ 9223372036854775807
  mode : h.mode < 9223372036854775808
  uid : h.uid < 9223372036854775808
  gid : h.gid < 9223372036854775808
  size : h.size < 9223372036854775808
  time : h.time < 9223372036854775808
  off : h.off < 9223372036854775808
  real : h.real < 9223372036854775808
theorem nuR_at (h : Hd) (hs : SmallH h) (k : Nat) (hk : k < (nuR h).length) : ∃ (at_ : Nat) (wd : Nat) (f : Nat) (x : Int), (nuR h)[k]? = some ((at_ : Int), (wd : Int), f) ∧ (nuo h)[k]? = some (x, wd) ∧ (numsL h)[k]? = some (at_, putV x wd) ∧ (hcells h)[f]? = some (.int .i64 x) ∧ at_ + wd ≤ 512 ∧ at_ < 512 ∧ x < 9223372036854775808 := by
  unfold nuR at hk ⊢
  unfold nuo numsL
  have key : ∀ k, k < 5 → ∃ (at_ : Nat) (wd : Nat) (f : Nat) (x : Int), nuN[k]? = some ((at_ : Int), (wd : Int), f) ∧ nuM[k]? = some ((at_ : Int), (wd : Int), f) ∧ [(h.mode, 8), (h.uid, 8), (h.gid, 8), (h.size, 12), (h.time, 12)][k]? = some (x, wd) ∧
      [(100, putV h.mode 8), (108, putV h.uid 8), (116, putV h.gid 8), (124, putV h.size 12), (136, putV h.time 12)][k]? = some (at_, putV x wd) ∧ (hcells h)[f]? = some (.int .i64 x) ∧ at_ + wd ≤ 512 ∧ at_ < 512 ∧ x < 9223372036854775808 := by
    intro k hk
    match k, hk with
    | 0, _ => exact ⟨100, 8, 3, _, rfl, rfl, rfl, rfl, rfl, by omega, by omega, hs.mode⟩
    | 1, _ => exact ⟨108, 8, 4, _, rfl, rfl, rfl, rfl, rfl, by omega, by omega, hs.uid⟩
    | 2, _ => exact ⟨116, 8, 5, _, rfl, rfl, rfl, rfl, rfl, by omega, by omega, hs.gid⟩
    | 3, _ => exact ⟨124, 12, 6, _, rfl, rfl, rfl, rfl, rfl, by omega, by omega, hs.size⟩
    | 4, _ => exact ⟨136, 12, 7, _, rfl, rfl, rfl, rfl, rfl, by omega, by omega, hs.time⟩
    | k + 5, hk => omega
  by_cases hm : h.ty = 77
  · simp only [hm, if_true] at hk ⊢
    by_cases h5 : k < 5
    · obtain ⟨a, wd, f, x, e1, e2, e3, e4, e5⟩ := key k h5
      exact ⟨a, wd, f, x, e2, by rw [List.getElem?_append_left (by simpa using h5)]; exact e3, by rw [List.getElem?_append_left (by simpa using h5)]; exact e4, e5⟩
    · match k, hk, h5 with
      | 5, _, _ => exact ⟨369, 12, 9, _, rfl, rfl, rfl, rfl, by omega, by omega, hs.off⟩
      | 6, _, _ => exact ⟨483, 12, 10, _, rfl, rfl, rfl, rfl, by omega, by omega, hs.real⟩
      | k + 7, hk, _ => simp [nuM] at hk; omega
      | 0, _, h5 | 1, _, h5 | 2, _, h5 | 3, _, h5 | 4, _, h5 => omega
  · simp only [hm, if_false, List.append_nil] at hk ⊢
    obtain ⟨a, wd, f, x, e1, e2, e3, e4, e5⟩ := key k (by simpa [nuN] using hk)
    exact ⟨a, wd, f, x, e1, e3, e4, e5⟩

end Go.Proofs.Ytjddgmdbgajjpaa.Head

namespace Go.Proofs.Ytjddgmdbgajjpaa.Head
open Go.RowKit Go.Proofs.Ytjddgmdbgajjpaa.Base Go.Proofs.Ytjddgmdbgajjpaa.NumM Go.Proofs.Ytjddgmdbgajjpaa.Num

theorem okT_false {s : L} {m : Nat} (h : m < s.length) : okT s m = false := by unfold okT; simp; omega
theorem okT_mem {s : L} {m : Nat} (h : (0 : UInt8) ∈ s) : okT s m = false := by unfold okT; simp [h]
theorem okT_true {s : L} {m : Nat} (h : ¬ m < s.length) (h0 : (0 : UInt8) ∉ s) : okT s m = true := by unfold okT; simp [h0]; omega
theorem all_step {α : Type} {l : List α} {k : Nat} {x : α} {f : α → Bool} (hx : l[k]? = some x) (h : (l.take k).all f = true) (hf : f x = true) : (l.take (k + 1)).all f = true := by
  rw [List.take_add_one, hx, List.all_append, h]
  simp [hf]
theorem all_no {α : Type} {l : List α} {k : Nat} {x : α} {f : α → Bool} (hx : l[k]? = some x) (hf : f x = false) : l.all f = false := by
  rw [Bool.eq_false_iff]
  intro h
  rw [List.all_eq_true] at h
  rw [h x (List.mem_of_getElem? hx)] at hf
  cases hf
theorem may_early {h : Hd} (hn : h.name = [] ∨ typs.contains h.ty = false ∨ elseZ h = false) : mayH h = false := by
  unfold mayH
  rcases hn with e | e | e
  · simp [e]
  · rw [e]; simp
  · rw [e]; simp
theorem may_late {h : Hd} (h1 : h.name ≠ []) (h2 : typs.contains h.ty = true) (h3 : elseZ h = true) : mayH h = ((txo h).all (fun p => okT p.1 p.2) && (nuo h).all fun p => putOk p.1 p.2) := by
  unfold mayH
  rw [h2, h3, txtsOk_is, numsOk_is]
  have : h.name.isEmpty = false := by cases hq : h.name <;> simp_all
  simp [this]

theorem index0_s (s : L) (i : Int) (hi : Lib.indexByte s 0 = i) (w : World) : Calls Try.prog 44 #[.string ⟨s.toArray⟩, .int .u8 0] w fun e w' => e = .returned (.int .i64 i) ∧ w' = w := by
  refine (indexByte_l s 0 w).mono ?_
  rintro e w' ⟨rfl, rfl⟩
  rw [show Lib.indexByte s (0 : Int).toNat.toUInt8 = i from hi]
  exact ⟨rfl, rfl⟩

end Go.Proofs.Ytjddgmdbgajjpaa.Head

