/-
  What the library's functions that package head comes to return (strings.IndexByte, strings.Cut at a nought, bytes.Equal), and whether bytes are noughts: no statement is proved here.
  Contracts of package head: what may be: no statement is proved here. The contract of package head's May: no statement is proved here.
-/
import Derived.Test.YtllnnlmhbmladaaGreatDoorProg
import Derived.Test.YtllnnlmhbmladaaGreatDoorHeadPut
import Derived.Test.YtllnnlmhbmladaaGreatDoorBase
import Derived.Lib.Bytealg
import Derived.Lib.Strings
import Derived.Lib.Walk
import Derived.BigQuiet
import Derived.Deep.QuietTactic
namespace Go.Proofs.YtllnnlmhbmladaaGreatDoor.Head
open Go.RowKit Go.Proofs.YtllnnlmhbmladaaGreatDoor.Base Go.Proofs.YtllnnlmhbmladaaGreatDoor.Str

theorem indexByte_upto (l : L) : Lib.indexByte l 0 = if (0 : UInt8) ∈ l then ((upto l).length : Int) else -1 := by
  induction l with
  | nil => rfl
  | cons c l ih =>
    unfold Lib.indexByte
    by_cases hc : c = 0
    · subst hc; simp [upto]
    · have hc' : ¬ 0 = c := fun e => hc e.symm
      have hu : upto (c :: l) = c :: upto l := by simp [upto, hc]
      rw [hu]
      simp only [hc, beq_iff_eq, if_false, ih, List.mem_cons, hc', false_or]
      split
      · simp
      · simp
theorem upto_none {l : L} (h : (0 : UInt8) ∉ l) : upto l = l := by
  unfold upto
  induction l with
  | nil => rfl
  | cons c l ih =>
    have hc : c ≠ 0 := by rintro rfl; simp at h
    have h2 : (0 : UInt8) ∉ l := fun hm => h (by simp [hm])
    simp [hc, ih h2]
theorem upto_take (l : L) : l.take (upto l).length = upto l := by
  unfold upto
  induction l with
  | nil => rfl
  | cons c l ih => by_cases hc : c = 0 <;> simp [hc, ih]
theorem upto_lt {l : L} (h : (0 : UInt8) ∈ l) : (upto l).length < l.length := by
  unfold upto
  induction l with
  | nil => simp at h
  | cons c l ih =>
    by_cases hc : c = 0
    · simp [hc]
    · have : (0 : UInt8) ∈ l := by
        rcases List.mem_cons.1 h with e | e
        · exact absurd e.symm hc
        · exact e
      simp [hc]
      exact ih this

set_option maxRecDepth 100000 in
theorem lIndexByte (s : ByteArray) (c : Int) (w : World) :
    Calls Tryz.prog 130 #[.string s, .int .u8 c] w fun e w' => e = .returned (.int .i64 (Lib.indexByte s.data.toList c.toNat.toUInt8)) ∧ w = w' := by
  go_enter Tryz.func130, Tryz.ntmps130
  go_wp2
  rw [run_callFunc_extern Tryz.func153 (by kernel_rfl) (by kernel_rfl) (by kernel_rfl) (e := Extern.BytealgIndexByte.indexByte) (by kernel_rfl), Lib.run_indexByteString]
  simp only [Result.andThen]
  rw [Oper.upon_value]
  go_wp2
  go_ret
  exact ⟨rfl, rfl⟩

set_option maxRecDepth 100000 in
theorem indexByte_any (s : ByteArray) (c : Int) (w : World) :
    Calls Tryz.prog 105 #[.string s, .int .u8 c] w fun e w' => e = .returned (.int .i64 (Lib.indexByte s.data.toList c.toNat.toUInt8)) ∧ w = w' := by
  go_enter Tryz.func105, Tryz.ntmps105
  go_wp2_with fail
  refine (lIndexByte _ _ _).mono ?_
  rintro e w' ⟨rfl, rfl⟩
  go_wp2_with fail
  go_ret
  exact ⟨rfl, rfl⟩

theorem indexByte_l (s : L) (c : Int) (w : World) :
    Calls Tryz.prog 105 #[.string ⟨s.toArray⟩, .int .u8 c] w fun e w' => e = .returned (.int .i64 (Lib.indexByte s c.toNat.toUInt8)) ∧ w = w' := indexByte_any ⟨s.toArray⟩ c w

set_option maxHeartbeats 2000000 in
set_option maxRecDepth 100000 in
theorem lIndex (s : ByteArray) (w : World) :
    Calls Tryz.prog 145 #[.string s, .string ⟨#[0]⟩] w fun e w' => e = .returned (.int .i64 (Lib.indexByte s.data.toList 0)) ∧ w = w' := by
  go_enter Tryz.func145, Tryz.ntmps145
  go_wp2_with (go_at_call 130; refine (lIndexByte _ _ _).mono ?_; rintro e w' ⟨rfl, rfl⟩)
  · have h : ([0] == s.toList) = true := by assumption
    go_ret
    refine ⟨?_, rfl⟩
    have e : s.data.toList = [0] := by rw [← Lib.toList_data]; exact (beq_iff_eq.1 h).symm
    rw [e]
    simp [Lib.indexByte]
  · go_ret
    exact ⟨rfl, rfl⟩

set_option maxHeartbeats 2000000 in
set_option maxRecDepth 100000 in
theorem lCut (s : L) (w : World) (hs : s.length ≤ 9223372036854775807) :
    Calls Tryz.prog 114 #[.string ⟨s.toArray⟩, .string ⟨#[0]⟩] w fun e w' => ∃ b c, e = .returned (.tuple #[.string ⟨(upto s).toArray⟩, b, c]) ∧ ∃ n, w' = w.drewN n := by
  have hi := indexByte_upto s
  have hsz : (⟨s.toArray⟩ : ByteArray).size = s.length := by simp [ByteArray.size]
  by_cases h0 : (0 : UInt8) ∈ s
  · rw [if_pos h0] at hi
    have hlt := upto_lt h0
    obtain ⟨k, hk⟩ : ∃ k, k = (upto s).length := ⟨_, rfl⟩
    rw [← hk] at hi hlt
    have Ha : Hid ((⟨s.toArray⟩ : ByteArray).extract 0 k = ⟨(upto s).toArray⟩) := Lib.hid (ba_eq (by rw [extract_take, hk]; exact upto_take s))
    have Hi := Lib.hid hi
    obtain ⟨x, hx⟩ : ∃ x : ByteArray, x = ⟨s.toArray⟩ := ⟨_, rfl⟩
    have Hx := Lib.hid hx
    rw [← hx] at Ha hsz ⊢
    have hl2 : k + 1 ≤ x.size := by omega
    have hl3 : x.size ≤ 9223372036854775807 := by omega
    clear hi hk h0 hx hsz hlt hs
    go_enter Tryz.func114, Tryz.ntmps114
    go_wp2_with fail
    refine (lIndex _ _).mono ?_
    rintro e w' ⟨rfl, rfl⟩
    rw [show Lib.indexByte x.data.toList 0 = (k : Int) by rw [Hx.out]; exact Hi.out]
    have c1 : (0 : Int) ≤ ↑k := by omega
    have c2 : (↑k : Int) ≤ ↑x.size := by omega
    have c3 : (0 : Int) ≤ ↑k + 1 := by omega
    have c4 : (↑k + 1 : Int) ≤ ↑x.size := by omega
    go_wp2_with fail
    go_quiet (fail)
    all_goals go_wp2_with fail
    all_goals go_ret3
    all_goals exact ⟨_, _, by rw [← Ha.out]; rfl, _, rfl⟩
  · rw [if_neg h0] at hi
    have hu := upto_none h0
    rw [hu]
    have Hi := Lib.hid hi
    clear hi h0 hu hs hsz
    go_enter Tryz.func114, Tryz.ntmps114
    go_wp2_with fail
    refine (lIndex _ _).mono ?_
    rintro e w' ⟨rfl, rfl⟩
    rw [show Lib.indexByte (⟨s.toArray⟩ : ByteArray).data.toList 0 = -1 from Hi.out]
    go_wp2_with fail
    go_ret3
    exact ⟨_, _, rfl, 0, rfl⟩

set_option maxRecDepth 100000 in
theorem cut_any (s : L) (w : World) (hs : s.length ≤ 9223372036854775807) :
    Calls Tryz.prog 89 #[.string ⟨s.toArray⟩, .string ⟨#[0]⟩] w fun e w' => ∃ b c, e = .returned (.tuple #[.string ⟨(upto s).toArray⟩, b, c]) ∧ ∃ n, w' = w.drewN n := by
  have Hs := Lib.hid hs
  clear hs
  go_enter Tryz.func89, Tryz.ntmps89
  go_wp2_with fail
  refine (lCut s _ Hs.out).mono ?_
  rintro e w' ⟨b, c, rfl, n, rfl⟩
  go_wp2_with fail
  go_ret3
  exact ⟨_, _, rfl, n, rfl⟩

theorem str_rd {w : World} {A : Option Addr} {c : Nat} {l : L} (h : RdA w A c (bs l)) :
    (convert 46 9 (.slice A l.length c)).run Tryz.prog w = .ok (.string ⟨l.toArray⟩) w := by
  have h' := h
  unfold RdA at h'
  rw [bs_length] at h'
  exact run_string_rd (P := Tryz.prog) w 46 9 5 Tryz.underlying46 Tryz.underlying5 Tryz.underlying9 _ _ _ h'

set_option maxRecDepth 100000 in
theorem equal_s (l m : L) (A B : Option Addr) (c d : Nat) (w : World) (ha : RdA w A c (bs l)) (hb : RdA w B d (bs m)) :
    Calls Tryz.prog 37 #[.slice A l.length c, .slice B m.length d] w fun e w' => e = .returned (.bool (l == m)) ∧ Stp w w' := by
  have h0 := Stp.refl w
  have c1 := str_rd ha
  have c2 := str_rd hb
  go_enter Tryz.func37, Tryz.ntmps37
  go_wp2_with fail
  go_ret
  exact ⟨rfl, h0⟩

/-- Noughts alone? -/
def zeroV (b : L) : Bool := b.all fun x => decide (x = 0)
theorem zeroV_iff {b : L} : zeroV b = true ↔ b = zeros b.length := by
  unfold zeroV zeros
  rw [List.eq_replicate_iff]
  simp
theorem zeroV_step {l : L} {k : Nat} {x : UInt8} (hl : l[k]? = some x) (h : zeroV (l.take k) = true) : zeroV (l.take (k + 1)) = decide (x = 0) := by
  unfold zeroV at h ⊢
  rw [List.take_add_one, hl, List.all_append, h]
  simp
theorem zeroV_no {l : L} {k : Nat} {x : UInt8} (hl : l[k]? = some x) (h : x ≠ 0) : zeroV l = false := by
  rw [Bool.eq_false_iff]
  intro hm
  simp only [zeroV, List.all_eq_true, decide_eq_true_eq] at hm
  exact h (hm x (List.mem_of_getElem? hl))


set_option maxRecDepth 100000 in
theorem zero_s (l : L) (A : Option Addr) (c : Nat) (w : World) (ha : RdA w A c (bs l)) (hl : l.length < 9223372036854775808) :
    Calls Tryz.prog 54 #[.slice A l.length c] w fun e w' => e = .returned (.bool (zeroV l)) ∧ Stp w w' := by
  obtain ⟨r, hr⟩ : ∃ r, zeroV l = r := ⟨_, rfl⟩
  rw [hr]
  have Hr := Lib.hid hr
  clear hr
  go_enter Tryz.func54, Tryz.ntmps54
  go_wp2_with fail
  go_loopw [7] (fun i wr => ∃ k : Nat, k ≤ l.length ∧ i = .int .i64 k ∧ Stp w wr ∧ Hid (zeroV (l.take k) = true)) (fun i _ => l.length - (intOf i).toNat)
  case atStart => exact ⟨0, by omega, rfl, Stp.refl w, Lib.hid (by simp [zeroV])⟩
  case round =>
    obtain ⟨k, hk, rfl, h0, Hk⟩ := hrel
    by_cases hlt : k < l.length
    · obtain ⟨x, hl1⟩ : ∃ x, l[k]? = some x := ⟨_, List.getElem?_eq_getElem hlt⟩
      obtain ⟨b, o, rfl, hcell⟩ := (ha.keep h0).at_ (j := k) (by rw [bs_length]; exact hlt)
      have ca := hcell k (.int .u8 (x.toNat : Int)) (by rw [bs_at hlt, ← (List.getElem?_eq_some_iff.1 hl1).2])
      have Hs := Lib.hid (zeroV_step hl1 Hk.out)
      have Hl1 := Lib.hid hl1
      clear hl1 hcell
      by_cases h5 : x = 0
      · have g : ((x.toNat : Int) != 0) = false := by simp [h5]
        have H5 := Lib.hid h5
        clear h5
        go_wp2_with fail
        go_roundw
        case rel => exact ⟨k + 1, by omega, by go_num, h0, Lib.hid (by rw [Hs.out]; exact decide_eq_true H5.out)⟩
        case measure => simp [intOf]; omega
      · have g : ((x.toNat : Int) != 0) = true := by
          rw [bne_iff_ne]
          intro h
          exact h5 (UInt8.toNat_inj.1 (by show x.toNat = 0; omega))
        have H5 := Lib.hid h5
        clear h5
        go_wp2_with fail
        go_ret
        refine ⟨?_, h0⟩
        rw [← Hr.out, zeroV_no Hl1.out H5.out]
        rfl
    · obtain rfl : k = l.length := by omega
      go_wp2_with fail
      go_ret
      refine ⟨?_, h0⟩
      have h := Hk.out
      rw [List.take_length] at h
      rw [← Hr.out, h]
      rfl

end Go.Proofs.YtllnnlmhbmladaaGreatDoor.Head

namespace Go.Proofs.YtllnnlmhbmladaaGreatDoor.Head
open Go.RowKit Go.Proofs.YtllnnlmhbmladaaGreatDoor.Base Go.Proofs.YtllnnlmhbmladaaGreatDoor.NumM Go.Proofs.YtllnnlmhbmladaaGreatDoor.Num

/-- A header's cells, and it as a value. -/
abbrev hcells (h : Hd) : Array Value := #[.string ⟨h.name.toArray⟩, .string ⟨h.pre.toArray⟩, .string ⟨h.link.toArray⟩, .int .i64 h.mode, .int .i64 h.uid, .int .i64 h.gid, .int .i64 h.size, .int .i64 h.time, .int .u8 (h.ty.toNat : Int), .int .i64 h.off, .int .i64 h.real]
abbrev hv (h : Hd) : Value := .agg (hcells h)

theorem ty_eq (c : UInt8) (n : Nat) (hn : n < 256) : ((c.toNat : Int) == (n : Int)) = decide (c = UInt8.ofNat n) := by
  rw [Bool.eq_iff_iff, beq_iff_eq, decide_eq_true_eq]
  constructor
  · intro h
    apply UInt8.toNat_inj.1
    rw [by_toNat hn]
    omega
  · rintro rfl
    rw [by_toNat hn]
theorem typs_is (c : UInt8) : typs.contains c = ((c.toNat : Int) == 48 || (c.toNat : Int) == 49 || (c.toNat : Int) == 50 || (c.toNat : Int) == 53 || (c.toNat : Int) == 75 || (c.toNat : Int) == 76 || (c.toNat : Int) == 77 || (c.toNat : Int) == 86) := by
  have e := ty_eq c
  rw [show (48 : Int) = ((48 : Nat) : Int) from rfl, show (49 : Int) = ((49 : Nat) : Int) from rfl, show (50 : Int) = ((50 : Nat) : Int) from rfl, show (53 : Int) = ((53 : Nat) : Int) from rfl, show (75 : Int) = ((75 : Nat) : Int) from rfl, show (76 : Int) = ((76 : Nat) : Int) from rfl, show (77 : Int) = ((77 : Nat) : Int) from rfl, show (86 : Int) = ((86 : Nat) : Int) from rfl]
  rw [e 48 (by omega), e 49 (by omega), e 50 (by omega), e 53 (by omega), e 75 (by omega), e 76 (by omega), e 77 (by omega), e 86 (by omega)]
  simp [typs, Bool.or_assoc]

set_option maxRecDepth 100000 in
set_option maxHeartbeats 1000000 in
theorem isType_s (c : UInt8) (w : World) : Calls Tryz.prog 118 #[.int .u8 (c.toNat : Int)] w fun e w' => e = .returned (.bool (typs.contains c)) ∧ w = w' := by
  rw [typs_is]
  generalize (c.toNat : Int) = x
  go_enter Tryz.func118, Tryz.ntmps118
  go_wp2_with fail
  all_goals go_ret
  all_goals refine ⟨?_, rfl⟩
  all_goals simp [*]

theorem is77 (c : UInt8) : ((c.toNat : Int) == 77) = decide (c = 77) := ty_eq c 77 (by omega)
theorem elseZ_m (h : Hd) (hm : ((h.ty.toNat : Int) == 77) = true) : elseZ h = h.pre.isEmpty := by
  rw [is77, decide_eq_true_eq] at hm
  unfold elseZ
  rw [if_pos hm]
theorem elseZ_n (h : Hd) (hm : ((h.ty.toNat : Int) == 77) = false) : elseZ h = (decide (h.off = 0) && decide (h.real = 0)) := by
  rw [is77, decide_eq_false_iff_not] at hm
  unfold elseZ
  rw [if_neg hm]

set_option maxRecDepth 100000 in
theorem elseZ_s (h : Hd) (w : World) : Calls Tryz.prog 119 #[hv h] w fun e w' => e = .returned (.bool (elseZ h)) ∧ Stp w w' := by
  have h0 := Stp.refl w
  go_enter Tryz.func119, Tryz.ntmps119
  go_wp2_with fail
  all_goals go_ret
  all_goals refine ⟨congrArg (fun b => Ending.returned (.bool b)) ?_, Stp.alloc h0 _⟩
  · rw [elseZ_m h (by assumption)]
  · rw [elseZ_n h (by assumption)]; simp [*]; rfl
  · rw [elseZ_n h (by assumption)]; simp [*]

/-! ### the rows of the two lists -/
def txR (h : Hd) : List (Int × Int × Nat) := if h.ty = 77 then txM else txN
def nuR (h : Hd) : List (Int × Int × Nat) := if h.ty = 77 then nuM else nuN
def txo (h : Hd) : List (L × Nat) := if h.ty = 77 then [(h.name, 100), (h.link, 100)] else [(h.name, 100), (h.link, 100), (h.pre, 155)]
def nuo (h : Hd) : List (Int × Nat) := [(h.mode, 8), (h.uid, 8), (h.gid, 8), (h.size, 12), (h.time, 12)] ++ if h.ty = 77 then [(h.off, 12), (h.real, 12)] else []
theorem txtsOk_is (h : Hd) : txtsOk h = (txo h).all fun p => okT p.1 p.2 := by
  unfold txtsOk txo
  by_cases hm : h.ty = 77 <;> simp [hm]
  ac_rfl
theorem numsOk_is (h : Hd) : numsOk h = (nuo h).all fun p => putOk p.1 p.2 := by
  unfold numsOk nuo
  by_cases hm : h.ty = 77 <;> simp [hm, Bool.and_assoc]
theorem txR_length (h : Hd) : (txR h).length = (txo h).length := by unfold txR txo; split <;> rfl
theorem nuR_length (h : Hd) : (nuR h).length = (nuo h).length := by unfold nuR nuo; split <;> rfl
theorem txts_length (h : Hd) : (txR h).length = (txts h).length := by unfold txR txts; split <;> rfl
theorem numsL_length (h : Hd) : (nuR h).length = (numsL h).length := by unfold nuR numsL; split <;> rfl
/-- One row of the texts: where it lies, its room, and its cell. -/
theorem txR_at (h : Hd) (k : Nat) (hk : k < (txR h).length) : ∃ (at_ : Nat) (most : Nat) (f : Nat) (s : L), (txR h)[k]? = some ((at_ : Int), (most : Int), f) ∧ (txo h)[k]? = some (s, most) ∧ (txts h)[k]? = some (at_, s) ∧ (hcells h)[f]? = some (.string ⟨s.toArray⟩) ∧ at_ + most ≤ 512 ∧ at_ < 512 := by
  unfold txR at hk ⊢
  unfold txo txts
  by_cases hm : h.ty = 77
  · simp only [hm, if_true] at hk ⊢
    match k, hk with
    | 0, _ => exact ⟨0, 100, 0, _, rfl, rfl, rfl, rfl, by omega, by omega⟩
    | 1, _ => exact ⟨157, 100, 2, _, rfl, rfl, rfl, rfl, by omega, by omega⟩
    | k + 2, hk => simp [txM] at hk; omega
  · simp only [hm, if_false] at hk ⊢
    match k, hk with
    | 0, _ => exact ⟨0, 100, 0, _, rfl, rfl, rfl, rfl, by omega, by omega⟩
    | 1, _ => exact ⟨157, 100, 2, _, rfl, rfl, rfl, rfl, by omega, by omega⟩
    | 2, _ => exact ⟨345, 155, 1, _, rfl, rfl, rfl, rfl, by omega, by omega⟩
    | k + 3, hk => simp [txN] at hk; omega
structure SmallH (h : Hd) : Prop where
  name : h.name.length ≤ 9223372036854775807
  pre : h.pre.length ≤ 9223372036854775807
  link : h.link.length ≤ 9223372036854775807
  mode : h.mode < 9223372036854775808
  uid : h.uid < 9223372036854775808
  gid : h.gid < 9223372036854775808
  size : h.size < 9223372036854775808
  time : h.time < 9223372036854775808
  off : h.off < 9223372036854775808
  real : h.real < 9223372036854775808
theorem nuR_at (h : Hd) (hs : SmallH h) (k : Nat) (hk : k < (nuR h).length) : ∃ (at_ : Nat) (wd : Nat) (f : Nat) (x : Int), (nuR h)[k]? = some ((at_ : Int), (wd : Int), f) ∧ (nuo h)[k]? = some (x, wd) ∧ (numsL h)[k]? = some (at_, putV x wd) ∧ (hcells h)[f]? = some (.int .i64 x) ∧ at_ + wd ≤ 512 ∧ at_ < 512 ∧ x < 9223372036854775808 := by
  unfold nuR at hk ⊢
  unfold nuo numsL
  have key : ∀ k, k < 5 → ∃ (at_ : Nat) (wd : Nat) (f : Nat) (x : Int), nuN[k]? = some ((at_ : Int), (wd : Int), f) ∧ nuM[k]? = some ((at_ : Int), (wd : Int), f) ∧ [(h.mode, 8), (h.uid, 8), (h.gid, 8), (h.size, 12), (h.time, 12)][k]? = some (x, wd) ∧
      [(100, putV h.mode 8), (108, putV h.uid 8), (116, putV h.gid 8), (124, putV h.size 12), (136, putV h.time 12)][k]? = some (at_, putV x wd) ∧ (hcells h)[f]? = some (.int .i64 x) ∧ at_ + wd ≤ 512 ∧ at_ < 512 ∧ x < 9223372036854775808 := by
    intro k hk
    match k, hk with
    | 0, _ => exact ⟨100, 8, 3, _, rfl, rfl, rfl, rfl, rfl, by omega, by omega, hs.mode⟩
    | 1, _ => exact ⟨108, 8, 4, _, rfl, rfl, rfl, rfl, rfl, by omega, by omega, hs.uid⟩
    | 2, _ => exact ⟨116, 8, 5, _, rfl, rfl, rfl, rfl, rfl, by omega, by omega, hs.gid⟩
    | 3, _ => exact ⟨124, 12, 6, _, rfl, rfl, rfl, rfl, rfl, by omega, by omega, hs.size⟩
    | 4, _ => exact ⟨136, 12, 7, _, rfl, rfl, rfl, rfl, rfl, by omega, by omega, hs.time⟩
    | k + 5, hk => omega
  by_cases hm : h.ty = 77
  · simp only [hm, if_true] at hk ⊢
    by_cases h5 : k < 5
    · obtain ⟨a, wd, f, x, e1, e2, e3, e4, e5⟩ := key k h5
      exact ⟨a, wd, f, x, e2, by rw [List.getElem?_append_left (by simpa using h5)]; exact e3, by rw [List.getElem?_append_left (by simpa using h5)]; exact e4, e5⟩
    · match k, hk, h5 with
      | 5, _, _ => exact ⟨369, 12, 9, _, rfl, rfl, rfl, rfl, by omega, by omega, hs.off⟩
      | 6, _, _ => exact ⟨483, 12, 10, _, rfl, rfl, rfl, rfl, by omega, by omega, hs.real⟩
      | k + 7, hk, _ => simp [nuM] at hk; omega
      | 0, _, h5 | 1, _, h5 | 2, _, h5 | 3, _, h5 | 4, _, h5 => omega
  · simp only [hm, if_false, List.append_nil] at hk ⊢
    obtain ⟨a, wd, f, x, e1, e2, e3, e4, e5⟩ := key k (by simpa [nuN] using hk)
    exact ⟨a, wd, f, x, e1, e3, e4, e5⟩

theorem texts_any (h : Hd) (hb : Nat) (w : World) (hd : Blk w hb 77 (hcells h)) :
    Calls Tryz.prog 88 #[.pointer (some ⟨hb, 0, none⟩)] w fun e w' => ∃ g cap, e = .returned (.slice (some ⟨g, 0, none⟩) (txR h).length cap) ∧ w.heap.size ≤ g ∧ RdC w' g (rowsC hb (txR h)) ∧ Stp w w' := by
  have h8 : w.cell? ⟨hb, 8, none⟩ = some (.int .u8 (h.ty.toNat : Int)) := by rw [hd.cell]; rfl
  unfold txR
  by_cases hm : h.ty = 77
  · rw [if_pos hm]
    rw [hm] at h8
    exact texts_m hb w h8
  · rw [if_neg hm]
    exact texts_n hb w h.ty hm h8
theorem numbers_any (h : Hd) (hb : Nat) (w : World) (hd : Blk w hb 77 (hcells h)) :
    Calls Tryz.prog 90 #[.pointer (some ⟨hb, 0, none⟩)] w fun e w' => ∃ g cap, e = .returned (.slice (some ⟨g, 0, none⟩) (nuR h).length cap) ∧ w.heap.size ≤ g ∧ RdC w' g (rowsC hb (nuR h)) ∧ Stp w w' := by
  have h8 : w.cell? ⟨hb, 8, none⟩ = some (.int .u8 (h.ty.toNat : Int)) := by rw [hd.cell]; rfl
  unfold nuR
  by_cases hm : h.ty = 77
  · rw [if_pos hm]
    rw [hm] at h8
    exact numbers_m hb w h8
  · rw [if_neg hm]
    exact numbers_n hb w h.ty hm h8
end Go.Proofs.YtllnnlmhbmladaaGreatDoor.Head

namespace Go.Proofs.YtllnnlmhbmladaaGreatDoor.Head
open Go.RowKit Go.Proofs.YtllnnlmhbmladaaGreatDoor.Base Go.Proofs.YtllnnlmhbmladaaGreatDoor.NumM Go.Proofs.YtllnnlmhbmladaaGreatDoor.Num

theorem okT_false {s : L} {m : Nat} (h : m < s.length) : okT s m = false := by unfold okT; simp; omega
theorem okT_mem {s : L} {m : Nat} (h : (0 : UInt8) ∈ s) : okT s m = false := by unfold okT; simp [h]
theorem okT_true {s : L} {m : Nat} (h : ¬ m < s.length) (h0 : (0 : UInt8) ∉ s) : okT s m = true := by unfold okT; simp [h0]; omega
theorem all_step {α : Type} {l : List α} {k : Nat} {x : α} {f : α → Bool} (hx : l[k]? = some x) (h : (l.take k).all f = true) (hf : f x = true) : (l.take (k + 1)).all f = true := by
  rw [List.take_add_one, hx, List.all_append, h]
  simp [hf]
theorem all_no {α : Type} {l : List α} {k : Nat} {x : α} {f : α → Bool} (hx : l[k]? = some x) (hf : f x = false) : l.all f = false := by
  rw [Bool.eq_false_iff]
  intro h
  rw [List.all_eq_true] at h
  rw [h x (List.mem_of_getElem? hx)] at hf
  cases hf
theorem may_early {h : Hd} (hn : h.name = [] ∨ typs.contains h.ty = false ∨ elseZ h = false) : mayH h = false := by
  unfold mayH
  rcases hn with e | e | e
  · simp [e]
  · rw [e]; simp
  · rw [e]; simp
theorem may_late {h : Hd} (h1 : h.name ≠ []) (h2 : typs.contains h.ty = true) (h3 : elseZ h = true) : mayH h = ((txo h).all (fun p => okT p.1 p.2) && (nuo h).all fun p => putOk p.1 p.2) := by
  unfold mayH
  rw [h2, h3, txtsOk_is, numsOk_is]
  have : h.name.isEmpty = false := by cases hq : h.name <;> simp_all
  simp [this]

theorem index0_s (s : L) (i : Int) (hi : Lib.indexByte s 0 = i) (w : World) : Calls Tryz.prog 105 #[.string ⟨s.toArray⟩, .int .u8 0] w fun e w' => e = .returned (.int .i64 i) ∧ w' = w := by
  refine (indexByte_l s 0 w).mono ?_
  rintro e w' ⟨rfl, rfl⟩
  rw [show Lib.indexByte s (0 : Int).toNat.toUInt8 = i from hi]
  exact ⟨rfl, rfl⟩

set_option maxHeartbeats 4000000 in
set_option maxRecDepth 100000 in
theorem may_any (h : Hd) (hs : SmallH h) (w : World) :
    Calls Tryz.prog 92 #[hv h] w fun e w' => e = .returned (.bool (mayH h)) ∧ Stp w w' := by
  have h0 := Stp.refl w
  obtain ⟨ht, hht⟩ : ∃ b, typs.contains h.ty = b := ⟨_, rfl⟩
  obtain ⟨hz, hhz⟩ : ∃ b, elseZ h = b := ⟨_, rfl⟩
  by_cases hearly : h.name = [] ∨ ht = false ∨ hz = false
  · rw [may_early (by rw [hht, hhz]; exact hearly)]
    have Ht := Lib.hid hht
    have Hz := Lib.hid hhz
    have key : (h.name == []) = true ∨ ((h.name == []) = false ∧ ht = false) ∨ ((h.name == []) = false ∧ ht = true ∧ hz = false) := by
      cases hq : h.name <;> cases ht <;> cases hz <;> simp_all
    clear hearly hht hhz hs
    rcases key with k1 | ⟨k1, rfl⟩ | ⟨k1, rfl, rfl⟩
    all_goals go_enter Tryz.func92, Tryz.ntmps92
    all_goals go_wp2_with (first
      | (go_at_call 118; refine (isType_s _ _).mono ?_; rintro e w' ⟨rfl, rfl⟩; rw [Ht.out])
      | (go_at_call 119; refine (elseZ_s h _).mono ?_; rintro e w' ⟨rfl, hs'⟩; have H9 := Lib.hid hs'; clear hs'; rw [Hz.out]))
    · go_ret; exact ⟨rfl, Stp.alloc h0 _⟩
    · go_ret; exact ⟨rfl, Stp.alloc h0 _⟩
    · go_ret; exact ⟨rfl, Stp.trans (Stp.alloc h0 _) H9.out⟩
  · have k1 : (h.name == []) = false := by cases hq : h.name <;> simp_all
    obtain rfl : ht = true := by cases ht <;> simp_all
    obtain rfl : hz = true := by cases hz <;> simp_all
    have Hl := Lib.hid (may_late (fun e => hearly (.inl e)) hht hhz)
    obtain ⟨r, hr⟩ : ∃ r, mayH h = r := ⟨_, rfl⟩
    rw [hr] at Hl ⊢
    have Ht := Lib.hid hht
    have Hz := Lib.hid hhz
    have Hs := Lib.hid hs
    obtain ⟨n, hn⟩ : ∃ n, (txR h).length = n := ⟨_, rfl⟩
    have hn9 : n ≤ 9 := by rw [← hn]; unfold txR txM txN; split <;> simp
    have Hn := Lib.hid hn
    obtain ⟨m, hm⟩ : ∃ m, (nuR h).length = m := ⟨_, rfl⟩
    have hm9 : m ≤ 9 := by rw [← hm]; unfold nuR nuM nuN; split <;> simp
    have Hm := Lib.hid hm
    have Hb0 := Lib.hid (Blk.new w 77 (hcells h))
    obtain ⟨hb, hhb⟩ : ∃ b, w.heap.size = b := ⟨_, rfl⟩
    clear hearly hht hhz hs hr hn hm
    go_enter Tryz.func92, Tryz.ntmps92
    go_wp2_with (first
      | (go_at_call 118; refine (isType_s _ _).mono ?_; rintro e w' ⟨rfl, rfl⟩; rw [Ht.out])
      | (go_at_call 119; refine (elseZ_s h _).mono ?_; rintro e w1 ⟨rfl, hs'⟩; have Hb1 := Lib.hid (Hb0.out.keep hs' Hb0.out.lt); have H1 := Lib.hid (Stp.trans (Stp.alloc h0 (.cells (hcells h) 77)) hs'); clear hs' Hb0; rw [Hz.out])
      | (go_at_call 88; rw [hhb] at Hb1; refine (texts_any h hb _ Hb1.out).mono ?_; rintro e w2 ⟨g, cap, rfl, hg, hr2, hs'⟩; rw [Hn.out]; have Hb2 := Lib.hid (Hb1.out.keep hs' Hb1.out.lt); have H2 := Lib.hid (Stp.trans H1.out hs'); have Hr2 := Lib.hid hr2; clear hs' hr2 hg Hb1 H1))
    have hhs : hb < w2.heap.size := Hb2.out.lt
    go_loopw [25] (fun i wr => ∃ k : Nat, k ≤ n ∧ i = .int .i64 (k : Int) ∧ Hid (Blk wr hb 77 (hcells h)) ∧ Hid (RdC wr g (rowsC hb (txR h))) ∧ Hid (Stp w wr) ∧ Hid (((txo h).take k).all (fun p => okT p.1 p.2) = true)) (fun i _ => n - (intOf i).toNat)
    case atStart => exact ⟨0, by omega, rfl, Hb2, Hr2, H2, Lib.hid (by simp)⟩
    case round =>
      obtain ⟨k, hk, rfl, Ha, Hr, Hw, Hk⟩ := hrel
      clear Hb2 Hr2 H2 hhs
      by_cases hlt : k < n
      · obtain ⟨q, mo, f, s, e1, e2, e3, e4, e5, e6⟩ := txR_at h k (by rw [Hn.out]; exact hlt)
        obtain ⟨q1, q2, q3⟩ := rowsC_at hb _ k _ e1
        have c1 := Hr.out.2 _ _ q1
        have c2 := Hr.out.2 _ _ q2
        have c3 := Hr.out.2 _ _ q3
        have c4 : wr.cell? ⟨hb, f, none⟩ = some (.string ⟨s.toArray⟩) := by rw [Ha.out.cell]; exact e4
        have hlw := Hr.out.1
        have hhs := Ha.out.lt
        have E2 := Lib.hid e2
        clear q1 q2 q3 e1 e2 e3 e4 e5 e6
        simp only at c1 c2 c3
        have key : decide (mo < s.length) = true ∨ (decide (mo < s.length) = false ∧ (0 : UInt8) ∈ s) ∨ (decide (mo < s.length) = false ∧ (0 : UInt8) ∉ s) := by
          by_cases h1 : mo < s.length
          · exact .inl (by simpa using h1)
          · by_cases h2 : (0 : UInt8) ∈ s
            · exact .inr (.inl ⟨by simpa using h1, h2⟩)
            · exact .inr (.inr ⟨by simpa using h1, h2⟩)
        go_wp2_with fail
        generalize hwq : wr.alloc _ = wq
        have d1 : wq.cell? ⟨wr.heap.size, 1, none⟩ = some (.int .i64 (mo : Int)) := by rw [← hwq, World.cell?_alloc_new]; rfl
        have d2 : wq.cell? ⟨wr.heap.size, 2, none⟩ = some (.pointer (some ⟨hb, f, none⟩)) := by rw [← hwq, World.cell?_alloc_new]; rfl
        have d4 : wq.cell? ⟨hb, f, none⟩ = some (.string ⟨s.toArray⟩) := by rw [← hwq, World.cell?_alloc_old]; exact c4; exact Nat.ne_of_lt hhs
        have Ha2 := Lib.hid (show Blk wq hb 77 (hcells h) by rw [← hwq]; exact Ha.out.alloc _)
        have Hr2 := Lib.hid (show RdC wq g (rowsC hb (txR h)) by rw [← hwq]; exact Hr.out.grown (World.grownBy_alloc wr _ none) (by simp))
        have Hw2 := Lib.hid (show Stp w wq by rw [← hwq]; exact Stp.alloc Hw.out _)
        clear hwq c1 c2 c3 c4 Ha Hr Hw
        rcases key with g1 | ⟨g1, g2⟩ | ⟨g1, g2⟩
        · go_quiet (fail)
          go_wp2_with fail
          go_ret
          refine ⟨?_, Stp.drewN Hw2.out _⟩
          rw [Hl.out, all_no E2.out (okT_false (by simpa using g1))]
          rfl
        · have Hi := Lib.hid (show Lib.indexByte s 0 = ((upto s).length : Int) by rw [indexByte_upto, if_pos g2])
          have G2 := Lib.hid g2
          clear g2
          generalize (upto s).length = u at Hi
          go_quiet ((go_at_call 105; exact Calls.quiet_of_same (index0_s s _ Hi.out _)))
          go_wp2_with fail
          go_ret
          refine ⟨?_, Stp.drewN Hw2.out _⟩
          rw [Hl.out, all_no E2.out (okT_mem G2.out)]
          rfl
        · have Hi := Lib.hid (show Lib.indexByte s 0 = -1 by rw [indexByte_upto, if_neg g2])
          have G2 := Lib.hid g2
          clear g2
          go_quiet ((go_at_call 105; exact Calls.quiet_of_same (index0_s s _ Hi.out _)))
          go_wp2_with fail
          exact ⟨⟨k + 1, by omega, by go_num, Lib.hid Ha2.out, Lib.hid Hr2.out, Lib.hid (Stp.drewN Hw2.out _), Lib.hid (all_step E2.out Hk.out (okT_true (by simpa using g1) G2.out))⟩, by simp [intOf]; omega⟩
      · have hkn : k = n := by omega
        subst hkn
        have hk2 := Hk.out
        rw [List.take_of_length_le (by rw [← txR_length, Hn.out]; exact Nat.le_refl _)] at hk2
        have Hk2 := Lib.hid hk2
        clear hk2 Hk hlt
        go_wp2_with (first
          | (go_at_call 90; refine (numbers_any h hb _ Ha.out).mono ?_; rintro e w3 ⟨g3, cap3, rfl, hg, hr3, hs'⟩; rw [Hm.out]; have Hb3 := Lib.hid (Ha.out.keep hs' Ha.out.lt); have H3 := Lib.hid (Stp.trans Hw.out hs'); have Hr3 := Lib.hid hr3; clear hs' hr3 hg Ha Hw Hr))
        go_loopw [48] (fun i wr => ∃ k : Nat, k ≤ m ∧ i = .int .i64 (k : Int) ∧ Hid (Blk wr hb 77 (hcells h)) ∧ Hid (RdC wr g3 (rowsC hb (nuR h))) ∧ Hid (Stp w wr) ∧ Hid (((nuo h).take k).all (fun p => putOk p.1 p.2) = true)) (fun i _ => m - (intOf i).toNat)
        case atStart => exact ⟨0, by omega, rfl, Hb3, Hr3, H3, Lib.hid (by simp)⟩
        case round =>
          obtain ⟨j, hj, rfl, Ha, Hr, Hw, Hk⟩ := hrel
          clear Hb3 Hr3 H3
          by_cases hlt : j < m
          · obtain ⟨q, wd, f, x, e1, e2, e3, e4, e5, e6, e7⟩ := nuR_at h Hs.out j (by rw [Hm.out]; exact hlt)
            obtain ⟨q1, q2, q3⟩ := rowsC_at hb _ j _ e1
            have c1 := Hr.out.2 _ _ q1
            have c2 := Hr.out.2 _ _ q2
            have c3 := Hr.out.2 _ _ q3
            have c4 : wr.cell? ⟨hb, f, none⟩ = some (.int .i64 x) := by rw [Ha.out.cell]; exact e4
            have hlw := Hr.out.1
            have hhs := Ha.out.lt
            have E2 := Lib.hid e2
            have E7 := Lib.hid e7
            clear q1 q2 q3 e1 e2 e3 e4 e5 e6 e7
            simp only at c1 c2 c3
            obtain ⟨ok, hok⟩ : ∃ b, putOk x (wd : Int) = b := ⟨_, rfl⟩
            have Hok := Lib.hid hok
            clear hok
            go_wp2_with fail
            generalize hwq : wr.alloc _ = wq
            have d1 : wq.cell? ⟨wr.heap.size, 1, none⟩ = some (.int .i64 (wd : Int)) := by rw [← hwq, World.cell?_alloc_new]; rfl
            have d2 : wq.cell? ⟨wr.heap.size, 2, none⟩ = some (.pointer (some ⟨hb, f, none⟩)) := by rw [← hwq, World.cell?_alloc_new]; rfl
            have d4 : wq.cell? ⟨hb, f, none⟩ = some (.int .i64 x) := by rw [← hwq, World.cell?_alloc_old]; exact c4; exact Nat.ne_of_lt hhs
            have Ha2 := Lib.hid (show Blk wq hb 77 (hcells h) by rw [← hwq]; exact Ha.out.alloc _)
            have Hr2 := Lib.hid (show RdC wq g3 (rowsC hb (nuR h)) by rw [← hwq]; exact Hr.out.grown (World.grownBy_alloc wr _ none) (by simp))
            have Hw2 := Lib.hid (show Stp w wq by rw [← hwq]; exact Stp.alloc Hw.out _)
            clear hwq c1 c2 c3 c4 Ha Hr Hw
            cases ok
            all_goals go_region_with (go_at_call 117; refine (put_all x (wd : Int) _ E7.out).mono ?_; rintro e w4 ⟨v, rfl, h3, h4⟩; rw [Hok.out]; have Ha4 := Lib.hid (Ha2.out.drew.keep h4 Ha2.out.lt); have Hr4 := Lib.hid (RdC.keep (RdC.drew Hr2.out) h4); have Hw4 := Lib.hid (Stp.trans (stp_drew Hw2.out) h4); clear h3 h4 d1 d2 d4)
            all_goals go_wp2_with fail
            all_goals first
              | (go_ret; refine ⟨?_, Hw4.out⟩; rw [Hl.out, Hk2.out, all_no E2.out Hok.out]; rfl)
              | exact ⟨⟨j + 1, by omega, by go_num, Ha4, Hr4, Hw4, Lib.hid (all_step E2.out Hk.out Hok.out)⟩, by simp [intOf]; omega⟩
          · have hkn : j = m := by omega
            subst hkn
            go_wp2_with fail
            go_ret
            refine ⟨?_, Hw.out⟩
            have hj2 := Hk.out
            rw [List.take_of_length_le (by rw [← nuR_length, Hm.out]; exact Nat.le_refl _)] at hj2
            rw [Hl.out, Hk2.out, hj2]
            rfl
end Go.Proofs.YtllnnlmhbmladaaGreatDoor.Head

