/-
  Headers of what goes on in another volume: plain functions over nodes and blocks, and what follows of them: no Go, and no statement, is proved here.
-/
import Derived.Test.YtopihahjjcpnpaaGreatDoorEntryM
namespace Go.Proofs.YtopihahjjcpnpaaGreatDoor.ContM
open Go.Proofs.YtopihahjjcpnpaaGreatDoor.Base Go.Proofs.YtopihahjjcpnpaaGreatDoor.Node Go.Proofs.YtopihahjjcpnpaaGreatDoor.Head Go.Proofs.YtopihahjjcpnpaaGreatDoor.Long Go.Proofs.YtopihahjjcpnpaaGreatDoor.Tree Go.Proofs.YtopihahjjcpnpaaGreatDoor.Entry
set_option linter.unusedVariables false

abbrev L := List UInt8
def isFile (n : Nd) : Bool := oneB n && decide (n.kind = 48)
def mayC (n : Nd) (off : Int) : Bool := isFile n && (decide (0 ≤ off) && (decide (off < (n.data.length : Int)) && decide (off % 512 = 0)))
def manyC (n : Nd) : Int := if isFile n = true then (if 100 < n.path.length then 3 else 1) else 0
def headC (n : Nd) (off : Int) : Hd := ⟨n.path.take 100, [], [], n.mode, n.uid, n.gid, (n.data.length : Int) - off, n.time, 77, off, (n.data.length : Int)⟩
/-- What stands ahead of the header. -/
def aheadC (p : L) : List L := if 100 < p.length then [blk (llH 76 p), BlockM.blk (p ++ [0])] else []
def putC (n : Nd) (off : Int) : List L := if mayC n off = true then aheadC n.path ++ [blk (headC n off)] else []
/-- A file without its bytes. -/
def bare (n : Nd) : Nd := { n with data := [] }
abbrev Five := Nd × Int × Int × Int × Bool
def none5 : Five := (zeroN, 0, 0, 0, false)
def withN (n : Nd) (k : Nat) : Nd := { n with data := List.replicate k 0 }
def nodeC (h : Hd) (p : L) : Nd := ⟨p, [], 48, h.mode, h.uid, h.gid, h.time, []⟩
def nameC (h : Hd) (p : L) : L := if p = [] then h.name else p
/-- One try: are the first k blocks those of a header at their end, with a name? -/
def tryC (l : List L) (k : Nat) (p : L) : Five :=
  if codeB (l.getD (k - 1) []) ≠ 0 ∨ (getH (l.getD (k - 1) [])).ty ≠ 77 ∨ 4000 < (getH (l.getD (k - 1) [])).real then none5
  else if mayC (withN (nodeC (getH (l.getD (k - 1) [])) (nameC (getH (l.getD (k - 1) [])) p)) (getH (l.getD (k - 1) [])).real.toNat) (getH (l.getD (k - 1) [])).off = true ∧
      putC (withN (nodeC (getH (l.getD (k - 1) [])) (nameC (getH (l.getD (k - 1) [])) p)) (getH (l.getD (k - 1) [])).real.toNat) (getH (l.getD (k - 1) [])).off = l.take k
  then (nodeC (getH (l.getD (k - 1) [])) (nameC (getH (l.getD (k - 1) [])) p), (getH (l.getD (k - 1) [])).off, (getH (l.getD (k - 1) [])).real, (k : Int), true)
  else none5
def getC (l : List L) : Five :=
  if l = [] then none5
  else if (tryC l 1 []).2.2.2.2 = true ∨ l.length < 3 ∨ (l.getD 1 []).length ≠ 512 then tryC l 1 []
  else tryC l 3 (upto (l.getD 1 []))

theorem isFile_iff {n : Nd} : isFile n = true ↔ oneB n = true ∧ n.kind = 48 := by simp [isFile]
theorem mayC_iff {n : Nd} {off : Int} : mayC n off = true ↔ isFile n = true ∧ 0 ≤ off ∧ off < (n.data.length : Int) ∧ off % 512 = 0 := by simp [mayC]
theorem putC_yes {n : Nd} {off : Int} (h : mayC n off = true) : putC n off = aheadC n.path ++ [blk (headC n off)] := by rw [putC, if_pos h]
theorem putC_no {n : Nd} {off : Int} (h : mayC n off = false) : putC n off = [] := by rw [putC, if_neg (by simp [h])]
theorem aheadC_length (p : L) : (aheadC p).length = if 100 < p.length then 2 else 0 := by unfold aheadC; split <;> rfl
theorem putC_length {n : Nd} {off : Int} (h : mayC n off = true) : ((putC n off).length : Int) = manyC n := by
  rw [putC_yes h, List.length_append, aheadC_length, manyC, if_pos (mayC_iff.1 h).1]
  split <;> rfl
theorem path_text {n : Nd} (h : isFile n = true) : textL n.path = true := may_text (oneF (isFile_iff.1 h).1).path
theorem ahead_ok {n : Nd} (h : isFile n = true) : putOkL 76 n.path = true := putOkL_iff.2 ⟨.inr rfl, path_text h⟩
theorem ahead_putLs {n : Nd} (h : isFile n = true) (hl : 100 < n.path.length) : aheadC n.path = putLs 76 n.path := by rw [aheadC, if_pos hl, putLs_yes (ahead_ok h)]
/-- The header may be. -/
theorem headC_may {n : Nd} {off : Int} (h : mayC n off = true) : mayH (headC n off) = true ∧ SmallH (headC n off) := by
  obtain ⟨hf, h0, h1, h2⟩ := mayC_iff.1 h
  obtain ⟨ho, hk⟩ := isFile_iff.1 hf
  have f := oneF ho
  have hd := f.data
  have hp := (textL_iff.1 (path_text hf))
  have hn : (n.path.take 100) ≠ [] := by
    intro e
    have := congrArg List.length e
    rw [List.length_take, List.length_nil] at this
    omega
  have b1 : okT (n.path.take 100) 100 = true := okT_iff.2 ⟨by rw [List.length_take]; omega, fun hm => hp.2.2 (List.mem_of_mem_take hm)⟩
  have b2 : okT [] 100 = true := rfl
  have c1 := put_ok (w := 8) f.mode.1 (by have := f.mode.2; omega) (by omega) (by omega)
  have c2 := put_ok (w := 8) f.uid.1 f.uid.2 (by omega) (by omega)
  have c3 := put_ok (w := 8) f.gid.1 f.gid.2 (by omega) (by omega)
  have c4 := put_ok (x := (n.data.length : Int) - off) (w := 12) (by omega) (by omega) (by omega) (by omega)
  have c5 := put_ok (w := 12) f.time.1 f.time.2 (by omega) (by omega)
  have c6 := put_ok (x := off) (w := 12) (by omega) (by omega) (by omega) (by omega)
  have c7 := put_ok (x := (n.data.length : Int)) (w := 12) (by omega) (by omega) (by omega) (by omega)
  have d1 : (n.path.take 100).isEmpty = false := by
    cases hq : n.path.take 100
    · exact absurd hq hn
    · rfl
  constructor
  · unfold mayH elseZ txtsOk numsOk headC
    simp only [b1, b2, d1]
    simp only [Bool.and_eq_true]
    exact ⟨⟨⟨⟨rfl, by decide⟩, rfl⟩, ⟨trivial, trivial⟩, rfl⟩, ⟨⟨⟨⟨c1, c2⟩, c3⟩, c4⟩, c5⟩, by simpa using ⟨c6, c7⟩⟩
  · have hm := f.mode.2
    have hu := f.uid.2
    have hg := f.gid.2
    have ht := f.time.2
    refine ⟨?_, ?_, ?_, ?_, ?_, ?_, ?_, ?_, ?_, ?_⟩ <;> (simp only [headC, List.length_nil, List.length_take]; omega)
theorem getH_put {n : Nd} {off : Int} (h : mayC n off = true) : codeB (blk (headC n off)) = 0 ∧ getH (blk (headC n off)) = headC n off :=
  ⟨code_blk (headC_may h).1 (headC_may h).2, get_blk (headC_may h).1 (headC_may h).2⟩

/-! ### only how many bytes there are counts -/
theorem mayC_with (n : Nd) (off : Int) : mayC (withN n n.data.length) off = mayC n off := by
  have e : (withN n n.data.length).data.length = n.data.length := by simp [withN]
  have f : isFile (withN n n.data.length) = isFile n := by
    by_cases hk : n.kind = 48
    · unfold isFile Tree.oneB Tree.numsB Tree.kindB withN
      simp [hk]
    · simp [isFile, withN, hk]
  rw [mayC, mayC, e, f]
theorem putC_with (n : Nd) (off : Int) : putC (withN n n.data.length) off = putC n off := by
  have e : headC (withN n n.data.length) off = headC n off := by simp [headC, withN]
  rw [putC, putC, mayC_with, e]
  rfl
theorem bare_with (n : Nd) (k : Nat) : bare (withN n k) = bare n := rfl
theorem with_bare (n : Nd) (k : Nat) : withN (bare n) k = withN n k := rfl
theorem bare_is {n : Nd} {off : Int} (h : mayC n off = true) : nodeC (headC n off) n.path = bare n := by
  obtain ⟨ho, hk⟩ := isFile_iff.1 (mayC_iff.1 h).1
  have f := oneF ho
  cases n
  simp only [nodeC, headC, bare, Nd.mk.injEq, true_and, and_true]
  exact ⟨(f.none hk).symm, hk.symm⟩
theorem try_one {l : List L} {k : Nat} {p : L} {n : Nd} {off : Int} (h : mayC n off = true) (hb : l.getD (k - 1) [] = blk (headC n off)) (hp : nameC (headC n off) p = n.path) (ht : l.take k = putC n off) :
    tryC l k p = (bare n, off, (n.data.length : Int), (k : Int), true) := by
  obtain ⟨h1, h2⟩ := getH_put h
  have f := oneF (isFile_iff.1 (mayC_iff.1 h).1).1
  have hd := f.data
  rw [tryC, hb, h2, hp, bare_is h, if_neg]
  · have e1 : (headC n off).real.toNat = n.data.length := by show ((n.data.length : Int)).toNat = _; omega
    have e2 : (headC n off).off = off := rfl
    rw [e1, e2, with_bare, mayC_with, putC_with, if_pos ⟨h, ht.symm⟩]
    rfl
  · rintro (e | e | e)
    · exact e h1
    · exact e rfl
    · have : (headC n off).real = (n.data.length : Int) := rfl
      omega
theorem upto_text {p : L} (h : (0 : UInt8) ∉ p) (hl : p.length ≤ 300) : upto (BlockM.blk (p ++ [0])) = p := by
  unfold upto BlockM.blk
  rw [List.take_of_length_le (by simp; omega), List.append_assoc, List.takeWhile_append_of_pos (by intro b hb; simp; rintro rfl; exact h hb)]
  simp
theorem get_of {l : List L} {n : Nd} {off : Int} (h : mayC n off = true) (ht : l.take (putC n off).length = putC n off) :
    getC l = (bare n, off, (n.data.length : Int), ((putC n off).length : Int), true) := by
  have hf := (mayC_iff.1 h).1
  have hx := textL_iff.1 (path_text hf)
  by_cases hl : 100 < n.path.length
  · have e : putC n off = [blk (llH 76 n.path), BlockM.blk (n.path ++ [0]), blk (headC n off)] := by rw [putC_yes h, aheadC, if_pos hl]; rfl
    have e3 : (putC n off).length = 3 := by rw [e]; rfl
    rw [e3] at ht ⊢
    obtain ⟨a, b, c, r, rfl⟩ : ∃ a b c r, l = a :: b :: c :: r := by
      have hlen := congrArg List.length ht
      rw [e3, List.length_take] at hlen
      match l, hlen with
      | [], hlen => simp at hlen
      | [a], hlen => simp at hlen
      | [a, b], hlen => simp at hlen
      | a :: b :: c :: r, _ => exact ⟨a, b, c, r, rfl⟩
    have hh : a = blk (llH 76 n.path) ∧ b = BlockM.blk (n.path ++ [0]) ∧ c = blk (headC n off) := by
      rw [e] at ht
      have h1 : [a, b, c] = [blk (llH 76 n.path), BlockM.blk (n.path ++ [0]), blk (headC n off)] := ht
      rw [List.cons.injEq, List.cons.injEq, List.cons.injEq] at h1
      exact ⟨h1.1, h1.2.1, h1.2.2.1⟩
    obtain ⟨e11, e12, e13⟩ := hh
    obtain ⟨k1, k2, k3⟩ := llH_ok (ahead_ok hf)
    have t1 : tryC (a :: b :: c :: r) 1 [] = none5 := by
      rw [tryC, if_pos]
      refine .inr (.inl ?_)
      show (getH a).ty ≠ 77
      rw [e11, get_blk k1 k2, k3]
      decide
    have t3 := try_one (l := a :: b :: c :: r) (k := 3) (p := n.path) h (by show c = _; exact e13) (by rw [nameC, if_neg (by rintro e; rw [e] at hl; simp at hl)]) (by rw [e]; exact ht.trans e)
    have hu : (a :: b :: c :: r).getD 1 [] = BlockM.blk (n.path ++ [0]) := e12
    rw [getC, if_neg (by simp), t1, hu, if_neg]
    · rw [upto_text hx.2.2 hx.2.1, t3]
    · rintro (e | e | e)
      · cases e
      · simp only [List.length_cons] at e
        omega
      · exact e (BlockM.blk_length _)
  · have e : putC n off = [blk (headC n off)] := by rw [putC_yes h, aheadC, if_neg hl]; rfl
    have e1 : (putC n off).length = 1 := by rw [e]; rfl
    rw [e1] at ht ⊢
    obtain ⟨a, r, rfl⟩ : ∃ a r, l = a :: r := by
      have hlen := congrArg List.length ht
      rw [e1, List.length_take] at hlen
      match l, hlen with
      | [], hlen => simp at hlen
      | a :: r, _ => exact ⟨a, r, rfl⟩
    have hh : a = blk (headC n off) := by
      rw [e] at ht
      have h1 : [a] = [blk (headC n off)] := ht
      rw [List.cons.injEq] at h1
      exact h1.1
    have t1 := try_one (l := a :: r) (k := 1) (p := []) h (by show a = _; exact hh) (by rw [nameC, if_pos rfl]; exact List.take_of_length_le (by omega)) (by rw [e]; exact ht.trans e)
    rw [getC, if_neg (by simp), t1, if_pos (.inl rfl)]
theorem try_yes {l : List L} {k : Nat} {p : L} (hk : k ≤ l.length) : tryC l k p = none5 ∨
    ∃ n off, mayC n off = true ∧ n.data = List.replicate n.data.length 0 ∧ putC n off = l.take k ∧ (putC n off).length = k ∧ tryC l k p = (bare n, off, (n.data.length : Int), (k : Int), true) := by
  rw [tryC]
  split
  · exact .inl rfl
  · split
    · rename_i h1 h2
      obtain ⟨h3, h4⟩ := h2
      refine .inr ⟨_, _, h3, ?_, h4, ?_, ?_⟩
      · simp [withN]
      · rw [h4, List.length_take]
        omega
      · obtain ⟨-, a, b, -⟩ := mayC_iff.1 h3
        have e : (withN (nodeC (getH (l.getD (k - 1) [])) (nameC (getH (l.getD (k - 1) [])) p)) (getH (l.getD (k - 1) [])).real.toNat).data.length = (getH (l.getD (k - 1) [])).real.toNat := by simp [withN]
        rw [e] at b ⊢
        rw [show (((getH (l.getD (k - 1) [])).real.toNat : Nat) : Int) = (getH (l.getD (k - 1) [])).real by omega]
        rfl
    · exact .inl rfl
/-- What is got is put. -/
theorem get_yes (l : List L) : getC l = none5 ∨
    ∃ n off, mayC n off = true ∧ n.data = List.replicate n.data.length 0 ∧ (putC n off).length ≤ l.length ∧ l.take (putC n off).length = putC n off ∧ getC l = (bare n, off, (n.data.length : Int), ((putC n off).length : Int), true) := by
  rw [getC]
  split
  · exact .inl rfl
  · rename_i hn
    have h1 : 1 ≤ l.length := by
      cases l
      · exact absurd rfl hn
      · simp
    split
    · rcases try_yes (p := []) h1 with e | ⟨n, off, a, b, c, d, e⟩
      · exact .inl e
      · exact .inr ⟨n, off, a, b, by omega, by rw [d]; exact c.symm, by rw [e, d]⟩
    · rename_i h3
      have h33 : 3 ≤ l.length := by
        have := fun e => h3 (.inr (.inl e))
        omega
      rcases try_yes (p := upto (l.getD 1 [])) h33 with e | ⟨n, off, a, b, c, d, e⟩
      · exact .inl e
      · exact .inr ⟨n, off, a, b, by omega, by rw [d]; exact c.symm, by rw [e, d]⟩
theorem get_no {l : List L} (h : getC l = none5) {n : Nd} {off : Int} (hm : mayC n off = true) : l.take (putC n off).length ≠ putC n off := by
  intro e
  have := get_of hm e
  rw [h, none5, Prod.mk.injEq, Prod.mk.injEq, Prod.mk.injEq, Prod.mk.injEq] at this
  cases this.2.2.2.2
/-- Two files have the same headers just if they are the same but for their bytes, of one length. -/
theorem putC_inj {n m : Nd} {off at_ : Int} (hn : mayC n off = true) (hm : mayC m at_ = true) : putC n off = putC m at_ ↔ bare n = bare m ∧ off = at_ ∧ n.data.length = m.data.length := by
  constructor
  · intro e
    have h1 := get_of (l := putC n off) hn (by rw [List.take_length])
    have h2 := get_of (l := putC n off) hm (by rw [e, List.take_length])
    rw [h1, Prod.mk.injEq, Prod.mk.injEq, Prod.mk.injEq] at h2
    exact ⟨h2.1, h2.2.1, by have := h2.2.2.1; omega⟩
  · rintro ⟨e, rfl, hl⟩
    rw [← putC_with n, ← putC_with m, hl, ← with_bare n, ← with_bare m, e]
theorem putC_may (n : Nd) (off : Int) : BlockM.mayV (putC n off) = true := by
  cases h : mayC n off
  · rw [putC_no h]
    rfl
  · rw [putC_yes h]
    refine BlockM.mayV_iff.2 fun b hb => ?_
    rcases List.mem_append.1 hb with hb | hb
    · by_cases hl : 100 < n.path.length
      · rw [ahead_putLs (mayC_iff.1 h).1 hl] at hb
        exact BlockM.mayV_iff.1 (putLs_may _ _) b hb
      · rw [aheadC, if_neg hl] at hb
        cases hb
    · rw [List.mem_singleton.1 hb]
      exact blk_length (headC_may h).1 (headC_may h).2
end Go.Proofs.YtopihahjjcpnpaaGreatDoor.ContM
