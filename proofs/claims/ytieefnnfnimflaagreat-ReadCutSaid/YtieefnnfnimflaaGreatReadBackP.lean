/-
  The walks of the statements ReadBack and ReadCut over the contracts of packages read and stream.
  The statement ReadBack: the stream of a tree reads as the tree, and all its blocks are used, whatever stands behind them: for any nodes, and any blocks.
  The statement ReadCut: of the first blocks of a tree's stream one reads its first nodes, the last of them perhaps with fewer bytes, which are its first ones; as a whole they are too few: for any nodes, and any number.
-/
import Derived.Test.YtieefnnfnimflaaGreatReadI
import Derived.Test.YtieefnnfnimflaaGreatTreeS
import Derived.Test.YtieefnnfnimflaaGreatStreamC
import Derived.BigQuiet
import Derived.Deep.Cut
import Derived.Deep.QuietTactic
import Derived.Test.YtieefnnfnimflaaGreatRows
import Derived.Test.YtieefnnfnimflaaGreatBase
import Derived.Test.YtieefnnfnimflaaGreatNodesF
import Derived.Test.YtieefnnfnimflaaGreatReadK
import Derived.Test.YtieefnnfnimflaaGreatParseC
namespace Go.Proofs.YtieefnnfnimflaaGreat.Read
open Go.RowKit Go.Proofs.YtieefnnfnimflaaGreat.Str Go.Proofs.YtieefnnfnimflaaGreat.Base Go.Proofs.YtieefnnfnimflaaGreat.Node
open Go.Proofs.YtieefnnfnimflaaGreat.Tree (oneB mayT fewT)
open Go.Proofs.YtieefnnfnimflaaGreat.Stream (allS)

set_option linter.unusedVariables false
theorem slices_in2 : (Tryz.prog.info? 26).map (fun i => (i.zero, i.size, i.bytes)) = some (some (.slice none 0 0), 1, 24) := by kernel_rfl
theorem stp_dr1 {w w1 : World} (h : Stp w w1) : Stp w w1.drew := h.drewN 1
theorem stp_here2 {w w' : World} {e : TypeId} {lo : Nat} {v : Value} {ls : List L} (h : Base.Rows w lo e v ls) (hlo : w.heap.size ≤ lo) (hg : w.grownBy w' v.ownBlock) : Stp w w' := h.stp (Stp.refl w) hlo hg
theorem rows_n2 {w : World} {lo : Nat} {e : TypeId} {v : Value} {ls : List L} {n : Nat} (h : Base.Rows w lo e v ls) (hn : ls.length = n) : ∃ A c, v = .slice A n c ∧ RdL w A c ls := by
  subst hn
  exact h.rdL
theorem fewt_n (t : List Nd) (m : Nat) (hm : t.length = m) (A : Option Addr) (c : Nat) (w : World) (ha : RdN w A c t) (hl : m < 9223372036854775808) (F : Bool) (hF : fewT t = F) :
    Calls Tryz.prog 29 #[.slice A m c] w fun e w' => e = .returned (.bool F) ∧ Stp w w' := by
  subst hm hF
  exact Tree.fewt_s t A c w ha hl
/-- The contract of the one call of package stream. -/
def AllI : Prop := ∀ (t : List Nd) (m : Nat), t.length = m → m ≤ 1000 → (∀ n ∈ t, SmallN n) → ∀ (A : Option Addr) (c : Nat) (w : World), RdN w A c t →
    Calls Tryz.prog 30 #[.slice A m c] w fun e w' => ∃ B d, e = .returned (.tuple #[.slice B (allS t).length d, .bool (mayT t)]) ∧ RdL w' B d (allS t) ∧ Stp w w'
theorem all_n (S : AllI) (t : List Nd) (m : Nat) (hm : t.length = m) (hm1 : m ≤ 1000) (hs : ∀ n ∈ t, SmallN n) (l : List L) (N : Nat) (M : Bool) (hl : allS t = l) (hN : l.length = N) (hM : mayT t = M) (A : Option Addr) (c : Nat) (w : World) (ha : RdN w A c t) :
    Calls Tryz.prog 30 #[.slice A m c] w fun e w' => ∃ B d, e = .returned (.tuple #[.slice B N d, .bool M]) ∧ RdL w' B d l ∧ Stp w w' := by
  subst hl hN hM
  exact S t m hm hm1 hs A c w ha
theorem rsame_n2 (ns ms : List Nd) (m n : Nat) (hm : ns.length = m) (hn : ms.length = n) (A B : Option Addr) (c d : Nat) (w : World) (ha : RdN w A c ns) (hb : RdN w B d ms) (hl : n < 9223372036854775808) (b : Bool) (hs : (ns == ms) = b) :
    Calls Tryz.prog 26 #[.slice A m c, .slice B n d] w fun e w' => e = .returned (.bool b) ∧ Stp w w' := rsame_n ns ms m n hm hn A B c d w ha hb hl b hs
theorem rdl_take {w : World} {A : Option Addr} {c : Nat} {ls : List L} (h : RdL w A c ls) (k : Nat) : RdL w A c (ls.take k) := by
  obtain ⟨us, h1, h2, h3⟩ := h
  refine ⟨us.take k, by simp [h1], h2.take k, fun j l hj => ?_⟩
  rw [List.getElem?_take] at hj
  split at hj
  · obtain ⟨u, hu, hr⟩ := h3 j l hj
    exact ⟨u, by rw [List.getElem?_take, if_pos (by assumption)]; exact hu, hr⟩
  · cases hj
theorem all_512 {t : List Nd} : ∀ b ∈ allS t, b.length < 9223372036854775808 := by
  intro b hb
  have h : b.length = 512 := by
    unfold allS at hb
    split at hb
    · rcases List.mem_append.1 hb with hb | hb
      · unfold Stream.blocksT at hb
        obtain ⟨n, -, hb⟩ := List.mem_flatMap.1 hb
        exact Stream.put_512 hb
      · exact Stream.ends_512 hb
    · simp at hb
  omega

set_option maxRecDepth 100000 in
set_option maxHeartbeats 4000000 in
theorem back_n1 (I : ReadI) (S : AllI) (t : List Nd) (m : Nat) (hm : t.length = m) (hsm : ∀ n ∈ t, SmallN n) (b : List L) (nb : Nat) (hnb : b.length = nb) (A B : Option Addr) (c d : Nat) (w : World) (ha : RdN w A c t) (hb : RdL w B d b) (hla : m < 9223372036854775808) (hlb : nb < 9223372036854775808) (hsb : ∀ x ∈ b, x.length < 9223372036854775808) (hF : fewT t = false) :
    Calls Tryz.prog 5 #[.slice A m c, .slice B nb d] w fun e w' => e = .returned (.bool true) ∧ Stp w w' := by
  have h0 := Stp.refl w
  have HI := Lib.hid I
  have HS := Lib.hid S
  have Ha := Lib.hid ha
  have Hb := Lib.hid hb
  have Hm := Lib.hid hm
  have Hnb := Lib.hid hnb
  have Hsm := Lib.hid hsm
  have Hsb := Lib.hid hsb
  have HF := Lib.hid hF
  clear I S ha hb hm hnb hsm hsb hF 
  go_enter Tryz.func5, Tryz.ntmps5
  go_wp2_with (first
    | (go_at_call 18; (with_reducible refine (awake_s HI.out _).mono ?_); rintro e w1 ⟨rfl, hs⟩; replace Ha := Lib.hid (Ha.out.keep hs); replace Hb := Lib.hid (Hb.out.keep hs); replace h0 := Stp.trans h0 hs; clear hs)
    | (go_at_call 29; (with_reducible refine (fewt_n t m Hm.out _ _ _ Ha.out hla _ HF.out).mono ?_); rintro e w3 ⟨rfl, hs⟩; replace Ha := Lib.hid (Ha.out.keep hs); replace Hb := Lib.hid (Hb.out.keep hs); replace h0 := Stp.trans h0 hs; clear hs))
  go_ret
  exact ⟨rfl, h0⟩

set_option maxRecDepth 100000 in
set_option maxHeartbeats 4000000 in
theorem back_n2 (I : ReadI) (S : AllI) (t : List Nd) (m : Nat) (hm : t.length = m) (hsm : ∀ n ∈ t, SmallN n) (b : List L) (nb : Nat) (hnb : b.length = nb) (A B : Option Addr) (c d : Nat) (w : World) (ha : RdN w A c t) (hb : RdL w B d b) (hla : m < 9223372036854775808) (hlb : nb < 9223372036854775808) (hsb : ∀ x ∈ b, x.length < 9223372036854775808) (hF : fewT t = true) (h60 : 60 < nb) :
    Calls Tryz.prog 5 #[.slice A m c, .slice B nb d] w fun e w' => e = .returned (.bool true) ∧ Stp w w' := by
  have h0 := Stp.refl w
  have HI := Lib.hid I
  have HS := Lib.hid S
  have Ha := Lib.hid ha
  have Hb := Lib.hid hb
  have Hm := Lib.hid hm
  have Hnb := Lib.hid hnb
  have Hsm := Lib.hid hsm
  have Hsb := Lib.hid hsb
  have HF := Lib.hid hF
  have k1 : decide ((60 : Int) < (nb : Int)) = true := decide_eq_true (by omega)
  clear I S ha hb hm hnb hsm hsb hF 
  go_enter Tryz.func5, Tryz.ntmps5
  go_wp2_with (first
    | (go_at_call 18; (with_reducible refine (awake_s HI.out _).mono ?_); rintro e w1 ⟨rfl, hs⟩; replace Ha := Lib.hid (Ha.out.keep hs); replace Hb := Lib.hid (Hb.out.keep hs); replace h0 := Stp.trans h0 hs; clear hs)
    | (go_at_call 29; (with_reducible refine (fewt_n t m Hm.out _ _ _ Ha.out hla _ HF.out).mono ?_); rintro e w3 ⟨rfl, hs⟩; replace Ha := Lib.hid (Ha.out.keep hs); replace Hb := Lib.hid (Hb.out.keep hs); replace h0 := Stp.trans h0 hs; clear hs))
  go_ret
  exact ⟨rfl, h0⟩

set_option maxRecDepth 100000 in
set_option maxHeartbeats 4000000 in
theorem back_n3 (I : ReadI) (S : AllI) (t : List Nd) (m : Nat) (hm : t.length = m) (hsm : ∀ n ∈ t, SmallN n) (b : List L) (nb : Nat) (hnb : b.length = nb) (A B : Option Addr) (c d : Nat) (w : World) (ha : RdN w A c t) (hb : RdL w B d b) (hla : m < 9223372036854775808) (hlb : nb < 9223372036854775808) (hsb : ∀ x ∈ b, x.length < 9223372036854775808) (hF : fewT t = true) (h60 : nb ≤ 60) (hM : mayT t = false) :
    Calls Tryz.prog 5 #[.slice A m c, .slice B nb d] w fun e w' => e = .returned (.bool true) ∧ Stp w w' := by
  have h0 := Stp.refl w
  have HI := Lib.hid I
  have HS := Lib.hid S
  have Ha := Lib.hid ha
  have Hb := Lib.hid hb
  have Hm := Lib.hid hm
  have Hnb := Lib.hid hnb
  have Hsm := Lib.hid hsm
  have Hsb := Lib.hid hsb
  have HF := Lib.hid hF
  have k1 : decide ((60 : Int) < (nb : Int)) = false := decide_eq_false (by omega)
  have hm1 : m ≤ 1000 := by have := (Tree.fewT_iff.1 hF).1; rw [hm] at this; omega
  obtain ⟨l, hl⟩ : ∃ l, allS t = l := ⟨_, rfl⟩
  obtain ⟨N, hNN⟩ : ∃ N, l.length = N := ⟨_, rfl⟩
  have hN402 : N ≤ 402 := by rw [← hNN, ← hl]; exact Stream.all_le
  have HL := Lib.hid hl
  have HNN := Lib.hid hNN
  have HM := Lib.hid hM
  clear I S ha hb hm hnb hsm hsb hF hl hNN hM
  go_enter Tryz.func5, Tryz.ntmps5
  go_wp2_with (first
    | (go_at_call 18; (with_reducible refine (awake_s HI.out _).mono ?_); rintro e w1 ⟨rfl, hs⟩; replace Ha := Lib.hid (Ha.out.keep hs); replace Hb := Lib.hid (Hb.out.keep hs); replace h0 := Stp.trans h0 hs; clear hs)
    | (go_at_call 29; (with_reducible refine (fewt_n t m Hm.out _ _ _ Ha.out hla _ HF.out).mono ?_); rintro e w3 ⟨rfl, hs⟩; replace Ha := Lib.hid (Ha.out.keep hs); replace Hb := Lib.hid (Hb.out.keep hs); replace h0 := Stp.trans h0 hs; clear hs)
    | (go_at_call 30; (with_reducible refine (all_n HS.out t m Hm.out hm1 Hsm.out l N false HL.out HNN.out HM.out _ _ _ Ha.out).mono ?_); rintro e w4 ⟨B4, d4, rfl, hr4, hs⟩; have HA4 := Lib.hid hr4; replace Ha := Lib.hid (Ha.out.keep hs); replace Hb := Lib.hid (Hb.out.keep hs); replace h0 := Stp.trans h0 hs; clear hs hr4))
  go_ret
  exact ⟨rfl, h0⟩

set_option maxRecDepth 100000 in
set_option maxHeartbeats 4000000 in
theorem back_y (I : ReadI) (S : AllI) (t : List Nd) (m : Nat) (hm : t.length = m) (hsm : ∀ n ∈ t, SmallN n) (b : List L) (nb : Nat) (hnb : b.length = nb) (A B : Option Addr) (c d : Nat) (w : World) (ha : RdN w A c t) (hb : RdL w B d b) (hla : m < 9223372036854775808) (hlb : nb < 9223372036854775808) (hsb : ∀ x ∈ b, x.length < 9223372036854775808) (hF : fewT t = true) (h60 : nb ≤ 60) (hM : mayT t = true) :
    Calls Tryz.prog 5 #[.slice A m c, .slice B nb d] w fun e w' => e = .returned (.bool true) ∧ Stp w w' := by
  have h0 := Stp.refl w
  have HI := Lib.hid I
  have HS := Lib.hid S
  have Ha := Lib.hid ha
  have Hb := Lib.hid hb
  have Hm := Lib.hid hm
  have Hnb := Lib.hid hnb
  have Hsm := Lib.hid hsm
  have Hsb := Lib.hid hsb
  have HF := Lib.hid hF
  have k1 : decide ((60 : Int) < (nb : Int)) = false := decide_eq_false (by omega)
  have hm1 : m ≤ 1000 := by have := (Tree.fewT_iff.1 hF).1; rw [hm] at this; omega
  obtain ⟨l, hl⟩ : ∃ l, allS t = l := ⟨_, rfl⟩
  obtain ⟨N, hNN⟩ : ∃ N, l.length = N := ⟨_, rfl⟩
  have hN402 : N ≤ 402 := by rw [← hNN, ← hl]; exact Stream.all_le
  have HL := Lib.hid hl
  have HNN := Lib.hid hNN
  have HM := Lib.hid hM
  obtain ⟨hrd, hus⟩ := read_all hM b
  rw [hl] at hrd hus
  rw [hNN] at hus
  have hab : (l ++ b).length = N + nb := by rw [List.length_append, hNN, hnb]
  have Hsab := Lib.hid (show ∀ x ∈ l ++ b, x.length < 9223372036854775808 by
    intro x hx
    rcases List.mem_append.1 hx with hx | hx
    · rw [← hl] at hx
      exact all_512 x hx
    · exact hsb x hx)
  have Hab := Lib.hid hab
  have HRD := Lib.hid hrd
  have HUS := Lib.hid hus
  have l1 : (([] : List L).length + l.length ≤ 1000000000) := by rw [hNN]; simp only [List.length_nil]; omega
  have l2 : (([] ++ l : List L).length + b.length ≤ 1000000000) := by rw [List.nil_append, hNN, hnb]; omega
  have L1 := Lib.hid l1
  have L2 := Lib.hid l2
  have gN : N + nb ≤ 1000 := by omega
  have HSA := Lib.hid (show (t == t) = true from beq_self_eq_true t)
  clear I S ha hb hm hnb hsm hsb hF hl hNN hM hrd hus hab l1 l2
  go_enter Tryz.func5, Tryz.ntmps5
  go_wp2_with (first
    | (go_at_call 18; (with_reducible refine (awake_s HI.out _).mono ?_); rintro e w1 ⟨rfl, hs⟩; replace Ha := Lib.hid (Ha.out.keep hs); replace Hb := Lib.hid (Hb.out.keep hs); replace h0 := Stp.trans h0 hs; clear hs)
    | (go_at_call 29; (with_reducible refine (fewt_n t m Hm.out _ _ _ Ha.out hla _ HF.out).mono ?_); rintro e w3 ⟨rfl, hs⟩; replace Ha := Lib.hid (Ha.out.keep hs); replace Hb := Lib.hid (Hb.out.keep hs); replace h0 := Stp.trans h0 hs; clear hs)
    | (go_at_call 30; (with_reducible refine (all_n HS.out t m Hm.out hm1 Hsm.out l N true HL.out HNN.out HM.out _ _ _ Ha.out).mono ?_); rintro e w4 ⟨B4, d4, rfl, hr4, hs⟩; have HA4 := Lib.hid hr4; replace Ha := Lib.hid (Ha.out.keep hs); replace Hb := Lib.hid (Hb.out.keep hs); replace h0 := Stp.trans h0 hs; clear hs hr4)
    | (at_builtin; refine Base.wpList_append_rows (P := Tryz.prog) rfl _ (.tmp 35) 27 rfl 26 Tryz.underlying27 slices_in2 _ rfl (Base.Rows.nil w4 w4.heap.size 26) rfl HA4.out HNN.out L1.out (Nat.le_refl _) ?_; intro v6 w6 hR hg; have hs := stp_here2 (Base.Rows.nil w4 w4.heap.size 26) (Nat.le_refl _) hg; replace Hb := Lib.hid (Hb.out.keep hs); have HR6 := Lib.hid hR; have Hs6 := Lib.hid hs; clear hs hR hg)
    | (at_builtin; refine Base.wpList_append_rows (P := Tryz.prog) rfl _ (.tmp 37) 27 rfl 26 Tryz.underlying27 slices_in2 _ rfl HR6.out rfl Hb.out Hnb.out L2.out Hs6.out.size ?_; intro v7 w7 hR hg; have hs := Base.Rows.stp HR6.out Hs6.out (Nat.le_refl _) hg; clear hg; obtain ⟨A7, c7, rfl, hL7⟩ := rows_n2 hR Hab.out; have HL7 := Lib.hid (show RdL w7 A7 c7 (l ++ b) from hL7); replace Ha := Lib.hid (Ha.out.keep hs); replace h0 := Stp.trans h0 hs; clear hs hR hL7)
    | (go_at_call 24; (with_reducible refine (HI.out.read (l ++ b) (N + nb) Hab.out gN Hsab.out t 0 m HRD.out Hm.out _ _ _ HL7.out).mono ?_); rintro e8 w8 ⟨B8, d8, rfl, hr8, hs⟩; have HT := Lib.hid hr8; replace HL7 := Lib.hid (HL7.out.keep hs); replace Ha := Lib.hid (Ha.out.keep hs); replace h0 := Stp.trans h0 hs; clear hs hr8)
    | (go_at_call 26; (with_reducible refine (rsame_n2 t t m m Hm.out Hm.out _ _ _ _ _ HT.out Ha.out hla true HSA.out).mono ?_); rintro e9 w9 ⟨rfl, hs⟩; replace HL7 := Lib.hid (HL7.out.keep hs); replace h0 := Stp.trans h0 hs; clear hs)
    | (go_at_call 27; (with_reducible refine (HI.out.used (l ++ b) (N + nb) Hab.out gN Hsab.out N HUS.out _ _ _ HL7.out).mono ?_); rintro e10 w10 ⟨rfl, hs⟩; replace h0 := Stp.trans h0 hs; clear hs))
  all_goals go_ret
  all_goals exact ⟨rfl, h0⟩

theorem back_s (I : ReadI) (S : AllI) (t : List Nd) (m : Nat) (hm : t.length = m) (hsm : ∀ n ∈ t, SmallN n) (b : List L) (nb : Nat) (hnb : b.length = nb) (A B : Option Addr) (c d : Nat) (w : World) (ha : RdN w A c t) (hb : RdL w B d b) (hla : m < 9223372036854775808) (hlb : nb < 9223372036854775808) (hsb : ∀ x ∈ b, x.length < 9223372036854775808) :
    Calls Tryz.prog 5 #[.slice A m c, .slice B nb d] w fun e w' => e = .returned (.bool true) ∧ Stp w w' := by
  by_cases hF : fewT t = true
  · by_cases h60 : nb ≤ 60
    · cases hM : mayT t with
      | true => exact back_y I S t m hm hsm b nb hnb A B c d w ha hb hla hlb hsb hF h60 hM
      | false => exact back_n3 I S t m hm hsm b nb hnb A B c d w ha hb hla hlb hsb hF h60 hM
    · exact back_n2 I S t m hm hsm b nb hnb A B c d w ha hb hla hlb hsb hF (by omega)
  · exact back_n1 I S t m hm hsm b nb hnb A B c d w ha hb hla hlb hsb (by simpa using hF)
set_option maxRecDepth 100000 in
set_option maxHeartbeats 4000000 in
theorem cut_n1 (I : ReadI) (S : AllI) (t : List Nd) (m : Nat) (hm : t.length = m) (hsm : ∀ n ∈ t, SmallN n) (j : Int) (hj1 : -9223372036854775808 ≤ j) (hj2 : j < 9223372036854775808) (A : Option Addr) (c : Nat) (w : World) (ha : RdN w A c t) (hla : m < 9223372036854775808) (hF : fewT t = false) :
    Calls Tryz.prog 6 #[.slice A m c, .int .i64 j] w fun e w' => e = .returned (.bool true) ∧ Stp w w' := by
  have h0 := Stp.refl w
  have HI := Lib.hid I
  have HS := Lib.hid S
  have Ha := Lib.hid ha
  have Hm := Lib.hid hm
  have Hsm := Lib.hid hsm
  have HF := Lib.hid hF
  clear I S ha hm hsm hF 
  go_enter Tryz.func6, Tryz.ntmps6
  go_wp2_with (first
    | (go_at_call 18; (with_reducible refine (awake_s HI.out _).mono ?_); rintro e w1 ⟨rfl, hs⟩; replace Ha := Lib.hid (Ha.out.keep hs); replace h0 := Stp.trans h0 hs; clear hs)
    | (go_at_call 29; (with_reducible refine (fewt_n t m Hm.out _ _ _ Ha.out hla _ HF.out).mono ?_); rintro e w3 ⟨rfl, hs⟩; replace Ha := Lib.hid (Ha.out.keep hs); replace h0 := Stp.trans h0 hs; clear hs))
  go_ret
  exact ⟨rfl, h0⟩

set_option maxRecDepth 100000 in
set_option maxHeartbeats 4000000 in
theorem cut_n2 (I : ReadI) (S : AllI) (t : List Nd) (m : Nat) (hm : t.length = m) (hsm : ∀ n ∈ t, SmallN n) (j : Int) (hj1 : -9223372036854775808 ≤ j) (hj2 : j < 9223372036854775808) (A : Option Addr) (c : Nat) (w : World) (ha : RdN w A c t) (hla : m < 9223372036854775808) (hF : fewT t = true) (hM : mayT t = false) :
    Calls Tryz.prog 6 #[.slice A m c, .int .i64 j] w fun e w' => e = .returned (.bool true) ∧ Stp w w' := by
  have h0 := Stp.refl w
  have HI := Lib.hid I
  have HS := Lib.hid S
  have Ha := Lib.hid ha
  have Hm := Lib.hid hm
  have Hsm := Lib.hid hsm
  have HF := Lib.hid hF
  have hm1 : m ≤ 1000 := by have := (Tree.fewT_iff.1 hF).1; rw [hm] at this; omega
  obtain ⟨l, hl⟩ : ∃ l, allS t = l := ⟨_, rfl⟩
  obtain ⟨N, hNN⟩ : ∃ N, l.length = N := ⟨_, rfl⟩
  have hN402 : N ≤ 402 := by rw [← hNN, ← hl]; exact Stream.all_le
  have HL := Lib.hid hl
  have HNN := Lib.hid hNN
  have HM := Lib.hid hM
  clear I S ha hm hsm hF hl hNN hM
  go_enter Tryz.func6, Tryz.ntmps6
  go_wp2_with (first
    | (go_at_call 18; (with_reducible refine (awake_s HI.out _).mono ?_); rintro e w1 ⟨rfl, hs⟩; replace Ha := Lib.hid (Ha.out.keep hs); replace h0 := Stp.trans h0 hs; clear hs)
    | (go_at_call 29; (with_reducible refine (fewt_n t m Hm.out _ _ _ Ha.out hla _ HF.out).mono ?_); rintro e w3 ⟨rfl, hs⟩; replace Ha := Lib.hid (Ha.out.keep hs); replace h0 := Stp.trans h0 hs; clear hs)
    | (go_at_call 30; (with_reducible refine (all_n HS.out t m Hm.out hm1 Hsm.out l N false HL.out HNN.out HM.out _ _ _ Ha.out).mono ?_); rintro e w4 ⟨B4, d4, rfl, hr4, hs⟩; have HA4 := Lib.hid hr4; replace Ha := Lib.hid (Ha.out.keep hs); replace h0 := Stp.trans h0 hs; clear hs hr4))
  go_ret
  exact ⟨rfl, h0⟩

set_option maxRecDepth 100000 in
set_option maxHeartbeats 4000000 in
theorem cut_n3 (I : ReadI) (S : AllI) (t : List Nd) (m : Nat) (hm : t.length = m) (hsm : ∀ n ∈ t, SmallN n) (j : Int) (hj1 : -9223372036854775808 ≤ j) (hj2 : j < 9223372036854775808) (A : Option Addr) (c : Nat) (w : World) (ha : RdN w A c t) (hla : m < 9223372036854775808) (hF : fewT t = true) (hM : mayT t = true) (hj : j < 0) :
    Calls Tryz.prog 6 #[.slice A m c, .int .i64 j] w fun e w' => e = .returned (.bool true) ∧ Stp w w' := by
  have h0 := Stp.refl w
  have HI := Lib.hid I
  have HS := Lib.hid S
  have Ha := Lib.hid ha
  have Hm := Lib.hid hm
  have Hsm := Lib.hid hsm
  have HF := Lib.hid hF
  have hm1 : m ≤ 1000 := by have := (Tree.fewT_iff.1 hF).1; rw [hm] at this; omega
  obtain ⟨l, hl⟩ : ∃ l, allS t = l := ⟨_, rfl⟩
  obtain ⟨N, hNN⟩ : ∃ N, l.length = N := ⟨_, rfl⟩
  have hN402 : N ≤ 402 := by rw [← hNN, ← hl]; exact Stream.all_le
  have HL := Lib.hid hl
  have HNN := Lib.hid hNN
  have HM := Lib.hid hM
  have g1 : decide (j < 0) = true := decide_eq_true hj
  clear I S ha hm hsm hF hl hNN hM
  go_enter Tryz.func6, Tryz.ntmps6
  go_wp2_with (first
    | (go_at_call 18; (with_reducible refine (awake_s HI.out _).mono ?_); rintro e w1 ⟨rfl, hs⟩; replace Ha := Lib.hid (Ha.out.keep hs); replace h0 := Stp.trans h0 hs; clear hs)
    | (go_at_call 29; (with_reducible refine (fewt_n t m Hm.out _ _ _ Ha.out hla _ HF.out).mono ?_); rintro e w3 ⟨rfl, hs⟩; replace Ha := Lib.hid (Ha.out.keep hs); replace h0 := Stp.trans h0 hs; clear hs)
    | (go_at_call 30; (with_reducible refine (all_n HS.out t m Hm.out hm1 Hsm.out l N true HL.out HNN.out HM.out _ _ _ Ha.out).mono ?_); rintro e w4 ⟨B4, d4, rfl, hr4, hs⟩; have HA4 := Lib.hid hr4; replace Ha := Lib.hid (Ha.out.keep hs); replace h0 := Stp.trans h0 hs; clear hs hr4))
  go_ret
  exact ⟨rfl, h0⟩

set_option maxRecDepth 100000 in
set_option maxHeartbeats 4000000 in
theorem cut_n4 (I : ReadI) (S : AllI) (t : List Nd) (m : Nat) (hm : t.length = m) (hsm : ∀ n ∈ t, SmallN n) (j : Int) (hj1 : -9223372036854775808 ≤ j) (hj2 : j < 9223372036854775808) (A : Option Addr) (c : Nat) (w : World) (ha : RdN w A c t) (hla : m < 9223372036854775808) (hF : fewT t = true) (hM : mayT t = true) (hj : ¬ j < 0) (hjN : ((allS t).length : Int) ≤ j) :
    Calls Tryz.prog 6 #[.slice A m c, .int .i64 j] w fun e w' => e = .returned (.bool true) ∧ Stp w w' := by
  have h0 := Stp.refl w
  have HI := Lib.hid I
  have HS := Lib.hid S
  have Ha := Lib.hid ha
  have Hm := Lib.hid hm
  have Hsm := Lib.hid hsm
  have HF := Lib.hid hF
  have hm1 : m ≤ 1000 := by have := (Tree.fewT_iff.1 hF).1; rw [hm] at this; omega
  obtain ⟨l, hl⟩ : ∃ l, allS t = l := ⟨_, rfl⟩
  obtain ⟨N, hNN⟩ : ∃ N, l.length = N := ⟨_, rfl⟩
  have hN402 : N ≤ 402 := by rw [← hNN, ← hl]; exact Stream.all_le
  have HL := Lib.hid hl
  have HNN := Lib.hid hNN
  have HM := Lib.hid hM
  have g1 : decide (j < 0) = false := decide_eq_false hj
  have g2 : decide ((N : Int) ≤ j) = true := decide_eq_true (by rw [← hNN, hl.symm]; exact hjN)
  clear hjN
  clear I S ha hm hsm hF hl hNN hM
  go_enter Tryz.func6, Tryz.ntmps6
  go_wp2_with (first
    | (go_at_call 18; (with_reducible refine (awake_s HI.out _).mono ?_); rintro e w1 ⟨rfl, hs⟩; replace Ha := Lib.hid (Ha.out.keep hs); replace h0 := Stp.trans h0 hs; clear hs)
    | (go_at_call 29; (with_reducible refine (fewt_n t m Hm.out _ _ _ Ha.out hla _ HF.out).mono ?_); rintro e w3 ⟨rfl, hs⟩; replace Ha := Lib.hid (Ha.out.keep hs); replace h0 := Stp.trans h0 hs; clear hs)
    | (go_at_call 30; (with_reducible refine (all_n HS.out t m Hm.out hm1 Hsm.out l N true HL.out HNN.out HM.out _ _ _ Ha.out).mono ?_); rintro e w4 ⟨B4, d4, rfl, hr4, hs⟩; have HA4 := Lib.hid hr4; replace Ha := Lib.hid (Ha.out.keep hs); replace h0 := Stp.trans h0 hs; clear hs hr4))
  go_ret
  exact ⟨rfl, h0⟩

set_option maxRecDepth 100000 in
set_option maxHeartbeats 4000000 in
theorem cut_y (I : ReadI) (S : AllI) (t : List Nd) (m : Nat) (hm : t.length = m) (hsm : ∀ n ∈ t, SmallN n) (k : Nat) (A : Option Addr) (c : Nat) (w : World) (ha : RdN w A c t) (hla : m < 9223372036854775808) (hF : fewT t = true) (hM : mayT t = true) (hkN : k < (allS t).length) :
    Calls Tryz.prog 6 #[.slice A m c, .int .i64 (k : Int)] w fun e w' => e = .returned (.bool true) ∧ Stp w w' := by
  have h0 := Stp.refl w
  have HI := Lib.hid I
  have HS := Lib.hid S
  have Ha := Lib.hid ha
  have Hm := Lib.hid hm
  have Hsm := Lib.hid hsm
  have HF := Lib.hid hF
  have hm1 : m ≤ 1000 := by have := (Tree.fewT_iff.1 hF).1; rw [hm] at this; omega
  obtain ⟨l, hl⟩ : ∃ l, allS t = l := ⟨_, rfl⟩
  obtain ⟨N, hNN⟩ : ∃ N, l.length = N := ⟨_, rfl⟩
  have hN402 : N ≤ 402 := by rw [← hNN, ← hl]; exact Stream.all_le
  have HL := Lib.hid hl
  have HNN := Lib.hid hNN
  have HM := Lib.hid hM
  have hk : k < N := by rw [← hNN, ← hl]; exact hkN
  have hcut := cut_all hM hkN
  rw [hl] at hcut
  obtain ⟨us, e, hp⟩ : ∃ us e, partV (l.take k) = (us, e) := ⟨_, _, rfl⟩
  obtain ⟨hc1, hrd, hext⟩ := hcut
  rw [hp] at hc1 hext
  simp only at hc1 hext
  subst hc1
  obtain ⟨mt, hmt⟩ : ∃ x, us.length = x := ⟨_, rfl⟩
  have hlen := hext.len
  rw [hmt, hm] at hlen
  have htk : (l.take k).length = k := by rw [List.length_take, hNN]; omega
  have Hsab := Lib.hid (show ∀ x ∈ l.take k, x.length < 9223372036854775808 from fun x hx => by
    have := List.mem_of_mem_take hx
    rw [← hl] at this
    exact all_512 x this)
  have HTK := Lib.hid htk
  have HRD := Lib.hid hrd
  have HP := Lib.hid hp
  have Hmt := Lib.hid hmt
  have HX := Lib.hid hext
  have g1 : decide ((k : Int) < 0) = false := decide_eq_false (by omega)
  have g2 : decide (N ≤ k) = false := decide_eq_false (by omega)
  have g2' : decide ((N : Int) ≤ (k : Int)) = false := decide_eq_false (by omega)
  have g3 : decide (m < mt) = false := decide_eq_false (by omega)
  have g3' : decide ((m : Int) < (mt : Int)) = false := decide_eq_false (by omega)
  have gN : k ≤ 1000 := by omega
  obtain ⟨b0, hb0⟩ : ∃ b0, l[0]? = some b0 := ⟨_, List.getElem?_eq_getElem (by omega)⟩
  have HB0 := Lib.hid hb0
  clear I S ha hm hsm hF hl hNN hM hkN hp hext hmt htk hrd hb0
  go_enter Tryz.func6, Tryz.ntmps6
  go_wp2_with (first
    | (go_at_call 18; (with_reducible refine (awake_s HI.out _).mono ?_); rintro e w1 ⟨rfl, hs⟩; replace Ha := Lib.hid (Ha.out.keep hs); replace h0 := Stp.trans h0 hs; clear hs)
    | (go_at_call 29; (with_reducible refine (fewt_n t m Hm.out _ _ _ Ha.out hla _ HF.out).mono ?_); rintro e w3 ⟨rfl, hs⟩; replace Ha := Lib.hid (Ha.out.keep hs); replace h0 := Stp.trans h0 hs; clear hs)
    | (go_at_call 30; (with_reducible refine (all_n HS.out t m Hm.out hm1 Hsm.out l N true HL.out HNN.out HM.out _ _ _ Ha.out).mono ?_); rintro e w4 ⟨B4, d4, rfl, hr4, hs⟩; have HA4 := Lib.hid hr4; replace Ha := Lib.hid (Ha.out.keep hs); replace h0 := Stp.trans h0 hs; obtain ⟨ab, ao, aA, ac, rfl, -, -⟩ := hr4.at_ HB0.out; have hcap := hr4.length_le; rw [HNN.out] at hcap; have HA5 := Lib.hid (rdl_take HA4.out k); clear hs hr4)
    | (go_at_call 22; (with_reducible refine (HI.out.part (l.take k) k HTK.out gN Hsab.out us 0 mt HP.out Hmt.out _ _ _ HA5.out).mono ?_); rintro e5 w5 ⟨B5, d5, rfl, hr5, hs⟩; have HT := Lib.hid hr5; replace HA5 := Lib.hid (HA5.out.keep hs); replace Ha := Lib.hid (Ha.out.keep hs); replace h0 := Stp.trans h0 hs; clear hs hr5)
    | (go_at_call 24; (with_reducible refine (HI.out.read (l.take k) k HTK.out gN Hsab.out [] 7 0 HRD.out rfl _ _ _ HA5.out).mono ?_); rintro e8 w8 ⟨B8, d8, rfl, -, hs⟩; replace HT := Lib.hid (HT.out.keep hs); replace Ha := Lib.hid (Ha.out.keep hs); replace h0 := Stp.trans h0 hs; clear hs))
  have H0 := Lib.hid h0
  have hmu8 : m ≤ c := by have := Ha.out.1; rw [Hm.out] at this; exact this
  have hmt5 : mt ≤ d5 := by have := HT.out.1; rw [Hmt.out] at this; exact this
  have hng := Tree.noGuardN
  clear h0
  go_loopw [13] (fun ii wr => ∃ i : Nat, i ≤ mt ∧ ii = .int .i64 (i : Int) ∧ Hid (Stp w8 wr)) (fun ii _ => mt - (intOf ii).toNat)
  case atStart => exact ⟨0, by omega, rfl, Lib.hid (Stp.refl w8)⟩
  case round =>
    obtain ⟨i, hik, rfl, H2⟩ := hrel
    by_cases hlt : i < mt
    · obtain ⟨x, hx⟩ : ∃ x, us[i]? = some x := ⟨_, List.getElem?_eq_getElem (by rw [Hmt.out]; exact hlt)⟩
      obtain ⟨y, hy⟩ : ∃ y, t[i]? = some y := ⟨_, List.getElem?_eq_getElem (by rw [Hm.out]; omega)⟩
      obtain ⟨d1, d2, d3⟩ := HX.out.at_ i x y hx hy
      rw [Hmt.out] at d3
      obtain ⟨b1, o1, rfl, hb1, q0, q1, q2, q3, q4, q5, q6, q7⟩ := (HT.out.keep H2.out).cells hx
      obtain ⟨b2, o2, rfl, hb2, r0, r1, r2, r3, r4, r5, r6, r7⟩ := (Ha.out.keep H2.out).cells hy
      have Hx := Lib.hid hx
      clear hx hy
      obtain ⟨y1, y2, y3, y4, y5, y6, y7, dat⟩ := y
      obtain ⟨x1, x2, x3, x4, x5, x6, x7, D⟩ := x
      simp only [Nd.mk.injEq] at d1 d2 d3 q0 q1 q2 q3 q4 q5 q6 q7 r0 r1 r2 r3 r4 r5 r6 r7
      obtain ⟨rfl, rfl, rfl, rfl, rfl, rfl, rfl, hD⟩ := d2
      have hcut : ∀ w, (Instr.slice 9 (.string ⟨dat.toArray⟩) none (some (.int .i64 (D.length : Int))) none).run Tryz.prog w = .ok (.string ⟨D.toArray⟩) w := fun w => by
        have := cut_h dat D.length d1 w
        rw [← hD] at this
        exact this
      have gd : decide (dat.length < D.length) = false := decide_eq_false (by omega)
      have hw1 : IntKind.i64.wrap ((mt : Int) - 1) = (mt : Int) - 1 := by rw [IntKind.wrap_i64]; omega
      have Hb := Lib.hid (Blk.new wr 23 (ncells ⟨x1, x2, x3, x4, x5, x6, x7, dat⟩))
      have heq : ∀ w, (Op.equalIn 10000 23 (nv ⟨x1, x2, x3, x4, x5, x6, x7, D⟩) (nv ⟨x1, x2, x3, x4, x5, x6, x7, D⟩)).run Tryz.prog w = .ok true w := fun w => by rw [Tree.eq_nodes]; simp
      by_cases hi1 : i + 1 < mt
      · have e := (d3 hi1).2.2.2.2.2.2.2
        subst e
        clear d3 hD d1
        have gk : decide ((i : Int) < (mt : Int) - 1) = true := decide_eq_true (by omega)
        go_wp2_with fail
        go_quiet (fail)
        go_wp2_with fail
        obtain ⟨W, hW⟩ : ∃ W, (wr.alloc (.cells #[.string ⟨x1.toArray⟩, .string ⟨x2.toArray⟩, .int .u8 (x3.toNat : Int), .int .i64 x4, .int .i64 x5, .int .i64 x6, .int .i64 x7, .string ⟨D.toArray⟩] 23)).drewN nq = W := ⟨_, rfl⟩
        have hsW : Stp wr W := by rw [← hW]; exact (Stp.alloc (Stp.refl wr) _).drewN nq
        have HbW := Lib.hid (show Blk W wr.heap.size 23 (ncells ⟨x1, x2, x3, x4, x5, x6, x7, D⟩) by rw [← hW]; exact Hb.out)
        rw [hW]
        clear hW Hb q0 q1 q2 q3 q4 q5 q6 q7 r0 r1 r2 r3 r4 r5 r6 r7
        have H3 := Lib.hid (Stp.trans H2.out hsW)
        have hltW := HbW.out.lt
        have hbW : b1 < wr.heap.size := hb1
        have n1 : b1 ≠ wr.heap.size := by omega
        have n2 : wr.heap.size ≠ b1 := by omega
        have q7 := (HT.out.keep H3.out).cells (j := i) Hx.out
        simp only [Option.some.injEq, Addr.mk.injEq, and_true] at q7
        obtain ⟨bb, oo, ⟨rfl, rfl⟩, -, q0, q1, q2, q3, q4, q5, q6, q7⟩ := q7
        obtain ⟨⟨s0, s1, s2, s3, s4, s5, s6, s7⟩, z0, z1, z2, z3, z4, z5, z6, z7⟩ := nzy HbW.out
        go_region
        have H4 := Lib.hid (show Stp w8 (W.setCell ⟨wr.heap.size, 7, none⟩ (.string ⟨D.toArray⟩)).drew from stp_dr1 (Below.setCell H3.out (p := ⟨wr.heap.size, 7, none⟩) H2.out.size _))
        have Hb4 := Lib.hid (show Blk (W.setCell ⟨wr.heap.size, 7, none⟩ (.string ⟨D.toArray⟩)).drew wr.heap.size 23 (ncells ⟨x1, x2, x3, x4, x5, x6, x7, D⟩) from (HbW.out.put 7 (.string ⟨D.toArray⟩)).drew)
        generalize (W.setCell ⟨wr.heap.size, 7, none⟩ (.string ⟨D.toArray⟩)).drew = W2 at H4 Hb4 ⊢
        clear q0 q1 q2 q3 q4 q5 q6 q7 s0 s1 s2 s3 s4 s5 s6 s7 z0 z1 z2 z3 z4 z5 z6 z7
        have q7 := (HT.out.keep H4.out).cells (j := i) Hx.out
        simp only [Option.some.injEq, Addr.mk.injEq, and_true] at q7
        obtain ⟨bb, oo, ⟨rfl, rfl⟩, -, q0, q1, q2, q3, q4, q5, q6, q7⟩ := q7
        obtain ⟨s0, s1, s2, s3, s4, s5, s6, s7⟩ := nd_cells Hb4.out
        go_wp2_with fail
        go_quiet (fail)
        go_wp2_with fail
        go_roundw
        case rel => exact ⟨i + 1, by omega, by go_num, Lib.hid (H4.out.drewN _)⟩
        case measure => simp [intOf]; omega
      · have gk : decide ((i : Int) < (mt : Int) - 1) = false := decide_eq_false (by omega)
        clear d3 hD d1
        go_wp2_with fail
        go_quiet (fail)
        go_wp2_with fail
        obtain ⟨W, hW⟩ : ∃ W, (wr.alloc (.cells #[.string ⟨x1.toArray⟩, .string ⟨x2.toArray⟩, .int .u8 (x3.toNat : Int), .int .i64 x4, .int .i64 x5, .int .i64 x6, .int .i64 x7, .string ⟨dat.toArray⟩] 23)).drewN nq = W := ⟨_, rfl⟩
        have hsW : Stp wr W := by rw [← hW]; exact (Stp.alloc (Stp.refl wr) _).drewN nq
        have HbW := Lib.hid (show Blk W wr.heap.size 23 (ncells ⟨x1, x2, x3, x4, x5, x6, x7, dat⟩) by rw [← hW]; exact Hb.out)
        rw [hW]
        clear hW Hb q0 q1 q2 q3 q4 q5 q6 q7 r0 r1 r2 r3 r4 r5 r6 r7
        have H3 := Lib.hid (Stp.trans H2.out hsW)
        have hltW := HbW.out.lt
        have hbW : b1 < wr.heap.size := hb1
        have n1 : b1 ≠ wr.heap.size := by omega
        have n2 : wr.heap.size ≠ b1 := by omega
        have q7 := (HT.out.keep H3.out).cells (j := i) Hx.out
        simp only [Option.some.injEq, Addr.mk.injEq, and_true] at q7
        obtain ⟨bb, oo, ⟨rfl, rfl⟩, -, q0, q1, q2, q3, q4, q5, q6, q7⟩ := q7
        obtain ⟨⟨s0, s1, s2, s3, s4, s5, s6, s7⟩, z0, z1, z2, z3, z4, z5, z6, z7⟩ := nzy HbW.out
        go_region
        have H4 := Lib.hid (show Stp w8 (W.setCell ⟨wr.heap.size, 7, none⟩ (.string ⟨D.toArray⟩)).drew from stp_dr1 (Below.setCell H3.out (p := ⟨wr.heap.size, 7, none⟩) H2.out.size _))
        have Hb4 := Lib.hid (show Blk (W.setCell ⟨wr.heap.size, 7, none⟩ (.string ⟨D.toArray⟩)).drew wr.heap.size 23 (ncells ⟨x1, x2, x3, x4, x5, x6, x7, D⟩) from (HbW.out.put 7 (.string ⟨D.toArray⟩)).drew)
        generalize (W.setCell ⟨wr.heap.size, 7, none⟩ (.string ⟨D.toArray⟩)).drew = W2 at H4 Hb4 ⊢
        clear q0 q1 q2 q3 q4 q5 q6 q7 s0 s1 s2 s3 s4 s5 s6 s7 z0 z1 z2 z3 z4 z5 z6 z7
        have q7 := (HT.out.keep H4.out).cells (j := i) Hx.out
        simp only [Option.some.injEq, Addr.mk.injEq, and_true] at q7
        obtain ⟨bb, oo, ⟨rfl, rfl⟩, -, q0, q1, q2, q3, q4, q5, q6, q7⟩ := q7
        obtain ⟨s0, s1, s2, s3, s4, s5, s6, s7⟩ := nd_cells Hb4.out
        go_wp2_with fail
        go_quiet (fail)
        go_wp2_with fail
        go_roundw
        case rel => exact ⟨i + 1, by omega, by go_num, Lib.hid (H4.out.drewN _)⟩
        case measure => simp [intOf]; omega
    · obtain rfl : i = mt := by omega
      go_wp2_with fail
      go_ret
      exact ⟨rfl, Stp.trans H0.out H2.out⟩

theorem cut_s (I : ReadI) (S : AllI) (t : List Nd) (m : Nat) (hm : t.length = m) (hsm : ∀ n ∈ t, SmallN n) (j : Int) (hj1 : -9223372036854775808 ≤ j) (hj2 : j < 9223372036854775808) (A : Option Addr) (c : Nat) (w : World) (ha : RdN w A c t) (hla : m < 9223372036854775808) :
    Calls Tryz.prog 6 #[.slice A m c, .int .i64 j] w fun e w' => e = .returned (.bool true) ∧ Stp w w' := by
  by_cases hF : fewT t = true
  · cases hM : mayT t with
    | true =>
      by_cases hj : j < 0
      · exact cut_n3 I S t m hm hsm j hj1 hj2 A c w ha hla hF hM hj
      · by_cases hjN : ((allS t).length : Int) ≤ j
        · exact cut_n4 I S t m hm hsm j hj1 hj2 A c w ha hla hF hM hj hjN
        · obtain ⟨k, rfl⟩ : ∃ k : Nat, j = (k : Int) := ⟨j.toNat, by omega⟩
          exact cut_y I S t m hm hsm k A c w ha hla hF hM (by omega)
    | false => exact cut_n2 I S t m hm hsm j hj1 hj2 A c w ha hla hF hM
  · exact cut_n1 I S t m hm hsm j hj1 hj2 A c w ha hla (by simpa using hF)
end Go.Proofs.YtieefnnfnimflaaGreat.Read

namespace Go.Proofs.YtieefnnfnimflaaGreat.readBack
open Go.ChangeShapes Go.WideShapes Go.ChangeAt Go.RowKit Go.Proofs.YtieefnnfnimflaaGreat.Base Go.Proofs.YtieefnnfnimflaaGreat.Frame
open Go.ChangeMaps (open_string shut_string)
set_option linter.unusedVariables false

theorem own : ownKnob Tryz.prog.godebug = none := by kernel_rfl
theorem laidOut : laidOutB Tryz.prog = true := by kernel_rfl

set_option maxRecDepth 100000 in
theorem lifted (os : Os) (started : os.Started) (H : Type) (enc : TypeId × Value → H) :
    ReturnsInHanded {} Tryz.checked os 5 .any (Rows.readBackSpec.pre6 enc Tryz.prog Tryz.f5 Rows.readBackRow.domain false) (Rows.readBackSpec.post enc Tryz.prog Tryz.f5 false true false false) := by
  refine returnsInHanded_of_change (C := Tryz.checked) own started (by kernel_rfl) Tryz.func5
    (ChangeSpec.witness6 (enc := enc) (C := Tryz.checked) false ⟨#[], #[.slice none 0 0, .slice none 0 0], []⟩ 8 (by kernel_rfl) (by kernel_rfl) (by kernel_rfl) (by kernel_rfl)) ?_
  intro W base args ds gs before hval0 hW hcnd _
  have hval : ∀ (j : Nat) t v, Tryz.f5.params[j]? = some t → args[j]? = some v → Value.okWide Tryz.prog W .any base t v := hval0
  have hW' := hW
  obtain ⟨p, q, hA0, hV, rfl, hfz, hnd⟩ := hW
  have hA : DataW.TrodAll enc Tryz.prog W 0 (fun _ => true) true Tryz.f5.params.toList args.toList ds p := hA0
  rw [Tryz.params5] at hA hval
  obtain ⟨v0, vs0, d0, ds0, p0, q0, hargs, rfl, rfl, h0, r0x⟩ := trodAll_cons hA
  obtain ⟨v1, vs1, d1, ds1, p1, q1, rfl, rfl, rfl, h1, r1x⟩ := trodAll_cons r0x
  obtain ⟨rfl, rfl, rfl⟩ := trodAll_nil r1x
  obtain rfl : args = #[v0, v1] := by cases args; simp_all
  obtain ⟨rfl, rfl⟩ := trodVars_none hV
  obtain ⟨A0, len0, cap0, rfl⟩ := okWide_slice Tryz.underlying40 (hval 0 40 v0 rfl rfl)
  have k0 := h0
  have lt0 : ∀ x ∈ p0, x.block < W.heap.size := by obtain ⟨m, hm⟩ := k0; exact DataW.trod_lt m _ _ _ hm
  obtain ⟨a0, rfl, r0, n0, m0⟩ : ∃ ns : List Node.Nd, ns.length = len0 ∧ Node.RdN W A0 cap0 ns ∧ (∀ n ∈ ns, Node.SmallN n) ∧ len0 < 9223372036854775808 := by
    obtain ⟨fuel, hf⟩ := h0
    exact Node.open_nodes (by simpa [Value.cells] using hf)
  obtain ⟨A1, len1, cap1, rfl⟩ := okWide_slice Tryz.underlying27 (hval 1 27 v1 rfl rfl)
  have k1 := h1
  have lt1 : ∀ x ∈ p1, x.block < W.heap.size := by obtain ⟨m, hm⟩ := k1; exact DataW.trod_lt m _ _ _ hm
  obtain ⟨a1, rfl, r1, n1, m1⟩ : ∃ ls : List (List UInt8), ls.length = len1 ∧ RdL W A1 cap1 ls ∧ (∀ l ∈ ls, l.length < 9223372036854775808) ∧ len1 < 9223372036854775808 := by
    obtain ⟨fuel, hf⟩ := h1
    refine rdL_of_rows ?_
    rcases Deep.open_int_rows Tryz.underlying27 Tryz.underlying26 Tryz.underlying5 (by kernel_rfl) (by kernel_rfl) hf with ⟨hcs, _⟩ | ⟨x, l, c, AA, LL, CC, ZZ, hcs, _, hl, hm, _, hr⟩
    · simp [Value.cells] at hcs
      exact .inl hcs
    · simp [Value.cells] at hcs
      obtain ⟨rfl, rfl, rfl⟩ := hcs
      exact .inr ⟨x, AA, LL, CC, ZZ, rfl, hl, hm, fun r hlt => by obtain ⟨q1, q2, q3, q4, q5, q6, q7⟩ := hr r hlt; exact ⟨q1, q2, q3, q4, q5, q6, fun a' e => (q7 a' e).2⟩⟩
  clear hA0 hval0
  refine (Read.back_s (Read.readI Parse.parseI) Stream.all_s a0 _ rfl n0 a1 _ rfl _ _ _ _ W r0 r1 m0 m1 n1).mono fun e W' ⟨he, bel⟩ => ?_
  subst he
  exact ⟨_, rfl, _, _, _, [], _, [], hW', trodAll_mk1 (shut_bool Tryz.underlying4 _), (trodAll_cons_mk (Below.trod laidOut (by kernel_rfl) (of_decide_eq_true (by kernel_rfl)) k0 bel lt0) (trodAll_cons_mk (Below.trod laidOut (by kernel_rfl) (of_decide_eq_true (by kernel_rfl)) k1 bel lt1) trodAll_mk0)), rfl, bel.frame _, fun h => by cases h⟩

theorem over : Rows.readBackRow.holds Tryz.pinned (OpenSpec.ofChange Rows.readBackSpec) :=
  OpenClaim.holds_of_wide 5 Tryz.f5 rfl rfl rfl rfl rfl rfl rfl ⟨rfl, rfl, rfl, rfl, rfl⟩ rfl rfl rfl rfl rfl (by kernel_rfl) Tryz.func5 (by kernel_rfl)
    (of_decide_eq_true (by kernel_rfl)) (by unfold Func.isWrapper; first | (rw [if_pos (by decide +kernel)]; kernel_rfl) | (rw [if_neg (by decide +kernel)]; exact ⟨rfl, rfl⟩))
    (fun os started H enc _ => lifted os started H enc)

/-- The statement. -/
theorem proved : Rows.ReadBackSaid := over
#print axioms proved
end Go.Proofs.YtieefnnfnimflaaGreat.readBack

namespace Go.Proofs.YtieefnnfnimflaaGreat.readCut
open Go.ChangeShapes Go.WideShapes Go.ChangeAt Go.RowKit Go.Proofs.YtieefnnfnimflaaGreat.Base Go.Proofs.YtieefnnfnimflaaGreat.Frame
open Go.ChangeMaps (open_string shut_string)
set_option linter.unusedVariables false

theorem own : ownKnob Tryz.prog.godebug = none := by kernel_rfl
theorem laidOut : laidOutB Tryz.prog = true := by kernel_rfl

set_option maxRecDepth 100000 in
theorem lifted (os : Os) (started : os.Started) (H : Type) (enc : TypeId × Value → H) :
    ReturnsInHanded {} Tryz.checked os 6 .any (Rows.readCutSpec.pre6 enc Tryz.prog Tryz.f6 Rows.readCutRow.domain false) (Rows.readCutSpec.post enc Tryz.prog Tryz.f6 false true false false) := by
  refine returnsInHanded_of_change (C := Tryz.checked) own started (by kernel_rfl) Tryz.func6
    (ChangeSpec.witness6 (enc := enc) (C := Tryz.checked) false ⟨#[], #[.slice none 0 0, .int .i64 0], []⟩ 8 (by kernel_rfl) (by kernel_rfl) (by kernel_rfl) (by kernel_rfl)) ?_
  intro W base args ds gs before hval0 hW hcnd _
  have hval : ∀ (j : Nat) t v, Tryz.f6.params[j]? = some t → args[j]? = some v → Value.okWide Tryz.prog W .any base t v := hval0
  have hW' := hW
  obtain ⟨p, q, hA0, hV, rfl, hfz, hnd⟩ := hW
  have hA : DataW.TrodAll enc Tryz.prog W 0 (fun _ => true) true Tryz.f6.params.toList args.toList ds p := hA0
  rw [Tryz.params6] at hA hval
  obtain ⟨v0, vs0, d0, ds0, p0, q0, hargs, rfl, rfl, h0, r0x⟩ := trodAll_cons hA
  obtain ⟨v1, vs1, d1, ds1, p1, q1, rfl, rfl, rfl, h1, r1x⟩ := trodAll_cons r0x
  obtain ⟨rfl, rfl, rfl⟩ := trodAll_nil r1x
  obtain rfl : args = #[v0, v1] := by cases args; simp_all
  obtain ⟨rfl, rfl⟩ := trodVars_none hV
  obtain ⟨A0, len0, cap0, rfl⟩ := okWide_slice Tryz.underlying40 (hval 0 40 v0 rfl rfl)
  have k0 := h0
  have lt0 : ∀ x ∈ p0, x.block < W.heap.size := by obtain ⟨m, hm⟩ := k0; exact DataW.trod_lt m _ _ _ hm
  obtain ⟨a0, rfl, r0, n0, m0⟩ : ∃ ns : List Node.Nd, ns.length = len0 ∧ Node.RdN W A0 cap0 ns ∧ (∀ n ∈ ns, Node.SmallN n) ∧ len0 < 9223372036854775808 := by
    obtain ⟨fuel, hf⟩ := h0
    exact Node.open_nodes (by simpa [Value.cells] using hf)
  obtain ⟨a1, rfl, rfl, rfl, w1⟩ := open_int Tryz.underlying3 (hval 1 3 v1 rfl rfl) h1
  have b1 := bounds_i64 w1
  clear hA0 hval0
  refine (Read.cut_s (Read.readI Parse.parseI) Stream.all_s a0 _ rfl n0 a1 b1.1 (by omega) _ _ W r0 m0).mono fun e W' ⟨he, bel⟩ => ?_
  subst he
  exact ⟨_, rfl, _, _, _, [], _, [], hW', trodAll_mk1 (shut_bool Tryz.underlying4 _), (trodAll_cons_mk (Below.trod laidOut (by kernel_rfl) (of_decide_eq_true (by kernel_rfl)) k0 bel lt0) (trodAll_cons_mk (shut_int Tryz.underlying3 w1) trodAll_mk0)), rfl, bel.frame _, fun h => by cases h⟩

theorem over : Rows.readCutRow.holds Tryz.pinned (OpenSpec.ofChange Rows.readCutSpec) :=
  OpenClaim.holds_of_wide 6 Tryz.f6 rfl rfl rfl rfl rfl rfl rfl ⟨rfl, rfl, rfl, rfl, rfl⟩ rfl rfl rfl rfl rfl (by kernel_rfl) Tryz.func6 (by kernel_rfl)
    (of_decide_eq_true (by kernel_rfl)) (by unfold Func.isWrapper; first | (rw [if_pos (by decide +kernel)]; kernel_rfl) | (rw [if_neg (by decide +kernel)]; exact ⟨rfl, rfl⟩))
    (fun os started H enc _ => lifted os started H enc)

/-- The statement. -/
theorem proved : Rows.ReadCutSaid := over
#print axioms proved
end Go.Proofs.YtieefnnfnimflaaGreat.readCut

