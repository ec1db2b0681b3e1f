/-
  Contracts of package stream's iterator over a tree's blocks (its closure that hands on one node's blocks, and the iterator): no statement is proved here.
-/
import Derived.Test.YtcgdeeinnfkgkaaRangeO
import Derived.Test.YtcgdeeinnfkgkaaStreamP
import Derived.Test.YtcgdeeinnfkgkaaEntryK2
import Derived.Test.YtcgdeeinnfkgkaaTreeC5
import Derived.Test.YtcgdeeinnfkgkaaNodes
import Derived.OwnWalkIn
import Derived.TacticsInMore
import Derived.LoopNIn
import Derived.LoopIn
import Derived.BigQuiet
import Derived.Deep.QuietTactic
import Derived.Deep.Cut
namespace Go.Proofs.Ytcgdeeinnfkgkaa.Stream
open Go.RowKit Go.Shelf Go.Proofs.Ytcgdeeinnfkgkaa.Str Go.Proofs.Ytcgdeeinnfkgkaa.Base Go.Proofs.Ytcgdeeinnfkgkaa.Node Go.Proofs.Ytcgdeeinnfkgkaa.Entry Go.Proofs.Ytcgdeeinnfkgkaa.RangeO
open Go.Proofs.Ytcgdeeinnfkgkaa.Tree (oneB mayT)

attribute [local go_sem] Oper.semAt_some

/-- An element that is handed on: a block with its place, and where its bytes lie. -/
abbrev El := Pt × Option Addr × Nat
def encE (x : El) : Array Value := #[.agg #[.int .i64 (x.1.at_ : Int), .int .i64 (x.1.node : Int), .int .i64 x.1.data, .slice x.2.1 512 x.2.2]]
def HasE (D : Prop) (x : El) (X : World) : Prop := x.1.b.length = 512 ∧ (D → RdA X x.2.1 x.2.2 (bs x.1.b))
def IntBox (o : Obj) : Prop := ∃ y : Int, o = .cells #[.int .i64 y] 3 (0, 0)

theorem cell_rnd {O : Nat → Prop} {W X : World} (h : Rnd O W X) {a : Addr} {v : Value} (hc : W.cell? a = some v) (hn : ¬ O a.block) : X.cell? a = some v :=
  (World.cell?_of_block (h.block a.block (World.block_lt_of_cell? W a hc) hn)).trans hc
theorem rd_rnd {O : Nat → Prop} {W X : World} (h : Rnd O W X) {A : Option Addr} {c : Nat} {xs : List Value} (hr : RdA W A c xs) (hn : ∀ b o, A = some ⟨b, o, none⟩ → xs ≠ [] → ¬ O b) : RdA X A c xs := by
  obtain ⟨A', cap, h1, h2, h3⟩ := hr
  simp only [Value.slice.injEq] at h1
  obtain ⟨rfl, -, rfl⟩ := h1
  refine ⟨A, c, rfl, h2, fun hx => ?_⟩
  obtain ⟨b, o, rfl, hb, hu⟩ := h3 hx
  exact ⟨b, o, rfl, Nat.lt_of_lt_of_le hb h.size, fun j u hj => cell_rnd h (hu j u hj) (hn b o rfl hx)⟩
/-- The block of a row of bytes holds a byte. -/
theorem rd_byte {W : World} {b o c : Nat} {l : L} (hr : RdA W (some ⟨b, o, none⟩) c (bs l)) (hl : l ≠ []) : ∃ i x, W.cell? ⟨b, i, none⟩ = some (.int .u8 x) := by
  have h0 : 0 < l.length := List.length_pos_iff.2 hl
  obtain ⟨b', o', e, hu⟩ := hr.at_ (j := 0) (by rw [bs_length]; exact h0)
  simp only [Option.some.injEq, Addr.mk.injEq, and_true] at e
  obtain ⟨rfl, rfl⟩ := e
  exact ⟨_, _, hu 0 _ (bs_at h0)⟩
theorem stp_cell {W X : World} (h : Stp W X) {a : Addr} {v : Value} (hc : W.cell? a = some v) : X.cell? a = W.cell? a := h.cell (World.block_lt_of_cell? W a hc)
theorem boxed_kept {W X : World} {B : Nat} {t : TypeId} {v : Value} (h : Boxed W B t v) (hs : Stp W X) : Boxed X B t v := (hs.block B h.lt).trans h
theorem no3 {p q r : Prop} (h : ¬ p ∧ ¬ q ∧ ¬ r) : ¬ (p ∨ q ∨ r) := fun e => e.elim h.1 fun e => e.elim h.2.1 h.2.2
theorem ne_of_512 {l : L} (h : l.length = 512) : l ≠ [] := by rintro rfl; simp at h

theorem sme_box {O : Nat → Prop} {B ab : Nat} {W : World} {v : Int} (h : Boxed W ab 3 (.int .i64 v)) (hB : B ≤ ab) (hO : ¬ O ab) (u : Int) : Sme IntBox O B W (W.setCell ⟨ab, 0, none⟩ (.int .i64 u)) :=
  ⟨rfl, rfl, rfl, by show _ ≤ (W.heap.modify _ _).size; rw [Array.size_modify]; exact Nat.le_refl _, fun k hk => by
    by_cases e : k = ab
    · subst e
      exact .inr ⟨hB, hO, _, _, h, h.set _, ⟨_, rfl⟩, ⟨_, rfl⟩⟩
    · exact .inl (Below.heap_setCell W _ _ k e)⟩

/-- What the caller keeps, and what its rounds say. -/
structure Caller (l m B N : Nat) (D : Prop) (J Jx : (Nat → Prop) → List El → World → Prop) : Prop where
  stay : ∀ O s X Y, J O s X → Sme IntBox O B X Y → J O s Y
  stayx : ∀ O s X Y, Jx O s X → Sme IntBox O B X Y → Jx O s Y
  lt : ∀ O s X, J O s X → ∀ k, O k → k < X.heap.size
  free : D → ∀ O s X, J O s X → ∀ k i x, O k → X.cell? ⟨k, i, none⟩ ≠ some (.int .u8 x)
  recd : ∀ O s X, J O s X → ∀ i, X.cell? ⟨l, i, none⟩ = none
  round : ∀ O pre x X, J O pre X → HasE D x X → pre.length < N → YieldAt Fence.wide m Try.prog l (encE x) X fun e Y =>
    (e = .returned (.bool true) ∧ ∃ O', J O' (pre ++ [x]) Y ∧ (∀ k, O' k → O k ∨ X.heap.size ≤ k) ∧ Rnd (fun k => O k ∨ k = l) X Y) ∨ (e = .returned (.bool false) ∧ ∃ O', Jx O' (pre ++ [x]) Y)

theorem yield_any {m m' l : Nat} {args : Array Value} {W : World} {R : Ending → World → Prop} (h : YieldAt Fence.wide m Try.prog l args W R) : YieldAt Fence.wide m' Try.prog l args W R := by
  obtain ⟨fn, tmps, assign, body, hy, h1, h2⟩ := h
  exact ⟨fn, tmps, assign, body, hy, h1, fun c cs _ => h2 c cs (room_wide _)⟩

set_option maxRecDepth 100000 in
set_option maxHeartbeats 1000000 in
/-- One node's blocks, handed on. -/
theorem hand_in (n : Nat) (hn : 1 ≤ n) {l m B N : Nat} {D : Prop} {J Jx : (Nat → Prop) → List El → World → Prop} (hC : Caller l m B N D J Jx) (yb ab g o cap len node d at0 : Nat) (ls : List L) (O : Nat → Prop) (pre : List El) (W : World)
    (hlen : ls.length = len) (hsm : at0 + len ≤ 1000000) (hd : d ≤ len) (h512 : ∀ b ∈ ls, b.length = 512) (hN : pre.length + len ≤ N)
    (hyb : W.cell? ⟨yb, 0, none⟩ = some (.func (.yield l) #[] #[])) (hyO : ¬ O yb ∧ yb ≠ l ∧ yb ≠ ab) (hab : Boxed W ab 3 (.int .i64 (at0 : Int))) (haO : ¬ O ab ∧ ab ≠ l ∧ B ≤ ab) (hgO : ¬ O g ∧ g ≠ l ∧ g ≠ ab)
    (hL : ∀ i b, ls[i]? = some b → ∃ A1 c1, W.cell? ⟨g, o + i, none⟩ = some (.slice A1 512 c1) ∧ RdA W A1 c1 (bs b)) (hJ : J O pre W) :
    CallsIn Fence.wide n Try.prog 41 #[.int .i64 (node : Int), .slice (some ⟨g, o, none⟩) len cap, .int .i64 (d : Int), .pointer (some ⟨yb, 0, none⟩), .pointer (some ⟨ab, 0, none⟩)] W fun e Y =>
      (e = .returned (.bool true) ∧ ∃ O' xs, xs.map (·.1) = ptsOf node ls d at0 ∧ J O' (pre ++ xs) Y ∧ Boxed Y ab 3 (.int .i64 ((at0 + len : Nat) : Int)) ∧ (∀ k, O' k → O k ∨ W.heap.size ≤ k) ∧ Rnd (fun j => O j ∨ j = l ∨ j = ab) W Y) ∨
      (e = .returned (.bool false) ∧ ∃ O' xs, xs.map (·.1) <+: ptsOf node ls d at0 ∧ Jx O' (pre ++ xs) Y) := by
  have hcap : True := trivial
  refine callsIn_of_wp Try.func41 rfl trivial ?_ rfl
  simp only [Try.ntmps41, List.size_toArray, List.length_cons, List.length_nil, Nat.reduceAdd, Nat.reduceSub, Array.replicate_succ, Array.replicate_zero, List.push_toArray, List.append_toArray, List.nil_append, List.cons_append]
  have HC := Lib.hid hC
  have HyO := Lib.hid hyO
  have HaO := Lib.hid haO
  have HgO := Lib.hid hgO
  have HL := Lib.hid hL
  have Hyb := Lib.hid hyb
  have Hlen := Lib.hid hlen
  have H5 := Lib.hid h512
  have HJ0 := Lib.hid hJ
  have Hab := Lib.hid hab
  obtain ⟨z, hz⟩ : ∃ z : Int, (len : Int) - (d : Int) = z := ⟨_, rfl⟩
  have hw : IntKind.i64.wrap ((len : Int) - (d : Int)) = z := by rw [IntKind.wrap_i64]; omega
  clear hC hyO haO hgO hL hyb hlen h512 hJ hab
  gi_wp2
  gi_loopw [18] (fun i wr => ∃ (k : Nat) (O' : Nat → Prop) (xs : List El), k ≤ len ∧ i = .int .i64 (k : Int) ∧ Hid (xs.map (·.1) = (ptsOf node ls d at0).take k) ∧ Hid (J O' (pre ++ xs) wr) ∧ Hid (Boxed wr ab 3 (.int .i64 ((at0 + k : Nat) : Int))) ∧
    Hid (∀ j, O' j → O j ∨ W.heap.size ≤ j) ∧ Hid (Rnd (fun j => O j ∨ j = l ∨ j = ab) W wr)) (fun i _ => len - (intOf i).toNat)
  case atStart => exact ⟨0, O, [], by omega, rfl, Lib.hid (by simp), Lib.hid (by simpa using HJ0.out), Hab, Lib.hid (fun _ h => .inl h), Lib.hid (Rnd.refl W)⟩
  case round =>
    obtain ⟨k, O', xs, hk, rfl, Hx, HJ, Hb, Hs, HR⟩ := hrel
    by_cases hlt : k < len
    · obtain ⟨b, hb⟩ : ∃ b, ls[k]? = some b := ⟨_, List.getElem?_eq_getElem (by have := Hlen.out; omega)⟩
      obtain ⟨A1, c1, hcell, hrd⟩ := HL.out k b hb
      have hb5 := H5.out b (List.mem_of_getElem? hb)
      have q0 : wr.cell? ⟨g, o + k, none⟩ = some (.slice A1 512 c1) := cell_rnd HR.out hcell (no3 HgO.out)
      have q1 : wr.cell? ⟨yb, 0, none⟩ = some (.func (.yield l) #[] #[]) := cell_rnd HR.out Hyb.out (no3 HyO.out)
      have q2 := Hb.out.cell
      have hE : HasE D ((⟨at0 + k, node, dataOf len d k, b⟩, A1, c1) : El) wr := ⟨hb5, fun hD => rd_rnd HR.out hrd (fun b1 o1 e hx => by
        subst e
        obtain ⟨i, x, hx⟩ := rd_byte hrd (ne_of_512 hb5)
        rintro (h | h | h)
        · exact HC.out.free hD O pre W HJ0.out b1 i x h hx
        · subst h
          rw [HC.out.recd O pre W HJ0.out i] at hx
          cases hx
        · subst h
          have hb' : Blk W b1 3 #[.int .i64 (at0 : Int)] := Hab.out
          rw [hb'.cell i] at hx
          have hm := Array.mem_of_getElem? hx
          simp at hm)⟩
      have hxl : xs.length = k := by
        have := congrArg List.length Hx.out
        rw [List.length_map, List.length_take, ptsOf_length, Hlen.out] at this
        omega
      obtain ⟨fn, tmps, assign, body, hy, hR2⟩ := yield_any (m' := n - 1) (HC.out.round O' (pre ++ xs) _ wr HJ.out hE (by rw [List.length_append, hxl]; omega))
      dsimp only [encE] at hy
      obtain ⟨p, hp⟩ : ∃ p : Int, ((at0 + k : Nat) : Int) = p := ⟨_, rfl⟩
      obtain ⟨q, hq⟩ : ∃ q : Int, dataOf len d k = q := ⟨_, rfl⟩
      rw [hp] at q2
      rw [hp, hq] at hy
      have hw2 : IntKind.i64.wrap ((k : Int) - z) = (k : Int) - z := by rw [IntKind.wrap_i64]; omega
      have hmx : max ((k : Int) - z) (-1) = q := by rw [← hq, ← hz]; unfold dataOf; split <;> omega
      have Hp := Lib.hid hp
      have Hk := Lib.hid (show (ptsOf node ls d at0).take (k + 1) = (ptsOf node ls d at0).take k ++ [⟨at0 + k, node, dataOf len d k, b⟩] by rw [ptsOf_step hb, Hlen.out])
      have hw3 : IntKind.i64.wrap (p + 1) = p + 1 := by rw [IntKind.wrap_i64]; omega
      clear hb hcell hrd hb5 hE hxl hp hq
      gi_wp2
      refine hR2.mono ?_
      rintro e Y (⟨rfl, O2, hJ2, hs2, hR3⟩ | ⟨rfl, O2, hJ2⟩)
      · have hb2 : Boxed Y ab 3 (.int .i64 p) := by
          have := Hb.out
          rw [Hp.out] at this
          refine hR3.same this ?_
          have h1 := HaO.out
          have h2 := Hab.out.lt
          rintro (h | h)
          · rcases Hs.out _ h with h | h
            · exact h1.1 h
            · omega
          · exact h1.2.1 h
        have q3 := hb2.cell
        have q4 := hb2.frozen
        have Hb2 := Lib.hid hb2
        have HJ2 := Lib.hid hJ2
        have Hs2 := Lib.hid hs2
        have HR3 := Lib.hid hR3
        clear hb2 hJ2 hs2 hR3
        gi_wp2
        go_roundw
        case rel =>
          have hsub : ∀ j, O2 j → O j ∨ W.heap.size ≤ j := fun j hj => by
            rcases Hs2.out j hj with h | h
            · exact Hs.out j h
            · exact .inr (Nat.le_trans HR.out.size h)
          have hno : ¬ O2 ab := fun h => by
            have h2 := Hab.out.lt
            rcases hsub _ h with h | h
            · exact HaO.out.1 h
            · omega
          refine ⟨k + 1, O2, xs ++ [(⟨at0 + k, node, dataOf len d k, b⟩, A1, c1)], by omega, by go_num, Lib.hid ?_, Lib.hid ?_, Lib.hid ?_, Lib.hid hsub, Lib.hid ?_⟩
          · rw [List.map_append, Hx.out, Hk.out]
            rfl
          · rw [← List.append_assoc]
            exact HC.out.stay O2 _ Y _ HJ2.out (sme_box Hb2.out HaO.out.2.2 hno _)
          · rw [show ((at0 + (k + 1) : Nat) : Int) = p + 1 by rw [← Hp.out]; omega]
            exact Hb2.out.set _
          · refine Rnd.setCell (HR.out.trans HR3.out fun j hj => ?_) (.inl (.inr (.inr rfl))) _
            rcases hj with h | h
            · exact (Hs.out j h).imp .inl id
            · exact .inl (.inr (.inl h))
        case measure => simp [intOf]; omega
      · gi_wp2
        refine bodyPost_ret (results_tmp rfl _ _ _) rfl ?_
        refine .inr ⟨rfl, O2, xs ++ [(⟨at0 + k, node, dataOf len d k, b⟩, A1, c1)], ?_, by rw [← List.append_assoc]; exact hJ2⟩
        rw [List.map_append, Hx.out]
        exact Hk.out ▸ List.take_prefix (k + 1) _
    · obtain rfl : k = len := by omega
      gi_wp2
      refine bodyPost_ret (results_tmp rfl _ _ _) rfl ?_
      refine .inl ⟨rfl, O', xs, ?_, HJ.out, Hb.out, Hs.out, HR.out⟩
      rw [Hx.out, ← Hlen.out]
      exact List.take_of_length_le (by rw [ptsOf_length]; omega)

/-- What a row of blocks of the iterator's own holds. -/
theorem rows_at {W : World} {lo : Nat} {e : TypeId} {v : Value} {ls : List L} (h : Base.Rows W lo e v ls) (hne : ls ≠ []) (h5 : ∀ b ∈ ls, b.length = 512) :
    ∃ g cap, v = .slice (some ⟨g, 0, none⟩) ls.length cap ∧ lo ≤ g ∧ g < W.heap.size ∧ AllSl W v ∧ ∀ i b, ls[i]? = some b → ∃ A1 c1, W.cell? ⟨g, 0 + i, none⟩ = some (.slice A1 512 c1) ∧ RdA W A1 c1 (bs b) := by
  obtain ⟨us, h1, h2, h3, h4⟩ := h
  obtain ⟨g, cap, rfl, hl, hlt⟩ := h1.form (by rintro rfl; exact hne (List.eq_nil_of_length_eq_zero (by simpa using h3.symm)))
  refine ⟨g, cap, by rw [h3], hl, hlt, h2, fun i b hb => ?_⟩
  obtain ⟨u, hu, hr⟩ := h4 i b hb
  have hc : W.cell? ⟨g, i, none⟩ = some u := by
    obtain ⟨A, c, he, _, hc⟩ := h1.rd
    obtain ⟨b', o, rfl, _, hu'⟩ := hc (by rintro rfl; simp at hu)
    simp only [Value.slice.injEq, Option.some.injEq, Addr.mk.injEq, and_true] at he
    obtain ⟨⟨rfl, rfl⟩, -, -⟩ := he
    have := hu' i u hu
    rwa [Nat.zero_add] at this
  obtain ⟨A1, c1, rfl, hA⟩ := RdA.of hr
  rw [bs_length, h5 b (List.mem_of_getElem? hb)] at hc
  exact ⟨A1, c1, by rw [Nat.zero_add]; exact hc, hA⟩
theorem at_keep {W X : World} {g o : Nat} {ls : List L} (h : ∀ i b, ls[i]? = some b → ∃ A1 c1, W.cell? ⟨g, o + i, none⟩ = some (.slice A1 512 c1) ∧ RdA W A1 c1 (bs b)) (hs : Stp W X) :
    ∀ i b, ls[i]? = some b → ∃ A1 c1, X.cell? ⟨g, o + i, none⟩ = some (.slice A1 512 c1) ∧ RdA X A1 c1 (bs b) := fun i b hb => by
  obtain ⟨A1, c1, h1, h2⟩ := h i b hb
  exact ⟨A1, c1, (stp_cell hs h1).trans h1, h2.keep hs⟩
theorem rdL_at {W : World} {g cap : Nat} {ls : List L} (h : RdL W (some ⟨g, 0, none⟩) cap ls) (h5 : ∀ b ∈ ls, b.length = 512) :
    ∀ i b, ls[i]? = some b → ∃ A1 c1, W.cell? ⟨g, 0 + i, none⟩ = some (.slice A1 512 c1) ∧ RdA W A1 c1 (bs b) := fun i b hb => by
  obtain ⟨b', o, A1, c1, e, hc, hr⟩ := h.at_ hb
  simp only [Option.some.injEq, Addr.mk.injEq, and_true] at e
  obtain ⟨rfl, rfl⟩ := e
  rw [h5 b (List.mem_of_getElem? hb)] at hc
  exact ⟨A1, c1, hc, hr⟩

theorem zeros_2 (w : World) : Calls Try.prog 42 #[.int .i64 2] w fun e w' => ∃ g cap, e = .returned (.slice (some ⟨g, 0, none⟩) 2 cap) ∧ w.heap.size ≤ g ∧ RdL w' (some ⟨g, 0, none⟩) cap endsV ∧ Stp w w' :=
  Block.zeros_f 2 (by omega) (by omega) w
/-- The two blocks behind. -/
theorem hand_0 {l m B N : Nat} {D : Prop} {J Jx : (Nat → Prop) → List El → World → Prop} (hC : Caller l m B N D J Jx) (yb ab g cap node at0 : Nat) (O : Nat → Prop) (pre : List El) (W : World)
    (hsm : at0 + 2 ≤ 1000000) (hN : pre.length + 2 ≤ N)
    (hyb : W.cell? ⟨yb, 0, none⟩ = some (.func (.yield l) #[] #[])) (hyO : ¬ O yb ∧ yb ≠ l ∧ yb ≠ ab) (hab : Boxed W ab 3 (.int .i64 (at0 : Int))) (haO : ¬ O ab ∧ ab ≠ l ∧ B ≤ ab) (hgO : ¬ O g ∧ g ≠ l ∧ g ≠ ab)
    (hL : ∀ i b, endsV[i]? = some b → ∃ A1 c1, W.cell? ⟨g, 0 + i, none⟩ = some (.slice A1 512 c1) ∧ RdA W A1 c1 (bs b)) (hJ : J O pre W) :
    CallsIn Fence.wide 1 Try.prog 41 #[.int .i64 (node : Int), .slice (some ⟨g, 0, none⟩) 2 cap, .int .i64 0, .pointer (some ⟨yb, 0, none⟩), .pointer (some ⟨ab, 0, none⟩)] W fun e Y =>
      ∃ r, e = .returned (.bool r) ∧ ((∃ xs O', xs.map (·.1) = ptsOf node endsV 0 at0 ∧ J O' (pre ++ xs) Y) ∨ (∃ xs O', xs.map (·.1) <+: ptsOf node endsV 0 at0 ∧ Jx O' (pre ++ xs) Y)) := by
  refine (hand_in 1 (by omega) hC yb ab g 0 cap 2 node 0 at0 endsV O pre W endsV_length hsm (by omega) (fun b hb => ends_512 hb) hN hyb hyO hab haO hgO hL hJ).mono ?_
  rintro e Y (⟨h, O', xs, h1, h2, -⟩ | h)
  · exact ⟨_, h, .inl ⟨xs, O', h1, h2⟩⟩
  · obtain ⟨h, O', xs, h1, h2⟩ := h
    exact ⟨_, h, .inr ⟨xs, O', h1, h2⟩⟩

set_option maxRecDepth 100000 in
set_option maxHeartbeats 2000000 in
/-- The iterator. -/
theorem parts_in (n : Nat) {l m B N : Nat} {D : Prop} {J Jx : (Nat → Prop) → List El → World → Prop} (hC : Caller l m B N D J Jx) (t : List Nd) (A : Option Addr) (c tb : Nat) (O : Nat → Prop) (w00 W : World)
    (ha : RdN w00 A c t) (hl : t.length ≤ 1000) (hs : ∀ n ∈ t, SmallN n) (h00 : Stp w00 W) (htb : W.cell? ⟨tb, 0, none⟩ = some (.slice A t.length c)) (hB : B ≤ W.heap.size) (htl : tb ≠ l) (htW : tb < W.heap.size) (hll : w00.heap.size ≤ l)
    (hl2 : l < W.heap.size) (htO : ¬ O tb) (hnO : ∀ k, k < w00.heap.size → ¬ O k) (hN : (partsS t).length ≤ N) (hJ : J O [] W) :
    CallsIn Fence.wide n Try.prog 40 #[.func (.yield l) #[] #[], .pointer (some ⟨tb, 0, none⟩)] W fun e Y => (∃ v, e = .returned v) ∧
      ((∃ xs O, xs.map (·.1) = partsS t ∧ J O xs Y) ∨ (∃ pre O, pre.map (·.1) <+: partsS t ∧ Jx O pre Y)) := by
  refine callsIn_wide.2 ?_
  have HC := Lib.hid hC
  have Ha := Lib.hid ha
  have Hs := Lib.hid hs
  have HJ := Lib.hid hJ
  have Hb0 := Boxed.new W 73 (.func (.yield l) #[] #[])
  have q0 : (W.alloc (.cells #[.func (.yield l) #[] #[]] 73)).cell? ⟨tb, 0, none⟩ = some (.slice A t.length c) := ((Stp.alloc (Stp.refl W) _).cell (p := ⟨tb, 0, none⟩) (World.block_lt_of_cell? W _ htb)).trans htb
  have Htb := Lib.hid htb
  have H0 := Lib.hid (Stp.trans h00 (Stp.alloc (Stp.refl W) (.cells #[.func (.yield l) #[] #[]] 73)))
  have H1 := Lib.hid (Stp.alloc (Stp.refl W) (.cells #[.func (.yield l) #[] #[]] 73))
  have hmf : ∀ (fn : Fn) (first cap : Array Value) (w : World), (Instr.makeFunc fn first cap).run Try.prog w = .ok (.func fn first cap) w := fun _ _ _ _ => rfl
  clear hC ha hs hJ htb
  cases hm : mayT t
  · have Hm := Lib.hid hm
    clear hm
    go_enter Try.func40, Try.ntmps40
    go_wp2_with (go_at_call 10; (with_reducible refine (Tree.tmay_s t A c _ (Ha.out.keep H0.out) hl Hs.out).mono ?_); rintro e w1 ⟨rfl, hs⟩; rw [Hm.out]; have H2 := Lib.hid (Stp.trans H1.out hs); clear hs)
    refine bodyPost_ret (results_none rfl _ _ _) rfl ⟨⟨_, rfl⟩, .inl ⟨[], O, by rw [parts_no Hm.out]; rfl, HC.out.stay O [] W _ HJ.out (Sme.of_stp H2.out)⟩⟩
  · have Hm := Lib.hid hm
    clear hm
    go_enter Try.func40, Try.ntmps40
    go_wp2_with (go_at_call 10; (with_reducible refine (Tree.tmay_s t A c _ (Ha.out.keep H0.out) hl Hs.out).mono ?_); rintro e w1 ⟨rfl, hs⟩; rw [Hm.out]; have H2 := Lib.hid (Stp.trans H1.out hs); replace Hb0 := boxed_kept Hb0 hs; replace q0 := (stp_cell (hs.alloc (.cells #[.int .i64 0] 3)) q0).trans q0; clear hs)
    obtain ⟨yb, hyb⟩ : ∃ x, W.heap.size = x := ⟨_, rfl⟩
    obtain ⟨ab, hab⟩ : ∃ x, w1.heap.size = x := ⟨_, rfl⟩
    obtain ⟨V, hV⟩ : ∃ x, w1.alloc (.cells #[.int .i64 0] 3) = x := ⟨_, rfl⟩
    have hb0 : Boxed V ab 3 (.int .i64 0) := by rw [← hV, ← hab]; exact Boxed.new _ _ _
    have hb1 : Boxed V yb 73 (.func (.yield l) #[] #[]) := by rw [← hV, ← hyb]; exact Hb0.alloc _
    have hWV : Stp W V := by rw [← hV]; exact Stp.alloc H2.out _
    have hya : yb < ab := by rw [← hyb, ← hab]; exact Hb0.lt
    have hno : ∀ k, O k → k < yb := fun k hk => by rw [← hyb]; exact HC.out.lt O [] W HJ.out k hk
    have hVJ : J O [] V := HC.out.stay O [] W _ HJ.out (Sme.of_stp hWV)
    have haV : ab < V.heap.size := hb0.lt
    have h0V : Stp w00 V := Stp.trans h00 hWV
    have h00s := h00.size
    rw [hV] at q0
    rw [hV, hab, hyb]
    rw [hyb] at hl2 hB h00s htW
    have HVJ := Lib.hid hVJ
    have Hb := Lib.hid hb0
    have Hy := Lib.hid hb1
    have H0V := Lib.hid h0V
    have Hno := Lib.hid hno
    have HnO := Lib.hid hnO
    have Q0 := Lib.hid q0
    clear hb0 hb1 hWV hno hVJ h0V hV hab hyb Hb0 H2 H1 H0 Htb hnO HJ h00 q0
    have hl5 : (t.length : Int) < 9223372036854775808 := by omega
    go_loopw [15] (fun i wr => ∃ (k : Nat) (O' : Nat → Prop) (xs : List El), k ≤ t.length ∧ i = .int .i64 (k : Int) ∧ Hid (xs.map (·.1) = nodesP t k) ∧ Hid (J O' xs wr) ∧ Hid (Boxed wr ab 3 (.int .i64 (startN t k : Int))) ∧
      Hid (∀ j, O' j → O j ∨ V.heap.size ≤ j) ∧ Hid (Rnd (fun j => O j ∨ j = l ∨ j = ab) V wr)) (fun i _ => t.length - (intOf i).toNat)
    case atStart => exact ⟨0, O, [], by omega, rfl, Lib.hid rfl, HVJ, by rw [start_zero]; exact Hb, Lib.hid (fun _ h => .inl h), Lib.hid (Rnd.refl V)⟩
    case round =>
      obtain ⟨k, O', xs, hk, rfl, Hx, HJ, Hb, Hs2, HR⟩ := hrel
      have h0w : Stp w00 wr := Below.trans H0V.out (HR.out.below H0V.out.size fun j hj => no3 ⟨HnO.out j hj, by omega, by omega⟩)
      by_cases hlt : k < t.length
      · obtain ⟨n, hn⟩ : ∃ n, t[k]? = some n := ⟨_, List.getElem?_eq_getElem hlt⟩
        obtain ⟨b, o, rfl, hbl, q0, q1, q2, q3, q4, q5, q6, q7⟩ := (Ha.out.keep h0w).cells hn
        have Hk := Lib.hid hn
        have Hsn := Lib.hid (Hs.out n (List.mem_of_getElem? hn))
        clear hn
        have hkl : startN t k + (putE n).length ≤ (partsS t).length := by
          have h1 := start_le t (k + 1)
          have h2 := all_length Hm.out
          rw [start_step Hk.out] at h1
          rw [start_end] at h2
          rw [parts_length]
          omega
        have hxl : xs.length = startN t k := by rw [← nodesP_length t k (by omega), ← Hx.out, List.length_map]
        have hal : (partsS t).length ≤ 402 := by rw [parts_length]; exact all_le
        have hyw : wr.cell? ⟨yb, 0, none⟩ = some (.func (.yield l) #[] #[]) := cell_rnd HR.out Hy.out.cell (no3 ⟨fun h => by have := Hno.out yb h; omega, by show yb ≠ l; omega, by show yb ≠ ab; omega⟩)
        have hyo : ¬ O' yb := fun h => by
          rcases Hs2.out yb h with h | h
          · have := Hno.out yb h; omega
          · omega
        have hao : ¬ O' ab := fun h => by
          rcases Hs2.out ab h with h | h
          · have := Hno.out ab h; omega
          · omega
        have hlo := HC.out.lt O' xs wr HJ.out
        have hVr := HR.out.size
        have Hkl := Lib.hid hkl
        have Hxl := Lib.hid hxl
        have Hal := Lib.hid hal
        have Hyw := Lib.hid hyw
        have Hyo := Lib.hid hyo
        have Hao := Lib.hid hao
        have Hlo := Lib.hid hlo
        have Hone := Lib.hid (Tree.may_one Hm.out Hk.out)
        have Hne := Lib.hid (show putE n ≠ [] by intro e; have := put_pos Hone.out; rw [e] at this; simp at this)
        obtain ⟨S, hS⟩ : ∃ x, startN t k = x := ⟨_, rfl⟩
        have HS := Lib.hid hS
        clear hkl hxl hal hyw hyo hao hlo hS
        go_upto_region 7 with fail
        have hf := Blk.new wr 32 (ncells n)
        have hst := Stp.alloc (Stp.refl wr) (.cells (ncells n) 32)
        generalize wr.alloc (.cells (ncells n) 32) = W6 at hf hst ⊢
        have Hf := Lib.hid hf
        have Hst := Lib.hid hst
        obtain ⟨q0, q1, q2, q3, q4, q5, q6, q7⟩ := nd_cells hf
        clear hf hst
        go_wp2_with (first
          | (go_at_call 13; (with_reducible refine (eput_r n Hsn.out _).mono ?_); rintro e w3 ⟨v, rfl, hr, hs⟩; obtain ⟨g, cap, rfl, hg, -, -, hat⟩ := rows_at hr Hne.out (fun b hb => put_512 hb); have Hat := Lib.hid hat; have Hg := Lib.hid (Nat.le_trans Hst.out.size hg); replace Hf := Lib.hid (Hf.out.keep hs Hf.out.lt); replace Hst := Lib.hid (Stp.trans Hst.out hs); clear hs hr hg hat q0 q1 q2 q3 q4 q5 q6 q7; obtain ⟨q0, q1, q2, q3, q4, q5, q6, q7⟩ := nd_cells Hf.out)
          | (go_at_call 21; (with_reducible refine (edata_s n Hsn.out _).mono ?_); rintro e w4 ⟨rfl, hs⟩; replace Hat := Lib.hid (at_keep Hat.out hs); replace Hst := Lib.hid (Stp.trans Hst.out hs); clear hs q0 q1 q2 q3 q4 q5 q6 q7))
        (with_reducible refine (callsIn_wide.1 (hand_in 1 (by omega) HC.out yb ab g 0 cap (putE n).length k (dataE n) S (putE n) O' xs w4 rfl (by have := Hkl.out; have := Hal.out; have := HS.out; omega) (data_le n) (fun b hb => put_512 hb) (by have := Hkl.out; have := Hxl.out; omega)
          ((stp_cell Hst.out Hyw.out).trans Hyw.out) ⟨Hyo.out, by omega, by omega⟩ (by have := boxed_kept Hb.out Hst.out; rwa [HS.out] at this) ⟨Hao.out, by omega, by omega⟩ ⟨fun h => by have := Hlo.out g h; have := Hg.out; omega, by have := Hg.out; omega, by have := Hg.out; omega⟩ Hat.out (HC.out.stay O' xs wr _ HJ.out (Sme.of_stp Hst.out)))).mono ?_)
        rintro e Y (⟨rfl, O2, zs, hz, hJ2, hb2, hs2, hR2⟩ | ⟨rfl, O2, zs, hz, hJ2⟩)
        · have HJ2 := Lib.hid hJ2
          have Hb2 := Lib.hid hb2
          have Hs3 := Lib.hid hs2
          have HR2 := Lib.hid hR2
          have Hz := Lib.hid hz
          clear hz hJ2 hb2 hs2 hR2
          go_wp2_with fail
          go_roundw
          case rel =>
            refine ⟨k + 1, O2, xs ++ zs, by omega, by go_num, Lib.hid ?_, HJ2, Lib.hid ?_, Lib.hid ?_, Lib.hid ?_⟩
            · rw [List.map_append, Hx.out, Hz.out, nodesP_step Hk.out, HS.out]
            · rw [start_step Hk.out, HS.out]
              exact Hb2.out
            · intro j hj
              rcases Hs3.out j hj with h | h
              · exact Hs2.out j h
              · exact .inr (Nat.le_trans hVr (Nat.le_trans Hst.out.size h))
            · refine (HR.out.trans (O' := O) (Rnd.of_stp Hst.out) (fun j hj => .inl (.inl hj))).trans HR2.out fun j hj => ?_
              rcases hj with h | h
              · exact (Hs2.out j h).imp .inl id
              · exact .inl (.inr h)
          case measure => simp [intOf]; omega
        · go_wp2_with fail
          refine bodyPost_ret (results_none rfl _ _ _) rfl ⟨⟨_, rfl⟩, .inr ⟨xs ++ zs, O2, ?_, hJ2⟩⟩
          rw [List.map_append, Hx.out]
          refine List.IsPrefix.trans ?_ (nodes_pre Hm.out (k := k + 1) (by omega))
          rw [nodesP_step Hk.out, HS.out]
          exact (List.prefix_append_right_inj _).2 hz
      · obtain rfl : k = t.length := by omega
        have hkl : startN t t.length + 2 = (partsS t).length := by
          rw [parts_length, all_length Hm.out]
        have hxl : xs.length = startN t t.length := by rw [← nodesP_length t t.length (Nat.le_refl _), ← Hx.out, List.length_map]
        have hal : (partsS t).length ≤ 402 := by rw [parts_length]; exact all_le
        have hyw : wr.cell? ⟨yb, 0, none⟩ = some (.func (.yield l) #[] #[]) := cell_rnd HR.out Hy.out.cell (no3 ⟨fun h => by have := Hno.out yb h; omega, by show yb ≠ l; omega, by show yb ≠ ab; omega⟩)
        have htw : wr.cell? ⟨tb, 0, none⟩ = some (.slice A t.length c) := cell_rnd HR.out Q0.out (no3 ⟨htO, htl, by show tb ≠ ab; omega⟩)
        have hyo : ¬ O' yb := fun h => by
          rcases Hs2.out yb h with h | h
          · have := Hno.out yb h; omega
          · omega
        have hao : ¬ O' ab := fun h => by
          rcases Hs2.out ab h with h | h
          · have := Hno.out ab h; omega
          · omega
        have hlo := HC.out.lt O' xs wr HJ.out
        have hVr := HR.out.size
        obtain ⟨S, hS⟩ : ∃ x, startN t t.length = x := ⟨_, rfl⟩
        rw [hS] at hkl hxl
        have HS := Lib.hid hS
        have Hkl := Lib.hid hkl
        have Hxl := Lib.hid hxl
        have Hal := Lib.hid hal
        have Hyw := Lib.hid hyw
        have Hyo := Lib.hid hyo
        have Hao := Lib.hid hao
        have Hlo := Lib.hid hlo
        have Htw := Lib.hid htw
        have hd : wr.drew.cell? ⟨tb, 0, none⟩ = some (.slice A t.length c) := htw
        have Hst := Lib.hid (show Stp wr wr.drew from Stp.drewN (Stp.refl wr) 1)
        have Hnn := Lib.hid (And.intro hVr (And.intro haV (And.intro hya (And.intro hl2 htW))))
        have HN := Lib.hid hN
        have HlB := Lib.hid (And.intro hB (And.intro hll h00s))
        clear hkl hxl hal hyw hyo hao hlo hS htw hk hlt hVr haV hya hl2 htW hB hll h00s htO htl hN hl h0w
        go_upto_region 10 with fail
        go_region_with (first
          | (go_at_call 42; (with_reducible refine (zeros_2 _).mono ?_); rintro e w5 ⟨g, cap, rfl, hg, hr, hs⟩; have Hat := Lib.hid (rdL_at hr (fun b hb => ends_512 hb)); have Hg := Lib.hid (Nat.le_trans Hst.out.size hg); replace Hst := Lib.hid (Stp.trans Hst.out hs); have hd := (stp_cell hs hd).trans hd; clear hs hr hg)
          | (go_at_call 41; (with_reducible refine (callsIn_wide.1 (hand_0 HC.out yb ab _ _ t.length S O' xs _ (by have := Hkl.out; have := Hal.out; omega) (by have := Hkl.out; have := Hxl.out; have := HN.out; omega) ((stp_cell Hst.out Hyw.out).trans Hyw.out) ⟨Hyo.out, by have := Hnn.out; omega, by have := Hnn.out; omega⟩ (by have := boxed_kept Hb.out Hst.out; rwa [HS.out] at this) ⟨Hao.out, by have := Hnn.out; omega, by have := Hnn.out; have := HlB.out; omega⟩ ⟨fun h => by have := Hlo.out _ h; have := Hg.out; omega, by have := Hg.out; have := Hnn.out; omega, by have := Hg.out; have := Hnn.out; omega⟩ Hat.out (HC.out.stay O' xs wr _ HJ.out (Sme.of_stp Hst.out)))).mono ?_); rintro e Y ⟨r, rfl, h⟩; have H := Lib.hid h; clear h))
        all_goals go_wp2_with fail
        all_goals go_end0
        all_goals refine ⟨⟨_, rfl⟩, ?_⟩
        all_goals
          rw [parts_yes Hm.out, HS.out]
          rcases H.out with ⟨zs, O2, h1, h2⟩ | ⟨zs, O2, h1, h2⟩
          · exact .inl ⟨xs ++ zs, O2, by rw [List.map_append, Hx.out, h1], h2⟩
          · exact .inr ⟨xs ++ zs, O2, by rw [List.map_append, Hx.out]; exact (List.prefix_append_right_inj _).2 h1, h2⟩
end Go.Proofs.Ytcgdeeinnfkgkaa.Stream
