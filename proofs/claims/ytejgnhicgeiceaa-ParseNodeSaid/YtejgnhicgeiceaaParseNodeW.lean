/-
  The walk of the statement ParseNode over package parse's contracts: the statement itself is proved in a text of its own.
-/
import Derived.Test.YtejgnhicgeiceaaParseTypesW
import Derived.Test.YtejgnhicgeiceaaParseSafeW
namespace Go.Proofs.Ytejgnhicgeiceaa.Parse
open Go.RowKit Go.Proofs.Ytejgnhicgeiceaa.Str Go.Proofs.Ytejgnhicgeiceaa.Base Go.Proofs.Ytejgnhicgeiceaa.Node Go.Proofs.Ytejgnhicgeiceaa.Long Go.Proofs.Ytejgnhicgeiceaa.Entry
open Go.Proofs.Ytejgnhicgeiceaa.Tree (oneB)

def chunksN (n : Nd) : List L := if n.data = [] then [] else chunks (BlockM.manyN n.data.length) n.data
theorem flat_step' {C : List L} {k : Nat} {c : L} (h : C[k]? = some c) : (C.take (k + 1)).flatten = (C.take k).flatten ++ c := by
  rw [List.take_add_one, h]
  simp
theorem rde_far {W : World} {b o d g i : Nat} {xs : List Evt} (h : RdE W (some ⟨b, o, none⟩) d xs) (hne : b ≠ g) (u : Value) : RdE (W.setCell ⟨g, i, none⟩ u) (some ⟨b, o, none⟩) d xs := by
  refine ⟨h.1, fun hn => ?_⟩
  obtain ⟨b', o', e, hb, hc⟩ := h.2 hn
  cases e
  exact ⟨b, o, rfl, by simpa [World.setCell] using hb, fun q v hq => (World.cell?_of_block (a := ⟨b, o + q, none⟩) (Below.heap_setCell W ⟨g, i, none⟩ u b hne)).trans (hc q v hq)⟩
abbrev gotN (n : Nd) (d : L) : Nd := { n with data := d }
theorem evsN_is (n : Nd) : evsN n = ⟨0, bare n, []⟩ :: ((chunksN n).map (fun c => ⟨1, zeroN, c⟩) ++ [⟨2, zeroN, []⟩]) := by
  unfold evsN chunksN
  split
  · rfl
  · rfl
theorem chunksN_flat (n : Nd) : (chunksN n).flatten = n.data := by
  unfold chunksN
  split
  · rename_i h; rw [h]; rfl
  · exact chunks_flat _ _ (BlockM.manyN_le _)
theorem chunksN_len {n : Nd} (h : oneB n = true) : (chunksN n).length ≤ 8 := by
  unfold chunksN
  split
  · simp
  · have h1 := chunks_len (BlockM.manyN n.data.length) n.data
    have h2 := (bare_size h).1
    have h3 := BlockM.manyN_small (n := n.data.length) (k := 8) (by omega)
    omega

set_option maxRecDepth 100000 in
set_option maxHeartbeats 4000000 in
theorem node_s (I : ParseI) (E : PutI) (n : Nd) (hn : SmallN n) (w : World) :
    Calls Try.prog 4 #[nv n] w fun e w' => e = .returned (.bool true) ∧ Stp w w' := by
  have h0 := Stp.alloc (Stp.refl w) (.cells (ncells n) 23)
  have Hd := Lib.hid (Blk.new w 23 (ncells n))
  obtain ⟨p0, p1, p2, p3, p4, p5, p6, p7⟩ := nd_cells Hd.out
  have HI := Lib.hid I
  have HE := Lib.hid E
  have Hn := Lib.hid hn
  obtain ⟨G, hG⟩ : ∃ x, fewN n = x := ⟨_, rfl⟩
  obtain ⟨O, hO⟩ : ∃ x, oneB n = x := ⟨_, rfl⟩
  obtain ⟨P, hP⟩ : ∃ x, (putE n).length = x := ⟨_, rfl⟩
  have HG := Lib.hid hG
  have HO := Lib.hid hO
  have HP := Lib.hid hP
  clear I E hn hG hP
  cases G
  · clear hO
    go_enter Try.func4, Try.ntmps4
    go_wp2_with (first
      | (go_at_call 10; (with_reducible refine (awake_s HI.out _).mono ?_); rintro e w1 ⟨rfl, hs⟩; replace Hd := Lib.hid (Hd.out.keep hs Hd.out.lt); replace h0 := Stp.trans h0 hs; clear hs p0 p1 p2 p3 p4 p5 p6 p7; obtain ⟨p0, p1, p2, p3, p4, p5, p6, p7⟩ := nd_cells Hd.out)
      | (go_at_call 14; (with_reducible refine (Long.few_s n _).mono ?_); rintro e w3 ⟨rfl, hs⟩; rw [HG.out]; replace Hd := Lib.hid (Hd.out.keep hs Hd.out.lt); replace h0 := Stp.trans h0 hs; clear hs p0 p1 p2 p3 p4 p5 p6 p7; obtain ⟨p0, p1, p2, p3, p4, p5, p6, p7⟩ := nd_cells Hd.out))
    go_ret
    exact ⟨rfl, h0⟩
  cases O
  · clear hO
    go_enter Try.func4, Try.ntmps4
    go_wp2_with (first
      | (go_at_call 10; (with_reducible refine (awake_s HI.out _).mono ?_); rintro e w1 ⟨rfl, hs⟩; replace Hd := Lib.hid (Hd.out.keep hs Hd.out.lt); replace h0 := Stp.trans h0 hs; clear hs p0 p1 p2 p3 p4 p5 p6 p7; obtain ⟨p0, p1, p2, p3, p4, p5, p6, p7⟩ := nd_cells Hd.out)
      | (go_at_call 14; (with_reducible refine (Long.few_s n _).mono ?_); rintro e w3 ⟨rfl, hs⟩; rw [HG.out]; replace Hd := Lib.hid (Hd.out.keep hs Hd.out.lt); replace h0 := Stp.trans h0 hs; clear hs p0 p1 p2 p3 p4 p5 p6 p7; obtain ⟨p0, p1, p2, p3, p4, p5, p6, p7⟩ := nd_cells Hd.out)
      | (go_at_call 15; (with_reducible refine (HE.out.put n _ rfl Hn.out _).mono ?_); rintro e w5 ⟨B5, d5, rfl, hr, hs⟩; rw [HO.out, HP.out]; have Hr := Lib.hid (show RdL w5 B5 d5 (putE n) from hr); clear hr; replace Hd := Lib.hid (Hd.out.keep hs Hd.out.lt); replace h0 := Stp.trans h0 hs; clear hs p0 p1 p2 p3 p4 p5 p6 p7; obtain ⟨p0, p1, p2, p3, p4, p5, p6, p7⟩ := nd_cells Hd.out))
    go_ret
    exact ⟨rfl, h0⟩
  have hrun := run_node' hO
  rw [HP.out] at hrun
  obtain ⟨Z, hZ⟩ : ∃ Z, zeroS = Z := ⟨_, rfl⟩
  obtain ⟨C, hC⟩ : ∃ C, chunksN n = C := ⟨_, rfl⟩
  obtain ⟨K, hK⟩ : ∃ K, C.length = K := ⟨_, rfl⟩
  have hK8 : K ≤ 8 := by rw [← hK, ← hC]; exact chunksN_len hO
  obtain ⟨Y, hY⟩ : ∃ Y, evsN n = Y := ⟨_, rfl⟩
  have hYis := evsN_is n
  rw [hY, hC] at hYis
  rw [hY] at hrun
  have hYl : Y.length = K + 2 := by rw [hYis]; simp [hK]
  have hrun2 : runS zeroS (putE n) = (Z, Y, P, 0) := by rw [hrun, hZ]
  have HR := Lib.hid hrun2
  have HY := Lib.hid hYl
  have HY0 := Lib.hid hYis
  have HYl := Lib.hid (show Y[K + 1]? = some ⟨2, zeroN, []⟩ by rw [hYis]; simp [hK])
  have HYi := Lib.hid (show ∀ j c, C[j]? = some c → Y[j + 1]? = some ⟨1, zeroN, c⟩ from fun j c hj => by
    have hjl := (List.getElem?_eq_some_iff.1 hj).1
    rw [hYis, List.getElem?_cons_succ, List.getElem?_append_left (by simpa using hjl), List.getElem?_map, hj]
    rfl)
  have HCf := Lib.hid (show C.flatten = n.data by rw [← hC]; exact chunksN_flat n)
  have HP1 := Lib.hid (show P ≤ 1000 by rw [← HP.out]; have := putE_length hO; have h2 := ahead_length hO; have h3 := (bare_size hO).1; have h4 := BlockM.manyN_small (n := n.data.length) (k := 8) (by omega); split at h2 <;> split at h2 <;> omega)
  have HP5 := Lib.hid (show ∀ b ∈ putE n, b.length < 9223372036854775808 from fun b hb => by rw [BlockM.mayV_iff.1 (putE_may n) b hb]; omega)
  have heqz : ∀ w, (Op.equalIn 10000 25 (sv Z) (.agg #[.int .i64 0, .string ⟨#[]⟩, .string ⟨#[]⟩, .int .u8 0, .int .i64 0, .int .i64 0, .int .i64 0, .int .i64 0, .string ⟨#[]⟩, .int .i64 0, .int .i64 0, .string ⟨#[]⟩, .string ⟨#[]⟩, .string ⟨#[]⟩])).run Try.prog w = .ok true w := fun w => by rw [zero_sv, hZ, eq_states]; simp
  have hng := eq_states_free
  have hng2 := Tree.noGuardN
  have hKc := Lib.hid hK
  have hK0 : ¬ (K : Int) + 2 < 2 := by omega
  have hK1 : decide ((K : Int) + 2 < 2) = false := decide_eq_false hK0
  have hw1 : IntKind.i64.wrap ((K : Int) + 2 - 1) = (K : Int) + 1 := by rw [IntKind.wrap_i64]; omega
  clear hO hrun hrun2 hZ hC hK hY hYis hYl hK0
  go_enter Try.func4, Try.ntmps4
  go_wp2_with (first
    | (go_at_call 10; (with_reducible refine (awake_s HI.out _).mono ?_); rintro e w1 ⟨rfl, hs⟩; replace Hd := Lib.hid (Hd.out.keep hs Hd.out.lt); replace h0 := Stp.trans h0 hs; clear hs p0 p1 p2 p3 p4 p5 p6 p7; obtain ⟨p0, p1, p2, p3, p4, p5, p6, p7⟩ := nd_cells Hd.out)
    | (go_at_call 14; (with_reducible refine (Long.few_s n _).mono ?_); rintro e w3 ⟨rfl, hs⟩; rw [HG.out]; replace Hd := Lib.hid (Hd.out.keep hs Hd.out.lt); replace h0 := Stp.trans h0 hs; clear hs p0 p1 p2 p3 p4 p5 p6 p7; obtain ⟨p0, p1, p2, p3, p4, p5, p6, p7⟩ := nd_cells Hd.out)
    | (go_at_call 15; (with_reducible refine (HE.out.put n _ rfl Hn.out _).mono ?_); rintro e w5 ⟨B5, d5, rfl, hr, hs⟩; rw [HO.out, HP.out]; have Hr := Lib.hid (show RdL w5 B5 d5 (putE n) from hr); clear hr; replace Hd := Lib.hid (Hd.out.keep hs Hd.out.lt); replace h0 := Stp.trans h0 hs; clear hs p0 p1 p2 p3 p4 p5 p6 p7; obtain ⟨p0, p1, p2, p3, p4, p5, p6, p7⟩ := nd_cells Hd.out)
    | (go_at_call 16; (with_reducible refine (HI.out.run zeroS _ zero_sv zeroS_small (putE n) P HP.out HP1.out HP5.out Z Y (K + 2) P 0 HR.out HY.out _ _ _ Hr.out).mono ?_); rintro e w6 ⟨B6, d6, rfl, he, hs⟩; have He := Lib.hid (he.keep (Stp.alloc (Stp.refl _) (.cells (scells Z) 25))); have Hb := Lib.hid (Blk.new w6 25 (scells Z)); replace Hd := Lib.hid ((Hd.out.keep hs Hd.out.lt).alloc (.cells (scells Z) 25)); replace h0 := Stp.alloc (Stp.trans h0 hs) (.cells (scells Z) 25); clear hs he p0 p1 p2 p3 p4 p5 p6 p7; obtain ⟨p0, p1, p2, p3, p4, p5, p6, p7⟩ := nd_cells Hd.out; obtain ⟨q0, q1, q2, q3, q4, q5, q6, q7, q8, q9, q10, q11, q12, q13⟩ := st_cells Hb.out; obtain ⟨gb, go, rfl, e0, -, e1, e2, e3, e4, e5, e6, e7, e8⟩ := (HY0.out ▸ He.out).first; obtain ⟨_, _, eq9, -, z0, -⟩ := He.out.cells HYl.out; cases eq9))
  obtain ⟨g, hgg⟩ : ∃ x, w6.heap.size + 1 = x := ⟨_, rfl⟩
  have hg : (w6.alloc (.cells (scells Z) 25)).heap.size = g := by rw [World.size_alloc]; exact hgg
  have hgb : gb < g := by rw [← hg]; exact World.block_lt_of_cell? _ _ e0
  have hwg : w.heap.size < g := by rw [← hg]; exact Hd.out.lt
  have hB : Blk ((w6.alloc (.cells (scells Z) 25)).alloc (.cells (ncells (bare n)) 23)) g 23 (ncells (gotN n [])) := by rw [← hg]; exact Blk.new _ _ _
  have hE := He.out.keep (Stp.alloc (Stp.refl _) (.cells (ncells (bare n)) 23))
  have hD := Hd.out.alloc (.cells (ncells (bare n)) 23)
  have hS := Stp.alloc h0 (.cells (ncells (bare n)) 23)
  rw [hgg]
  change Code.wp _ _ _ _ ((w6.alloc (.cells (scells Z) 25)).alloc (.cells (ncells (bare n)) 23))
  generalize (w6.alloc (.cells (scells Z) 25)).alloc (.cells (ncells (bare n)) 23) = W1 at hB hE hD hS ⊢
  have HB := Lib.hid hB
  have HE2 := Lib.hid hE
  have HD := Lib.hid hD
  have HS := Lib.hid hS
  clear hB hE hD hS hg hgg h0 Hb Hd He Hr HP1 HP5 HR heqz p0 p1 p2 p3 p4 p5 p6 p7 q0 q1 q2 q3 q4 q5 q6 q7 q8 q9 q10 q11 q12 q13 e0 e1 e2 e3 e4 e5 e6 e7 e8 z0
  go_loopw [12] (fun i wr => ∃ j : Nat, 1 ≤ j ∧ j ≤ K + 1 ∧ i = .int .i64 (j : Int) ∧ Hid (Blk wr g 23 (ncells (gotN n (C.take (j - 1)).flatten))) ∧ Hid (RdE wr (some ⟨gb, go, none⟩) d6 Y) ∧ Hid (Blk wr w.heap.size 23 (ncells n)) ∧ Hid (Stp w wr)) (fun i _ => K + 1 - (intOf i).toNat)
  case atStart => exact ⟨1, by omega, by omega, rfl, HB, HE2, HD, HS⟩
  case round =>
    obtain ⟨j, hj1, hj, rfl, Hb, He, Hd, H0⟩ := hrel
    by_cases hlt : j < K + 1
    · obtain ⟨c, hc⟩ : ∃ c, C[j - 1]? = some c := ⟨_, List.getElem?_eq_getElem (by rw [hKc.out]; omega)⟩
      have hy := HYi.out (j - 1) c hc
      rw [Nat.sub_add_cancel hj1] at hy
      obtain ⟨_, _, eq9, -, z0, -, -, -, -, -, -, -, -, z9⟩ := He.out.cells hy
      cases eq9
      obtain ⟨p0, p1, p2, p3, p4, p5, p6, p7⟩ := nd_cells Hb.out
      have p8 := Hb.out.free 7
      obtain ⟨D, hD⟩ : ∃ D, (C.take (j - 1)).flatten = D := ⟨_, rfl⟩
      have hD2 : (C.take j).flatten = D ++ c := by
        have := flat_step' hc
        rw [Nat.sub_add_cancel hj1, hD] at this
        exact this
      have hle : D.length + c.length ≤ n.data.length := by
        rw [← HCf.out, ← List.length_append, ← hD2]
        conv => rhs; rw [← List.take_append_drop j C, List.flatten_append, List.length_append]
        omega
      rw [hD] at p7
      have hadd := Str.add_ll D c (by have := Hn.out.data; omega)
      have hpj : IntKind.i64.wrap ((j : Int) + 1) = (j : Int) + 1 := by rw [IntKind.wrap_i64]; omega
      have hj0 : (0 : Int) ≤ (j : Int) := by omega
      have hj2 : (j : Int) < (K : Int) + 2 := by omega
      have hj3 : (j : Int) < (K : Int) + 1 := by omega
      have d7 : wr.drew.cell? ⟨g, 7, none⟩ = some (.string ⟨D.toArray⟩) := p7
      have d8 : wr.drew.frozen? ⟨g, 7, none⟩ = false := p8
      have d9 : wr.drew.cell? ⟨gb, go + j * 10 + 9, none⟩ = some (.string ⟨c.toArray⟩) := z9
      have HD2 := Lib.hid hD2
      have HDD := Lib.hid hD
      clear hc hy hD hD2 hle p0 p1 p2 p3 p4 p5 p6
      go_wp2_with fail
      go_region
      all_goals go_wp2_with fail
      all_goals
        go_roundw
        case rel =>
          have hb2 : Blk (wr.setCell ⟨g, 7, none⟩ (.string ⟨(D ++ c).toArray⟩)) g 23 (ncells (gotN n (C.take (j + 1 - 1)).flatten)) := by
            rw [Nat.add_sub_cancel, HD2.out]
            exact Hb.out.put 7 _
          have he2 : RdE (wr.setCell ⟨g, 7, none⟩ (.string ⟨(D ++ c).toArray⟩)) (some ⟨gb, go, none⟩) d6 Y := rde_far He.out (by omega) _
          have hd2 : Blk (wr.setCell ⟨g, 7, none⟩ (.string ⟨(D ++ c).toArray⟩)) w.heap.size 23 (ncells n) := Hd.out.far (p := ⟨g, 7, none⟩) (by show w.heap.size ≠ g; omega) _
          have hs2 : Stp w (wr.setCell ⟨g, 7, none⟩ (.string ⟨(D ++ c).toArray⟩)) := Below.setCell H0.out (p := ⟨g, 7, none⟩) (by show w.heap.size ≤ g; omega) _
          exact ⟨_, _, _, _, _, _, _, _, _, _, _, _, _, _, _, _, _, _, _, _, _, _, _, _, ⟨j + 1, by omega, by omega, by go_num, Lib.hid hb2, Lib.hid he2, Lib.hid hd2, Lib.hid (Below.drew hs2)⟩, rfl⟩
        case measure => simp [intOf]; omega
    · obtain rfl : j = K + 1 := by omega
      have hfin : gotN n (C.take (K + 1 - 1)).flatten = n := by
        rw [Nat.add_sub_cancel, ← hKc.out, List.take_length, HCf.out]
      have hb := Hb.out
      rw [hfin] at hb
      obtain ⟨p0, p1, p2, p3, p4, p5, p6, p7⟩ := nd_cells hb
      obtain ⟨q0, q1, q2, q3, q4, q5, q6, q7⟩ := nd_cells Hd.out
      have heq : ∀ w, (Op.equalIn 10000 23 (nv n) (nv n)).run Try.prog w = .ok true w := fun w => by rw [Tree.eq_nodes]; simp
      clear hb hfin hlt
      go_wp2_with fail
      go_ret
      exact ⟨rfl, H0.out⟩
end Go.Proofs.Ytejgnhicgeiceaa.Parse
