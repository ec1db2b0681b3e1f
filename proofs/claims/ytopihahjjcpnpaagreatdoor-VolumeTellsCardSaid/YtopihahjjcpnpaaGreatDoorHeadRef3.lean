/-
  The document's own answers for package head: word, fits, lay, number, sign, upto; no statement is proved here.
  The document's own answers for package head: number, sign, May; no statement is proved here.
  The document's own answers for package head: what the block is, in the document's order; no statement is proved here.
-/
import Derived.Test.YtopihahjjcpnpaaGreatDoorHeadHlp
import Derived.Test.YtopihahjjcpnpaaGreatDoorHeadM3
namespace Go.Proofs.YtopihahjjcpnpaaGreatDoor.Head
open Go.RowKit Go.Proofs.YtopihahjjcpnpaaGreatDoor.Base Go.Proofs.YtopihahjjcpnpaaGreatDoor.NumM Go.Proofs.YtopihahjjcpnpaaGreatDoor.Num

set_option maxHeartbeats 1600000 in
set_option maxRecDepth 100000 in
theorem rword_s (s : L) (m : Nat) (hs : s.length ≤ 9223372036854775807) (w : World) :
    Calls Tryz.prog 148 #[.string ⟨s.toArray⟩, .int .i64 (m : Int)] w fun e w' => e = .returned (.bool (okT s m)) ∧ Stp w w' := by
  obtain ⟨r, hr⟩ : ∃ r, okT s m = r := ⟨_, rfl⟩
  rw [hr]
  have Hr := Lib.hid hr
  clear hr
  go_enter Tryz.func148, Tryz.ntmps148
  go_wp2_with fail
  go_loopw [5] (fun i wr => ∃ k : Nat, k ≤ s.length ∧ i = .int .i64 k ∧ Stp w wr ∧ Hid ((0 : UInt8) ∉ s.take k)) (fun i _ => s.length - (intOf i).toNat)
  case atStart => exact ⟨0, by omega, rfl, Stp.refl w, Lib.hid (by simp)⟩
  case round =>
    obtain ⟨k, hk, rfl, h0, Hk⟩ := hrel
    by_cases hlt : k < s.length
    · obtain ⟨x, hl1⟩ : ∃ x, s[k]? = some x := ⟨_, List.getElem?_eq_getElem hlt⟩
      have ci := Str.idx_l s (k : Int) x (by omega) (by simpa using hl1)
      have Hl1 := Lib.hid hl1
      clear hl1
      by_cases h5 : x = 0
      · have g : ((x.toNat : Int) == 0) = true := by simp [h5]
        have Hm := Lib.hid (show (0 : UInt8) ∈ s by rw [← h5]; exact List.mem_of_getElem? Hl1.out)
        clear h5
        go_wp2_with fail
        go_ret
        refine ⟨?_, h0⟩
        rw [← Hr.out, okT_mem Hm.out]
        rfl
      · have g : ((x.toNat : Int) == 0) = false := by
          rw [beq_eq_false_iff_ne]
          intro h
          exact h5 (UInt8.toNat_inj.1 (by show x.toNat = 0; omega))
        have R := Lib.hid (show (0 : UInt8) ∉ s.take (k + 1) by
          rw [List.take_add_one, Hl1.out]
          intro h
          rcases List.mem_append.1 h with h | h
          · exact Hk.out h
          · simp at h; exact h5 h.symm)
        clear h5
        go_wp2_with fail
        go_roundw
        case rel => exact ⟨k + 1, by omega, by go_num, h0, R⟩
        case measure => simp [intOf]; omega
    · obtain rfl : k = s.length := by omega
      have hk2 := Hk.out
      rw [List.take_length] at hk2
      have Hk2 := Lib.hid hk2
      clear hk2 Hk
      go_wp2_with fail
      all_goals go_ret
      all_goals refine ⟨congrArg (fun b => Ending.returned (.bool b)) ?_, h0⟩
      all_goals (rw [← Hr.out]; unfold okT; have := Hk2.out; simp [*])

set_option maxHeartbeats 1600000 in
set_option maxRecDepth 100000 in
theorem rfits_s (n wd : Int) (hn : n < 9223372036854775808) (w : World) :
    Calls Tryz.prog 149 #[.int .i64 n, .int .i64 wd] w fun e w' => e = .returned (.bool (putOk n wd)) ∧ Stp w w' := by
  have h0 := Stp.refl w
  obtain ⟨r, hr⟩ : ∃ r, putOk n wd = r := ⟨_, rfl⟩
  rw [hr]
  have Hr := Lib.hid hr
  clear hr
  go_enter Tryz.func149, Tryz.ntmps149
  go_wp2_with (go_at_call 150; refine (rput_all n wd _ hn).mono ?_; rintro e w1 ⟨v, rfl, h3, h4⟩; rw [Hr.out]; have H1 := Lib.hid (Stp.trans h0 h4); clear h3 h4)
  go_ret
  exact ⟨rfl, H1.out⟩

theorem lay_take {b x : L} {k j : Nat} {c : UInt8} (hl : b.length = 512) (hx : k + x.length ≤ 512) (hc : x[j]? = some c) : lay b k (x.take (j + 1)) = (lay b k (x.take j)).set (k + j) c := by
  obtain ⟨hj, hcx⟩ := List.getElem?_eq_some_iff.1 hc
  unfold lay
  rw [List.length_take, List.length_take, Nat.min_eq_left (by omega), Nat.min_eq_left (by omega), List.take_add_one, hc]
  have hA : (b.take k ++ x.take j).length = k + j := by rw [List.length_append, List.length_take, List.length_take]; omega
  have hd : b.drop (k + j) = b[k + j]'(by omega) :: b.drop (k + j + 1) := List.drop_eq_getElem_cons (by omega)
  rw [List.set_append_right _ _ (by omega), hA, Nat.sub_self, hd, List.set_cons_zero]
  simp [List.append_assoc, Nat.add_assoc]
theorem lay_full (b x : L) (k : Nat) : lay b k (x.take x.length) = lay b k x := by rw [List.take_length]
theorem lay_zero (b : L) (k : Nat) : lay b k [] = b := by simp [lay]
theorem cell_grownR {w w1 : World} {a : Addr} {v : Value} {r : Option Nat} (h : w.grownBy w1 r) (hr : some a.block ≠ r) (hc : w.cell? a = some v) : w1.cell? a = some v := by
  have hlt := World.block_lt_of_cell? w _ hc
  unfold World.cell? at hc ⊢
  rwa [h.block _ hlt hr]
theorem grown_set {w w1 : World} {g : Nat} (h : w.grownBy w1 (some g)) (i : Nat) (u : Value) : w.grownBy (w1.setCell ⟨g, i, none⟩ u) (some g) :=
  ⟨h.os, h.tape, h.output, by simpa [World.setCell] using h.size, fun j hj hn => (Below.heap_setCell w1 ⟨g, i, none⟩ u j (fun e => hn (by rw [e]))).trans (h.block j hj hn)⟩
theorem bs_set (l : L) (i : Nat) (c : UInt8) : (bs l).toArray.setIfInBounds i (.int .u8 (c.toNat : Int)) = (bs (l.set i c)).toArray := by
  unfold bs
  simp [List.map_set]

set_option maxHeartbeats 1600000 in
set_option maxRecDepth 100000 in
theorem rlay_s (g k : Nat) (b x : L) (A : Option Addr) (c : Nat) (w : World) (hb : Blk w g 5 (bs b).toArray) (hl : b.length = 512) (hx : k + x.length ≤ 512) (ha : RdA w A c (bs x)) (hne : ∀ a, A = some a → a.block ≠ g) :
    Calls Tryz.prog 112 #[.slice (some ⟨g, 0, none⟩) 512 512, .int .i64 (k : Int), .slice A x.length c] w fun e w' => e = .returned (.slice (some ⟨g, 0, none⟩) 512 512) ∧ Blk w' g 5 (bs (lay b k x)).toArray ∧ w.grownBy w' (some g) := by
  have Hb := Lib.hid hb
  have Hl := Lib.hid hl
  have Hne := Lib.hid hne
  have Ha := Lib.hid ha
  clear hb hl hne ha
  go_enter Tryz.func112, Tryz.ntmps112
  go_wp2_with fail
  go_loopw [7] (fun i wr => ∃ j : Nat, j ≤ x.length ∧ i = .int .i64 j ∧ Hid (Blk wr g 5 (bs (lay b k (x.take j))).toArray) ∧ Hid (w.grownBy wr (some g))) (fun i _ => x.length - (intOf i).toNat)
  case atStart => exact ⟨0, by omega, rfl, Lib.hid (by rw [List.take_zero, lay_zero]; exact Hb.out), Lib.hid ⟨rfl, rfl, rfl, Nat.le_refl _, fun _ _ _ => rfl⟩⟩
  case round =>
    obtain ⟨j, hj, rfl, Hk, Hg⟩ := hrel
    by_cases hlt : j < x.length
    · obtain ⟨y, hl1⟩ : ∃ y, x[j]? = some y := ⟨_, List.getElem?_eq_getElem hlt⟩
      obtain ⟨b', o, rfl, hcell⟩ := Ha.out.at_ (j := j) (by rw [bs_length]; exact hlt)
      have hbne := Hne.out _ rfl
      have ca := cell_grownR (a := ⟨b', o + j, none⟩) Hg.out (fun e => hbne (Option.some.inj e)) (hcell j (.int .u8 (y.toNat : Int)) (by rw [bs_at hlt, ← (List.getElem?_eq_some_iff.1 hl1).2]))
      have ht := lay_take Hl.out hx hl1
      obtain ⟨q, hq⟩ : ∃ q, k + j = q := ⟨_, rfl⟩
      rw [hq] at ht
      have hq5 : q < 512 := by omega
      have hsum : (k : Int) + (j : Int) = (q : Int) := by omega
      have hlen : (lay b k (x.take j)).length = 512 := by rw [lay_length (by rw [List.length_take, Hl.out]; omega), Hl.out]
      obtain ⟨z, hz⟩ : ∃ z, (bs (lay b k (x.take j))).toArray[q]? = some z := ⟨_, Array.getElem?_eq_getElem (by simpa [bs_length, hlen] using hq5)⟩
      have cq : wr.cell? ⟨g, q, none⟩ = some z := by rw [Hk.out.cell]; exact hz
      have cf := Hk.out.free q
      have R1 := Lib.hid (show Blk (wr.setCell ⟨g, q, none⟩ (.int .u8 (y.toNat : Int))) g 5 (bs (lay b k (x.take (j + 1)))).toArray by rw [ht, ← bs_set]; exact Hk.out.put q _)
      have R2 := Lib.hid (grown_set Hg.out q (.int .u8 (y.toNat : Int)))
      have hwr : IntKind.i64.wrap ((k : Int) + (j : Int)) = (q : Int) := by rw [hsum]; exact wrap64_of _ (by omega) (by omega)
      clear hq hz hlen ht hl1 hcell hbne
      go_wp2_with fail
      go_roundw
      case rel => exact ⟨j + 1, by omega, by go_num, R1, R2⟩
      case measure => simp [intOf]; omega
    · obtain rfl : j = x.length := by omega
      go_wp2_with fail
      go_ret
      exact ⟨rfl, by have := Hk.out; rwa [lay_full] at this, Hg.out⟩

end Go.Proofs.YtopihahjjcpnpaaGreatDoor.Head

namespace Go.Proofs.YtopihahjjcpnpaaGreatDoor.Head
open Go.RowKit Go.Proofs.YtopihahjjcpnpaaGreatDoor.Base Go.Proofs.YtopihahjjcpnpaaGreatDoor.NumM Go.Proofs.YtopihahjjcpnpaaGreatDoor.Num

theorem own_lay {w : World} {lo : Nat} {t : TypeId} {v : Value} {x : L} (h : Base.Own w lo t v (bs x)) : ∃ A c, v = .slice A x.length c ∧ RdA w A c (bs x) ∧ ∀ a, A = some a → lo ≤ a.block := by
  obtain ⟨A, c, hv, ha⟩ := RdA.of h.rd
  refine ⟨A, c, by rw [hv, bs_length], ha, ?_⟩
  rintro a rfl
  subst hv
  exact (h.lt a.block rfl).1
theorem rd_lit2 (w : World) (e : TypeId) (u v : Value) : Rd (w.alloc (.cells #[u, v] e)) (w.heap.size + 1) (.slice (some ⟨w.heap.size, 0, none⟩) 2 2) [u, v] := by
  have h := (Own.of_blk (lo := w.heap.size) (cur := #[u, v]) (n := 2) (Blk.new w e #[u, v]) (Nat.le_refl _) rfl (by unfold maxLen; omega)).rd
  rwa [World.size_alloc] at h

set_option maxHeartbeats 1600000 in
set_option maxRecDepth 100000 in
theorem rnumber_s (g k wd : Nat) (n : Int) (hn : n < 9223372036854775808) (hp : putOk n wd = true) (b : L) (w : World) (hb : Blk w g 5 (bs b).toArray) (hl : b.length = 512) (hx : k + wd ≤ 512) :
    Calls Tryz.prog 113 #[.slice (some ⟨g, 0, none⟩) 512 512, .int .i64 (k : Int), .int .i64 (wd : Int), .int .i64 n] w fun e w' => e = .returned (.slice (some ⟨g, 0, none⟩) 512 512) ∧ Blk w' g 5 (bs (lay b k (putV n wd))).toArray ∧ w.grownBy w' (some g) := by
  have hlen : (putV n wd).length = wd := putV_length hp
  have Hlen := Lib.hid hlen
  have Hp := Lib.hid hp
  have Hb := Lib.hid hb
  have Hl := Lib.hid hl
  have Hn := Lib.hid hn
  clear hlen hp hb hl hn
  go_enter Tryz.func113, Tryz.ntmps113
  go_wp2_with (first
    | (go_at_call 150; refine (rput_all n wd _ Hn.out).mono ?_; rintro e w1 ⟨v, rfl, h3, h4⟩; rw [Hp.out]; obtain ⟨A, c, rfl, hr, ho⟩ := own_lay h3; have Hr := Lib.hid hr; have Ho := Lib.hid ho; have H4 := Lib.hid h4; clear h3 hr ho h4)
    | (go_at_call 112; refine (rlay_s g k b _ A c w1 (Hb.out.keep H4.out Hb.out.lt) Hl.out (by rw [Hlen.out]; exact hx) Hr.out (fun a ha => Nat.ne_of_gt (Nat.lt_of_lt_of_le Hb.out.lt (Ho.out a ha)))).mono ?_; rintro e w2 ⟨rfl, h5, h6⟩; have H5 := Lib.hid h5; have H6 := Lib.hid (show w.grownBy w2 (some g) from grown_trans ⟨H4.out.os, H4.out.tape, H4.out.output, H4.out.size, fun j hj _ => H4.out.block j hj⟩ h6); clear h5 h6))
  go_ret
  exact ⟨rfl, H5.out, H6.out⟩

set_option maxHeartbeats 1600000 in
set_option maxRecDepth 100000 in
theorem rsign_s (l : L) (h512 : l.length = 512) (w : World) :
    Calls Tryz.prog 114 #[.int .i64 (sumI l)] w fun e w' => ∃ v, e = .returned v ∧ Base.Own w' w.heap.size 5 v (bs (sumT l)) ∧ Stp w w' := by
  have hov := octV_sum h512
  have hi2 : sumI l < 9223372036854775808 := by rw [sumI_yes h512]; have := sumN_le h512; omega
  obtain ⟨s, hs⟩ : ∃ s, octs 6 (sumN l) = s := ⟨_, rfl⟩
  have hsl : s.length = 6 := by rw [← hs, octs_length]
  have hT : sumT l = s ++ [0, 32] := by rw [← hs]; rfl
  rw [hT]
  rw [hs] at hov
  obtain ⟨i, hi⟩ : ∃ i, sumI l = i := ⟨_, rfl⟩
  rw [hi] at hov hi2 ⊢
  obtain ⟨ok, hok⟩ : ∃ ok, octOk i 6 = ok := ⟨_, rfl⟩
  have Hov := Lib.hid hov
  have Hi2 := Lib.hid hi2
  have Hok := Lib.hid hok
  have Hsl := Lib.hid hsl
  clear hov hi hi2 hok hs hT hsl h512
  go_enter Tryz.func114, Tryz.ntmps114
  go_wp2_with (first
    | (go_at_call 151; refine (roct_all i 6 _ Hi2.out).mono ?_; rintro e w' ⟨rfl, rfl⟩; rw [Hov.out, Hok.out])
    | (refine wpList_bytes (P := Tryz.prog) (o := ⟨some 11, _, _, _, _, _⟩) _ rfl 9 43 (.tmp 10) rfl 5 Tryz.underlying9 Tryz.underlying43 Tryz.underlying5 _ rfl ?hm ?_))
  case hm =>
    show s.toArray.size ≤ _
    rw [List.size_toArray, Hsl.out]
    unfold maxLen
    omega
  intro v2 w2 hv2 hg2 hat2
  have Hg2 := Lib.hid hg2
  have Hv2 : Hid (Base.Own w2 w.heap.size 5 v2 (bs s)) := Lib.hid (by simpa using hv2)
  have Hat2 := Lib.hid hat2
  clear hg2 hv2 hat2
  go_wp2_with (at_builtin; refine wpList_append_rd (P := Tryz.prog) _ rfl (.tmp 11) (.tmp 12) 43 rfl w.heap.size 5 (.int .u8 0) 1 Tryz.underlying43 byte_info rfl v2 _ rfl (Hv2.out.alloc _) _ _ [.int .u8 0, .int .u8 32] rfl (rd_lit2 _ _ _ _) (bs_one [0, 32]) ?h1 ?h2 ?h3 ?_)
  case h1 =>
    rw [bs_length, Hsl.out]
    unfold maxLen
    simp only [List.length_cons, List.length_nil]
    omega
  case h2 =>
    rw [bs_length, Hsl.out]
    simp only [List.length_cons, List.length_nil]
    omega
  case h3 =>
    have := Hg2.out.size
    simp
    omega
  intro v3 w3 hv3 hg3 hat3
  have Hbb : Hid (Stp w w3) := Lib.hid (by
    have hs2 := Hg2.out.size
    refine (((Stp.refl w).grown Hg2.out (Nat.le_refl _) (by simp)).alloc (by omega) _).grown hg3 (by simp; omega) (fun k hk => ?_)
    rw [Hat2.out] at hk
    injection hk with hk
    omega)
  have Hv3 : Hid (Base.Own w3 w.heap.size 5 v3 (bs (s ++ [0, 32]))) := Lib.hid (by rw [bs_append]; exact hv3)
  clear hv3 hg3 hat3
  go_wp2_with fail
  go_ret
  exact ⟨v3, rfl, Hv3.out, Hbb.out⟩

theorem rword_i (s : L) (m : Nat) (mi : Int) (hm : mi = (m : Int)) (hs : s.length ≤ 9223372036854775807) (w : World) :
    Calls Tryz.prog 148 #[.string ⟨s.toArray⟩, .int .i64 mi] w fun e w' => e = .returned (.bool (okT s m)) ∧ Stp w w' := by
  subst hm
  exact rword_s s m hs w
theorem rlay_i (g k : Nat) (ki : Int) (hk : ki = (k : Int)) (b x : L) (A : Option Addr) (n c : Nat) (hn : x.length = n) (w : World) (hb : Blk w g 5 (bs b).toArray) (hl : b.length = 512) (hx : k + x.length ≤ 512) (ha : RdA w A c (bs x)) (hne : ∀ a, A = some a → a.block ≠ g) :
    Calls Tryz.prog 112 #[.slice (some ⟨g, 0, none⟩) 512 512, .int .i64 ki, .slice A n c] w fun e w' => e = .returned (.slice (some ⟨g, 0, none⟩) 512 512) ∧ Blk w' g 5 (bs (lay b k x)).toArray ∧ w.grownBy w' (some g) := by
  subst hk hn
  exact rlay_s g k b x A c w hb hl hx ha hne
theorem rnumber_i (g k wd : Nat) (ki wi : Int) (hk : ki = (k : Int)) (hw : wi = (wd : Int)) (n : Int) (hn : n < 9223372036854775808) (hp : putOk n wi = true) (b : L) (w : World) (hb : Blk w g 5 (bs b).toArray) (hl : b.length = 512) (hx : k + wd ≤ 512) :
    Calls Tryz.prog 113 #[.slice (some ⟨g, 0, none⟩) 512 512, .int .i64 ki, .int .i64 wi, .int .i64 n] w fun e w' => e = .returned (.slice (some ⟨g, 0, none⟩) 512 512) ∧ Blk w' g 5 (bs (lay b k (putV n wi))).toArray ∧ w.grownBy w' (some g) := by
  subst hk hw
  exact rnumber_s g k wd n hn hp b w hb hl hx

/-- The same, in the document's order. -/
theorem may_of {h : Hd} (hn : h.name ≠ []) (h1 : okT h.name 100 = true) (h2 : okT h.link 100 = true) (h3 : okT h.pre 155 = true) (h4 : putOk h.mode 8 = true) (h5 : putOk h.uid 8 = true) (h6 : putOk h.gid 8 = true) (h7 : putOk h.size 12 = true) (h8 : putOk h.time 12 = true) :
    mayH h = (typs.contains h.ty && if h.ty = 77 then h.pre.isEmpty && (putOk h.off 12 && putOk h.real 12) else decide (h.off = 0) && decide (h.real = 0)) := by
  have hne : h.name.isEmpty = false := by cases hq : h.name <;> simp_all
  unfold mayH txtsOk numsOk elseZ
  rw [hne, h1, h2, h3, h4, h5, h6, h7, h8]
  by_cases ht : h.ty = 77
  · simp [ht, Bool.and_assoc]
  · simp [ht]
theorem may_no {h : Hd} (hx : h.name = [] ∨ okT h.name 100 = false ∨ okT h.link 100 = false ∨ okT h.pre 155 = false ∨ putOk h.mode 8 = false ∨ putOk h.uid 8 = false ∨ putOk h.gid 8 = false ∨ putOk h.size 12 = false ∨ putOk h.time 12 = false) : mayH h = false := by
  rw [Bool.eq_false_iff]
  intro hm
  have f := mayF hm
  rcases hx with e | e | e | e | e | e | e | e | e
  · exact f.nname e
  · rw [okT_iff.2 ⟨f.name, f.name0⟩] at e; cases e
  · rw [okT_iff.2 ⟨f.link, f.link0⟩] at e; cases e
  · rw [okT_iff.2 ⟨f.pre, f.pre0⟩] at e; cases e
  · rw [f.mode] at e; cases e
  · rw [f.uid] at e; cases e
  · rw [f.gid] at e; cases e
  · rw [f.size] at e; cases e
  · rw [f.time] at e; cases e
end Go.Proofs.YtopihahjjcpnpaaGreatDoor.Head

namespace Go.Proofs.YtopihahjjcpnpaaGreatDoor.Head
open Go.RowKit Go.Proofs.YtopihahjjcpnpaaGreatDoor.Base Go.Proofs.YtopihahjjcpnpaaGreatDoor.NumM Go.Proofs.YtopihahjjcpnpaaGreatDoor.Num

section
variable {P : Program} (w : World)
theorem opwp_make {o : Oper} {a : Act} {Q : Exit → Act → World → Prop} {K : Act → World → Prop} (l c : Operand) (t : TypeId) (ho : o.op = .makeSlice t l c)
    (e : TypeId) (z : Value) (bytes : Nat) (ht : P.underlying t = some (.slice e)) (hi : (P.info? e).map (fun i => (i.zero, i.size, i.bytes)) = some (some z, 1, bytes)) (hzc : z.cells = #[z])
    (kl kc : IntKind) (C : Int) (n : Nat) (hl : a.eval l = .int kl C) (hc : a.eval c = .int kc C) (hC : C = (n : Int)) (b2 : bytes * n ≤ 281474976710656) (b3 : n ≤ maxLen)
    (h : ∀ w', Blk w' w.heap.size e (Array.replicate n z) → w'.heap.size = w.heap.size + 1 → w.grownBy w' none → K (a.put o.dst (.slice (some ⟨w.heap.size, 0, none⟩) n n)) w') : Oper.wp P o a w K Q := by
  obtain ⟨i, hi', hz, hsz, hby⟩ := info_parts hi
  subst hC
  have h63 : (n : Int) ≤ 9223372036854775807 := by simp only [maxLen] at b3; omega
  have hb : (i.bytes : Int) * (n : Int) ≤ 281474976710656 := by
    have h : ((i.bytes * n : Nat) : Int) ≤ 281474976710656 := by rw [hby]; omega
    rwa [Int.natCast_mul] at h
  have hr := run_make (P := P) w t e i z ht hi' hz kl kc n n (by omega) (Int.le_refl _) hb h63
  rw [Int.toNat_natCast, hsz, Nat.mul_one, hzc] at hr
  have hrow : madeCells #[z] n = Array.replicate n z := by
    apply Array.ext'
    rw [toList_madeCells_one, Array.toList_replicate]
  rw [hrow] at hr
  unfold Oper.wp execOp
  simp only [ho, hl, hc, Sem.run_bind, Sem.run_pure, hr, Result.andThen_ok]
  exact h _ (heap_alloc_new w.drew _) (by simp) ⟨rfl, rfl, rfl, by simp, fun k hk _ => Below.heap_alloc w.drew _ k hk⟩
theorem opwp_bytes {o : Oper} {a : Act} {Q : Exit → Act → World → Prop} {K : Act → World → Prop} (src dst : TypeId) (x : Operand) (ho : o.op = .convert src dst x)
    (e : TypeId) (hs : P.underlying src = some .string) (hd : P.underlying dst = some (.slice e)) (he : P.underlying e = some (.int .u8)) (s : ByteArray) (hx : a.eval x = .string s) (hm : s.size ≤ maxLen)
    (h : ∀ v' w', Base.Own w' w.heap.size e v' (bs s.data.toList) → w.grownBy w' none → K (a.put o.dst v') w') : Oper.wp P o a w K Q := by
  have hr := run_bytes_of_string (P := P) w src dst e s hs hd he
  unfold Oper.wp execOp
  simp only [ho, hx, Sem.run_bind, Sem.run_pure, hr, Result.andThen_ok]
  exact h _ _ (own_bytesRow w e s hm) ⟨rfl, rfl, rfl, by simp, fun k hk _ => Below.heap_alloc w.drew _ k hk⟩
end

theorem own_lay2 {w : World} {lo : Nat} {t : TypeId} {v : Value} {x : L} (h : Base.Own w lo t v (bs x)) : ∃ A c, v = .slice A x.length c ∧ RdA w A c (bs x) ∧ ∀ a, A = some a → lo ≤ a.block ∧ a.block < w.heap.size := by
  obtain ⟨A, c, hv, ha⟩ := RdA.of h.rd
  refine ⟨A, c, by rw [hv, bs_length], ha, ?_⟩
  rintro a rfl
  subst hv
  exact h.lt a.block rfl
theorem bs_zeros (n : Nat) : (bs (zeros n)).toArray = Array.replicate n (.int .u8 0) := by
  unfold bs zeros
  simp
theorem lay_one {b : L} {k : Nat} (c : UInt8) (h : k < b.length) : lay b k [c] = b.set k c := by
  unfold lay
  rw [List.set_eq_take_append_cons_drop, if_pos h]
  simp
theorem rd_magic2 (w : World) : RdA (w.alloc (.cells #[.int .u8 117, .int .u8 115, .int .u8 116, .int .u8 97, .int .u8 114, .int .u8 0, .int .u8 48, .int .u8 48] 5)) (some ⟨w.heap.size, 0, none⟩) 8 (bs magic) := by
  have h := (Own.of_blk (lo := w.heap.size) (cur := #[.int .u8 117, .int .u8 115, .int .u8 116, .int .u8 97, .int .u8 114, .int .u8 0, .int .u8 48, .int .u8 48]) (n := 8) (Blk.new w 5 _) (Nat.le_refl _) rfl (by unfold maxLen; omega)).rd
  exact h
theorem rsum_i (l : L) (n : Nat) (hl : l.length = n) (A : Option Addr) (c : Nat) (w : World) (ha : RdA w A c (bs l)) :
    Calls Tryz.prog 115 #[.slice A n c] w fun e w' => e = .returned (.int .i64 (sumI l)) ∧ Stp w w' := by
  subst hl
  exact rsum_s l A c w ha

theorem rraw_n {h : Hd} (hm : mayH h = true) (ht : h.ty ≠ 77) :
    lay (lay (lay (lay (lay (lay (lay (lay (lay (lay (zeros 512) 0 h.name) 100 (putV h.mode 8)) 108 (putV h.uid 8)) 116 (putV h.gid 8)) 124 (putV h.size 12)) 136 (putV h.time 12)) 156 [h.ty]) 157 h.link) 257 magic) 345 h.pre = rawH h := by
  have f := mayF hm
  rw [raw_sg hm]
  unfold sg tailS
  simp only [ht, if_false, List.cons_append, List.nil_append]
  exact rflat_n _ _ _ _ _ _ _ _ h.ty f.name f.link (Nat.le_of_eq (putV_length f.mode)) (Nat.le_of_eq (putV_length f.uid)) (Nat.le_of_eq (putV_length f.gid)) (Nat.le_of_eq (putV_length f.size)) (Nat.le_of_eq (putV_length f.time)) f.pre
theorem rraw_m {h : Hd} (hm : mayH h = true) (ht : h.ty = 77) :
    lay (lay (lay (lay (lay (lay (lay (lay (lay (lay (lay (zeros 512) 0 h.name) 100 (putV h.mode 8)) 108 (putV h.uid 8)) 116 (putV h.gid 8)) 124 (putV h.size 12)) 136 (putV h.time 12)) 156 [h.ty]) 157 h.link) 257 magic) 369 (putV h.off 12)) 483 (putV h.real 12) = rawH h := by
  have f := mayF hm
  obtain ⟨_, h6, h7⟩ := f.more ht
  rw [raw_sg hm]
  unfold sg tailS
  simp only [ht, if_true, List.cons_append, List.nil_append]
  exact rflat_m _ _ _ _ _ _ _ _ _ 77 f.name f.link (Nat.le_of_eq (putV_length f.mode)) (Nat.le_of_eq (putV_length f.uid)) (Nat.le_of_eq (putV_length f.gid)) (Nat.le_of_eq (putV_length f.size)) (Nat.le_of_eq (putV_length f.time)) (Nat.le_of_eq (putV_length h6)) (Nat.le_of_eq (putV_length h7))
theorem magic_len : magic.length = 8 := rfl
theorem magic_room : 257 + magic.length ≤ 512 := by decide
theorem stp_none {w w1 : World} (h : w.grownBy w1 none) : Stp w w1 := ⟨h.os, h.tape, h.output, h.size, fun j hj => h.block j hj (by simp)⟩
end Go.Proofs.YtopihahjjcpnpaaGreatDoor.Head

