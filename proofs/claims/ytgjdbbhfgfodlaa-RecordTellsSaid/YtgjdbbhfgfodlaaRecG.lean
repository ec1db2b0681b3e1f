/-
  Contracts of package record's iterator over pieces of so many blocks, and of Group that ranges over it: no statement is proved here.
-/
import Derived.Test.YtgjdbbhfgfodlaaRecK
import Derived.Stop.RegionWithIn
namespace Go.Proofs.Ytgjdbbhfgfodlaa.Rec
open Go.RowKit Go.Shelf Go.Proofs.Ytgjdbbhfgfodlaa.Str Go.Proofs.Ytgjdbbhfgfodlaa.Base Go.Proofs.Ytgjdbbhfgfodlaa.BlockM Go.Proofs.Ytgjdbbhfgfodlaa.RecM Go.Proofs.Ytgjdbbhfgfodlaa.RangeO Go.Proofs.Ytgjdbbhfgfodlaa.RangeG

attribute [local go_sem] Oper.semAt_some

/-- A piece that is handed on, and where it lies. -/
abbrev El := List (List UInt8) × Option Addr × Nat
def encR (x : El) : Array Value := #[.slice x.2.1 x.1.length x.2.2]
def HasR (b : Nat) (x : El) (X : World) : Prop := RdL X x.2.1 x.2.2 x.1 ∧ mayV x.1 = true ∧ x.1.length ≤ b
def lenV : Value → Nat
  | .slice _ n _ => n
  | _ => 0

theorem rd_put {X : World} {l : Nat} {r : Loop} {u : Value} {xs : List Value} (o : Obj) (h : Rd X X.heap.size u xs) (hl : X.heap[l]? = some (.loop r)) : Rd (X.putObj l o) (X.putObj l o).heap.size u xs := by
  obtain ⟨A', cap, h1, h2, h3⟩ := h
  refine ⟨A', cap, h1, h2, fun hn => ?_⟩
  obtain ⟨b, o', rfl, hb, hu⟩ := h3 hn
  refine ⟨b, o', rfl, by simpa using hb, fun j u hj => ?_⟩
  refine (World.cell?_of_block (a := ⟨b, o' + j, none⟩) (World.putObj_heap_other ?_)).trans (hu j u hj)
  rintro rfl
  have := hu j u hj
  simp [World.cell?, hl] at this
theorem rdL_put {X : World} {l : Nat} {r : Loop} {A : Option Addr} {c : Nat} {ls : List (List UInt8)} (o : Obj) (h : RdL X A c ls) (hl : X.heap[l]? = some (.loop r)) : RdL (X.putObj l o) A c ls := by
  obtain ⟨us, h1, h2, h3⟩ := h
  refine ⟨us, h1, rd_put o h2 hl, fun j x hj => ?_⟩
  obtain ⟨u, hu, hr⟩ := h3 j x hj
  exact ⟨u, hu, rd_put o hr hl⟩
theorem rdL_form {w : World} {A : Option Addr} {c : Nat} {ls : List (List UInt8)} (h : RdL w A c ls) (hn : ls ≠ []) : ∃ g o, A = some ⟨g, o, none⟩ := by
  obtain ⟨l, hl⟩ : ∃ l, ls[0]? = some l := ⟨_, List.getElem?_eq_getElem (List.length_pos_iff.2 hn)⟩
  obtain ⟨g, o, A1, c1, rfl, -⟩ := h.at_ hl
  exact ⟨g, o, rfl⟩
theorem stp_rnd {w00 W X : World} {O : Nat → Prop} {l : Nat} (h0 : Stp w00 W) (h : Rnd (fun k => O k ∨ k = l) W X) (hO : ∀ k, k < w00.heap.size → ¬ O k) (hl : w00.heap.size ≤ l) : Stp w00 X :=
  Below.trans h0 (h.below h0.size fun k hk hn => by
    rcases hn with hn | hn
    · exact hO k hk hn
    · omega)

set_option maxRecDepth 100000 in
set_option maxHeartbeats 1000000 in
/-- The iterator: all pieces, or the first of them. -/
theorem chunks_in (n : Nat) (hn : 1 ≤ n) (l b : Nat) (hb1 : 1 ≤ b) (hb2 : b ≤ 20) (ls : List (List UInt8)) (k : Nat) (hk1 : ls.length ≤ b * k) (hk2 : b * k < ls.length + b) (A : Option Addr) (c tl tb : Nat) (w00 W : World) (O : Nat → Prop)
    (J Jx : (Nat → Prop) → List El → World → Prop) (ha : RdL w00 A c ls) (hmay : mayV ls = true) (h00 : Stp w00 W) (htl : W.cell? ⟨tl, 0, none⟩ = some (.slice A ls.length c)) (htb : W.cell? ⟨tb, 0, none⟩ = some (.int .i64 (b : Int)))
    (hbO : ¬ O tb ∧ tb ≠ l) (hO : ∀ k, k < w00.heap.size → ¬ O k) (hll : w00.heap.size ≤ l)
    (hround : ∀ O pre x X, J O pre X → HasR b x X → pre.length < k → YieldAt Fence.wide (n - 1) Try.prog l (encR x) X fun e Y =>
      (e = .returned (.bool true) ∧ ∃ O', J O' (pre ++ [x]) Y ∧ (∀ k, O' k → O k ∨ X.heap.size ≤ k) ∧ Rnd (fun k => O k ∨ k = l) X Y) ∨ (e = .returned (.bool false) ∧ ∃ O', Jx O' (pre ++ [x]) Y))
    (hJ : J O [] W) :
    CallsIn Fence.wide n Try.prog 67 #[.func (.yield l) #[] #[], .pointer (some ⟨tl, 0, none⟩), .pointer (some ⟨tb, 0, none⟩)] W fun e Y => (∃ v, e = .returned v) ∧
      ((∃ xs O, xs.map (·.1) = cks b k ls ∧ J O xs Y) ∨ (∃ pre O, pre.map (·.1) <+: cks b k ls ∧ Jx O pre Y)) := by
  refine callsIn_of_wp Try.func67 rfl trivial ?_ rfl
  simp only [Try.ntmps67, List.size_toArray, List.length_cons, List.length_nil, Nat.reduceAdd, Nat.reduceSub, Array.replicate_succ, Array.replicate_zero, List.push_toArray, List.append_toArray, List.nil_append, List.cons_append]
  have HR0 := Lib.hid hround
  have HJ0 := Lib.hid hJ
  have Ha := Lib.hid ha
  have Htb := Lib.hid htb
  have HbO := Lib.hid hbO
  have HO := Lib.hid hO
  have H00 := Lib.hid h00
  have Hmay := Lib.hid hmay
  clear hround hJ ha htb hbO hO h00 hmay
  gi_wp2
  gi_loopw [4] (fun r wr => ∃ (j : Nat) (xs : List El) (O' : Nat → Prop) (A' : Option Addr) (c' : Nat) (rs : List (List UInt8)), r = .slice A' rs.length c' ∧ Hid (ls.drop (b * j) = rs) ∧ Hid (b * j < ls.length + b) ∧ Hid (RdL w00 A' c' rs) ∧ Hid (xs.map (·.1) = cks b j ls) ∧ Hid (J O' xs wr) ∧
    Hid (∀ i, O' i → O i ∨ W.heap.size ≤ i) ∧ Hid (Rnd (fun i => O i ∨ i = l) W wr)) (fun r _ => lenV r)
  case atStart => exact ⟨0, [], O, A, c, ls, rfl, Lib.hid rfl, Lib.hid (by omega), Ha, Lib.hid rfl, HJ0, Lib.hid fun _ h => .inl h, Lib.hid (Rnd.refl W)⟩
  case round =>
    obtain ⟨j, xs, O', A', c', rs, rfl, Hrs, Hj, Hr, Hx, HJ, Hs, HR⟩ := hrel
    have hrl : rs.length = ls.length - b * j := by rw [← Hrs.out, List.length_drop]
    by_cases hne : rs = []
    · subst hne
      simp only [List.length_nil]
      gi_wp2
      refine bodyPost_end (results_none rfl _ _ _) rfl ?_
      have : j = k := many_unique (b := b) hb1 (by rw [List.length_nil] at hrl; omega) Hj.out hk1 hk2
      subst this
      exact ⟨⟨_, rfl⟩, .inl ⟨xs, O', Hx.out, HJ.out⟩⟩
    · have hpos := List.length_pos_iff.2 hne
      obtain ⟨g, o, rfl⟩ := rdL_form Hr.out hne
      have hcap := Hr.out.length_le
      obtain ⟨m, hm⟩ : ∃ m, rs.length = m := ⟨_, rfl⟩
      obtain ⟨x, hx⟩ : ∃ x, min b m = x := ⟨_, rfl⟩
      have hmn : min (b : Int) (m : Int) = (x : Int) := by omega
      have hto := Entry.slice_to g o m c' x (by omega)
      obtain ⟨A2, hfrom, hrest⟩ := Entry.slice_from g o m c' x (by omega) (by omega)
      have q2 : wr.cell? ⟨tb, 0, none⟩ = some (.int .i64 (b : Int)) := RangeG.cell_rnd HR.out Htb.out (by rintro (h | h); exact HbO.out.1 h; exact HbO.out.2 h)
      have h0r : Stp w00 wr := stp_rnd H00.out HR.out HO.out hll
      have htk : (rs.take b).length = x := by rw [List.length_take]; omega
      have htx : rs.take x = rs.take b := by
        rcases Nat.le_total b m with h | h
        · rw [← hx, Nat.min_eq_left h]
        · rw [← hx, Nat.min_eq_right h, List.take_of_length_le (by omega), List.take_of_length_le (by omega)]
      have hE : HasR b ((rs.take b, some ⟨g, o, none⟩, c') : El) wr := ⟨Entry.rdL_take (Hr.out.keep h0r) b, may_take (by rw [← Hrs.out]; exact may_drop Hmay.out _) b, by rw [List.length_take]; omega⟩
      have hxl : xs.length = j := by
        have := congrArg List.length Hx.out
        rwa [List.length_map, cks_length] at this
      have hjk : j < k := Nat.lt_of_mul_lt_mul_left (a := b) (by omega)
      obtain ⟨fn, tmps, assign, body, hy, hR2⟩ := yield_any (m' := n - 1) (HR0.out O' xs _ wr HJ.out hE (by rw [hxl]; exact hjk))
      dsimp only [encR] at hy
      rw [htk] at hy
      have Hm := Lib.hid hm
      have Hx2 := Lib.hid hx
      have Hrest := Lib.hid (hrest w00 rs hm Hr.out)
      have Hdr : Hid (rs.drop x = ls.drop (b * (j + 1))) := Lib.hid (by
        rw [← Hrs.out, List.drop_drop, Nat.mul_succ]
        rcases Nat.le_total b m with h | h
        · rw [← hx, Nat.min_eq_left h]
        · rw [← hx, Nat.min_eq_right h, List.drop_of_length_le (by omega), List.drop_of_length_le (by omega)])
      rw [hm]
      have hcase : (((m : Int) < (b : Int)) ∧ m = x) ∨ (¬ ((m : Int) < (b : Int)) ∧ b = x) := by omega
      have hpos2 : 0 < m := by omega
      clear hx hm hrest hE htk htx hxl h0r
      rcases hcase with ⟨hmb, rfl⟩ | ⟨hmb, rfl⟩
      all_goals
        gi_wp2
        refine hR2.mono ?_
        rintro e Y (⟨rfl, O2, hJ2, hs2, hR3⟩ | ⟨rfl, O2, hJ2⟩)
        · have HJ2 := Lib.hid hJ2
          have Hs2 := Lib.hid hs2
          have HR3 := Lib.hid hR3
          clear hJ2 hs2 hR3
          gi_wp2
          go_roundw
          case rel =>
            refine ⟨j + 1, xs ++ [(rs.take b, some ⟨g, o, none⟩, c')], O2, A2, c' - _, rs.drop _, by simp [List.length_drop, Hm.out], Lib.hid Hdr.out.symm, Lib.hid (by rw [Nat.mul_succ]; omega), Hrest, Lib.hid ?_, HJ2, Lib.hid fun i hi => ?_, Lib.hid ?_⟩
            · rw [List.map_append, Hx.out, cks_snoc, Hrs.out]
              rfl
            · rcases Hs2.out i hi with h | h
              · exact Hs.out i h
              · exact .inr (Nat.le_trans HR.out.size h)
            · refine HR.out.trans HR3.out fun i hi => ?_
              rcases hi with h | h
              · exact (Hs.out i h).imp .inl id
              · exact .inl (.inr h)
          case measure => simp [lenV]; omega
        · gi_wp2
          refine bodyPost_ret (results_none rfl _ _ _) rfl ?_
          refine ⟨⟨_, rfl⟩, .inr ⟨xs ++ [(rs.take b, some ⟨g, o, none⟩, c')], O2, ?_, hJ2⟩⟩
          have e1 := cks_pre (b := b) (j := j + 1) (k := k) ls (by omega)
          rw [cks_snoc, Hrs.out] at e1
          rw [List.map_append, Hx.out]
          exact e1

/-- The iterator, in the form of the law. -/
theorem chunks_seq (b : Nat) (hb1 : 1 ≤ b) (hb2 : b ≤ 20) (ls : List (List UInt8)) (k : Nat) (hk1 : ls.length ≤ b * k) (hk2 : b * k < ls.length + b) (A : Option Addr) (c tl tb : Nat) (w00 w0 : World) (ha : RdL w00 A c ls) (hmay : mayV ls = true) (h00 : Stp w00 w0)
    (htl : w0.cell? ⟨tl, 0, none⟩ = some (.slice A ls.length c)) (htb : w0.cell? ⟨tb, 0, none⟩ = some (.int .i64 (b : Int))) :
    SeqO Try.prog 67 #[.pointer (some ⟨tl, 0, none⟩), .pointer (some ⟨tb, 0, none⟩)] encR (HasR b) IntBox False (fun k => k < w00.heap.size ∨ k = tb) (fun xs => xs.map (·.1) = cks b k ls) (fun pre => pre.map (·.1) <+: cks b k ls) k w0 :=
  fun n l J Jx O W hn hW hl0 hl1 _ hR _ _ _ _ hround h0 =>
    have hlb := World.block_lt_of_cell? w0 _ htb
    chunks_in n hn l b hb1 hb2 ls k hk1 hk2 A c tl tb w00 W O J Jx ha hmay (Stp.trans h00 hW) ((stp_cell hW htl).trans htl) ((stp_cell hW htb).trans htb) ⟨hR tb (.inr rfl), by show tb ≠ l; have : tb < w0.heap.size := hlb; omega⟩
      (fun k hk => hR k (.inl hk)) (Nat.le_trans h00.size hl0) hround h0

set_option maxRecDepth 100000 in
/-- chunks: the blocks and the number are boxed; the function value captures the boxes. -/
theorem chunks_any (A : Option Addr) (n c : Nat) (b : Int) (w : World) :
    Calls Try.prog 42 #[.slice A n c, .int .i64 b] w fun e w' => e = .returned (.func (.func 67) #[] #[.pointer (some ⟨w.heap.size, 0, none⟩), .pointer (some ⟨w.heap.size + 1, 0, none⟩)]) ∧
      w' = (w.alloc (.cells #[.slice A n c] 27)).alloc (.cells #[.int .i64 b] 3) := by
  have hmf : ∀ (fn : Fn) (first cap : Array Value) (w : World), (Instr.makeFunc fn first cap).run Try.prog w = .ok (.func fn first cap) w := fun _ _ _ _ => rfl
  go_enter Try.func42, Try.ntmps42
  go_wp2_with fail
  go_ret
  exact ⟨rfl, rfl⟩

theorem rows_info : (Try.prog.info? 24).map (fun i => (i.zero, i.size, i.bytes)) = some (some (.slice none 0 0), 1, 24) := by kernel_rfl
theorem lit_rec {w5 : World} {g b : Nat} {r : List UInt8} (hb : Blk w5 g 5 (bs r).toArray) (hr : r.length = 512 * b) (hb20 : b ≤ 20) : RdL (w5.alloc (.cells #[.slice (some ⟨g, 0, none⟩) (512 * b) (512 * b)] 24)) (some ⟨w5.heap.size, 0, none⟩) 1 [r] := by
  have h := (Base.Own.of_blk (lo := 0) hb (Nat.zero_le _) (n := 512 * b) (by simp [bs_length, hr]) (by unfold maxLen; omega)).rd
  have h2 : RdA w5 (some ⟨g, 0, none⟩) (512 * b) (bs r) := by
    unfold RdA
    rw [bs_length, hr]
    exact h
  obtain ⟨A, cap, e, hL⟩ := (Base.Rows.one (e := 24) h2 hr).rdL
  cases e
  exact hL
theorem app_rec {X w5 : World} {lo b g : Nat} {v : Value} {ls : List (List UInt8)} {r : List UInt8} (ty : TypeId) (h4 : Base.Rows X lo 24 v ls) (hlo : lo ≤ X.heap.size) (hs5 : Stp X w5) (hb5 : Blk w5 g 5 (bs r).toArray) (hr : r.length = 512 * b) (hb : b ≤ 20) (hl : ls.length ≤ 4000) :
    ∃ v' w6, (Builtin.append_ #[27, 27] ty #[v, .slice (some ⟨w5.heap.size, 0, none⟩) 1 1]).run Try.prog (w5.alloc (.cells #[.slice (some ⟨g, 0, none⟩) (512 * b) (512 * b)] 24)) = .ok v' w6 ∧
      Base.Rows w6 lo 24 v' (ls ++ [r]) ∧ (w5.alloc (.cells #[.slice (some ⟨g, 0, none⟩) (512 * b) (512 * b)] 24)).grownBy w6 v.ownBlock ∧ (v'.ownBlock = v.ownBlock ∨ v'.ownBlock = some (w5.heap.size + 1)) := by
  have h := (h4.keep hs5).keep (Stp.alloc (Stp.refl w5) (.cells #[.slice (some ⟨g, 0, none⟩) (512 * b) (512 * b)] 24))
  have hm := lit_rec hb5 hr hb
  have hsz := hs5.size
  obtain ⟨v', w', hrun, r1, r2⟩ := h.more (P := Try.prog) 27 ty Try.underlying27 rows_info hm rfl (by simp; omega) (by rw [World.size_alloc]; omega)
  refine ⟨v', w', hrun, r1, r2, ?_⟩
  obtain ⟨us, g1, g2, g3, g4⟩ := h
  obtain ⟨ns, k1, k2, k3⟩ := hm
  obtain ⟨i, hi', hz, hsz1, hby⟩ := info_parts rows_info
  have h1 : ∀ u ∈ ns, u.oneCell' = true := fun u hu => by
    obtain ⟨j, hj⟩ := List.getElem?_of_mem hu
    have hjl : j < [r].length := by rw [← k1]; exact (List.getElem?_eq_some_iff.1 hj).1
    obtain ⟨u2, hu2, hr2⟩ := k3 j _ (List.getElem?_eq_getElem hjl)
    rw [hj] at hu2
    cases hu2
    obtain ⟨A, cap, rfl, _⟩ := hr2
    rfl
  unfold RdA at k2
  rw [k1] at k2
  obtain ⟨v2, w2, q1, -, -, q4⟩ := run_append_rd (P := Try.prog) _ lo 27 ty 24 i _ 24 Try.underlying27 hi' hz hsz1 hby rfl v us g1 _ _ ns k2 h1 (by rw [g3, k1]; unfold maxLen; simp; omega) (by rw [g3, k1]; simp; omega) (by rw [World.size_alloc]; omega)
  have q1' : (Builtin.append_ #[27, 27] ty #[v, .slice (some ⟨w5.heap.size, 0, none⟩) 1 1]).run Try.prog (w5.alloc (.cells #[.slice (some ⟨g, 0, none⟩) (512 * b) (512 * b)] 24)) = .ok v2 w2 := q1
  have e := hrun.symm.trans q1'
  cases e
  rw [World.size_alloc] at q4
  exact q4
/-- What Group has gathered: the records, in the box ob. -/
def IG (b : Nat) (w w2 : World) (O : Nat → Prop) (pre : List El) (X : World) : Prop :=
  ∃ v, (∀ k, O k ↔ (k = w2.heap.size ∨ v.ownBlock = some k)) ∧ Boxed X w2.heap.size 27 v ∧ Boxed X w.heap.size 3 (.int .i64 (b : Int)) ∧ Base.Rows X (w2.heap.size + 1) 24 v (pre.map fun x => recOf b x.1) ∧ Stp (w.alloc (.cells #[.int .i64 (b : Int)] 3)) X ∧
    ∀ x ∈ pre, x.1.length ≤ b

theorem body_end {b : Nat} {w w2 X w5 w6 : World} {O : Nat → Prop} {pre : List El} {x : El} {v : Value} {A6 : Option Addr} {c6 : Nat} {o5 : Obj} (h1 : ∀ k, O k ↔ (k = w2.heap.size ∨ v.ownBlock = some k)) (h4 : Base.Rows X (w2.heap.size + 1) 24 v (pre.map fun x => recOf b x.1))
    (h5 : Stp (w.alloc (.cells #[.int .i64 (b : Int)] 3)) X) (h6 : ∀ x ∈ pre, x.1.length ≤ b) (hB1 : Boxed X.drew w2.heap.size 27 v) (hB2 : Boxed X.drew w.heap.size 3 (.int .i64 (b : Int))) (hw2 : w.heap.size < w2.heap.size) (hs5 : Stp X.drew w5)
    (r1 : Base.Rows w6 (w2.heap.size + 1) 24 (.slice A6 (pre.length + 1) c6) (pre.map (fun x => recOf b x.1) ++ [recOf b x.1])) (r2 : (w5.alloc o5).grownBy w6 v.ownBlock)
    (r3 : (Value.slice A6 (pre.length + 1) c6).ownBlock = v.ownBlock ∨ (Value.slice A6 (pre.length + 1) c6).ownBlock = some (w5.heap.size + 1)) (hxl : x.1.length ≤ b) :
    ∃ O', IG b w w2 O' (pre ++ [x]) (w6.setCell ⟨w2.heap.size, 0, none⟩ (.slice A6 (pre.length + 1) c6)) ∧ (∀ k, O' k → O k ∨ X.heap.size ≤ k) ∧ Rnd O X (w6.setCell ⟨w2.heap.size, 0, none⟩ (.slice A6 (pre.length + 1) c6)) := by
  have hs : Stp X w5 := Stp.trans (Stp.drewN (Stp.refl X) 1) hs5
  have hsz := hs.size
  have hlt : w2.heap.size < X.heap.size := hB1.lt
  have hne : v.ownBlock ≠ some w2.heap.size := RangeG.own_ne h4
  have hne0 : v.ownBlock ≠ some w.heap.size := fun hb => by
    obtain ⟨us, g1, -⟩ := h4
    have := (g1.lt _ hb).1
    omega
  have hB6 := ((boxed_kept hB1 hs5).alloc o5).kept r2 (fun e => hne e.symm)
  have hB7 := ((boxed_kept hB2 hs5).alloc o5).kept r2 (fun e => hne0 e.symm)
  have hne6 : (Value.slice A6 (pre.length + 1) c6).ownBlock ≠ some w2.heap.size := RangeG.own_ne r1
  refine ⟨fun k => k = w2.heap.size ∨ (Value.slice A6 (pre.length + 1) c6).ownBlock = some k, ⟨_, fun k => Iff.rfl, hB6.set _, hB7.other (B' := w2.heap.size) (by omega) _, ?_, ?_, fun y hy => ?_⟩, fun k hk => ?_, ?_⟩
  · rw [List.map_append]
    exact RangeG.rows_far r1 hB6 (fun k x e => by
      obtain ⟨us, g1, -⟩ := h4
      rcases g1 with ⟨h, -⟩ | ⟨g, cap, cur, fz, h, -⟩ <;> rw [h] at e <;> cases e) hne6 _
  · exact Below.setCell (((h4.keep hs).keep (Stp.alloc (Stp.refl w5) o5)).stp (Stp.alloc (Stp.trans h5 hs) o5) (by rw [World.size_alloc]; omega) r2) (p := ⟨w2.heap.size, 0, none⟩) (by show (w.alloc _).heap.size ≤ w2.heap.size; rw [World.size_alloc]; omega) _
  · rcases List.mem_append.1 hy with h | h
    · exact h6 y h
    · rw [List.mem_singleton.1 h]
      exact hxl
  · rcases hk with rfl | hk
    · exact .inl ((h1 _).2 (.inl rfl))
    · rcases r3 with e | e
      · exact .inl ((h1 _).2 (.inr (e.symm.trans hk)))
      · rw [e] at hk
        simp only [Option.some.injEq] at hk
        exact .inr (by omega)
  · exact (((Rnd.of_stp hs).alloc o5).grown r2 (fun r hr => .inl ((h1 r).2 (.inr hr)))).setCell (.inl ((h1 _).2 (.inl rfl))) _
theorem stepIn_app {F : Fence} {n : Nat} {P : Program} {ops : Array Oper} {o : Oper} {a : Act} {K : Act → World → Prop} {Q : Exit → Act → World → Prop} {E : Prop} (w : World) (hgd : o.guard = none) (s x : Operand) (t : TypeId)
    (ho : o.op = .call { callee := .builtin .append, args := #[s, x], argTypes := #[t, t] }) (v u : Value) (hs : a.eval s = v) (hx : a.eval x = u) {v' : Value} {w' : World}
    (hrun : (Builtin.append_ #[t, t] o.type #[v, u]).run P w = .ok v' w') (h : K (a.put o.dst v') w') :
    if Region.wanted o (yielded ops a.tmps) = true then Oper.wpIn F n P o a w K Q else E := by
  rw [if_pos (by simp [Region.wanted, hgd])]
  unfold Oper.wpIn
  refine ⟨?_, ?_⟩
  · simp [Oper.about, ho, resolve, Target.leads, Sem.run_pure]
  · rw [Oper.semAt_plain F _ _ (by rw [ho]; intro c hc'; cases hc')]
    simp [execOp, ho, resolve, invoke, builtin, hs, hx, hrun, Result.andThen]
    exact h
theorem lo_ok {X : World} {B : Nat} {t : TypeId} {v : Value} (h : Boxed X.drew B t v) : B + 1 ≤ X.heap.size := h.lt

set_option maxRecDepth 100000 in
set_option maxHeartbeats 2000000 in
theorem group_yes (b : Nat) (ls : List (List UInt8)) (hG : groupB ls (b : Int) = true) (A : Option Addr) (c : Nat) (w : World) (ha : RdL w A c ls) :
    Calls Try.prog 20 #[.slice A ls.length c, .int .i64 (b : Int)] w fun e w' => ∃ B d, e = .returned (.tuple #[.slice B (groupV ls (b : Int)).length d, .bool true]) ∧ RdL w' B d (groupV ls (b : Int)) ∧ Stp w w' := by
  obtain ⟨⟨hb1, hb2⟩, hlen, hmay⟩ := groupB_iff.1 hG
  obtain ⟨k, hk, hk1, hk2, -, hkl⟩ := many_nat ls.length b (by omega) (by omega)
  have he : groupV ls (b : Int) = recs b k ls := by
    rw [groupV_yes hG, hk]
    rfl
  rw [he, recs_length]
  have Hh : Hid (holdV (b : Int) = true) := Lib.hid (holdV_iff.2 ⟨hb1, hb2⟩)
  have Hm := Lib.hid hmay
  have g1 : decide ((4000 : Int) < (ls.length : Int)) = false := decide_eq_false (by omega)
  have hb0 := Boxed.new w 3 (.int .i64 (b : Int))
  have h0 : Stp (w.alloc (.cells #[.int .i64 (b : Int)] 3)) (w.alloc (.cells #[.int .i64 (b : Int)] 3)) := Stp.refl _
  have Hal : Hid (Stp w (w.alloc (.cells #[.int .i64 (b : Int)] 3))) := Lib.hid (Stp.alloc (Stp.refl w) _)
  have Ha := Lib.hid ha
  clear ha hmay he hk hG
  refine (callsIn_wide (n := 4)).1 ?_
  refine callsIn_of_wp_marks Try.func20 rfl trivial ?_ rfl
  simp only [Try.ntmps20, List.size_toArray, List.length_cons, List.length_nil, Nat.reduceAdd, Nat.reduceSub, Array.replicate_succ, Array.replicate_zero, List.push_toArray, List.append_toArray, List.nil_append, List.cons_append]
  have q0 := hb0.cell
  gi_wp2_with (first
    | (refine ⟨trivial, ?_⟩; gi_at_call 41; refine (callsIn_wide.2 (hold_s _ _)).mono ?_; rintro e w' ⟨rfl, hs⟩; rw [Hh.out]; replace h0 := Stp.trans h0 hs; clear hs q0; have q0 := (boxed_kept hb0 h0).cell)
    | (refine ⟨trivial, ?_⟩; gi_at_call 29; refine (callsIn_wide.2 (Block.may_s ls _ _ _ (Ha.out.keep (Stp.trans Hal.out h0)) (by omega))).mono ?_; rintro e w2 ⟨rfl, hs⟩; rw [Hm.out]; replace h0 := Stp.trans h0 hs; clear hs q0; have q0 := ((boxed_kept hb0 h0).alloc (.cells #[.slice none 0 0] 27)).cell)
    | (refine ⟨trivial, ?_⟩; gi_at_call 42; refine (callsIn_wide.2 (chunks_any A ls.length c _ _)).mono ?_; rintro e w3 ⟨rfl, rfl⟩))
  have bO := Boxed.new w2 27 (.slice none 0 0)
  have bT := Boxed.new (w2.alloc (.cells #[.slice none 0 0] 27)) 27 (.slice A ls.length c)
  have bB := Boxed.new ((w2.alloc (.cells #[.slice none 0 0] 27)).alloc (.cells #[.slice A ls.length c] 27)) 3 (.int .i64 (b : Int))
  have bO' := (bO.alloc (.cells #[.slice A ls.length c] 27)).alloc (.cells #[.int .i64 (b : Int)] 3)
  have bT' := bT.alloc (.cells #[.int .i64 (b : Int)] 3)
  simp only [World.size_alloc] at bT' bB
  have h2 : Stp w2 (((w2.alloc (.cells #[.slice none 0 0] 27)).alloc (.cells #[.slice A ls.length c] 27)).alloc (.cells #[.int .i64 (b : Int)] 3)) := Stp.alloc (Stp.alloc (Stp.alloc (Stp.refl w2) _) _) _
  have hsz : (((w2.alloc (.cells #[.slice none 0 0] 27)).alloc (.cells #[.slice A ls.length c] 27)).alloc (.cells #[.int .i64 (b : Int)] 3)).heap.size = w2.heap.size + 3 := by simp
  have hw2 : w.heap.size < w2.heap.size := by have := h0.size; rw [World.size_alloc] at this; omega
  refine range_o (by omega) (gf := 67) (lb := #[.pointer (some ⟨w2.heap.size + 1, 0, none⟩), .pointer (some ⟨w2.heap.size + 2, 0, none⟩)]) rfl (enters_of Try.func67 (by kernel_rfl) rfl)
    (chunks_seq b (by omega) (by omega) ls k hk1 hk2 A c (w2.heap.size + 1) (w2.heap.size + 2) w2 _ (Ha.out.keep (Stp.trans Hal.out h0)) Hm.out h2 bT'.cell bB.cell) (Stp.refl _) (fun _ => rfl)
    (IG b w w2) (fun _ _ _ _ => False) (fun k => k = w2.heap.size) (by rintro k (h | rfl) <;> omega) ?hI (fun _ _ _ _ _ h _ => h.elim) ?hO (fun _ _ _ _ h => h.elim) (fun h => h.elim) ?h0
    (fun x a' X => a' = { tmps := #[.slice A ls.length c, .int .i64 (b : Int), undef, .pointer (some ⟨w.heap.size, 0, none⟩), .slice none 0 0, .bool false, .pointer (some ⟨w2.heap.size, 0, none⟩), .slice x.2.1 x.1.length x.2.2, .int .i64 (b : Int), .bool true, .bool false, .bool false, .slice A ls.length c, .int .i64 (ls.length : Int), .bool false, .bool false, .bool false, .slice A ls.length c, .bool true, .bool false, .bool false, .slice A ls.length c, .int .i64 (b : Int), .func (.func 67) #[] #[.pointer (some ⟨w2.heap.size + 1, 0, none⟩), .pointer (some ⟨w2.heap.size + 2, 0, none⟩)], .slice x.2.1 x.1.length x.2.2, undef, undef, undef, undef, undef, undef, undef], defers := [] } ∧ RdL X x.2.1 x.2.2 x.1 ∧ mayV x.1 = true ∧ x.1.length ≤ b)
    ?hAx ?assign ?body ?done (fun _ _ _ _ _ _ _ h _ => h.elim)
  case hI =>
    rintro O s X Y ⟨v, h1, h2, h3, h4, h5, h6⟩ hs
    rw [hsz] at hs
    exact ⟨v, h1, hs.same h2 (.inr (.inl ((h1 _).2 (.inl rfl)))), hs.same h3 (.inr (.inr (by omega))), RangeG.rows_sme hs h4 (fun g hg => (h1 g).2 (.inr hg)), RangeG.stp_sme hs h5 (by rw [World.size_alloc]; omega), h6⟩
  case hO =>
    rintro O s X ⟨v, h1, h2, h3, ⟨us, h4, -⟩, h5, h6⟩ k hk
    rcases (h1 k).1 hk with rfl | h
    · exact ⟨_, h2, rfl⟩
    · exact RangeG.own_cells h4 h
  case h0 => exact ⟨_, fun k => by simp [Value.ownBlock], bO', (((boxed_kept hb0 h0).alloc _).alloc _).alloc _, Base.Rows.nil _ _ _, Stp.trans h0 h2, by simp⟩
  case hAx =>
    rintro x a' X l r r' ⟨h1, h2, h3, h4⟩ hl
    exact ⟨h1, rdL_put _ h2 hl, h3, h4⟩
  case assign =>
    intro l O pre x X K hi hc hK
    simp only [encR]
    gi_wp2
    exact hK _ _ (Stp.refl X) ⟨rfl, hc.1, hc.2⟩
  case body =>
    rintro l O pre x a' X hwl ⟨v, h1, hB1, hB2, h4, h5, h6⟩ ⟨rfl, hr, hxm, hxl⟩ hlt
    have H1 := Lib.hid h1
    have H4 := Lib.hid h4
    have H5 := Lib.hid h5
    have H6 := Lib.hid h6
    have Hr := Lib.hid (show RdL X.drew x.2.1 x.2.2 x.1 from hr.keep (Stp.drewN (Stp.refl X) 1))
    have Hxm := Lib.hid hxm
    have HB1 := Lib.hid (show Boxed X.drew w2.heap.size 27 v from hB1)
    have HB2 := Lib.hid (show Boxed X.drew w.heap.size 3 (.int .i64 (b : Int)) from hB2)
    have q1 : X.drew.cell? ⟨w2.heap.size, 0, none⟩ = some v := hB1.cell
    have q2 : X.drew.cell? ⟨w.heap.size, 0, none⟩ = some (.int .i64 (b : Int)) := hB2.cell
    have f1 : X.drew.frozen? ⟨w2.heap.size, 0, none⟩ = false := hB1.frozen
    clear h1 h4 h5 h6 hr hxm hwl bO bT bB bO' bT' h2 q0 hB1 hB2
    gi_wp2
    have hpk : pre.length < 4000 := by omega
    refine wpIn_region_any (by kernel_rfl) ?_
    try (change wpAnyIn _ _ _ _ _ _ _ _ _ (World.drew _))
    refine wpAnyIn_ready (rs := [0, 1, 2]) (by kernel_rfl) (by simp) ?_
    refine AllReadyIn.cons rfl (fun K hK => ?_) ?_
    ·
      go_simp
      refine hK _ _ ?_
      clear hK K
      refine wpAnyIn_ready (rs := [1, 2]) (by kernel_rfl) (by simp) ?_
      refine AllReadyIn.cons rfl (fun K hK => ?_) ?_
      ·
        go_simp
        refine hK _ _ ?_
        clear hK K
        refine wpAnyIn_ready (rs := [2]) (by kernel_rfl) (by simp) ?_
        refine AllReadyIn.cons rfl (fun K hK => ?_) ?_
        ·
          go_simp
          refine hK _ _ ?_
          clear hK K
          refine wpAnyIn_ready (rs := [3]) (by kernel_rfl) (by simp) ?_
          refine AllReadyIn.cons rfl (fun K hK => ?_) ?_
          ·
            go_simp
            gi_wp2_with (refine ⟨trivial, ?_⟩; gi_at_call 43; refine (CallsIn.inRound l (callsIn_wide.2 (rjoin_s b x.1 _ _ _ Hr.out Hxm.out hxl (by omega) (by omega)))).mono ?_; rintro e w5 ⟨rfl, hb5, hs5⟩)
            obtain ⟨v', w6, hrun, r1, r2, r3⟩ := app_rec (g := X.drew.heap.size) 27 H4.out (lo_ok HB1.out) (Stp.trans (Stp.drewN (Stp.refl X) 1) hs5) hb5 (recOf_length Hxm.out hxl) (by omega) (by rw [List.length_map]; omega)
            obtain ⟨A6, c6, rfl, -⟩ := r1.rdL
            have Hrun := Lib.hid hrun
            have R1 := Lib.hid r1
            have R2 := Lib.hid r2
            have R3 := Lib.hid r3
            have Hs5 := Lib.hid hs5
            have q1 := (boxed_kept HB1.out hs5).cell
            have q3 := ((boxed_kept HB1.out hs5).alloc (.cells #[.slice (some ⟨X.heap.size, 0, none⟩) (512 * b) (512 * b)] 24)).cell
            clear hrun r1 r2 r3 hb5 hs5
            refine wpAnyIn_ready (rs := [4]) (by kernel_rfl) (by simp) ?_
            refine AllReadyIn.cons rfl (fun K hK => ?_) ?_
            ·
              go_simp
              refine hK _ _ ?_
              clear hK K
              refine wpAnyIn_ready (rs := [5]) (by kernel_rfl) (by simp) ?_
              refine AllReadyIn.cons rfl (fun K hK => ?_) ?_
              ·
                refine stepIn_app _ rfl (.tmp 25) (.tmp 29) 27 rfl _ _ rfl rfl Hrun.out (hK _ _ ?_)
                clear hK K
                have HB6 := Lib.hid (((boxed_kept HB1.out Hs5.out).alloc _).kept R2.out (fun e => RangeG.own_ne H4.out e.symm))
                have q6 := HB6.out.cell
                have f6 := HB6.out.frozen
                refine wpAnyIn_ready (rs := [6]) (by kernel_rfl) (by simp) ?_
                refine AllReadyIn.cons rfl (fun K hK => ?_) ?_
                ·
                  go_simp
                  refine hK _ _ ?_
                  clear hK K
                  refine wpAnyIn_done (by kernel_rfl) ?_ _
                  gi_wp2
                  exact body_end H1.out H4.out H5.out H6.out HB1.out HB2.out hw2 Hs5.out (by have := R1.out; rwa [List.length_append, List.length_map] at this) R2.out (by have := R3.out; rwa [List.length_append, List.length_map] at this) hxl
                exact AllReadyIn.nil
              exact AllReadyIn.nil
            exact AllReadyIn.nil
          exact AllReadyIn.nil
        exact AllReadyIn.nil
      refine AllReadyIn.cons rfl (fun K hK => ?_) ?_
      ·
        go_simp
        refine hK _ _ ?_
        clear hK K
        refine wpAnyIn_ready (rs := [1]) (by kernel_rfl) (by simp) ?_
        refine AllReadyIn.cons rfl (fun K hK => ?_) ?_
        ·
          go_simp
          refine hK _ _ ?_
          clear hK K
          refine wpAnyIn_ready (rs := [3]) (by kernel_rfl) (by simp) ?_
          refine AllReadyIn.cons rfl (fun K hK => ?_) ?_
          ·
            go_simp
            gi_wp2_with (refine ⟨trivial, ?_⟩; gi_at_call 43; refine (CallsIn.inRound l (callsIn_wide.2 (rjoin_s b x.1 _ _ _ Hr.out Hxm.out hxl (by omega) (by omega)))).mono ?_; rintro e w5 ⟨rfl, hb5, hs5⟩)
            obtain ⟨v', w6, hrun, r1, r2, r3⟩ := app_rec (g := X.drew.heap.size) 27 H4.out (lo_ok HB1.out) (Stp.trans (Stp.drewN (Stp.refl X) 1) hs5) hb5 (recOf_length Hxm.out hxl) (by omega) (by rw [List.length_map]; omega)
            obtain ⟨A6, c6, rfl, -⟩ := r1.rdL
            have Hrun := Lib.hid hrun
            have R1 := Lib.hid r1
            have R2 := Lib.hid r2
            have R3 := Lib.hid r3
            have Hs5 := Lib.hid hs5
            have q1 := (boxed_kept HB1.out hs5).cell
            have q3 := ((boxed_kept HB1.out hs5).alloc (.cells #[.slice (some ⟨X.heap.size, 0, none⟩) (512 * b) (512 * b)] 24)).cell
            clear hrun r1 r2 r3 hb5 hs5
            refine wpAnyIn_ready (rs := [4]) (by kernel_rfl) (by simp) ?_
            refine AllReadyIn.cons rfl (fun K hK => ?_) ?_
            ·
              go_simp
              refine hK _ _ ?_
              clear hK K
              refine wpAnyIn_ready (rs := [5]) (by kernel_rfl) (by simp) ?_
              refine AllReadyIn.cons rfl (fun K hK => ?_) ?_
              ·
                refine stepIn_app _ rfl (.tmp 25) (.tmp 29) 27 rfl _ _ rfl rfl Hrun.out (hK _ _ ?_)
                clear hK K
                have HB6 := Lib.hid (((boxed_kept HB1.out Hs5.out).alloc _).kept R2.out (fun e => RangeG.own_ne H4.out e.symm))
                have q6 := HB6.out.cell
                have f6 := HB6.out.frozen
                refine wpAnyIn_ready (rs := [6]) (by kernel_rfl) (by simp) ?_
                refine AllReadyIn.cons rfl (fun K hK => ?_) ?_
                ·
                  go_simp
                  refine hK _ _ ?_
                  clear hK K
                  refine wpAnyIn_done (by kernel_rfl) ?_ _
                  gi_wp2
                  exact body_end H1.out H4.out H5.out H6.out HB1.out HB2.out hw2 Hs5.out (by have := R1.out; rwa [List.length_append, List.length_map] at this) R2.out (by have := R3.out; rwa [List.length_append, List.length_map] at this) hxl
                exact AllReadyIn.nil
              exact AllReadyIn.nil
            exact AllReadyIn.nil
          exact AllReadyIn.nil
        exact AllReadyIn.nil
      exact AllReadyIn.nil
    refine AllReadyIn.cons rfl (fun K hK => ?_) ?_
    ·
      go_simp
      refine hK _ _ ?_
      clear hK K
      refine wpAnyIn_ready (rs := [0, 2]) (by kernel_rfl) (by simp) ?_
      refine AllReadyIn.cons rfl (fun K hK => ?_) ?_
      ·
        go_simp
        refine hK _ _ ?_
        clear hK K
        refine wpAnyIn_ready (rs := [2]) (by kernel_rfl) (by simp) ?_
        refine AllReadyIn.cons rfl (fun K hK => ?_) ?_
        ·
          go_simp
          refine hK _ _ ?_
          clear hK K
          refine wpAnyIn_ready (rs := [3]) (by kernel_rfl) (by simp) ?_
          refine AllReadyIn.cons rfl (fun K hK => ?_) ?_
          ·
            go_simp
            gi_wp2_with (refine ⟨trivial, ?_⟩; gi_at_call 43; refine (CallsIn.inRound l (callsIn_wide.2 (rjoin_s b x.1 _ _ _ Hr.out Hxm.out hxl (by omega) (by omega)))).mono ?_; rintro e w5 ⟨rfl, hb5, hs5⟩)
            obtain ⟨v', w6, hrun, r1, r2, r3⟩ := app_rec (g := X.drew.heap.size) 27 H4.out (lo_ok HB1.out) (Stp.trans (Stp.drewN (Stp.refl X) 1) hs5) hb5 (recOf_length Hxm.out hxl) (by omega) (by rw [List.length_map]; omega)
            obtain ⟨A6, c6, rfl, -⟩ := r1.rdL
            have Hrun := Lib.hid hrun
            have R1 := Lib.hid r1
            have R2 := Lib.hid r2
            have R3 := Lib.hid r3
            have Hs5 := Lib.hid hs5
            have q1 := (boxed_kept HB1.out hs5).cell
            have q3 := ((boxed_kept HB1.out hs5).alloc (.cells #[.slice (some ⟨X.heap.size, 0, none⟩) (512 * b) (512 * b)] 24)).cell
            clear hrun r1 r2 r3 hb5 hs5
            refine wpAnyIn_ready (rs := [4]) (by kernel_rfl) (by simp) ?_
            refine AllReadyIn.cons rfl (fun K hK => ?_) ?_
            ·
              go_simp
              refine hK _ _ ?_
              clear hK K
              refine wpAnyIn_ready (rs := [5]) (by kernel_rfl) (by simp) ?_
              refine AllReadyIn.cons rfl (fun K hK => ?_) ?_
              ·
                refine stepIn_app _ rfl (.tmp 25) (.tmp 29) 27 rfl _ _ rfl rfl Hrun.out (hK _ _ ?_)
                clear hK K
                have HB6 := Lib.hid (((boxed_kept HB1.out Hs5.out).alloc _).kept R2.out (fun e => RangeG.own_ne H4.out e.symm))
                have q6 := HB6.out.cell
                have f6 := HB6.out.frozen
                refine wpAnyIn_ready (rs := [6]) (by kernel_rfl) (by simp) ?_
                refine AllReadyIn.cons rfl (fun K hK => ?_) ?_
                ·
                  go_simp
                  refine hK _ _ ?_
                  clear hK K
                  refine wpAnyIn_done (by kernel_rfl) ?_ _
                  gi_wp2
                  exact body_end H1.out H4.out H5.out H6.out HB1.out HB2.out hw2 Hs5.out (by have := R1.out; rwa [List.length_append, List.length_map] at this) R2.out (by have := R3.out; rwa [List.length_append, List.length_map] at this) hxl
                exact AllReadyIn.nil
              exact AllReadyIn.nil
            exact AllReadyIn.nil
          exact AllReadyIn.nil
        exact AllReadyIn.nil
      refine AllReadyIn.cons rfl (fun K hK => ?_) ?_
      ·
        go_simp
        refine hK _ _ ?_
        clear hK K
        refine wpAnyIn_ready (rs := [0, 3]) (by kernel_rfl) (by simp) ?_
        refine AllReadyIn.cons rfl (fun K hK => ?_) ?_
        ·
          go_simp
          refine hK _ _ ?_
          clear hK K
          refine wpAnyIn_ready (rs := [3]) (by kernel_rfl) (by simp) ?_
          refine AllReadyIn.cons rfl (fun K hK => ?_) ?_
          ·
            go_simp
            gi_wp2_with (refine ⟨trivial, ?_⟩; gi_at_call 43; refine (CallsIn.inRound l (callsIn_wide.2 (rjoin_s b x.1 _ _ _ Hr.out Hxm.out hxl (by omega) (by omega)))).mono ?_; rintro e w5 ⟨rfl, hb5, hs5⟩)
            obtain ⟨v', w6, hrun, r1, r2, r3⟩ := app_rec (g := X.drew.heap.size) 27 H4.out (lo_ok HB1.out) (Stp.trans (Stp.drewN (Stp.refl X) 1) hs5) hb5 (recOf_length Hxm.out hxl) (by omega) (by rw [List.length_map]; omega)
            obtain ⟨A6, c6, rfl, -⟩ := r1.rdL
            have Hrun := Lib.hid hrun
            have R1 := Lib.hid r1
            have R2 := Lib.hid r2
            have R3 := Lib.hid r3
            have Hs5 := Lib.hid hs5
            have q1 := (boxed_kept HB1.out hs5).cell
            have q3 := ((boxed_kept HB1.out hs5).alloc (.cells #[.slice (some ⟨X.heap.size, 0, none⟩) (512 * b) (512 * b)] 24)).cell
            clear hrun r1 r2 r3 hb5 hs5
            refine wpAnyIn_ready (rs := [4]) (by kernel_rfl) (by simp) ?_
            refine AllReadyIn.cons rfl (fun K hK => ?_) ?_
            ·
              go_simp
              refine hK _ _ ?_
              clear hK K
              refine wpAnyIn_ready (rs := [5]) (by kernel_rfl) (by simp) ?_
              refine AllReadyIn.cons rfl (fun K hK => ?_) ?_
              ·
                refine stepIn_app _ rfl (.tmp 25) (.tmp 29) 27 rfl _ _ rfl rfl Hrun.out (hK _ _ ?_)
                clear hK K
                have HB6 := Lib.hid (((boxed_kept HB1.out Hs5.out).alloc _).kept R2.out (fun e => RangeG.own_ne H4.out e.symm))
                have q6 := HB6.out.cell
                have f6 := HB6.out.frozen
                refine wpAnyIn_ready (rs := [6]) (by kernel_rfl) (by simp) ?_
                refine AllReadyIn.cons rfl (fun K hK => ?_) ?_
                ·
                  go_simp
                  refine hK _ _ ?_
                  clear hK K
                  refine wpAnyIn_done (by kernel_rfl) ?_ _
                  gi_wp2
                  exact body_end H1.out H4.out H5.out H6.out HB1.out HB2.out hw2 Hs5.out (by have := R1.out; rwa [List.length_append, List.length_map] at this) R2.out (by have := R3.out; rwa [List.length_append, List.length_map] at this) hxl
                exact AllReadyIn.nil
              exact AllReadyIn.nil
            exact AllReadyIn.nil
          exact AllReadyIn.nil
        refine AllReadyIn.cons rfl (fun K hK => ?_) ?_
        ·
          go_simp
          gi_wp2_with (refine ⟨trivial, ?_⟩; gi_at_call 43; refine (CallsIn.inRound l (callsIn_wide.2 (rjoin_s b x.1 _ _ _ Hr.out Hxm.out hxl (by omega) (by omega)))).mono ?_; rintro e w5 ⟨rfl, hb5, hs5⟩)
          obtain ⟨v', w6, hrun, r1, r2, r3⟩ := app_rec (g := X.drew.heap.size) 27 H4.out (lo_ok HB1.out) (Stp.trans (Stp.drewN (Stp.refl X) 1) hs5) hb5 (recOf_length Hxm.out hxl) (by omega) (by rw [List.length_map]; omega)
          obtain ⟨A6, c6, rfl, -⟩ := r1.rdL
          have Hrun := Lib.hid hrun
          have R1 := Lib.hid r1
          have R2 := Lib.hid r2
          have R3 := Lib.hid r3
          have Hs5 := Lib.hid hs5
          have q1 := (boxed_kept HB1.out hs5).cell
          have q3 := ((boxed_kept HB1.out hs5).alloc (.cells #[.slice (some ⟨X.heap.size, 0, none⟩) (512 * b) (512 * b)] 24)).cell
          clear hrun r1 r2 r3 hb5 hs5
          refine wpAnyIn_ready (rs := [0, 4]) (by kernel_rfl) (by simp) ?_
          refine AllReadyIn.cons rfl (fun K hK => ?_) ?_
          ·
            go_simp
            refine hK _ _ ?_
            clear hK K
            refine wpAnyIn_ready (rs := [4]) (by kernel_rfl) (by simp) ?_
            refine AllReadyIn.cons rfl (fun K hK => ?_) ?_
            ·
              go_simp
              refine hK _ _ ?_
              clear hK K
              refine wpAnyIn_ready (rs := [5]) (by kernel_rfl) (by simp) ?_
              refine AllReadyIn.cons rfl (fun K hK => ?_) ?_
              ·
                refine stepIn_app _ rfl (.tmp 25) (.tmp 29) 27 rfl _ _ rfl rfl Hrun.out (hK _ _ ?_)
                clear hK K
                have HB6 := Lib.hid (((boxed_kept HB1.out Hs5.out).alloc _).kept R2.out (fun e => RangeG.own_ne H4.out e.symm))
                have q6 := HB6.out.cell
                have f6 := HB6.out.frozen
                refine wpAnyIn_ready (rs := [6]) (by kernel_rfl) (by simp) ?_
                refine AllReadyIn.cons rfl (fun K hK => ?_) ?_
                ·
                  go_simp
                  refine hK _ _ ?_
                  clear hK K
                  refine wpAnyIn_done (by kernel_rfl) ?_ _
                  gi_wp2
                  exact body_end H1.out H4.out H5.out H6.out HB1.out HB2.out hw2 Hs5.out (by have := R1.out; rwa [List.length_append, List.length_map] at this) R2.out (by have := R3.out; rwa [List.length_append, List.length_map] at this) hxl
                exact AllReadyIn.nil
              exact AllReadyIn.nil
            exact AllReadyIn.nil
          refine AllReadyIn.cons rfl (fun K hK => ?_) ?_
          ·
            go_simp
            refine hK _ _ ?_
            clear hK K
            refine wpAnyIn_ready (rs := [0]) (by kernel_rfl) (by simp) ?_
            refine AllReadyIn.cons rfl (fun K hK => ?_) ?_
            ·
              go_simp
              refine hK _ _ ?_
              clear hK K
              refine wpAnyIn_ready (rs := [5]) (by kernel_rfl) (by simp) ?_
              refine AllReadyIn.cons rfl (fun K hK => ?_) ?_
              ·
                refine stepIn_app _ rfl (.tmp 25) (.tmp 29) 27 rfl _ _ rfl rfl Hrun.out (hK _ _ ?_)
                clear hK K
                have HB6 := Lib.hid (((boxed_kept HB1.out Hs5.out).alloc _).kept R2.out (fun e => RangeG.own_ne H4.out e.symm))
                have q6 := HB6.out.cell
                have f6 := HB6.out.frozen
                refine wpAnyIn_ready (rs := [6]) (by kernel_rfl) (by simp) ?_
                refine AllReadyIn.cons rfl (fun K hK => ?_) ?_
                ·
                  go_simp
                  refine hK _ _ ?_
                  clear hK K
                  refine wpAnyIn_done (by kernel_rfl) ?_ _
                  gi_wp2
                  exact body_end H1.out H4.out H5.out H6.out HB1.out HB2.out hw2 Hs5.out (by have := R1.out; rwa [List.length_append, List.length_map] at this) R2.out (by have := R3.out; rwa [List.length_append, List.length_map] at this) hxl
                exact AllReadyIn.nil
              exact AllReadyIn.nil
            exact AllReadyIn.nil
          exact AllReadyIn.nil
        exact AllReadyIn.nil
      exact AllReadyIn.nil
    refine AllReadyIn.cons rfl (fun K hK => ?_) ?_
    ·
      go_simp
      refine hK _ _ ?_
      clear hK K
      refine wpAnyIn_ready (rs := [0, 1]) (by kernel_rfl) (by simp) ?_
      refine AllReadyIn.cons rfl (fun K hK => ?_) ?_
      ·
        go_simp
        refine hK _ _ ?_
        clear hK K
        refine wpAnyIn_ready (rs := [1]) (by kernel_rfl) (by simp) ?_
        refine AllReadyIn.cons rfl (fun K hK => ?_) ?_
        ·
          go_simp
          refine hK _ _ ?_
          clear hK K
          refine wpAnyIn_ready (rs := [3]) (by kernel_rfl) (by simp) ?_
          refine AllReadyIn.cons rfl (fun K hK => ?_) ?_
          ·
            go_simp
            gi_wp2_with (refine ⟨trivial, ?_⟩; gi_at_call 43; refine (CallsIn.inRound l (callsIn_wide.2 (rjoin_s b x.1 _ _ _ Hr.out Hxm.out hxl (by omega) (by omega)))).mono ?_; rintro e w5 ⟨rfl, hb5, hs5⟩)
            obtain ⟨v', w6, hrun, r1, r2, r3⟩ := app_rec (g := X.drew.heap.size) 27 H4.out (lo_ok HB1.out) (Stp.trans (Stp.drewN (Stp.refl X) 1) hs5) hb5 (recOf_length Hxm.out hxl) (by omega) (by rw [List.length_map]; omega)
            obtain ⟨A6, c6, rfl, -⟩ := r1.rdL
            have Hrun := Lib.hid hrun
            have R1 := Lib.hid r1
            have R2 := Lib.hid r2
            have R3 := Lib.hid r3
            have Hs5 := Lib.hid hs5
            have q1 := (boxed_kept HB1.out hs5).cell
            have q3 := ((boxed_kept HB1.out hs5).alloc (.cells #[.slice (some ⟨X.heap.size, 0, none⟩) (512 * b) (512 * b)] 24)).cell
            clear hrun r1 r2 r3 hb5 hs5
            refine wpAnyIn_ready (rs := [4]) (by kernel_rfl) (by simp) ?_
            refine AllReadyIn.cons rfl (fun K hK => ?_) ?_
            ·
              go_simp
              refine hK _ _ ?_
              clear hK K
              refine wpAnyIn_ready (rs := [5]) (by kernel_rfl) (by simp) ?_
              refine AllReadyIn.cons rfl (fun K hK => ?_) ?_
              ·
                refine stepIn_app _ rfl (.tmp 25) (.tmp 29) 27 rfl _ _ rfl rfl Hrun.out (hK _ _ ?_)
                clear hK K
                have HB6 := Lib.hid (((boxed_kept HB1.out Hs5.out).alloc _).kept R2.out (fun e => RangeG.own_ne H4.out e.symm))
                have q6 := HB6.out.cell
                have f6 := HB6.out.frozen
                refine wpAnyIn_ready (rs := [6]) (by kernel_rfl) (by simp) ?_
                refine AllReadyIn.cons rfl (fun K hK => ?_) ?_
                ·
                  go_simp
                  refine hK _ _ ?_
                  clear hK K
                  refine wpAnyIn_done (by kernel_rfl) ?_ _
                  gi_wp2
                  exact body_end H1.out H4.out H5.out H6.out HB1.out HB2.out hw2 Hs5.out (by have := R1.out; rwa [List.length_append, List.length_map] at this) R2.out (by have := R3.out; rwa [List.length_append, List.length_map] at this) hxl
                exact AllReadyIn.nil
              exact AllReadyIn.nil
            exact AllReadyIn.nil
          exact AllReadyIn.nil
        exact AllReadyIn.nil
      refine AllReadyIn.cons rfl (fun K hK => ?_) ?_
      ·
        go_simp
        refine hK _ _ ?_
        clear hK K
        refine wpAnyIn_ready (rs := [0, 3]) (by kernel_rfl) (by simp) ?_
        refine AllReadyIn.cons rfl (fun K hK => ?_) ?_
        ·
          go_simp
          refine hK _ _ ?_
          clear hK K
          refine wpAnyIn_ready (rs := [3]) (by kernel_rfl) (by simp) ?_
          refine AllReadyIn.cons rfl (fun K hK => ?_) ?_
          ·
            go_simp
            gi_wp2_with (refine ⟨trivial, ?_⟩; gi_at_call 43; refine (CallsIn.inRound l (callsIn_wide.2 (rjoin_s b x.1 _ _ _ Hr.out Hxm.out hxl (by omega) (by omega)))).mono ?_; rintro e w5 ⟨rfl, hb5, hs5⟩)
            obtain ⟨v', w6, hrun, r1, r2, r3⟩ := app_rec (g := X.drew.heap.size) 27 H4.out (lo_ok HB1.out) (Stp.trans (Stp.drewN (Stp.refl X) 1) hs5) hb5 (recOf_length Hxm.out hxl) (by omega) (by rw [List.length_map]; omega)
            obtain ⟨A6, c6, rfl, -⟩ := r1.rdL
            have Hrun := Lib.hid hrun
            have R1 := Lib.hid r1
            have R2 := Lib.hid r2
            have R3 := Lib.hid r3
            have Hs5 := Lib.hid hs5
            have q1 := (boxed_kept HB1.out hs5).cell
            have q3 := ((boxed_kept HB1.out hs5).alloc (.cells #[.slice (some ⟨X.heap.size, 0, none⟩) (512 * b) (512 * b)] 24)).cell
            clear hrun r1 r2 r3 hb5 hs5
            refine wpAnyIn_ready (rs := [4]) (by kernel_rfl) (by simp) ?_
            refine AllReadyIn.cons rfl (fun K hK => ?_) ?_
            ·
              go_simp
              refine hK _ _ ?_
              clear hK K
              refine wpAnyIn_ready (rs := [5]) (by kernel_rfl) (by simp) ?_
              refine AllReadyIn.cons rfl (fun K hK => ?_) ?_
              ·
                refine stepIn_app _ rfl (.tmp 25) (.tmp 29) 27 rfl _ _ rfl rfl Hrun.out (hK _ _ ?_)
                clear hK K
                have HB6 := Lib.hid (((boxed_kept HB1.out Hs5.out).alloc _).kept R2.out (fun e => RangeG.own_ne H4.out e.symm))
                have q6 := HB6.out.cell
                have f6 := HB6.out.frozen
                refine wpAnyIn_ready (rs := [6]) (by kernel_rfl) (by simp) ?_
                refine AllReadyIn.cons rfl (fun K hK => ?_) ?_
                ·
                  go_simp
                  refine hK _ _ ?_
                  clear hK K
                  refine wpAnyIn_done (by kernel_rfl) ?_ _
                  gi_wp2
                  exact body_end H1.out H4.out H5.out H6.out HB1.out HB2.out hw2 Hs5.out (by have := R1.out; rwa [List.length_append, List.length_map] at this) R2.out (by have := R3.out; rwa [List.length_append, List.length_map] at this) hxl
                exact AllReadyIn.nil
              exact AllReadyIn.nil
            exact AllReadyIn.nil
          exact AllReadyIn.nil
        refine AllReadyIn.cons rfl (fun K hK => ?_) ?_
        ·
          go_simp
          gi_wp2_with (refine ⟨trivial, ?_⟩; gi_at_call 43; refine (CallsIn.inRound l (callsIn_wide.2 (rjoin_s b x.1 _ _ _ Hr.out Hxm.out hxl (by omega) (by omega)))).mono ?_; rintro e w5 ⟨rfl, hb5, hs5⟩)
          obtain ⟨v', w6, hrun, r1, r2, r3⟩ := app_rec (g := X.drew.heap.size) 27 H4.out (lo_ok HB1.out) (Stp.trans (Stp.drewN (Stp.refl X) 1) hs5) hb5 (recOf_length Hxm.out hxl) (by omega) (by rw [List.length_map]; omega)
          obtain ⟨A6, c6, rfl, -⟩ := r1.rdL
          have Hrun := Lib.hid hrun
          have R1 := Lib.hid r1
          have R2 := Lib.hid r2
          have R3 := Lib.hid r3
          have Hs5 := Lib.hid hs5
          have q1 := (boxed_kept HB1.out hs5).cell
          have q3 := ((boxed_kept HB1.out hs5).alloc (.cells #[.slice (some ⟨X.heap.size, 0, none⟩) (512 * b) (512 * b)] 24)).cell
          clear hrun r1 r2 r3 hb5 hs5
          refine wpAnyIn_ready (rs := [0, 4]) (by kernel_rfl) (by simp) ?_
          refine AllReadyIn.cons rfl (fun K hK => ?_) ?_
          ·
            go_simp
            refine hK _ _ ?_
            clear hK K
            refine wpAnyIn_ready (rs := [4]) (by kernel_rfl) (by simp) ?_
            refine AllReadyIn.cons rfl (fun K hK => ?_) ?_
            ·
              go_simp
              refine hK _ _ ?_
              clear hK K
              refine wpAnyIn_ready (rs := [5]) (by kernel_rfl) (by simp) ?_
              refine AllReadyIn.cons rfl (fun K hK => ?_) ?_
              ·
                refine stepIn_app _ rfl (.tmp 25) (.tmp 29) 27 rfl _ _ rfl rfl Hrun.out (hK _ _ ?_)
                clear hK K
                have HB6 := Lib.hid (((boxed_kept HB1.out Hs5.out).alloc _).kept R2.out (fun e => RangeG.own_ne H4.out e.symm))
                have q6 := HB6.out.cell
                have f6 := HB6.out.frozen
                refine wpAnyIn_ready (rs := [6]) (by kernel_rfl) (by simp) ?_
                refine AllReadyIn.cons rfl (fun K hK => ?_) ?_
                ·
                  go_simp
                  refine hK _ _ ?_
                  clear hK K
                  refine wpAnyIn_done (by kernel_rfl) ?_ _
                  gi_wp2
                  exact body_end H1.out H4.out H5.out H6.out HB1.out HB2.out hw2 Hs5.out (by have := R1.out; rwa [List.length_append, List.length_map] at this) R2.out (by have := R3.out; rwa [List.length_append, List.length_map] at this) hxl
                exact AllReadyIn.nil
              exact AllReadyIn.nil
            exact AllReadyIn.nil
          refine AllReadyIn.cons rfl (fun K hK => ?_) ?_
          ·
            go_simp
            refine hK _ _ ?_
            clear hK K
            refine wpAnyIn_ready (rs := [0]) (by kernel_rfl) (by simp) ?_
            refine AllReadyIn.cons rfl (fun K hK => ?_) ?_
            ·
              go_simp
              refine hK _ _ ?_
              clear hK K
              refine wpAnyIn_ready (rs := [5]) (by kernel_rfl) (by simp) ?_
              refine AllReadyIn.cons rfl (fun K hK => ?_) ?_
              ·
                refine stepIn_app _ rfl (.tmp 25) (.tmp 29) 27 rfl _ _ rfl rfl Hrun.out (hK _ _ ?_)
                clear hK K
                have HB6 := Lib.hid (((boxed_kept HB1.out Hs5.out).alloc _).kept R2.out (fun e => RangeG.own_ne H4.out e.symm))
                have q6 := HB6.out.cell
                have f6 := HB6.out.frozen
                refine wpAnyIn_ready (rs := [6]) (by kernel_rfl) (by simp) ?_
                refine AllReadyIn.cons rfl (fun K hK => ?_) ?_
                ·
                  go_simp
                  refine hK _ _ ?_
                  clear hK K
                  refine wpAnyIn_done (by kernel_rfl) ?_ _
                  gi_wp2
                  exact body_end H1.out H4.out H5.out H6.out HB1.out HB2.out hw2 Hs5.out (by have := R1.out; rwa [List.length_append, List.length_map] at this) R2.out (by have := R3.out; rwa [List.length_append, List.length_map] at this) hxl
                exact AllReadyIn.nil
              exact AllReadyIn.nil
            exact AllReadyIn.nil
          exact AllReadyIn.nil
        exact AllReadyIn.nil
      exact AllReadyIn.nil
    exact AllReadyIn.nil
  case done =>
    rintro D O ys X hD hys ⟨v, h1, h2, h3, h4, h5, h6⟩ hK
    have e : (ys.map fun x => recOf b x.1) = recs b k ls := by
      rw [recs, ← hys, List.map_map]
      rfl
    rw [e] at h4
    obtain ⟨A', cap', rfl, hL⟩ := h4.rdL
    have hc := h2.cell
    have HR := Lib.hid h4
    have H4 := Lib.hid h5
    rw [recs_length] at hc
    rw [hsz] at hD
    have HD := Lib.hid hD
    clear h1 h2 h3 h4 h5 h6 hys hL bO bT bO' e q0
    gi_wp2_with fail
    refine ⟨by simp, .inl ⟨_, _, rfl, run_takeDeferred hK, ?_⟩⟩
    have hs : Sme RangeG.Bx' (fun i => (Value.slice A' (recs b k ls).length cap').ownBlock = some i) (w.heap.size + 1) X (X.putObj D (.deferred none)) :=
      Sme.putObj _ hK (by have := HD.out; omega) (fun h => by
        obtain ⟨us, g1, -⟩ := HR.out
        obtain ⟨o, ho, hc⟩ := RangeG.own_cells g1 h
        rw [hK] at ho
        cases ho
        cases hc) (.inr rfl) (.inr rfl)
    obtain ⟨A2, c2, e2, hL⟩ := (RangeG.rows_sme hs HR.out (fun g hg => hg)).rdL
    cases e2
    refine ⟨.tuple #[.slice A' k cap', .bool true], ?_, A', cap', rfl, hL, Stp.trans Hal.out (RangeG.stp_sme hs H4.out (by rw [World.size_alloc]; omega))⟩
    simp [results, Try.f20, go_sem]

set_option maxRecDepth 100000 in
theorem group_no (b : Int) (ls : List (List UInt8)) (hG : groupB ls b = false) (A : Option Addr) (c : Nat) (w : World) (ha : RdL w A c ls) (hl : ls.length < 9223372036854775808) :
    Calls Try.prog 20 #[.slice A ls.length c, .int .i64 b] w fun e w' => e = .returned (.tuple #[.slice none 0 0, .bool false]) ∧ Stp w w' := by
  have hb0 := Boxed.new w 3 (.int .i64 b)
  have h0 : Stp (w.alloc (.cells #[.int .i64 b] 3)) (w.alloc (.cells #[.int .i64 b] 3)) := Stp.refl _
  have Hal : Hid (Stp w (w.alloc (.cells #[.int .i64 b] 3))) := Lib.hid (Stp.alloc (Stp.refl w) _)
  have q0 := hb0.cell
  have key : holdV b = false ∨ (holdV b = true ∧ decide ((4000 : Int) < (ls.length : Int)) = true) ∨ (holdV b = true ∧ decide ((4000 : Int) < (ls.length : Int)) = false ∧ mayV ls = false) := by
    unfold groupB at hG
    cases h1 : holdV b
    · exact .inl rfl
    · right
      by_cases h2 : ls.length ≤ 4000
      · right
        refine ⟨rfl, decide_eq_false (by omega), ?_⟩
        cases h3 : mayV ls
        · rfl
        · rw [h1, h3] at hG
          simp at hG
          omega
      · exact .inl ⟨rfl, decide_eq_true (by omega)⟩
  have Ha := Lib.hid ha
  clear ha hG
  rcases key with h1 | ⟨h1, g1⟩ | ⟨h1, g1, h3⟩
  · have H1 := Lib.hid h1
    clear h1
    go_enter Try.func20, Try.ntmps20
    go_wp2_with (go_at_call 41; refine (hold_s _ _).mono ?_; rintro e w' ⟨rfl, hs⟩; rw [H1.out]; replace h0 := Stp.trans h0 hs; clear hs)
    go_ret2
    exact ⟨rfl, Stp.trans Hal.out h0⟩
  · have H1 := Lib.hid h1
    clear h1
    go_enter Try.func20, Try.ntmps20
    go_wp2_with (go_at_call 41; refine (hold_s _ _).mono ?_; rintro e w' ⟨rfl, hs⟩; rw [H1.out]; replace h0 := Stp.trans h0 hs; clear hs)
    go_ret2
    exact ⟨rfl, Stp.trans Hal.out h0⟩
  · have H1 := Lib.hid h1
    have H3 := Lib.hid h3
    clear h1 h3
    go_enter Try.func20, Try.ntmps20
    go_wp2_with (first
      | (go_at_call 41; refine (hold_s _ _).mono ?_; rintro e w' ⟨rfl, hs⟩; rw [H1.out]; replace h0 := Stp.trans h0 hs; clear hs)
      | (go_at_call 29; refine (Block.may_s ls _ _ _ (Ha.out.keep (Stp.trans Hal.out h0)) (by omega)).mono ?_; rintro e w2 ⟨rfl, hs⟩; rw [H3.out]; replace h0 := Stp.trans h0 hs; clear hs))
    go_ret2
    exact ⟨rfl, Stp.trans Hal.out h0⟩
/-- Group, at any arguments. -/
theorem group_s (b : Int) (ls : List (List UInt8)) (A : Option Addr) (c : Nat) (w : World) (ha : RdL w A c ls) (hl : ls.length < 9223372036854775808) :
    Calls Try.prog 20 #[.slice A ls.length c, .int .i64 b] w fun e w' => ∃ B d, e = .returned (.tuple #[.slice B (groupV ls b).length d, .bool (groupB ls b)]) ∧ RdL w' B d (groupV ls b) ∧ Stp w w' := by
  cases hG : groupB ls b
  · rw [groupV_no hG]
    exact (group_no b ls hG A c w ha hl).mono fun e w' ⟨h1, h2⟩ => ⟨none, 0, h1, RdL.nil _, h2⟩
  · obtain ⟨n, rfl⟩ := Int.eq_ofNat_of_zero_le (show 0 ≤ b by have := (groupB_iff.1 hG).1; omega)
    exact group_yes n ls hG A c w ha
end Go.Proofs.Ytgjdbbhfgfodlaa.Rec
