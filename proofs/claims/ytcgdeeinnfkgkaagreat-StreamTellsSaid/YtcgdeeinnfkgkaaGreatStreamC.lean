/-
  Contracts of package stream: All, Many, Starts, Where, over its iterator: no statement is proved here.
  Contract of package stream's All, over its iterator: no statement is proved here.
  Contracts of package stream's Starts and Where, over its iterator, and of all four calls: no statement is proved here.
  Contract of package stream's Where, over its iterator, and all four calls' contracts together: no statement is proved here.
-/
import Derived.Test.YtcgdeeinnfkgkaaGreatStreamIt
import Derived.Test.YtcgdeeinnfkgkaaGreatStreamI
namespace Go.Proofs.YtcgdeeinnfkgkaaGreat.Stream
open Go.RowKit Go.Shelf Go.Proofs.YtcgdeeinnfkgkaaGreat.Str Go.Proofs.YtcgdeeinnfkgkaaGreat.Base Go.Proofs.YtcgdeeinnfkgkaaGreat.Node Go.Proofs.YtcgdeeinnfkgkaaGreat.Entry Go.Proofs.YtcgdeeinnfkgkaaGreat.RangeO
open Go.Proofs.YtcgdeeinnfkgkaaGreat.Tree (oneB mayT)

attribute [local go_sem] Oper.semAt_some

/-- The iterator, in the form of the law. -/
theorem parts_seq (D : Prop) (t : List Nd) (A : Option Addr) (c tb : Nat) (w00 w0 : World) (ha : RdN w00 A c t) (hl : t.length ≤ 1000) (hs : ∀ n ∈ t, SmallN n) (h00 : Stp w00 w0) (htb : w0.cell? ⟨tb, 0, none⟩ = some (.slice A t.length c)) :
    SeqO Tryz.prog 24 #[.pointer (some ⟨tb, 0, none⟩)] encE (HasE D) IntBox D (fun k => k < w00.heap.size ∨ k = tb) (fun xs => xs.map (·.1) = partsS t) (fun pre => pre.map (·.1) <+: partsS t) (partsS t).length w0 :=
  fun n l J Jx O W _ hW hl0 hl1 hrec hR hJ hJx hlt h8 hround h0 =>
    have htl := World.block_lt_of_cell? w0 _ htb
    parts_in n (hC := ⟨hJ, hJx, hlt, h8, hrec, fun O pre x X a b c => yield_any (hround O pre x X a b c)⟩) (m := n - 1) (l := l) t A c tb O w00 W ha hl hs (Stp.trans h00 hW) ((stp_cell hW htb).trans htb) (Nat.le_refl _)
      (by show tb ≠ l; have : tb < w0.heap.size := htl; omega) (Nat.lt_of_lt_of_le htl hW.size) (Nat.le_trans h00.size hl0) hl1 (hR tb (.inr rfl)) (fun k hk => hR k (.inl hk)) (Nat.le_refl _) h0

set_option maxRecDepth 100000 in
/-- parts: the tree is boxed; the function value captures the box. -/
theorem parts_any (A : Option Addr) (n c : Nat) (w : World) :
    Calls Tryz.prog 18 #[.slice A n c] w fun e w' => e = .returned (.func (.func 24) #[] #[.pointer (some ⟨w.heap.size, 0, none⟩)]) ∧ w' = w.alloc (.cells #[.slice A n c] 22) := by
  have hmf : ∀ (fn : Fn) (first cap : Array Value) (w : World), (Instr.makeFunc fn first cap).run Tryz.prog w = .ok (.func fn first cap) w := fun _ _ _ _ => rfl
  go_enter Tryz.func18, Tryz.ntmps18
  go_wp2_with fail
  go_ret
  exact ⟨rfl, rfl⟩

/-! ### what the caller's memory keeps through the iterator's steps -/
abbrev Bx' (o : Obj) : Prop := IntBox o ∨ o.isCells = false
section
variable {O : Nat → Prop} {B : Nat} {X Y : World}
theorem byte_same (hs : Sme Bx' O B X Y) {b i : Nat} {x : Int} (h : X.cell? ⟨b, i, none⟩ = some (.int .u8 x)) : Y.heap[b]? = X.heap[b]? := by
  have hb := World.block_lt_of_cell? X _ h
  rcases hs.block b hb with e | ⟨-, -, o, o', e1, -, e2, -⟩
  · exact e
  · exfalso
    rcases e2 with ⟨y, rfl⟩ | e2
    · have hk : Blk X b 3 #[.int .i64 y] := e1
      rw [hk.cell i] at h
      have hm := Array.mem_of_getElem? h
      simp at hm
    · cases o <;> simp [Obj.isCells] at e2 <;> simp [World.cell?, e1] at h
theorem rd_sme {u : Value} {l : L} (hs : Sme Bx' O B X Y) (h : Rd X X.heap.size u (bs l)) : Rd Y Y.heap.size u (bs l) := by
  obtain ⟨A, cap, rfl, hc, hr⟩ := h
  refine ⟨A, cap, rfl, hc, fun hn => ?_⟩
  obtain ⟨b, o, rfl, hb, hu⟩ := hr hn
  have h0 : 0 < l.length := by
    rcases Nat.eq_zero_or_pos l.length with e | e
    · exact absurd (List.eq_nil_of_length_eq_zero (by rw [bs_length, e])) hn
    · exact e
  have e := byte_same hs (hu 0 _ (bs_at h0))
  exact ⟨b, o, rfl, Nat.lt_of_lt_of_le hb hs.size, fun j u hj => (World.cell?_of_block (a := ⟨b, o + j, none⟩) e).trans (hu j u hj)⟩
theorem own_sme {lo : Nat} {e : TypeId} {v : Value} {xs : List Value} (hs : Sme Bx' O B X Y) (h : Base.Own X lo e v xs) (ho : ∀ g, v.ownBlock = some g → O g) : Base.Own Y lo e v xs := by
  rcases h with h | ⟨g, cap, cur, fz, rfl, hl, hg, rest⟩
  · exact .inl h
  · exact .inr ⟨g, cap, cur, fz, rfl, hl, hs.same hg (.inr (.inl (ho g rfl))), rest⟩
theorem allsl_sme {lo : Nat} {e : TypeId} {v : Value} {xs : List Value} (hs : Sme Bx' O B X Y) (hw : Base.Own X lo e v xs) (h : AllSl X v) (ho : ∀ g, v.ownBlock = some g → O g) : AllSl Y v := fun g hg j c hc => by
  have e : Y.heap[g]? = X.heap[g]? := by
    rcases hs.block g (hw.lt g hg).2 with e | ⟨-, e, -⟩
    · exact e
    · exact absurd (ho g hg) e
  rw [World.cell?_of_block (a := ⟨g, j, none⟩) e] at hc
  exact h g hg j c hc
theorem rows_sme {lo : Nat} {e : TypeId} {v : Value} {ls : List L} (hs : Sme Bx' O B X Y) (h : Base.Rows X lo e v ls) (ho : ∀ g, v.ownBlock = some g → O g) : Base.Rows Y lo e v ls := by
  obtain ⟨us, h1, h2, h3, h4⟩ := h
  refine ⟨us, own_sme hs h1 ho, allsl_sme hs h1 h2 ho, h3, fun j l hj => ?_⟩
  obtain ⟨u, hu, hr⟩ := h4 j l hj
  exact ⟨u, hu, rd_sme hs hr⟩
theorem stp_sme {w : World} (hs : Sme Bx' O B X Y) (h : Stp w X) (hB : w.heap.size ≤ B) : Stp w Y :=
  ⟨hs.os.trans h.os, hs.tape.trans h.tape, hs.output.trans h.output, Nat.le_trans h.size hs.size, fun k hk => by
    rcases hs.block k (Nat.lt_of_lt_of_le hk h.size) with e | ⟨e, -⟩
    · exact e.trans (h.block k hk)
    · omega⟩
theorem own_cells {lo : Nat} {e : TypeId} {v : Value} {xs : List Value} (h : Base.Own X lo e v xs) {k : Nat} (hk : v.ownBlock = some k) : ∃ o, X.heap[k]? = some o ∧ o.isCells = true := by
  rcases h with ⟨rfl, -⟩ | ⟨g, cap, cur, fz, rfl, -, hg, -⟩
  · simp [Value.ownBlock] at hk
  · simp [Value.ownBlock] at hk
    subst hk
    exact ⟨_, hg, rfl⟩
end

/-! ### appends within a round -/
section
variable {F : Fence} {n : Nat} {P : Program} (w : World) {ops : Array Oper} {rest : List Oper} {o : Oper} {a : Act} {Q : Exit → Act → World → Prop} {lo : Nat} {ls ms : List (List UInt8)}
theorem wpListIn_append_rd (hgd : o.guard = none) (s x : Operand) (t : TypeId)
    (ho : o.op = .call { callee := .builtin .append, args := #[s, x], argTypes := #[t, t] })
    (lo : Nat) (e : TypeId) (z : Value) (bytes : Nat) (ht : P.underlying t = some (.slice e)) (hi : (P.info? e).map (fun i => (i.zero, i.size, i.bytes)) = some (some z, 1, bytes)) (hzs : z.cells.size = 1)
    (v : Value) (xs : List Value) (hs : a.eval s = v) (hown : Base.Own w lo e v xs)
    (B : Nat) (u : Value) (news : List Value) (hx : a.eval x = u) (hr : Rd w B u news) (h1 : ∀ u ∈ news, u.oneCell' = true)
    (h63 : xs.length + news.length ≤ maxLen) (hbytes : (xs.length + news.length) * bytes ≤ 140737488355328) (hlo : lo ≤ w.heap.size)
    (h : ∀ v' w', Base.Own w' lo e v' (xs ++ news) → w.grownBy w' v.ownBlock → (v'.ownBlock = v.ownBlock ∨ v'.ownBlock = some w.heap.size) → wpListIn F n P ops Q rest (a.put o.dst v') w') : wpListIn F n P ops Q (o :: rest) a w := by
  refine wpListIn_plain hgd fun K hK' => ?_
  obtain ⟨i, hi', hz, hsz, hby⟩ := info_parts hi
  obtain ⟨v', w', hrun, r1, r2, r3⟩ := run_append_rd (P := P) w lo t o.type e i z bytes ht hi' hz hsz hby hzs v xs hown B u news hr h1 h63 hbytes hlo
  unfold Oper.wpIn
  refine ⟨?_, ?_⟩
  · simp [Oper.about, ho, resolve, Target.leads, Sem.run_pure]
  · rw [Oper.semAt_plain F _ _ (by rw [ho]; intro c hc'; cases hc')]
    simp [execOp, ho, resolve, invoke, builtin, hs, hx, hrun, Result.andThen]
    exact hK' _ _ (h v' w' r1 r2 r3)
theorem wpListIn_append_rows (hgd : o.guard = none) (s x : Operand) (t : TypeId)
    (ho : o.op = .call { callee := .builtin .append, args := #[s, x], argTypes := #[t, t] })
    (e : TypeId) (ht : P.underlying t = some (.slice e)) (hi : (P.info? e).map (fun i => (i.zero, i.size, i.bytes)) = some (some (.slice none 0 0), 1, 24))
    (v : Value) (hs : a.eval s = v) (h : Base.Rows w lo e v ls) {A : Option Addr} {m c : Nat} (hx : a.eval x = .slice A m c) (hm : RdL w A c ms) (hn : ms.length = m) (hl : ls.length + ms.length ≤ 1000000000) (hlo : lo ≤ w.heap.size)
    (hK : ∀ v' w', Base.Rows w' lo e v' (ls ++ ms) → w.grownBy w' v.ownBlock → (v'.ownBlock = v.ownBlock ∨ v'.ownBlock = some w.heap.size) → wpListIn F n P ops Q rest (a.put o.dst v') w') : wpListIn F n P ops Q (o :: rest) a w := by
  refine wpListIn_plain hgd fun K hK' => ?_
  obtain ⟨v', w', hrun, r1, r2⟩ := h.more (P := P) t o.type ht hi hm hn hl hlo
  have r3 : v'.ownBlock = v.ownBlock ∨ v'.ownBlock = some w.heap.size := by
    obtain ⟨us, g1, g2, g3, g4⟩ := h
    obtain ⟨ns, k1, k2, k3⟩ := hm
    obtain ⟨i, hi', hz, hsz, hby⟩ := info_parts hi
    have h1 : ∀ u ∈ ns, u.oneCell' = true := fun u hu => by
      obtain ⟨j, hj⟩ := List.getElem?_of_mem hu
      have hjl : j < ms.length := by rw [← k1]; exact (List.getElem?_eq_some_iff.1 hj).1
      obtain ⟨u2, hu2, hr⟩ := k3 j _ (List.getElem?_eq_getElem hjl)
      rw [hj] at hu2
      cases hu2
      obtain ⟨A, cap, rfl, _⟩ := hr
      rfl
    unfold RdA at k2
    rw [k1, hn] at k2
    obtain ⟨v2, w2, q1, -, -, q4⟩ := run_append_rd (P := P) w lo t o.type e i _ 24 ht hi' hz hsz hby rfl v us g1 w.heap.size (.slice A m c) ns k2 h1 (by rw [g3, k1]; unfold maxLen; omega) (by rw [g3, k1]; omega) hlo
    rw [hrun] at q1
    cases q1
    exact q4
  unfold Oper.wpIn
  refine ⟨?_, ?_⟩
  · simp [Oper.about, ho, resolve, Target.leads, Sem.run_pure]
  · rw [Oper.semAt_plain F _ _ (by rw [ho]; intro c hc'; cases hc')]
    simp [execOp, ho, resolve, invoke, builtin, hs, hx, hrun, Result.andThen]
    exact hK' _ _ (hK v' w' r1 r2 r3)
end
end Go.Proofs.YtcgdeeinnfkgkaaGreat.Stream

namespace Go.Proofs.YtcgdeeinnfkgkaaGreat.Stream
open Go.RowKit Go.Shelf Go.Proofs.YtcgdeeinnfkgkaaGreat.Str Go.Proofs.YtcgdeeinnfkgkaaGreat.Base Go.Proofs.YtcgdeeinnfkgkaaGreat.Node Go.Proofs.YtcgdeeinnfkgkaaGreat.Entry Go.Proofs.YtcgdeeinnfkgkaaGreat.RangeO
open Go.Proofs.YtcgdeeinnfkgkaaGreat.Tree (oneB mayT)

attribute [local go_sem] Oper.semAt_some

theorem blocks_info : (Tryz.prog.info? 43).map (fun i => (i.zero, i.size, i.bytes)) = some (some (.slice none 0 0), 1, 24) := by kernel_rfl
/-- What All has gathered. -/
def IA (w : World) (O : Nat → Prop) (pre : List El) (X : World) : Prop :=
  ∃ v, (∀ k, O k ↔ (k = w.heap.size ∨ v.ownBlock = some k)) ∧ Boxed X w.heap.size 25 v ∧ Base.Rows X (w.heap.size + 1) 43 v (pre.map (·.1.b)) ∧ Stp w X
/-- A part, in a box of the round's own. -/
def PartAt (x : El) (pb : Nat) (X : World) : Prop := Blk X pb 45 #[.int .i64 (x.1.at_ : Int), .int .i64 (x.1.node : Int), .int .i64 x.1.data, .slice x.2.1 512 x.2.2]
theorem part_put {x : El} {pb l : Nat} {X : World} {r : Loop} (o : Obj) (h : PartAt x pb X) (hl : X.heap[l]? = some (.loop r)) : PartAt x pb (X.putObj l o) := by
  refine (World.putObj_heap_other ?_).trans h
  rintro rfl
  unfold PartAt Blk at h
  rw [hl] at h
  cases h
theorem has_put {D : Prop} {x : El} {l : Nat} {X : World} {r : Loop} (o : Obj) (h : HasE D x X) (hl : X.heap[l]? = some (.loop r)) : HasE D x (X.putObj l o) := by
  refine ⟨h.1, fun hD => ?_⟩
  obtain ⟨A', cap, h1, h2, h3⟩ := h.2 hD
  refine ⟨A', cap, h1, h2, fun hn => ?_⟩
  obtain ⟨b, o', rfl, hb, hu⟩ := h3 hn
  refine ⟨b, o', rfl, by simpa using hb, fun j u hj => ?_⟩
  refine (World.cell?_of_block (a := ⟨b, o' + j, none⟩) (World.putObj_heap_other ?_)).trans (hu j u hj)
  rintro rfl
  have := hu j u hj
  simp [World.cell?, hl] at this
theorem own_ne {X : World} {b : Nat} {e : TypeId} {v : Value} {ls : List L} (h : Base.Rows X (b + 1) e v ls) : v.ownBlock ≠ some b := fun hb => by
  obtain ⟨us, h1, -⟩ := h
  have := (h1.lt b hb).1
  omega
theorem rows_far {X : World} {b lo : Nat} {t e : TypeId} {v u : Value} {ls : List L} (h : Base.Rows X lo e v ls) (hb : Boxed X b t u) (hu : ∀ k x, u ≠ .int k x) (hv : v.ownBlock ≠ some b) (u' : Value) : Base.Rows (X.setCell ⟨b, 0, none⟩ u') lo e v ls := by
  obtain ⟨us, h1, h2, h3, h4⟩ := h
  refine ⟨us, h1.far hv u', fun g hg j c hc => ?_, h3, fun j l hj => ?_⟩
  · rw [World.cell?_of_block (a := ⟨g, j, none⟩) (Below.heap_setCell X ⟨b, 0, none⟩ u' g (by rintro rfl; exact hv hg))] at hc
    exact h2 g hg j c hc
  · obtain ⟨x, hx, hr⟩ := h4 j l hj
    refine ⟨x, hx, ?_⟩
    obtain ⟨A, cap, rfl, hc, hr⟩ := hr
    refine ⟨A, cap, rfl, hc, fun hn => ?_⟩
    obtain ⟨g, o, rfl, hg, hu2⟩ := hr hn
    refine ⟨g, o, rfl, by simpa [World.setCell] using hg, fun i c hi => ?_⟩
    refine (World.cell?_of_block (a := ⟨g, o + i, none⟩) (Below.heap_setCell X ⟨b, 0, none⟩ u' g ?_)).trans (hu2 i c hi)
    rintro rfl
    have hk : Blk X g t #[u] := hb
    have h0 := hu2 i c hi
    rw [hk.cell] at h0
    have hm := Array.mem_of_getElem? h0
    simp only [List.mem_toArray, List.mem_singleton] at hm
    subst hm
    have hm := List.mem_of_getElem? hi
    obtain ⟨y, -, hy⟩ := List.mem_map.1 hm
    exact hu _ _ hy.symm
theorem has_stp {D : Prop} {x : El} {X Y : World} (h : HasE D x X) (hs : Stp X Y) : HasE D x Y := ⟨h.1, fun hD => (h.2 hD).keep hs⟩

set_option maxRecDepth 100000 in
set_option maxHeartbeats 2000000 in
theorem all_s (t : List Nd) (m : Nat) (hm : t.length = m) (hl : m ≤ 1000) (hs : ∀ n ∈ t, SmallN n) (A : Option Addr) (c : Nat) (w : World) (ha : RdN w A c t) :
    Calls Tryz.prog 6 #[.slice A m c] w fun e w' => ∃ B d, e = .returned (.tuple #[.slice B (allS t).length d, .bool (mayT t)]) ∧ RdL w' B d (allS t) ∧ Stp w w' := by
  subst hm
  obtain ⟨i0, hi, hz0, hz1, hz2⟩ := info_parts blocks_info
  have Ha := Lib.hid ha
  have Hs := Lib.hid hs
  obtain ⟨N, hNN⟩ : ∃ N, (allS t).length = N := ⟨_, rfl⟩
  obtain ⟨r, hr⟩ : ∃ r, mayT t = r := ⟨_, rfl⟩
  have hN : decide ((0 : Int) < (N : Int)) = r := by
    rw [← hNN, ← hr]
    cases hm : mayT t
    · rw [allS_no hm]
      rfl
    · have := all_length hm
      exact decide_eq_true (by omega)
  rw [hNN, hr]
  have HN := Lib.hid hN
  have HNN := Lib.hid hNN
  clear ha hs hN hNN hr
  refine (callsIn_wide (n := 4)).1 ?_
  refine callsIn_of_wp_marks Tryz.func6 rfl trivial ?_ rfl
  simp only [Tryz.ntmps6, List.size_toArray, List.length_cons, List.length_nil, Nat.reduceAdd, Nat.reduceSub, Array.replicate_succ, Array.replicate_zero, List.push_toArray, List.append_toArray, List.nil_append, List.cons_append]
  gi_wp2_with (refine ⟨trivial, ?_⟩; gi_at_call 18; refine (callsIn_wide.2 (parts_any A t.length c _)).mono ?_; rintro e w2 ⟨rfl, rfl⟩)
  have bO := Boxed.new w 25 (.slice none 0 0)
  have bT := Boxed.new (w.alloc (.cells #[.slice none 0 0] 25)) 22 (.slice A t.length c)
  have bO' := bO.alloc (.cells #[.slice A t.length c] 22)
  rw [World.size_alloc] at bT
  have hst : Stp w ((w.alloc (.cells #[.slice none 0 0] 25)).alloc (.cells #[.slice A t.length c] 22)) := Stp.alloc (Stp.alloc (Stp.refl w) _) _
  refine range_o (by omega) (gf := 24) (lb := #[.pointer (some ⟨w.heap.size + 1, 0, none⟩)]) rfl (enters_of Tryz.func24 (by kernel_rfl) rfl)
    (parts_seq True t A c (w.heap.size + 1) w _ Ha.out hl Hs.out hst bT.cell) (Stp.refl _) (fun _ => rfl)
    (IA w) (fun _ _ _ _ => False) (fun k => k = w.heap.size) (by rintro k (h | rfl) <;> omega) ?hI (fun _ _ _ _ _ h _ => h.elim) ?hO (fun _ _ _ _ h => h.elim) ?h8 ?h0
    (fun x a' X => ∃ pb, a' = { tmps := #[.slice A t.length c, undef, .slice none 0 0, .bool false, .pointer (some ⟨w.heap.size, 0, none⟩), .pointer (some ⟨pb, 0, none⟩), .slice A t.length c, .func (.func 24) #[] #[.pointer (some ⟨w.heap.size + 1, 0, none⟩)], .agg #[.int .i64 (x.1.at_ : Int), .int .i64 (x.1.node : Int), .int .i64 x.1.data, .slice x.2.1 512 x.2.2], undef, undef, undef, undef, undef, undef, undef, undef, undef], defers := [] } ∧ PartAt x pb X ∧ HasE True x X)
    (fun x a' X l r r' ⟨pb, h1, h2, h3⟩ hl => ⟨pb, h1, part_put _ h2 hl, has_put _ h3 hl⟩) ?assign ?body ?done (fun _ _ _ _ _ _ _ h _ => h.elim)
  case hI =>
    rintro O s X Y ⟨v, h1, h2, h3, h4⟩ hs
    exact ⟨v, h1, hs.same h2 (.inr (.inl ((h1 _).2 (.inl rfl)))), rows_sme hs h3 (fun g hg => (h1 g).2 (.inr hg)), stp_sme hs h4 hst.size⟩
  case hO =>
    rintro O s X ⟨v, h1, h2, ⟨us, h3, -⟩, h4⟩ k hk
    rcases (h1 k).1 hk with rfl | h
    · exact ⟨_, h2, rfl⟩
    · exact own_cells h3 h
  case h8 =>
    rintro - O s X ⟨v, h1, h2, ⟨us, h3, h5, -⟩, h4⟩ k i x hk hc
    rcases (h1 k).1 hk with rfl | h
    · have hb : Blk X w.heap.size 25 #[v] := h2
      rw [hb.cell i] at hc
      have hm := Array.mem_of_getElem? hc
      simp only [List.mem_toArray, List.mem_singleton] at hm
      subst hm
      rcases h3 with ⟨h, -⟩ | ⟨g, cap, cur, fz, h, -⟩ <;> cases h
    · obtain ⟨_, _, _, e⟩ := h5 k h i _ hc
      cases e
  case h0 => exact ⟨_, fun k => by simp [Value.ownBlock], bO', Base.Rows.nil _ _ _, hst⟩
  case assign =>
    intro l O pre x X K hi hc hK
    simp only [encE]
    gi_wp2
    exact hK _ _ (Stp.alloc (Stp.refl X) _) ⟨X.heap.size, rfl, Blk.new _ _ _, has_stp hc (Stp.alloc (Stp.refl X) _)⟩
  case body =>
    rintro l O pre x a' X hwl ⟨v, h1, h2, h3, h4⟩ ⟨pb, rfl, hp, hx⟩ hlt
    have hc := h2.cell
    have p3 : X.cell? ⟨pb, 3, none⟩ = some (.slice x.2.1 512 x.2.2) := hp.cell 3
    have H1 := Lib.hid h1
    have H2 := Lib.hid h2
    have H3 := Lib.hid h3
    have H4 := Lib.hid h4
    have Hx := Lib.hid hx
    have hpl : pre.length < 402 := by
      have := all_le (t := t)
      rw [← parts_length] at this
      omega
    clear h1 h2 h3 h4 hx hp bO bT bO' hwl
    gi_wp2_with (gi_at_builtin; refine wpListIn_append_rows _ rfl (.tmp 9) (.tmp 12) 25 rfl 43 Tryz.underlying25 blocks_info v rfl (H3.out.keep (Stp.alloc (Stp.refl X) _)) rfl (lit_rd (Hx.out.2 trivial) Hx.out.1) rfl (by simp only [List.length_map, List.length_cons, List.length_nil]; omega) (by have := H2.out.lt; rw [World.size_alloc]; omega) ?_; intro v' w4 hr' hg' hb'; obtain ⟨A', cap', rfl, hL'⟩ := hr'.rdL; have hv : v.ownBlock ≠ some w.heap.size := own_ne H3.out; have hb4 := (H2.out.alloc _).kept hg' (fun e => hv e.symm); have hc4 := hb4.cell; have hf4 := hb4.frozen; have Hr := Lib.hid hr'; have Hg := Lib.hid hg'; have Hb := Lib.hid hb'; have H2' := Lib.hid hb4; clear hr' hg' hb' hb4 hL')
    have hr := Hr.out
    have hb := Hb.out
    simp only [List.length_append, List.length_map, List.length_cons, List.length_nil, Nat.zero_add] at hr hb
    have hO := H1.out
    have hne : (Value.slice A' (pre.length + 1) cap').ownBlock ≠ some w.heap.size := own_ne hr
    refine ⟨fun k => k = w.heap.size ∨ (Value.slice A' (pre.length + 1) cap').ownBlock = some k, ⟨_, fun k => Iff.rfl, H2'.out.set _, ?_, ?_⟩, fun k hk => ?_, ?_⟩
    · rw [List.map_append]
      exact rows_far hr H2'.out (fun k x e => by obtain ⟨us, g1, -⟩ := H3.out; rcases g1 with ⟨h, -⟩ | ⟨g, cap, cur, fz, h, -⟩ <;> rw [h] at e <;> cases e) hne _
    · exact Below.setCell ((H3.out.keep (Stp.alloc (Stp.refl X) _)).stp (Stp.alloc H4.out _) (by omega) Hg.out) (p := ⟨w.heap.size, 0, none⟩) (Nat.le_refl _) _
    · rcases hk with rfl | hk
      · exact .inl ((hO _).2 (.inl rfl))
      · rcases hb with e | e
        · exact .inl ((hO _).2 (.inr (e.symm.trans hk)))
        · rw [e, World.size_alloc] at hk
          simp only [Option.some.injEq] at hk
          exact .inr (by omega)
    · exact (((Rnd.refl X).alloc _).grown Hg.out (fun r hr => .inl ((hO r).2 (.inr hr)))).setCell (.inl ((hO _).2 (.inl rfl))) _
  case done =>
    rintro D O ys X hD hys ⟨v, h1, h2, h3, h4⟩ hK
    have e : ys.map (·.1.b) = allS t := by
      rw [← parts_b, ← hys, List.map_map]
      rfl
    rw [e] at h3
    obtain ⟨A', cap', rfl, hL⟩ := h3.rdL
    have hc := h2.cell
    have HR := Lib.hid h3
    have H4 := Lib.hid h4
    have hN := HN.out
    rw [HNN.out] at hc
    clear h1 h2 h3 h4 hys hL bO bT bO' e
    gi_wp2_with fail
    gi_region
    all_goals gi_wp2
    refine ⟨by simp, .inl ⟨_, _, rfl, run_takeDeferred (show X.drew.heap[D]? = _ from hK), ?_⟩⟩
    have hs : Sme Bx' (fun k => (Value.slice A' (allS t).length cap').ownBlock = some k) w.heap.size X (X.drew.putObj D (.deferred none)) :=
      (Sme.of_stp (Stp.drewN (Stp.refl X) 1)).trans (Sme.putObj _ (show X.drew.heap[D]? = _ from hK) (by have := hst.size; omega) (fun h => by
        obtain ⟨us, g1, -⟩ := HR.out
        obtain ⟨o, ho, hc⟩ := own_cells g1 h
        rw [hK] at ho
        cases ho
        cases hc) (.inr rfl) (.inr rfl))
    obtain ⟨A2, c2, e2, hL⟩ := (rows_sme hs HR.out (fun g hg => hg)).rdL
    cases e2
    rw [HNN.out] at hs
    refine ⟨.tuple #[.slice A' N cap', .bool r], ?_, A', cap', rfl, hL, stp_sme hs H4.out (Nat.le_refl _)⟩
    simp [results, Tryz.f6, go_sem]
    simpa using hN

set_option maxRecDepth 100000 in
theorem many_s (t : List Nd) (m : Nat) (hm : t.length = m) (hl : m ≤ 1000) (hs : ∀ n ∈ t, SmallN n) (A : Option Addr) (c : Nat) (w : World) (ha : RdN w A c t) :
    Calls Tryz.prog 14 #[.slice A m c] w fun e w' => e = .returned (.int .i64 ((allS t).length : Int)) ∧ Stp w w' := by
  have h0 := Stp.refl w
  have Ha := Lib.hid ha
  have Hs := Lib.hid hs
  have Hm := Lib.hid hm
  clear ha hs hm
  go_enter Tryz.func14, Tryz.ntmps14
  go_wp2_with (go_at_call 6; (with_reducible refine (all_s t m Hm.out hl Hs.out A c _ Ha.out).mono ?_); rintro e w1 ⟨B, d, rfl, -, hs⟩; replace h0 := Stp.trans h0 hs; clear hs)
  all_goals go_ret
  all_goals exact ⟨rfl, h0⟩
end Go.Proofs.YtcgdeeinnfkgkaaGreat.Stream

namespace Go.Proofs.YtcgdeeinnfkgkaaGreat.Stream
open Go.RowKit Go.Shelf Go.Proofs.YtcgdeeinnfkgkaaGreat.Str Go.Proofs.YtcgdeeinnfkgkaaGreat.Base Go.Proofs.YtcgdeeinnfkgkaaGreat.Node Go.Proofs.YtcgdeeinnfkgkaaGreat.Entry Go.Proofs.YtcgdeeinnfkgkaaGreat.RangeO
open Go.Proofs.YtcgdeeinnfkgkaaGreat.Tree (oneB mayT)

attribute [local go_sem] Oper.semAt_some

theorem ints_info : (Tryz.prog.info? 3).map (fun i => (i.zero, i.size, i.bytes)) = some (some (.int .i64 0), 1, 8) := by kernel_rfl
/-- What Starts has gathered. -/
def IS (w : World) (O : Nat → Prop) (pre : List El) (X : World) : Prop :=
  ∃ v, (∀ k, O k ↔ (k = w.heap.size ∨ v.ownBlock = some k)) ∧ Boxed X w.heap.size 32 v ∧ Base.Own X (w.heap.size + 1) 3 v (ics (startsF (pre.map (·.1)))) ∧ Stp w X

theorem own_stp {w0 w w' : World} {lo : Nat} {e : TypeId} {v : Value} {xs : List Value} (h : Base.Own w lo e v xs) (h0 : Stp w0 w) (hlo : w0.heap.size ≤ lo) (hg : w.grownBy w' v.ownBlock) : Stp w0 w' :=
  Below.grown h0 hg h0.size (fun j hj => Nat.le_trans hlo (h.lt j hj).1)
set_option maxRecDepth 100000 in
set_option maxHeartbeats 2000000 in
theorem starts_s (t : List Nd) (m : Nat) (hm : t.length = m) (hl : m ≤ 1000) (hs : ∀ n ∈ t, SmallN n) (A : Option Addr) (c : Nat) (w : World) (ha : RdN w A c t) :
    Calls Tryz.prog 12 #[.slice A m c] w fun e w' => ∃ B d, e = .returned (.slice B (startsS t).length d) ∧ RdI w' B d (startsS t) ∧ Stp w w' := by
  subst hm
  have Ha := Lib.hid ha
  have Hs := Lib.hid hs
  obtain ⟨N, hNN⟩ : ∃ N, (startsS t).length = N := ⟨_, rfl⟩
  rw [hNN]
  have HNN := Lib.hid hNN
  clear ha hs hNN
  refine (callsIn_wide (n := 4)).1 ?_
  refine callsIn_of_wp_marks Tryz.func12 rfl trivial ?_ rfl
  simp only [Tryz.ntmps12, List.size_toArray, List.length_cons, List.length_nil, Nat.reduceAdd, Nat.reduceSub, Array.replicate_succ, Array.replicate_zero, List.push_toArray, List.append_toArray, List.nil_append, List.cons_append]
  gi_wp2_with (refine ⟨trivial, ?_⟩; gi_at_call 18; refine (callsIn_wide.2 (parts_any A t.length c _)).mono ?_; rintro e w2 ⟨rfl, rfl⟩)
  have bO := Boxed.new w 32 (.slice none 0 0)
  have bT := Boxed.new (w.alloc (.cells #[.slice none 0 0] 32)) 22 (.slice A t.length c)
  have bO' := bO.alloc (.cells #[.slice A t.length c] 22)
  rw [World.size_alloc] at bT
  have hst : Stp w ((w.alloc (.cells #[.slice none 0 0] 32)).alloc (.cells #[.slice A t.length c] 22)) := Stp.alloc (Stp.alloc (Stp.refl w) _) _
  refine range_o (by omega) (gf := 24) (lb := #[.pointer (some ⟨w.heap.size + 1, 0, none⟩)]) rfl (enters_of Tryz.func24 (by kernel_rfl) rfl)
    (parts_seq False t A c (w.heap.size + 1) w _ Ha.out hl Hs.out hst bT.cell) (Stp.refl _) (fun _ => rfl)
    (IS w) (fun _ _ _ _ => False) (fun k => k = w.heap.size) (by rintro k (h | rfl) <;> omega) ?hI (fun _ _ _ _ _ h _ => h.elim) ?hO (fun _ _ _ _ h => h.elim) (fun h => h.elim) ?h0
    (fun x a' X => ∃ pb, a' = { tmps := #[.slice A t.length c, undef, .slice none 0 0, .pointer (some ⟨w.heap.size, 0, none⟩), .pointer (some ⟨pb, 0, none⟩), .slice A t.length c, .func (.func 24) #[] #[.pointer (some ⟨w.heap.size + 1, 0, none⟩)], .agg #[.int .i64 (x.1.at_ : Int), .int .i64 (x.1.node : Int), .int .i64 x.1.data, .slice x.2.1 512 x.2.2], undef, undef, undef, undef, undef, undef, undef, undef, undef, undef, undef], defers := [] } ∧ PartAt x pb X)
    (fun x a' X l r r' ⟨pb, h1, h2⟩ hl => ⟨pb, h1, part_put _ h2 hl⟩) ?assign ?body ?done (fun _ _ _ _ _ _ _ h _ => h.elim)
  case hI =>
    rintro O s X Y ⟨v, h1, h2, h3, h4⟩ hs
    exact ⟨v, h1, hs.same h2 (.inr (.inl ((h1 _).2 (.inl rfl)))), own_sme hs h3 (fun g hg => (h1 g).2 (.inr hg)), stp_sme hs h4 hst.size⟩
  case hO =>
    rintro O s X ⟨v, h1, h2, h3, h4⟩ k hk
    rcases (h1 k).1 hk with rfl | h
    · exact ⟨_, h2, rfl⟩
    · exact own_cells h3 h
  case h0 => exact ⟨_, fun k => by simp [Value.ownBlock], bO', Base.Own.nil _ _ _, hst⟩
  case assign =>
    intro l O pre x X K hi hc hK
    simp only [encE]
    gi_wp2
    exact hK _ _ (Stp.alloc (Stp.refl X) _) ⟨X.heap.size, rfl, Blk.new _ _ _⟩
  case body =>
    rintro l O pre x a' X hwl ⟨v, h1, h2, h3, h4⟩ ⟨pb, rfl, hp⟩ hlt
    have hc := h2.cell
    have p0 : X.cell? ⟨pb, 0, none⟩ = some (.int .i64 (x.1.at_ : Int)) := hp.cell 0
    have p1 : X.cell? ⟨pb, 1, none⟩ = some (.int .i64 (x.1.node : Int)) := hp.cell 1
    have hpl : (startsF (pre.map (·.1))).length < 402 := by
      have := all_le (t := t)
      have h := startsF_len (pre.map (·.1))
      rw [← parts_length] at this
      rw [List.length_map] at h
      omega
    have hsn := startsF_snoc (pre.map (·.1)) x.1
    rw [show pre.map (·.1) ++ [x.1] = (pre ++ [x]).map (·.1) by simp] at hsn
    obtain ⟨xs, hxs⟩ : ∃ xs, startsF (pre.map (·.1)) = xs := ⟨_, rfl⟩
    rw [hxs] at h3 hpl hsn
    obtain ⟨A', cap', rfl, -⟩ := RdA.of h3.rd
    obtain ⟨q, hq⟩ : ∃ q, xs.length = q := ⟨_, rfl⟩
    have hqi : (ics xs).length = q := by rw [ics_length, hq]
    rw [hqi] at h1 h2 h3 hc
    rw [hq] at hpl
    have H1 := Lib.hid h1
    have H2 := Lib.hid h2
    have H3 := Lib.hid h3
    have H4 := Lib.hid h4
    have Hq := Lib.hid hq
    have Hqi := Lib.hid hqi
    have Hsn := Lib.hid hsn
    have hO := h1
    by_cases hx : x.1.node = q
    · have g : ((x.1.node : Int) == (q : Int)) = true := by rw [beq_iff_eq]; omega
      have Hx := Lib.hid hx
      have hv : (Value.slice A' q cap').ownBlock ≠ some w.heap.size := fun hb => by
        have := (h3.lt _ hb).1
        omega
      clear h1 h2 h3 h4 hp bO bT bO' hwl hq hqi hsn hxs hx hO
      gi_wp2_with (gi_at_builtin; refine wpListIn_append_rd _ rfl (.tmp 13) (.tmp 16) 32 rfl (w.heap.size + 1) 3 (.int .i64 0) 8 Tryz.underlying32 ints_info rfl _ (ics xs) rfl (H3.out.alloc _) (X.heap.size + 1) _ [.int .i64 (x.1.at_ : Int)] rfl (rd_lit X 3 _) (by simp [Value.oneCell']) (by rw [Hqi.out]; simp only [List.length_cons, List.length_nil]; unfold maxLen; omega) (by rw [Hqi.out]; simp only [List.length_cons, List.length_nil]; omega) (by have := H2.out.lt; rw [World.size_alloc]; omega) ?_; intro v' w4 hr' hg' hb'; obtain ⟨A2, cap2, rfl, -⟩ := RdA.of hr'.rd; have hb4 := (H2.out.alloc _).kept hg' (fun e => hv e.symm); have hc4 := hb4.cell; have hf4 := hb4.frozen; have Hr := Lib.hid hr'; have Hg := Lib.hid hg'; have Hb := Lib.hid hb'; have H2' := Lib.hid hb4; clear hr' hg' hb' hb4)
      have hr := Hr.out
      have hb := Hb.out
      simp only [List.length_append, Hqi.out, List.length_cons, List.length_nil, Nat.zero_add] at hr hb
      have hO := H1.out
      have hne : (Value.slice A2 (q + 1) cap2).ownBlock ≠ some w.heap.size := fun hb => by
        have := (hr.lt _ hb).1
        omega
      rw [Hqi.out]
      refine ⟨fun k => k = w.heap.size ∨ (Value.slice A2 (q + 1) cap2).ownBlock = some k, ⟨_, fun k => Iff.rfl, H2'.out.set _, ?_, ?_⟩, fun k hk => ?_, ?_⟩
      · rw [Hsn.out, show gatherP xs x.1 = xs ++ [x.1.at_] by unfold gatherP; rw [if_pos (by rw [Hx.out, Hq.out])], ics_append]
        exact hr.far hne _
      · exact Below.setCell (own_stp (H3.out.alloc _) (Stp.alloc H4.out _) (by omega) Hg.out) (p := ⟨w.heap.size, 0, none⟩) (Nat.le_refl _) _
      · rcases hk with rfl | hk
        · exact .inl ((hO _).2 (.inl rfl))
        · rcases hb with e | e
          · exact .inl ((hO _).2 (.inr (e.symm.trans hk)))
          · rw [e, World.size_alloc] at hk
            simp only [Option.some.injEq] at hk
            exact .inr (by omega)
      · exact (((Rnd.refl X).alloc _).grown Hg.out (fun r hr => .inl ((hO r).2 (.inr hr)))).setCell (.inl ((hO _).2 (.inl rfl))) _
    · have g : ((x.1.node : Int) == (q : Int)) = false := by rw [beq_eq_false_iff_ne]; omega
      have Hx := Lib.hid hx
      clear h1 h2 h3 h4 hp bO bT bO' hwl hq hqi hsn hxs hx hO
      gi_wp2
      refine ⟨O, ⟨_, H1.out, H2.out, ?_, H4.out⟩, fun k hk => .inl hk, Rnd.refl X⟩
      rw [Hsn.out, show gatherP xs x.1 = xs by unfold gatherP; rw [if_neg (by rw [Hq.out]; exact Hx.out)]]
      exact H3.out
  case done =>
    rintro D O ys X hD hys ⟨v, h1, h2, h3, h4⟩ hK
    rw [hys, startsF_parts] at h3
    obtain ⟨A', cap', rfl, -⟩ := RdA.of h3.rd
    have hc := h2.cell
    have HR := Lib.hid h3
    have H4 := Lib.hid h4
    rw [ics_length, HNN.out] at hc
    clear h1 h2 h3 h4 hys bO bT bO'
    gi_wp2
    refine ⟨by simp, .inl ⟨_, _, rfl, run_takeDeferred hK, ?_⟩⟩
    have hs : Sme Bx' (fun k => (Value.slice A' (ics (startsS t)).length cap').ownBlock = some k) w.heap.size X (X.putObj D (.deferred none)) :=
      Sme.putObj _ hK (by have := hst.size; omega) (fun h => by
        obtain ⟨o, ho, hc⟩ := own_cells HR.out h
        rw [hK] at ho
        cases ho
        cases hc) (.inr rfl) (.inr rfl)
    have hrd := (own_sme hs HR.out (fun g hg => hg)).rd
    refine ⟨_, results_tmp rfl _ _ _, A', cap', rfl, hrd, stp_sme hs H4.out (Nat.le_refl _)⟩
end Go.Proofs.YtcgdeeinnfkgkaaGreat.Stream

namespace Go.Proofs.YtcgdeeinnfkgkaaGreat.Stream
open Go.RowKit Go.Shelf Go.Proofs.YtcgdeeinnfkgkaaGreat.Str Go.Proofs.YtcgdeeinnfkgkaaGreat.Base Go.Proofs.YtcgdeeinnfkgkaaGreat.Node Go.Proofs.YtcgdeeinnfkgkaaGreat.Entry Go.Proofs.YtcgdeeinnfkgkaaGreat.RangeO
open Go.Proofs.YtcgdeeinnfkgkaaGreat.Tree (oneB mayT)

attribute [local go_sem] Oper.semAt_some

/-- What Where knows while it looks. -/
def IW (i : Int) (w : World) (O : Nat → Prop) (pre : List El) (X : World) : Prop :=
  (∀ k, O k ↔ (k = w.heap.size + 1 ∨ k = w.heap.size + 2)) ∧ Boxed X w.heap.size 3 (.int .i64 i) ∧ Boxed X (w.heap.size + 1) 3 (.int .i64 0) ∧ Boxed X (w.heap.size + 2) 3 (.int .i64 0) ∧ (∀ x ∈ pre, (x.1.at_ : Int) ≠ i) ∧ Stp w X
/-- What it has found. -/
def XW (i : Int) (w : World) (c : Code) (O : Nat → Prop) (pre : List El) (X : World) : Prop :=
  c = .ret ∧ (∀ k, O k ↔ (k = w.heap.size + 1 ∨ k = w.heap.size + 2)) ∧ (∃ pre0 x, pre = pre0 ++ [x] ∧ (x.1.at_ : Int) = i ∧ Boxed X (w.heap.size + 1) 3 (.int .i64 (x.1.node : Int)) ∧ Boxed X (w.heap.size + 2) 3 (.int .i64 x.1.data)) ∧ Stp w X

theorem part_ne {x : El} {pb r : Nat} {X : World} {v : Value} (h : PartAt x pb X) (hr : Boxed X r 3 v) : pb ≠ r := by
  rintro rfl
  unfold PartAt Blk at h
  unfold Boxed at hr
  rw [hr] at h
  simp at h
theorem box_put {r D : Nat} {X : World} {v : Value} {t : TypeId} (h : Boxed X r t v) (hK : X.heap[D]? = some (.deferred (some []))) : (X.putObj D (.deferred none)).cell? ⟨r, 0, none⟩ = some v :=
  cell_kept h.cell (grownBy_putObj' X D (.deferred none)) (fun r e => by cases e; exact ⟨_, hK, rfl⟩)

set_option maxRecDepth 100000 in
set_option maxHeartbeats 2000000 in
theorem whose_s (t : List Nd) (m : Nat) (hm : t.length = m) (hl : m ≤ 1000) (hs : ∀ n ∈ t, SmallN n) (i : Int) (A : Option Addr) (c : Nat) (w : World) (ha : RdN w A c t) :
    Calls Tryz.prog 8 #[.slice A m c, .int .i64 i] w fun e w' => e = .returned (.tuple #[.int .i64 (whereS t i).1, .int .i64 (whereS t i).2]) ∧ Stp w w' := by
  subst hm
  have Ha := Lib.hid ha
  have Hs := Lib.hid hs
  obtain ⟨P, hP⟩ : ∃ P, whereS t i = P := ⟨_, rfl⟩
  rw [hP]
  have HP := Lib.hid hP
  clear ha hs hP
  refine (callsIn_wide (n := 4)).1 ?_
  refine callsIn_of_wp_marks Tryz.func8 rfl trivial ?_ rfl
  simp only [Tryz.ntmps8, List.size_toArray, List.length_cons, List.length_nil, Nat.reduceAdd, Nat.reduceSub, Array.replicate_succ, Array.replicate_zero, List.push_toArray, List.append_toArray, List.nil_append, List.cons_append]
  gi_wp2_with (refine ⟨trivial, ?_⟩; gi_at_call 18; refine (callsIn_wide.2 (parts_any A t.length c _)).mono ?_; rintro e w2 ⟨rfl, rfl⟩)
  have b0 := Boxed.new w 3 (.int .i64 i)
  have b1 := Boxed.new (w.alloc (.cells #[.int .i64 i] 3)) 3 (.int .i64 0)
  have b2 := Boxed.new ((w.alloc (.cells #[.int .i64 i] 3)).alloc (.cells #[.int .i64 0] 3)) 3 (.int .i64 0)
  have bT := Boxed.new (((w.alloc (.cells #[.int .i64 i] 3)).alloc (.cells #[.int .i64 0] 3)).alloc (.cells #[.int .i64 0] 3)) 22 (.slice A t.length c)
  have b0' := ((b0.alloc (.cells #[.int .i64 0] 3)).alloc (.cells #[.int .i64 0] 3)).alloc (.cells #[.slice A t.length c] 22)
  have b1' := (b1.alloc (.cells #[.int .i64 0] 3)).alloc (.cells #[.slice A t.length c] 22)
  have b2' := b2.alloc (.cells #[.slice A t.length c] 22)
  simp only [World.size_alloc] at b1' b2' bT
  have hst : Stp w ((((w.alloc (.cells #[.int .i64 i] 3)).alloc (.cells #[.int .i64 0] 3)).alloc (.cells #[.int .i64 0] 3)).alloc (.cells #[.slice A t.length c] 22)) := Stp.alloc (Stp.alloc (Stp.alloc (Stp.alloc (Stp.refl w) _) _) _) _
  have hsz : ((((w.alloc (.cells #[.int .i64 i] 3)).alloc (.cells #[.int .i64 0] 3)).alloc (.cells #[.int .i64 0] 3)).alloc (.cells #[.slice A t.length c] 22)).heap.size = w.heap.size + 4 := by simp
  refine range_o (by omega) (gf := 24) (lb := #[.pointer (some ⟨w.heap.size + 3, 0, none⟩)]) rfl (enters_of Tryz.func24 (by kernel_rfl) rfl)
    (parts_seq False t A c (w.heap.size + 3) w _ Ha.out hl Hs.out hst bT.cell) (Stp.refl _) (fun _ => rfl)
    (IW i w) (XW i w) (fun k => k = w.heap.size + 1 ∨ k = w.heap.size + 2) (by rintro k (h | rfl) <;> omega) ?hI ?hIx ?hO ?hOx (fun h => h.elim) ?h0
    (fun x a' X => ∃ pb, a' = { tmps := #[.slice A t.length c, .int .i64 i, undef, .pointer (some ⟨w.heap.size, 0, none⟩), .pointer (some ⟨w.heap.size + 1, 0, none⟩), .pointer (some ⟨w.heap.size + 2, 0, none⟩), .pointer (some ⟨pb, 0, none⟩), .slice A t.length c, .func (.func 24) #[] #[.pointer (some ⟨w.heap.size + 3, 0, none⟩)], .agg #[.int .i64 (x.1.at_ : Int), .int .i64 (x.1.node : Int), .int .i64 x.1.data, .slice x.2.1 512 x.2.2], undef, undef, undef, undef, undef, undef, undef, undef], defers := [] } ∧ PartAt x pb X)
    (fun x a' X l r r' ⟨pb, h1, h2⟩ hl => ⟨pb, h1, part_put _ h2 hl⟩) ?assign ?body ?done ?stop
  case hI =>
    rintro O s X Y ⟨h1, h2, h3, h4, h5, h6⟩ hs
    rw [hsz] at hs
    exact ⟨h1, hs.same h2 (.inr (.inr (by omega))), hs.same h3 (.inr (.inr (by omega))), hs.same h4 (.inr (.inr (by omega))), h5, stp_sme hs h6 (by omega)⟩
  case hIx =>
    rintro c O s X Y ⟨h1, h2, ⟨pre0, x, h3, h4, h5, h6⟩, h7⟩ hs
    rw [hsz] at hs
    exact ⟨h1, h2, ⟨pre0, x, h3, h4, hs.same h5 (.inr (.inr (by omega))), hs.same h6 (.inr (.inr (by omega)))⟩, stp_sme hs h7 (by omega)⟩
  case hO =>
    rintro O s X ⟨h1, h2, h3, h4, h5, h6⟩ k hk
    rcases (h1 k).1 hk with rfl | rfl
    · exact ⟨_, h3, rfl⟩
    · exact ⟨_, h4, rfl⟩
  case hOx =>
    rintro c O s X ⟨h1, h2, ⟨pre0, x, h3, h4, h5, h6⟩, h7⟩ k hk
    rcases (h2 k).1 hk with rfl | rfl
    · exact ⟨_, h5, rfl⟩
    · exact ⟨_, h6, rfl⟩
  case h0 => exact ⟨fun k => Iff.rfl, b0', b1', b2', by simp, hst⟩
  case assign =>
    intro l O pre x X K hi hc hK
    simp only [encE]
    gi_wp2
    exact hK _ _ (Stp.alloc (Stp.refl X) _) ⟨X.heap.size, rfl, Blk.new _ _ _⟩
  case body =>
    rintro l O pre x a' X hwl ⟨h1, h2, h3, h4, h5, h6⟩ ⟨pb, rfl, hp⟩ hlt
    have hc := h2.cell
    have p0 : X.cell? ⟨pb, 0, none⟩ = some (.int .i64 (x.1.at_ : Int)) := hp.cell 0
    have H1 := Lib.hid h1
    have H2 := Lib.hid h2
    have H3 := Lib.hid h3
    have H4 := Lib.hid h4
    have H5 := Lib.hid h5
    have H6 := Lib.hid h6
    have Hp := Lib.hid hp
    clear h1 h2 h3 h4 h5 h6 hp bT b0 b1 b2 b0' b1' b2'
    by_cases hx : (x.1.at_ : Int) = i
    · have g : ((x.1.at_ : Int) == i) = true := by rw [beq_iff_eq]; exact hx
      have Hx := Lib.hid hx
      have hd1 : X.drew.cell? ⟨pb, 1, none⟩ = some (.int .i64 (x.1.node : Int)) := Hp.out.cell 1
      have hd2 : X.drew.cell? ⟨pb, 2, none⟩ = some (.int .i64 x.1.data) := Hp.out.cell 2
      have hmo : Tryz.prog.follows .mixedOrders = true := by kernel_rfl
      have hd3 : X.drew.cell? ⟨w.heap.size + 1, 0, none⟩ = some (.int .i64 0) := H3.out.cell
      have hd4 : X.drew.frozen? ⟨w.heap.size + 1, 0, none⟩ = false := H3.out.frozen
      have hd5 : X.drew.cell? ⟨w.heap.size + 2, 0, none⟩ = some (.int .i64 0) := H4.out.cell
      have hd6 : X.drew.frozen? ⟨w.heap.size + 2, 0, none⟩ = false := H4.out.frozen
      have hd7 : X.cell? ⟨w.heap.size + 2, 0, none⟩ = some (.int .i64 0) := H4.out.cell
      have hd8 : X.frozen? ⟨w.heap.size + 2, 0, none⟩ = false := H4.out.frozen
      have hd9 : X.cell? ⟨pb, 2, none⟩ = some (.int .i64 x.1.data) := Hp.out.cell 2
      have hda : X.cell? ⟨pb, 1, none⟩ = some (.int .i64 (x.1.node : Int)) := Hp.out.cell 1
      have hn1 : pb ≠ w.heap.size + 1 := part_ne Hp.out H3.out
      have hn2 : pb ≠ w.heap.size + 2 := part_ne Hp.out H4.out
      clear hx
      gi_wp2
      gi_region_with_o (fail)
      all_goals gi_wp2
      all_goals
        have k1 := (H3.out.set (.int .i64 (x.1.node : Int))).other (B' := w.heap.size + 2) (by omega) (.int .i64 x.1.data)
        have k2 := (H4.out.other (B' := w.heap.size + 1) (by omega) (.int .i64 (x.1.node : Int))).set (.int .i64 x.1.data)
        have k3 := ((Rnd.refl X (O := O)).setCell (p := ⟨w.heap.size + 1, 0, none⟩) (.inl ((H1.out _).2 (.inl rfl))) (.int .i64 (x.1.node : Int))).setCell (p := ⟨w.heap.size + 2, 0, none⟩) (.inl ((H1.out _).2 (.inr rfl))) (.int .i64 x.1.data)
        exact ⟨O, ⟨rfl, H1.out, ⟨pre, x, rfl, Hx.out, k1, k2⟩, Below.drew (Below.setCell (Below.setCell H6.out (p := ⟨w.heap.size + 1, 0, none⟩) (Nat.le_add_right _ 1) _) (p := ⟨w.heap.size + 2, 0, none⟩) (Nat.le_add_right _ 2) _)⟩, ⟨k3.os, k3.tape, k3.output, k3.size, k3.block⟩⟩
    · have g : ((x.1.at_ : Int) == i) = false := by rw [beq_eq_false_iff_ne]; exact hx
      have Hx := Lib.hid hx
      clear hx
      gi_wp2
      refine ⟨O, ⟨H1.out, H2.out, H3.out, H4.out, fun y hy => ?_, H6.out⟩, fun k hk => .inl hk, Rnd.refl X⟩
      rcases List.mem_append.1 hy with h | h
      · exact H5.out y h
      · rw [List.mem_singleton.1 h]
        exact Hx.out
  case done =>
    rintro D O ys X hD hys ⟨h1, h2, h3, h4, h5, h6⟩ hK
    rw [hsz] at hD
    have hw : P = (-1, -1) := by
      rw [← HP.out]
      refine where_miss fun p hp => ?_
      rw [← hys] at hp
      obtain ⟨x, hx, rfl⟩ := List.mem_map.1 hp
      exact h5 x hx
    subst hw
    have f1 := h3.frozen
    have f2 := h4.frozen
    have c1 := h3.cell
    have c2 := h4.cell
    have H3 := Lib.hid h3
    have H4 := Lib.hid h4
    have H6 := Lib.hid h6
    clear h1 h2 h3 h4 h5 h6 bT b0 b1 b2 b0' b1' b2' hys
    gi_wp2
    have n1 : D ≠ w.heap.size + 1 := by omega
    have n2 : D ≠ w.heap.size + 1 + 1 := by omega
    have hK' : ((X.setCell ⟨w.heap.size + 1, 0, none⟩ (.int .i64 (-1))).setCell ⟨w.heap.size + 1 + 1, 0, none⟩ (.int .i64 (-1))).heap[D]? = some (.deferred (some [])) :=
      (Below.heap_setCell _ _ _ _ n2).trans ((Below.heap_setCell _ _ _ _ n1).trans hK)
    have k1 := (H3.out.set (.int .i64 (-1))).other (B' := w.heap.size + 1 + 1) (by omega) (.int .i64 (-1))
    have k2 := (H4.out.other (B' := w.heap.size + 1) (by omega) (.int .i64 (-1))).set (.int .i64 (-1))
    have r1 := box_put k1 hK'
    have r2 := box_put k2 hK'
    exact ⟨by simp, .inl ⟨_, _, rfl, run_takeDeferred hK', ⟨.tuple #[.int .i64 (-1), .int .i64 (-1)], by simp [results, Tryz.f8, go_sem, r1, r2], rfl, stp_sme (O := fun _ => False) (Sme.putObj _ hK' (B := w.heap.size) (by omega) (fun h => h) (.inr rfl) (.inr rfl)) (Below.setCell (Below.setCell H6.out (p := ⟨w.heap.size + 1, 0, none⟩) (Nat.le_add_right _ 1) _) (p := ⟨w.heap.size + 1 + 1, 0, none⟩) (Nat.le_add_right _ 2) _) (Nat.le_refl _)⟩⟩⟩
  case stop =>
    rintro D c O pre X hD hpre ⟨rfl, h2, ⟨pre0, x, rfl, h4, h5, h6⟩, h7⟩ hK
    rw [hsz] at hD
    have hw : P = ((x.1.node : Int), x.1.data) := by
      rw [← HP.out]
      rw [List.map_append] at hpre
      exact (where_hit hpre h4).symm
    subst hw
    clear b0 b1 b2 b0' b1' b2' bT
    gi_wp2
    have r1 := box_put h5 hK
    have r2 := box_put h6 hK
    exact ⟨by simp, .inl ⟨_, _, rfl, run_takeDeferred hK, ⟨.tuple #[.int .i64 (x.1.node : Int), .int .i64 x.1.data], by simp [results, Tryz.f8, go_sem, r1, r2], rfl, stp_sme (O := fun _ => False) (Sme.putObj _ hK (B := w.heap.size) (by omega) (fun h => h) (.inr rfl) (.inr rfl)) h7 (Nat.le_refl _)⟩⟩⟩

/-- The contracts of the four calls. -/
theorem streamI : StreamI where
  all := all_s
  many := many_s
  whose := fun t m hm hl hs i _ _ => whose_s t m hm hl hs i
  starts := starts_s
end Go.Proofs.YtcgdeeinnfkgkaaGreat.Stream

