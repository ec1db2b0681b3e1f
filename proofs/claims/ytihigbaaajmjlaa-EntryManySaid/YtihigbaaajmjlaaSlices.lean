/-
  Rows of slices of bytes that are appended to, as lists of lists: plain lemmas over any program; no statement is proved here.
-/
import Derived.Test.YtihigbaaajmjlaaLists
namespace Go.Proofs.Ytihigbaaajmjlaa.Base
open Go.RowKit

/-- A value that is a slice. -/
def IsSl (c : Value) : Prop := ∃ A n cap, c = .slice A n cap
/-- Of the block that v owns all cells are slices. -/
def AllSl (w : World) (v : Value) : Prop := ∀ g, v.ownBlock = some g → ∀ j c, w.cell? ⟨g, j, none⟩ = some c → IsSl c
section
variable {P : Program} {w w' : World} {lo : Nat} {e : TypeId} {v : Value} {xs : List Value}
theorem isSl_one {c : Value} (h : IsSl c) : c.oneCell' = true := by
  obtain ⟨A, n, cap, rfl⟩ := h
  rfl
theorem AllSl.nil (w : World) : AllSl w (.slice none 0 0) := fun g h => by simp [Value.ownBlock] at h
theorem own_lt (h : Own w lo e v xs) {g : Nat} (hg : v.ownBlock = some g) : g < w.heap.size := (h.lt g hg).2
theorem AllSl.keep (h : AllSl w v) (ho : Own w lo e v xs) (hs : Stp w w') : AllSl w' v := fun g hg j c hc => by
  rw [hs.cell (p := ⟨g, j, none⟩) (own_lt ho hg)] at hc
  exact h g hg j c hc
theorem AllSl.grown {row : Option Nat} (h : AllSl w v) (ho : Own w lo e v xs) (hb : w.grownBy w' row) (hne : v.ownBlock = none ∨ v.ownBlock ≠ row) : AllSl w' v := fun g hg j c hc => by
  have hr : some g ≠ row := by
    rcases hne with q | q
    · rw [hg] at q; cases q
    · rw [← hg]; exact q
  have e := hb.block g (own_lt ho hg) hr
  have e2 : w'.cell? ⟨g, j, none⟩ = w.cell? ⟨g, j, none⟩ := by simp only [World.cell?, e]
  rw [e2] at hc
  exact h g hg j c hc
/-- Bytes do not lie among slices. -/
theorem Rd.past {B : Nat} {u : Value} {l : List UInt8} (h : Rd w B u (bs l)) (hs : AllSl w v) (hb : w.grownBy w' v.ownBlock) (hB : B ≤ w.heap.size) : Rd w' B u (bs l) := by
  obtain ⟨A, cap, rfl, hc, hr⟩ := h
  refine ⟨A, cap, rfl, hc, fun hn => ?_⟩
  obtain ⟨b, o, rfl, hB2, hu⟩ := hr hn
  refine ⟨b, o, rfl, hB2, fun j u hj => ?_⟩
  have hj2 := hu j u hj
  have hne : some b ≠ v.ownBlock := fun q => by
    obtain ⟨A, n, cp, e⟩ := hs b q.symm (o + j) u hj2
    subst e
    have := bs_one l _ (List.mem_of_getElem? hj)
    have hm := List.mem_of_getElem? hj
    simp [bs] at hm
  have e := hb.block b (by omega) hne
  rw [← hj2]
  simp only [World.cell?, e]

/-- append onto a row of slices of the call's own. -/
theorem run_append_sl (lo : Nat) (t ty e : TypeId) (i : TypeInfo) (z : Value) (bytes : Nat) (ht : P.underlying t = some (.slice e)) (hi : P.info? e = some i) (hz : i.zero = some z)
    (hsize : i.size = 1) (hby : i.bytes = bytes) (hzs : z.cells = #[z]) (hzl : IsSl z)
    (v : Value) (xs : List Value) (hown : Own w lo e v xs) (hall : AllSl w v) (B : Nat) (u : Value) (news : List Value) (hr : Rd w B u news) (h1 : ∀ u ∈ news, IsSl u)
    (h63 : xs.length + news.length ≤ maxLen) (hbytes : (xs.length + news.length) * bytes ≤ 140737488355328) (hlo : lo ≤ w.heap.size) :
    ∃ v' w', (Builtin.append_ #[t, t] ty #[v, u]).run P w = .ok v' w' ∧ Own w' lo e v' (xs ++ news) ∧ AllSl w' v' ∧ w.grownBy w' v.ownBlock := by
  have hzs1 : z.cells.size = 1 := by rw [hzs]; rfl
  by_cases hn : news = []
  · subst hn
    obtain ⟨A, c, rfl, _, _⟩ := hr
    exact ⟨v, w, by simpa using run_append_nothing (P := P) w lo t ty e i ht hi v xs hown A c, by simpa using hown, hall, World.grownBy.refl w _⟩
  · obtain ⟨A, c, rfl, hnc, hrr⟩ := hr
    obtain ⟨b, o, rfl, hb, hcell⟩ := hrr hn
    have hnews : ∀ j u, news[j]? = some u → w.cell? ((⟨b, o, none⟩ : Addr).add j) = some u := fun j u hj => by rw [Addr.add_lit]; exact hcell j u hj
    have hpos : 0 < news.length := List.length_pos_iff.2 hn
    have hsmall : xs.length + news.length ≤ 9223372036854775807 := by simp only [maxLen] at h63; omega
    have hzm : ∀ n c, c ∈ (Builtin.zeroCells z.cells n).toList → IsSl c := by
      intro n c hc
      rw [hzs] at hc
      unfold Builtin.zeroCells at hc
      simp only [Array.toList_map, List.mem_map] at hc
      obtain ⟨i, _, rfl⟩ := hc
      rw [show i % (#[z] : Array Value).size = 0 from Nat.mod_one i]
      exact hzl
    rcases hown with ⟨rfl, rfl⟩ | ⟨g, cap, cur, fz, rfl, hbg, hg, hfz, hxc, hcm, hcs, htake⟩
    · simp only [List.length_nil, Nat.zero_add] at hsmall hbytes h63
      have hrun := run_append_nil (P := P) w t ty e i z ht hi hz ⟨b, o, none⟩ news.length c news (by rw [hsize]; omega) hnews hpos (by omega) (by rw [hby]; omega)
      have hge := grownCap_ge w news.length 0 e
      have hcm2 : grownCap w news.length 0 e ≤ maxLen := grownCap_le_maxLen w news.length 0 e h63
      refine ⟨_, _, hrun, .inr ⟨w.heap.size, _, _, (0, 0), rfl, hlo, heap_alloc_new w.drew _, .inl rfl, hge, hcm2, ?_, ?_⟩, ?_, ⟨rfl, rfl, rfl, by simp, fun k hk _ => Below.heap_alloc w.drew _ k hk⟩⟩
      · simp only [Array.size_append, List.size_toArray, size_zeroCells, hzs1]
        omega
      · simp
      · intro g' hg' j c hc
        have hg2 : w.heap.size = g' := by simpa [Value.ownBlock] using hg'
        subst hg2
        rw [show w.heap.size = w.drew.heap.size from rfl, World.cell?_alloc_new] at hc
        have hm := Array.mem_of_getElem? hc
        rw [← Array.mem_toList_iff, Array.toList_append, List.mem_append] at hm
        rcases hm with hm | hm
        · exact h1 c hm
        · exact hzm _ c hm
    · by_cases hroom : xs.length + news.length ≤ cap
      · have hf := run_firstCells_some (P := P) w 1 news.length ⟨b, o, none⟩ news.length c news (by omega) hnews
        have hst := run_storeCells_free P g xs.length e fz news 0 cur w hg (by omega) (by omega) (fun u hu => isSl_one (h1 u hu))
        simp only [Nat.add_zero] at hst
        have hrun : (Builtin.append_ #[t, t] ty #[.slice (some ⟨g, 0, none⟩) xs.length cap, .slice (some ⟨b, o, none⟩) news.length c]).run P w =
            .ok (.slice (some ⟨g, 0, none⟩) (xs.length + news.length) cap) (w.setRow g (cur.toList.take xs.length ++ news ++ cur.toList.drop (xs.length + news.length)).toArray) := by
          simp [Builtin.append_, run_underlying ht, sizeOf, typeInfo, hi, Builtin.lenOf, hroom, hf, Addr.add_lit, hsize, hst]
        refine ⟨_, _, hrun, .inr ⟨g, cap, _, fz, by rw [List.length_append], hbg, setRow_heap w g cur _ e _ hg, hfz, by simpa using hroom, hcm, ?_, ?_⟩, ?_, ⟨rfl, rfl, rfl, by simp, fun k _ hk => setRow_other w g k _ (fun e => hk (by simp [Value.ownBlock, e]))⟩⟩
        · simp only [List.size_toArray, List.length_append, List.length_take, List.length_drop, Array.length_toList]
          omega
        · rw [htake]
          exact List.take_left
        · intro g' hg' j c hc
          have hg2 : g = g' := by simpa [Value.ownBlock] using hg'
          subst hg2
          rw [cell_of_row _ g j _ e fz (setRow_heap w g cur _ e _ hg)] at hc
          have hm := Array.mem_of_getElem? hc
          rw [List.mem_toArray, List.mem_append, List.mem_append] at hm
          have hcur : ∀ c ∈ cur.toList, IsSl c := fun c hc => by
            obtain ⟨k, hk⟩ := List.getElem?_of_mem hc
            exact hall g (by simp [Value.ownBlock]) k c (by rw [cell_of_row w g k cur e fz hg]; simpa using hk)
          rcases hm with (hm | hm) | hm
          · exact hcur c (List.mem_of_mem_take hm)
          · exact h1 c hm
          · exact hcur c (List.mem_of_mem_drop hm)
      · have holds : ∀ j u, xs[j]? = some u → w.cell? ((⟨g, 0, none⟩ : Addr).add j) = some u := by
          intro j u hj
          rw [Addr.add_lit, Nat.zero_add, cell_of_row w g j cur e fz hg]
          rw [← htake, List.getElem?_take] at hj
          split at hj
          · simpa using hj
          · cases hj
        have hrun := run_append_grow (P := P) w t ty e i z ht hi hz ⟨g, 0, none⟩ xs.length cap xs (by rw [hsize]; omega) holds ⟨b, o, none⟩ news.length c news (by rw [hsize]; omega) hnews (by omega) (by omega) (growslice_fits (by omega) (by rw [hby]; exact hbytes))
        have hge := grownCap_ge w (xs.length + news.length) cap e
        have hcm2 : grownCap w (xs.length + news.length) cap e ≤ maxLen := grownCap_le_maxLen w (xs.length + news.length) cap e h63
        refine ⟨_, _, hrun, .inr ⟨w.heap.size, _, _, (0, 0), by rw [List.length_append], hlo, heap_alloc_new w.drew _, .inl rfl, by simpa using hge, hcm2, ?_, ?_⟩, ?_, ⟨rfl, rfl, rfl, by simp, fun k hk _ => Below.heap_alloc w.drew _ k hk⟩⟩
        · simp only [Array.size_append, List.size_toArray, size_zeroCells, hzs1]
          omega
        · simp only [Array.toList_append]
          exact List.take_left
        · intro g' hg' j c hc
          have hg2 : w.heap.size = g' := by simpa [Value.ownBlock] using hg'
          subst hg2
          rw [show w.heap.size = w.drew.heap.size from rfl, World.cell?_alloc_new] at hc
          have hm := Array.mem_of_getElem? hc
          rw [← Array.mem_toList_iff, Array.toList_append, Array.toList_append, List.mem_append, List.mem_append] at hm
          rcases hm with (hm | hm) | hm
          · obtain ⟨k, hk⟩ := List.getElem?_of_mem hm
            have := holds k c (by simpa using hk)
            exact hall g (by simp [Value.ownBlock]) (0 + k) c (by rwa [Addr.add_lit] at this)
          · exact h1 c hm
          · exact hzm _ c hm
end

/-- A row of the call's own that holds slices which read as texts. -/
def Rows (w : World) (lo : Nat) (e : TypeId) (v : Value) (ls : List (List UInt8)) : Prop :=
  ∃ us : List Value, Own w lo e v us ∧ AllSl w v ∧ us.length = ls.length ∧ ∀ (j : Nat) (l : List UInt8), ls[j]? = some l → ∃ u, us[j]? = some u ∧ Rd w w.heap.size u (bs l)
section
variable {P : Program} {w w' : World} {lo : Nat} {e : TypeId} {v : Value} {ls ms : List (List UInt8)}
theorem Rows.nil (w : World) (lo : Nat) (e : TypeId) : Rows w lo e (.slice none 0 0) [] := ⟨[], Own.nil _ _ _, AllSl.nil w, rfl, by simp⟩
theorem Rows.keep (h : Rows w lo e v ls) (hs : Stp w w') : Rows w' lo e v ls := by
  obtain ⟨us, h1, h2, h3, h4⟩ := h
  refine ⟨us, h1.keep hs, h2.keep h1 hs, h3, fun j l hj => ?_⟩
  obtain ⟨u, hu, hr⟩ := h4 j l hj
  exact ⟨u, hu, (hr.keep hs).more hs.size⟩
theorem Rows.rdL (h : Rows w lo e v ls) : ∃ A cap, v = .slice A ls.length cap ∧ RdL w A cap ls := by
  obtain ⟨us, h1, h2, h3, h4⟩ := h
  obtain ⟨A, cap, rfl, hA⟩ := RdA.of h1.rd
  exact ⟨A, cap, by rw [h3], us, h3, hA, h4⟩
/-- A literal of one slice. -/
theorem Rows.one {A : Option Addr} {n cap : Nat} {l : List UInt8} (h : RdA w A cap (bs l)) (hn : l.length = n) : Rows (w.alloc (.cells #[.slice A n cap] e)) w.heap.size e (.slice (some ⟨w.heap.size, 0, none⟩) 1 1) [l] := by
  subst hn
  refine ⟨[.slice A l.length cap], own_lit w e _, ?_, rfl, fun j k hj => ?_⟩
  · intro g hg j c hc
    have hg2 : w.heap.size = g := by simpa [Value.ownBlock] using hg
    subst hg2
    rw [World.cell?_alloc_new] at hc
    have hm := Array.mem_of_getElem? hc
    simp only [List.mem_toArray, List.mem_singleton] at hm
    exact ⟨_, _, _, hm⟩
  · cases j with
    | zero =>
      simp only [List.getElem?_cons_zero, Option.some.injEq] at hj
      subst hj
      refine ⟨_, rfl, ?_⟩
      have := h.keep (Stp.alloc (Stp.refl w) (.cells #[.slice A l.length cap] e))
      unfold RdA at this
      rwa [bs_length] at this
    | succ j => simp at hj
/-- append of a slice of slices. -/
theorem Rows.more (h : Rows w lo e v ls) (t ty : TypeId) (ht : P.underlying t = some (.slice e)) (hi : (P.info? e).map (fun i => (i.zero, i.size, i.bytes)) = some (some (.slice none 0 0), 1, 24))
    {A : Option Addr} {n c : Nat} (hm : RdL w A c ms) (hn : ms.length = n) (hl : ls.length + ms.length ≤ 1000000000) (hlo : lo ≤ w.heap.size) :
    ∃ v' w', (Builtin.append_ #[t, t] ty #[v, .slice A n c]).run P w = .ok v' w' ∧ Rows w' lo e v' (ls ++ ms) ∧ w.grownBy w' v.ownBlock := by
  subst hn
  obtain ⟨us, h1, h2, h3, h4⟩ := h
  obtain ⟨ns, k1, k2, k3⟩ := hm
  have hsl : ∀ u ∈ ns, IsSl u := fun u hu => by
    obtain ⟨j, hj⟩ := List.getElem?_of_mem hu
    have hjl : j < ms.length := by rw [← k1]; exact (List.getElem?_eq_some_iff.1 hj).1
    obtain ⟨u2, hu2, hr⟩ := k3 j _ (List.getElem?_eq_getElem hjl)
    rw [hj] at hu2
    cases hu2
    obtain ⟨A, cap, hv, _⟩ := hr
    exact ⟨A, _, cap, hv⟩
  obtain ⟨i, hi', hz, hsz, hby⟩ := info_parts hi
  obtain ⟨v', w', q1, q2, q3, q4⟩ := run_append_sl (P := P) (w := w) lo t ty e i _ 24 ht hi' hz hsz hby rfl ⟨_, _, _, rfl⟩ v us h1 h2 w.heap.size (.slice A ms.length c) ns (by rw [← k1]; exact k2) hsl
    (by rw [h3, k1]; unfold maxLen; omega) (by rw [h3, k1]; omega) hlo
  refine ⟨v', w', q1, ⟨us ++ ns, q2, q3, by simp [h3, k1], fun j l hj => ?_⟩, q4⟩
  by_cases hlt : j < ls.length
  · rw [List.getElem?_append_left hlt] at hj
    rw [List.getElem?_append_left (by omega)]
    obtain ⟨u, hu, hr⟩ := h4 j l hj
    exact ⟨u, hu, (hr.past h2 q4 (Nat.le_refl _)).more q4.size⟩
  · rw [List.getElem?_append_right (by omega)] at hj
    rw [List.getElem?_append_right (by omega), h3]
    obtain ⟨u, hu, hr⟩ := k3 _ l hj
    exact ⟨u, hu, (hr.past h2 q4 (Nat.le_refl _)).more q4.size⟩
theorem wpList_append_rows {ops : Array Oper} {rest : List Oper} {o : Oper} {a : Act} {Q : Exit → Act → World → Prop} (hgd : o.guard = none) (s x : Operand) (t : TypeId)
    (ho : o.op = .call { callee := .builtin .append, args := #[s, x], argTypes := #[t, t] })
    (e : TypeId) (ht : P.underlying t = some (.slice e)) (hi : (P.info? e).map (fun i => (i.zero, i.size, i.bytes)) = some (some (.slice none 0 0), 1, 24))
    (v : Value) (hs : a.eval s = v) (h : Rows w lo e v ls) {A : Option Addr} {n c : Nat} (hx : a.eval x = .slice A n c) (hm : RdL w A c ms) (hn : ms.length = n) (hl : ls.length + ms.length ≤ 1000000000) (hlo : lo ≤ w.heap.size)
    (hK : ∀ v' w', Rows w' lo e v' (ls ++ ms) → w.grownBy w' v.ownBlock → wpList P ops Q rest (a.put o.dst v') w') : wpList P ops Q (o :: rest) a w := by
  refine wpList_plain hgd fun K hK2 => ?_
  obtain ⟨v', w', hr', h2, h3⟩ := h.more (P := P) t o.type ht hi hm hn hl hlo
  unfold Oper.wp execOp
  simp only [ho, resolve, invoke, builtin, Sem.run_bind, Sem.run_pure, Result.andThen_ok, List.map_toArray, List.map_cons, List.map_nil, hs, hx, hr']
  exact hK2 _ _ (hK v' w' h2 h3)
/-- Nothing that was there at the call's beginning is written. -/
theorem Rows.stp {w0 : World} (h : Rows w lo e v ls) (h0 : Stp w0 w) (hlo : w0.heap.size ≤ lo) (hg : w.grownBy w' v.ownBlock) : Stp w0 w' := by
  obtain ⟨us, h1, _, _, _⟩ := h
  exact Below.grown h0 hg h0.size (fun j hj => Nat.le_trans hlo (h1.lt j hj).1)
end
end Go.Proofs.Ytihigbaaajmjlaa.Base
