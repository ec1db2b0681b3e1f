/-
  Package volume's own contracts: Split and Needs, and all of them in one: no statement is proved here.
-/
import Derived.Test.YtopihahjjcpnpaaGreatDoorVolK2
import Derived.Test.YtopihahjjcpnpaaGreatDoorVolK3
namespace Go.Proofs.YtopihahjjcpnpaaGreatDoor.Vol
open Go.Sort Go.RowKit Go.Proofs.YtopihahjjcpnpaaGreatDoor.Str Go.Proofs.YtopihahjjcpnpaaGreatDoor.Base Go.Proofs.YtopihahjjcpnpaaGreatDoor.Node Go.Proofs.YtopihahjjcpnpaaGreatDoor.Head Go.Proofs.YtopihahjjcpnpaaGreatDoor.Long Go.Proofs.YtopihahjjcpnpaaGreatDoor.Entry Go.Proofs.YtopihahjjcpnpaaGreatDoor.LabelM Go.Proofs.YtopihahjjcpnpaaGreatDoor.ContM Go.Proofs.YtopihahjjcpnpaaGreatDoor.Stream Go.Proofs.YtopihahjjcpnpaaGreatDoor.VolM
open Go.Proofs.YtopihahjjcpnpaaGreatDoor.Tree (oneB mayT fewT)
set_option linter.unusedVariables false

theorem allv_z (t : List Nd) (m : Nat) (hm : t.length = m) (hl : m ≤ 1000) (hn : ∀ n ∈ t, SmallN n) (z : Nat) (hz : (allS t).length = z) (r : Bool) (hr : mayT t = r) (T : Option Addr) (ct : Nat) (w : World) (ht : RdN w T ct t) :
    Calls Tryz.prog 26 #[.slice T m ct] w fun e w' => ∃ B d, e = .returned (.tuple #[.slice B z d, .bool r]) ∧ RdL w' B d (allS t) ∧ Stp w w' := by
  subst hz hr
  exact Stream.all_s t m hm hl hn T ct w ht
theorem rdL_some {w : World} {B : Option Addr} {d : Nat} {ls : LL} (h : RdL w B d ls) (h1 : 1 ≤ ls.length) : ∃ b o, B = some ⟨b, o, none⟩ := by
  obtain ⟨b, o, A1, c1, e, -⟩ := h.at_ (j := 0) (l := ls[0]) (List.getElem?_eq_getElem (by omega))
  exact ⟨b, o, e⟩
/-- What Split keeps: what is left, at which place, and the volumes so far. -/
structure PS (s : Sett) (A : Option Addr) (k : Nat) (w3 w : World) (lo gl gp gw b o c N pos : Nat) (L : LL) (v : Value) (vs : List LL) : Prop where
  stp : Stp w3 w
  l : Blk w gl 33 #[.slice (some ⟨b, o, none⟩) N c]
  p : Blk w gp 3 #[.int .i64 (pos : Int)]
  x : Blk w gw 60 #[.string ⟨s.label.toArray⟩, .int .i64 s.b, .slice A s.caps.length k, v]
  rows : Base.Rows3 w lo 33 43 v vs
  left : RdL w3 (some ⟨b, o, none⟩) c L
  len : L.length = N
  gel : w3.heap.size ≤ gl
  lp : gl < gp
  px : gp < gw
  xlo : gw < lo
  lo_le : lo ≤ w.heap.size
  b_lt : b < w3.heap.size
section
variable {s : Sett} {A : Option Addr} {k : Nat} {w3 w w' : World} {lo gl gp gw b o c N pos : Nat} {L : LL} {v : Value} {vs : List LL}
theorem PS.keep (h : PS s A k w3 w lo gl gp gw b o c N pos L v vs) (hs : Stp w w') : PS s A k w3 w' lo gl gp gw b o c N pos L v vs :=
  ⟨Stp.trans h.stp hs, h.l.keep hs h.l.lt, h.p.keep hs h.p.lt, h.x.keep hs h.x.lt, h.rows.keep hs, h.left, h.len, h.gel, h.lp, h.px, h.xlo, Nat.le_trans h.lo_le hs.size, h.b_lt⟩
theorem PS.cells (h : PS s A k w3 w lo gl gp gw b o c N pos L v vs) : w.cell? ⟨gl, 0, none⟩ = some (.slice (some ⟨b, o, none⟩) N c) ∧ w.cell? ⟨gp, 0, none⟩ = some (.int .i64 (pos : Int)) ∧
    w.cell? ⟨gw, 0, none⟩ = some (.string ⟨s.label.toArray⟩) ∧ w.cell? ⟨gw, 1, none⟩ = some (.int .i64 s.b) ∧ w.cell? ⟨gw, 2, none⟩ = some (.slice A s.caps.length k) ∧ w.cell? ⟨gw, 3, none⟩ = some v := by
  refine ⟨by rw [h.l.cell]; rfl, by rw [h.p.cell]; rfl, ?_, ?_, ?_, ?_⟩ <;> (rw [h.x.cell]; rfl)
theorem PS.far (h : PS s A k w3 w lo gl gp gw b o c N pos L v vs) (hf : Far (Two gl gp) w w') {o' c' N' pos' : Nat} {L' : LL} (hl : Blk w' gl 33 #[.slice (some ⟨b, o', none⟩) N' c']) (hp : Blk w' gp 3 #[.int .i64 (pos' : Int)])
    (hR : RdL w3 (some ⟨b, o', none⟩) c' L') (hN : L'.length = N') : PS s A k w3 w' lo gl gp gw b o' c' N' pos' L' v vs := by
  have h1 := h.gel
  have h2 := h.lp
  have h3 := h.px
  have h4 := h.xlo
  refine ⟨hf.stp h.stp (fun j hj => by rcases hj with rfl | rfl <;> omega), hl, hp, hf.blk h.x (fun hj => by rcases hj with e | e <;> omega), ?_, hR, hN, h1, h2, h3, h4, Nat.le_trans h.lo_le hf.size, h.b_lt⟩
  refine hf.rows3 (no8_two h.l h.p) ?_ h.rows (fun j hj => by rcases hj with rfl | rfl <;> omega)
  rintro g (rfl | rfl) cur fz e
  · have := h.l
    unfold Blk at this
    rw [this] at e
    cases e
  · have := h.p
    unfold Blk at this
    rw [this] at e
    cases e
/-- One volume more. -/
theorem PS.put (h : PS s A k w3 w lo gl gp gw b o c N pos L v vs) {ob : Obj} {w8 : World} {v8 : Value} {vs8 : List LL} (hg : (w.alloc ob).grownBy w8 v.ownBlock) (hr : Base.Rows3 w8 lo 33 43 v8 vs8) :
    PS s A k w3 (w8.setCell ⟨gw, 3, none⟩ v8) lo gl gp gw b o c N pos L v8 vs8 := by
  have h0 := h.keep (Stp.alloc (Stp.refl w) ob)
  have h1 := h.gel
  have h2 := h.lp
  have h3 := h.px
  have h4 := h.xlo
  obtain ⟨us, ho, -⟩ := id h0.rows
  have hown : ∀ g, v.ownBlock = some g → lo ≤ g := fun g e => (ho.lt g e).1
  have ne : ∀ g, g < lo → some g ≠ v.ownBlock := fun g hlt e => by have := hown g e.symm; omega
  have hs8 : Stp w3 w8 := Below.grown h0.stp hg h0.stp.size (fun j hj => Nat.le_trans (by omega) (hown j hj))
  have hx := h0.x.grown hg (ne gw h4)
  refine ⟨set_stp hs8 (by omega) 3 v8, (h0.l.grown hg (ne gl (by omega))).far (by show gl ≠ gw; omega) _, (h0.p.grown hg (ne gp (by omega))).far (by show gp ≠ gw; omega) _, hx.put 3 v8, ?_, h.left, h.len, h1, h2, h3, h4, ?_, h.b_lt⟩
  · refine (Far.set (X := fun j => j = gw) (Far.refl _ w8) rfl 3 v8).rows3 ?_ ?_ hr (fun j hj => by have : j = gw := hj; omega)
    · intro g hj i x e
      have hj2 : g = gw := hj
      subst hj2
      rw [hx.cell] at e
      have hm := Array.mem_of_getElem? e
      simp only [List.mem_toArray, List.mem_cons, List.not_mem_nil, or_false] at hm
      rcases hm with hm | hm | hm | hm
      · cases hm
      · cases hm
      · cases hm
      · obtain ⟨us2, q1, -⟩ := h.rows
        obtain ⟨A2, c2, e2, -⟩ := RdA.of q1.rd
        rw [e2] at hm
        cases hm
    · intro g hj cur fz e
      have hj2 : g = gw := hj
      subst hj2
      unfold Blk at hx
      rw [hx] at e
      cases e
  · have k1 := hg.size
    have k2 := h0.lo_le
    have k3 : (w8.setCell ⟨gw, 3, none⟩ v8).heap.size = w8.heap.size := by simp [World.setCell]
    omega
end
set_option maxRecDepth 100000 in
set_option maxHeartbeats 4000000 in
theorem vsplit_no (t : List Nd) (m : Nat) (hm : t.length = m) (hl : m ≤ 1000) (hn : ∀ n ∈ t, SmallN n) (s : Sett) (hs : SmallS s) (hno : (mayT t && mayS s) = false) (T A : Option Addr) (ct k : Nat) (w : World) (ht : RdN w T ct t) (ha : RdZ w A k s.caps) :
    Calls Tryz.prog 14 #[.slice T m ct, sv s A k] w fun e w' => e = .returned (.tuple #[.slice none 0 0, .int .i64 1]) ∧ Stp w w' := by
  have h0 := Stp.alloc (Stp.refl w) (.cells (scells s A k) 25)
  have Hb := Lib.hid (Blk.new w 25 (scells s A k))
  have Ha : Hid (RdZ (w.alloc (.cells (scells s A k) 25)) A k s.caps) := Lib.hid (RdA.keep ha h0)
  have Ht := Lib.hid (ht.keep h0)
  have H := Lib.hid h0
  have Hs := Lib.hid hs
  have Hm := Lib.hid hm
  have Hn := Lib.hid hn
  obtain ⟨z, hz⟩ : ∃ z, (allS t).length = z := ⟨_, rfl⟩
  obtain ⟨q0, q1, q2⟩ := set_cells3 Hb.out
  obtain ⟨b1, k1⟩ : ∃ b, mayT t = b := ⟨_, rfl⟩
  obtain ⟨b2, k2⟩ : ∃ b, mayS s = b := ⟨_, rfl⟩
  rw [k1, k2] at hno
  have K1 := Lib.hid k1
  have K2 := Lib.hid k2
  have HZ := Lib.hid hz
  have hc : b1 = false ∨ (b1 = true ∧ b2 = false) := by
    cases b1
    · exact .inl rfl
    · exact .inr ⟨rfl, by simpa using hno⟩
  clear h0 ha ht hs hn k1 k2 hm hz hno
  rcases hc with rfl | ⟨rfl, rfl⟩
  all_goals
    go_enter Tryz.func14, Tryz.ntmps14
    go_upto_region 2 with (go_at_call 26; (with_reducible refine (allv_z t m Hm.out hl Hn.out z HZ.out _ K1.out T ct _ Ht.out).mono ?_); rintro e w1 ⟨B1, d1, rfl, -, hs⟩; replace Hb := Lib.hid (Hb.out.keep hs Hb.out.lt); replace Ha := Lib.hid (RdA.keep Ha.out hs); replace H := Lib.hid (Stp.trans H.out hs); clear hs q0 q1 q2; obtain ⟨q0, q1, q2⟩ := set_cells3 Hb.out)
    have H2 := Lib.hid (Stp.alloc H.out (.cells #[.slice B1 z d1] 33))
    replace Hb := Lib.hid (Hb.out.alloc (.cells #[.slice B1 z d1] 33))
    replace Ha := Lib.hid (RdA.keep Ha.out (Stp.alloc (Stp.refl w1) (.cells #[.slice B1 z d1] 33)))
    clear q0 q1 q2
    change Code.wp _ _ _ _ (w1.alloc (.cells #[.slice B1 z d1] 33))
    generalize w1.alloc (.cells #[.slice B1 z d1] 33) = W at H2 Hb Ha ⊢
    obtain ⟨q0, q1, q2⟩ := set_cells3 Hb.out
    go_wp2_with (go_at_call 21; (with_reducible refine (may_s s A k _ rfl Hs.out _ K2.out _ Ha.out).mono ?_); rintro e w2 ⟨rfl, hs⟩; replace H2 := Lib.hid (Stp.trans H2.out hs); clear hs q0 q1 q2)
    go_ret2
    exact ⟨rfl, H2.out⟩
theorem volsK_info : (Tryz.prog.info? 33).map (fun i => (i.zero, i.size, i.bytes)) = some (some (.slice none 0 0), 1, 24) := by kernel_rfl
def leftN (w : World) (g : Nat) : Nat := match w.cell? ⟨g, 0, none⟩ with
  | some (.slice _ n _) => n
  | _ => 0
theorem left_is {w : World} {g n c : Nat} {A : Option Addr} {t : TypeId} (h : Blk w g t #[.slice A n c]) : leftN w g = n := by
  have : w.cell? ⟨g, 0, none⟩ = some (.slice A n c) := by rw [h.cell]; rfl
  rw [leftN, this]
theorem label_may2 {s : Sett} (h : mayS s = true) {n : Nat} (hn : n < 999) : mayLb s.label ((n : Int) + 1) = true := by
  obtain ⟨a, b, c, -, -⟩ := mayLb_iff.1 (mayS_iff.1 h).1
  exact mayLb_iff.2 ⟨a, b, c, by omega, by omega⟩
/-- Begin, where it goes, its row the call's own. -/
theorem vbegin_n (t : List Nd) (m : Nat) (hm : t.length = m) (hl : m ≤ 1000) (hn : ∀ n ∈ t, SmallN n) (s : Sett) (hs : SmallS s) (pos n : Nat) (hb : beginB t s (pos : Int) ((n : Int) + 1) = true) (V : LL) (hV : beginL t s pos ((n : Int) + 1) = V) (bl : Nat) (hbl : V.length = bl)
    (T A : Option Addr) (ct k : Nat) (w : World) (ht : RdN w T ct t) (ha : RdZ w A k s.caps) (htab : Label.Tab w) :
    Calls Tryz.prog 16 #[.slice T m ct, sv s A k, .int .i64 (pos : Int), .int .i64 ((n : Int) + 1)] w fun e w' => ∃ B d, e = .returned (.tuple #[.slice B bl d, .bool true]) ∧ Base.Rows w' w.heap.size 43 (.slice B bl d) V ∧ Stp w w' := by
  refine (begin_yes t m hm hl hn s hs (pos : Int) ((n : Int) + 1) hb T A ct k w ht ha htab).mono ?_
  rintro e w1 ⟨v, rfl, hR, hs⟩
  rw [Int.toNat_natCast, hV] at hR
  obtain ⟨B, d, rfl, -⟩ := hR.rdL
  rw [hbl] at hR ⊢
  exact ⟨B, d, rfl, hR, hs⟩
set_option maxRecDepth 100000 in
set_option maxHeartbeats 8000000 in
theorem vsplit_yes (t : List Nd) (m : Nat) (hm : t.length = m) (hl : m ≤ 1000) (hn : ∀ n ∈ t, SmallN n) (s : Sett) (hs : SmallS s) (h1 : mayT t = true) (h2 : mayS s = true) (Q : List LL) (E : Int) (hQ : splitV t s = (Q, E)) (T A : Option Addr) (ct k : Nat) (w : World) (ht : RdN w T ct t) (ha : RdZ w A k s.caps) (htab : Label.Tab w) :
    Calls Tryz.prog 14 #[.slice T m ct, sv s A k] w fun e w' => ∃ B d, e = .returned (.tuple #[.slice B Q.length d, .int .i64 E]) ∧ RdV w' B d Q ∧ Stp w w' := by
  have h0 := Stp.alloc (Stp.refl w) (.cells (scells s A k) 25)
  have Hb := Lib.hid (Blk.new w 25 (scells s A k))
  have Ha : Hid (RdZ (w.alloc (.cells (scells s A k) 25)) A k s.caps) := Lib.hid (RdA.keep ha h0)
  have Ht := Lib.hid (ht.keep h0)
  have H := Lib.hid h0
  have Hs := Lib.hid hs
  have Hm := Lib.hid hm
  have Hn := Lib.hid hn
  have HT := Lib.hid htab
  obtain ⟨q0, q1, q2⟩ := set_cells3 Hb.out
  obtain ⟨z, hz⟩ : ∃ z, (allS t).length = z := ⟨_, rfl⟩
  have hz1 : z ≤ 402 := by rw [← hz]; exact Stream.all_le
  have hz2 : 2 ≤ z := by rw [← hz]; exact many_two h1
  have hE : splitV t s = volsG t s z 0 0 := by rw [splitV, if_pos (by rw [h1, h2]; rfl), hz]
  rw [hQ] at hE
  have HQ := Lib.hid hE
  have HZ := Lib.hid hz
  have K1 := Lib.hid h1
  have K2 := Lib.hid h2
  have h12 := (mayS_iff.1 h2).2.2.2.1
  obtain ⟨-, hb1, hb20, -, -⟩ := mayS_iff.1 h2
  clear h0 ha ht hs hn h1 h2 hz hE hQ hm htab
  go_enter Tryz.func14, Tryz.ntmps14
  go_upto_region 2 with (go_at_call 26; (with_reducible refine (allv_z t m Hm.out hl Hn.out z HZ.out _ K1.out T ct _ Ht.out).mono ?_); rintro e w1 ⟨B1, d1, rfl, hr, hs⟩; obtain ⟨b, o, rfl⟩ := rdL_some hr (by rw [HZ.out]; omega); have HLL := Lib.hid hr; replace Hb := Lib.hid (Hb.out.keep hs Hb.out.lt); replace Ha := Lib.hid (RdA.keep Ha.out hs); replace Ht := Lib.hid (Ht.out.keep hs); replace H := Lib.hid (Stp.trans H.out hs); clear hr hs q0 q1 q2; obtain ⟨q0, q1, q2⟩ := set_cells3 Hb.out)
  have HBlt : Hid (b < w1.heap.size) := Lib.hid (HLL.out.lt_size (by rw [HZ.out]; omega) b o rfl)
  have HS1 := Lib.hid (Stp.alloc (Stp.refl w1) (.cells #[.slice (some ⟨b, o, none⟩) z d1] 33))
  have HL1 := Lib.hid (Blk.new w1 33 #[.slice (some ⟨b, o, none⟩) z d1])
  obtain ⟨gl, hgl⟩ : ∃ g, w1.heap.size = g := ⟨_, rfl⟩
  clear q0 q1 q2
  rw [hgl] at HL1 ⊢
  change Code.wp _ _ _ _ (w1.alloc (.cells #[.slice (some ⟨b, o, none⟩) z d1] 33))
  generalize w1.alloc (.cells #[.slice (some ⟨b, o, none⟩) z d1] 33) = W at HS1 HL1 ⊢
  obtain ⟨q0, q1, q2⟩ := set_cells3 (Hb.out.keep HS1.out Hb.out.lt)
  go_upto_region 4 with (go_at_call 21; (with_reducible refine (may_s s A k _ rfl Hs.out _ K2.out _ (RdA.keep Ha.out HS1.out)).mono ?_); rintro e w2 ⟨rfl, hs⟩; replace HS1 := Lib.hid (Stp.trans HS1.out hs); replace HL1 := Lib.hid (HL1.out.keep hs HL1.out.lt); clear hs q0 q1 q2)
  go_upto_region 6 with fail
  have HP1 := Lib.hid (Blk.new w2 3 #[.int .i64 0])
  have hlp : gl < w2.heap.size := HL1.out.lt
  have hsz : (w2.alloc (.cells #[.int .i64 0] 3)).heap.size = w2.heap.size + 1 := World.size_alloc _ _
  replace HL1 := Lib.hid (HL1.out.alloc (.cells #[.int .i64 0] 3))
  replace HS1 := Lib.hid (Stp.alloc HS1.out (.cells #[.int .i64 0] 3))
  obtain ⟨gp, hgp⟩ : ∃ g, w2.heap.size = g := ⟨_, rfl⟩
  rw [hgp] at HP1 hlp hsz ⊢
  change Code.wp _ _ _ _ (w2.alloc (.cells #[.int .i64 0] 3))
  generalize w2.alloc (.cells #[.int .i64 0] 3) = W2 at HS1 HL1 HP1 hsz ⊢
  clear hgp
  obtain ⟨q0, q1, q2⟩ := set_cells3 (Hb.out.keep HS1.out Hb.out.lt)
  go_wp2
  have hX := Blk.new W2 60 #[.string ⟨s.label.toArray⟩, .int .i64 s.b, .slice A s.caps.length k, .slice none 0 0]
  have hst := Stp.alloc (Stp.refl W2) (.cells #[.string ⟨s.label.toArray⟩, .int .i64 s.b, .slice A s.caps.length k, .slice none 0 0] 60)
  have hsz3 : (W2.alloc (.cells #[.string ⟨s.label.toArray⟩, .int .i64 s.b, .slice A s.caps.length k, .slice none 0 0] 60)).heap.size = W2.heap.size + 1 := World.size_alloc _ _
  rw [hsz] at hX hsz3
  have hps : PS s A k w1 (W2.alloc (.cells #[.string ⟨s.label.toArray⟩, .int .i64 s.b, .slice A s.caps.length k, .slice none 0 0] 60)) (gp + 2) gl gp (gp + 1) b o d1 z 0 (allS t) (.slice none 0 0) [] :=
    ⟨Stp.trans HS1.out hst, HL1.out.keep hst HL1.out.lt, HP1.out.keep hst HP1.out.lt, hX, Base.Rows3.nil _ _ _ _, HLL.out, HZ.out, by omega, hlp, by omega, by omega, by omega, HBlt.out⟩
  have HPS0 := Lib.hid hps
  clear q0 q1 q2 hX hst hsz3 hps HL1 HP1
  go_loopw [] (fun wr => ∃ (pos o1 c1 : Nat) (v : Value) (vs : List LL), pos ≤ z ∧ vs.length ≤ s.caps.length ∧ Hid (PS s A k w1 wr (gp + 2) gl gp (gp + 1) b o1 c1 (z - pos) pos ((allS t).drop pos) v vs) ∧ Hid ((Q, E) = (vs ++ (volsG t s z pos vs.length).1, (volsG t s z pos vs.length).2))) (fun wr => leftN wr gl)
  case atStart => exact ⟨0, o, d1, .slice none 0 0, [], by omega, by simp, Lib.hid (by simpa using HPS0.out), HQ⟩
  case round =>
    obtain ⟨pos, o1, c1, v, vs, hpos, hvl, HPS, HE⟩ := hrel
    obtain ⟨Av, cv, rfl, -⟩ := HPS.out.rows.rdV
    obtain ⟨W4, hW4⟩ : ∃ W, W = wr := ⟨_, rfl⟩
    subst hW4
    have HSt := Lib.hid HPS.out.stp
    obtain ⟨p0, p1, x0, x1, x2, x3⟩ := HPS.out.cells
    obtain ⟨q0, q1, q2⟩ := set_cells3 (Hb.out.keep HSt.out Hb.out.lt)
    by_cases hlt : pos < z
    · have g3 : decide ((0 : Int) < ((z - pos : Nat) : Int)) = true := decide_eq_true (by omega)
      obtain ⟨V, hV⟩ : ∃ x, beginL t s pos ((vs.length : Int) + 1) = x := ⟨_, rfl⟩
      obtain ⟨bl, hbl⟩ : ∃ x, V.length = x := ⟨_, rfl⟩
      have hbl4 : bl ≤ 4 := by rw [← hbl, ← hV]; exact begin_le _ _ _ _
      have HBeg : Hid (beginB t s (pos : Int) ((vs.length : Int) + 1) = true) := Lib.hid (beginB_iff.2 ⟨K1.out, K2.out, label_may2 K2.out (by omega), by omega, by rw [HZ.out]; omega⟩)
      have HV := Lib.hid hV
      have HBL := Lib.hid hbl
      clear hV hbl
      cases hc : s.caps[vs.length]? with
      | none =>
        have hE := HE.out
        rw [vols_none HZ.out hlt hc, List.append_nil] at hE
        have HE2 := Lib.hid hE
        have Hcl := Lib.hid (List.getElem?_eq_none_iff.1 hc)
        have Hv3 : Hid (vs.length < 1000) := Lib.hid (by omega)
        clear hc hE HE
        go_wp2_with (first
          | (go_at_call 16; (with_reducible refine (vbegin_n t m Hm.out hl Hn.out s Hs.out pos vs.length HBeg.out V HV.out bl HBL.out T A ct k _ (Ht.out.keep HSt.out) (RdA.keep Ha.out HSt.out) (HT.out.keep (Stp.trans H.out HSt.out))).mono ?_); rintro e w5 ⟨B5, d5, rfl, hR, hs⟩; have HR := Lib.hid hR; have H5 := Lib.hid hs; have HPS5 := Lib.hid (HPS.out.keep hs); clear hR hs p0 p1 x0 x1 x2 x3 q0 q1 q2; obtain ⟨p0, p1, x0, x1, x2, x3⟩ := HPS5.out.cells)
          | (go_at_call 34; (with_reducible refine (volume_media s A k vs.length Hcl.out Hv3.out _ _ _).mono ?_); rintro e w6 ⟨rfl, hs⟩; have HPS6 := Lib.hid (HPS5.out.keep hs); clear hs p0 p1 x0 x1 x2 x3; obtain ⟨p0, p1, x0, x1, x2, x3⟩ := HPS6.out.cells))
        go_ret2
        obtain ⟨A11, c11, he, hV⟩ := HPS6.out.rows.rdV
        cases he
        have hE := HE2.out
        simp only [Prod.mk.injEq] at hE
        rw [hE.1, hE.2]
        exact ⟨_, _, rfl, hV, Stp.trans H.out HPS6.out.stp⟩
      | some c =>
        have hcok := cap_ok K2.out hc
        obtain ⟨hvl1, -⟩ := List.getElem?_eq_some_iff.1 hc
        obtain ⟨room, hroom⟩ : ∃ r : Nat, (s.b * c).toNat = r := ⟨_, rfl⟩
        obtain ⟨hrm1, hrm2⟩ := room_is K2.out hcok.1
        rw [hroom] at hrm1
        have HC := Lib.hid hc
        have HRm := Lib.hid hroom
        clear hc hroom
        by_cases hfit : room ≤ bl
        · have hE := HE.out
          rw [vols_small HZ.out hlt HC.out (by rw [HRm.out, HV.out, HBL.out]; exact hfit), List.append_nil] at hE
          have HE2 := Lib.hid hE
          have Hfit : Hid ((s.b * c).toNat ≤ bl) := Lib.hid (by rw [HRm.out]; exact hfit)
          have Hb4 := Lib.hid hbl4
          clear hE HE hfit hbl4
          go_wp2_with (first
            | (go_at_call 16; (with_reducible refine (vbegin_n t m Hm.out hl Hn.out s Hs.out pos vs.length HBeg.out V HV.out bl HBL.out T A ct k _ (Ht.out.keep HSt.out) (RdA.keep Ha.out HSt.out) (HT.out.keep (Stp.trans H.out HSt.out))).mono ?_); rintro e w5 ⟨B5, d5, rfl, hR, hs⟩; have HR := Lib.hid hR; have H5 := Lib.hid hs; have HPS5 := Lib.hid (HPS.out.keep hs); clear hR hs p0 p1 x0 x1 x2 x3 q0 q1 q2; obtain ⟨p0, p1, x0, x1, x2, x3⟩ := HPS5.out.cells)
            | (go_at_call 34; (with_reducible refine (volume_small s A k vs.length K2.out HC.out _ Hb4.out Hfit.out _ (RdA.keep Ha.out HPS5.out.stp)).mono ?_); rintro e w6 ⟨rfl, hs⟩; have HPS6 := Lib.hid (HPS5.out.keep hs); clear hs p0 p1 x0 x1 x2 x3; obtain ⟨p0, p1, x0, x1, x2, x3⟩ := HPS6.out.cells))
          go_ret2
          obtain ⟨A11, c11, he, hV⟩ := HPS6.out.rows.rdV
          cases he
          have hE := HE2.out
          simp only [Prod.mk.injEq] at hE
          rw [hE.1, hE.2]
          exact ⟨_, _, rfl, hV, Stp.trans H.out HPS6.out.stp⟩
        · obtain ⟨j, hj⟩ : ∃ j, min (room - bl) (z - pos) = j := ⟨_, rfl⟩
          obtain ⟨f, hf⟩ : ∃ f, (s.b.toNat - (bl + j) % s.b.toNat) % s.b.toNat = f := ⟨_, rfl⟩
          have hv := vol_cut (n := vs.length) HV.out HBL.out HZ.out hlt (show bl < room by omega) hj rfl hrm2 hrm1
          rw [hf] at hv
          have Hv := Lib.hid hv
          have hj1 : 1 ≤ j := by omega
          have hjz : j ≤ z - pos := by omega
          have Hst := Lib.hid (vols_step HZ.out hlt HC.out (by rw [HRm.out, HV.out, HBL.out]; omega) (pos2 := pos + j) (by rw [HRm.out, HV.out, HBL.out]; omega))
          have Hr : Hid (bl < room) := Lib.hid (by omega)
          have Hb4 := Lib.hid hbl4
          have HJ := Lib.hid hj
          have HF := Lib.hid hf
          have HLP := Lib.hid hlp
          have HPlo : Hid (gp < W4.heap.size) := Lib.hid HPS.out.p.lt
          have HBgl : Hid (b < gl) := Lib.hid (by have := HBlt.out; omega)
          have Hz10 : Hid (pos + (z - pos) ≤ 1000) := Lib.hid (by omega)
          have HEn : Hid ((Q, E) = ((vs ++ [volV t s pos vs.length room]) ++ (volsG t s z (pos + j) (vs ++ [volV t s pos vs.length room]).length).1, (volsG t s z (pos + j) (vs ++ [volV t s pos vs.length room]).length).2)) := Lib.hid (by
            rw [HE.out, Hst.out, HRm.out, List.length_append, List.length_singleton, List.append_assoc]
            rfl)
          have Hvl : Hid ((vs ++ [volV t s pos vs.length room]).length ≤ s.caps.length) := Lib.hid (by rw [List.length_append, List.length_singleton]; omega)
          have Hvs : Hid (vs.length + 1 ≤ 1000000000) := Lib.hid (by omega)
          have Hjz : Hid (pos + j ≤ z) := Lib.hid (by omega)
          have Hlt : Hid (z - (pos + j) < z - pos) := Lib.hid (by omega)
          clear hj hf hv hfit hbl4 HE Hst hrm1 hrm2 hcok hjz hj1
          go_wp2_with (first
            | (go_at_call 16; (with_reducible refine (vbegin_n t m Hm.out hl Hn.out s Hs.out pos vs.length HBeg.out V HV.out bl HBL.out T A ct k _ (Ht.out.keep HSt.out) (RdA.keep Ha.out HSt.out) (HT.out.keep (Stp.trans H.out HSt.out))).mono ?_); rintro e w5 ⟨B5, d5, rfl, hR, hs⟩; have HR := Lib.hid hR; have H5 := Lib.hid hs; have HPS5 := Lib.hid (HPS.out.keep hs); clear hR hs p0 p1 x0 x1 x2 x3 q0 q1 q2; obtain ⟨p0, p1, x0, x1, x2, x3⟩ := HPS5.out.cells)
            | (go_at_call 34; (refine (volume_yes s A k vs.length K2.out HC.out HRm.out HR.out HBL.out Hb4.out Hr.out H5.out.size HPS5.out.l HPS5.out.p HLP.out HPlo.out HBgl.out (HPS5.out.left.keep HPS5.out.stp) HPS5.out.len Hz10.out j HJ.out f HF.out (RdA.keep Ha.out HPS5.out.stp)).mono ?_); rintro e w6 ⟨A6, c6, o6, rfl, hR6, hfar, hl6, hp6, hRR⟩; have hf2 := Far.low H5.out hfar (Nat.le_refl _); have hL6 := hRR w1 _ HPS.out.len HPS.out.left; rw [List.drop_drop] at hL6; have hps := HPS.out.far hf2 hl6 hp6 hL6 (by rw [List.length_drop, HZ.out, Nat.sub_sub]); rw [Nat.sub_sub] at hps; have HPS6 := Lib.hid hps; rw [← Hv.out] at hR6; have HTl := Lib.hid ((Base.Rows.rdT hR6).keep (Stp.alloc (Stp.refl w6) (.cells #[.slice A6 (bl + j + f) c6] 33))); have HOl := Lib.hid (hps.rows.keep (Stp.alloc (Stp.refl w6) (.cells #[.slice A6 (bl + j + f) c6] 33))); have Hrd := Lib.hid (rd_lit w6 33 (.slice A6 (bl + j + f) c6)); have HLo := Lib.hid (hps.keep (Stp.alloc (Stp.refl w6) (.cells #[.slice A6 (bl + j + f) c6] 33))).lo_le; clear hR6 hfar hl6 hp6 hRR hf2 hL6 hps p0 p1 x0 x1 x2 x3; obtain ⟨p0, p1, x0, x1, x2, x3⟩ := HPS6.out.cells)
            | (at_builtin; refine Base.wpList_append_rows3 (P := Tryz.prog) rfl (.tmp 61) (.tmp 63) 29 rfl Tryz.underlying29 volsK_info (by decide) rfl HOl.out rfl HTl.out Hrd.out Hvs.out HLo.out ?_; intro v8 w8 hR8 hg8; obtain ⟨A8, c8, he8, -⟩ := hR8.rdV; rw [List.length_append, List.length_singleton] at he8; subst he8; have HPS8 := Lib.hid (HPS6.out.put hg8 hR8); have fz := (HPS6.out.x.alloc (.cells #[.slice A6 (bl + j + f) c6] 33)).grown hg8 (fun e => by obtain ⟨us, ho, -⟩ := HPS6.out.rows; have := (ho.lt _ e.symm).1; omega); have f3 := fz.free 3; clear hR8 hg8 p0 p1 x0 x1 x2 x3; have x3 : w8.cell? ⟨gp + 1, 3, none⟩ = some (.slice Av vs.length cv) := by rw [fz.cell]; rfl))
          go_roundw
          case rel => exact ⟨pos + j, o6, c1 - j, _, vs ++ [volV t s pos vs.length room], Hjz.out, Hvl.out, HPS8, HEn⟩
          case measure => rw [left_is HPS8.out.l, left_is HPS.out.l]; exact Hlt.out
    · obtain rfl : pos = z := by omega
      have g3 : decide ((0 : Int) < ((pos - pos : Nat) : Int)) = false := decide_eq_false (by omega)
      have hE := HE.out
      rw [vols_over (by rw [HZ.out]; omega), List.append_nil] at hE
      have HE2 := Lib.hid hE
      clear hE HE
      go_wp2
      go_ret2
      obtain ⟨A11, c11, he, hV⟩ := HPS.out.rows.rdV
      cases he
      have hE := HE2.out
      simp only [Prod.mk.injEq] at hE
      rw [hE.1, hE.2]
      exact ⟨_, _, rfl, hV, Stp.trans H.out HSt.out⟩
theorem vsplit_s (t : List Nd) (m : Nat) (hm : t.length = m) (hl : m ≤ 1000) (hn : ∀ n ∈ t, SmallN n) (s : Sett) (A : Option Addr) (k : Nat) (v : Value) (hv : v = sv s A k) (hs : SmallS s) (Q : List LL) (E : Int) (hQ : splitV t s = (Q, E)) (z : Nat) (hz : Q.length = z) (T : Option Addr) (ct : Nat) (w : World) (ht : RdN w T ct t) (ha : RdZ w A k s.caps) (htab : Label.Tab w) :
    Calls Tryz.prog 14 #[.slice T m ct, v] w fun e w' => ∃ B d, e = .returned (.tuple #[.slice B z d, .int .i64 E]) ∧ RdV w' B d Q ∧ Stp w w' := by
  subst hv hz
  by_cases h : (mayT t && mayS s) = true
  · rw [Bool.and_eq_true] at h
    exact vsplit_yes t m hm hl hn s hs h.1 h.2 Q E hQ T A ct k w ht ha htab
  · have h2 : (mayT t && mayS s) = false := by simpa using h
    rw [split_no h2] at hQ
    cases hQ
    refine (vsplit_no t m hm hl hn s hs h2 T A ct k w ht ha).mono ?_
    rintro e w1 ⟨rfl, hs⟩
    exact ⟨none, 0, rfl, RdV.nil _, hs⟩
set_option maxRecDepth 100000 in
set_option maxHeartbeats 2000000 in
theorem vneeds_s (t : List Nd) (m : Nat) (hm : t.length = m) (hl : m ≤ 1000) (hn : ∀ n ∈ t, SmallN n) (s : Sett) (A : Option Addr) (k : Nat) (v : Value) (hv : v = sv s A k) (hs : SmallS s) (N : Int) (hN : needsV t s = N) (T : Option Addr) (ct : Nat) (w : World) (ht : RdN w T ct t) (ha : RdZ w A k s.caps) (htab : Label.Tab w) :
    Calls Tryz.prog 22 #[.slice T m ct, v] w fun e w' => e = .returned (.int .i64 N) ∧ Stp w w' := by
  subst hv
  have h0 := Stp.alloc (Stp.refl w) (.cells (scells s A k) 25)
  have Hb := Lib.hid (Blk.new w 25 (scells s A k))
  have Ha : Hid (RdZ (w.alloc (.cells (scells s A k) 25)) A k s.caps) := Lib.hid (RdA.keep ha h0)
  have Ht := Lib.hid (ht.keep h0)
  have H := Lib.hid h0
  have Hs := Lib.hid hs
  have Hm := Lib.hid hm
  have Hn := Lib.hid hn
  have HT := Lib.hid (Label.Tab.keep htab h0)
  obtain ⟨q0, q1, q2⟩ := set_cells3 Hb.out
  obtain ⟨⟨Q, E⟩, hQ⟩ : ∃ p, splitV t s = p := ⟨_, rfl⟩
  obtain ⟨z, hz⟩ : ∃ z, Q.length = z := ⟨_, rfl⟩
  have HQ := Lib.hid hQ
  have HZ := Lib.hid hz
  obtain ⟨x, k0⟩ : ∃ b, (E != 0) = b := ⟨_, rfl⟩
  have hN2 : N = if x = true then -1 else (z : Int) := by
    rw [← hN, needsV, hQ, ← hz, ← k0]
    by_cases h : E = 0
    · simp [h]
    · simp [h]
  clear h0 ha ht hs hn hm htab hQ hz hN
  cases x
  all_goals
    go_enter Tryz.func22, Tryz.ntmps22
    go_wp2_with (go_at_call 14; (with_reducible refine (vsplit_s t m Hm.out hl Hn.out s A k _ rfl Hs.out Q E HQ.out z HZ.out T ct _ Ht.out Ha.out HT.out).mono ?_); rintro e w2 ⟨B2, d2, rfl, -, hs⟩; replace H := Lib.hid (Stp.trans H.out hs); clear hs q0 q1 q2)
    go_ret
    exact ⟨by rw [hN2]; rfl, H.out⟩
/-- The contracts of the five calls, of the code as it landed. -/
theorem volI : VolI Label.Tab where
  keep := Label.Tab.keep
  may := fun s A k v hv hs b hb w ha _ => may_s s A k v hv hs b hb w ha
  begin := fun t m hm hl hn s A k v hv hs pos n _ _ _ _ V hV z hz b hb T ct w ht ha htab => begin_s t m hm hl hn s A k v hv hs pos n V hV z hz b hb T ct w ht ha htab
  split := vsplit_s
  needs := vneeds_s
  same := vsame_s
end Go.Proofs.YtopihahjjcpnpaaGreatDoor.Vol
