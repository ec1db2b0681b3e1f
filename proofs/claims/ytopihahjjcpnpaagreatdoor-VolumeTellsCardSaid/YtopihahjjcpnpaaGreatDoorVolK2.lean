/-
  Package volume's own contracts: what a volume begins with: no statement is proved here.
-/
import Derived.Test.YtopihahjjcpnpaaGreatDoorVolK
namespace Go.Proofs.YtopihahjjcpnpaaGreatDoor.Vol
open Go.Sort Go.RowKit Go.Proofs.YtopihahjjcpnpaaGreatDoor.Str Go.Proofs.YtopihahjjcpnpaaGreatDoor.Base Go.Proofs.YtopihahjjcpnpaaGreatDoor.Node Go.Proofs.YtopihahjjcpnpaaGreatDoor.Head Go.Proofs.YtopihahjjcpnpaaGreatDoor.Long Go.Proofs.YtopihahjjcpnpaaGreatDoor.Entry Go.Proofs.YtopihahjjcpnpaaGreatDoor.LabelM Go.Proofs.YtopihahjjcpnpaaGreatDoor.ContM Go.Proofs.YtopihahjjcpnpaaGreatDoor.Stream Go.Proofs.YtopihahjjcpnpaaGreatDoor.VolM
open Go.Proofs.YtopihahjjcpnpaaGreatDoor.Tree (oneB mayT fewT)
set_option linter.unusedVariables false

theorem where_v (t : List Nd) (m : Nat) (hm : t.length = m) (hl : m ≤ 1000) (hn : ∀ n ∈ t, SmallN n) (i K J : Int) (hk : whereS t i = (K, J)) (T : Option Addr) (ct : Nat) (w : World) (ht : RdN w T ct t) :
    Calls Tryz.prog 29 #[.slice T m ct, .int .i64 i] w fun e w' => e = .returned (.tuple #[.int .i64 K, .int .i64 J]) ∧ Stp w w' := by
  have := Stream.whose_s t m hm hl hn i T ct w ht
  rwa [hk] at this
theorem where_sign {t : List Nd} {pos K J : Int} (h : whereS t pos = (K, J)) : 0 ≤ K ↔ mayT t = true ∧ 0 ≤ pos ∧ pos < ((allS t).length : Int) := by
  rw [whereS] at h
  split at h
  · rename_i hc
    have ht : mayT t = true := by
      cases e : mayT t
      · rw [allS_no e] at hc
        simp at hc
        omega
      · rfl
    obtain ⟨k, e, -⟩ := (where_may ht pos.toNat).1
    rw [h] at e
    dsimp only at e
    exact ⟨fun _ => ⟨ht, hc.1, hc.2⟩, fun _ => by omega⟩
  · rename_i hc
    rw [Prod.mk.injEq] at h
    exact ⟨fun a => by omega, fun a => absurd a.2 hc⟩
set_option maxRecDepth 100000 in
set_option maxHeartbeats 4000000 in
theorem begin_no (t : List Nd) (m : Nat) (hm : t.length = m) (hl : m ≤ 1000) (hn : ∀ n ∈ t, SmallN n) (s : Sett) (hs : SmallS s) (pos n : Int) (hb : beginB t s pos n = false) (T A : Option Addr) (ct k : Nat) (w : World) (ht : RdN w T ct t) (ha : RdZ w A k s.caps) (htab : Label.Tab w) :
    Calls Tryz.prog 16 #[.slice T m ct, sv s A k, .int .i64 pos, .int .i64 n] w fun e w' => e = .returned (.tuple #[.slice none 0 0, .bool false]) ∧ Stp w w' := by
  have h0 := Stp.alloc (Stp.refl w) (.cells (scells s A k) 25)
  have Hb := Lib.hid (Blk.new w 25 (scells s A k))
  have Ha : Hid (RdZ (w.alloc (.cells (scells s A k) 25)) A k s.caps) := Lib.hid (RdA.keep ha h0)
  have Ht := Lib.hid (ht.keep h0)
  have H := Lib.hid h0
  have Hs := Lib.hid hs
  have Hn := Lib.hid hn
  have Hm := Lib.hid hm
  have HT := Lib.hid htab
  have hlb := hs.label
  obtain ⟨q0, q1, q2⟩ := set_cells3 Hb.out
  obtain ⟨⟨K, J⟩, hk⟩ : ∃ p, whereS t pos = p := ⟨_, rfl⟩
  have hsg := where_sign hk
  obtain ⟨⟨X, b3⟩, k3⟩ : ∃ p, putL s.label n = p := ⟨_, rfl⟩
  obtain ⟨y, hy⟩ : ∃ y, X.length = y := ⟨_, rfl⟩
  obtain ⟨b1, k1⟩ : ∃ b, mayS s = b := ⟨_, rfl⟩
  obtain ⟨b2, k2⟩ : ∃ b, decide (K < 0) = b := ⟨_, rfl⟩
  have hall : b2 = false → b1 = true → b3 = true → False := by
    rintro rfl rfl rfl
    have h3 : mayLb s.label n = true := by
      rw [putL] at k3
      split at k3
      · assumption
      · cases k3
    obtain ⟨a1, a2, a3⟩ := hsg.1 (by have := of_decide_eq_false k2; omega)
    have : beginB t s pos n = true := beginB_iff.2 ⟨a1, k1, h3, a2, a3⟩
    rw [hb] at this
    cases this
  have HY := Lib.hid hy
  have HK := Lib.hid hk
  have K1 := Lib.hid k1
  have K3 := Lib.hid k3
  clear h0 ha ht hs hn k1 k3 hb hk hy hsg hm htab
  have hc : b2 = true ∨ (b2 = false ∧ b1 = false) ∨ (b2 = false ∧ b1 = true ∧ b3 = false) := by
    clear K1 K3 k2
    cases b2 <;> cases b1 <;> cases b3 <;> first | exact (hall rfl rfl rfl).elim | simp
  clear hall
  rcases hc with rfl | ⟨rfl, rfl⟩ | ⟨rfl, rfl, rfl⟩
  all_goals
    go_enter Tryz.func16, Tryz.ntmps16
    go_wp2_with (first
      | (go_at_call 29; (with_reducible refine (where_v t m Hm.out hl Hn.out pos _ _ HK.out T ct _ Ht.out).mono ?_); rintro e w4 ⟨rfl, hs⟩; replace Hb := Lib.hid (Hb.out.keep hs Hb.out.lt); replace Ha := Lib.hid (RdA.keep Ha.out hs); replace H := Lib.hid (Stp.trans H.out hs); clear hs q0 q1 q2; obtain ⟨q0, q1, q2⟩ := set_cells3 Hb.out)
      | (go_at_call 21; (with_reducible refine (may_s s A k _ rfl Hs.out _ K1.out _ Ha.out).mono ?_); rintro e w1 ⟨rfl, hs⟩; replace Hb := Lib.hid (Hb.out.keep hs Hb.out.lt); replace H := Lib.hid (Stp.trans H.out hs); clear hs q0 q1 q2; obtain ⟨q0, q1, q2⟩ := set_cells3 Hb.out)
      | (go_at_call 37; (with_reducible refine (Label.lput_s s.label _ rfl hlb n _ y _ K3.out HY.out _ (HT.out.keep H.out)).mono ?_); rintro e w3 ⟨A3, c3, rfl, hr, hs⟩; have Hr := Lib.hid hr; replace H := Lib.hid (Stp.trans H.out hs); clear hr hs q0 q1 q2))
    go_ret2
    exact ⟨rfl, H.out⟩
set_option maxRecDepth 100000 in
set_option maxHeartbeats 4000000 in
theorem begin_yes (t : List Nd) (m : Nat) (hm : t.length = m) (hl : m ≤ 1000) (hn : ∀ n ∈ t, SmallN n) (s : Sett) (hs : SmallS s) (pos n : Int) (hb : beginB t s pos n = true) (T A : Option Addr) (ct k : Nat) (w : World) (ht : RdN w T ct t) (ha : RdZ w A k s.caps) (htab : Label.Tab w) :
    Calls Tryz.prog 16 #[.slice T m ct, sv s A k, .int .i64 pos, .int .i64 n] w fun e w' => ∃ v, e = .returned (.tuple #[v, .bool true]) ∧ Base.Rows w' w.heap.size 43 v (beginL t s pos.toNat n) ∧ Stp w w' := by
  have h0 := Stp.alloc (Stp.refl w) (.cells (scells s A k) 25)
  have Hb := Lib.hid (Blk.new w 25 (scells s A k))
  have Ha : Hid (RdZ (w.alloc (.cells (scells s A k) 25)) A k s.caps) := Lib.hid (RdA.keep ha h0)
  have H := Lib.hid h0
  have Hs := Lib.hid hs
  have Hn := Lib.hid hn
  have HT := Lib.hid htab
  have hlb := hs.label
  obtain ⟨q0, q1, q2⟩ := set_cells3 Hb.out
  obtain ⟨h1, h2, h3, h4, h5⟩ := beginB_iff.1 hb
  obtain ⟨z, hz⟩ : ∃ z, (allS t).length = z := ⟨_, rfl⟩
  rw [hz] at h5
  obtain ⟨X, hX⟩ : ∃ x, lblK s.label n = x := ⟨_, rfl⟩
  have hXl : X.length = 512 := by rw [← hX, lblK]; exact blk_length (name_may h3).1 (name_may h3).2
  have K1 := Lib.hid h2
  have K3 : Hid (putL s.label n = (X, true)) := Lib.hid (by rw [putL, if_pos h3, ← hX]; rfl)
  have HY := Lib.hid hXl
  have hw : whereS t pos = whereL t 0 pos.toNat := by unfold whereS; rw [hz, if_pos ⟨h4, h5⟩]
  have hbl : beginL t s pos.toNat n = X :: goesOn t pos.toNat := by rw [beginL, hX]
  rw [hbl]
  by_cases hJ : 0 ≤ (whereL t 0 pos.toNat).2
  · obtain ⟨kk, nd, hk, e1, e2, e3, -⟩ := goes_get h1 hJ
    rw [e2]
    obtain ⟨J, hJJ⟩ : ∃ J, (whereL t 0 pos.toNat).2 = J := ⟨_, rfl⟩
    rw [hJJ, Int.mul_comm 512 J] at e3 ⊢
    rw [hJJ] at hJ
    have HW : Hid (whereS t pos = ((kk : Int), J)) := Lib.hid (by rw [hw, ← e1, ← hJJ])
    have hJ8 : J ≤ 8 := by
      obtain ⟨f0, -, f2, -⟩ := mayC_iff.1 e3
      have := (oneF (isFile_iff.1 f0).1).data
      omega
    have hklt := (List.getElem?_eq_some_iff.1 hk).1
    rw [hm] at hklt
    have g7 : decide ((kk : Int) < 0) = false := decide_eq_false (by omega)
    have g8 : decide (0 ≤ J) = true := decide_eq_true hJ
    have Hk := Lib.hid hk
    have Hnd := Lib.hid (hn nd (List.mem_of_getElem? hk))
    obtain ⟨M, hM⟩ : ∃ M, putC nd (J * 512) = M := ⟨_, rfl⟩
    obtain ⟨mz, hmz⟩ : ∃ m, M.length = m := ⟨_, rfl⟩
    have HM := Lib.hid hM
    have HZ5 := Lib.hid hmz
    have HZ3 : Hid (mz ≤ 3) := Lib.hid (by rw [← hmz, ← hM]; exact putC_le _ _)
    have Hmc := Lib.hid e3
    obtain ⟨g0, o0, rfl, -, -⟩ := ht.cells hk
    have Ht := Lib.hid (ht.keep h0)
    have Hm := Lib.hid hm
    rw [hM]
    clear h0 ha ht hs hn hb h1 h2 h3 h4 h5 hz hX hXl hw hbl e1 e2 e3 hJJ hk hM hmz hm htab
    go_enter Tryz.func16, Tryz.ntmps16
    go_wp2_with (first
      | (go_at_call 29; (with_reducible refine (where_v t m Hm.out hl Hn.out pos _ _ HW.out _ ct _ Ht.out).mono ?_); rintro e w4 ⟨rfl, hs⟩; replace Hb := Lib.hid (Hb.out.keep hs Hb.out.lt); replace Ha := Lib.hid (RdA.keep Ha.out hs); replace Ht := Lib.hid (Ht.out.keep hs); replace H := Lib.hid (Stp.trans H.out hs); clear hs q0 q1 q2; obtain ⟨q0, q1, q2⟩ := set_cells3 Hb.out)
      | (go_at_call 21; (with_reducible refine (may_s s A k _ rfl Hs.out _ K1.out _ Ha.out).mono ?_); rintro e w1 ⟨rfl, hs⟩; replace Hb := Lib.hid (Hb.out.keep hs Hb.out.lt); replace Ht := Lib.hid (Ht.out.keep hs); replace H := Lib.hid (Stp.trans H.out hs); clear hs q0 q1 q2; obtain ⟨q0, q1, q2⟩ := set_cells3 Hb.out)
      | (go_at_call 37; (with_reducible refine (Label.lput_s s.label _ rfl hlb n _ 512 _ K3.out HY.out _ (HT.out.keep H.out)).mono ?_); rintro e w3 ⟨A3, c3, rfl, hr, hs⟩; have HR := Lib.hid (Rows.one (e := 43) hr HY.out); have HS := Lib.hid (Stp.trans H.out hs).size; have H3 := Lib.hid (Stp.alloc (Stp.refl w3) (.cells #[.slice A3 512 c3] 43)); replace hs := Stp.alloc hs (.cells #[.slice A3 512 c3] 43); replace Ht := Lib.hid (Ht.out.keep hs); replace H := Lib.hid (Stp.trans H.out hs); clear hr hs q0 q1 q2; obtain ⟨_, _, hgo, -, r0, r1, r2, r3, r4, r5, r6, r7⟩ := Ht.out.cells Hk.out; cases hgo)
      | (go_at_call 38; (with_reducible refine (Cont.cput_s nd _ rfl Hnd.out (J * 512) M HM.out mz HZ5.out true Hmc.out _).mono ?_); rintro e w5 ⟨A5, c5, rfl, hr, hs⟩; have Hr := Lib.hid hr; replace HR := Lib.hid (HR.out.keep hs); replace H3 := Lib.hid (Stp.trans H3.out hs); replace H := Lib.hid (Stp.trans H.out hs); clear hr hs r0 r1 r2 r3 r4 r5 r6 r7)
      | (at_builtin; refine Base.wpList_append_rows (P := Tryz.prog) rfl (.tmp 53) (.tmp 54) 33 rfl 43 Tryz.underlying33 blocks_info _ rfl HR.out rfl Hr.out HZ5.out (by have := HZ5.out; have := HZ3.out; simp only [List.length_cons, List.length_nil]; omega) H3.out.size ?_; intro v6 w6 hR hg; replace H := Lib.hid (HR.out.stp H.out HS.out hg); have HR9 := Lib.hid (Base.Rows.less hR HS.out); clear hR hg))
    go_ret2
    exact ⟨_, rfl, HR9.out, H.out⟩
  · rw [goes_none (by omega)]
    obtain ⟨⟨K, J⟩, hKJ⟩ : ∃ p, whereL t 0 pos.toNat = p := ⟨_, rfl⟩
    rw [hKJ] at hJ hw
    have g7 : decide (K < 0) = false := decide_eq_false (by have := (where_sign hw).2 ⟨h1, h4, by rw [hz]; exact h5⟩; omega)
    have HW := Lib.hid hw
    have g6 : decide (0 ≤ J) = false := decide_eq_false hJ
    have Ht := Lib.hid (ht.keep h0)
    have Hm := Lib.hid hm
    clear h0 ha ht hs hn hb h1 h2 h3 h4 h5 hz hX hXl hw hbl hJ hKJ hm htab
    go_enter Tryz.func16, Tryz.ntmps16
    go_wp2_with (first
      | (go_at_call 29; (with_reducible refine (where_v t m Hm.out hl Hn.out pos _ _ HW.out _ ct _ Ht.out).mono ?_); rintro e w4 ⟨rfl, hs⟩; replace Hb := Lib.hid (Hb.out.keep hs Hb.out.lt); replace Ha := Lib.hid (RdA.keep Ha.out hs); replace Ht := Lib.hid (Ht.out.keep hs); replace H := Lib.hid (Stp.trans H.out hs); clear hs q0 q1 q2; obtain ⟨q0, q1, q2⟩ := set_cells3 Hb.out)
      | (go_at_call 21; (with_reducible refine (may_s s A k _ rfl Hs.out _ K1.out _ Ha.out).mono ?_); rintro e w1 ⟨rfl, hs⟩; replace Hb := Lib.hid (Hb.out.keep hs Hb.out.lt); replace Ht := Lib.hid (Ht.out.keep hs); replace H := Lib.hid (Stp.trans H.out hs); clear hs q0 q1 q2; obtain ⟨q0, q1, q2⟩ := set_cells3 Hb.out)
      | (go_at_call 37; (with_reducible refine (Label.lput_s s.label _ rfl hlb n _ 512 _ K3.out HY.out _ (HT.out.keep H.out)).mono ?_); rintro e w3 ⟨A3, c3, rfl, hr, hs⟩; have HR := Lib.hid (Rows.one (e := 43) hr HY.out); have HS := Lib.hid (Stp.trans H.out hs).size; replace hs := Stp.alloc hs (.cells #[.slice A3 512 c3] 43); replace H := Lib.hid (Stp.trans H.out hs); clear hr hs q0 q1 q2))
    go_ret2
    exact ⟨_, rfl, Base.Rows.less HR.out HS.out, H.out⟩
theorem begin_s (t : List Nd) (m : Nat) (hm : t.length = m) (hl : m ≤ 1000) (hn : ∀ n ∈ t, SmallN n) (s : Sett) (A : Option Addr) (k : Nat) (v : Value) (hv : v = sv s A k) (hs : SmallS s) (pos n : Int) (V : LL) (hV : beginV t s pos n = V) (z : Nat) (hz : V.length = z) (b : Bool) (hb : beginB t s pos n = b) (T : Option Addr) (ct : Nat) (w : World) (ht : RdN w T ct t) (ha : RdZ w A k s.caps) (htab : Label.Tab w) :
    Calls Tryz.prog 16 #[.slice T m ct, v, .int .i64 pos, .int .i64 n] w fun e w' => ∃ B d, e = .returned (.tuple #[.slice B z d, .bool b]) ∧ RdL w' B d V ∧ Stp w w' := by
  subst hv hz
  cases b
  · rw [beginV_no hb] at hV
    subst hV
    refine (begin_no t m hm hl hn s hs pos n hb T A ct k w ht ha htab).mono ?_
    rintro e w1 ⟨rfl, h⟩
    exact ⟨none, 0, rfl, RdL.nil _, h⟩
  · rw [beginV_yes hb] at hV
    subst hV
    refine (begin_yes t m hm hl hn s hs pos n hb T A ct k w ht ha htab).mono ?_
    rintro e w1 ⟨v, rfl, hR, h⟩
    obtain ⟨B, d, rfl, hL⟩ := hR.rdL
    exact ⟨B, d, rfl, hL, h⟩
end Go.Proofs.YtopihahjjcpnpaaGreatDoor.Vol
