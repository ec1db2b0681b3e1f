/-
  What the code's package check keeps: no statement is proved here.
-/
import Derived.Test.YtllnnlmhbmladaaGreatDoorCheckW
import Derived.Test.YtllnnlmhbmladaaGreatDoorStripO
import Derived.Test.YtllnnlmhbmladaaGreatDoorVolA
namespace Go.Proofs.YtllnnlmhbmladaaGreatDoor.Check
open Go.Sort Go.RowKit Go.Shelf Go.Proofs.YtllnnlmhbmladaaGreatDoor.Str Go.Proofs.YtllnnlmhbmladaaGreatDoor.Base Go.Proofs.YtllnnlmhbmladaaGreatDoor.Node Go.Proofs.YtllnnlmhbmladaaGreatDoor.Head Go.Proofs.YtllnnlmhbmladaaGreatDoor.LabelM Go.Proofs.YtllnnlmhbmladaaGreatDoor.ContM Go.Proofs.YtllnnlmhbmladaaGreatDoor.VolM Go.Proofs.YtllnnlmhbmladaaGreatDoor.Vol Go.Proofs.YtllnnlmhbmladaaGreatDoor.StripM Go.Proofs.YtllnnlmhbmladaaGreatDoor.CheckM Go.Proofs.YtllnnlmhbmladaaGreatDoor.RangeO Go.Proofs.YtllnnlmhbmladaaGreatDoor.RangeG
open Go.Proofs.YtllnnlmhbmladaaGreatDoor.TapeM (Tp)
open Go.Proofs.YtllnnlmhbmladaaGreatDoor.RecM (blocksV mayR blocksB)
open Go.Proofs.YtllnnlmhbmladaaGreatDoor.Tape (FewT SmallT tc tcs tcells)
open Go.Proofs.YtllnnlmhbmladaaGreatDoor.Drive (RdS RowS)
open Go.Proofs.YtllnnlmhbmladaaGreatDoor.Parse (St zeroS)
set_option linter.unusedVariables false

set_option maxRecDepth 100000 in
set_option maxHeartbeats 1000000 in
theorem cfits_s (s : St) (v : Value) (hv : v = Parse.sv s) (hs : Parse.SmallS s) (name : List UInt8) (y : Nat) (hy : name.length = y) (hy9 : y ≤ 9223372036854775807) (i : Int) (hi0 : -9223372036854775808 ≤ i) (hi1 : i < 9223372036854775808)
    (c : Int) (ls : LL) (m : Bool) (n : Nat) (hf : FewC ⟨c, ls, m⟩) (hn : ls.length = n) (k0 e0 : Int) (hw : fitsT s name i ⟨c, ls, m⟩ = (k0, e0)) (A : Option Addr) (k : Nat) (w : World) (ha : RdL w A k ls) (htab : Label.Tab w) :
    Calls Tryz.prog 11 #[v, .string ⟨name.toArray⟩, .int .i64 i, tc c A n k m] w fun e w' => e = .returned (.tuple #[.int .i64 k0, .int .i64 e0]) ∧ Stp w w' := by
  subst hv
  have hst := Stp.alloc (Stp.alloc (Stp.refl w) (.cells (Parse.scells s) 25)) (.cells (tcs c A n k m) 38)
  have hb := Blk.new (w.alloc (.cells (Parse.scells s) 25)) 38 (tcs c A n k m)
  have hp := (Blk.new w 25 (Parse.scells s)).alloc (.cells (tcs c A n k m) 38)
  rw [World.size_alloc] at hb
  obtain ⟨V, E, hV⟩ : ∃ V E, blocksT ⟨c, ls, m⟩ = (V, E) := ⟨_, _, rfl⟩
  obtain ⟨z, hz⟩ : ∃ z, V.length = z := ⟨_, rfl⟩
  obtain ⟨hV1, hV5⟩ := blocks_le hf hV
  rw [hz] at hV1
  have HF := Lib.hid hf
  have Hn := Lib.hid hn
  have Hs := Lib.hid hs
  have H0 := Lib.hid hst
  have Ha := Lib.hid (ha.keep hst)
  have HT := Lib.hid (Label.Tab.keep htab hst)
  have Hz := Lib.hid hz
  have HV := Lib.hid hV
  have HV1 := Lib.hid hV1
  have HV5 := Lib.hid hV5
  have Hb := Lib.hid hb
  have Hp := Lib.hid hp
  obtain ⟨⟨t0, t1, t2⟩, -, -, -⟩ := Tape.tt_all hb
  obtain ⟨q0, q1, q2, q3, q4, q5, q6, q7, q8, q9, q10, q11, q12, q13⟩ := Parse.st_cells hp
  have key : (E = 1 ∧ k0 = 0 ∧ e0 = 1) ∨ (E = 0 ∧ oneV s name i V = (k0, e0)) := by
    rw [blocksT] at hV
    rw [fitsT] at hw
    split at hV
    · rename_i hm
      rw [if_pos hm] at hw
      cases hV
      exact .inr ⟨rfl, hw⟩
    · rename_i hm
      rw [if_neg hm] at hw
      cases hV
      cases hw
      exact .inl ⟨rfl, rfl, rfl⟩
  clear hst hn ha hz hb hV htab hf hw hs hy hy9 hV1 hV5 hp
  rcases key with ⟨rfl, rfl, rfl⟩ | ⟨rfl, ho⟩
  · go_enter Tryz.func11, Tryz.ntmps11
    go_wp2_with (go_at_call 14; refine (cblocks_s c ls m n HF.out Hn.out V 1 HV.out z Hz.out A k _ Ha.out).mono ?_; rintro e w1 ⟨B, d, rfl, -, hs⟩; replace H0 := Lib.hid (Stp.trans H0.out hs); clear hs)
    go_ret2
    exact ⟨rfl, H0.out⟩
  · have Ho := Lib.hid ho
    clear ho
    go_enter Tryz.func11, Tryz.ntmps11
    go_wp2_with (first
      | (go_at_call 14; refine (cblocks_s c ls m n HF.out Hn.out V 0 HV.out z Hz.out A k _ Ha.out).mono ?_; rintro e w1 ⟨B, d, rfl, hr, hs⟩; replace H0 := Lib.hid (Stp.trans H0.out hs); replace HT := Lib.hid (HT.out.keep hs); have HR := Lib.hid hr; replace Hp := Lib.hid (Hp.out.keep hs Hp.out.lt); clear hs hr q0 q1 q2 q3 q4 q5 q6 q7 q8 q9 q10 q11 q12 q13; obtain ⟨q0, q1, q2, q3, q4, q5, q6, q7, q8, q9, q10, q11, q12, q13⟩ := Parse.st_cells Hp.out)
      | (go_at_call 21; refine (Strip.one_s s _ rfl Hs.out name i V z Hz.out HV1.out HV5.out k0 e0 Ho.out B d _ HR.out HT.out).mono ?_; rintro e w2 ⟨rfl, hs⟩; replace H0 := Lib.hid (Stp.trans H0.out hs); clear hs))
    go_ret2
    exact ⟨rfl, H0.out⟩

set_option maxRecDepth 100000 in
set_option maxHeartbeats 1000000 in
theorem fits_s (s : St) (hs : Parse.SmallS s) (t : Tp) (hf : FewC t) (y : Nat) (hy : t.rows.length = y) (name : List UInt8) (z : Nat) (hz : name.length = z) (hz9 : z ≤ 9223372036854775807) (i : Int) (hi0 : -9223372036854775808 ≤ i) (hi1 : i < 9223372036854775808) (bs bn bi : Nat) (A : Option Addr) (k : Nat) (w : World) (ha : RdL w A k t.rows) (htab : Label.Tab w)
    (hsb : Blk w bs 25 (Parse.scells s)) (hn : w.cell? ⟨bn, 0, none⟩ = some (.string ⟨name.toArray⟩)) (hi : w.cell? ⟨bi, 0, none⟩ = some (.int .i64 i)) :
    Calls Tryz.prog 17 (#[tc t.cap A y k t.mark] ++ #[.pointer (some ⟨bs, 0, none⟩), .pointer (some ⟨bn, 0, none⟩), .pointer (some ⟨bi, 0, none⟩)]) w fun e w' => e = .returned (.bool (decide ((fitsT s name i t).2 = 0))) ∧ Stp w w' := by
  obtain ⟨k0, e0, hg⟩ : ∃ k0 e0, fitsT s name i t = (k0, e0) := ⟨_, _, rfl⟩
  obtain ⟨b, hb0⟩ : ∃ b, (e0 == 0) = b := ⟨_, rfl⟩
  have hst := Stp.alloc (Stp.refl w) (.cells (tcs t.cap A y k t.mark) 38)
  have hb := Blk.new w 38 (tcs t.cap A y k t.mark)
  have HE : Hid (decide ((fitsT s name i t).2 = 0) = b) := Lib.hid (by rw [hg, ← hb0]; rfl)
  have HG := Lib.hid hg
  have HF := Lib.hid hf
  have Hs := Lib.hid hs
  have Hy := Lib.hid hy
  have Hz := Lib.hid hz
  have Hz9 := Lib.hid hz9
  have Hi0 := Lib.hid hi0
  have Hi1 := Lib.hid hi1
  have H0 := Lib.hid hst
  have Ha := Lib.hid (ha.keep hst)
  have HT := Lib.hid (Label.Tab.keep htab hst)
  have m0 := (stp_cell hst hn).trans hn
  have m1 := (stp_cell hst hi).trans hi
  have hp := hsb.alloc (.cells (tcs t.cap A y k t.mark) 38)
  obtain ⟨⟨t0, t1, t2⟩, -, -, -⟩ := Tape.tt_all hb
  obtain ⟨q0, q1, q2, q3, q4, q5, q6, q7, q8, q9, q10, q11, q12, q13⟩ := Parse.st_cells hp
  clear hg hf hs hy hz hz9 hi0 hi1 ha htab hst hb hn hi hsb hp
  go_enter Tryz.func17, Tryz.ntmps17
  go_wp2_with (go_at_call 11; refine (cfits_s s _ rfl Hs.out name z Hz.out Hz9.out i Hi0.out Hi1.out t.cap t.rows t.mark y HF.out Hy.out k0 e0 HG.out A k _ Ha.out HT.out).mono ?_; rintro e w1 ⟨rfl, hs⟩; replace H0 := Lib.hid (Stp.trans H0.out hs); clear hs)
  go_ret
  exact ⟨by rw [HE.out, ← hb0]; rfl, H0.out⟩

/-! ### Next -/
set_option maxRecDepth 100000 in
set_option maxHeartbeats 1000000 in
theorem cnext_s (s : St) (v : Value) (hv : v = Parse.sv s) (hs : Parse.SmallS s) (name : List UInt8) (y : Nat) (hy : name.length = y) (hy9 : y ≤ 9223372036854775807) (i : Int) (hi0 : -9223372036854775808 ≤ i) (hi1 : i < 9223372036854775808)
    (ts : List Tp) (m : Nat) (hm : ts.length = m) (hm9 : m ≤ 1000) (hf : ∀ t ∈ ts, FewC t) (x : Int) (hx : nextT s name i ts = x) (A : Option Addr) (c : Nat) (w : World) (ha : RdS w A c ts) (htab : Label.Tab w) :
    Calls Tryz.prog 9 #[v, .string ⟨name.toArray⟩, .int .i64 i, .slice A m c] w fun e w' => e = .returned (.int .i64 x) ∧ Stp w w' := by
  subst hv
  obtain ⟨W0, hW0⟩ : ∃ W, w.alloc (.cells (Parse.scells s) 25) = W := ⟨_, rfl⟩
  obtain ⟨W1, hW1⟩ : ∃ W, W0.alloc (.cells #[.string ⟨name.toArray⟩] 9) = W := ⟨_, rfl⟩
  obtain ⟨W2, hW2⟩ : ∃ W, W1.alloc (.cells #[.int .i64 i] 3) = W := ⟨_, rfl⟩
  have s0 : W0.heap.size = w.heap.size + 1 := by rw [← hW0, World.size_alloc]
  have s1 : W1.heap.size = w.heap.size + 2 := by rw [← hW1, World.size_alloc, s0]
  have s2 : W2.heap.size = w.heap.size + 3 := by rw [← hW2, World.size_alloc, s1]
  have b0 : Blk W2 w.heap.size 25 (Parse.scells s) := by
    rw [← hW2, ← hW1, ← hW0]
    exact ((Blk.new w _ _).alloc _).alloc _
  have b1 : W2.cell? ⟨w.heap.size + 1, 0, none⟩ = some (.string ⟨name.toArray⟩) := by
    have h := (Boxed.new W0 9 (.string ⟨name.toArray⟩)).alloc (.cells #[.int .i64 i] 3)
    rw [hW1] at h
    rw [← hW2, ← s0]
    exact h.cell
  have b2 : W2.cell? ⟨w.heap.size + 2, 0, none⟩ = some (.int .i64 i) := by
    have h := Boxed.new W1 3 (.int .i64 i)
    rw [← hW2, ← s1]
    exact h.cell
  have h02 : Stp w W2 := by
    rw [← hW2, ← hW1, ← hW0]
    exact Stp.alloc (Stp.alloc (Stp.alloc (Stp.refl w) _) _) _
  have ha2 := ha.keep h02
  have ht2 := Label.Tab.keep htab h02
  have hdo : ∀ t ∈ ts, ∀ (z : Nat), t.rows.length = z → ∀ (Aj : Option Addr) (kj : Nat) (wr : World), Stp W2 wr → RdL wr Aj kj t.rows → Calls Tryz.prog 17 (#[tc t.cap Aj z kj t.mark] ++ #[.pointer (some ⟨w.heap.size, 0, none⟩), .pointer (some ⟨w.heap.size + 1, 0, none⟩), .pointer (some ⟨w.heap.size + 2, 0, none⟩)]) wr fun e w' => e = .returned (.bool (decide ((fitsT s name i t).2 = 0))) ∧ Stp wr w' :=
    fun t ht z hz Aj kj wr hwr hr => fits_s s hs t (hf t ht) z hz name y hy hy9 i hi0 hi1 _ _ _ Aj kj wr hr (Label.Tab.keep ht2 hwr) (b0.keep hwr b0.lt) ((stp_cell hwr b1).trans b1) ((stp_cell hwr b2).trans b2)
  have hx2 : (placesV (fun t => decide ((fitsT s name i t).2 = 0)) ts 0).head?.getD (-1) = x := by rw [places_next, ← hx]; rfl
  have HD := Lib.hid hdo
  have Ha := Lib.hid ha2
  have Hm := Lib.hid hm
  have Hx := Lib.hid hx2
  have H02 := Lib.hid h02
  have SZ := Lib.hid s2
  have HW : Hid (((w.alloc (.cells (Parse.scells s) 25)).alloc (.cells #[.string ⟨name.toArray⟩] 9)).alloc (.cells #[.int .i64 i] 3) = W2) := Lib.hid (by rw [hW0, hW1, hW2])
  have hmf : ∀ (fn : Fn) (first cap : Array Value) (w : World), (Instr.makeFunc fn first cap).run Tryz.prog w = .ok (.func fn first cap) w := fun _ _ _ _ => rfl
  have hent : ∀ (args : Array Value) (w : World), (callFunc 17 args).run Tryz.prog w = .ok (.enter 17 args) w := enters_of Tryz.func17 (by kernel_rfl) rfl
  have hent2 : ∀ (args : Array Value) (w : World), (callFunc 30 args).run Tryz.prog w = .ok (.enter 30 args) w := enters_of Tryz.func30 (by kernel_rfl) rfl
  have hfirst : ∀ cap : Array Value, cap = #[.pointer (some ⟨w.heap.size, 0, none⟩), .pointer (some ⟨w.heap.size + 1, 0, none⟩), .pointer (some ⟨w.heap.size + 2, 0, none⟩)] → ∀ W4 : World, W4 = (W2.alloc (.cells #[.slice A m c] 26)).alloc (.cells #[.func (.func 17) #[] cap] 54) →
      Calls Tryz.prog 18 #[.func (.func 30) #[] #[.pointer (some ⟨W2.heap.size, 0, none⟩), .pointer (some ⟨W2.heap.size + 1, 0, none⟩)], .int .i64 (-1)] W4 fun e w' => e = .returned (.int .i64 x) ∧ Stp W4 w' := by
    rintro cap rfl W4 rfl
    have bT := Boxed.new W2 26 (.slice A m c)
    have bI := Boxed.new (W2.alloc (.cells #[.slice A m c] 26)) 54 (.func (.func 17) #[] #[.pointer (some ⟨w.heap.size, 0, none⟩), .pointer (some ⟨w.heap.size + 1, 0, none⟩), .pointer (some ⟨w.heap.size + 2, 0, none⟩)])
    have bT' := bT.alloc (.cells #[.func (.func 17) #[] #[.pointer (some ⟨w.heap.size, 0, none⟩), .pointer (some ⟨w.heap.size + 1, 0, none⟩), .pointer (some ⟨w.heap.size + 2, 0, none⟩)]] 54)
    simp only [World.size_alloc] at bI
    refine first_s _ _ hent2 (fun k => k < W2.heap.size ∨ k = W2.heap.size + 1) (placesV (fun t => decide ((fitsT s name i t).2 = 0)) ts 0) m _ (fun w0 hw0 => ?_) ?_ (-1) x hx2
    · exact places_seq _ ts m hm hm9 A c W2.heap.size (W2.heap.size + 1) 17 #[.pointer (some ⟨w.heap.size, 0, none⟩), .pointer (some ⟨w.heap.size + 1, 0, none⟩), .pointer (some ⟨w.heap.size + 2, 0, none⟩)] hent W2 w0 ha2 (Stp.trans (Stp.alloc (Stp.alloc (Stp.refl W2) _) _) hw0) ((stp_cell hw0 bT'.cell).trans bT'.cell) ((stp_cell hw0 bI.cell).trans bI.cell) hdo
    · rintro k (h | rfl)
      · rw [World.size_alloc, World.size_alloc]; omega
      · rw [World.size_alloc, World.size_alloc]; omega
  have HF := Lib.hid hfirst
  have H02 := Lib.hid h02
  have SZ := Lib.hid s2
  have hmf : ∀ (fn : Fn) (first cap : Array Value) (w : World), (Instr.makeFunc fn first cap).run Tryz.prog w = .ok (.func fn first cap) w := fun _ _ _ _ => rfl
  have HW : Hid (((w.alloc (.cells (Parse.scells s) 25)).alloc (.cells #[.string ⟨name.toArray⟩] 9)).alloc (.cells #[.int .i64 i] 3) = W2) := Lib.hid (by rw [hW0, hW1, hW2])
  clear hs hy hi0 hi1 hf hx ha htab hW0 hW1 hW2 s0 s1 s2 b0 b1 b2 ha2 ht2 hdo hx2 hm h02 hent hent2 hfirst
  go_enter Tryz.func9, Tryz.ntmps9
  go_upto_region 1 with fail
  change Code.wp _ _ _ _ (((w.alloc (.cells (Parse.scells s) 25)).alloc (.cells #[.string ⟨name.toArray⟩] 9)).alloc (.cells #[.int .i64 i] 3))
  rw [HW.out]
  go_wp2_with (first
    | (go_at_call 19; refine (places_any A m c _ _ _).mono ?_; rintro e w2 ⟨rfl, rfl⟩)
    | (go_at_call 18; refine (HF.out _ rfl _ rfl).mono ?_; rintro e w3 ⟨rfl, hs⟩))
  go_ret
  exact ⟨rfl, Stp.trans H02.out (Stp.trans (Stp.alloc (Stp.alloc (Stp.refl W2) _) _) hs)⟩

/-- The contracts of the five calls, and of volume's Split. -/
theorem checkI : CheckI Label.Tab where
  keep := fun h hs => Label.Tab.keep h hs
  split := fun t m hm hl hn s A k v hv hs Q E hQ z hz T ct w ht ha htab => Vol.vsplit_s t m hm hl hn s A k v hv hs Q E hQ z hz T ct w ht ha htab
  blocks := fun c ls m n hf hn V E hV z hz A k w ha => cblocks_s c ls m n hf hn V E hV z hz A k w ha
  who := fun c ls m n hf hn x i e0 hw A k w ha htab => cwho_s c ls m n hf hn x i e0 hw A k w ha htab
  fits := fun s v hv hs name y hy hy9 i hi0 hi1 c ls m n hf hn k0 e0 hw A k w ha htab => cfits_s s v hv hs name y hy hy9 i hi0 hi1 c ls m n hf hn k0 e0 hw A k w ha htab
  find := fun ts m hm hm9 hf name y hy hy9 i hi0 hi1 X hX z hz A c w ha htab => cfind_s ts m hm hm9 hf name i X hX z hz A c w ha htab
  next := fun s v hv hs name y hy hy9 i hi0 hi1 ts m hm hm9 hf x hx A c w ha htab => cnext_s s v hv hs name y hy hy9 i hi0 hi1 ts m hm hm9 hf x hx A c w ha htab
end Go.Proofs.YtllnnlmhbmladaaGreatDoor.Check
