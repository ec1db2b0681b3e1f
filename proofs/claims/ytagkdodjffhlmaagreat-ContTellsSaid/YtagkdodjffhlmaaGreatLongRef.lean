/-
  The document's own answers for package long: no statement is proved here.
-/
import Derived.Test.YtagkdodjffhlmaaGreatLongK
import Derived.Test.YtagkdodjffhlmaaGreatHeadRef6
import Derived.Test.YtagkdodjffhlmaaGreatBlockRef
import Derived.Test.YtagkdodjffhlmaaGreatPathRef
namespace Go.Proofs.YtagkdodjffhlmaaGreat.Long
open Go.RowKit Go.Proofs.YtagkdodjffhlmaaGreat.Str Go.Proofs.YtagkdodjffhlmaaGreat.Base Go.Proofs.YtagkdodjffhlmaaGreat.Node Go.Proofs.YtagkdodjffhlmaaGreat.Head

theorem put_le2 (k : UInt8) (s : L) : (putLs k s).length ≤ 2 := by rw [putLs_length]; split <;> omega
theorem rput_v (h : Hd) (v : Value) (e : v = hv h) (hs : SmallH h) (w : World) :
    Calls Tryz.prog 21 #[v] w fun e w' => ∃ A cap, e = .returned (.tuple #[.slice A (putB h).length cap, .bool (mayH h)]) ∧ RdA w' A cap (bs (putB h)) ∧ Stp w w' := by
  subst e
  exact rputH_s h hs w
theorem rcut_v (s : L) (v : ByteArray) (e : v = ⟨s.toArray⟩) (ls : List L) (h : BlockM.cutV s = ls) (n : Nat) (hn : ls.length = n) (w : World) (hs : s.length ≤ 1000000) :
    Calls Tryz.prog 43 #[.string v] w fun e w' => ∃ A cap, e = .returned (.slice A n cap) ∧ RdL w' A cap ls ∧ Stp w w' := by
  subst e h hn
  exact Block.rcut_s s w hs
set_option maxRecDepth 100000 in
theorem zero_cv (w : World) : (convert 36 9 (.slice (some ⟨w.heap.size, 0, none⟩) 1 1)).run Tryz.prog (w.alloc (.cells #[.int .u8 0] 5)) = .ok (.string ⟨#[0]⟩) (w.alloc (.cells #[.int .u8 0] 5)) := by
  have h : RdA (w.alloc (.cells #[.int .u8 0] 5)) (some ⟨w.heap.size, 0, none⟩) 1 (bs [0]) := by
    have := rd_lit w 5 (.int .u8 0)
    unfold RdA
    rw [World.size_alloc]
    exact this
  exact Block.str_rd h

set_option maxRecDepth 100000 in
set_option maxHeartbeats 2000000 in
theorem rlput_s (k : UInt8) (s : L) (w : World) (hs : s.length ≤ 900000) :
    Calls Tryz.prog 20 #[.int .u8 (k.toNat : Int), .string ⟨s.toArray⟩] w fun e w' => ∃ A cap, e = .returned (.tuple #[.slice A (putLs k s).length cap, .bool (putOkL k s)]) ∧ RdL w' A cap (putLs k s) ∧ Stp w w' := by
  have h0 := Stp.refl w
  obtain ⟨t, ht⟩ : ∃ t, textL s = t := ⟨_, rfl⟩
  have Ht := Lib.hid ht
  clear ht
  have Hsz := Lib.hid hs
  have hadd := add_ll s [0] (by simp; omega)
  go_enter Tryz.func20, Tryz.ntmps20
  go_wp2_with (first
    | (go_at_call 42; refine (rtext_s s (by omega) _).mono ?_; rintro e w1 ⟨rfl, hs1⟩; have H1 := Lib.hid (Stp.trans h0 hs1); clear hs1; rw [Ht.out]; rcases t)
    | (go_at_call 21; (have Hok := Lib.hid (ok_of (k := k) Ht.out rfl (by first | (left; assumption) | (rcases ‹((k.toNat : Int) != 75) = false ∨ ((k.toNat : Int) != 76) = false› with q | q <;> simp at q <;> omega))); (with_reducible refine (rput_v (llH k s) _ (llH_v k s _ (by omega)) (llH_small (by have := Hsz.out; omega)) _).mono ?_); rintro e w2 ⟨A2, c2, rfl, hr, hs2⟩; rw [putB_yes (llH_may Hok.out)] at hr; rw [putB_yes (llH_may Hok.out), blk_length (llH_may Hok.out) (llH_small (by have := Hsz.out; omega))]; rw [llH_may Hok.out]; have Hr := Lib.hid hr; have H2 := Lib.hid (Stp.trans H1.out hs2); have hcv := zero_cv (w2.alloc (.cells #[.slice A2 512 c2] 36)); rw [World.size_alloc] at hcv; clear hr hs2))
    | (go_at_call 43; (with_reducible refine (rcut_v (s ++ [0]) _ rfl [BlockM.blk (s ++ [0])] (cut_long (putOkL_iff.1 Hok.out).2) 1 rfl _ (by have := Hsz.out; simp; omega)).mono ?_); rintro e w3 ⟨A3, c3, rfl, hr3, hs3⟩; have Hr3 := Lib.hid hr3; have hs4 := Stp.trans (Stp.alloc (Stp.refl (w2.alloc (.cells #[.slice A2 512 c2] 36))) (.cells #[.int .u8 0] 5)) hs3; have HR := Lib.hid ((Base.Rows.one (e := 36) Hr.out (blk_length (llH_may Hok.out) (llH_small (by have := Hsz.out; omega)))).keep hs4); have H3 := Lib.hid (Stp.trans (Stp.alloc H2.out (.cells #[.slice A2 512 c2] 36)) hs4); have h23 := H2.out.size; have h32 := hs4.size; rw [World.size_alloc] at h32; clear hr3 hs3 hs4 hcv)
    | (at_builtin; refine Base.wpList_append_rows (P := Tryz.prog) rfl (.tmp 33) (.tmp 38) 24 rfl 36 Tryz.underlying24 slices_info _ rfl HR.out rfl Hr3.out rfl (by simp) (by omega) ?_; intro v' w4 hR4 hg4; have H4 := Lib.hid (HR.out.stp H3.out h23 hg4); obtain ⟨A4, c4, rfl, hL4⟩ := hR4.rdL; have HL4 := Lib.hid hL4; clear hR4 hg4 hL4))
  all_goals go_ret2
  all_goals first
    | (rw [putLs_yes Hok.out, Hok.out]; exact ⟨A4, c4, rfl, HL4.out, H4.out⟩)
    | (rw [putLs_no (no_of Ht.out rfl), no_of Ht.out rfl]; exact ⟨none, 0, rfl, RdL.nil _, H1.out⟩)
    | (have hno := no_of2 (k := k) (s := s) (by assumption) (by simpa using (‹((k.toNat : Int) != 75) = true ∧ ((k.toNat : Int) != 76) = true›).2); rw [putLs_no hno, hno]; exact ⟨none, 0, rfl, RdL.nil _, H1.out⟩)
theorem rlput_v (k : UInt8) (kk : Int) (hk : kk = (k.toNat : Int)) (s : L) (w : World) (hs : s.length ≤ 900000) :
    Calls Tryz.prog 20 #[.int .u8 kk, .string ⟨s.toArray⟩] w fun e w' => ∃ A cap, e = .returned (.tuple #[.slice A (putLs k s).length cap, .bool (putOkL k s)]) ∧ RdL w' A cap (putLs k s) ∧ Stp w w' := by
  subst hk
  exact rlput_s k s w hs

theorem ahead_keep {w1 w2 : World} {e t : TypeId} {cs : Array Value} {g : Nat} {v : Value} {ls : List L} {lo : Nat} (h : Base.Rows w1 lo e v ls) (hb : Blk w1 g t cs) (hg : w1.grownBy w2 v.ownBlock) (hne : t ≠ e := by decide) : Blk w2 g t cs := by
  obtain ⟨us, ho, _⟩ := h
  exact hb.grown hg (Block.blk_not_own hb hne ho)
end Go.Proofs.YtagkdodjffhlmaaGreat.Long
