/-
  The walk of LongNeeds: no statement is proved here.
-/
import Derived.Test.YtleoiejkipobbaaLongS
import Derived.Test.YtleoiejkipobbaaBlockRef
namespace Go.Proofs.Ytleoiejkipobbaa.Long
open Go.RowKit Go.Proofs.Ytleoiejkipobbaa.Str Go.Proofs.Ytleoiejkipobbaa.Base Go.Proofs.Ytleoiejkipobbaa.Node Go.Proofs.Ytleoiejkipobbaa.Head

theorem split_le {p : L} (h : PathM.splB p = true) : p.length ≤ 256 := by
  obtain ⟨_, h2, h3, h4, _⟩ := PathM.split_facts h
  have := congrArg List.length h2
  unfold PathM.joinV at this
  split at this
  · omega
  · simp only [List.length_append, List.length_cons] at this
    omega
theorem nl_small {p k : L} (hp : p.length ≤ 9223372036854775807) (hk : k.length ≤ 9223372036854775807) : SmallN { zeroN with path := p, link := k } := by
  constructor <;> simp only [zeroN] <;> first | assumption | simp
theorem nl_v (p k : L) : Value.agg #[.string ⟨p.toArray⟩, .string ⟨k.toArray⟩, .int .u8 0, .int .i64 0, .int .i64 0, .int .i64 0, .int .i64 0, .string ⟨#[]⟩] = nv { zeroN with path := p, link := k } := rfl

set_option maxRecDepth 100000 in
set_option maxHeartbeats 4000000 in
theorem needs_walk (p k : L) (hp : p.length ≤ 9223372036854775807) (hk : k.length ≤ 9223372036854775807) (w : World) :
    Calls Try.prog 9 #[.string ⟨p.toArray⟩, .string ⟨k.toArray⟩] w fun e w' => e = .returned (.bool true) ∧ Stp w w' := by
  have h0 := Stp.refl w
  have Hs := Lib.hid (nl_small hp hk)
  have Hp := Lib.hid hp
  obtain ⟨m, hm⟩ : ∃ m, PathM.mayB p = m := ⟨_, rfl⟩
  obtain ⟨b, hb⟩ : ∃ b, PathM.splB p = b := ⟨_, rfl⟩
  have Hm := Lib.hid hm
  have Hb := Lib.hid hb
  have Hn := Lib.hid (show needN { zeroN with path := p, link := k } = (m && !b) by rw [← hm, ← hb]; rfl)
  have Hl := Lib.hid (show needL { zeroN with path := p, link := k } = decide ((100 : Int) < (k.length : Int)) by rw [needL_is])
  have hle : b = true → p.length ≤ 256 := fun h => split_le (hb.trans h)
  have hgt : m = true → b = false → 100 < p.length := fun h1 h2 => by
    rcases PathM.split_none_long (hb.trans h2) with q | q
    · rw [hm, h1] at q; cases q
    · exact q
  clear hm hb hk
  go_enter Try.func9, Try.ntmps9
  go_wp2_with (first
    | (go_at_call 21; refine (awake_s _).mono ?_; rintro e w1 ⟨rfl, hs⟩; replace h0 := Stp.trans h0 hs; clear hs)
    | (go_at_call 25; refine (needs_v _ _ (nl_v p k) Hs.out _).mono ?_; rintro e w2 ⟨rfl, hs⟩; rw [Hn.out, Hl.out]; replace h0 := Stp.trans h0 hs; clear hs; rcases m <;> rcases b)
    | (go_at_call 38; refine (Path.split_s p _ Hp.out).mono ?_; rintro e w3 ⟨rfl, hs⟩; rw [Hb.out]; replace h0 := Stp.trans h0 hs; clear hs)
    | (go_at_call 36; refine (Path.may_s p _ Hp.out).mono ?_; rintro e w4 ⟨rfl, hs⟩; rw [Hm.out]; replace h0 := Stp.trans h0 hs; clear hs))
  all_goals go_ret
  all_goals first | exact ⟨rfl, h0⟩ | (exfalso; have q1 := hle trivial; omega) | (exfalso; have q2 := hgt trivial trivial; omega)

theorem ahead_is (n : Nd) {bl o1 bn o2 : Bool} (h1 : needL n = bl) (h2 : putOkL 75 n.link = o1) (h3 : needN n = bn) (h4 : putOkL 76 n.path = o2) :
    aheadV n = (if (bl && o1) = true then putLs 75 n.link else []) ++ (if (bn && o2) = true then putLs 76 n.path else []) := by
  subst h1 h2 h3 h4
  unfold aheadV
  congr 1
  · cases needL n <;> cases h : putOkL 75 n.link <;> simp [putLs_no, h]
  · cases needN n <;> cases h : putOkL 76 n.path <;> simp [putLs_no, h]
theorem ahead_le (n : Nd) : (aheadV n).length ≤ 4 := by
  unfold aheadV
  have h1 := putLs_length 75 n.link
  have h2 := putLs_length 76 n.path
  rw [List.length_append]
  split <;> split <;> split at h1 <;> split at h2 <;> simp <;> omega
theorem put_le (k : UInt8) (s : L) : (putLs k s).length ≤ 2 := by rw [putLs_length]; split <;> omega

end Go.Proofs.Ytleoiejkipobbaa.Long
