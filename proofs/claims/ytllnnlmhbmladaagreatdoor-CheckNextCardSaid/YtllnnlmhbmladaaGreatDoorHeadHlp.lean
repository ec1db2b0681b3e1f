/-
  Headers compared, and the law's own helpers: no statement is proved here.
  What the statements' walks share: no statement is proved here.
-/
import Derived.Test.YtllnnlmhbmladaaGreatDoorHeadGet
import Derived.Test.YtllnnlmhbmladaaGreatDoorHeadM3
namespace Go.Proofs.YtllnnlmhbmladaaGreatDoor.Head
open Go.RowKit Go.Proofs.YtllnnlmhbmladaaGreatDoor.Base Go.Proofs.YtllnnlmhbmladaaGreatDoor.NumM Go.Proofs.YtllnnlmhbmladaaGreatDoor.Num

theorem Hd.ext_iff' (g k : Hd) : g = k ↔ (g.name = k.name ∧ g.pre = k.pre ∧ g.link = k.link ∧ g.mode = k.mode ∧ g.uid = k.uid ∧ g.gid = k.gid ∧ g.size = k.size ∧ g.time = k.time ∧ g.ty = k.ty ∧ g.off = k.off ∧ g.real = k.real) := by
  cases g; cases k; simp
end Go.Proofs.YtllnnlmhbmladaaGreatDoor.Head

namespace Go.Proofs.YtllnnlmhbmladaaGreatDoor.Head
open Go.RowKit Go.Proofs.YtllnnlmhbmladaaGreatDoor.Base Go.Proofs.YtllnnlmhbmladaaGreatDoor.NumM Go.Proofs.YtllnnlmhbmladaaGreatDoor.Num

theorem putB_yes {h : Hd} (hm : mayH h = true) : putB h = blk h := by unfold putB; rw [if_pos hm]
end Go.Proofs.YtllnnlmhbmladaaGreatDoor.Head

