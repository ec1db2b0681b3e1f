/-
  A file system that came in, opened: no statement is proved here.
-/
import Derived.Test.YtjddgmdbgajjpaaFsI
import Derived.Deep.Matrix
namespace Go.Proofs.Ytjddgmdbgajjpaa.Fs
open Go.ChangeShapes Go.WideShapes Go.ChangeAt Go.RowKit Go.Proofs.Ytjddgmdbgajjpaa.Base Go.Proofs.Ytjddgmdbgajjpaa.Frame Go.Proofs.Ytjddgmdbgajjpaa.Node

theorem fs_struct : Try.prog.underlying 24 = some (.struct (Try.prog.fieldsOf 24)) := by kernel_rfl
theorem fs_cells : Try.prog.cellsOf 24 = 1 := by kernel_rfl
theorem fs_count : (Try.prog.fieldsOf 24).size = 1 := by kernel_rfl
theorem fs_field_0 : (Try.prog.fieldsOf 24)[0]? = some { name := "N", type := 22, offset := 0, embedded := false, tag := "", pkgPath := "", byteOffset := 0 } := by kernel_rfl
theorem cells_nodes : Try.prog.cellsOf 22 = 1 := by kernel_rfl
theorem array_one {α : Type} {cs : Array α} (h : cs.size = 1) : ∃ c0, cs = #[c0] := by
  obtain ⟨l⟩ := cs
  obtain ⟨c, rfl⟩ := List.length_eq_one_iff.1 (by simpa using h)
  exact ⟨c, rfl⟩
set_option maxRecDepth 100000 in
theorem open_fs {H : Type} {enc : TypeId × Value → H} {w : World} {base : Nat} {held : Bool} {r : Reach} {b0 : Nat} {v : Value} {d : DataW H} {p : List MemPlace}
    (hval : Value.okWide Try.prog w r b0 24 v) (h : DataW.Trod enc Try.prog w base (fun _ => true) held 24 v d p) :
    ∃ (ns : List Nd) (A : Option Addr) (k : Nat), v = fv A ns.length k ∧ RdN w A k ns ∧ (∀ n ∈ ns, SmallN n) ∧ ns.length < 9223372036854775808 := by
  obtain ⟨cs, rfl, hsz⟩ := okWide_struct fs_struct hval
  rw [fs_cells] at hsz
  obtain ⟨c0, rfl⟩ := array_one hsz
  obtain ⟨fuel, hf⟩ := h
  obtain ⟨xs, n, _, hx, _, hlen, hg⟩ := DataW.trod_struct fs_struct hf
  rw [fs_count] at hlen
  obtain ⟨y0, rfl⟩ := List.length_eq_one_iff.1 hlen
  have g0 := hg 0 _ fs_field_0
  simp only [cells_nodes] at g0
  have g0' : DataW.trod enc Try.prog w base (fun _ => true) held n 22 [c0] = some y0 := by simpa [Value.cells] using g0
  obtain ⟨A, len, cap, rfl⟩ : ∃ A len cap, c0 = .slice A len cap := by
    rcases Deep.open_slice Try.underlying22 g0' with ⟨hcs, _⟩ | ⟨x, l, c, m, n, D, Pl, hcs, _⟩
    · simp at hcs
      exact ⟨_, _, _, hcs⟩
    · simp at hcs
      exact ⟨_, _, _, hcs⟩
  obtain ⟨ns, rfl, hr, hs, hn⟩ := open_nodes g0'
  exact ⟨ns, A, cap, rfl, hr, hs, hn⟩
end Go.Proofs.Ytjddgmdbgajjpaa.Fs
