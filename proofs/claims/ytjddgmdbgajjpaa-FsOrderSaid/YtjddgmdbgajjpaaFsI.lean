/-
  What the walks of package fs's laws ask of the code, and what they share: no statement is proved here.
-/
import Derived.Test.YtjddgmdbgajjpaaFsM
import Derived.Test.YtjddgmdbgajjpaaTreeS
import Derived.Test.YtjddgmdbgajjpaaNodes
import Derived.Deep.RegionWith
import Derived.Deep.RegionLaw
import Derived.BigQuiet
import Derived.Lib.QuietBelow
namespace Go.Proofs.Ytjddgmdbgajjpaa.Fs
open Go.Sort Go.RowKit Go.Proofs.Ytjddgmdbgajjpaa.Str Go.Proofs.Ytjddgmdbgajjpaa.Base Go.Proofs.Ytjddgmdbgajjpaa.Node Go.Proofs.Ytjddgmdbgajjpaa.Long Go.Proofs.Ytjddgmdbgajjpaa.FsM
open Go.Proofs.Ytjddgmdbgajjpaa.Tree (oneB mayT fewT nodeA nodeB)
set_option linter.unusedVariables false

/-- A file system as a value, its nodes at A. -/
abbrev fv (A : Option Addr) (m k : Nat) : Value := .agg #[.slice A m k]
abbrev fcs (A : Option Addr) (m k : Nat) : Array Value := #[.slice A m k]
theorem fs_cell {w : World} {g : Nat} {t : TypeId} {A : Option Addr} {m k : Nat} (hb : Blk w g t (fcs A m k)) : w.cell? ⟨g, 0, none⟩ = some (.slice A m k) := by rw [hb.cell]; rfl
/-- The contracts of the calls. -/
structure FsI : Prop where
  may : ∀ (ns : List Nd) (m : Nat), ns.length = m → m ≤ 1000 → (∀ n ∈ ns, SmallN n) → ∀ (b : Bool), mayF ns = b → ∀ (A : Option Addr) (k : Nat) (w : World), RdN w A k ns →
    Calls Try.prog 22 #[fv A m k] w fun e w' => e = .returned (.bool b) ∧ Stp w w'
  same : ∀ (ns ms : List Nd) (m j : Nat), ns.length = m → ms.length = j → m ≤ 1000 → j ≤ 1000 → ∀ (b : Bool), decide (ns = ms) = b → ∀ (A B : Option Addr) (k l : Nat) (w : World), RdN w A k ns → RdN w B l ms →
    Calls Try.prog 23 #[fv A m k, fv B j l] w fun e w' => e = .returned (.bool b) ∧ Stp w w'
  get : ∀ (ns : List Nd) (m : Nat), ns.length = m → m ≤ 1000 → (∀ n ∈ ns, SmallN n) → ∀ (p : List UInt8) (y : Nat), p.length = y → y ≤ 9223372036854775807 → ∀ (x : Nd) (e0 : Int), getF ns p = (x, e0) → ∀ (A : Option Addr) (k : Nat) (w : World), RdN w A k ns →
    Calls Try.prog 16 #[fv A m k, .string ⟨p.toArray⟩] w fun e w' => e = .returned (.tuple #[nv x, .int .i64 e0]) ∧ Stp w w'
  put : ∀ (ns : List Nd) (m : Nat), ns.length = m → m ≤ 1000 → (∀ n ∈ ns, SmallN n) → ∀ (n : Nd) (v : Value), v = nv n → SmallN n → ∀ (ms : List Nd) (e0 : Int), putF ns n = (ms, e0) → ∀ (z : Nat), ms.length = z → ∀ (A : Option Addr) (k : Nat) (w : World), RdN w A k ns →
    Calls Try.prog 12 #[fv A m k, v] w fun e w' => ∃ B d, e = .returned (.tuple #[fv B z d, .int .i64 e0]) ∧ RdN w' B d ms ∧ Stp w w'
  grow : ∀ (ns : List Nd) (m : Nat), ns.length = m → m ≤ 1000 → (∀ n ∈ ns, SmallN n) → ∀ (p : List UInt8) (y : Nat), p.length = y → y ≤ 9223372036854775807 → ∀ (d : List UInt8) (x : Nat), d.length = x → x ≤ 1000000 → ∀ (ms : List Nd) (e0 : Int), growF ns p d = (ms, e0) → ∀ (z : Nat), ms.length = z → ∀ (A : Option Addr) (k : Nat) (w : World), RdN w A k ns →
    Calls Try.prog 14 #[fv A m k, .string ⟨p.toArray⟩, .string ⟨d.toArray⟩] w fun e w' => ∃ B d, e = .returned (.tuple #[fv B z d, .int .i64 e0]) ∧ RdN w' B d ms ∧ Stp w w'
  text : ∀ (ns : List Nd) (m : Nat), ns.length = m → m ≤ 1000 → (∀ n ∈ ns, SmallN n) → ∀ (p : List UInt8) (y : Nat), p.length = y → y ≤ 9223372036854775807 → ∀ (s : List UInt8) (e0 : Int), textF ns p = (s, e0) → ∀ (A : Option Addr) (k : Nat) (w : World), RdN w A k ns →
    Calls Try.prog 18 #[fv A m k, .string ⟨p.toArray⟩] w fun e w' => e = .returned (.tuple #[.string ⟨s.toArray⟩, .int .i64 e0]) ∧ Stp w w'

/-! ### calls of other packages, with lengths of their own -/
theorem fewt_n (t : List Nd) (m : Nat) (hm : t.length = m) (hl : m < 9223372036854775808) (F : Bool) (hF : fewT t = F) (A : Option Addr) (c : Nat) (w : World) (ha : RdN w A c t) :
    Calls Try.prog 10 #[.slice A m c] w fun e w' => e = .returned (.bool F) ∧ Stp w w' := by
  subst hm hF
  exact Tree.fewt_s t A c w ha hl
theorem fewn_n (n : Nd) (v : Value) (hv : v = nv n) (F : Bool) (hF : fewN n = F) (w : World) : Calls Try.prog 11 #[v] w fun e w' => e = .returned (.bool F) ∧ Stp w w' := by
  subst hv hF
  exact Long.few_s n w
theorem tmay_n (ns : List Nd) (m : Nat) (hm : ns.length = m) (hl : m ≤ 1000) (hs : ∀ n ∈ ns, SmallN n) (F : Bool) (hF : mayT ns = F) (A : Option Addr) (c : Nat) (w : World) (ha : RdN w A c ns) :
    Calls Try.prog 27 #[.slice A m c] w fun e w' => e = .returned (.bool F) ∧ Stp w w' := by
  subst hm hF
  exact Tree.tmay_s ns A c w ha hl hs
theorem tfind_n (ns : List Nd) (m : Nat) (hm : ns.length = m) (hl : m ≤ 1000) (p : List UInt8) (i : Int) (hi : Tree.findV ns p = i) (A : Option Addr) (c : Nat) (w : World) (ha : RdN w A c ns) :
    Calls Try.prog 29 #[.slice A m c, .string ⟨p.toArray⟩] w fun e w' => e = .returned (.int .i64 i) ∧ Stp w w' := by
  subst hm hi
  exact Tree.tfind_s ns p A c w ha hl
theorem tone_n (n : Nd) (v : Value) (hv : v = nv n) (hn : SmallN n) (F : Bool) (hF : oneB n = F) (w : World) : Calls Try.prog 25 #[v] w fun e w' => e = .returned (.bool F) ∧ Stp w w' := by
  subst hv hF
  exact Tree.tone_s n hn w
theorem parent_n (p : List UInt8) (hp : p.length ≤ 9223372036854775807) (q : List UInt8) (hq : PathM.parV p = q) (b : Bool) (hb : PathM.parB p = b) (w : World) : Calls Try.prog 24 #[.string ⟨p.toArray⟩] w fun e w' => e = .returned (.tuple #[.string ⟨q.toArray⟩, .bool b]) ∧ Stp w w' := by
  subst hq hb
  exact Path.parent_any p w hp
theorem pmay_n (p : List UInt8) (hp : p.length ≤ 9223372036854775807) (b : Bool) (hb : PathM.mayB p = b) (w : World) : Calls Try.prog 26 #[.string ⟨p.toArray⟩] w fun e w' => e = .returned (.bool b) ∧ Stp w w' := by
  subst hb
  exact Path.may_any p w hp

theorem par_le (p : List UInt8) : (PathM.parV p).length ≤ p.length := by
  unfold PathM.parV
  split
  · split
    · rename_i a b hc
      obtain ⟨e, -⟩ := PathM.lastCut_some hc
      have := congrArg List.length e
      rw [List.length_append] at this
      omega
    · simp
  · simp

/-- Nodes do not lie in a file system's block. -/
theorem rdn_far {w : World} {A B : Option Addr} {c m k g : Nat} {t : TypeId} {ns : List Nd} (h : RdN w A c ns) (hb : Blk w g t (fcs B m k)) (i : Nat) (v : Value) : RdN (w.setCell ⟨g, i, none⟩ v) A c ns := by
  refine ⟨h.1, fun hn => ?_⟩
  obtain ⟨b, o, e, hl, hc⟩ := h.2 hn
  have hne : b ≠ g := by
    rintro rfl
    obtain ⟨n, ms, rfl⟩ := List.exists_cons_of_ne_nil hn
    have h0 := hc 0 (.string ⟨n.path.toArray⟩) rfl
    rw [Nat.add_zero, hb.cell] at h0
    match o with
    | 0 => cases h0
    | o + 1 => simp at h0
  exact ⟨b, o, e, by simpa [World.setCell] using hl, fun q u hq => (World.cell?_setCell_other _ _ _ _ (by intro e; cases e; exact hne rfl)).trans (hc q u hq)⟩
theorem ab_cells {w : World} {g : Nat} (h : RdN w (some ⟨g, 0, none⟩) 2 [nodeA, nodeB]) :
    (w.cell? ⟨g, 0, none⟩ = some (.string ⟨nodeA.path.toArray⟩) ∧ w.cell? ⟨g, 1, none⟩ = some (.string ⟨nodeA.link.toArray⟩) ∧ w.cell? ⟨g, 2, none⟩ = some (.int .u8 (nodeA.kind.toNat : Int)) ∧ w.cell? ⟨g, 3, none⟩ = some (.int .i64 nodeA.mode) ∧
      w.cell? ⟨g, 4, none⟩ = some (.int .i64 nodeA.uid) ∧ w.cell? ⟨g, 5, none⟩ = some (.int .i64 nodeA.gid) ∧ w.cell? ⟨g, 6, none⟩ = some (.int .i64 nodeA.time) ∧ w.cell? ⟨g, 7, none⟩ = some (.string ⟨nodeA.data.toArray⟩)) ∧
    (w.cell? ⟨g, 8, none⟩ = some (.string ⟨nodeB.path.toArray⟩) ∧ w.cell? ⟨g, 9, none⟩ = some (.string ⟨nodeB.link.toArray⟩) ∧ w.cell? ⟨g, 10, none⟩ = some (.int .u8 (nodeB.kind.toNat : Int)) ∧ w.cell? ⟨g, 11, none⟩ = some (.int .i64 nodeB.mode) ∧
      w.cell? ⟨g, 12, none⟩ = some (.int .i64 nodeB.uid) ∧ w.cell? ⟨g, 13, none⟩ = some (.int .i64 nodeB.gid) ∧ w.cell? ⟨g, 14, none⟩ = some (.int .i64 nodeB.time) ∧ w.cell? ⟨g, 15, none⟩ = some (.string ⟨nodeB.data.toArray⟩)) := by
  obtain ⟨b, o, e, -, hc⟩ := h.2 (by simp)
  cases e
  have key : ∀ q u, (ntc [nodeA, nodeB])[q]? = some u → w.cell? ⟨g, q, none⟩ = some u := fun q u hq => by
    have := hc q u hq
    rwa [Nat.zero_add] at this
  exact ⟨⟨key 0 _ rfl, key 1 _ rfl, key 2 _ rfl, key 3 _ rfl, key 4 _ rfl, key 5 _ rfl, key 6 _ rfl, key 7 _ rfl⟩, key 8 _ rfl, key 9 _ rfl, key 10 _ rfl, key 11 _ rfl, key 12 _ rfl, key 13 _ rfl, key 14 _ rfl, key 15 _ rfl⟩

/-- A call's answer in a box, laid behind the call or ahead of it. -/
theorem new_fs {w0 w9 W : World} {B : Option Addr} {z d : Nat} {ms : List Nd} (h0 : Stp W w0) (hs : Stp w0 w9) (hr : RdN w9 B d ms) :
    Blk (w9.alloc (.cells (fcs B z d) 24)) w9.heap.size 24 (fcs B z d) ∧ RdN (w9.alloc (.cells (fcs B z d) 24)) B d ms ∧ Stp W (w9.alloc (.cells (fcs B z d) 24)) :=
  ⟨Blk.new w9 _ _, hr.keep (Stp.alloc (Stp.refl w9) _), Stp.alloc (Stp.trans h0 hs) _⟩
theorem fill_fs {w0 w9 W : World} {B : Option Addr} {z d p : Nat} {ms : List Nd} (h0 : Stp W w0) (hs : Stp w0 w9) (hN : Blk w0 p 24 (fcs none 0 0)) (hp : W.heap.size ≤ p) (hr : RdN w9 B d ms) :
    Blk (w9.setCell ⟨p, 0, none⟩ (.slice B z d)) p 24 (fcs B z d) ∧ RdN (w9.setCell ⟨p, 0, none⟩ (.slice B z d)) B d ms ∧ Stp W (w9.setCell ⟨p, 0, none⟩ (.slice B z d)) ∧ Blk w9 p 24 (fcs none 0 0) := by
  have hb := hN.keep hs hN.lt
  exact ⟨hb.put 0 _, rdn_far hr hb 0 _, Below.setCell (Stp.trans h0 hs) (p := ⟨p, 0, none⟩) hp _, hb⟩

/-! ### small nodes -/
theorem ins_small {ns : List Nd} {n : Nd} (h : ∀ m ∈ ns, SmallN m) (hn : SmallN n) : ∀ m ∈ insF n ns, SmallN m := fun m hm => by
  rcases mem_ins.1 hm with rfl | hm
  · exact hn
  · exact h m hm
theorem put_small {ns ms : List Nd} {n : Nd} {e : Int} (hp : putF ns n = (ms, e)) (h : ∀ m ∈ ns, SmallN m) (hn : SmallN n) : (∀ m ∈ ms, SmallN m) ∧ ms.length ≤ ns.length + 1 := by
  by_cases he : e = 0
  · have h0 : (putF ns n).2 = 0 := by rw [hp]; exact he
    obtain ⟨-, -, -, -, -, a6⟩ := put_ok h0
    rw [hp] at a6
    dsimp only at a6
    subst a6
    exact ⟨ins_small h hn, by rw [ins_length]; exact Nat.le_refl _⟩
  · have h0 := put_no (ns := ns) (n := n) (by rw [hp]; exact he)
    rw [hp] at h0
    dsimp only at h0
    subst h0
    exact ⟨h, by omega⟩
theorem more_small {n : Nd} {d : List UInt8} (h : SmallN n) (hd : n.data.length + d.length ≤ 9223372036854775807) : SmallN (moreN n d) := by
  obtain ⟨h1, h2, h3, h4, h5, h6, h7⟩ := h
  refine ⟨h1, h2, h3, h4, h5, h6, ?_⟩
  show (n.data ++ d).length ≤ _
  rw [List.length_append]
  exact hd
theorem grow_small {ns ms : List Nd} {p d : List UInt8} {e : Int} (hp : growF ns p d = (ms, e)) (h : ∀ m ∈ ns, SmallN m) : (∀ m ∈ ms, SmallN m) ∧ ms.length = ns.length := by
  rcases grow_cases ns p d with ⟨-, q⟩ | ⟨-, -, q⟩ | ⟨-, i, n, hf, ⟨-, q⟩ | ⟨hl, q⟩⟩
  · rw [hp] at q; cases q; exact ⟨h, rfl⟩
  · rw [hp] at q; cases q; exact ⟨h, rfl⟩
  · rw [hp] at q; cases q; exact ⟨h, rfl⟩
  · rw [hp] at q
    cases q
    refine ⟨fun m hm => ?_, by rw [List.length_set]⟩
    rcases List.mem_or_eq_of_mem_set hm with hm | rfl
    · exact h m hm
    · exact more_small (h n (List.mem_of_getElem? hf.2.1)) (by omega)

/-! ### the chapter's example -/
theorem ex_one : putF [] nodeB = ([], 9) ∧ putF [] nodeA = ([nodeA], 0) ∧ putF [nodeA] nodeB = ([nodeA, nodeB], 0) ∧ growF [nodeA, nodeB] [97, 47, 98] [33] = ([nodeA, moreN nodeB [33]], 0) ∧
    textF [nodeA, moreN nodeB [33]] [97, 47, 98] = ([104, 101, 108, 108, 111, 33], 0) ∧ getF [nodeA, moreN nodeB [33]] [97] = (nodeA, 0) ∧ mayF [nodeA, moreN nodeB [33]] = true := by decide +kernel
theorem ab_small : SmallN nodeA ∧ SmallN nodeB ∧ SmallN (moreN nodeB [33]) := by
  refine ⟨?_, ?_, ?_⟩ <;> constructor <;> decide
end Go.Proofs.Ytjddgmdbgajjpaa.Fs
