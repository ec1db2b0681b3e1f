/-
  The document's own answers for package head: number, sign, May; no statement is proved here.
-/
import Derived.Test.YtihigbaaajmjlaaHeadRef1
namespace Go.Proofs.Ytihigbaaajmjlaa.Head
open Go.RowKit Go.Proofs.Ytihigbaaajmjlaa.Base Go.Proofs.Ytihigbaaajmjlaa.NumM Go.Proofs.Ytihigbaaajmjlaa.Num

theorem own_lay {w : World} {lo : Nat} {t : TypeId} {v : Value} {x : L} (h : Base.Own w lo t v (bs x)) : ∃ A c, v = .slice A x.length c ∧ RdA w A c (bs x) ∧ ∀ a, A = some a → lo ≤ a.block := by
  obtain ⟨A, c, hv, ha⟩ := RdA.of h.rd
  refine ⟨A, c, by rw [hv, bs_length], ha, ?_⟩
  rintro a rfl
  subst hv
  exact (h.lt a.block rfl).1
theorem rd_lit2 (w : World) (e : TypeId) (u v : Value) : Rd (w.alloc (.cells #[u, v] e)) (w.heap.size + 1) (.slice (some ⟨w.heap.size, 0, none⟩) 2 2) [u, v] := by
  have h := (Own.of_blk (lo := w.heap.size) (cur := #[u, v]) (n := 2) (Blk.new w e #[u, v]) (Nat.le_refl _) rfl (by unfold maxLen; omega)).rd
  rwa [World.size_alloc] at h

set_option maxHeartbeats 1600000 in
set_option maxRecDepth 100000 in
theorem rnumber_s (g k wd : Nat) (n : Int) (hn : n < 9223372036854775808) (hp : putOk n wd = true) (b : L) (w : World) (hb : Blk w g 5 (bs b).toArray) (hl : b.length = 512) (hx : k + wd ≤ 512) :
    Calls Try.prog 68 #[.slice (some ⟨g, 0, none⟩) 512 512, .int .i64 (k : Int), .int .i64 (wd : Int), .int .i64 n] w fun e w' => e = .returned (.slice (some ⟨g, 0, none⟩) 512 512) ∧ Blk w' g 5 (bs (lay b k (putV n wd))).toArray ∧ w.grownBy w' (some g) := by
  have hlen : (putV n wd).length = wd := putV_length hp
  have Hlen := Lib.hid hlen
  have Hp := Lib.hid hp
  have Hb := Lib.hid hb
  have Hl := Lib.hid hl
  have Hn := Lib.hid hn
  clear hlen hp hb hl hn
  go_enter Try.func68, Try.ntmps68
  go_wp2_with (first
    | (go_at_call 97; refine (rput_all n wd _ Hn.out).mono ?_; rintro e w1 ⟨v, rfl, h3, h4⟩; rw [Hp.out]; obtain ⟨A, c, rfl, hr, ho⟩ := own_lay h3; have Hr := Lib.hid hr; have Ho := Lib.hid ho; have H4 := Lib.hid h4; clear h3 hr ho h4)
    | (go_at_call 67; refine (rlay_s g k b _ A c w1 (Hb.out.keep H4.out Hb.out.lt) Hl.out (by rw [Hlen.out]; exact hx) Hr.out (fun a ha => Nat.ne_of_gt (Nat.lt_of_lt_of_le Hb.out.lt (Ho.out a ha)))).mono ?_; rintro e w2 ⟨rfl, h5, h6⟩; have H5 := Lib.hid h5; have H6 := Lib.hid (show w.grownBy w2 (some g) from grown_trans ⟨H4.out.os, H4.out.tape, H4.out.output, H4.out.size, fun j hj _ => H4.out.block j hj⟩ h6); clear h5 h6))
  go_ret
  exact ⟨rfl, H5.out, H6.out⟩

set_option maxHeartbeats 1600000 in
set_option maxRecDepth 100000 in
theorem rsign_s (l : L) (h512 : l.length = 512) (w : World) :
    Calls Try.prog 69 #[.int .i64 (sumI l)] w fun e w' => ∃ v, e = .returned v ∧ Base.Own w' w.heap.size 5 v (bs (sumT l)) ∧ Stp w w' := by
  have hov := octV_sum h512
  have hi2 : sumI l < 9223372036854775808 := by rw [sumI_yes h512]; have := sumN_le h512; omega
  obtain ⟨s, hs⟩ : ∃ s, octs 6 (sumN l) = s := ⟨_, rfl⟩
  have hsl : s.length = 6 := by rw [← hs, octs_length]
  have hT : sumT l = s ++ [0, 32] := by rw [← hs]; rfl
  rw [hT]
  rw [hs] at hov
  obtain ⟨i, hi⟩ : ∃ i, sumI l = i := ⟨_, rfl⟩
  rw [hi] at hov hi2 ⊢
  obtain ⟨ok, hok⟩ : ∃ ok, octOk i 6 = ok := ⟨_, rfl⟩
  have Hov := Lib.hid hov
  have Hi2 := Lib.hid hi2
  have Hok := Lib.hid hok
  have Hsl := Lib.hid hsl
  clear hov hi hi2 hok hs hT hsl h512
  go_enter Try.func69, Try.ntmps69
  go_wp2_with (first
    | (go_at_call 98; refine (roct_all i 6 _ Hi2.out).mono ?_; rintro e w' ⟨rfl, rfl⟩; rw [Hov.out, Hok.out])
    | (refine wpList_bytes (P := Try.prog) (o := ⟨some 11, _, _, _, _, _⟩) _ rfl 9 39 (.tmp 10) rfl 5 Try.underlying9 Try.underlying39 Try.underlying5 _ rfl ?hm ?_))
  case hm =>
    show s.toArray.size ≤ _
    rw [List.size_toArray, Hsl.out]
    unfold maxLen
    omega
  intro v2 w2 hv2 hg2 hat2
  have Hg2 := Lib.hid hg2
  have Hv2 : Hid (Base.Own w2 w.heap.size 5 v2 (bs s)) := Lib.hid (by simpa using hv2)
  have Hat2 := Lib.hid hat2
  clear hg2 hv2 hat2
  go_wp2_with (at_builtin; refine wpList_append_rd (P := Try.prog) _ rfl (.tmp 11) (.tmp 12) 39 rfl w.heap.size 5 (.int .u8 0) 1 Try.underlying39 byte_info rfl v2 _ rfl (Hv2.out.alloc _) _ _ [.int .u8 0, .int .u8 32] rfl (rd_lit2 _ _ _ _) (bs_one [0, 32]) ?h1 ?h2 ?h3 ?_)
  case h1 =>
    rw [bs_length, Hsl.out]
    unfold maxLen
    simp only [List.length_cons, List.length_nil]
    omega
  case h2 =>
    rw [bs_length, Hsl.out]
    simp only [List.length_cons, List.length_nil]
    omega
  case h3 =>
    have := Hg2.out.size
    simp
    omega
  intro v3 w3 hv3 hg3 hat3
  have Hbb : Hid (Stp w w3) := Lib.hid (by
    have hs2 := Hg2.out.size
    refine (((Stp.refl w).grown Hg2.out (Nat.le_refl _) (by simp)).alloc (by omega) _).grown hg3 (by simp; omega) (fun k hk => ?_)
    rw [Hat2.out] at hk
    injection hk with hk
    omega)
  have Hv3 : Hid (Base.Own w3 w.heap.size 5 v3 (bs (s ++ [0, 32]))) := Lib.hid (by rw [bs_append]; exact hv3)
  clear hv3 hg3 hat3
  go_wp2_with fail
  go_ret
  exact ⟨v3, rfl, Hv3.out, Hbb.out⟩

theorem rword_i (s : L) (m : Nat) (mi : Int) (hm : mi = (m : Int)) (hs : s.length ≤ 9223372036854775807) (w : World) :
    Calls Try.prog 95 #[.string ⟨s.toArray⟩, .int .i64 mi] w fun e w' => e = .returned (.bool (okT s m)) ∧ Stp w w' := by
  subst hm
  exact rword_s s m hs w
theorem rlay_i (g k : Nat) (ki : Int) (hk : ki = (k : Int)) (b x : L) (A : Option Addr) (n c : Nat) (hn : x.length = n) (w : World) (hb : Blk w g 5 (bs b).toArray) (hl : b.length = 512) (hx : k + x.length ≤ 512) (ha : RdA w A c (bs x)) (hne : ∀ a, A = some a → a.block ≠ g) :
    Calls Try.prog 67 #[.slice (some ⟨g, 0, none⟩) 512 512, .int .i64 ki, .slice A n c] w fun e w' => e = .returned (.slice (some ⟨g, 0, none⟩) 512 512) ∧ Blk w' g 5 (bs (lay b k x)).toArray ∧ w.grownBy w' (some g) := by
  subst hk hn
  exact rlay_s g k b x A c w hb hl hx ha hne
theorem rnumber_i (g k wd : Nat) (ki wi : Int) (hk : ki = (k : Int)) (hw : wi = (wd : Int)) (n : Int) (hn : n < 9223372036854775808) (hp : putOk n wi = true) (b : L) (w : World) (hb : Blk w g 5 (bs b).toArray) (hl : b.length = 512) (hx : k + wd ≤ 512) :
    Calls Try.prog 68 #[.slice (some ⟨g, 0, none⟩) 512 512, .int .i64 ki, .int .i64 wi, .int .i64 n] w fun e w' => e = .returned (.slice (some ⟨g, 0, none⟩) 512 512) ∧ Blk w' g 5 (bs (lay b k (putV n wi))).toArray ∧ w.grownBy w' (some g) := by
  subst hk hw
  exact rnumber_s g k wd n hn hp b w hb hl hx

/-- The same, in the document's order. -/
theorem may_of {h : Hd} (hn : h.name ≠ []) (h1 : okT h.name 100 = true) (h2 : okT h.link 100 = true) (h3 : okT h.pre 155 = true) (h4 : putOk h.mode 8 = true) (h5 : putOk h.uid 8 = true) (h6 : putOk h.gid 8 = true) (h7 : putOk h.size 12 = true) (h8 : putOk h.time 12 = true) :
    mayH h = (typs.contains h.ty && if h.ty = 77 then h.pre.isEmpty && (putOk h.off 12 && putOk h.real 12) else decide (h.off = 0) && decide (h.real = 0)) := by
  have hne : h.name.isEmpty = false := by cases hq : h.name <;> simp_all
  unfold mayH txtsOk numsOk elseZ
  rw [hne, h1, h2, h3, h4, h5, h6, h7, h8]
  by_cases ht : h.ty = 77
  · simp [ht, Bool.and_assoc]
  · simp [ht]
theorem may_no {h : Hd} (hx : h.name = [] ∨ okT h.name 100 = false ∨ okT h.link 100 = false ∨ okT h.pre 155 = false ∨ putOk h.mode 8 = false ∨ putOk h.uid 8 = false ∨ putOk h.gid 8 = false ∨ putOk h.size 12 = false ∨ putOk h.time 12 = false) : mayH h = false := by
  rw [Bool.eq_false_iff]
  intro hm
  have f := mayF hm
  rcases hx with e | e | e | e | e | e | e | e | e
  · exact f.nname e
  · rw [okT_iff.2 ⟨f.name, f.name0⟩] at e; cases e
  · rw [okT_iff.2 ⟨f.link, f.link0⟩] at e; cases e
  · rw [okT_iff.2 ⟨f.pre, f.pre0⟩] at e; cases e
  · rw [f.mode] at e; cases e
  · rw [f.uid] at e; cases e
  · rw [f.gid] at e; cases e
  · rw [f.size] at e; cases e
  · rw [f.time] at e; cases e

set_option maxHeartbeats 8000000 in
set_option maxRecDepth 100000 in
theorem rmay_early (h : Hd) (hsm : SmallH h) (w : World) (hx : h.name = [] ∨ okT h.name 100 = false ∨ okT h.link 100 = false ∨ okT h.pre 155 = false ∨ putOk h.mode 8 = false ∨ putOk h.uid 8 = false ∨ putOk h.gid 8 = false ∨ putOk h.size 12 = false ∨ putOk h.time 12 = false) :
    Calls Try.prog 66 #[hv h] w fun e w' => e = .returned (.bool false) ∧ Stp w w' := by
  obtain ⟨bname, ename⟩ : ∃ b, okT h.name 100 = b := ⟨_, rfl⟩
  obtain ⟨blink, elink⟩ : ∃ b, okT h.link 100 = b := ⟨_, rfl⟩
  obtain ⟨bpre, epre⟩ : ∃ b, okT h.pre 155 = b := ⟨_, rfl⟩
  obtain ⟨bmode, emode⟩ : ∃ b, putOk h.mode 8 = b := ⟨_, rfl⟩
  obtain ⟨buid, euid⟩ : ∃ b, putOk h.uid 8 = b := ⟨_, rfl⟩
  obtain ⟨bgid, egid⟩ : ∃ b, putOk h.gid 8 = b := ⟨_, rfl⟩
  obtain ⟨bsize, esize⟩ : ∃ b, putOk h.size 12 = b := ⟨_, rfl⟩
  obtain ⟨btime, etime⟩ : ∃ b, putOk h.time 12 = b := ⟨_, rfl⟩
  obtain ⟨boff, eoff⟩ : ∃ b, putOk h.off 12 = b := ⟨_, rfl⟩
  obtain ⟨breal, ereal⟩ : ∃ b, putOk h.real 12 = b := ⟨_, rfl⟩
  obtain ⟨nn, hnn⟩ : ∃ b, (h.name == []) = b := ⟨_, rfl⟩
  have key : bname = false ∨ (bname = true ∧ blink = false) ∨ (bname = true ∧ blink = true ∧ bpre = false) ∨ (bname = true ∧ blink = true ∧ bpre = true ∧ bmode = false) ∨ (bname = true ∧ blink = true ∧ bpre = true ∧ bmode = true ∧ buid = false) ∨ (bname = true ∧ blink = true ∧ bpre = true ∧ bmode = true ∧ buid = true ∧ bgid = false) ∨ (bname = true ∧ blink = true ∧ bpre = true ∧ bmode = true ∧ buid = true ∧ bgid = true ∧ bsize = false) ∨ (bname = true ∧ blink = true ∧ bpre = true ∧ bmode = true ∧ buid = true ∧ bgid = true ∧ bsize = true ∧ btime = false) ∨ (bname = true ∧ blink = true ∧ bpre = true ∧ bmode = true ∧ buid = true ∧ bgid = true ∧ bsize = true ∧ btime = true ∧ nn = true) := by
    rw [ename, elink, epre, emode, euid, egid, esize, etime] at hx
    have hx2 : nn = true ∨ bname = false ∨ blink = false ∨ bpre = false ∨ bmode = false ∨ buid = false ∨ bgid = false ∨ bsize = false ∨ btime = false := by
      rcases hx with e | e
      · left; rw [← hnn, e]; rfl
      · right; exact e
    clear hx hnn ename elink epre emode euid egid esize etime eoff ereal
    cases bname
    · exact .inl rfl
    cases blink
    · exact .inr (.inl ⟨rfl, rfl⟩)
    cases bpre
    · exact .inr (.inr (.inl ⟨rfl, rfl, rfl⟩))
    cases bmode
    · exact .inr (.inr (.inr (.inl ⟨rfl, rfl, rfl, rfl⟩)))
    cases buid
    · exact .inr (.inr (.inr (.inr (.inl ⟨rfl, rfl, rfl, rfl, rfl⟩))))
    cases bgid
    · exact .inr (.inr (.inr (.inr (.inr (.inl ⟨rfl, rfl, rfl, rfl, rfl, rfl⟩)))))
    cases bsize
    · exact .inr (.inr (.inr (.inr (.inr (.inr (.inl ⟨rfl, rfl, rfl, rfl, rfl, rfl, rfl⟩))))))
    cases btime
    · exact .inr (.inr (.inr (.inr (.inr (.inr (.inr (.inl ⟨rfl, rfl, rfl, rfl, rfl, rfl, rfl, rfl⟩)))))))
    have hnt : nn = true := by simpa using hx2
    exact .inr (.inr (.inr (.inr (.inr (.inr (.inr (.inr (⟨rfl, rfl, rfl, rfl, rfl, rfl, rfl, rfl, hnt⟩))))))))
  have Wname := Lib.hid ename
  have Wlink := Lib.hid elink
  have Wpre := Lib.hid epre
  have Nmode := Lib.hid emode
  have Nuid := Lib.hid euid
  have Ngid := Lib.hid egid
  have Nsize := Lib.hid esize
  have Ntime := Lib.hid etime
  have Noff := Lib.hid eoff
  have Nreal := Lib.hid ereal
  clear ename elink epre emode euid egid esize etime eoff ereal
  clear hx
  have h0 := Stp.alloc (Stp.refl w) (.cells (hcells h) 27)
  have Hb := Lib.hid (Blk.new w 27 (hcells h))
  have Hs := Lib.hid hsm
  clear hsm
  obtain ⟨x0, x1, x2, x3, x4, x5, x6, x7, x8, x9, x10⟩ := hd_cells Hb.out
  rcases key with rfl | ⟨rfl, rfl⟩ | ⟨rfl, rfl, rfl⟩ | ⟨rfl, rfl, rfl, rfl⟩ | ⟨rfl, rfl, rfl, rfl, rfl⟩ | ⟨rfl, rfl, rfl, rfl, rfl, rfl⟩ | ⟨rfl, rfl, rfl, rfl, rfl, rfl, rfl⟩ | ⟨rfl, rfl, rfl, rfl, rfl, rfl, rfl, rfl⟩ | ⟨rfl, rfl, rfl, rfl, rfl, rfl, rfl, rfl, rfl⟩
  all_goals go_enter Try.func66, Try.ntmps66
  all_goals go_wp2_with (first
    | (go_at_call 95; (with_reducible refine (rword_i h.name 100 100 rfl Hs.out.name _).mono ?_); rintro e w' ⟨rfl, hs⟩; rw [Wname.out]; replace Hb := Lib.hid (Hb.out.keep hs Hb.out.lt); replace h0 := Stp.trans h0 hs; clear hs; clear x0 x1 x2 x3 x4 x5 x6 x7 x8 x9 x10; obtain ⟨x0, x1, x2, x3, x4, x5, x6, x7, x8, x9, x10⟩ := hd_cells Hb.out)
    | (go_at_call 95; (with_reducible refine (rword_i h.link 100 100 rfl Hs.out.link _).mono ?_); rintro e w' ⟨rfl, hs⟩; rw [Wlink.out]; replace Hb := Lib.hid (Hb.out.keep hs Hb.out.lt); replace h0 := Stp.trans h0 hs; clear hs; clear x0 x1 x2 x3 x4 x5 x6 x7 x8 x9 x10; obtain ⟨x0, x1, x2, x3, x4, x5, x6, x7, x8, x9, x10⟩ := hd_cells Hb.out)
    | (go_at_call 95; (with_reducible refine (rword_i h.pre 155 155 rfl Hs.out.pre _).mono ?_); rintro e w' ⟨rfl, hs⟩; rw [Wpre.out]; replace Hb := Lib.hid (Hb.out.keep hs Hb.out.lt); replace h0 := Stp.trans h0 hs; clear hs; clear x0 x1 x2 x3 x4 x5 x6 x7 x8 x9 x10; obtain ⟨x0, x1, x2, x3, x4, x5, x6, x7, x8, x9, x10⟩ := hd_cells Hb.out)
    | (go_at_call 96; (with_reducible refine (rfits_s h.mode 8 Hs.out.mode _).mono ?_); rintro e w' ⟨rfl, hs⟩; rw [Nmode.out]; replace Hb := Lib.hid (Hb.out.keep hs Hb.out.lt); replace h0 := Stp.trans h0 hs; clear hs; clear x0 x1 x2 x3 x4 x5 x6 x7 x8 x9 x10; obtain ⟨x0, x1, x2, x3, x4, x5, x6, x7, x8, x9, x10⟩ := hd_cells Hb.out)
    | (go_at_call 96; (with_reducible refine (rfits_s h.uid 8 Hs.out.uid _).mono ?_); rintro e w' ⟨rfl, hs⟩; rw [Nuid.out]; replace Hb := Lib.hid (Hb.out.keep hs Hb.out.lt); replace h0 := Stp.trans h0 hs; clear hs; clear x0 x1 x2 x3 x4 x5 x6 x7 x8 x9 x10; obtain ⟨x0, x1, x2, x3, x4, x5, x6, x7, x8, x9, x10⟩ := hd_cells Hb.out)
    | (go_at_call 96; (with_reducible refine (rfits_s h.gid 8 Hs.out.gid _).mono ?_); rintro e w' ⟨rfl, hs⟩; rw [Ngid.out]; replace Hb := Lib.hid (Hb.out.keep hs Hb.out.lt); replace h0 := Stp.trans h0 hs; clear hs; clear x0 x1 x2 x3 x4 x5 x6 x7 x8 x9 x10; obtain ⟨x0, x1, x2, x3, x4, x5, x6, x7, x8, x9, x10⟩ := hd_cells Hb.out)
    | (go_at_call 96; (with_reducible refine (rfits_s h.size 12 Hs.out.size _).mono ?_); rintro e w' ⟨rfl, hs⟩; rw [Nsize.out]; replace Hb := Lib.hid (Hb.out.keep hs Hb.out.lt); replace h0 := Stp.trans h0 hs; clear hs; clear x0 x1 x2 x3 x4 x5 x6 x7 x8 x9 x10; obtain ⟨x0, x1, x2, x3, x4, x5, x6, x7, x8, x9, x10⟩ := hd_cells Hb.out)
    | (go_at_call 96; (with_reducible refine (rfits_s h.time 12 Hs.out.time _).mono ?_); rintro e w' ⟨rfl, hs⟩; rw [Ntime.out]; replace Hb := Lib.hid (Hb.out.keep hs Hb.out.lt); replace h0 := Stp.trans h0 hs; clear hs; clear x0 x1 x2 x3 x4 x5 x6 x7 x8 x9 x10; obtain ⟨x0, x1, x2, x3, x4, x5, x6, x7, x8, x9, x10⟩ := hd_cells Hb.out)
    | (go_at_call 96; (with_reducible refine (rfits_s h.off 12 Hs.out.off _).mono ?_); rintro e w' ⟨rfl, hs⟩; rw [Noff.out]; replace Hb := Lib.hid (Hb.out.keep hs Hb.out.lt); replace h0 := Stp.trans h0 hs; clear hs; clear x0 x1 x2 x3 x4 x5 x6 x7 x8 x9 x10; obtain ⟨x0, x1, x2, x3, x4, x5, x6, x7, x8, x9, x10⟩ := hd_cells Hb.out)
    | (go_at_call 96; (with_reducible refine (rfits_s h.real 12 Hs.out.real _).mono ?_); rintro e w' ⟨rfl, hs⟩; rw [Nreal.out]; replace Hb := Lib.hid (Hb.out.keep hs Hb.out.lt); replace h0 := Stp.trans h0 hs; clear hs; clear x0 x1 x2 x3 x4 x5 x6 x7 x8 x9 x10; obtain ⟨x0, x1, x2, x3, x4, x5, x6, x7, x8, x9, x10⟩ := hd_cells Hb.out))
  all_goals go_ret
  all_goals exact ⟨rfl, h0⟩

set_option maxHeartbeats 8000000 in
set_option maxRecDepth 100000 in
theorem rmay_late (h : Hd) (hsm : SmallH h) (w : World) (hn : h.name ≠ []) (h1 : okT h.name 100 = true) (h2 : okT h.link 100 = true) (h3 : okT h.pre 155 = true) (h4 : putOk h.mode 8 = true) (h5 : putOk h.uid 8 = true) (h6 : putOk h.gid 8 = true) (h7 : putOk h.size 12 = true) (h8 : putOk h.time 12 = true) :
    Calls Try.prog 66 #[hv h] w fun e w' => e = .returned (.bool (mayH h)) ∧ Stp w w' := by
  have hl := may_of hn h1 h2 h3 h4 h5 h6 h7 h8
  rw [typs_is] at hl
  have hnn : (h.name == []) = false := by cases hq : h.name <;> simp_all
  obtain ⟨r, hr⟩ : ∃ r, mayH h = r := ⟨_, rfl⟩
  rw [hr] at hl ⊢
  have ename := h1
  have elink := h2
  have epre := h3
  have emode := h4
  have euid := h5
  have egid := h6
  have esize := h7
  have etime := h8
  obtain ⟨boff, eoff⟩ : ∃ b, putOk h.off 12 = b := ⟨_, rfl⟩
  obtain ⟨breal, ereal⟩ : ∃ b, putOk h.real 12 = b := ⟨_, rfl⟩
  rw [eoff, ereal] at hl
  obtain ⟨pe, hpe⟩ : ∃ b, (h.pre == []) = b := ⟨_, rfl⟩
  obtain ⟨oz, hoz⟩ : ∃ b, (h.off == 0) = b := ⟨_, rfl⟩
  obtain ⟨rz, hrz⟩ : ∃ b, (h.real == 0) = b := ⟨_, rfl⟩
  have hpe2 : h.pre.isEmpty = pe := by rw [← hpe]; cases h.pre <;> rfl
  have hoz2 : decide (h.off = 0) = oz := by rw [← hoz]; exact (Bool.eq_iff_iff.2 (by simp))
  have hrz2 : decide (h.real = 0) = rz := by rw [← hrz]; exact (Bool.eq_iff_iff.2 (by simp))
  rw [hpe2, hoz2, hrz2] at hl
  clear hpe2 hoz2 hrz2
  have key : (h.ty = 48 ∧ r = (oz && rz)) ∨ (h.ty = 49 ∧ r = (oz && rz)) ∨ (h.ty = 50 ∧ r = (oz && rz)) ∨ (h.ty = 53 ∧ r = (oz && rz)) ∨ (h.ty = 75 ∧ r = (oz && rz)) ∨ (h.ty = 76 ∧ r = (oz && rz)) ∨ (h.ty = 86 ∧ r = (oz && rz)) ∨ (h.ty = 77 ∧ r = (pe && (boff && breal))) ∨ (((h.ty.toNat : Int) == 48) = false ∧ ((h.ty.toNat : Int) == 49) = false ∧ ((h.ty.toNat : Int) == 50) = false ∧ ((h.ty.toNat : Int) == 53) = false ∧ ((h.ty.toNat : Int) == 75) = false ∧ ((h.ty.toNat : Int) == 76) = false ∧ ((h.ty.toNat : Int) == 86) = false ∧ ((h.ty.toNat : Int) == 77) = false ∧ r = false) := by
    have q : ∀ n : Nat, n < 256 → h.ty = UInt8.ofNat n ∨ ((h.ty.toNat : Int) == (n : Int)) = false := fun n hn => by
      rw [ty_eq _ _ hn]
      by_cases e : h.ty = UInt8.ofNat n
      · exact .inl e
      · exact .inr (decide_eq_false e)
    rcases q 48 (by omega) with e | q1
    · exact .inl ⟨e, by rw [hl, e]; rfl⟩
    rcases q 49 (by omega) with e | q2
    · exact .inr (.inl ⟨e, by rw [hl, e]; rfl⟩)
    rcases q 50 (by omega) with e | q3
    · exact .inr (.inr (.inl ⟨e, by rw [hl, e]; rfl⟩))
    rcases q 53 (by omega) with e | q4
    · exact .inr (.inr (.inr (.inl ⟨e, by rw [hl, e]; rfl⟩)))
    rcases q 75 (by omega) with e | q5
    · exact .inr (.inr (.inr (.inr (.inl ⟨e, by rw [hl, e]; rfl⟩))))
    rcases q 76 (by omega) with e | q6
    · exact .inr (.inr (.inr (.inr (.inr (.inl ⟨e, by rw [hl, e]; rfl⟩)))))
    rcases q 86 (by omega) with e | q7
    · exact .inr (.inr (.inr (.inr (.inr (.inr (.inl ⟨e, by rw [hl, e]; rfl⟩))))))
    rcases q 77 (by omega) with e | q8
    · exact .inr (.inr (.inr (.inr (.inr (.inr (.inr (.inl ⟨e, by rw [hl, e]; rfl⟩)))))))
    refine .inr (.inr (.inr (.inr (.inr (.inr (.inr (.inr ⟨q1, q2, q3, q4, q5, q6, q7, q8, ?_⟩)))))))
    rw [hl]
    replace q1 : ((h.ty.toNat : Int) == 48) = false := q1
    replace q2 : ((h.ty.toNat : Int) == 49) = false := q2
    replace q3 : ((h.ty.toNat : Int) == 50) = false := q3
    replace q4 : ((h.ty.toNat : Int) == 53) = false := q4
    replace q5 : ((h.ty.toNat : Int) == 75) = false := q5
    replace q6 : ((h.ty.toNat : Int) == 76) = false := q6
    replace q7 : ((h.ty.toNat : Int) == 86) = false := q7
    replace q8 : ((h.ty.toNat : Int) == 77) = false := q8
    simp only [q1, q2, q3, q4, q5, q6, q7, q8, Bool.or_self, Bool.false_and]
  have Wname := Lib.hid ename
  have Wlink := Lib.hid elink
  have Wpre := Lib.hid epre
  have Nmode := Lib.hid emode
  have Nuid := Lib.hid euid
  have Ngid := Lib.hid egid
  have Nsize := Lib.hid esize
  have Ntime := Lib.hid etime
  have Noff := Lib.hid eoff
  have Nreal := Lib.hid ereal
  clear ename elink epre emode euid egid esize etime eoff ereal
  clear h1 h2 h3 h4 h5 h6 h7 h8 hn hl hr
  have key2 : (∃ t : UInt8, h.ty = t ∧ r = (oz && rz) ∧ (t = 48 ∨ t = 49 ∨ t = 50 ∨ t = 53 ∨ t = 75 ∨ t = 76 ∨ t = 86)) ∨ (h.ty = 77 ∧ r = (pe && (boff && breal))) ∨ (((h.ty.toNat : Int) == 48) = false ∧ ((h.ty.toNat : Int) == 49) = false ∧ ((h.ty.toNat : Int) == 50) = false ∧ ((h.ty.toNat : Int) == 53) = false ∧ ((h.ty.toNat : Int) == 75) = false ∧ ((h.ty.toNat : Int) == 76) = false ∧ ((h.ty.toNat : Int) == 86) = false ∧ ((h.ty.toNat : Int) == 77) = false ∧ r = false) := by
    rcases key with ⟨e, k⟩ | ⟨e, k⟩ | ⟨e, k⟩ | ⟨e, k⟩ | ⟨e, k⟩ | ⟨e, k⟩ | ⟨e, k⟩ | k | k
    · exact .inl ⟨_, e, k, by decide⟩
    · exact .inl ⟨_, e, k, by decide⟩
    · exact .inl ⟨_, e, k, by decide⟩
    · exact .inl ⟨_, e, k, by decide⟩
    · exact .inl ⟨_, e, k, by decide⟩
    · exact .inl ⟨_, e, k, by decide⟩
    · exact .inl ⟨_, e, k, by decide⟩
    · exact .inr (.inl k)
    · exact .inr (.inr k)
  clear key
  have h0 := Stp.alloc (Stp.refl w) (.cells (hcells h) 27)
  have Hb := Lib.hid (Blk.new w 27 (hcells h))
  have Hs := Lib.hid hsm
  clear hsm
  obtain ⟨x0, x1, x2, x3, x4, x5, x6, x7, x8, x9, x10⟩ := hd_cells Hb.out
  rcases key2 with ⟨t, ht, hk, hor⟩ | ⟨ht, hk⟩ | ⟨q1, q2, q3, q4, q5, q6, q7, q8, hk⟩
  · rw [ht] at x8
    have Ht := Lib.hid ht
    clear ht
    rcases hor with rfl | rfl | rfl | rfl | rfl | rfl | rfl
    all_goals (cases oz <;> cases rz)
    all_goals subst hk
    all_goals go_enter Try.func66, Try.ntmps66
    all_goals go_wp2_with (first
    | (go_at_call 95; (with_reducible refine (rword_i h.name 100 100 rfl Hs.out.name _).mono ?_); rintro e w' ⟨rfl, hs⟩; rw [Wname.out]; replace Hb := Lib.hid (Hb.out.keep hs Hb.out.lt); replace h0 := Stp.trans h0 hs; clear hs; clear x0 x1 x2 x3 x4 x5 x6 x7 x8 x9 x10; obtain ⟨x0, x1, x2, x3, x4, x5, x6, x7, x8, x9, x10⟩ := hd_cells Hb.out; rw [Ht.out] at x8)
    | (go_at_call 95; (with_reducible refine (rword_i h.link 100 100 rfl Hs.out.link _).mono ?_); rintro e w' ⟨rfl, hs⟩; rw [Wlink.out]; replace Hb := Lib.hid (Hb.out.keep hs Hb.out.lt); replace h0 := Stp.trans h0 hs; clear hs; clear x0 x1 x2 x3 x4 x5 x6 x7 x8 x9 x10; obtain ⟨x0, x1, x2, x3, x4, x5, x6, x7, x8, x9, x10⟩ := hd_cells Hb.out; rw [Ht.out] at x8)
    | (go_at_call 95; (with_reducible refine (rword_i h.pre 155 155 rfl Hs.out.pre _).mono ?_); rintro e w' ⟨rfl, hs⟩; rw [Wpre.out]; replace Hb := Lib.hid (Hb.out.keep hs Hb.out.lt); replace h0 := Stp.trans h0 hs; clear hs; clear x0 x1 x2 x3 x4 x5 x6 x7 x8 x9 x10; obtain ⟨x0, x1, x2, x3, x4, x5, x6, x7, x8, x9, x10⟩ := hd_cells Hb.out; rw [Ht.out] at x8)
    | (go_at_call 96; (with_reducible refine (rfits_s h.mode 8 Hs.out.mode _).mono ?_); rintro e w' ⟨rfl, hs⟩; rw [Nmode.out]; replace Hb := Lib.hid (Hb.out.keep hs Hb.out.lt); replace h0 := Stp.trans h0 hs; clear hs; clear x0 x1 x2 x3 x4 x5 x6 x7 x8 x9 x10; obtain ⟨x0, x1, x2, x3, x4, x5, x6, x7, x8, x9, x10⟩ := hd_cells Hb.out; rw [Ht.out] at x8)
    | (go_at_call 96; (with_reducible refine (rfits_s h.uid 8 Hs.out.uid _).mono ?_); rintro e w' ⟨rfl, hs⟩; rw [Nuid.out]; replace Hb := Lib.hid (Hb.out.keep hs Hb.out.lt); replace h0 := Stp.trans h0 hs; clear hs; clear x0 x1 x2 x3 x4 x5 x6 x7 x8 x9 x10; obtain ⟨x0, x1, x2, x3, x4, x5, x6, x7, x8, x9, x10⟩ := hd_cells Hb.out; rw [Ht.out] at x8)
    | (go_at_call 96; (with_reducible refine (rfits_s h.gid 8 Hs.out.gid _).mono ?_); rintro e w' ⟨rfl, hs⟩; rw [Ngid.out]; replace Hb := Lib.hid (Hb.out.keep hs Hb.out.lt); replace h0 := Stp.trans h0 hs; clear hs; clear x0 x1 x2 x3 x4 x5 x6 x7 x8 x9 x10; obtain ⟨x0, x1, x2, x3, x4, x5, x6, x7, x8, x9, x10⟩ := hd_cells Hb.out; rw [Ht.out] at x8)
    | (go_at_call 96; (with_reducible refine (rfits_s h.size 12 Hs.out.size _).mono ?_); rintro e w' ⟨rfl, hs⟩; rw [Nsize.out]; replace Hb := Lib.hid (Hb.out.keep hs Hb.out.lt); replace h0 := Stp.trans h0 hs; clear hs; clear x0 x1 x2 x3 x4 x5 x6 x7 x8 x9 x10; obtain ⟨x0, x1, x2, x3, x4, x5, x6, x7, x8, x9, x10⟩ := hd_cells Hb.out; rw [Ht.out] at x8)
    | (go_at_call 96; (with_reducible refine (rfits_s h.time 12 Hs.out.time _).mono ?_); rintro e w' ⟨rfl, hs⟩; rw [Ntime.out]; replace Hb := Lib.hid (Hb.out.keep hs Hb.out.lt); replace h0 := Stp.trans h0 hs; clear hs; clear x0 x1 x2 x3 x4 x5 x6 x7 x8 x9 x10; obtain ⟨x0, x1, x2, x3, x4, x5, x6, x7, x8, x9, x10⟩ := hd_cells Hb.out; rw [Ht.out] at x8)
    | (go_at_call 96; (with_reducible refine (rfits_s h.off 12 Hs.out.off _).mono ?_); rintro e w' ⟨rfl, hs⟩; rw [Noff.out]; replace Hb := Lib.hid (Hb.out.keep hs Hb.out.lt); replace h0 := Stp.trans h0 hs; clear hs; clear x0 x1 x2 x3 x4 x5 x6 x7 x8 x9 x10; obtain ⟨x0, x1, x2, x3, x4, x5, x6, x7, x8, x9, x10⟩ := hd_cells Hb.out; rw [Ht.out] at x8)
    | (go_at_call 96; (with_reducible refine (rfits_s h.real 12 Hs.out.real _).mono ?_); rintro e w' ⟨rfl, hs⟩; rw [Nreal.out]; replace Hb := Lib.hid (Hb.out.keep hs Hb.out.lt); replace h0 := Stp.trans h0 hs; clear hs; clear x0 x1 x2 x3 x4 x5 x6 x7 x8 x9 x10; obtain ⟨x0, x1, x2, x3, x4, x5, x6, x7, x8, x9, x10⟩ := hd_cells Hb.out; rw [Ht.out] at x8))
    all_goals go_ret
    all_goals exact ⟨rfl, h0⟩
  · rw [ht] at x8
    have Ht := Lib.hid ht
    clear ht
    cases pe <;> cases boff <;> cases breal
    all_goals subst hk
    all_goals go_enter Try.func66, Try.ntmps66
    all_goals go_wp2_with (first
    | (go_at_call 95; (with_reducible refine (rword_i h.name 100 100 rfl Hs.out.name _).mono ?_); rintro e w' ⟨rfl, hs⟩; rw [Wname.out]; replace Hb := Lib.hid (Hb.out.keep hs Hb.out.lt); replace h0 := Stp.trans h0 hs; clear hs; clear x0 x1 x2 x3 x4 x5 x6 x7 x8 x9 x10; obtain ⟨x0, x1, x2, x3, x4, x5, x6, x7, x8, x9, x10⟩ := hd_cells Hb.out; rw [Ht.out] at x8)
    | (go_at_call 95; (with_reducible refine (rword_i h.link 100 100 rfl Hs.out.link _).mono ?_); rintro e w' ⟨rfl, hs⟩; rw [Wlink.out]; replace Hb := Lib.hid (Hb.out.keep hs Hb.out.lt); replace h0 := Stp.trans h0 hs; clear hs; clear x0 x1 x2 x3 x4 x5 x6 x7 x8 x9 x10; obtain ⟨x0, x1, x2, x3, x4, x5, x6, x7, x8, x9, x10⟩ := hd_cells Hb.out; rw [Ht.out] at x8)
    | (go_at_call 95; (with_reducible refine (rword_i h.pre 155 155 rfl Hs.out.pre _).mono ?_); rintro e w' ⟨rfl, hs⟩; rw [Wpre.out]; replace Hb := Lib.hid (Hb.out.keep hs Hb.out.lt); replace h0 := Stp.trans h0 hs; clear hs; clear x0 x1 x2 x3 x4 x5 x6 x7 x8 x9 x10; obtain ⟨x0, x1, x2, x3, x4, x5, x6, x7, x8, x9, x10⟩ := hd_cells Hb.out; rw [Ht.out] at x8)
    | (go_at_call 96; (with_reducible refine (rfits_s h.mode 8 Hs.out.mode _).mono ?_); rintro e w' ⟨rfl, hs⟩; rw [Nmode.out]; replace Hb := Lib.hid (Hb.out.keep hs Hb.out.lt); replace h0 := Stp.trans h0 hs; clear hs; clear x0 x1 x2 x3 x4 x5 x6 x7 x8 x9 x10; obtain ⟨x0, x1, x2, x3, x4, x5, x6, x7, x8, x9, x10⟩ := hd_cells Hb.out; rw [Ht.out] at x8)
    | (go_at_call 96; (with_reducible refine (rfits_s h.uid 8 Hs.out.uid _).mono ?_); rintro e w' ⟨rfl, hs⟩; rw [Nuid.out]; replace Hb := Lib.hid (Hb.out.keep hs Hb.out.lt); replace h0 := Stp.trans h0 hs; clear hs; clear x0 x1 x2 x3 x4 x5 x6 x7 x8 x9 x10; obtain ⟨x0, x1, x2, x3, x4, x5, x6, x7, x8, x9, x10⟩ := hd_cells Hb.out; rw [Ht.out] at x8)
    | (go_at_call 96; (with_reducible refine (rfits_s h.gid 8 Hs.out.gid _).mono ?_); rintro e w' ⟨rfl, hs⟩; rw [Ngid.out]; replace Hb := Lib.hid (Hb.out.keep hs Hb.out.lt); replace h0 := Stp.trans h0 hs; clear hs; clear x0 x1 x2 x3 x4 x5 x6 x7 x8 x9 x10; obtain ⟨x0, x1, x2, x3, x4, x5, x6, x7, x8, x9, x10⟩ := hd_cells Hb.out; rw [Ht.out] at x8)
    | (go_at_call 96; (with_reducible refine (rfits_s h.size 12 Hs.out.size _).mono ?_); rintro e w' ⟨rfl, hs⟩; rw [Nsize.out]; replace Hb := Lib.hid (Hb.out.keep hs Hb.out.lt); replace h0 := Stp.trans h0 hs; clear hs; clear x0 x1 x2 x3 x4 x5 x6 x7 x8 x9 x10; obtain ⟨x0, x1, x2, x3, x4, x5, x6, x7, x8, x9, x10⟩ := hd_cells Hb.out; rw [Ht.out] at x8)
    | (go_at_call 96; (with_reducible refine (rfits_s h.time 12 Hs.out.time _).mono ?_); rintro e w' ⟨rfl, hs⟩; rw [Ntime.out]; replace Hb := Lib.hid (Hb.out.keep hs Hb.out.lt); replace h0 := Stp.trans h0 hs; clear hs; clear x0 x1 x2 x3 x4 x5 x6 x7 x8 x9 x10; obtain ⟨x0, x1, x2, x3, x4, x5, x6, x7, x8, x9, x10⟩ := hd_cells Hb.out; rw [Ht.out] at x8)
    | (go_at_call 96; (with_reducible refine (rfits_s h.off 12 Hs.out.off _).mono ?_); rintro e w' ⟨rfl, hs⟩; rw [Noff.out]; replace Hb := Lib.hid (Hb.out.keep hs Hb.out.lt); replace h0 := Stp.trans h0 hs; clear hs; clear x0 x1 x2 x3 x4 x5 x6 x7 x8 x9 x10; obtain ⟨x0, x1, x2, x3, x4, x5, x6, x7, x8, x9, x10⟩ := hd_cells Hb.out; rw [Ht.out] at x8)
    | (go_at_call 96; (with_reducible refine (rfits_s h.real 12 Hs.out.real _).mono ?_); rintro e w' ⟨rfl, hs⟩; rw [Nreal.out]; replace Hb := Lib.hid (Hb.out.keep hs Hb.out.lt); replace h0 := Stp.trans h0 hs; clear hs; clear x0 x1 x2 x3 x4 x5 x6 x7 x8 x9 x10; obtain ⟨x0, x1, x2, x3, x4, x5, x6, x7, x8, x9, x10⟩ := hd_cells Hb.out; rw [Ht.out] at x8))
    all_goals go_ret
    all_goals exact ⟨rfl, h0⟩
  · subst hk
    go_enter Try.func66, Try.ntmps66
    go_wp2_with (first
    | (go_at_call 95; (with_reducible refine (rword_i h.name 100 100 rfl Hs.out.name _).mono ?_); rintro e w' ⟨rfl, hs⟩; rw [Wname.out]; replace Hb := Lib.hid (Hb.out.keep hs Hb.out.lt); replace h0 := Stp.trans h0 hs; clear hs; clear x0 x1 x2 x3 x4 x5 x6 x7 x8 x9 x10; obtain ⟨x0, x1, x2, x3, x4, x5, x6, x7, x8, x9, x10⟩ := hd_cells Hb.out)
    | (go_at_call 95; (with_reducible refine (rword_i h.link 100 100 rfl Hs.out.link _).mono ?_); rintro e w' ⟨rfl, hs⟩; rw [Wlink.out]; replace Hb := Lib.hid (Hb.out.keep hs Hb.out.lt); replace h0 := Stp.trans h0 hs; clear hs; clear x0 x1 x2 x3 x4 x5 x6 x7 x8 x9 x10; obtain ⟨x0, x1, x2, x3, x4, x5, x6, x7, x8, x9, x10⟩ := hd_cells Hb.out)
    | (go_at_call 95; (with_reducible refine (rword_i h.pre 155 155 rfl Hs.out.pre _).mono ?_); rintro e w' ⟨rfl, hs⟩; rw [Wpre.out]; replace Hb := Lib.hid (Hb.out.keep hs Hb.out.lt); replace h0 := Stp.trans h0 hs; clear hs; clear x0 x1 x2 x3 x4 x5 x6 x7 x8 x9 x10; obtain ⟨x0, x1, x2, x3, x4, x5, x6, x7, x8, x9, x10⟩ := hd_cells Hb.out)
    | (go_at_call 96; (with_reducible refine (rfits_s h.mode 8 Hs.out.mode _).mono ?_); rintro e w' ⟨rfl, hs⟩; rw [Nmode.out]; replace Hb := Lib.hid (Hb.out.keep hs Hb.out.lt); replace h0 := Stp.trans h0 hs; clear hs; clear x0 x1 x2 x3 x4 x5 x6 x7 x8 x9 x10; obtain ⟨x0, x1, x2, x3, x4, x5, x6, x7, x8, x9, x10⟩ := hd_cells Hb.out)
    | (go_at_call 96; (with_reducible refine (rfits_s h.uid 8 Hs.out.uid _).mono ?_); rintro e w' ⟨rfl, hs⟩; rw [Nuid.out]; replace Hb := Lib.hid (Hb.out.keep hs Hb.out.lt); replace h0 := Stp.trans h0 hs; clear hs; clear x0 x1 x2 x3 x4 x5 x6 x7 x8 x9 x10; obtain ⟨x0, x1, x2, x3, x4, x5, x6, x7, x8, x9, x10⟩ := hd_cells Hb.out)
    | (go_at_call 96; (with_reducible refine (rfits_s h.gid 8 Hs.out.gid _).mono ?_); rintro e w' ⟨rfl, hs⟩; rw [Ngid.out]; replace Hb := Lib.hid (Hb.out.keep hs Hb.out.lt); replace h0 := Stp.trans h0 hs; clear hs; clear x0 x1 x2 x3 x4 x5 x6 x7 x8 x9 x10; obtain ⟨x0, x1, x2, x3, x4, x5, x6, x7, x8, x9, x10⟩ := hd_cells Hb.out)
    | (go_at_call 96; (with_reducible refine (rfits_s h.size 12 Hs.out.size _).mono ?_); rintro e w' ⟨rfl, hs⟩; rw [Nsize.out]; replace Hb := Lib.hid (Hb.out.keep hs Hb.out.lt); replace h0 := Stp.trans h0 hs; clear hs; clear x0 x1 x2 x3 x4 x5 x6 x7 x8 x9 x10; obtain ⟨x0, x1, x2, x3, x4, x5, x6, x7, x8, x9, x10⟩ := hd_cells Hb.out)
    | (go_at_call 96; (with_reducible refine (rfits_s h.time 12 Hs.out.time _).mono ?_); rintro e w' ⟨rfl, hs⟩; rw [Ntime.out]; replace Hb := Lib.hid (Hb.out.keep hs Hb.out.lt); replace h0 := Stp.trans h0 hs; clear hs; clear x0 x1 x2 x3 x4 x5 x6 x7 x8 x9 x10; obtain ⟨x0, x1, x2, x3, x4, x5, x6, x7, x8, x9, x10⟩ := hd_cells Hb.out)
    | (go_at_call 96; (with_reducible refine (rfits_s h.off 12 Hs.out.off _).mono ?_); rintro e w' ⟨rfl, hs⟩; rw [Noff.out]; replace Hb := Lib.hid (Hb.out.keep hs Hb.out.lt); replace h0 := Stp.trans h0 hs; clear hs; clear x0 x1 x2 x3 x4 x5 x6 x7 x8 x9 x10; obtain ⟨x0, x1, x2, x3, x4, x5, x6, x7, x8, x9, x10⟩ := hd_cells Hb.out)
    | (go_at_call 96; (with_reducible refine (rfits_s h.real 12 Hs.out.real _).mono ?_); rintro e w' ⟨rfl, hs⟩; rw [Nreal.out]; replace Hb := Lib.hid (Hb.out.keep hs Hb.out.lt); replace h0 := Stp.trans h0 hs; clear hs; clear x0 x1 x2 x3 x4 x5 x6 x7 x8 x9 x10; obtain ⟨x0, x1, x2, x3, x4, x5, x6, x7, x8, x9, x10⟩ := hd_cells Hb.out))
    go_ret
    exact ⟨rfl, h0⟩

theorem rmay_any (h : Hd) (hsm : SmallH h) (w : World) :
    Calls Try.prog 66 #[hv h] w fun e w' => e = .returned (.bool (mayH h)) ∧ Stp w w' := by
  by_cases hx : h.name = [] ∨ okT h.name 100 = false ∨ okT h.link 100 = false ∨ okT h.pre 155 = false ∨ putOk h.mode 8 = false ∨ putOk h.uid 8 = false ∨ putOk h.gid 8 = false ∨ putOk h.size 12 = false ∨ putOk h.time 12 = false
  · rw [may_no hx]
    exact rmay_early h hsm w hx
  · simp only [not_or, Bool.not_eq_false] at hx
    obtain ⟨a0, a1, a2, a3, a4, a5, a6, a7, a8⟩ := hx
    exact rmay_late h hsm w a0 a1 a2 a3 a4 a5 a6 a7 a8
end Go.Proofs.Ytihigbaaajmjlaa.Head
