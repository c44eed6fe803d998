/- Contract of the statements' do: an act on a disk in memory. -/
import Derived.Test.YthgopedojgbaoaaDoPlain
import Derived.Test.YthgopedojgbaoaaDkBoot2
namespace Go.Proofs.Ythgopedojgbaoaa
open Go.RowKit Go.Maps Go.WideMaps Go.ChangeMaps
set_option linter.unusedVariables false
set_option linter.unusedSimpArgs false
set_option maxRecDepth 100000

def Ac.cells (x : Ac) : List Value := [.int .i64 x.kind, .string x.name, .string x.to, .slice x.bA x.b.length x.bc, .int .i64 x.n, .slice x.kA x.ks.length x.kc]
abbrev TA : TypeId := 42
section
variable {w w1 : World} {X X1 : Nat → Prop} {d : Nat} {S : St} {x : Ac}
/-- What an act holds lies apart from the disk. -/
structure ActAt (w : World) (X : Nat → Prop) (x : Ac) : Prop where
  src : Src w X x.bA x.b.length x.b
  ints : Ints w X x.kA x.ks.length x.kc x.ks
  n : -9223372036854775808 ≤ x.n ∧ x.n < 9223372036854775808
theorem ActAt.step (h : ActAt w X x) (hs : Step w X w1 X1) : ActAt w1 X1 x := ⟨h.src.step hs, h.ints.step hs, h.n⟩
def DoneAc (w : World) (X : Nat → Prop) (d : Nat) (x : Ac) (S : St) (e : Ending) (w' : World) : Prop :=
  ∃ r, DoR x S r ∧ e = .returned (.int .i64 (r.1 : Int)) ∧ Did w X d r.2 w'
theorem DoneAc.ans {r : Nat × St} {e : Ending} {w2 : World} (hr : DoR x S r) (h : Ans w1 X d r e w2) (hs : Step w X w1 X) : DoneAc w X d x S e w2 := ⟨r, hr, h.1, h.2.from hs⟩
theorem box_step (w : World) (X : Nat → Prop) (x : Ac) : Step w X (w.alloc (.cells x.cells.toArray TA)) X := (Step.refl w X).alloc _
theorem do_append (h : Dsk w X d S) (hx : ActAt w X x) (hk : x.kind = 0 ∨ x.kind = 1) :
    Calls Try.prog 18 #[.pointer (some ⟨d, 0, none⟩), .agg x.cells.toArray] w (DoneAc w X d x S) := by
  have hst := box_step w X x
  have hc := Append_any (h.alloc (.cells x.cells.toArray TA)) x.name x.bA x.b.length x.bc x.b (hx.src.step hst)
  have hr : DoR x S (addS S x.name.data.toList x.b) := by
    unfold DoR
    rw [if_pos hk]
  have hfin := fun e w2 h => DoneAc.ans (w := w) (d := d) (e := e) (w2 := w2) hr h hst
  clear hr hx h hst
  obtain ⟨kind, name, to, b, bA, bc, n, ks, kA, kc⟩ := x
  obtain ⟨m, hm⟩ : ∃ m, b.length = m := ⟨_, rfl⟩
  obtain ⟨mk, hmk⟩ : ∃ m, ks.length = m := ⟨_, rfl⟩
  simp only [Ac.cells] at hc hk hfin ⊢
  rw [hm, hmk] at hc hfin ⊢
  have HC := Lib.hid hc
  have HF := Lib.hid hfin
  clear hc hm hmk hfin
  rcases hk with rfl | rfl
  all_goals
    go_enter Try.func18, Try.ntmps18
    go_wp2_with fail
    refine HC.out.mono ?_
    rintro e w2 hA
    have hf := HF.out _ _ hA
    obtain ⟨he, _⟩ := hA
    subst he
    go_wp2_with fail
    go_ret
    exact hf
theorem do_sync (h : Dsk w X d S) (hx : ActAt w X x) (hk : x.kind = 2) :
    Calls Try.prog 18 #[.pointer (some ⟨d, 0, none⟩), .agg x.cells.toArray] w (DoneAc w X d x S) := by
  have hst := box_step w X x
  have hc := Sync_any (h.alloc (.cells x.cells.toArray TA)) x.name
  have hr : DoR x S (onS S x.name.data.toList (actSync x.name.data.toList)) := by
    unfold DoR
    rw [if_neg (by omega), if_pos hk]
  have hfin := fun e w2 h => DoneAc.ans (w := w) (d := d) (e := e) (w2 := w2) hr h hst
  clear hr hx h hst
  obtain ⟨kind, name, to, b, bA, bc, n, ks, kA, kc⟩ := x
  obtain ⟨m, hm⟩ : ∃ m, b.length = m := ⟨_, rfl⟩
  obtain ⟨mk, hmk⟩ : ∃ m, ks.length = m := ⟨_, rfl⟩
  simp only [Ac.cells] at hc hk hfin ⊢
  rw [hm, hmk] at hc hfin ⊢
  have HC := Lib.hid hc
  have HF := Lib.hid hfin
  clear hc hm hmk hfin
  subst hk
  all_goals
    go_enter Try.func18, Try.ntmps18
    go_wp2_with fail
    refine HC.out.mono ?_
    rintro e w2 hA
    have hf := HF.out _ _ hA
    obtain ⟨he, _⟩ := hA
    subst he
    go_wp2_with fail
    go_ret
    exact hf
theorem do_rename (h : Dsk w X d S) (hx : ActAt w X x) (hk : x.kind = 3) :
    Calls Try.prog 18 #[.pointer (some ⟨d, 0, none⟩), .agg x.cells.toArray] w (DoneAc w X d x S) := by
  have hst := box_step w X x
  have hc := Rename_any (h.alloc (.cells x.cells.toArray TA)) x.name x.to
  have hr : DoR x S (onS S x.name.data.toList (actRen x.name.data.toList x.to.data.toList)) := by
    unfold DoR
    rw [if_neg (by omega), if_neg (by omega), if_pos hk]
  have hfin := fun e w2 h => DoneAc.ans (w := w) (d := d) (e := e) (w2 := w2) hr h hst
  clear hr hx h hst
  obtain ⟨kind, name, to, b, bA, bc, n, ks, kA, kc⟩ := x
  obtain ⟨m, hm⟩ : ∃ m, b.length = m := ⟨_, rfl⟩
  obtain ⟨mk, hmk⟩ : ∃ m, ks.length = m := ⟨_, rfl⟩
  simp only [Ac.cells] at hc hk hfin ⊢
  rw [hm, hmk] at hc hfin ⊢
  have HC := Lib.hid hc
  have HF := Lib.hid hfin
  clear hc hm hmk hfin
  subst hk
  all_goals
    go_enter Try.func18, Try.ntmps18
    go_wp2_with fail
    refine HC.out.mono ?_
    rintro e w2 hA
    have hf := HF.out _ _ hA
    obtain ⟨he, _⟩ := hA
    subst he
    go_wp2_with fail
    go_ret
    exact hf
theorem do_delete (h : Dsk w X d S) (hx : ActAt w X x) (hk : x.kind = 4) :
    Calls Try.prog 18 #[.pointer (some ⟨d, 0, none⟩), .agg x.cells.toArray] w (DoneAc w X d x S) := by
  have hst := box_step w X x
  have hc := Delete_any (h.alloc (.cells x.cells.toArray TA)) x.name
  have hr : DoR x S (onS S x.name.data.toList (actDel x.name.data.toList)) := by
    unfold DoR
    rw [if_neg (by omega), if_neg (by omega), if_neg (by omega), if_pos hk]
  have hfin := fun e w2 h => DoneAc.ans (w := w) (d := d) (e := e) (w2 := w2) hr h hst
  clear hr hx h hst
  obtain ⟨kind, name, to, b, bA, bc, n, ks, kA, kc⟩ := x
  obtain ⟨m, hm⟩ : ∃ m, b.length = m := ⟨_, rfl⟩
  obtain ⟨mk, hmk⟩ : ∃ m, ks.length = m := ⟨_, rfl⟩
  simp only [Ac.cells] at hc hk hfin ⊢
  rw [hm, hmk] at hc hfin ⊢
  have HC := Lib.hid hc
  have HF := Lib.hid hfin
  clear hc hm hmk hfin
  subst hk
  all_goals
    go_enter Try.func18, Try.ntmps18
    go_wp2_with fail
    refine HC.out.mono ?_
    rintro e w2 hA
    have hf := HF.out _ _ hA
    obtain ⟨he, _⟩ := hA
    subst he
    go_wp2_with fail
    go_ret
    exact hf
theorem do_cut (h : Dsk w X d S) (hx : ActAt w X x) (hk : x.kind = 5) :
    Calls Try.prog 18 #[.pointer (some ⟨d, 0, none⟩), .agg x.cells.toArray] w (DoneAc w X d x S) := by
  have hst := box_step w X x
  have hc := Cut_any (h.alloc (.cells x.cells.toArray TA)) x.name x.n hx.n
  have hr : DoR x S (onS S x.name.data.toList (actCut x.name.data.toList x.n)) := by
    unfold DoR
    rw [if_neg (by omega), if_neg (by omega), if_neg (by omega), if_neg (by omega), if_pos hk]
  have hfin := fun e w2 h => DoneAc.ans (w := w) (d := d) (e := e) (w2 := w2) hr h hst
  clear hr hx h hst
  obtain ⟨kind, name, to, b, bA, bc, n, ks, kA, kc⟩ := x
  obtain ⟨m, hm⟩ : ∃ m, b.length = m := ⟨_, rfl⟩
  obtain ⟨mk, hmk⟩ : ∃ m, ks.length = m := ⟨_, rfl⟩
  simp only [Ac.cells] at hc hk hfin ⊢
  rw [hm, hmk] at hc hfin ⊢
  have HC := Lib.hid hc
  have HF := Lib.hid hfin
  clear hc hm hmk hfin
  subst hk
  all_goals
    go_enter Try.func18, Try.ntmps18
    go_wp2_with fail
    refine HC.out.mono ?_
    rintro e w2 hA
    have hf := HF.out _ _ hA
    obtain ⟨he, _⟩ := hA
    subst he
    go_wp2_with fail
    go_ret
    exact hf
theorem do_fuse (h : Dsk w X d S) (hx : ActAt w X x) (hk : x.kind = 6) :
    Calls Try.prog 18 #[.pointer (some ⟨d, 0, none⟩), .agg x.cells.toArray] w (DoneAc w X d x S) := by
  have hst := box_step w X x
  have hc := Fuse_any (h.alloc (.cells x.cells.toArray TA)) x.n hx.n
  have hfin : ∀ (e : Ending) w2, Did (w.alloc (.cells x.cells.toArray TA)) X d { S with fuse := x.n } w2 → DoneAc w X d x S (.returned (.int .i64 0)) w2 := fun e w2 hh => ⟨(0, { S with fuse := x.n }), by unfold DoR; rw [if_neg (by omega), if_neg (by omega), if_neg (by omega), if_neg (by omega), if_neg (by omega), if_pos hk], rfl, hh.from hst⟩
  clear hx h hst
  obtain ⟨kind, name, to, b, bA, bc, n, ks, kA, kc⟩ := x
  obtain ⟨m, hm⟩ : ∃ m, b.length = m := ⟨_, rfl⟩
  obtain ⟨mk, hmk⟩ : ∃ m, ks.length = m := ⟨_, rfl⟩
  simp only [Ac.cells] at hc hk hfin ⊢
  rw [hm] at hc hfin ⊢
  rw [hmk] at hc hfin ⊢
  have HC := Lib.hid hc
  have HF := Lib.hid hfin
  clear hc hm hmk hfin
  subst hk
  all_goals
    go_enter Try.func18, Try.ntmps18
    go_wp2_with fail
    refine HC.out.mono ?_
    rintro e w2 hA
    have hf := HF.out e _ hA.2
    obtain ⟨he, _⟩ := hA
    subst he
    go_wp2_with fail
    go_ret
    exact hf
theorem do_boot (h : Dsk w X d S) (hx : ActAt w X x) (hk : x.kind = 7) :
    Calls Try.prog 18 #[.pointer (some ⟨d, 0, none⟩), .agg x.cells.toArray] w (DoneAc w X d x S) := by
  have hst := box_step w X x
  have hc := Boot_any (h.alloc (.cells x.cells.toArray TA)) x.kA x.ks.length x.kc x.ks (hx.ints.step hst)
  have hfin : ∀ e w2, BootD (w.alloc (.cells x.cells.toArray TA)) X d S x.ks e w2 → DoneAc w X d x S (.returned (.int .i64 0)) w2 := fun e w2 hh => by
    obtain ⟨_, ts, hts, hD, hs⟩ := hh
    exact ⟨(0, (bootS ts ({ S with down := false, fuse := -1 }, x.ks)).1), by unfold DoR; rw [if_neg (by omega), if_neg (by omega), if_neg (by omega), if_neg (by omega), if_neg (by omega), if_neg (by omega), if_pos hk]; exact ⟨ts, hts, rfl⟩, rfl, _, hD, hst.trans hs⟩
  clear hx h hst
  obtain ⟨kind, name, to, b, bA, bc, n, ks, kA, kc⟩ := x
  obtain ⟨m, hm⟩ : ∃ m, b.length = m := ⟨_, rfl⟩
  obtain ⟨mk, hmk⟩ : ∃ m, ks.length = m := ⟨_, rfl⟩
  simp only [Ac.cells] at hc hk hfin ⊢
  rw [hm] at hc hfin ⊢
  rw [hmk] at hc hfin ⊢
  have HC := Lib.hid hc
  have HF := Lib.hid hfin
  clear hc hm hmk hfin
  subst hk
  all_goals
    go_enter Try.func18, Try.ntmps18
    go_wp2_with fail
    refine HC.out.mono ?_
    rintro e w2 hA
    have hf := HF.out _ _ hA
    obtain ⟨he, _⟩ := hA
    subst he
    go_wp2_with fail
    go_ret
    exact hf
theorem do_none (h : Dsk w X d S) (hk : ∀ k : Int, 0 ≤ k → k ≤ 7 → x.kind ≠ k) :
    Calls Try.prog 18 #[.pointer (some ⟨d, 0, none⟩), .agg x.cells.toArray] w (DoneAc w X d x S) := by
  have hst := box_step w X x
  have k0 := hk 0 (by omega) (by omega)
  have k1 := hk 1 (by omega) (by omega)
  have k2 := hk 2 (by omega) (by omega)
  have k3 := hk 3 (by omega) (by omega)
  have k4 := hk 4 (by omega) (by omega)
  have k5 := hk 5 (by omega) (by omega)
  have k6 := hk 6 (by omega) (by omega)
  have k7 := hk 7 (by omega) (by omega)
  have hfin : DoneAc w X d x S (.returned (.int .i64 0)) (w.alloc (.cells x.cells.toArray TA)) := ⟨(0, S), by unfold DoR; rw [if_neg (by omega), if_neg k2, if_neg k3, if_neg k4, if_neg k5, if_neg k6, if_neg k7], rfl, X, h.alloc _, hst⟩
  clear hk h hst
  obtain ⟨kind, name, to, b, bA, bc, n, ks, kA, kc⟩ := x
  obtain ⟨m, hm⟩ : ∃ m, b.length = m := ⟨_, rfl⟩
  obtain ⟨mk, hmk⟩ : ∃ m, ks.length = m := ⟨_, rfl⟩
  simp only [Ac.cells] at hfin k0 k1 k2 k3 k4 k5 k6 k7 ⊢
  rw [hm, hmk] at hfin ⊢
  have HF := Lib.hid hfin
  clear hm hmk hfin
  have e0 := decide_eq_false k0
  have e1 := decide_eq_false k1
  have e2 := decide_eq_false k2
  have e3 := decide_eq_false k3
  have e4 := decide_eq_false k4
  have e5 := decide_eq_false k5
  have e6 := decide_eq_false k6
  have e7 := decide_eq_false k7
  go_enter Try.func18, Try.ntmps18
  go_wp2_with fail
  go_ret
  exact HF.out
theorem do_any (h : Dsk w X d S) (hx : ActAt w X x) :
    Calls Try.prog 18 #[.pointer (some ⟨d, 0, none⟩), .agg x.cells.toArray] w (DoneAc w X d x S) := by
  by_cases h0 : x.kind = 0 ∨ x.kind = 1
  · exact do_append h hx h0
  by_cases h2 : x.kind = 2
  · exact do_sync h hx h2
  by_cases h3 : x.kind = 3
  · exact do_rename h hx h3
  by_cases h4 : x.kind = 4
  · exact do_delete h hx h4
  by_cases h5 : x.kind = 5
  · exact do_cut h hx h5
  by_cases h6 : x.kind = 6
  · exact do_fuse h hx h6
  by_cases h7 : x.kind = 7
  · exact do_boot h hx h7
  exact do_none h fun k hk0 hk7 => by omega
end
end Go.Proofs.Ythgopedojgbaoaa
