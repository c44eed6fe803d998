/- Contracts of package disk's add (all ways) and deed. -/
import Derived.Test.YthgopedojgbaoaaDkAdd2
import Derived.Outline
namespace Go.Proofs.Ythgopedojgbaoaa
open Go.RowKit Go.Maps Go.WideMaps Go.ChangeMaps
set_option linter.unusedVariables false
set_option linter.unusedSimpArgs false
set_option maxRecDepth 100000

section
variable {w w1 : World} {X : Nat → Prop} {d m : Nat} {D : DataW Unit} {C : Nat → Value} {S : St}
theorem add_any (h : Dsk w X d S) (s : ByteArray) (A : Option Addr) (n c B : Nat) (x : List Nat) (hrd : Reads w B 1 A n (bs x)) (hB : B ≤ w.heap.size) (hx : ∀ b ∈ x, b < 256) (hm : n ≤ maxLen) :
    Calls Try.prog 24 #[.pointer (some ⟨d, 0, none⟩), .string s, .slice A n c] w (Ans w X d (S.add s.data.toList x)) := by
  obtain ⟨hok, m, D, C, h⟩ := h
  have hlx := len_of x n hrd
  cases hn : nm s.data.toList with
  | false => exact add_no h hok s A n c x hn
  | true =>
    cases hv : S.V s.data.toList with
    | none =>
      by_cases hc : S.n = 65536
      · exact add_many h hok s A n c x hn hv hc
      · by_cases hf : S.room - S.used < n
        · exact add_full_new h hok s A n c x hlx hm hn hv hc hf
        · exact add_new h hok s A n c B x hrd hB hx hm hn hv hc (by omega)
    | some f =>
      obtain ⟨b, hat, _⟩ := h.fs _ f hv
      by_cases hf : S.room - S.used < n
      · exact add_full_old h hok s A n c x hlx hm hn hat hv hf
      · exact add_old h hok s A n c B x hrd hx hm hn hat hv (by omega)

theorem Dsk.at_ (h : Dsk w X d S) : ∃ m D C, DskAt w X d m D C S := h.2
theorem Dsk.cells (h : Dsk w X d S) : ∃ m, w.cell? ⟨d, 0, none⟩ = some (.int .i64 (S.room : Int)) ∧ w.cell? ⟨d, 1, none⟩ = some (.int .i64 (S.used : Int)) ∧ w.cell? ⟨d, 2, none⟩ = some (.map (some m)) ∧ w.cell? ⟨d, 3, none⟩ = some (.int .i64 S.fuse) ∧ w.cell? ⟨d, 4, none⟩ = some (.bool S.down) ∧ (∀ i, w.frozen? ⟨d, i, none⟩ = false) := by
  obtain ⟨hok, m, D, C, h⟩ := h
  obtain ⟨a, b, c, d, e⟩ := h.cells
  exact ⟨m, a, b, c, d, e, h.free⟩
theorem Dsk.fell (h : Dsk w X d S) : Dsk (w.setCell ⟨d, 4, none⟩ (.bool true)) X d { S with down := true } ∧ Step w X (w.setCell ⟨d, 4, none⟩ (.bool true)) X := by
  obtain ⟨hok, m, D, C, h⟩ := h
  refine ⟨⟨hok.fell _, m, D, C, h.setObj (by simp [World.setCell]) (fun i _ hi => Below.heap_setCell _ _ _ _ hi) (by have := h.obj.set_ 4 (.bool true); exact this) rfl rfl⟩, (Step.refl w X).setCell h.xd _⟩
theorem Dsk.ticked (h : Dsk w X d S) (hf : 0 < S.fuse) (z : Int) (hz : z = S.fuse - 1) : Dsk (w.setCell ⟨d, 3, none⟩ (.int .i64 z)) X d S.tick ∧ Step w X (w.setCell ⟨d, 3, none⟩ (.int .i64 z)) X := by
  obtain ⟨hok, m, D, C, h⟩ := h
  subst hz
  have e : S.tick = { S with fuse := S.fuse - 1 } := by unfold St.tick; rw [if_pos hf]
  refine ⟨⟨hok.tick, m, D, C, ?_⟩, (Step.refl w X).setCell h.xd _⟩
  rw [e]
  exact h.setObj (by simp [World.setCell]) (fun i _ hi => Below.heap_setCell _ _ _ _ hi) (by have := h.obj.set_ 3 (.int .i64 (S.fuse - 1)); exact this) rfl rfl
theorem tick_neg (hf : ¬ 0 < S.fuse) : S.tick = S := by unfold St.tick; rw [if_neg hf]
theorem Ans.from {r : Nat × St} {e : Ending} {w2 : World} (h : Ans w1 X d r e w2) {w0 : World} {X0 : Nat → Prop} (hs : Step w0 X0 w1 X) : Ans w0 X0 d r e w2 := ⟨h.1, h.2.from hs⟩
/-- A function that is entered. -/
def Enters (F : FuncId) : Prop := ∀ (args : Array Value) (w : World), (callFunc F args).run Try.prog w = .ok (.enter F args) w
/-- What stands ready for the function value that a deed calls. -/
def Whole (w : World) (X : Nat → Prop) (d : Nat) (F : FuncId) (c : Array Value) (S : St) (r : Nat × St) : Prop :=
  ∀ w1, Dsk w1 X d S → Step w X w1 X → Calls Try.prog F c w1 (Ans w1 X d r)
def Ahead (w : World) (X : Nat → Prop) (d : Nat) (F : FuncId) (c : Array Value) (S S' : St) : Prop :=
  ∀ w1, Dsk w1 X d S → Step w X w1 X → Calls Try.prog F c w1 fun e w2 => ∃ v : Int, e = .returned (.int .i64 v) ∧ Did w1 X d S' w2
theorem deed_down {F1 F2 : FuncId} {c1 c2 : Array Value} (h : Dsk w X d S) (whole ahead : St → Nat × St) (hdn : S.down = true) :
    Calls Try.prog 25 #[.pointer (some ⟨d, 0, none⟩), .func (.func F1) #[] c1, .func (.func F2) #[] c2] w (Ans w X d (S.deed whole ahead)) := by
  have he : S.deed whole ahead = (15, S) := by unfold St.deed; rw [if_pos hdn]
  rw [he]
  obtain ⟨m, q0, q1, q2, q3, q4, fz⟩ := h.cells
  rw [hdn] at q4
  clear hdn he
  go_enter Try.func25, Try.ntmps25
  go_wp2_with fail
  refine (ready_down d w q4).mono ?_
  rintro e w1 ⟨rfl, hd⟩
  go_wp2_with fail
  go_ret
  exact ⟨rfl, Did.none h hd⟩
theorem deed_neg {F1 F2 : FuncId} {c1 c2 : Array Value} (h : Dsk w X d S) (whole ahead : St → Nat × St) (hdn : S.down = false) (hf : S.fuse < 0) (hw : Whole w X d F1 c1 S.tick (whole S.tick)) (hE : Enters F1) :
    Calls Try.prog 25 #[.pointer (some ⟨d, 0, none⟩), .func (.func F1) #[] c1, .func (.func F2) #[] c2] w (Ans w X d (S.deed whole ahead)) := by
  have he : S.deed whole ahead = whole S.tick := by unfold St.deed; rw [if_neg (by simp [hdn]), if_neg (by omega)]
  rw [he]
  have ht := tick_neg (S := S) (by omega)
  rw [ht] at hw ⊢
  obtain ⟨r, hr⟩ : ∃ r, whole S = r := ⟨_, rfl⟩
  rw [hr] at hw ⊢
  obtain ⟨m, q0, q1, q2, q3, q4, fz⟩ := h.cells
  obtain ⟨fu, hfu⟩ : ∃ fu, S.fuse = fu := ⟨_, rfl⟩
  rw [hfu] at q3 hf
  rw [hdn] at q4
  have hfe : (fu == 0) = false := by simp; omega
  have hfl : fu ≤ 0 := by omega
  clear hdn he ht hr hfu fz
  unfold Enters at hE
  go_enter Try.func25, Try.ntmps25
  go_wp2_with fail
  refine (ready_up d w q4).mono ?_
  rintro e w1 ⟨rfl, hd⟩
  have p3 : w1.cell? ⟨d, 3, none⟩ = some (.int .i64 fu) := by obtain ⟨q, rfl⟩ := hd; exact q3
  go_wp2_with fail
  refine (hw w1 (h.drawn hd) (Step.of_drawn hd X)).mono ?_
  rintro e w2 ⟨rfl, h2⟩
  go_wp2_with fail
  go_ret
  exact ⟨rfl, h2.from (Step.of_drawn hd X)⟩
theorem deed_pos {F1 F2 : FuncId} {c1 c2 : Array Value} (h : Dsk w X d S) (whole ahead : St → Nat × St) (hdn : S.down = false) (hf : 0 < S.fuse) (hw : Whole w X d F1 c1 S.tick (whole S.tick)) (hE : Enters F1) :
    Calls Try.prog 25 #[.pointer (some ⟨d, 0, none⟩), .func (.func F1) #[] c1, .func (.func F2) #[] c2] w (Ans w X d (S.deed whole ahead)) := by
  have he : S.deed whole ahead = whole S.tick := by unfold St.deed; rw [if_neg (by simp [hdn]), if_neg (by omega)]
  rw [he]
  have hti := fun (w' : World) (h' : Dsk w' X d S) => Dsk.ticked h' hf (S.fuse - 1) rfl
  obtain ⟨r, hr⟩ : ∃ r, whole S.tick = r := ⟨_, rfl⟩
  rw [hr] at hw ⊢
  obtain ⟨m, q0, q1, q2, q3, q4, fz⟩ := h.cells
  have hfr := h.1.fuse
  obtain ⟨fu, hfu⟩ : ∃ fu, S.fuse = fu := ⟨_, rfl⟩
  rw [hfu] at q3 hf hti hfr
  rw [hdn] at q4
  have hfe : (fu == 0) = false := by simp; omega
  have f3 := fz 3
  obtain ⟨hf1, hf2⟩ := hfr
  have HTI := Lib.hid hti
  clear hdn he hr hfu fz hti
  unfold Enters at hE
  go_enter Try.func25, Try.ntmps25
  go_wp2_with fail
  refine (ready_up d w q4).mono ?_
  rintro e w1 ⟨rfl, hd⟩
  have p3 : w1.cell? ⟨d, 3, none⟩ = some (.int .i64 fu) := by obtain ⟨q, rfl⟩ := hd; exact q3
  have g3 : w1.frozen? ⟨d, 3, none⟩ = false := by obtain ⟨q, rfl⟩ := hd; exact f3
  go_wp2_with fail
  have h1 := HTI.out w1 (h.drawn hd)
  refine (hw _ h1.1 ((Step.of_drawn hd X).trans h1.2)).mono ?_
  rintro e w2 ⟨rfl, h2⟩
  have H1 := Lib.hid h1
  clear h1
  go_wp2_with fail
  go_ret
  exact ⟨rfl, h2.from ((Step.of_drawn hd X).trans H1.out.2)⟩
theorem deed_zero {F1 F2 : FuncId} {c1 c2 : Array Value} (h : Dsk w X d S) (whole ahead : St → Nat × St) (hdn : S.down = false) (hf : S.fuse = 0) (ha : Ahead w X d F2 c2 S (ahead S).2) (hE : Enters F2) :
    Calls Try.prog 25 #[.pointer (some ⟨d, 0, none⟩), .func (.func F1) #[] c1, .func (.func F2) #[] c2] w (Ans w X d (S.deed whole ahead)) := by
  have he : S.deed whole ahead = (15, { (ahead S).2 with down := true }) := by unfold St.deed; rw [if_neg (by simp [hdn]), if_pos hf]
  rw [he]
  obtain ⟨S2, hr⟩ : ∃ S2, (ahead S).2 = S2 := ⟨_, rfl⟩
  rw [hr] at ha ⊢
  obtain ⟨m, q0, q1, q2, q3, q4, fz⟩ := h.cells
  rw [hf] at q3
  rw [hdn] at q4
  clear hdn he hr hf fz
  unfold Enters at hE
  go_enter Try.func25, Try.ntmps25
  go_wp2_with fail
  refine (ready_up d w q4).mono ?_
  rintro e w1 ⟨rfl, hd⟩
  have p3 : w1.cell? ⟨d, 3, none⟩ = some (.int .i64 0) := by obtain ⟨q, rfl⟩ := hd; exact q3
  go_wp2_with fail
  refine (ha w1 (h.drawn hd) (Step.of_drawn hd X)).mono ?_
  rintro e w2 ⟨v, rfl, X2, h2, hs2⟩
  obtain ⟨m2, u0, u1, u2, u3, u4, fz2⟩ := h2.cells
  have f4 := fz2 4
  clear fz2
  go_wp2_with fail
  go_ret
  exact ⟨rfl, X2, h2.fell.1, ((Step.of_drawn hd X).trans hs2).trans h2.fell.2⟩
theorem deed_any {F1 F2 : FuncId} {c1 c2 : Array Value} (h : Dsk w X d S) (whole ahead : St → Nat × St) (hw : Whole w X d F1 c1 S.tick (whole S.tick)) (ha : Ahead w X d F2 c2 S (ahead S).2) (hE1 : Enters F1) (hE2 : Enters F2) :
    Calls Try.prog 25 #[.pointer (some ⟨d, 0, none⟩), .func (.func F1) #[] c1, .func (.func F2) #[] c2] w (Ans w X d (S.deed whole ahead)) := by
  cases hdn : S.down with
  | true => exact deed_down h whole ahead hdn
  | false =>
    rcases Int.lt_trichotomy S.fuse 0 with hf | hf | hf
    · exact deed_neg h whole ahead hdn hf hw hE1
    · exact deed_zero h whole ahead hdn hf ha hE2
    · exact deed_pos h whole ahead hdn hf hw hE1
theorem deed_nil {F1 F2 : FuncId} {c1 c2 : Array Value} (w : World) : Calls Try.prog 25 #[.pointer none, .func (.func F1) #[] c1, .func (.func F2) #[] c2] w fun e w' => e = .returned (.int .i64 1) ∧ Drawn w w' := by
  go_enter Try.func25, Try.ntmps25
  go_wp2_with fail
  refine (ready_nil w).mono ?_
  rintro e w1 ⟨rfl, hd⟩
  go_wp2_with fail
  go_ret
  exact ⟨rfl, hd⟩
end
end Go.Proofs.Ythgopedojgbaoaa
