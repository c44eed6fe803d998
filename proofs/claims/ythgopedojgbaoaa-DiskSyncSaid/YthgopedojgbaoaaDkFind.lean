/- Contracts of package disk's ready, find, remove. -/
import Derived.Test.YthgopedojgbaoaaDkName
namespace Go.Proofs.Ythgopedojgbaoaa
open Go.RowKit Go.Maps Go.WideMaps
set_option linter.unusedVariables false
set_option linter.unusedSimpArgs false
set_option maxRecDepth 100000

theorem DskAt.cells {w : World} {X : Nat → Prop} {d m : Nat} {D : DataW Unit} {C : Nat → Value} {S : St} (h : DskAt w X d m D C S) :
    w.cell? ⟨d, 0, none⟩ = some (.int .i64 (S.room : Int)) ∧ w.cell? ⟨d, 1, none⟩ = some (.int .i64 (S.used : Int)) ∧ w.cell? ⟨d, 2, none⟩ = some (.map (some m)) ∧ w.cell? ⟨d, 3, none⟩ = some (.int .i64 S.fuse) ∧ w.cell? ⟨d, 4, none⟩ = some (.bool S.down) :=
  ⟨h.obj.cell 0, h.obj.cell 1, h.obj.cell 2, h.obj.cell 3, h.obj.cell 4⟩
theorem DskAt.free {w : World} {X : Nat → Prop} {d m : Nat} {D : DataW Unit} {C : Nat → Value} {S : St} (h : DskAt w X d m D C S) (i : Nat) : w.frozen? ⟨d, i, none⟩ = false := h.obj.frozen i

theorem ready_nil (w : World) : Calls Try.prog 30 #[.pointer none] w fun e w' => e = .returned (.int .i64 1) ∧ Drawn w w' := by
  go_enter Try.func30, Try.ntmps30
  go_wp2_with fail
  go_ret
  exact ⟨rfl, Drawn.refl _⟩
theorem ready_down (d : Nat) (w : World) (h : w.cell? ⟨d, 4, none⟩ = some (.bool true)) : Calls Try.prog 30 #[.pointer (some ⟨d, 0, none⟩)] w fun e w' => e = .returned (.int .i64 15) ∧ Drawn w w' := by
  go_enter Try.func30, Try.ntmps30
  go_wp2_with fail
  go_ret
  exact ⟨rfl, Drawn.refl _⟩
theorem ready_up (d : Nat) (w : World) (h : w.cell? ⟨d, 4, none⟩ = some (.bool false)) : Calls Try.prog 30 #[.pointer (some ⟨d, 0, none⟩)] w fun e w' => e = .returned (.int .i64 0) ∧ Drawn w w' := by
  go_enter Try.func30, Try.ntmps30
  go_wp2_with fail
  go_ret
  exact ⟨rfl, Drawn.refl _⟩

section
variable {w : World} {X : Nat → Prop} {d m : Nat} {D : DataW Unit} {C : Nat → Value} {S : St}
theorem key_of {s : ByteArray} (hs : s.size ≤ maxLen) : keyOf Try.prog 9 (.string s) = some (.string s.data.toList) := keyOf_string_mk Try.underlying9 hs
theorem find_no (h : DskAt w X d m D C S) (s : ByteArray) (hn : nm s.data.toList = false) :
    Calls Try.prog 31 #[.pointer (some ⟨d, 0, none⟩), .string s] w fun e w' => e = .returned (.tuple #[.pointer none, .int .i64 1]) ∧ Drawn w w' := by
  go_enter Try.func31, Try.ntmps31
  go_wp2_with fail
  refine (isName_any s w).mono ?_
  rintro e w1 ⟨rfl, hd⟩
  rw [hn]
  go_wp2_with fail
  go_ret2
  exact ⟨rfl, hd⟩
theorem nm_size {s : ByteArray} (h : nm s.data.toList = true) : s.size ≤ 32 := by
  unfold nm at h
  simp at h
  exact h.1.2
theorem find_none (h : DskAt w X d m D C S) (s : ByteArray) (hn : nm s.data.toList = true) (hv : S.V s.data.toList = none) :
    Calls Try.prog 31 #[.pointer (some ⟨d, 0, none⟩), .string s] w fun e w' => e = .returned (.tuple #[.pointer none, .int .i64 8]) ∧ Drawn w w' := by
  have hs := nm_size hn
  have hkey := key_of (s := s) (by unfold maxLen; omega)
  have hhas : Maps.has D (.string s.data.toList) = false := by rw [h.has, hv]; rfl
  go_enter Try.func31, Try.ntmps31
  go_wp2_with fail
  refine (isName_any s w).mono ?_
  rintro e w1 ⟨rfl, hd⟩
  rw [hn]
  have h1 : DskAt w1 X d m D C S := by obtain ⟨q, rfl⟩ := hd; exact h.keep (Nat.le_refl _) (fun _ _ => rfl)
  have c2 := h1.cells.2.2.1
  obtain ⟨v, ps, hrun, hv1⟩ := h1.map.look_ok kS Try.underlying50 (zeroF w1) ptrR_nil hkey
  rw [atKey_of_not_has hhas] at hv1
  obtain rfl := ptrR_none hv1
  rw [hhas] at hrun
  go_wp2_with fail
  go_ret2
  exact ⟨rfl, hd⟩
theorem find_some (h : DskAt w X d m D C S) (s : ByteArray) (hn : nm s.data.toList = true) {b : Nat} (hat : At D s.data.toList b) :
    Calls Try.prog 31 #[.pointer (some ⟨d, 0, none⟩), .string s] w fun e w' => e = .returned (.tuple #[.pointer (some ⟨b, 0, none⟩), .int .i64 0]) ∧ Drawn w w' := by
  have hs := nm_size hn
  have hkey := key_of (s := s) (by unfold maxLen; omega)
  obtain ⟨f, hf, _⟩ := h.some_of hat
  have hhas : Maps.has D (.string s.data.toList) = true := by rw [h.has, hf]; rfl
  go_enter Try.func31, Try.ntmps31
  go_wp2_with fail
  refine (isName_any s w).mono ?_
  rintro e w1 ⟨rfl, hd⟩
  rw [hn]
  have h1 : DskAt w1 X d m D C S := by obtain ⟨q, rfl⟩ := hd; exact h.keep (Nat.le_refl _) (fun _ _ => rfl)
  have c2 := h1.cells.2.2.1
  obtain ⟨v, ps, hrun, hv1⟩ := h1.map.look_ok kS Try.underlying50 (zeroF w1) ptrR_nil hkey
  unfold At at hat
  rw [hat] at hv1
  obtain rfl := ptrR_inv hv1
  rw [hhas] at hrun
  go_wp2_with fail
  go_ret2
  exact ⟨rfl, hd⟩
/-- The name is there no more, if it was. -/
def Removed (w : World) (X : Nat → Prop) (d m : Nat) (D : DataW Unit) (C : Nat → Value) (S : St) (k : List UInt8) (w' : World) : Prop :=
  Step w X w' X ∧ ∃ D', DskAt w' X d m D' C (S.gone k) ∧ ∀ k' b, k' ≠ k → At D k' b → At D' k' b
theorem remove_any (h : DskAt w X d m D C S) (hok : S.ok) (s : ByteArray) (hs : s.size ≤ 32) :
    Calls Try.prog 35 #[.pointer (some ⟨d, 0, none⟩), .string s] w fun e w' => e = .returned (.tuple #[]) ∧ Removed w X d m D C S s.data.toList w' := by
  have hkey := key_of (s := s) (by unfold maxLen; omega)
  obtain ⟨c0, c1, c2, c3, c4⟩ := h.cells
  obtain ⟨v, ps, hrun, hv1⟩ := h.map.look_ok kS Try.underlying50 (zeroF w) ptrR_nil hkey
  cases hv : S.V s.data.toList with
  | none =>
    have hhas : Maps.has D (.string s.data.toList) = false := by rw [h.has, hv]; rfl
    rw [atKey_of_not_has hhas] at hv1
    obtain rfl := ptrR_none hv1
    rw [hhas] at hrun
    go_enter Try.func35, Try.ntmps35
    go_wp2_with fail
    go_end0
    refine ⟨rfl, Step.refl _ _, D, ?_, fun _ _ _ e => e⟩
    unfold St.gone
    rw [hv]
    exact h
  | some f =>
    obtain ⟨b, hat, hF⟩ := h.fs _ f hv
    have hhas : Maps.has D (.string s.data.toList) = true := by rw [h.has, hv]; rfl
    have hat0 := hat
    unfold At at hat
    rw [hat] at hv1
    obtain rfl := ptrR_inv hv1
    rw [hhas] at hrun
    obtain ⟨A, c, hC, hc1, hc2, hr⟩ := own_slice hF.own
    have b0 : w.cell? ⟨b, 0, none⟩ = some (.slice A f.1.length c) := by rw [hF.blk.cell 0, hC]; rfl
    have f1 := h.free 1
    have hbd := hF.ne_d h
    have hle := hok.tot.le hv
    have hus := hok.le; have hro := hok.room
    obtain ⟨l, hl⟩ : ∃ l, f.1.length = l := ⟨_, rfl⟩
    rw [hl] at b0 hle
    obtain ⟨u, hu⟩ : ∃ u, S.used = u := ⟨_, rfl⟩
    rw [hu] at c1 hle hus
    have hu2 : u ≤ 1099511627776 := by omega
    have hset : ∀ z : Int, z = (u : Int) - (l : Int) → DskAt (w.setCell ⟨d, 1, none⟩ (.int .i64 z)) X d m D C { S with used := u - l } := by
      intro z hz
      obtain rfl : z = ((u - l : Nat) : Int) := by omega
      exact h.setObj (w' := w.setCell ⟨d, 1, none⟩ (.int .i64 ((u - l : Nat) : Int))) (S' := { S with used := u - l }) (by simp [World.setCell]) (fun i _ hi => Below.heap_setCell _ _ _ _ hi)
        (by have := h.obj.set_ 1 (.int .i64 ((u - l : Nat) : Int)); exact this) rfl rfl
    have hfin : ∀ w1 w2 : World, DskAt w1 X d m D C { S with used := u - l } → w2.ownsMap Try.prog 9 ptrR m S.n (D.del (.string s.data.toList)) → w1.mapTurned w2 m → DskAt w2 X d m (D.del (.string s.data.toList)) C (S.gone s.data.toList) := by
      intro w1 w2 h1 h2 h3
      have hg := h3.grown
      have := h1.del hv hg.size h2 (fun i hi hne => hg.block i (h1.lt i hi) (fun e => hne (by injection e)))
      unfold St.gone
      rw [hv]
      simp only
      rw [hl, hu]
      exact this
    have HSET := Lib.hid hset; clear hset
    have HFIN := Lib.hid hfin; clear hfin
    have HL := Lib.hid hl; clear hl
    have HU := Lib.hid hu; clear hu
    go_enter Try.func35, Try.ntmps35
    go_wp2_with fail
    go_region
    have hset := HSET.out _ rfl
    have g2 := hset.cells.2.2.1
    go_wp2_with (first
      | (at_delete; refine wpList_delete_own _ rfl _ _ 50 9 rfl 56 kS Try.underlying50 ptrR m S.n D rfl (show World.ownsMap _ _ _ _ _ _ _ from hset.map) _ _ rfl hkey ?_; intro w1 hown1 hturn1)
      | go_in)
    go_end0
    refine ⟨rfl, (((Step.refl w X).setCell h.xd _).drewN 1).grown hturn1.grown (fun g e => by cases e; exact .inl h.xm), _, HFIN.out _ w1 ?_ hown1 hturn1, fun k' b' hne ha => At.del.2 ⟨hne, ha⟩⟩
    exact hset.keep (Nat.le_refl _) (fun _ _ => rfl)
end
end Go.Proofs.Ythgopedojgbaoaa
