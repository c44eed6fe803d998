/- Contracts of package disk's Append, Sync, Delete, Cut. -/
import Derived.Test.YthgopedojgbaoaaDkActs
namespace Go.Proofs.Ythgopedojgbaoaa
open Go.RowKit Go.Maps Go.WideMaps Go.ChangeMaps
set_option linter.unusedVariables false
set_option linter.unusedSimpArgs false
set_option maxRecDepth 100000

section
variable {w w1 : World} {X X1 : Nat → Prop} {d m : Nat} {D : DataW Unit} {C : Nat → Value} {S : St}
theorem append1_any (a1 a2 a3 : Nat) (s : ByteArray) (A : Option Addr) (n c : Nat) (x : List Nat) (h : Dsk w X d S) (hs : Src w X A n x)
    (c1 : w.cell? ⟨a1, 0, none⟩ = some (.pointer (some ⟨d, 0, none⟩))) (c2 : w.cell? ⟨a2, 0, none⟩ = some (.string s)) (c3 : w.cell? ⟨a3, 0, none⟩ = some (.slice A n c)) :
    Calls Try.prog 23 #[.pointer (some ⟨a1, 0, none⟩), .pointer (some ⟨a2, 0, none⟩), .pointer (some ⟨a3, 0, none⟩)] w (Ans w X d (S.add s.data.toList x)) := by
  have hcall := add_any h s A n c w.heap.size x hs.rd (Nat.le_refl _) hs.byte hs.le
  obtain ⟨r, hr⟩ : ∃ r, S.add s.data.toList x = r := ⟨_, rfl⟩
  rw [hr] at hcall ⊢
  have HC := Lib.hid hcall
  clear hr hcall
  go_enter Try.func23, Try.ntmps23
  go_wp2_with fail
  refine HC.out.mono ?_
  rintro e w2 ⟨rfl, h2⟩
  go_wp2_with fail
  go_ret
  exact ⟨rfl, h2⟩
theorem Append_any (h : Dsk w X d S) (s : ByteArray) (A : Option Addr) (n c : Nat) (x : List Nat) (hs : Src w X A n x) :
    Calls Try.prog 9 #[.pointer (some ⟨d, 0, none⟩), .string s, .slice A n c] w (Ans w X d (S.deed (fun T => T.add s.data.toList x) (fun T => T.add s.data.toList x))) := by
  obtain ⟨k1, k2, k3⟩ := box3_cells w (.pointer (some ⟨d, 0, none⟩)) (.string s) (.slice A n c) 24 9 26
  have ksz := box3_size w (.pointer (some ⟨d, 0, none⟩)) (.string s) (.slice A n c) 24 9 26
  have hlt := h.lt
  have hD := ((h.alloc (.cells #[.pointer (some ⟨d, 0, none⟩)] 24)).alloc (.cells #[.string s] 9)).alloc (.cells #[.slice A n c] 26)
  have hst := (((Step.refl w X).alloc (.cells #[.pointer (some ⟨d, 0, none⟩)] 24)).alloc (.cells #[.string s] 9)).alloc (.cells #[.slice A n c] 26)
  have hnx : ∀ i, w.heap.size ≤ i → ¬ X i := fun i hi e => by have := hlt i e; omega
  have hone : ∀ (T : St) (w1 : World), Dsk w1 X d T → Step (((w.alloc (.cells #[.pointer (some ⟨d, 0, none⟩)] 24)).alloc (.cells #[.string s] 9)).alloc (.cells #[.slice A n c] 26)) X w1 X →
      Calls Try.prog 23 #[.pointer (some ⟨w.heap.size, 0, none⟩), .pointer (some ⟨w.heap.size + 1, 0, none⟩), .pointer (some ⟨w.heap.size + 2, 0, none⟩)] w1 (Ans w1 X d (T.add s.data.toList x)) :=
    fun T w1 h1 hs1 => append1_any (w.heap.size) (w.heap.size + 1) (w.heap.size + 2) s A n c x h1 (hs.step (hst.trans hs1))
      (hs1.at_ k1 (by show w.heap.size < (box3 _ _ _ _ _ _ _).heap.size; rw [ksz]; omega) (hnx _ (Nat.le_refl _)))
      (hs1.at_ k2 (by show w.heap.size + 1 < (box3 _ _ _ _ _ _ _).heap.size; rw [ksz]; omega) (hnx _ (by show w.heap.size ≤ w.heap.size + 1; omega)))
      (hs1.at_ k3 (by show w.heap.size + 2 < (box3 _ _ _ _ _ _ _).heap.size; rw [ksz]; omega) (hnx _ (by show w.heap.size ≤ w.heap.size + 2; omega)))
  have hdeed := deed_any (F1 := 23) (F2 := 23) (c1 := #[.pointer (some ⟨w.heap.size, 0, none⟩), .pointer (some ⟨w.heap.size + 1, 0, none⟩), .pointer (some ⟨w.heap.size + 2, 0, none⟩)])
    (c2 := #[.pointer (some ⟨w.heap.size, 0, none⟩), .pointer (some ⟨w.heap.size + 1, 0, none⟩), .pointer (some ⟨w.heap.size + 2, 0, none⟩)]) hD (fun T => T.add s.data.toList x) (fun T => T.add s.data.toList x)
    (fun w1 h1 hs1 => hone _ w1 h1 hs1) (fun w1 h1 hs1 => (hone _ w1 h1 hs1).mono (fun e w2 ⟨he, h2⟩ => ⟨_, he, h2⟩)) enters_append enters_append
  obtain ⟨r, hr⟩ : ∃ r, S.deed (fun T => T.add s.data.toList x) (fun T => T.add s.data.toList x) = r := ⟨_, rfl⟩
  rw [hr] at hdeed ⊢
  have hf := hmf
  have HD := Lib.hid hdeed
  have HST := Lib.hid hst
  clear hr hdeed hst hD k1 k2 k3 ksz hnx hlt h hs hone
  go_enter Try.func9, Try.ntmps9
  go_wp2_with fail
  refine HD.out.mono ?_
  rintro e w2 ⟨rfl, h2⟩
  go_wp2_with fail
  go_ret
  exact ⟨rfl, h2.from HST.out⟩
theorem sync1_ok (k : List UInt8) (T : St) : ActOk w X d k 27 #[] (actSync k) T := by
  intro w1 m D C b f hok h hst hat hf
  obtain ⟨f0, hf0, hF⟩ := h.some_of hat
  rw [hf] at hf0
  cases hf0
  obtain ⟨A, c, hC, hc1, hc2, hr⟩ := own_slice hF.own
  have b0 : w1.cell? ⟨b, 0, none⟩ = some (.slice A f.1.length c) := by rw [hF.blk.cell 0, hC]; rfl
  have b1 : w1.cell? ⟨b, 1, none⟩ = some (.int .i64 (f.2 : Int)) := hF.blk.cell 1
  have g1 := hF.blk.frozen 1
  have hfin : Ans w1 X d (actSync k T f) (.returned (.int .i64 0)) (w1.setCell ⟨b, 1, none⟩ (.int .i64 (f.1.length : Int))) := by
    refine ⟨rfl, X, ⟨hok.sync hf, m, D, _, h.setFile (f' := (f.1, f.1.length)) (v' := C b) hat (by simp [World.setCell]) (fun _ e => e) (fun i hi => by have := h.lt i hi; simpa [World.setCell] using this) (fun i hi hne _ => Below.heap_setCell _ _ _ _ (by exact hne)) ⟨hF.x, ?_, ?_, hF.row⟩ (fun g e => .inl e)⟩, (Step.refl w1 X).setCell hF.x _⟩
    · have := hF.blk.set_ 1 (.int .i64 (f.1.length : Int))
      exact this
    · exact own_keep hF.own (fun g e => Below.heap_setCell _ _ _ _ (by exact hF.g_ne_b hF g e))
  have HFIN := Lib.hid hfin
  obtain ⟨r, hr⟩ : ∃ r, actSync k T f = r := ⟨_, rfl⟩
  rw [hr] at hfin ⊢
  have HFIN := Lib.hid hfin
  clear hr hfin hf
  show Calls Try.prog _ #[.pointer (some ⟨b, 0, none⟩)] w1 _
  go_enter Try.func27, Try.ntmps27
  go_wp2_with fail
  go_ret
  exact HFIN.out
theorem Sync_any (h : Dsk w X d S) (s : ByteArray) :
    Calls Try.prog 10 #[.pointer (some ⟨d, 0, none⟩), .string s] w (Ans w X d (S.deed (fun T => T.on s.data.toList (actSync s.data.toList)) (fun T => (0, T)))) := by
  have hcall := change_any h s 27 #[] enters_sync (actSync s.data.toList) (sync1_ok _ _)
  obtain ⟨r, hr⟩ : ∃ r, S.deed (fun T => T.on s.data.toList (actSync s.data.toList)) (fun T => (0, T)) = r := ⟨_, rfl⟩
  rw [hr] at hcall ⊢
  have HC := Lib.hid hcall
  clear hr hcall
  go_enter Try.func10, Try.ntmps10
  go_wp2_with fail
  refine HC.out.mono ?_
  rintro e w2 ⟨rfl, h2⟩
  go_wp2_with fail
  go_ret
  exact ⟨rfl, h2⟩
end
end Go.Proofs.Ythgopedojgbaoaa
