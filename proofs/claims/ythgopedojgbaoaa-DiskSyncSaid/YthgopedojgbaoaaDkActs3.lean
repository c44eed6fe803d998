/- Contracts of package disk's Delete, Cut. -/
import Derived.Test.YthgopedojgbaoaaDkActs2
namespace Go.Proofs.Ythgopedojgbaoaa
open Go.RowKit Go.Maps Go.WideMaps Go.ChangeMaps
set_option linter.unusedVariables false
set_option linter.unusedSimpArgs false
set_option maxRecDepth 100000

section
variable {w w1 : World} {X X1 : Nat → Prop} {d m : Nat} {D : DataW Unit} {C : Nat → Value} {S : St}
def box2 (w : World) (v1 v2 : Value) (t1 t2 : TypeId) : World := (w.alloc (.cells #[v1] t1)).alloc (.cells #[v2] t2)
theorem box2_cells (w : World) (v1 v2 : Value) (t1 t2 : TypeId) : (box2 w v1 v2 t1 t2).cell? ⟨w.heap.size, 0, none⟩ = some v1 ∧ (box2 w v1 v2 t1 t2).cell? ⟨w.heap.size + 1, 0, none⟩ = some v2 := by
  have b1 := (Blk.new w t1 #[v1]).alloc (.cells #[v2] t2)
  have b2 := Blk.new (w.alloc (.cells #[v1] t1)) t2 #[v2]
  simp only [World.size_alloc] at b2
  exact ⟨b1.cell 0, b2.cell 0⟩
theorem box2_size (w : World) (v1 v2 : Value) (t1 t2 : TypeId) : (box2 w v1 v2 t1 t2).heap.size = w.heap.size + 2 := by simp [box2]
theorem delete1_ok (a1 a2 : Nat) (s : ByteArray) (T : St) (c1 : w.cell? ⟨a1, 0, none⟩ = some (.pointer (some ⟨d, 0, none⟩))) (c2 : w.cell? ⟨a2, 0, none⟩ = some (.string s))
    (l1 : a1 < w.heap.size) (l2 : a2 < w.heap.size) (n1 : ¬ X a1) (n2 : ¬ X a2) :
    ActOk w X d s.data.toList 36 #[.pointer (some ⟨a1, 0, none⟩), .pointer (some ⟨a2, 0, none⟩)] (actDel s.data.toList) T := by
  intro w1 m D C b f hok h hst hat hf
  have p1 := hst.at_ c1 l1 n1
  have p2 := hst.at_ c2 l2 n2
  have hcall := remove_any h hok s (nm_size (hok.name _ _ hf))
  have hgone := hok.gone s.data.toList
  clear c1 c2 l1 l2 n1 n2 hst
  have HC := Lib.hid hcall
  clear hcall
  show Calls Try.prog _ #[.pointer (some ⟨b, 0, none⟩), .pointer (some ⟨a1, 0, none⟩), .pointer (some ⟨a2, 0, none⟩)] w1 _
  go_enter Try.func36, Try.ntmps36
  go_wp2_with fail
  refine HC.out.mono ?_
  rintro e w2 ⟨rfl, hs2, D', h2, _⟩
  have H2 := Lib.hid h2
  clear h2
  go_wp2_with fail
  go_ret
  exact ⟨rfl, X, ⟨hgone, m, D', C, H2.out⟩, hs2⟩
theorem Delete_any (h : Dsk w X d S) (s : ByteArray) :
    Calls Try.prog 20 #[.pointer (some ⟨d, 0, none⟩), .string s] w (Ans w X d (S.deed (fun T => T.on s.data.toList (actDel s.data.toList)) (fun T => (0, T)))) := by
  obtain ⟨k1, k2⟩ := box2_cells w (.pointer (some ⟨d, 0, none⟩)) (.string s) 24 9
  have ksz := box2_size w (.pointer (some ⟨d, 0, none⟩)) (.string s) 24 9
  have hlt := h.lt
  have hD := (h.alloc (.cells #[.pointer (some ⟨d, 0, none⟩)] 24)).alloc (.cells #[.string s] 9)
  have hst := ((Step.refl w X).alloc (.cells #[.pointer (some ⟨d, 0, none⟩)] 24)).alloc (.cells #[.string s] 9)
  have hnx : ∀ i, w.heap.size ≤ i → ¬ X i := fun i hi e => by have := hlt i e; omega
  have hcall := change_any hD s 36 #[.pointer (some ⟨w.heap.size, 0, none⟩), .pointer (some ⟨w.heap.size + 1, 0, none⟩)] enters_delete (actDel s.data.toList)
    (delete1_ok w.heap.size (w.heap.size + 1) s _ k1 k2 (by show w.heap.size < (box2 _ _ _ _ _).heap.size; rw [ksz]; omega) (by show w.heap.size + 1 < (box2 _ _ _ _ _).heap.size; rw [ksz]; omega) (hnx _ (Nat.le_refl _)) (hnx _ (by omega)))
  obtain ⟨r, hr⟩ : ∃ r, S.deed (fun T => T.on s.data.toList (actDel s.data.toList)) (fun T => (0, T)) = r := ⟨_, rfl⟩
  rw [hr] at hcall ⊢
  have hf := hmf
  have HC := Lib.hid hcall
  have HST := Lib.hid hst
  clear hr hcall hst hD k1 k2 ksz hnx hlt h
  go_enter Try.func20, Try.ntmps20
  go_wp2_with fail
  refine HC.out.mono ?_
  rintro e w2 ⟨rfl, h2⟩
  go_wp2_with fail
  go_ret
  exact ⟨rfl, h2.from HST.out⟩
theorem cut1_ok (a1 a2 : Nat) (n : Int) (hn : -9223372036854775808 ≤ n ∧ n < 9223372036854775808) (k : List UInt8) (T : St) (c1 : w.cell? ⟨a1, 0, none⟩ = some (.int .i64 n)) (c2 : w.cell? ⟨a2, 0, none⟩ = some (.pointer (some ⟨d, 0, none⟩)))
    (l1 : a1 < w.heap.size) (l2 : a2 < w.heap.size) (n1 : ¬ X a1) (n2 : ¬ X a2) :
    ActOk w X d k 37 #[.pointer (some ⟨a1, 0, none⟩), .pointer (some ⟨a2, 0, none⟩)] (actCut k n) T := by
  intro w1 m D C b f hok h hst hat hf
  have p1 := hst.at_ c1 l1 n1
  have p2 := hst.at_ c2 l2 n2
  obtain ⟨f0, hf0, hF⟩ := h.some_of hat
  rw [hf] at hf0
  cases hf0
  obtain ⟨A, c, hC, hc1, hc2, hr⟩ := own_slice hF.own
  have b0 : w1.cell? ⟨b, 0, none⟩ = some (.slice A f.1.length c) := by rw [hF.blk.cell 0, hC]; rfl
  have hlen := hok.len hf
  clear c1 c2 l1 l2 n1 n2 hst hF hr hC
  show Calls Try.prog _ #[.pointer (some ⟨b, 0, none⟩), .pointer (some ⟨a1, 0, none⟩), .pointer (some ⟨a2, 0, none⟩)] w1 _
  by_cases h0 : n < 0
  · have he : actCut k n T f = (5, T) := by unfold actCut; rw [if_pos (.inl h0)]
    rw [he]
    clear he hf
    go_enter Try.func37, Try.ntmps37
    go_wp2_with fail
    go_quiet (fail)
    go_wp2_with fail
    go_ret
    exact Ans.of (h.drawn ⟨_, rfl⟩) hok (Step.of_drawn ⟨_, rfl⟩ X)
  · by_cases h1 : (f.1.length : Int) < n
    · have he : actCut k n T f = (5, T) := by unfold actCut; rw [if_pos (.inr h1)]
      rw [he]
      obtain ⟨l, hl⟩ : ∃ l, f.1.length = l := ⟨_, rfl⟩
      rw [hl] at b0 h1 hlen
      have h0e : decide (n < 0) = false := by simpa using h0
      clear he hf hl hc1
      go_enter Try.func37, Try.ntmps37
      go_wp2_with fail
      go_quiet (fail)
      go_wp2_with fail
      go_ret
      exact Ans.of (h.drawn ⟨_, rfl⟩) hok (Step.of_drawn ⟨_, rfl⟩ X)
    · have he : actCut k n T f = (0, T.cut k f n.toNat) := by unfold actCut; rw [if_neg (by omega)]
      rw [he]
      obtain ⟨l, hl⟩ : ∃ l, f.1.length = l := ⟨_, rfl⟩
      have hcall : ∀ w2, Drawn w1 w2 → _ := fun w2 hd => cut_any (h.drawn hd) hok hat hf n.toNat (by omega)
      have hok2 := hok.cut (m := n.toNat) hf (by omega)
      rw [hl] at b0 h1 hlen
      have h0e : decide (n < 0) = false := by simpa using h0
      have h1e : decide ((l : Int) < n) = false := by simpa using h1
      obtain ⟨n', rfl⟩ : ∃ n' : Nat, n = (n' : Int) := ⟨n.toNat, by omega⟩
      have HC := Lib.hid hcall
      clear he hf hl hc1 hcall hn
      go_enter Try.func37, Try.ntmps37
      go_wp2_with fail
      go_quiet (fail)
      go_wp2_with fail
      refine (HC.out _ ⟨_, rfl⟩).mono ?_
      rintro e w2 ⟨rfl, hs2, C', h2⟩
      have H2 := Lib.hid h2
      clear h2
      go_wp2_with fail
      go_ret
      exact ⟨rfl, X, ⟨hok2, m, D, C', H2.out⟩, (Step.of_drawn ⟨_, rfl⟩ X).trans hs2⟩
theorem Cut_any (h : Dsk w X d S) (s : ByteArray) (n : Int) (hn : -9223372036854775808 ≤ n ∧ n < 9223372036854775808) :
    Calls Try.prog 21 #[.pointer (some ⟨d, 0, none⟩), .string s, .int .i64 n] w (Ans w X d (S.deed (fun T => T.on s.data.toList (actCut s.data.toList n)) (fun T => (0, T)))) := by
  obtain ⟨k1, k2⟩ := box2_cells w (.pointer (some ⟨d, 0, none⟩)) (.int .i64 n) 24 3
  have ksz := box2_size w (.pointer (some ⟨d, 0, none⟩)) (.int .i64 n) 24 3
  have hlt := h.lt
  have hD := (h.alloc (.cells #[.pointer (some ⟨d, 0, none⟩)] 24)).alloc (.cells #[.int .i64 n] 3)
  have hst := ((Step.refl w X).alloc (.cells #[.pointer (some ⟨d, 0, none⟩)] 24)).alloc (.cells #[.int .i64 n] 3)
  have hnx : ∀ i, w.heap.size ≤ i → ¬ X i := fun i hi e => by have := hlt i e; omega
  have hcall := change_any hD s 37 #[.pointer (some ⟨w.heap.size + 1, 0, none⟩), .pointer (some ⟨w.heap.size, 0, none⟩)] enters_cut (actCut s.data.toList n)
    (cut1_ok (w.heap.size + 1) w.heap.size n hn s.data.toList _ k2 k1 (by show w.heap.size + 1 < (box2 _ _ _ _ _).heap.size; rw [ksz]; omega) (by show w.heap.size < (box2 _ _ _ _ _).heap.size; rw [ksz]; omega) (hnx _ (by omega)) (hnx _ (Nat.le_refl _)))
  obtain ⟨r, hr⟩ : ∃ r, S.deed (fun T => T.on s.data.toList (actCut s.data.toList n)) (fun T => (0, T)) = r := ⟨_, rfl⟩
  rw [hr] at hcall ⊢
  have hf := hmf
  have HC := Lib.hid hcall
  have HST := Lib.hid hst
  clear hr hcall hst hD k1 k2 ksz hnx hlt h
  go_enter Try.func21, Try.ntmps21
  go_wp2_with fail
  refine HC.out.mono ?_
  rintro e w2 ⟨rfl, h2⟩
  go_wp2_with fail
  go_ret
  exact ⟨rfl, h2.from HST.out⟩
end
end Go.Proofs.Ythgopedojgbaoaa
