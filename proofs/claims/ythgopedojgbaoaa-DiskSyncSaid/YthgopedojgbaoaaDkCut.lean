/- Contract of package disk's cut. -/
import Derived.Test.YthgopedojgbaoaaDkFind
namespace Go.Proofs.Ythgopedojgbaoaa
open Go.RowKit Go.Maps Go.WideMaps
set_option linter.unusedVariables false
set_option linter.unusedSimpArgs false
set_option maxRecDepth 100000

theorem own_shape {w : World} {base : Nat} {e : TypeId} {size n c : Nat} {A : Option Addr} {xs : List Value} (h : w.ownsRow base e size (.slice A n c) n xs) : (A = none ∧ n = 0 ∧ c = 0) ∨ ∃ g, A = some ⟨g, 0, none⟩ := by
  rcases h.2 with ⟨hv, hn⟩ | ⟨g, cap, cur, hv, _⟩
  · injection hv with a1 a2 a3
    exact .inl ⟨a1, hn, a3⟩
  · injection hv with a1 a2 a3
    exact .inr ⟨g, a1⟩
theorem own_len (A : Option Addr) (n n' c c' : Nat) : (Value.slice A n c).ownBlock = (Value.slice A n' c').ownBlock := by cases A <;> rfl
section
variable {w : World} {X : Nat → Prop} {d m : Nat} {D : DataW Unit} {C : Nat → Value} {S : St}
theorem cut_any (h : DskAt w X d m D C S) (hok : S.ok) {k : List UInt8} {b : Nat} {f : Fl} (hat : At D k b) (hf : S.V k = some f) (n : Nat) (hn : n ≤ f.1.length) :
    Calls Try.prog 28 #[.pointer (some ⟨d, 0, none⟩), .pointer (some ⟨b, 0, none⟩), .int .i64 (n : Int)] w fun e w' => e = .returned (.tuple #[]) ∧ Step w X w' X ∧ ∃ C', DskAt w' X d m D C' (S.cut k f n) := by
  obtain ⟨f0, hf0, hF⟩ := h.some_of hat
  rw [hf] at hf0
  cases hf0
  obtain ⟨c0, c1, c2, c3, c4⟩ := h.cells
  obtain ⟨A, c, hC, hc1, hc2, hr⟩ := own_slice hF.own
  have hown := hF.own
  rw [hC] at hown
  have b0 : w.cell? ⟨b, 0, none⟩ = some (.slice A f.1.length c) := by rw [hF.blk.cell 0, hC]; rfl
  have b1 : w.cell? ⟨b, 1, none⟩ = some (.int .i64 (f.2 : Int)) := hF.blk.cell 1
  have f1 := h.free 1
  have g0 := hF.blk.frozen 0
  have g1 := hF.blk.frozen 1
  have hbd := hF.ne_d h
  have hdb := hbd.symm
  have hle := hok.tot.le hf
  have hus := hok.le; have hro := hok.room
  have hsr := hok.sure _ _ hf
  have hfin : ∀ z y : Int, z = (S.used : Int) - ((f.1.length : Int) - (n : Int)) → y = ((min f.2 n : Nat) : Int) →
      DskAt (((w.setCell ⟨d, 1, none⟩ (.int .i64 z)).setCell ⟨b, 0, none⟩ (.slice A n c)).setCell ⟨b, 1, none⟩ (.int .i64 y)) X d m D (fun i => if i = b then .slice A n c else C i) (S.cut k f n) := by
    intro z y hz hy
    obtain rfl : z = ((S.used - (f.1.length - n) : Nat) : Int) := by omega
    subst hy
    have h1 := h.setObj (w' := w.setCell ⟨d, 1, none⟩ (.int .i64 ((S.used - (f.1.length - n) : Nat) : Int))) (S' := { S with used := S.used - (f.1.length - n) }) (by simp [World.setCell]) (fun i _ hi => Below.heap_setCell _ _ _ _ hi)
        (by have := h.obj.set_ 1 (.int .i64 ((S.used - (f.1.length - n) : Nat) : Int)); exact this) rfl rfl
    have hF1 : FileIn (w.setCell ⟨d, 1, none⟩ (.int .i64 ((S.used - (f.1.length - n) : Nat) : Int))) X (C b) b f :=
      hF.keep (fun _ e => e) (Below.heap_setCell _ _ _ _ hbd) (fun g e => Below.heap_setCell _ _ _ _ (hF.g_ne_d h g e))
    generalize w.setCell ⟨d, 1, none⟩ (.int .i64 ((S.used - (f.1.length - n) : Nat) : Int)) = w1 at h1 hF1 ⊢
    refine h1.setFile (f' := (f.1.take n, min f.2 n)) hat (by simp [World.setCell]) (fun _ e => e) (fun i hi => by have := h1.lt i hi; simpa [World.setCell] using this) (fun i hi hne _ => ?_) ⟨hF1.x, ?_, ?_, ?_⟩ (fun g e => .inl ?_)
    · rw [Below.heap_setCell _ _ _ _ (by exact hne), Below.heap_setCell _ _ _ _ (by exact hne)]
    · have := (hF1.blk.set_ 0 (.slice A n c)).set_ 1 (.int .i64 ((min f.2 n : Nat) : Int))
      exact this
    · have h2 := hF1.own
      rw [hC] at h2
      have h3 := own_cut h2 hn
      have hl : (f.1.take n).length = n := by rw [List.length_take]; omega
      rw [bs_take] at h3
      show World.ownsRow _ _ _ _ _ (f.1.take n).length _
      rw [hl]
      refine own_keep h3 (fun g e => ?_)
      have e' : (C b).ownBlock = some g := by rw [hC]; exact (own_len _ _ _ _ _).trans e
      rw [Below.heap_setCell _ _ _ _ (by exact hF.g_ne_b hF g e'), Below.heap_setCell _ _ _ _ (by exact hF.g_ne_b hF g e')]
    · intro g e
      exact hF.row g (by rw [hC]; exact (own_len _ _ _ _ _).trans e)
    · rw [hC]; exact (own_len _ _ _ _ _).trans e
  have HFIN := Lib.hid hfin; clear hfin
  obtain ⟨l, hl⟩ : ∃ l, f.1.length = l := ⟨_, rfl⟩
  rw [hl] at b0 hle hn hsr hc1 hown
  obtain ⟨u, hu⟩ : ∃ u, S.used = u := ⟨_, rfl⟩
  rw [hu] at c1 hle hus
  have hu2 : u ≤ 1099511627776 := by omega
  obtain ⟨sr, hsd⟩ : ∃ sr, f.2 = sr := ⟨_, rfl⟩
  rw [hsd] at b1 hsr
  have HL := Lib.hid hl; clear hl
  have HU := Lib.hid hu; clear hu
  have HS := Lib.hid hsd; clear hsd
  have hx := h.xd
  have hxb := hF.x
  have hnc : (n : Int) ≤ (c : Int) := by omega
  have hml : c ≤ 9223372036854775807 := by unfold maxLen at hc2; omega
  have hshape := own_shape hown
  clear hr hown hF h hok
  rcases hshape with ⟨rfl, rfl, rfl⟩ | ⟨g, rfl⟩
  · obtain rfl : n = 0 := by omega
    obtain rfl : sr = 0 := by omega
    go_enter Try.func28, Try.ntmps28
    go_wp2_with fail
    go_region
    go_wp2_with fail
    go_end0
    exact ⟨rfl, ((((Step.refl w X).setCell hx _).setCell hxb _).setCell hxb _).drew, _, (HFIN.out (u : Int) 0 (by rw [HU.out, HL.out]; simp) (by rw [HS.out]; omega)).keep (Nat.le_refl _) (fun _ _ => rfl)⟩
  rcases Nat.lt_or_ge n sr with hns | hns
  · skip
    go_enter Try.func28, Try.ntmps28
    go_wp2_with fail
    go_region
    go_wp2_with fail
    go_end0
    exact ⟨rfl, ((((Step.refl w X).setCell hx _).setCell hxb _).setCell hxb _).drewN 1, _, (HFIN.out ((u : Int) - ((l : Int) - (n : Int))) (n : Int) (by rw [HU.out, HL.out]) (by rw [HS.out]; omega)).keep (Nat.le_refl _) (fun _ _ => rfl)⟩
  · skip
    go_enter Try.func28, Try.ntmps28
    go_wp2_with fail
    go_region
    go_wp2_with fail
    go_end0
    exact ⟨rfl, ((((Step.refl w X).setCell hx _).setCell hxb _).setCell hxb _).drewN 1, _, (HFIN.out ((u : Int) - ((l : Int) - (n : Int))) (sr : Int) (by rw [HU.out, HL.out]) (by rw [HS.out]; omega)).keep (Nat.le_refl _) (fun _ _ => rfl)⟩
end
end Go.Proofs.Ythgopedojgbaoaa
