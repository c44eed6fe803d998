/- Contract of package disk's Names. -/
import Derived.Test.YthgopedojgbaoaaDkMore
import Derived.Test.YthgopedojgbaoaaIter
namespace Go.Proofs.Ythgopedojgbaoaa
open Go.RowKit Go.Maps Go.WideMaps Go.ChangeMaps Go.Sort Go.Shelf
set_option linter.unusedVariables false
set_option linter.unusedSimpArgs false
set_option maxRecDepth 100000

section
variable {w w1 : World} {X X1 : Nat → Prop} {d m : Nat} {D : DataW Unit} {C : Nat → Value} {S : St}
theorem DskAt.strKeys_perm (h : DskAt w X d m D C S) (hok : S.ok) : ∃ ks : List (List UInt8), ks.Nodup ∧ (∀ k, k ∈ ks ↔ (S.V k).isSome = true) ∧ ks.Perm (strKeys D) := by
  obtain ⟨ks, h1, h2, h3, _⟩ := hok.tot
  obtain ⟨es, rfl, hp⟩ := h.map.tidy kS
  refine ⟨ks, h1, h3, perm_strKeys hp (fun p hp' => ?_) h1 (fun x => ?_)⟩
  · obtain ⟨es', e', hk⟩ := h.map.keysOf
    cases e'
    have := hk p hp'
    obtain ⟨key, hkey⟩ := this
    obtain ⟨x, _, hx, _⟩ := Maps.keyOf_str Try.underlying9 hkey
    exact ⟨x, hx⟩
  · rw [h3 x, h.has x]
/-- What Names answers of a disk that is up. -/
def NamesD (w : World) (S : St) (e : Ending) (w' : World) : Prop := ∃ v ts, e = .returned v ∧ NamesOf S.V ts ∧ w'.ownsRow w.heap.size 9 1 v ts.length (ts.map Go.Proofs.encStr) ∧ Below w.heap.size w w'
theorem Names_nil (w : World) : Calls Try.prog 22 #[.pointer none] w fun e w' => e = .returned (.slice none 0 0) ∧ Drawn w w' := by
  go_enter Try.func22, Try.ntmps22
  go_wp2_with fail
  refine (ready_nil w).mono ?_
  rintro e w1 ⟨rfl, hd⟩
  go_wp2_with fail
  go_ret
  exact ⟨rfl, hd⟩
theorem Names_down (h : Dsk w X d S) (hdn : S.down = true) : Calls Try.prog 22 #[.pointer (some ⟨d, 0, none⟩)] w fun e w' => e = .returned (.slice none 0 0) ∧ Drawn w w' := by
  obtain ⟨m, _, _, _, _, q4, _⟩ := h.cells
  rw [hdn] at q4
  go_enter Try.func22, Try.ntmps22
  go_wp2_with fail
  refine (ready_down d w q4).mono ?_
  rintro e w1 ⟨rfl, hd⟩
  go_wp2_with fail
  go_ret
  exact ⟨rfl, hd⟩
set_option maxHeartbeats 1000000 in
theorem Names_up (h : Dsk w X d S) (hdn : S.down = false) : Calls Try.prog 22 #[.pointer (some ⟨d, 0, none⟩)] w (NamesD w S) := by
  obtain ⟨hok, m, D, C, h⟩ := h
  obtain ⟨_, _, q2, _, q4⟩ := h.cells
  rw [hdn] at q4
  have hcn := hok.cnt
  obtain ⟨ks, hk1, hk2, hk3⟩ := h.strKeys_perm hok
  have hlt := h.map.lt
  have hfin : ∀ (w1 w' : World) (v : Value) (ss : List (List UInt8)), Drawn w w1 → ss.Perm (strKeys D) →
      w'.ownsRow (w1.alloc (.cells #[.map (some m)] 50)).heap.size 9 1 v ss.length ((ss.mergeSort (fun x y => decide (x ≤ y))).map Go.Proofs.encStr) → Below (w1.alloc (.cells #[.map (some m)] 50)).heap.size (w1.alloc (.cells #[.map (some m)] 50)) w' →
      NamesD w S (.returned v) w' := by
    intro w1 w' v ss hd hss hrow hb
    obtain ⟨q, rfl⟩ := hd
    have e1 : ss.mergeSort (fun x y => decide (x ≤ y)) = ks.mergeSort leB := mergeSort_of_perm (hss.trans hk3.symm)
    have e2 : ss.length = (ks.mergeSort leB).length := by rw [← e1, List.length_mergeSort]
    rw [e1, e2] at hrow
    refine ⟨v, ks.mergeSort leB, rfl, ⟨ks, hk1, hk2, rfl⟩, own_base hrow (by simp), ?_⟩
    have hb2 : Below w.heap.size w ((w.drewN q).alloc (.cells #[.map (some m)] 50)) := ((Drawn.one w q).below (Below.refl w.heap.size w)).alloc (Nat.le_refl _) _
    exact hb2.trans (hb.mono (by simp))
  have hmx : Maps.size D ≤ maxLen ∧ Maps.size D * 16 ≤ 140737488355328 := by rw [h.sz]; unfold maxLen; omega
  have HFIN := Lib.hid hfin
  have HMX := Lib.hid hmx
  clear hfin hmx hk2
  refine (callsIn_wide (n := 6)).1 ?_
  have hfR : Fence.wide.fn 30 := trivial
  have hfK : Fence.wide.fn 39 := trivial
  have hfS : Fence.wide.fn 38 := trivial
  refine callsIn_of_wp Try.func22 rfl trivial ?_ rfl
  simp only [Try.ntmps22, List.size_toArray, List.length_cons, List.length_nil, Nat.reduceAdd, Nat.reduceSub, Array.replicate_succ, Array.replicate_zero, List.push_toArray, List.append_toArray, List.nil_append, List.cons_append]
  gi_wp2_with (first
    | (gi_at_call 30; refine (callsIn_wide.2 (ready_up d w q4)).mono ?_; rintro e w1 ⟨rfl, hd⟩; have p2 : w1.cell? ⟨d, 2, none⟩ = some (.map (some m)) := (by obtain ⟨q, rfl⟩ := hd; exact q2); have hown1 := (h.drawn hd).map)
    | (gi_at_call 39; refine (keys_it _ _).mono ?_; rintro e w' ⟨rfl, rfl⟩)
    | (gi_at_call 38; refine (sorted_it m _ D ptrR _ hown1 HMX.out.1 HMX.out.2).mono ?_; rintro e w' ⟨v, ss, rfl, hS, hrow, hnil, hb⟩))
  go_ret
  exact HFIN.out w1 w' v ss hd hS hrow hb
end
end Go.Proofs.Ythgopedojgbaoaa
