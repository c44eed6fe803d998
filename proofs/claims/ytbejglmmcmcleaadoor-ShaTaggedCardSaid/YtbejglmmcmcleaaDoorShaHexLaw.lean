/- The walk of the statement ShaHex. -/
import Derived.Test.YtbejglmmcmcleaaDoorShaAwake
import Derived.Test.YtbejglmmcmcleaaDoorShaRefHex
import Derived.Test.YtbejglmmcmcleaaDoorShaEql
import Derived.Deep.RegionHeld3
import Derived.Deep.MidRow
import Derived.Deep.DrawnRows
namespace Go.Proofs.YtbejglmmcmcleaaDoor
open Go.RowKit
set_option linter.unusedVariables false
set_option maxRecDepth 100000
attribute [local go_sem ↓] Go.wp_at_zero Go.wp_at_succ

theorem below_drew {B : Nat} {w W : World} (h : Below B w W) : Below B w W.drew := ⟨h.os, h.tape, h.output, h.size, h.block⟩
/-- What follows wants of a callee: an answer, and that what stood below still stands. -/
def Yields (B : Nat) (w : World) (f : FuncId) (args : Array Value) (v : Value) : Prop :=
  ∀ W, Below B w W → Calls Tryd.prog f args W fun e w' => e = .returned v ∧ Below B w w'
theorem hex_yields (l : List Nat) (w : World) (h32 : l.length = 32) (hl : ∀ b ∈ l, b < 256) : Yields w.heap.size w 11 #[.agg (bs l).toArray] (.string (tx (hexN l))) := fun W hb =>
  (hex_any l W h32 hl).mono fun e w' ⟨he, h⟩ => ⟨he, hb.trans (h.mono hb.size)⟩
theorem refHex_yields (l : List Nat) (w : World) (h32 : l.length = 32) (hl : ∀ b ∈ l, b < 256) : Yields w.heap.size w 12 #[.agg (bs l).toArray] (.string (tx (hexN l))) := fun W hb =>
  (refHex_any l W h32 hl).mono fun e w' ⟨he, h⟩ => ⟨he, hb.trans (h.mono hb.size)⟩
theorem awake_yields (w : World) (ht : Tab w) : Yields w.heap.size w 8 #[] (.bool true) := fun W hb =>
  (awake_any W (ht.next hb)).mono fun e w' ⟨he, h⟩ => ⟨he, hb.trans (h.mono hb.size)⟩
theorem tx_inj {l m : List Nat} (hl : ∀ b ∈ l, b < 256) (hm : ∀ b ∈ m, b < 256) (h : tx l = tx m) : l = m := by
  have h1 : l.map UInt8.ofNat = m.map UInt8.ofNat := by
    unfold tx at h
    injection h with h
    exact List.toArray_inj h
  have h2 := congrArg (List.map UInt8.toNat) h1
  rw [List.map_map, List.map_map] at h2
  have e : ∀ x : List Nat, (∀ b ∈ x, b < 256) → x.map (UInt8.toNat ∘ UInt8.ofNat) = x := by
    intro x hx
    conv => rhs; rw [← List.map_id x]
    apply List.map_congr_left
    intro b hb
    have := hx b hb
    simp only [Function.comp, id]
    exact UInt8.toNat_ofNat_of_lt' (by simpa using this)
  rwa [e l hl, e m hm] at h2
set_option maxHeartbeats 4000000 in
theorem hexLaw_any (l m : List Nat) (w : World) (h32 : l.length = 32) (m32 : m.length = 32) (hl : ∀ b ∈ l, b < 256) (hm : ∀ b ∈ m, b < 256) (ht : Tab w) :
    Calls Tryd.prog 5 #[.agg (bs l).toArray, .agg (bs m).toArray] w fun e w' => e = .returned (.bool true) ∧ Below w.heap.size w w' := by
  have hsz := (zero_of_info info_hash).2
  obtain ⟨q, hq⟩ : ∃ q : Bool, decide (l = m) = q := ⟨_, rfl⟩
  have hqs : ((tx (hexN l)).toList == (tx (hexN m)).toList) = q := by
    rw [← hq]
    by_cases h : l = m
    · subst h; simp
    · have hne : tx (hexN l) ≠ tx (hexN m) := fun e => h (hexN_inj hl hm (tx_inj (hexN_byte hl) (hexN_byte hm) e))
      have h3 : (tx (hexN l)).toList ≠ (tx (hexN m)).toList := fun e => hne (by rw [ByteArray.toList_eq, ByteArray.toList_eq] at e; exact ByteArray.ext (Array.toList_inj.1 e))
      rw [beq_eq_false_iff_ne.2 h3]
      simp [h]
  have hql := fun W => eql_hash W l m h32 m32
  rw [hq] at hql
  have hb0 : Below w.heap.size w ((w.alloc (.cells (bs l).toArray 24)).alloc (.cells (bs m).toArray 24)) := ((Below.refl _ _).alloc (Nat.le_refl _) _).alloc (by simp) _
  have hA : ((w.alloc (.cells (bs l).toArray 24)).alloc (.cells (bs m).toArray 24)).rangeAt w.heap.size 0 (bs l) := by
    intro j v hv
    rw [Nat.zero_add, ((Blk.new w 24 (bs l).toArray).alloc _).cell]
    simpa using hv
  have hB : ((w.alloc (.cells (bs l).toArray 24)).alloc (.cells (bs m).toArray 24)).rangeAt (w.heap.size + 1) 0 (bs m) := by
    intro j v hv
    have := (Blk.new (w.alloc (.cells (bs l).toArray 24)) 24 (bs m).toArray).cell j
    rw [World.size_alloc] at this
    rw [Nat.zero_add, this]
    simpa using hv
  have hs0 : ((w.alloc (.cells (bs l).toArray 24)).alloc (.cells (bs m).toArray 24)).heap.size = w.heap.size + 2 := by simp
  obtain ⟨w0, hw0⟩ : ∃ w0 : World, w0 = (w.alloc (.cells (bs l).toArray 24)).alloc (.cells (bs m).toArray 24) := ⟨_, rfl⟩
  rw [← hw0] at hb0 hA hB hs0
  have hw0' := hw0.symm
  clear hw0
  have S1 := Lib.hid (hex_yields l w0 h32 hl)
  have S2 := Lib.hid (hex_yields m w0 m32 hm)
  have S3 := Lib.hid (refHex_yields l w0 h32 hl)
  have S4 := Lib.hid (awake_yields w0 (ht.next hb0))
  have HKEEP := Lib.hid (fun (W : World) (h : Below w0.heap.size w0 W) => (show W.rangeAt w.heap.size 0 (bs l) ∧ W.rangeAt (w.heap.size + 1) 0 (bs m) from
    ⟨fun j v hv => (h.cell (p := ⟨w.heap.size, 0 + j, none⟩) (show w.heap.size < w0.heap.size by omega)).trans (hA j v hv), fun j v hv => (h.cell (p := ⟨w.heap.size + 1, 0 + j, none⟩) (show w.heap.size + 1 < w0.heap.size by omega)).trans (hB j v hv)⟩))
  have HB := Below.refl w0.heap.size w0
  have HB0 := Lib.hid hb0
  have hu := Tryd.underlying24
  have hi1 : (Tryd.prog.info? 24).map (·.size) = some (bs l).length := by rw [hsz, bs_length, h32]
  have hi2 : (Tryd.prog.info? 24).map (·.size) = some (bs m).length := by rw [hsz, bs_length, m32]
  have o1 := bs_one l
  have o2 := bs_one m
  have n1 : (bs l).length = 32 := by rw [bs_length, h32]
  have n2 : (bs m).length = 32 := by rw [bs_length, m32]
  obtain ⟨VL, hVL⟩ : ∃ V, V = bs l := ⟨_, rfl⟩
  obtain ⟨VM, hVM⟩ : ∃ V, V = bs m := ⟨_, rfl⟩
  obtain ⟨TL, hTL⟩ : ∃ V, V = tx (hexN l) := ⟨_, rfl⟩
  obtain ⟨TM, hTM⟩ : ∃ V, V = tx (hexN m) := ⟨_, rfl⟩
  rw [← hTL] at hqs S1 S3
  rw [← hTM] at hqs S2
  rw [← hVL] at S1 S3 HKEEP hi1 o1 n1 hql hw0' ⊢
  rw [← hVM] at S2 HKEEP hi2 o2 n2 hql hw0' ⊢
  clear hVL hVM hTL hTM hA hB hs0 hb0 hq h32 m32 hl hm hsz ht
  go_enter Tryd.func5, Tryd.ntmps5
  go_wp2_with fail
  refine wp_region_noPanic ?_
  refine wp_region_held_drew (S := fun w' => w'.rangeAt w.heap.size 0 VL ∧ w'.rangeAt (w.heap.size + 1) 0 VM) (by kernel_rfl) (HKEEP.out _ (below_drew HB)) (fun hHeld => ?_)
  refine wpAnyH_take (i := 0) (v := .agg VL.toArray) rfl (by kernel_rfl) (by kernel_rfl) (by kernel_rfl) (fun _ _ _ h => h) (yieldsIf_load_mid (by rfl) _ (.tmp 2) rfl (w.heap.size) 0 rfl VL _ (fun w' hS => hS.1) hu rfl hi1) (by assumption) ?_
  try simp only [Act.put, List.setIfInBounds_toArray, List.set_cons_zero, List.set_cons_succ]
  refine wpAnyH_take (i := 2) (v := .agg VL.toArray) rfl (by kernel_rfl) (by kernel_rfl) (by kernel_rfl) (fun _ _ _ h => h) (yieldsIf_load_mid (by rfl) _ (.tmp 2) rfl (w.heap.size) 0 rfl VL _ (fun w' hS => hS.1) hu rfl hi1) (by assumption) ?_
  try simp only [Act.put, List.setIfInBounds_toArray, List.set_cons_zero, List.set_cons_succ]
  refine wpAnyH_ready (rs := [1]) (by kernel_rfl) (by simp) ?_
  refine AllReadyH.cons rfl (fun K hK => ?_) AllReadyH.nil
  go_simp
  go_at_call 11
  refine (S1.out _ ?_).mono ?_
  · first | exact HB | exact below_drew HB
  clear HB hHeld
  rintro _ w1 ⟨rfl, HB⟩
  go_wp2_with fail
  refine hK.out _ _ (HKEEP.out _ HB) (fun hHeld => ?_)
  clear hK K
  try simp only [Act.put, List.setIfInBounds_toArray, List.set_cons_zero, List.set_cons_succ]
  refine wpAnyH_ready (rs := [3]) (by kernel_rfl) (by simp) ?_
  refine AllReadyH.cons rfl (fun K hK => ?_) AllReadyH.nil
  go_simp
  go_at_call 12
  refine (S3.out _ ?_).mono ?_
  · first | exact HB | exact below_drew HB
  clear HB hHeld
  rintro _ w1 ⟨rfl, HB⟩
  go_wp2_with fail
  refine hK.out _ _ (HKEEP.out _ HB) (fun hHeld => ?_)
  clear hK K
  try simp only [Act.put, List.setIfInBounds_toArray, List.set_cons_zero, List.set_cons_succ]
  refine wpAnyH_take (i := 4) (v := ?_) rfl (by kernel_rfl) (by kernel_rfl) (by kernel_rfl) (fun _ _ _ h => h) (Or.inl ⟨by rfl, ?_⟩) (by assumption) ?_
  rotate_left
  · (intro _ hSw; (try dsimp only at hSw); clear hSw; go_simp; try with_reducible rfl)
  try simp only [Act.put, List.setIfInBounds_toArray, List.set_cons_zero, List.set_cons_succ]
  refine wpAnyH_take (i := 5) (v := ?_) rfl (by kernel_rfl) (by kernel_rfl) (by kernel_rfl) (fun _ _ _ h => h) (Or.inl ⟨by rfl, ?_⟩) (by assumption) ?_
  rotate_left
  · (intro _ hSw; (try dsimp only at hSw); clear hSw; go_simp; try with_reducible rfl)
  try simp only [Act.put, List.setIfInBounds_toArray, List.set_cons_zero, List.set_cons_succ]
  refine wpAnyH_take (i := 6) (v := .agg VL.toArray) rfl (by kernel_rfl) (by kernel_rfl) (by kernel_rfl) (fun _ _ _ h => h) (yieldsIf_load_mid (by rfl) _ (.tmp 2) rfl (w.heap.size) 0 rfl VL _ (fun w' hS => hS.1) hu rfl hi1) (by assumption) ?_
  try simp only [Act.put, List.setIfInBounds_toArray, List.set_cons_zero, List.set_cons_succ]
  refine wpAnyH_take (i := 8) (v := .agg VM.toArray) rfl (by kernel_rfl) (by kernel_rfl) (by kernel_rfl) (fun _ _ _ h => h) (yieldsIf_load_mid (by rfl) _ (.tmp 3) rfl (w.heap.size + 1) 0 rfl VM _ (fun w' hS => hS.2) hu rfl hi2) (by assumption) ?_
  try simp only [Act.put, List.setIfInBounds_toArray, List.set_cons_zero, List.set_cons_succ]
  refine wpAnyH_take (i := 11) (v := .agg VL.toArray) rfl (by kernel_rfl) (by kernel_rfl) (by kernel_rfl) (fun _ _ _ h => h) (yieldsIf_load_mid (by rfl) _ (.tmp 2) rfl (w.heap.size) 0 rfl VL _ (fun w' hS => hS.1) hu rfl hi1) (by assumption) ?_
  try simp only [Act.put, List.setIfInBounds_toArray, List.set_cons_zero, List.set_cons_succ]
  refine wpAnyH_take (i := 12) (v := .agg VM.toArray) rfl (by kernel_rfl) (by kernel_rfl) (by kernel_rfl) (fun _ _ _ h => h) (yieldsIf_load_mid (by rfl) _ (.tmp 3) rfl (w.heap.size + 1) 0 rfl VM _ (fun w' hS => hS.2) hu rfl hi2) (by assumption) ?_
  try simp only [Act.put, List.setIfInBounds_toArray, List.set_cons_zero, List.set_cons_succ]
  refine wpAnyH_take (i := 13) (v := ?_) rfl (by kernel_rfl) (by kernel_rfl) (by kernel_rfl) (fun _ _ _ h => h) (Or.inl ⟨by rfl, ?_⟩) (by assumption) ?_
  rotate_left
  · (intro _ hSw; (try dsimp only at hSw); clear hSw; go_simp; try with_reducible rfl)
  try simp only [Act.put, List.setIfInBounds_toArray, List.set_cons_zero, List.set_cons_succ]
  refine wpAnyH_ready (rs := [7]) (by kernel_rfl) (by simp) ?_
  refine AllReadyH.cons rfl (fun K hK => ?_) AllReadyH.nil
  go_simp
  go_at_call 11
  refine (S1.out _ ?_).mono ?_
  · first | exact HB | exact below_drew HB
  clear HB hHeld
  rintro _ w1 ⟨rfl, HB⟩
  go_wp2_with fail
  refine hK.out _ _ (HKEEP.out _ HB) (fun hHeld => ?_)
  clear hK K
  try simp only [Act.put, List.setIfInBounds_toArray, List.set_cons_zero, List.set_cons_succ]
  refine wpAnyH_ready (rs := [9]) (by kernel_rfl) (by simp) ?_
  refine AllReadyH.cons rfl (fun K hK => ?_) AllReadyH.nil
  go_simp
  go_at_call 11
  refine (S2.out _ ?_).mono ?_
  · first | exact HB | exact below_drew HB
  clear HB hHeld
  rintro _ w1 ⟨rfl, HB⟩
  go_wp2_with fail
  refine hK.out _ _ (HKEEP.out _ HB) (fun hHeld => ?_)
  clear hK K
  try simp only [Act.put, List.setIfInBounds_toArray, List.set_cons_zero, List.set_cons_succ]
  refine wpAnyH_take (i := 10) (v := ?_) rfl (by kernel_rfl) (by kernel_rfl) (by kernel_rfl) (fun _ _ _ h => h) (Or.inl ⟨by rfl, ?_⟩) (by assumption) ?_
  rotate_left
  · (intro _ hSw; (try dsimp only at hSw); clear hSw; go_simp; try with_reducible rfl)
  try simp only [Act.put, List.setIfInBounds_toArray, List.set_cons_zero, List.set_cons_succ]
  refine wpAnyH_take (i := 14) (v := ?_) rfl (by kernel_rfl) (by kernel_rfl) (by kernel_rfl) (fun _ _ _ h => h) (Or.inl ⟨by rfl, ?_⟩) (by assumption) ?_
  rotate_left
  · (intro _ hSw; (try dsimp only at hSw); clear hSw; go_simp; try with_reducible rfl)
  try simp only [Act.put, List.setIfInBounds_toArray, List.set_cons_zero, List.set_cons_succ]
  refine wpAnyH_take (i := 15) (v := ?_) rfl (by kernel_rfl) (by kernel_rfl) (by kernel_rfl) (fun _ _ _ h => h) (Or.inl ⟨by rfl, ?_⟩) (by assumption) ?_
  rotate_left
  · (intro _ hSw; (try dsimp only at hSw); clear hSw; go_simp; try with_reducible rfl)
  try simp only [Act.put, List.setIfInBounds_toArray, List.set_cons_zero, List.set_cons_succ]
  refine wpAnyH_take (i := 16) (v := ?_) rfl (by kernel_rfl) (by kernel_rfl) (by kernel_rfl) (fun _ _ _ h => h) (Or.inl ⟨by rfl, ?_⟩) (by assumption) ?_
  rotate_left
  · (intro _ hSw; (try dsimp only at hSw); clear hSw; go_simp; try with_reducible rfl)
  try simp only [Act.put, List.setIfInBounds_toArray, List.set_cons_zero, List.set_cons_succ]
  refine wpAnyH_ready (rs := [17]) (by kernel_rfl) (by simp) ?_
  refine AllReadyH.cons rfl (fun K hK => ?_) AllReadyH.nil
  go_simp
  go_at_call 8
  refine (S4.out _ ?_).mono ?_
  · first | exact HB | exact below_drew HB
  clear HB hHeld
  rintro _ w1 ⟨rfl, HB⟩
  go_wp2_with fail
  refine hK.out _ _ (HKEEP.out _ HB) (fun hHeld => ?_)
  clear hK K
  try simp only [Act.put, List.setIfInBounds_toArray, List.set_cons_zero, List.set_cons_succ]
  refine wpAnyH_take (i := 18) (oi := { dst := some 23, op := Op.pick (Operand.tmp 21) (Operand.tmp 22) (Operand.const (Value.bool false)), type := 4, pos := "law.go:36", after := #[{ on := 16, ground := Ground.data }, { on := 17, ground := Ground.data }], guard := none }) (v := ?_) rfl (by kernel_rfl) (by kernel_rfl) (by kernel_rfl) (fun _ _ _ h => h) (Or.inl ⟨by rfl, ?_⟩) (by assumption) ?_
  rotate_left
  · (intro _ hSw; (try dsimp only at hSw); clear hSw; go_simp; try with_reducible rfl)
  try simp only [Act.put, List.setIfInBounds_toArray, List.set_cons_zero, List.set_cons_succ]
  refine wpAnyH_take (i := 19) (oi := { dst := some 4, op := Op.assign (Operand.tmp 23), type := 4, pos := "law.go:36", after := #[{ on := 18, ground := Ground.data }, { on := 17, ground := Ground.chain }, { on := 0, ground := Ground.phase }, { on := 1, ground := Ground.phase }, { on := 2, ground := Ground.phase }, { on := 3, ground := Ground.phase }, { on := 4, ground := Ground.phase }, { on := 5, ground := Ground.phase }, { on := 6, ground := Ground.phase }, { on := 7, ground := Ground.phase }, { on := 8, ground := Ground.phase }, { on := 9, ground := Ground.phase }, { on := 10, ground := Ground.phase }, { on := 11, ground := Ground.phase }, { on := 12, ground := Ground.phase }, { on := 13, ground := Ground.phase }, { on := 14, ground := Ground.phase }, { on := 15, ground := Ground.phase }, { on := 16, ground := Ground.phase }, { on := 17, ground := Ground.phase }, { on := 18, ground := Ground.phase }], guard := none }) (v := ?_) rfl (by kernel_rfl) (by kernel_rfl) (by kernel_rfl) (fun _ _ _ h => h) (Or.inl ⟨by rfl, ?_⟩) (by assumption) ?_
  rotate_left
  · (intro _ hSw; (try dsimp only at hSw); clear hSw; go_simp; try with_reducible rfl)
  try simp only [Act.put, List.setIfInBounds_toArray, List.set_cons_zero, List.set_cons_succ]
  refine wpAnyH_done (by kernel_rfl) ?_ _
  refine NoPanic.normal ?_
  go_wp2_with fail
  go_ret
  exact ⟨rfl, HB0.out.trans (HB.mono HB0.out.size)⟩
end Go.Proofs.YtbejglmmcmcleaaDoor
