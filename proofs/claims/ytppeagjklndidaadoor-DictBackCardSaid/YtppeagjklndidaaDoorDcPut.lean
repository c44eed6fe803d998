/- Contract of package dict's Put: the form by a list in new memory, or ErrLimit. -/
import Derived.Test.YtppeagjklndidaaDoorDcListed
import Derived.Test.YtppeagjklndidaaDoorDcPutL
import Derived.Test.YtppeagjklndidaaDoorJ25
namespace Go.Proofs.YtppeagjklndidaaDoor
open Go.RowKit Go.Maps
set_option linter.unusedVariables false
set_option linter.unusedSimpArgs false
set_option maxRecDepth 100000

theorem MapAt.below {w w' : World} {b m : Nat} {D : DataW Unit} (h : MapAt w b m D) (hb : Below w.heap.size w w') : MapAt w' b m D := by
  have hlt := World.ownsMap.lt h
  obtain ⟨es, clock, h1, r⟩ := h
  exact ⟨es, clock, (hb.block b hlt).trans h1, r⟩
theorem dcPut_no (A : Option Addr) (n c : Nat) (w : World) (hn : 65536 < n) :
    Calls Tryd.prog 6 #[.slice A n c] w (NewE w [] 12) := by
  go_enter Tryd.func6, Tryd.ntmps6
  go_wp2_with fail
  go_ret2
  exact ⟨.slice none 0 0, rfl, own_nil _ _ _ _, Below.refl _ _⟩
/-- The place of a number that the map tells. -/
theorem place_of (bc b m : Nat) (D : DataW Unit) (L : List Int) (z : Int) (W : World) (hc : W.cell? ⟨bc, 0, none⟩ = some (.map (some b))) (hmap : MapAt W b m D) (hat : AtD D L L.length) (hzin : In64 z) (hmem : z ∈ L) :
    Calls Tryd.prog 18 #[.int .i64 z, .pointer (some ⟨bc, 0, none⟩)] W fun e W' => e = .returned (.int .u64 (posD L z : Int)) ∧ W = W' := by
  have HKEY := Lib.hid (key_in hzin)
  have HVAL := Lib.hid (hat (posD L z) z (posD_lt hmem) (posD_at hmem))
  clear hat hmem
  go_enter Tryd.func18, Tryd.ntmps18
  go_wp2_with (first | (at_lookup; refine wpList_lookup_own_int _ rfl _ _ 41 rfl 2 45 .u64 law_i64 Tryd.underlying41 Tryd.underlying45 (zero_u64 _) b m D rfl hmap _ _ rfl HKEY.out ?_; intro cv hat hwc) | fail)
  go_ret
  have hcv : (Value.int .u64 cv) = .int .u64 (posD L z : Int) := by
    have := hat.symm.trans HVAL.out
    injection this with this
    injection this with _ this
    rw [this]
  exact ⟨by rw [hcv]; rfl, rfl⟩
theorem dc_pcB (l : List Int) : dc l = hdD (lstD l) ++ pcB (plcD l) := by unfold dc pcB; simp
set_option maxHeartbeats 1000000 in
theorem dcPut_any (A : Option Addr) (n c : Nat) (l : List Int) (w : World) (hr : Reads w w.heap.size 1 A n (zs l)) (hl : ∀ x ∈ l, In64 x) (hn : n ≤ 65536) :
    Calls Tryd.prog 6 #[.slice A n c] w (NewE w (dc l) 0) := by
  obtain ⟨i0, hi0, hz0, hz1, hz2⟩ := info_parts info_u8
  have e1 : l.length = n := by have := hr.1; rw [zs_length] at this; omega
  have hdp := dc_parts l (by omega)
  have hll := lstD_length l
  rw [e1] at hll
  have HPA := Lib.hid (fun a (ha : a ∈ plcD l) => (show a < 65536 by have := plcD_lt l a ha; omega))
  have HPL : Hid ((plcD l).length = n) := Lib.hid (by rw [plcD_length, e1])
  have HD := Lib.hid (dc_pcB l)
  have hpc : (pcB (plcD l)).length ≤ 131074 := by unfold pcB; rw [List.length_cons]; omega
  have HRI := Lib.hid (lstD_rise l)
  have HLI := Lib.hid (lstD_in hl)
  have HMEM := Lib.hid (fun (k p : Nat) (x : Value) (h1 : (zs l)[k]? = some x) (h2 : (plcD l)[k]? = some p) => (show ∃ z, x = .int .i64 z ∧ In64 z ∧ z ∈ lstD l ∧ p = posD (lstD l) z by
    obtain ⟨z, hz, rfl⟩ := zs_at h1
    refine ⟨z, rfl, hl z (List.mem_of_getElem? hz), (lstD_mem l z).2 (List.mem_of_getElem? hz), ?_⟩
    unfold plcD at h2
    rw [List.getElem?_map, hz] at h2
    injection h2 with h2
    exact h2.symm))
  have d1 : decide ((65536 : Int) < (n : Int)) = false := by simp; omega
  have hmf' := hmfP
  obtain ⟨L, hL⟩ : ∃ L, L = lstD l := ⟨_, rfl⟩
  obtain ⟨P, hP⟩ : ∃ P, P = plcD l := ⟨_, rfl⟩
  have hla := listed_any A n c l w hr hl (by omega)
  unfold Listed at hla
  rw [← hL] at hla hll HRI HLI HD HMEM hdp
  rw [← hP] at HPA HPL HD hpc HMEM
  have HLA := Lib.hid hla
  have hr' := hr
  clear e1 hL hP hla hl hr
  go_enter Tryd.func6, Tryd.ntmps6
  go_wp2_with fail
  refine HLA.out.mono ?_
  rintro e w1 ⟨v1, b, m, D, rfl, hown1, hmap1, hat1, hb1⟩
  have HAT := Lib.hid hat1
  obtain ⟨A1, c1, rfl, hc1, hm1, r1⟩ := own_slice hown1
  have hba : Below w1.heap.size w1 (w1.alloc (.cells #[.map (some b)] 41)) := (Below.refl _ _).alloc (Nat.le_refl _) _
  obtain ⟨W, hW⟩ : ∃ W, W = w1.alloc (.cells #[.map (some b)] 41) := ⟨_, rfl⟩
  have hWs : W.heap.size = w1.heap.size + 1 := by rw [hW]; simp
  have hcW : W.cell? ⟨w1.heap.size, 0, none⟩ = some (.map (some b)) := by rw [hW]; simp
  rw [← hW] at hba
  have hbW := hb1.trans (hba.mono hb1.size)
  have HP := Lib.hid (pcPutI_any A n c w1.heap.size (zs l) P W ((hr'.below hb1).more hb1.size |>.next hba) HPL.out HPA.out hn fun k p x W' h1 h2 hb => by
    obtain ⟨z, rfl, h3, h4, rfl⟩ := HMEM.out k p x h1 h2
    refine (place_of w1.heap.size b m D L z W' ((hb.cell (p := ⟨w1.heap.size, 0, none⟩) (by show w1.heap.size < _; omega)).trans hcW) ((hmap1.below hba).below hb) HAT.out h3 h4).mono ?_
    rintro e w' ⟨rfl, rfl⟩
    exact ⟨rfl, Below.refl _ _⟩)
  have HW := Lib.hid hW
  clear hat1 hmap1 hown1 hcW HMEM hW
  go_wp2_with fail
  rw [← HW.out]
  refine HP.out.mono ?_
  intro e w2 hN2
  obtain ⟨A2, c2, rfl, _, r2, hb2⟩ := hN2.opened
  have hb02 := hbW.trans (hb2.mono hbW.size)
  have r12 := (r1.next hba).next hb2
  clear hN2 r1 hba hb2
  go_wp2_with fail
  refine (putL_any A1 L.length c1 L w2 r12 HRI.out HLI.out (by omega)).mono ?_
  rintro e w4 ⟨v4, rfl, hown4, hb4⟩
  have r24 := r2.next hb4
  have hb04 := hb02.trans (hb4.mono hb02.size)
  have h24 := hb4.size
  clear r12 r2 hb4
  go_wp2_with (at_builtin
               refine wpList_append_any _ rfl (.tmp 19) (.tmp 20) _ rfl w2.heap.size 5 i0 _ 1 1 Tryd.underlying23 hi0 hz0 hz1 hz2 rfl (by omega) v4 (hdD L).length (bs (hdD L)) rfl
                 hown4 w4.heap.size A2 (pcB P).length c2 (bs (pcB P)) rfl r24 (bs_one _) (by unfold maxLen; omega) (by omega) h24 ?_
               intro v5 w5 hown5 hg5 hat5)
  go_ret2
  rw [HD.out]
  rw [← bs_append, ← List.length_append] at hown5
  exact ⟨v5, rfl, own_base hown5 hb02.size, hb04.grown hg5 hb04.size (fun k hk => by have := (hown4.lt k hk).1; have := hb02.size; omega)⟩
end Go.Proofs.YtppeagjklndidaaDoor
