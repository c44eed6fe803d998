/- The state while a path is made: what a step leaves. No condition. -/
import Derived.Test.YtkopoepoinkpeaaDoorJ29
import Derived.Test.YtkopoepoinkpeaaDoorTrRoot
import Derived.Test.YtkopoepoinkpeaaDoorTrRefSplit
namespace Go.Proofs.YtkopoepoinkpeaaDoor
open Go.RowKit
set_option linter.unusedVariables false
set_option linter.unusedSimpArgs false
set_option maxRecDepth 100000

/-- Cells amid a row are stored. -/
theorem blk_setCells {g : Nat} {t : TypeId} {zs : List Value} : ∀ (cs old us : List Value) {w : World}, cs.length = old.length → Blk w g t (us ++ old ++ zs).toArray → Blk (w.setCells g us.length cs) g t (us ++ cs ++ zs).toArray
  | [], [], _, _, _, h => h
  | c :: cs, x :: old, us, w, hl, h => by
    rw [World.setCells]
    have h1 := h.set_ us.length c
    have e : (us ++ x :: old ++ zs).toArray.setIfInBounds us.length c = ((us ++ [c]) ++ old ++ zs).toArray := by
      rw [List.setIfInBounds_toArray]
      simp [List.set_append]
    rw [e] at h1
    have h2 := blk_setCells cs old (us ++ [c]) (by simpa using hl) h1
    simpa using h2
theorem setCells_other {w : World} {g i : Nat} (o : Nat) (vs : List Value) (hi : i < w.heap.size) (hne : i ≠ g) : (w.setCells g o vs).heap[i]? = w.heap[i]? :=
  (only_setCells vs o (World.grownBy.refl w (some g))).block i hi (fun e => hne (Option.some.inj e))
theorem setCells_more (w : World) (g o : Nat) (vs : List Value) : w.heap.size ≤ (w.setCells g o vs).heap.size := (only_setCells vs o (World.grownBy.refl w (some g))).size
/-- So many digests of the path are found, from its end. -/
structure PathS (w : World) (h p D : Nat) (full : List (List Nat)) (k : Nat) (ds fl : List (List Nat)) (a oo len cap : Nat) (W : World) : Prop where
  num : ds.length = len
  dg : Dg ds
  lt : a < len
  dep : depD a len + k = D
  big : len ≤ 1000000
  room : len ≤ cap
  all : pathD ds a ++ fl = full
  fll : fl.length = k
  fdg : Dg fl
  box : Blk W h 3 #[.int .i64 (a : Int)]
  b7 : Blk W (h + 1 + 1) 25 #[.slice (some ⟨h + 1, 0, none⟩) D D]
  b8 : Blk W p 25 #[.slice (some ⟨h + 1 + 1 + 1, oo, none⟩) len cap]
  row : Reads W p 32 (some ⟨h + 1 + 1 + 1, oo, none⟩) len (bs ds.flatten)
  out : Blk W (h + 1) 31 (List.replicate ((D - k) * 32) (Value.int .u8 0) ++ bs fl.flatten).toArray
  below : Below h w W
  size : p + 2 ≤ W.heap.size
  far : h + 4 ≤ p
theorem PathS.on {w : World} {h p D : Nat} {full : List (List Nat)} {k : Nat} {ds fl : List (List Nat)} {a oo len cap : Nat} {W W' : World} (s : PathS w h p D full k ds fl a oo len cap W) (hk : KeptOn (fun j => j < p + 2) W W') : PathS w h p D full k ds fl a oo len cap W' := by
  have hs := s.size
  have hf := s.far
  have hB : Below (p + 2) W W' := hk.below hs (fun j hj => hj)
  exact ⟨s.num, s.dg, s.lt, s.dep, s.big, s.room, s.all, s.fll, s.fdg, s.box.below hB (by omega), s.b7.below hB (by omega), s.b8.below hB (by omega), s.row.below (hB.mono (by omega)), s.out.below hB (by omega), s.below.trans (hB.mono (by omega)), Nat.le_trans hs hB.size, hf⟩
theorem PathS.cells {w : World} {h p D : Nat} {full : List (List Nat)} {k : Nat} {ds fl : List (List Nat)} {a oo len cap : Nat} {W : World} (s : PathS w h p D full k ds fl a oo len cap W) (hk : k < D) : W.rangeAt (h + 1) ((D - 1 - k) * 32) (List.replicate 32 (.int .u8 0)) := fun j v hv => by
  have hj : j < 32 := by have := (List.getElem?_eq_some_iff.1 hv).1; simpa using this
  rw [s.out.cell, List.getElem?_toArray, List.getElem?_append_left (by simp; omega), List.getElem?_replicate, if_pos (by omega), ← hv, List.getElem?_replicate, if_pos hj]
/-- What is kept of a digest of the path. -/
theorem pathS_put {w V V2 : World} {h p D k : Nat} {full ds fl : List (List Nat)} {a oo len cap : Nat} (s : PathS w h p D full k ds fl a oo len cap V) (hk : k < D) (hb : Below V.heap.size V V2) (R : List Nat) (hR : R.length = 32) (v : Value) (W : World) (hW : (V2.setCell ⟨p, 0, none⟩ v).setCells (h + 1) ((D - 1 - k) * 32) (bs R) = W) :
    Blk W h 3 #[.int .i64 (a : Int)] ∧ Blk W (h + 1 + 1) 25 #[.slice (some ⟨h + 1, 0, none⟩) D D] ∧ Blk W p 25 #[v] ∧
    Blk W (h + 1) 31 (List.replicate ((D - (k + 1)) * 32) (Value.int .u8 0) ++ bs (R :: fl).flatten).toArray ∧ Below h w W ∧ p + 2 ≤ W.heap.size ∧ V.heap.size ≤ W.heap.size ∧
    (∀ i, i < V.heap.size → i ≠ p → i ≠ h + 1 → W.heap[i]? = V.heap[i]?) ∧ Reads W p 32 (some ⟨h + 1 + 1 + 1, oo, none⟩) len (bs ds.flatten) := by
  subst hW
  have hs := s.size
  have hf := s.far
  have h2 := hb.size
  have h3 : (V2.setCell ⟨p, 0, none⟩ v).heap.size = V2.heap.size := by simp [World.setCell]
  have hoth : ∀ i, i < V.heap.size → i ≠ p → i ≠ h + 1 → ((V2.setCell ⟨p, 0, none⟩ v).setCells (h + 1) ((D - 1 - k) * 32) (bs R)).heap[i]? = V.heap[i]? := fun i hi h1 h4 => (setCells_other _ _ (by omega) h4).trans ((Below.heap_setCell _ ⟨p, 0, none⟩ _ _ h1).trans (hb.block i hi))
  have hsz : V2.heap.size ≤ ((V2.setCell ⟨p, 0, none⟩ v).setCells (h + 1) ((D - 1 - k) * 32) (bs R)).heap.size := by have := setCells_more (V2.setCell ⟨p, 0, none⟩ v) (h + 1) ((D - 1 - k) * 32) (bs R); omega
  have hB2 : Below h w (V2.setCell ⟨p, 0, none⟩ v) := (s.below.trans (hb.mono (by omega))).grown (only_setCell (World.grownBy.refl V2 (some p)) (.inl rfl) v) (by omega) (fun k hk => by injection hk with hk; omega)
  have hB3 : Below h w ((V2.setCell ⟨p, 0, none⟩ v).setCells (h + 1) ((D - 1 - k) * 32) (bs R)) := hB2.grown (only_setCells (bs R) _ (World.grownBy.refl _ (some (h + 1)))) (by omega) (fun k hk => by injection hk with hk; omega)
  have h8 : ((V2.setCell ⟨p, 0, none⟩ v).setCells (h + 1) ((D - 1 - k) * 32) (bs R)).heap[p]? = (V2.setCell ⟨p, 0, none⟩ v).heap[p]? := setCells_other _ _ (by omega) (by omega)
  have hsp : List.replicate ((D - k) * 32) (Value.int .u8 0) = List.replicate ((D - 1 - k) * 32) (Value.int .u8 0) ++ List.replicate 32 (Value.int .u8 0) := by
    rw [List.replicate_append_replicate]
    congr 1
    omega
  have ho : Blk (V2.setCell ⟨p, 0, none⟩ v) (h + 1) 31 (List.replicate ((D - 1 - k) * 32) (Value.int .u8 0) ++ List.replicate 32 (Value.int .u8 0) ++ bs fl.flatten).toArray := by
    have := (s.out.below hb (by omega)).far (p := ⟨p, 0, none⟩) (by show h + 1 ≠ p; omega) v
    rwa [hsp] at this
  have ho2 := blk_setCells (bs R) _ (List.replicate ((D - 1 - k) * 32) (Value.int .u8 0)) (by rw [bs_length, hR, List.length_replicate]) ho
  rw [List.length_replicate] at ho2
  have hbox := s.box; have hb7 := s.b7; have hrow := s.row
  refine ⟨(hoth h (by omega) (by omega) (by omega)).trans hbox, (hoth (h + 1 + 1) (by omega) (by omega) (by omega)).trans hb7, h8.trans ?_, ?_, hB3, by omega, by omega, hoth, ?_⟩
  · have q := (s.b8.below hb (by omega)).set_ 0 v
    have q2 : Blk (V2.setCell ⟨p, 0, none⟩ v) p 25 #[v] := by simpa using q
    exact q2
  · rw [show D - (k + 1) = D - 1 - k by omega, List.flatten_cons, bs_append, ← List.append_assoc]
    exact ho2
  · refine ⟨hrow.1, fun hn => ?_⟩
    obtain ⟨ad, e, hl, hc⟩ := hrow.2 hn
    injection e with e
    subst e
    refine ⟨_, rfl, hl, fun j u hu => ?_⟩
    have hcj := hc j u hu
    rw [plain_add] at hcj ⊢
    exact (World.cell?_of_block (a := ⟨h + 1 + 1 + 1, oo + j, none⟩) (hoth _ (by show h + 1 + 1 + 1 < _; omega) (by show h + 1 + 1 + 1 ≠ _; omega) (by show h + 1 + 1 + 1 ≠ _; omega))).trans hcj
/-- A round to the left. -/
theorem PathS.left {w V V2 : World} {h p D k : Nat} {full ds fl : List (List Nat)} {a oo len cap : Nat} (s : PathS w h p D full k ds fl a oo len cap V) (hk : k < D) (hb : Below V.heap.size V V2) (hl : a < spl len) :
    PathS w h p D full (k + 1) (ds.take (spl len)) (rootD (ds.drop (spl len)) :: fl) a oo (spl len) (spl len) ((V2.setCell ⟨p, 0, none⟩ (.slice (some ⟨h + 1 + 1 + 1, oo, none⟩) (spl len) (spl len))).setCells (h + 1) ((D - 1 - k) * 32) (bs (rootD (ds.drop (spl len))))) := by
  have hn := s.num; have hdep := s.dep; have hlt := s.lt; have hbig := s.big
  have h2 : 2 ≤ len := by
    rcases Nat.lt_or_ge len 2 with h | h
    · rw [depD_one a h] at hdep; omega
    · exact h
  have h3 := spl_lt h2
  have h4 := spl_pos h2
  have hd1 : Dg (ds.drop (spl len)) := s.dg.drop _
  have hl1 : 0 < (ds.drop (spl len)).length := by rw [List.length_drop]; omega
  obtain ⟨g1, g2, g3, g4, g5, g6, _, _, g7⟩ := pathS_put s hk hb (rootD (ds.drop (spl len))) (rootD_len hl1 fun d hd => (hd1 d hd).1) (.slice (some ⟨h + 1 + 1 + 1, oo, none⟩) (spl len) (spl len)) _ rfl
  refine ⟨by rw [List.length_take]; omega, s.dg.take _, hl, by rw [depD_left h2 hl] at hdep; omega, by omega, Nat.le_refl _, ?_, by rw [List.length_cons, s.fll], ?_, g1, g2, g3, ?_, g4, g5, g6, s.far⟩
  · have := s.all
    rw [pathD_left (by rw [hn]; exact h2) (by rw [hn]; exact hl), hn, List.append_assoc] at this
    exact this
  · intro d hd
    rcases List.mem_cons.1 hd with rfl | hd
    · exact ⟨rootD_len hl1 fun d hd => (hd1 d hd).1, rootD_byte hl1 fun d hd => (hd1 d hd).2⟩
    · exact s.fdg d hd
  · rw [s.dg.flat_take, ← bs_take]
    exact Reads.fore (k := spl len) g7 (by omega)
/-- A round to the right. -/
theorem PathS.right {w V V2 : World} {h p D k : Nat} {full ds fl : List (List Nat)} {a oo len cap : Nat} (s : PathS w h p D full k ds fl a oo len cap V) (hk : k < D) (hb : Below V.heap.size V V2) (hl : ¬ a < spl len) :
    PathS w h p D full (k + 1) (ds.drop (spl len)) (rootD (ds.take (spl len)) :: fl) (a - spl len) (oo + spl len * 32) (len - spl len) (len - spl len) (((V2.setCell ⟨p, 0, none⟩ (.slice (some ⟨h + 1 + 1 + 1, oo + spl len * 32, none⟩) (len - spl len) (len - spl len))).setCells (h + 1) ((D - 1 - k) * 32) (bs (rootD (ds.take (spl len))))).setCell ⟨h, 0, none⟩ (.int .i64 ((a - spl len : Nat) : Int))) := by
  have hn := s.num; have hdep := s.dep; have hlt := s.lt; have hbig := s.big; have hsz := s.size; have hfar := s.far; have hroom := s.room
  have h2 : 2 ≤ len := by
    rcases Nat.lt_or_ge len 2 with h | h
    · rw [depD_one a h] at hdep; omega
    · exact h
  have h3 := spl_lt h2
  have h4 := spl_pos h2
  have hd1 : Dg (ds.take (spl len)) := s.dg.take _
  have hl1 : 0 < (ds.take (spl len)).length := by rw [List.length_take]; omega
  obtain ⟨g1, g2, g3, g4, g5, g6, g8, _, g7⟩ := pathS_put s hk hb (rootD (ds.take (spl len))) (rootD_len hl1 fun d hd => (hd1 d hd).1) (.slice (some ⟨h + 1 + 1 + 1, oo + spl len * 32, none⟩) (len - spl len) (len - spl len)) _ rfl
  obtain ⟨W, hW⟩ : ∃ W, (V2.setCell ⟨p, 0, none⟩ (.slice (some ⟨h + 1 + 1 + 1, oo + spl len * 32, none⟩) (len - spl len) (len - spl len))).setCells (h + 1) ((D - 1 - k) * 32) (bs (rootD (ds.take (spl len)))) = W := ⟨_, rfl⟩
  rw [hW] at g1 g2 g3 g4 g5 g6 g7 g8 ⊢
  have hsz2 : (W.setCell ⟨h, 0, none⟩ (.int .i64 ((a - spl len : Nat) : Int))).heap.size = W.heap.size := by simp [World.setCell]
  refine ⟨by rw [List.length_drop]; omega, s.dg.drop _, by omega, by rw [depD_right h2 hl] at hdep; omega, by omega, Nat.le_refl _, ?_, by rw [List.length_cons, s.fll], ?_, ?_, g2.far (by show h + 1 + 1 ≠ h; omega) _, g3.far (by show p ≠ h; omega) _, ?_, g4.far (by show h + 1 ≠ h; omega) _,
    g5.grown (only_setCell (World.grownBy.refl W (some h)) (.inl rfl) _) (by omega) (fun k hk => by injection hk with hk; omega), by omega, hfar⟩
  · have := s.all
    rw [pathD_right (by rw [hn]; exact h2) (by rw [hn]; exact hl), hn, List.append_assoc] at this
    exact this
  · intro d hd
    rcases List.mem_cons.1 hd with rfl | hd
    · exact ⟨rootD_len hl1 fun d hd => (hd1 d hd).1, rootD_byte hl1 fun d hd => (hd1 d hd).2⟩
    · exact s.fdg d hd
  · have := g1.set_ 0 (.int .i64 ((a - spl len : Nat) : Int))
    simpa using this
  · rw [s.dg.flat_drop, ← bs_drop]
    have hc := Reads.cut (k := spl len) (cap := len) g7 (by omega) (Nat.le_refl _)
    rw [if_neg (by omega)] at hc
    have hc2 : Reads W p 32 (some ⟨h + 1 + 1 + 1, oo + spl len * 32, none⟩) (len - spl len) ((bs ds.flatten).drop (spl len * 32)) := by simpa [plain_add] using hc
    refine ⟨hc2.1, fun hn => ?_⟩
    obtain ⟨ad, e, hl, hc⟩ := hc2.2 hn
    injection e with e
    subst e
    refine ⟨_, rfl, hl, fun j u hu => ?_⟩
    have hcj := hc j u hu
    rw [plain_add] at hcj ⊢
    exact (World.cell?_of_block (a := ⟨h + 1 + 1 + 1, oo + spl len * 32 + j, none⟩) (Below.heap_setCell W ⟨h, 0, none⟩ _ _ (by show h + 1 + 1 + 1 ≠ h; omega))).trans hcj
/-- What the round leaves alone. -/
theorem PathS.still {w V V2 : World} {h p D k : Nat} {full ds fl : List (List Nat)} {a oo len cap : Nat} (s : PathS w h p D full k ds fl a oo len cap V) (hb : Below V.heap.size V V2) (v u : Value) (R : List Nat) {i : Nat} (hi : i < V.heap.size) (hp : p < i) :
    ((V2.setCell ⟨p, 0, none⟩ v).setCells (h + 1) ((D - 1 - k) * 32) (bs R)).heap[i]? = V.heap[i]? ∧ (((V2.setCell ⟨p, 0, none⟩ v).setCells (h + 1) ((D - 1 - k) * 32) (bs R)).setCell ⟨h, 0, none⟩ u).heap[i]? = V.heap[i]? := by
  have hfar := s.far
  have h2 := hb.size
  have h3 : (V2.setCell ⟨p, 0, none⟩ v).heap.size = V2.heap.size := by simp [World.setCell]
  have e1 : ((V2.setCell ⟨p, 0, none⟩ v).setCells (h + 1) ((D - 1 - k) * 32) (bs R)).heap[i]? = V.heap[i]? := (setCells_other _ _ (by omega) (by omega)).trans ((Below.heap_setCell _ ⟨p, 0, none⟩ _ _ (by show i ≠ p; omega)).trans (hb.block i hi))
  exact ⟨e1, (Below.heap_setCell _ ⟨h, 0, none⟩ _ _ (by show i ≠ h; omega)).trans e1⟩
end Go.Proofs.YtkopoepoinkpeaaDoor
