import Derived.WalkKit
import Derived.Test.YticanhidahkhfaaGreatDoorJ1
import Derived.Test.YticanhidahkhfaaGreatDoorJ5
namespace Go.Proofs.YticanhidahkhfaaGreatDoor
open Go.RowKit
set_option linter.unusedVariables false
set_option linter.unusedSimpArgs false
abbrev Tx := List UInt8
def tlt (a b : Tx) : Prop := Op.bytesLess a b = true
instance (a b : Tx) : Decidable (tlt a b) := inferInstanceAs (Decidable (_ = true))
theorem u8_lt_irrefl (a : UInt8) : ¬ a < a := by rw [UInt8.lt_iff_toNat_lt]; omega
theorem u8_lt_trans {a b c : UInt8} (h1 : a < b) (h2 : b < c) : a < c := by rw [UInt8.lt_iff_toNat_lt] at *; omega
theorem u8_total {a b : UInt8} (h1 : ¬ a < b) (h2 : ¬ a = b) : b < a := by
  rw [UInt8.lt_iff_toNat_lt] at *
  have : a.toNat ≠ b.toNat := fun e => h2 (UInt8.toNat_inj.1 e)
  omega
theorem tlt_nil (b : Tx) : tlt [] b ↔ b ≠ [] := by
  cases b <;> simp [tlt, Op.bytesLess]
theorem not_tlt_nil (a : Tx) : ¬ tlt a [] := by
  cases a <;> simp [tlt, Op.bytesLess]
theorem tlt_cons (a b : UInt8) (x y : Tx) : tlt (a :: x) (b :: y) ↔ a < b ∨ a = b ∧ tlt x y := by
  unfold tlt
  rw [Op.bytesLess]
  simp
theorem tlt_irrefl : ∀ a : Tx, ¬ tlt a a := by
  intro a
  induction a with
  | nil => exact not_tlt_nil []
  | cons x a ih =>
    rw [tlt_cons]
    rintro (h | ⟨_, h⟩)
    · exact u8_lt_irrefl x h
    · exact ih h
theorem tlt_trans : ∀ {a b c : Tx}, tlt a b → tlt b c → tlt a c := by
  intro a
  induction a with
  | nil =>
    intro b c h1 h2
    rw [tlt_nil]
    intro e
    subst e
    exact not_tlt_nil b h2
  | cons x a ih =>
    intro b c h1 h2
    cases b with
    | nil => exact absurd h1 (not_tlt_nil _)
    | cons y b =>
      cases c with
      | nil => exact absurd h2 (not_tlt_nil _)
      | cons z c =>
        rw [tlt_cons] at *
        rcases h1 with h1 | ⟨h1, h1'⟩
        · rcases h2 with h2 | ⟨h2, h2'⟩
          · exact .inl (u8_lt_trans h1 h2)
          · subst h2; exact .inl h1
        · subst h1
          rcases h2 with h2 | ⟨h2, h2'⟩
          · exact .inl h2
          · exact .inr ⟨h2, ih h1' h2'⟩
theorem tlt_total : ∀ {a b : Tx}, ¬ tlt a b → ¬ a = b → tlt b a := by
  intro a
  induction a with
  | nil =>
    intro b h1 h2
    rw [tlt_nil] at h1
    exact absurd (Classical.not_not.1 h1).symm h2
  | cons x a ih =>
    intro b h1 h2
    cases b with
    | nil => rw [tlt_nil]; simp
    | cons y b =>
      rw [tlt_cons] at *
      by_cases hxy : x = y
      · subst hxy
        refine .inr ⟨rfl, ih (fun h => h1 (.inr ⟨rfl, h⟩)) (fun e => h2 (by rw [e]))⟩
      · exact .inl (u8_total (fun h => h1 (.inl h)) hxy)
theorem tlt_asymm {a b : Tx} (h : tlt a b) : ¬ tlt b a := fun h2 => tlt_irrefl a (tlt_trans h h2)
theorem tlt_ne {a b : Tx} (h : tlt a b) : a ≠ b := fun e => tlt_irrefl a (by rw [e] at h ⊢; exact h)
end Go.Proofs.YticanhidahkhfaaGreatDoor
namespace Go.Proofs.YticanhidahkhfaaGreatDoor
open Go.ChangeShapes Go.WideShapes Go.RowKit
set_option linter.unusedVariables false
set_option linter.unusedSimpArgs false
set_option maxRecDepth 100000
def vc (v : Int × Int × Tx) : List Value := [.int .i64 v.1, .int .i64 v.2.1, .string ⟨v.2.2.toArray⟩]
def vs (l : List (Int × Int × Tx)) : List Value := l.flatMap vc
theorem vs_nil : vs [] = [] := rfl
theorem vs_append (a b : List (Int × Int × Tx)) : vs (a ++ b) = vs a ++ vs b := by simp [vs]
theorem vs_one (v : Int × Int × Tx) : vs [v] = vc v := by simp [vs]
theorem vs_cons (v : Int × Int × Tx) (l : List (Int × Int × Tx)) : vs (v :: l) = vc v ++ vs l := by simp [vs]
theorem vs_length : ∀ l : List (Int × Int × Tx), (vs l).length = l.length * 3
  | [] => rfl
  | v :: l => by rw [vs_cons, List.length_append, vs_length l]; simp [vc]; omega
theorem vc_cell (v : Int × Int × Tx) : ∀ u ∈ vc v, u.oneCell' = true := by
  intro u hu
  simp [vc] at hu
  rcases hu with rfl | rfl | rfl <;> rfl
theorem vs_at : ∀ {l : List (Int × Int × Tx)} {k : Nat} {v : Int × Int × Tx}, l[k]? = some v → (vs l)[k * 3]? = some (.int .i64 v.1) ∧ (vs l)[k * 3 + 1]? = some (.int .i64 v.2.1) ∧ (vs l)[k * 3 + 2]? = some (.string ⟨v.2.2.toArray⟩)
  | [], k, v, h => by simp at h
  | x :: l, 0, v, h => by
    simp at h
    subst h
    rw [vs_cons]
    exact ⟨rfl, rfl, rfl⟩
  | x :: l, k + 1, v, h => by
    simp at h
    obtain ⟨h1, h2, h3⟩ := vs_at h
    have e : ∀ j, (vc x ++ vs l)[3 + j]? = (vs l)[j]? := fun j => by
      rw [List.getElem?_append_right (by simp [vc])]
      congr 1
      simp [vc]
    rw [vs_cons, show (k + 1) * 3 = 3 + k * 3 by omega, show 3 + k * 3 + 1 = 3 + (k * 3 + 1) by omega, show 3 + k * 3 + 2 = 3 + (k * 3 + 2) by omega, e, e, e]
    exact ⟨h1, h2, h3⟩
theorem Reads.val {w : World} {B n : Nat} {A : Option Addr} {l : List (Int × Int × Tx)} (h : Reads w B 3 A n (vs l)) {k : Nat} {v : Int × Int × Tx} (hv : l[k]? = some v) :
    ∃ b o, A = some ⟨b, o, none⟩ ∧ b < B ∧ w.cell? ⟨b, o + k * 3, none⟩ = some (.int .i64 v.1) ∧ w.cell? ⟨b, o + k * 3 + 1, none⟩ = some (.int .i64 v.2.1) ∧ w.cell? ⟨b, o + k * 3 + 2, none⟩ = some (.string ⟨v.2.2.toArray⟩) := by
  have hk : k < l.length := (List.getElem?_eq_some_iff.1 hv).1
  have hn : 0 < n := by have := h.1; rw [vs_length] at this; omega
  obtain ⟨⟨b, o, sp⟩, rfl, hb, hc⟩ := h.2 hn
  obtain ⟨h1, h2, h3⟩ := vs_at hv
  have c1 := hc _ _ h1
  have c2 := hc _ _ h2
  have c3 := hc _ _ h3
  have hl : 0 < (vs l).length := by rw [vs_length]; omega
  obtain rfl : sp = none := by simpa [Addr.add] using World.cell?_spot (hc 0 _ (List.getElem?_eq_getElem hl))
  rw [plain_add] at c1 c2 c3
  exact ⟨b, o, rfl, hb, c1, by rw [← c2, Nat.add_assoc], by rw [← c3, Nat.add_assoc]⟩
def IsVals (w : World) (a : Option Addr) (len cap : Nat) (l : List (Int × Int × Tx)) : Prop :=
  l.length = len ∧ len ≤ cap ∧ cap ≤ maxLen ∧ Reads w w.heap.size 3 a len (vs l) ∧ ∀ v ∈ l, In64 v.1 ∧ In64 v.2.1
theorem vals_of {H : Type} {enc : TypeId × Value → H} {W : World} {a : Option Addr} {len cap : Nat} {d : DataW H} {p : List MemPlace} (h : DataW.Trod enc Tryz.prog W 0 (fun _ => true) true 81 (.slice a len cap) d p) :
    ∃ l, IsVals W a len cap l := by
  obtain ⟨fuel, hf⟩ := h
  rcases open_slice_fields Tryz.underlying81 Tryz.underlying50 (by kernel_rfl) (by kernel_rfl) hf with ⟨hcs, _⟩ | ⟨x, l, c, mm, D, Pl, hcs, _, hl, hcm, hmm, _, hi⟩
  · simp [Value.cells] at hcs
    obtain ⟨rfl, rfl, rfl⟩ := hcs
    exact ⟨[], rfl, Nat.le_refl _, Nat.zero_le _, Reads.none_, by simp⟩
  · simp [Value.cells] at hcs
    obtain ⟨rfl, rfl, rfl⟩ := hcs
    have hall : ∀ j, ∃ y : Int × Int × Tx, j < len → (In64 y.1 ∧ In64 y.2.1) ∧ ∀ i v, (vc y)[i]? = some v → W.cell? (x.add (j * 3 + i)) = some v := by
      intro j
      by_cases hj : j < len
      · obtain ⟨ys, nn, _, _, _, hfld⟩ := hi j (by rw [hmm]; simp; omega)
        obtain ⟨v0, y0, c0, _, t0⟩ := hfld 0 _ rfl
        obtain ⟨v1, y1, c1, _, t1⟩ := hfld 1 _ rfl
        obtain ⟨v2, y2, c2, _, t2⟩ := hfld 2 _ rfl
        obtain ⟨k, e0, _, wk⟩ := DataW.trod_int Tryz.underlying3 t0
        obtain ⟨n, e1, _, wn⟩ := DataW.trod_int Tryz.underlying2 t1
        obtain ⟨s, e2, _, _⟩ := DataW.trod_string Tryz.underlying9 t2
        injection e0 with e0
        injection e1 with e1
        injection e2 with e2
        subst e0 e1 e2
        have hk : In64 k := by have := i64_of wk; unfold In64; omega
        have hn : In64 n := by have := i64_of wn; unfold In64; omega
        refine ⟨⟨k, n, s.data.toList⟩, fun _ => ⟨⟨hk, hn⟩, fun i v hv => ?_⟩⟩
        unfold vc at hv
        rcases i with _ | _ | _ | i
        all_goals simp at hv
        all_goals subst hv
        · exact c0
        · exact c1
        · exact c2
      · exact ⟨(0, 0, []), fun h => absurd h hj⟩
    obtain ⟨f, hfn⟩ := Classical.axiomOfChoice hall
    have hget : ∀ j y, ((List.range len).map f)[j]? = some y → j < len ∧ y = f j := by
      intro j y hy
      have hj : j < len := by
        have := (List.getElem?_eq_some_iff.1 hy).1
        simpa using this
      rw [List.getElem?_map, List.getElem?_range hj] at hy
      injection hy with hy
      exact ⟨hj, hy.symm⟩
    refine ⟨(List.range len).map f, by simp, hl, hcm, ⟨by rw [vs_length]; simp, fun hn => ?_⟩, fun v hv => ?_⟩
    · refine ⟨x, rfl, ?_, fun j u hu => ?_⟩
      · have := World.block_lt_of_cell? W _ ((hfn 0 hn).2 0 _ rfl)
        rwa [block_of_add] at this
      · have hj : j < len * 3 := by
          have := (List.getElem?_eq_some_iff.1 hu).1
          rw [vs_length] at this
          simpa using this
        have hy : ((List.range len).map f)[j / 3]? = some (f (j / 3)) := by rw [List.getElem?_map, List.getElem?_range (by omega)]; rfl
        obtain ⟨h1, h2, h3⟩ := vs_at hy
        have hc := (hfn (j / 3) (by omega)).2
        obtain ⟨q, hq⟩ : ∃ q, j / 3 = q := ⟨_, rfl⟩
        rw [hq] at h1 h2 h3 hc
        have hr : j = q * 3 ∨ j = q * 3 + 1 ∨ j = q * 3 + 2 := by omega
        rcases hr with rfl | rfl | rfl
        · rw [h1] at hu; exact hc 0 _ (by rw [← hu]; rfl)
        · rw [h2] at hu; exact hc 1 _ (by rw [← hu]; rfl)
        · rw [h3] at hu; exact hc 2 _ (by rw [← hu]; rfl)
    · obtain ⟨j, hj, rfl⟩ := List.mem_map.1 hv
      exact (hfn j (List.mem_range.1 hj)).1
end Go.Proofs.YticanhidahkhfaaGreatDoor
namespace Go.Proofs.YticanhidahkhfaaGreatDoor
set_option linter.unusedVariables false
set_option linter.unusedSimpArgs false
def siz (n : Nat) : Nat := (n + 7) / 8
def bit (l : List Nat) (k : Nat) : Bool := (l.getD (k / 8) 0).testBit (k % 8)
structure OkS (n : Nat) (l : List Nat) : Prop where
  len : l.length = siz n
  byte : ∀ x ∈ l, x < 256
  left : ∀ k, bit l k = true → k < n
def cnt (f : Nat → Bool) : Nat → Nat
  | 0 => 0
  | n + 1 => cnt f n + (if f n then 1 else 0)
def sel (f : Nat → Bool) : Nat → List Nat
  | 0 => []
  | n + 1 => sel f n ++ (if f n then [n] else [])
theorem cnt_le (f : Nat → Bool) (n : Nat) : cnt f n ≤ n := by
  induction n with
  | zero => exact Nat.le_refl _
  | succ n ih => unfold cnt; split <;> omega
theorem cnt_add (f : Nat → Bool) (a b : Nat) : cnt f (a + b) = cnt f a + cnt (fun k => f (a + k)) b := by
  induction b with
  | zero => rfl
  | succ b ih =>
    show cnt f (a + b) + (if f (a + b) then 1 else 0) = cnt f a + (cnt (fun k => f (a + k)) b + (if f (a + b) then 1 else 0))
    omega
theorem cnt_congr {f g : Nat → Bool} (n : Nat) (h : ∀ k, k < n → f k = g k) : cnt f n = cnt g n := by
  induction n with
  | zero => rfl
  | succ n ih => unfold cnt; rw [ih (fun k hk => h k (by omega)), h n (by omega)]
theorem cnt_mono (f : Nat → Bool) {a b : Nat} (h : a ≤ b) : cnt f a ≤ cnt f b := by
  obtain ⟨d, rfl⟩ := Nat.exists_eq_add_of_le h
  rw [cnt_add]; omega
theorem cnt_over {f : Nat → Bool} {n : Nat} (h : ∀ k, f k = true → k < n) (m : Nat) (hm : n ≤ m) : cnt f m = cnt f n := by
  obtain ⟨d, rfl⟩ := Nat.exists_eq_add_of_le hm
  rw [cnt_add]
  have : ∀ d, cnt (fun k => f (n + k)) d = 0 := by
    intro d
    induction d with
    | zero => rfl
    | succ d ih =>
      unfold cnt
      rw [ih]
      cases hf : f (n + d) with
      | false => rfl
      | true => have := h _ hf; omega
  rw [this]; rfl
theorem sel_length (f : Nat → Bool) (n : Nat) : (sel f n).length = cnt f n := by
  induction n with
  | zero => rfl
  | succ n ih => unfold sel cnt; rw [List.length_append, ih]; split <;> rfl
theorem sel_add (f : Nat → Bool) (a b : Nat) : sel f (a + b) = sel f a ++ (sel (fun k => f (a + k)) b).map (a + ·) := by
  induction b with
  | zero => simp [sel]
  | succ b ih =>
    show sel f (a + b) ++ (if f (a + b) then [a + b] else []) = sel f a ++ ((sel (fun k => f (a + k)) b ++ (if f (a + b) then [b] else [])).map (a + ·))
    rw [ih, List.map_append, List.append_assoc]
    congr 2
    split <;> rfl
theorem sel_congr {f g : Nat → Bool} (n : Nat) (h : ∀ k, k < n → f k = g k) : sel f n = sel g n := by
  induction n with
  | zero => rfl
  | succ n ih => unfold sel; rw [ih (fun k hk => h k (by omega)), h n (by omega)]
theorem sel_over {f : Nat → Bool} {n : Nat} (h : ∀ k, f k = true → k < n) (m : Nat) (hm : n ≤ m) : sel f m = sel f n := by
  obtain ⟨d, rfl⟩ := Nat.exists_eq_add_of_le hm
  rw [sel_add]
  have : ∀ d, sel (fun k => f (n + k)) d = [] := by
    intro d
    induction d with
    | zero => rfl
    | succ d ih =>
      unfold sel
      rw [ih]
      cases hf : f (n + d) with
      | false => rfl
      | true => have := h _ hf; omega
  rw [this]; simp
theorem sel_lt (f : Nat → Bool) (n : Nat) : ∀ x ∈ sel f n, x < n := by
  induction n with
  | zero => intro x hx; cases hx
  | succ n ih =>
    intro x hx
    unfold sel at hx
    rcases List.mem_append.1 hx with h | h
    · have := ih x h; omega
    · split at h
      · simp at h; omega
      · cases h
def pc (x : Nat) : Nat := cnt x.testBit 8
def bts (x : Nat) : List Nat := sel x.testBit 8
theorem pc_le (x : Nat) : pc x ≤ 8 := cnt_le _ _
theorem bit_at (l : List Nat) (k j : Nat) (hj : j < 8) : bit l (8 * k + j) = (l.getD k 0).testBit j := by
  unfold bit
  rw [show (8 * k + j) / 8 = k by omega, show (8 * k + j) % 8 = j by omega]
theorem rank_step (l : List Nat) (k : Nat) : cnt (bit l) (8 * (k + 1)) = cnt (bit l) (8 * k) + pc (l.getD k 0) := by
  rw [Nat.mul_add, Nat.mul_one, cnt_add]
  congr 1
  exact cnt_congr 8 (fun j hj => bit_at l k j hj)
theorem pc_shift_fin : ∀ x : Fin 256, ∀ r : Fin 8, 0 < r.val → pc (x.val * 2 ^ (8 - r.val) % 256) = cnt x.val.testBit r.val := by decide +kernel
theorem rank_rest (l : List Nat) (i : Nat) (hx : l.getD (i / 8) 0 < 256) (hr : 0 < i % 8) : cnt (bit l) i = cnt (bit l) (8 * (i / 8)) + pc (l.getD (i / 8) 0 * 2 ^ (8 - i % 8) % 256) := by
  have h := pc_shift_fin ⟨_, hx⟩ ⟨i % 8, by omega⟩ hr
  simp only at h
  rw [h]
  conv => lhs; rw [show i = 8 * (i / 8) + i % 8 by omega]
  rw [cnt_add]
  congr 1
  exact cnt_congr _ (fun j hj => bit_at l _ j (by omega))
theorem sel_step (l : List Nat) (k : Nat) : sel (bit l) (8 * (k + 1)) = sel (bit l) (8 * k) ++ (bts (l.getD k 0)).map (8 * k + ·) := by
  rw [Nat.mul_add, Nat.mul_one, sel_add]
  congr 2
  exact sel_congr 8 (fun j hj => bit_at l k j hj)
def tz (x : Nat) : Nat := (bts x).headD 8
theorem tz_fin : ∀ x : Fin 256, x.val ≠ 0 → bts x.val = tz x.val :: bts (x.val &&& (x.val - 1)) := by decide +kernel
theorem tz_lt_fin : ∀ x : Fin 256, x.val ≠ 0 → tz x.val < 8 ∧ (x.val &&& (x.val - 1)) < x.val := by decide +kernel
theorem bts_zero : bts 0 = [] := by decide +kernel
theorem bts_next {x : Nat} (h : x < 256) (h0 : x ≠ 0) : bts x = tz x :: bts (x &&& (x - 1)) ∧ tz x < 8 ∧ (x &&& (x - 1)) < x :=
  ⟨tz_fin ⟨x, h⟩ h0, tz_lt_fin ⟨x, h⟩ h0⟩
def mark (l : List Nat) (i : Nat) : List Nat := l.set (i / 8) (l.getD (i / 8) 0 ||| 2 ^ (i % 8))
theorem mark_length (l : List Nat) (i : Nat) : (mark l i).length = l.length := by simp [mark]
theorem getD_set (l : List Nat) (i j v : Nat) (hi : i < l.length) : (l.set i v).getD j 0 = if i = j then v else l.getD j 0 := by
  simp only [List.getD_eq_getElem?_getD, List.getElem?_set]
  split
  · simp [hi]
  · rfl
theorem bit_mark (l : List Nat) (i k : Nat) (hi : i / 8 < l.length) : bit (mark l i) k = (decide (k = i) || bit l k) := by
  unfold bit mark
  rw [getD_set _ _ _ _ hi]
  by_cases h : i / 8 = k / 8
  · rw [if_pos h, h, Nat.testBit_or, Nat.testBit_two_pow]
    by_cases h2 : i % 8 = k % 8
    · have : k = i := by omega
      simp [this]
    · have : k ≠ i := by omega
      simp [this, h2]
  · rw [if_neg h]
    have : k ≠ i := by omega
    simp [this]
theorem getD_byte {l : List Nat} (h : ∀ x ∈ l, x < 256) (k : Nat) : l.getD k 0 < 256 := by
  rw [List.getD_eq_getElem?_getD]
  cases hk : l[k]? with
  | none => simp
  | some x => simpa using h x (List.mem_of_getElem? hk)
theorem siz_lt {n i : Nat} (h : i < n) : i / 8 < siz n := by unfold siz; omega
theorem OkS.mark {n : Nat} {l : List Nat} (h : OkS n l) {i : Nat} (hi : i < n) : OkS n (mark l i) where
  len := by rw [mark_length, h.len]
  byte x hx := by
    rcases List.mem_or_eq_of_mem_set hx with h1 | h1
    · exact h.byte x h1
    · rw [h1]
      exact Nat.or_lt_two_pow (n := 8) (getD_byte h.byte _) (show 2 ^ (i % 8) < 2 ^ 8 from Nat.pow_lt_pow_right (by omega) (by omega))
  left k hk := by
    rw [bit_mark l i k (by rw [h.len]; exact siz_lt hi)] at hk
    simp at hk
    rcases hk with rfl | hk
    · exact hi
    · exact h.left k hk
theorem bit_zeros (n k : Nat) : bit (List.replicate n 0) k = false := by
  unfold bit
  have : (List.replicate n 0).getD (k / 8) 0 = 0 := by
    rw [List.getD_eq_getElem?_getD, List.getElem?_replicate]
    split <;> rfl
  rw [this, Nat.zero_testBit]
theorem OkS.new (n : Nat) : OkS n (List.replicate (siz n) 0) where
  len := by simp
  byte x hx := by have := List.eq_of_mem_replicate hx; omega
  left k hk := by rw [bit_zeros] at hk; cases hk
theorem byte_ext {x y : Nat} (hx : x < 256) (hy : y < 256) (h : ∀ j, j < 8 → x.testBit j = y.testBit j) : x = y := by
  apply Nat.eq_of_testBit_eq
  intro i
  by_cases hi : i < 8
  · exact h i hi
  · have h2 : 2 ^ 8 ≤ 2 ^ i := Nat.pow_le_pow_right (by omega) (by omega)
    rw [Nat.testBit_lt_two_pow (by omega), Nat.testBit_lt_two_pow (by omega)]
theorem bytes_ext {l l' : List Nat} (hl : l.length = l'.length) (h1 : ∀ x ∈ l, x < 256) (h2 : ∀ x ∈ l', x < 256) (h : ∀ k, k < 8 * l.length → bit l k = bit l' k) : l = l' := by
  apply List.ext_getElem hl
  intro i hi hi'
  have e : ∀ (m : List Nat) (hm : i < m.length), m.getD i 0 = m[i] := fun m hm => by simp [List.getD_eq_getElem?_getD, hm]
  refine byte_ext (h1 _ (List.getElem_mem hi)) (h2 _ (List.getElem_mem hi')) (fun j hj => ?_)
  have := h (8 * i + j) (by omega)
  rwa [bit_at l i j hj, bit_at l' i j hj, e l hi, e l' hi'] at this
theorem OkS.ext {n : Nat} {l l' : List Nat} (h : OkS n l) (h' : OkS n l') (hb : ∀ k, k < n → bit l k = bit l' k) : l = l' := by
  refine bytes_ext (by rw [h.len, h'.len]) h.byte h'.byte (fun k _ => ?_)
  by_cases hk : k < n
  · exact hb k hk
  · cases e : bit l k with
    | true => exact absurd (h.left k e) hk
    | false =>
      cases e' : bit l' k with
      | true => exact absurd (h'.left k e') hk
      | false => rfl
def lef (l : List Nat) (n : Nat) : Bool := decide (0 < n % 8) && decide (l.getD (n / 8) 0 / 2 ^ (n % 8) ≠ 0)
theorem div_zero_of_bits {x r : Nat} (h : ∀ j, r ≤ j → x.testBit j = false) : x / 2 ^ r = 0 := by
  apply Nat.eq_of_testBit_eq
  intro i
  rw [Nat.testBit_div_two_pow, Nat.zero_testBit]
  exact h _ (by omega)
theorem lef_no {l : List Nat} {n : Nat} (hl : l.length = siz n) (hb : ∀ x ∈ l, x < 256) : lef l n = false ↔ OkS n l := by
  constructor
  · intro h
    refine ⟨hl, hb, fun k hk => ?_⟩
    rcases Nat.lt_or_ge k n with h1 | h1
    · exact h1
    · exfalso
      by_cases h2 : k / 8 < l.length
      · have h3 : k / 8 = n / 8 ∧ 0 < n % 8 := by rw [hl] at h2; unfold siz at h2; omega
        unfold lef at h
        have h4 : l.getD (n / 8) 0 / 2 ^ (n % 8) = 0 := by
          rcases Nat.eq_zero_or_pos (l.getD (n / 8) 0 / 2 ^ (n % 8)) with e | e
          · exact e
          · simp only [h3.2, decide_true, Bool.true_and, decide_eq_false_iff_not] at h
            omega
        unfold bit at hk
        rw [h3.1] at hk
        have h5 : (l.getD (n / 8) 0 / 2 ^ (n % 8)).testBit (k % 8 - n % 8) = true := by
          rw [Nat.testBit_div_two_pow, show k % 8 - n % 8 + n % 8 = k % 8 by omega]; exact hk
        rw [h4, Nat.zero_testBit] at h5
        cases h5
      · unfold bit at hk
        have : l.getD (k / 8) 0 = 0 := by rw [List.getD_eq_getElem?_getD, List.getElem?_eq_none (by omega)]; rfl
        rw [this, Nat.zero_testBit] at hk
        cases hk
  · intro h
    unfold lef
    by_cases h1 : 0 < n % 8
    · have h4 : l.getD (n / 8) 0 / 2 ^ (n % 8) = 0 := by
        refine div_zero_of_bits (fun j hj => ?_)
        by_cases h8 : j < 8
        · cases e : (l.getD (n / 8) 0).testBit j with
          | false => rfl
          | true =>
            have := h.left (8 * (n / 8) + j) (by rw [bit_at _ _ _ h8]; exact e)
            omega
        · have h2 : 2 ^ 8 ≤ 2 ^ j := Nat.pow_le_pow_right (by omega) (by omega)
          exact Nat.testBit_lt_two_pow (by have := getD_byte hb (n / 8); omega)
      rw [h4]; simp
    · simp [h1]
def rdE (b : List Nat) (n : Int) : Nat :=
  if n < 0 ∨ 65536 < n then 1 else if b.length < siz n.toNat then 2 else if siz n.toNat < b.length then 3 else if lef b n.toNat = true then 4 else 0
theorem rdE_ok {b : List Nat} {n : Int} (hb : ∀ x ∈ b, x < 256) (h : rdE b n = 0) : 0 ≤ n ∧ n ≤ 65536 ∧ OkS n.toNat b := by
  unfold rdE at h
  split at h
  · cases h
  split at h
  · cases h
  split at h
  · cases h
  split at h
  · cases h
  rename_i h1 h2 h3 h4
  exact ⟨by omega, by omega, (lef_no (by omega) hb).1 (by simpa using h4)⟩
theorem rdE_of_ok {n : Nat} {b : List Nat} (hn : n ≤ 65536) (h : OkS n b) : rdE b (n : Int) = 0 := by
  unfold rdE
  have := h.len
  rw [if_neg (by omega), if_neg (by rw [Int.toNat_natCast]; omega), if_neg (by rw [Int.toNat_natCast]; omega), if_neg]
  rw [Int.toNat_natCast, (lef_no h.len h.byte).2 h]
  simp
end Go.Proofs.YticanhidahkhfaaGreatDoor
namespace Go.Proofs.YticanhidahkhfaaGreatDoor
set_option linter.unusedVariables false
set_option linter.unusedSimpArgs false
def setB (f : Nat → Bool) (n : Nat) : List Nat := (sel f n).foldl mark (List.replicate (siz n) 0)
theorem marks_ok {n : Nat} : ∀ (ps : List Nat) (l : List Nat), OkS n l → (∀ p ∈ ps, p < n) → OkS n (ps.foldl mark l) ∧ ∀ k, bit (ps.foldl mark l) k = (decide (k ∈ ps) || bit l k) := by
  intro ps
  induction ps with
  | nil => intro l h _; exact ⟨h, fun k => by simp⟩
  | cons p ps ih =>
    intro l h hp
    have hpn : p < n := hp p (by simp)
    obtain ⟨h1, h2⟩ := ih (mark l p) (h.mark hpn) (fun q hq => hp q (by simp [hq]))
    refine ⟨h1, fun k => ?_⟩
    rw [List.foldl_cons, h2, bit_mark _ _ _ (by rw [h.len]; exact siz_lt hpn)]
    by_cases e1 : k ∈ ps <;> by_cases e2 : k = p <;> simp [e1, e2]
theorem sel_mem (f : Nat → Bool) (n k : Nat) : k ∈ sel f n ↔ k < n ∧ f k = true := by
  induction n with
  | zero => simp [sel]
  | succ n ih =>
    rw [sel, List.mem_append, ih]
    constructor
    · rintro (⟨h1, h2⟩ | h)
      · exact ⟨by omega, h2⟩
      · cases e : f n with
        | true => rw [e] at h; simp at h; subst h; exact ⟨by omega, e⟩
        | false => rw [e] at h; simp at h
    · rintro ⟨h1, h2⟩
      by_cases e : k = n
      · subst e; right; simp [h2]
      · left; exact ⟨by omega, h2⟩
theorem setB_ok (f : Nat → Bool) (n : Nat) : OkS n (setB f n) ∧ ∀ k, k < n → bit (setB f n) k = f k := by
  obtain ⟨h1, h2⟩ := marks_ok (sel f n) _ (OkS.new n) (sel_lt f n)
  refine ⟨h1, fun k hk => ?_⟩
  rw [setB, h2, bit_zeros, Bool.or_false]
  cases e : f k with
  | true => simp [sel_mem, hk, e]
  | false => simp [sel_mem, e]
theorem setB_length (f : Nat → Bool) (n : Nat) : (setB f n).length = siz n := (setB_ok f n).1.len
theorem setB_is {f : Nat → Bool} {n : Nat} {l : List Nat} (h : OkS n l) (hb : ∀ k, k < n → bit l k = f k) : setB f n = l :=
  (setB_ok f n).1.ext h fun k hk => by rw [(setB_ok f n).2 k hk, hb k hk]
theorem cnt_pos {f : Nat → Bool} {n k : Nat} (hk : k < n) (h : f k = true) : 0 < cnt f n := by
  induction n with
  | zero => omega
  | succ n ih =>
    rw [cnt]
    by_cases e : k = n
    · subst e; rw [h]; simp
    · have := ih (by omega); omega
theorem cnt_none {f : Nat → Bool} {n : Nat} (h : cnt f n = 0) : ∀ k, k < n → f k = false := by
  intro k hk
  cases e : f k with
  | false => rfl
  | true => have := cnt_pos hk e; omega
theorem cnt_off {f : Nat → Bool} : ∀ {n : Nat}, (∀ k, k < n → f k = false) → cnt f n = 0 := by
  intro n
  induction n with
  | zero => intro _; rfl
  | succ n ih => intro h; rw [cnt, ih fun k hk => h k (by omega), h n (by omega)]; rfl
theorem bit_nil (k : Nat) : bit [] k = false := by simp [bit]
end Go.Proofs.YticanhidahkhfaaGreatDoor
namespace Go.Proofs.YticanhidahkhfaaGreatDoor
open Go.RowKit
set_option linter.unusedVariables false
set_option linter.unusedSimpArgs false
set_option maxRecDepth 100000
def runC (x : Int) : List (Int × Nat) → List (Int × Nat)
  | [] => [(x, 1)]
  | (y, n) :: r => if y = x then (x, n + 1) :: r else (x, 1) :: (y, n) :: r
theorem runC_cons (x y : Int) (n : Nat) (r : List (Int × Nat)) : runC x ((y, n) :: r) = if y = x then (x, n + 1) :: r else (x, 1) :: (y, n) :: r := rfl
def runs : List Int → List (Int × Nat)
  | [] => []
  | x :: l => runC x (runs l)
def expd (r : List (Int × Nat)) : List Int := r.flatMap fun p => List.replicate p.2 p.1
def Good : List (Int × Nat) → Prop
  | [] => True
  | (x, n) :: r => 0 < n ∧ (r.head?.map Prod.fst ≠ some x) ∧ Good r
theorem expd_cons (p : Int × Nat) (r : List (Int × Nat)) : expd (p :: r) = List.replicate p.2 p.1 ++ expd r := by simp [expd]
theorem expd_append (r s : List (Int × Nat)) : expd (r ++ s) = expd r ++ expd s := by simp [expd]
theorem runC_expd (x : Int) (r : List (Int × Nat)) : expd (runC x r) = x :: expd r := by
  cases r with
  | nil => rfl
  | cons p r =>
    obtain ⟨y, n⟩ := p
    rw [runC_cons]
    split
    · rename_i h; subst h
      rw [expd_cons, expd_cons]; rfl
    · rw [expd_cons]; rfl
theorem expd_runs : ∀ l : List Int, expd (runs l) = l
  | [] => rfl
  | x :: l => by show expd (runC x (runs l)) = _; rw [runC_expd, expd_runs l]
theorem runC_good (x : Int) {r : List (Int × Nat)} (h : Good r) : Good (runC x r) := by
  cases r with
  | nil => exact ⟨by omega, by simp, trivial⟩
  | cons p r =>
    obtain ⟨y, n⟩ := p
    rw [runC_cons]
    split
    · rename_i e; subst e
      exact ⟨by omega, h.2.1, h.2.2⟩
    · rename_i e
      exact ⟨by omega, by simpa using e, h⟩
theorem good_runs : ∀ l : List Int, Good (runs l)
  | [] => trivial
  | x :: l => runC_good x (good_runs l)
theorem runC_rep (x : Int) (r : List (Int × Nat)) (h : r.head?.map Prod.fst ≠ some x) : runC x r = (x, 1) :: r := by
  cases r with
  | nil => rfl
  | cons p r =>
    obtain ⟨y, n⟩ := p
    rw [runC_cons]
    rw [if_neg (by simpa using h)]
theorem runs_rep (x : Int) (l : List Int) (h : (runs l).head?.map Prod.fst ≠ some x) : ∀ n, runs (List.replicate (n + 1) x ++ l) = (x, n + 1) :: runs l
  | 0 => runC_rep x _ h
  | n + 1 => by
    show runC x (runs (List.replicate (n + 1) x ++ l)) = _
    rw [runs_rep x l h n]
    rw [runC_cons]
    rw [if_pos rfl]
theorem runs_expd : ∀ r, Good r → runs (expd r) = r
  | [], _ => rfl
  | (x, n) :: r, h => by
    have ih := runs_expd r h.2.2
    obtain ⟨m, rfl⟩ : ∃ m, n = m + 1 := ⟨n - 1, by have := h.1; omega⟩
    rw [expd_cons, runs_rep x _ (by rw [ih]; exact h.2.1) m, ih]
theorem runC_head (x : Int) (r : List (Int × Nat)) : ((runC x r).head?.map Prod.fst) = some x := by
  cases r with
  | nil => rfl
  | cons p r => obtain ⟨y, n⟩ := p; rw [runC_cons]; split <;> rfl
theorem runs_head (l : List Int) : (runs l).head?.map Prod.fst = l.head? := by
  cases l with
  | nil => rfl
  | cons x l => exact runC_head x _
def rc (l : List Int) : Nat := (runs l).length
theorem rc_nil : rc [] = 0 := rfl
theorem rc_cons (x : Int) (l : List Int) : rc (x :: l) = rc l + if l.head? = some x then 0 else 1 := by
  have h := runs_head l
  unfold rc
  show (runC x (runs l)).length = _
  rw [← h]
  cases hr : runs l with
  | nil => rfl
  | cons p r =>
    obtain ⟨y, n⟩ := p
    rw [runC_cons]
    by_cases e : y = x
    · rw [if_pos e, if_pos (by simp [e])]; rfl
    · rw [if_neg e, if_neg (by simpa using e)]; rfl
theorem rc_le : ∀ l : List Int, rc l ≤ l.length
  | [] => Nat.le_refl _
  | x :: l => by
    have := rc_le l
    rw [rc_cons, List.length_cons]; split <;> omega
theorem rc_rep (v : Int) : ∀ n, rc (List.replicate n v) = min 1 n
  | 0 => rfl
  | n + 1 => by
    have := runs_rep v [] (by simp [runs]) n
    rw [List.append_nil] at this
    unfold rc
    rw [this]
    show 1 = _
    omega
theorem rc_parts (b : List Int) (hb : b ≠ []) : ∀ a : List Int, a ≠ [] → rc (a ++ b) + (if a.getLast? = b.head? then 1 else 0) = rc a + rc b
  | [], h => absurd rfl h
  | [x], _ => by
    have e : rc [x] = 1 := rfl
    rw [List.singleton_append, rc_cons, e]
    rw [show ([x] : List Int).getLast? = some x from rfl]
    by_cases h : b.head? = some x
    · rw [if_pos h, if_pos h.symm]; omega
    · rw [if_neg h, if_neg (fun k => h k.symm)]; omega
  | x :: y :: a, _ => by
    have ih := rc_parts b hb (y :: a) (by simp)
    rw [List.cons_append, rc_cons, rc_cons x (y :: a), List.getLast?_cons_cons]
    rw [show ((y :: a) ++ b).head? = (y :: a).head? from rfl]
    omega
def pos (r : List (Int × Nat)) (k : Nat) : Nat := (expd (r.take k)).length
theorem pos_zero (r : List (Int × Nat)) : pos r 0 = 0 := rfl
theorem pos_succ {r : List (Int × Nat)} {k : Nat} {x : Int} {n : Nat} (h : r[k]? = some (x, n)) : pos r (k + 1) = pos r k + n := by
  unfold pos
  rw [List.take_add_one, h, expd_append, List.length_append]
  show _ + (expd [(x, n)]).length = _
  rw [expd_cons]
  simp [expd]
theorem pos_all (l : List Int) : pos (runs l) (rc l) = l.length := by
  unfold pos rc
  rw [List.take_length, expd_runs]
theorem good_at : ∀ {r : List (Int × Nat)} {k : Nat} {x : Int} {n : Nat}, Good r → r[k]? = some (x, n) → 0 < n ∧ ((r.drop (k + 1)).head?.map Prod.fst ≠ some x)
  | p :: r, 0, x, n, h, e => by
    simp at e
    subst e
    exact ⟨h.1, by simpa using h.2.1⟩
  | p :: r, k + 1, x, n, h, e => by
    have := good_at (r := r) (k := k) h.2.2 (by simpa using e)
    simpa using this
theorem expd_head : ∀ {r : List (Int × Nat)}, Good r → (expd r).head? = r.head?.map Prod.fst
  | [], _ => rfl
  | (x, n) :: r, h => by
    obtain ⟨m, rfl⟩ : ∃ m, n = m + 1 := ⟨n - 1, by have := h.1; omega⟩
    rw [expd_cons]; rfl
theorem good_drop : ∀ {r : List (Int × Nat)} (k : Nat), Good r → Good (r.drop k)
  | r, 0, h => h
  | [], k + 1, _ => trivial
  | p :: r, k + 1, h => good_drop (r := r) k h.2.2
theorem run_at {l : List Int} {k : Nat} {x : Int} {n : Nat} (h : (runs l)[k]? = some (x, n)) :
    0 < n ∧ pos (runs l) k + n ≤ l.length ∧ (∀ j, j < n → l[pos (runs l) k + j]? = some x) ∧ (∀ z, l[pos (runs l) k + n]? = some z → z ≠ x) := by
  obtain ⟨hk, _⟩ := List.getElem?_eq_some_iff.1 h
  obtain ⟨h1, h2⟩ := good_at (good_runs l) h
  have hs : l = expd ((runs l).take k) ++ (List.replicate n x ++ expd ((runs l).drop (k + 1))) := by
    have e1 : runs l = (runs l).take k ++ ((x, n) :: (runs l).drop (k + 1)) := by
      have e2 : (runs l).drop k = (x, n) :: (runs l).drop (k + 1) := by
        rw [List.drop_eq_getElem_cons hk, (List.getElem?_eq_some_iff.1 h).2]
      rw [← e2, List.take_append_drop]
    have := expd_runs l
    rw [e1, expd_append, expd_cons] at this
    exact this.symm
  obtain ⟨q, hq⟩ : ∃ q, q = pos (runs l) k := ⟨_, rfl⟩
  have hp : (expd ((runs l).take k)).length = q := by rw [hq]; rfl
  have hd : (expd ((runs l).drop (k + 1))).head? ≠ some x := by rw [expd_head (good_drop _ (good_runs l))]; exact h2
  rw [← hq]
  refine ⟨h1, ?_, ?_, ?_⟩
  · have := congrArg List.length hs
    rw [List.length_append, List.length_append, List.length_replicate, hp] at this
    omega
  · intro j hj
    have e := congrArg (fun m : List Int => m[q + j]?) hs
    rw [e, List.getElem?_append_right (by omega), hp, Nat.add_sub_cancel_left, List.getElem?_append_left (by simpa using hj), List.getElem?_replicate, if_pos hj]
  · intro z hz e
    subst e
    have e := congrArg (fun m : List Int => m[q + n]?) hs
    rw [e, List.getElem?_append_right (by omega), hp, Nat.add_sub_cancel_left, List.getElem?_append_right (by simp), List.length_replicate, Nat.sub_self] at hz
    rw [List.head?_eq_getElem?] at hd
    exact hd hz
theorem pos_lt {l : List Int} {k : Nat} (h : k < rc l) : pos (runs l) k < l.length := by
  have := run_at (l := l) (k := k) (x := ((runs l)[k]'h).1) (n := ((runs l)[k]'h).2) (List.getElem?_eq_getElem h)
  omega
def ilv (r : List (Int × Nat)) : List Int := r.flatMap fun p => [zagI ((p.2 - 1 : Nat) : Int), p.1]
def rf (r : List (Int × Nat)) : List Nat := pl (ilv r)
theorem ilv_append (r s : List (Int × Nat)) : ilv (r ++ s) = ilv r ++ ilv s := by simp [ilv]
theorem ilv_length : ∀ r : List (Int × Nat), (ilv r).length = 2 * r.length
  | [] => rfl
  | p :: r => by
    have := ilv_length r
    show ([_, _] ++ ilv r).length = _
    rw [List.length_append, this, List.length_cons]
    simp
    omega
theorem rf_step {r : List (Int × Nat)} {k : Nat} {x : Int} {n : Nat} (h : r[k]? = some (x, n)) : rf (r.take (k + 1)) = rf (r.take k) ++ (vb (n - 1) ++ vb (zg x)) := by
  unfold rf
  rw [List.take_add_one, h, ilv_append, pl_append]
  congr 1
  show pl [zagI ((n - 1 : Nat) : Int), x] = _
  rw [pl_cons, pl_one, zg_zagI]
theorem rf_length (r : List (Int × Nat)) : (rf r).length ≤ 20 * r.length := by
  have := (pl_length (ilv r)).2
  rw [ilv_length] at this
  unfold rf
  omega
end Go.Proofs.YticanhidahkhfaaGreatDoor
namespace Go.Proofs.YticanhidahkhfaaGreatDoor
open Go.RowKit
set_option linter.unusedVariables false
set_option linter.unusedSimpArgs false
theorem u64w (n : Int) : IntKind.u64.wrap n = n % 18446744073709551616 := by simp [IntKind.wrap, IntKind.bits, IntKind.signed]
theorem w64 (n : Int) : wrap64 n = (n + 9223372036854775808) % 18446744073709551616 - 9223372036854775808 := by unfold wrap64; rfl
theorem w64_in (n : Int) : In64 (wrap64 n) := by rw [w64]; unfold In64; omega
theorem w64_id {n : Int} (h : In64 n) : wrap64 n = n := by unfold In64 at h; rw [w64]; omega
end Go.Proofs.YticanhidahkhfaaGreatDoor
