import Derived.Test.YtpgdlmnhomnblaaGreatDoorJ21
import Derived.Test.YtpgdlmnhomnblaaGreatDoorJ23
import Derived.Test.YtpgdlmnhomnblaaGreatDoorJ4
import Derived.Test.YtpgdlmnhomnblaaGreatDoorJ8
import Derived.Test.YtpgdlmnhomnblaaGreatDoorJ1
import Derived.Test.YtpgdlmnhomnblaaGreatDoorJ9
import Derived.Laws.CopyRow
import Derived.Deep.RegionLaw
import Derived.Test.YtpgdlmnhomnblaaGreatDoorJ6
import Derived.Test.YtpgdlmnhomnblaaGreatDoorJ17
namespace Go.Proofs.YtpgdlmnhomnblaaGreatDoor
open Go.RowKit
set_option linter.unusedVariables false
set_option linter.unusedSimpArgs false
set_option maxRecDepth 100000
def Far (P : Nat → Prop) (A : Option Addr) (n : Nat) : Prop := 0 < n → ∀ ad, A = some ad → ¬ P ad.block
def IsP : Nat → World → (Nat → Prop) → List Value → Pd → Prop
  | 0, _, _, _, _ => False
  | f + 1, w, P, cs, p => ∃ A c A' c', cs = [.int .i64 p.op, .int .i64 p.col, .slice A p.vals.length c, .slice A' p.parts.length c'] ∧ Reads w w.heap.size 3 A p.vals.length (vs p.vals) ∧ (Far P A p.vals.length ∧ p.vals.length ≤ c) ∧ Far P A' p.parts.length ∧
      ∃ us : List (List Value), us.length = p.parts.length ∧ Reads w w.heap.size 4 A' p.parts.length us.flatten ∧ ∀ (k : Nat) (q : Pd), p.parts[k]? = some q → ∃ u, us[k]? = some u ∧ IsP f w P u q
def AllP (f : Nat) (w : World) (P : Nat → Prop) (us : List (List Value)) (l : List Pd) : Prop := us.length = l.length ∧ ∀ (k : Nat) (q : Pd), l[k]? = some q → ∃ u, us[k]? = some u ∧ IsP f w P u q
theorem IsP.four {f : Nat} {w : World} {P : Nat → Prop} {cs : List Value} {p : Pd} (h : IsP f w P cs p) : cs.length = 4 ∧ ∀ u ∈ cs, u.oneCell' = true := by
  cases f with
  | zero => exact h.elim
  | succ f =>
    obtain ⟨A, c, A', c', rfl, _⟩ := h
    refine ⟨rfl, fun u hu => ?_⟩
    simp only [List.mem_cons, List.not_mem_nil, or_false] at hu
    rcases hu with rfl | rfl | rfl | rfl <;> rfl
theorem reads_kept {w w' : World} {size n : Nat} {A : Option Addr} {xs : List Value} {P : Nat → Prop} (h : Reads w w.heap.size size A n xs) (hf : Far P A n) {row : Option Nat} (hg : w.grownBy w' row) (hP : ∀ q, row = some q → P q) : Reads w' w'.heap.size size A n xs := by
  refine ⟨h.1, fun hn => ?_⟩
  obtain ⟨ad, had, hlt, hc⟩ := h.2 hn
  refine ⟨ad, had, Nat.lt_of_lt_of_le hlt hg.size, fun j u hu => hg.cell (hc j u hu) ?_⟩
  rw [block_of_add]
  exact fun e => hf hn ad had (hP _ e.symm)
theorem IsP.next {w w' : World} {P : Nat → Prop} (hb : Below w.heap.size w w') : ∀ {f : Nat} {cs : List Value} {p : Pd}, IsP f w P cs p → IsP f w' P cs p
  | 0, _, _, h => h.elim
  | f + 1, _, _, h => by
    obtain ⟨A, c, A', c', e, h1, h2, h3, us, h4, h5, h6⟩ := h
    exact ⟨A, c, A', c', e, (h1.below hb).more hb.size, h2, h3, us, h4, (h5.below hb).more hb.size, fun k q hk => by obtain ⟨u, g1, g2⟩ := h6 k q hk; exact ⟨u, g1, IsP.next hb g2⟩⟩
theorem IsP.kept {w w' : World} {P : Nat → Prop} {row : Option Nat} (hg : w.grownBy w' row) (hP : ∀ q, row = some q → P q) : ∀ {f : Nat} {cs : List Value} {p : Pd}, IsP f w P cs p → IsP f w' P cs p
  | 0, _, _, h => h.elim
  | f + 1, _, _, h => by
    obtain ⟨A, c, A', c', e, h1, h2, h3, us, h4, h5, h6⟩ := h
    exact ⟨A, c, A', c', e, reads_kept h1 h2.1 hg hP, h2, h3, us, h4, reads_kept h5 h3 hg hP, fun k q hk => by obtain ⟨u, g1, g2⟩ := h6 k q hk; exact ⟨u, g1, IsP.kept hg hP g2⟩⟩
theorem IsP.off {w : World} {P P' : Nat → Prop} (hP : ∀ q, q < w.heap.size → P' q → P q) : ∀ {f : Nat} {cs : List Value} {p : Pd}, IsP f w P cs p → IsP f w P' cs p
  | 0, _, _, h => h.elim
  | f + 1, _, _, h => by
    obtain ⟨A, c, A', c', e, h1, h2, h3, us, h4, h5, h6⟩ := h
    refine ⟨A, c, A', c', e, h1, ⟨fun hn ad had hp => h2.1 hn ad had (hP _ ?_ hp), h2.2⟩, fun hn ad had hp => h3 hn ad had (hP _ ?_ hp), us, h4, h5, fun k q hk => by obtain ⟨u, g1, g2⟩ := h6 k q hk; exact ⟨u, g1, IsP.off hP g2⟩⟩
    · obtain ⟨ad', had', hlt, _⟩ := h1.2 hn
      rw [had] at had'; injection had' with e; subst e; exact hlt
    · obtain ⟨ad', had', hlt, _⟩ := h5.2 hn
      rw [had] at had'; injection had' with e; subst e; exact hlt
theorem IsP.more {w : World} {P : Nat → Prop} : ∀ {f : Nat} {cs : List Value} {p : Pd}, IsP f w P cs p → IsP (f + 1) w P cs p
  | 0, _, _, h => h.elim
  | f + 1, _, _, h => by
    obtain ⟨A, c, A', c', e, h1, h2, h3, us, h4, h5, h6⟩ := h
    exact ⟨A, c, A', c', e, h1, h2, h3, us, h4, h5, fun k q hk => by obtain ⟨u, g1, g2⟩ := h6 k q hk; exact ⟨u, g1, g2.more⟩⟩
theorem IsP.fuel {w : World} {P : Nat → Prop} {f : Nat} {cs : List Value} {p : Pd} (h : IsP f w P cs p) : ∀ j, IsP (f + j) w P cs p
  | 0 => h
  | j + 1 => (h.fuel j).more
theorem IsP.none_ (w : World) (P : Nat → Prop) (f : Nat) : IsP (f + 1) w P [.int .i64 0, .int .i64 0, .slice none 0 0, .slice none 0 0] Pd.none_ :=
  ⟨none, 0, none, 0, rfl, Reads.none_, ⟨(fun h => absurd h (by decide)), Nat.le_refl _⟩, (fun h => absurd h (by decide)), [], rfl, Reads.none_, fun k q h => by simp [Pd.none_, Pd.parts] at h⟩
theorem AllP.nil (f : Nat) (w : World) (P : Nat → Prop) : AllP f w P [] [] := ⟨rfl, fun k q h => by simp at h⟩
theorem AllP.next {f : Nat} {w w' : World} {P : Nat → Prop} {us : List (List Value)} {l : List Pd} (h : AllP f w P us l) (hb : Below w.heap.size w w') : AllP f w' P us l :=
  ⟨h.1, fun k q hk => by obtain ⟨u, g1, g2⟩ := h.2 k q hk; exact ⟨u, g1, g2.next hb⟩⟩
theorem AllP.kept {f : Nat} {w w' : World} {P : Nat → Prop} {us : List (List Value)} {l : List Pd} (h : AllP f w P us l) {row : Option Nat} (hg : w.grownBy w' row) (hP : ∀ q, row = some q → P q) : AllP f w' P us l :=
  ⟨h.1, fun k q hk => by obtain ⟨u, g1, g2⟩ := h.2 k q hk; exact ⟨u, g1, g2.kept hg hP⟩⟩
theorem AllP.off {f : Nat} {w : World} {P P' : Nat → Prop} {us : List (List Value)} {l : List Pd} (h : AllP f w P us l) (hP : ∀ q, q < w.heap.size → P' q → P q) : AllP f w P' us l :=
  ⟨h.1, fun k q hk => by obtain ⟨u, g1, g2⟩ := h.2 k q hk; exact ⟨u, g1, g2.off hP⟩⟩
theorem AllP.snoc {f : Nat} {w : World} {P : Nat → Prop} {us : List (List Value)} {l : List Pd} {u : List Value} {p : Pd} (h : AllP f w P us l) (hu : IsP f w P u p) : AllP f w P (us ++ [u]) (l ++ [p]) := by
  refine ⟨by simp [h.1], fun k q hk => ?_⟩
  by_cases hlt : k < l.length
  · rw [List.getElem?_append_left hlt] at hk
    obtain ⟨v, h1, h2⟩ := h.2 k q hk
    exact ⟨v, by rw [List.getElem?_append_left (by rw [h.1]; exact hlt)]; exact h1, h2⟩
  · have hk2 : k < (l ++ [p]).length := (List.getElem?_eq_some_iff.1 hk).1
    have e : k = l.length := by simp at hk2; omega
    subst e
    rw [List.getElem?_append_right (Nat.le_refl _), Nat.sub_self] at hk
    injection hk with hk
    subst hk
    exact ⟨u, by rw [← h.1, List.getElem?_append_right (Nat.le_refl _), Nat.sub_self]; rfl, hu⟩
theorem AllP.four {f : Nat} {w : World} {P : Nat → Prop} {us : List (List Value)} {l : List Pd} (h : AllP f w P us l) : ∀ u ∈ us, u.length = 4 ∧ ∀ v ∈ u, v.oneCell' = true := by
  intro u hu
  obtain ⟨k, hk, e⟩ := List.getElem_of_mem hu
  obtain ⟨v, h1, h2⟩ := h.2 k (l[k]'(by rw [← h.1]; exact hk)) (List.getElem?_eq_getElem _)
  rw [List.getElem?_eq_getElem hk, e] at h1
  injection h1 with h1
  subst h1
  exact h2.four
theorem flat4 : ∀ {us : List (List Value)} (h : ∀ u ∈ us, u.length = 4) {k j : Nat} {u : List Value}, us[k]? = some u → j < 4 → us.flatten[k * 4 + j]? = u[j]?
  | [], _, k, j, u, hk, _ => by simp at hk
  | x :: us, h, 0, j, u, hk, hj => by
    simp at hk
    subst hk
    have hx := h x (List.mem_cons_self ..)
    rw [List.flatten_cons, Nat.zero_mul, Nat.zero_add, List.getElem?_append_left (by omega)]
  | x :: us, h, k + 1, j, u, hk, hj => by
    simp at hk
    have hx := h x (List.mem_cons_self ..)
    rw [List.flatten_cons, List.getElem?_append_right (by omega), hx, show (k + 1) * 4 + j - 4 = k * 4 + j by omega]
    exact flat4 (fun u hu => h u (List.mem_cons_of_mem _ hu)) hk hj
theorem flat4_length : ∀ {us : List (List Value)} (h : ∀ u ∈ us, u.length = 4), us.flatten.length = us.length * 4
  | [], _ => rfl
  | x :: us, h => by
    rw [List.flatten_cons, List.length_append, h x (List.mem_cons_self ..), flat4_length fun u hu => h u (List.mem_cons_of_mem _ hu), List.length_cons]; omega
theorem AllP.at_ {f : Nat} {w : World} {P : Nat → Prop} {B n : Nat} {A : Option Addr} {us : List (List Value)} {l : List Pd} (h : AllP f w P us l) (hr : Reads w B 4 A n us.flatten) (hn : l.length = n) {k : Nat} {q : Pd} (hk : l[k]? = some q) :
    ∃ b o c0 c1 c2 c3, A = some ⟨b, o, none⟩ ∧ b < B ∧ IsP f w P [c0, c1, c2, c3] q ∧ w.cell? ⟨b, o + k * 4, none⟩ = some c0 ∧ w.cell? ⟨b, o + k * 4 + 1, none⟩ = some c1 ∧ w.cell? ⟨b, o + k * 4 + 2, none⟩ = some c2 ∧ w.cell? ⟨b, o + k * 4 + 3, none⟩ = some c3 := by
  obtain ⟨u, hu, hp⟩ := h.2 k q hk
  have h4 := h.four
  have hul := hp.four.1
  have hkl : k < l.length := (List.getElem?_eq_some_iff.1 hk).1
  obtain ⟨⟨b, o, sp⟩, rfl, hb, hc⟩ := hr.2 (by omega)
  match u, hul with
  | [c0, c1, c2, c3], _ =>
    have f0 := flat4 (fun u hu => (h4 u hu).1) hu (j := 0) (by omega)
    have f1 := flat4 (fun u hu => (h4 u hu).1) hu (j := 1) (by omega)
    have f2 := flat4 (fun u hu => (h4 u hu).1) hu (j := 2) (by omega)
    have f3 := flat4 (fun u hu => (h4 u hu).1) hu (j := 3) (by omega)
    have d0 := hc _ _ f0
    have d1 := hc _ _ f1
    have d2 := hc _ _ f2
    have d3 := hc _ _ f3
    obtain rfl : sp = none := by
      have hl0 : 0 < us.flatten.length := by rw [flat4_length fun u hu => (h4 u hu).1, h.1]; omega
      simpa [Addr.add] using World.cell?_spot (hc 0 _ (List.getElem?_eq_getElem hl0))
    rw [plain_add] at d0 d1 d2 d3
    exact ⟨b, o, c0, c1, c2, c3, rfl, hb, hp, by simpa using d0, by rw [Nat.add_assoc]; exact d1, by rw [Nat.add_assoc]; exact d2, by rw [Nat.add_assoc]; exact d3⟩
end Go.Proofs.YtpgdlmnhomnblaaGreatDoor
namespace Go.Proofs.YtpgdlmnhomnblaaGreatDoor
open Go.RowKit
set_option linter.unusedVariables false
set_option linter.unusedSimpArgs false
set_option maxRecDepth 100000
def Small : Nat → Pd → Prop
  | 0, _ => True
  | f + 1, p => p.vals.length ≤ 65536 ∧ p.parts.length ≤ 65536 ∧ ∀ q ∈ p.parts, Small f q
end Go.Proofs.YtpgdlmnhomnblaaGreatDoor
namespace Go.Proofs.YtpgdlmnhomnblaaGreatDoor
open Go.RowKit
set_option linter.unusedVariables false
set_option linter.unusedSimpArgs false
set_option maxRecDepth 100000
def zc (z : Zn) : List Value := [.int .i64 z.1, .bool z.2.1] ++ vc z.2.2.1 ++ vc z.2.2.2
def zW (z : Zn) : Value := .agg #[.int .i64 z.1, .bool z.2.1, .int .i64 z.2.2.1.1, .int .i64 z.2.2.1.2.1, .string ⟨z.2.2.1.2.2.toArray⟩, .int .i64 z.2.2.2.1, .int .i64 z.2.2.2.2.1, .string ⟨z.2.2.2.2.2.toArray⟩]
theorem blk8 {w : World} {g : Nat} {t : TypeId} {a b c d e f h i : Value} (H : Blk w g t #[a, b, c, d, e, f, h, i]) : w.cell? ⟨g, 0, none⟩ = some a ∧ w.cell? ⟨g, 1, none⟩ = some b ∧ w.cell? ⟨g, 2, none⟩ = some c ∧ w.cell? ⟨g, 3, none⟩ = some d ∧ w.cell? ⟨g, 4, none⟩ = some e ∧ w.cell? ⟨g, 5, none⟩ = some f ∧ w.cell? ⟨g, 6, none⟩ = some h ∧ w.cell? ⟨g, 7, none⟩ = some i :=
  ⟨H.cell 0, H.cell 1, H.cell 2, H.cell 3, H.cell 4, H.cell 5, H.cell 6, H.cell 7⟩
end Go.Proofs.YtpgdlmnhomnblaaGreatDoor
namespace Go.Proofs.YtpgdlmnhomnblaaGreatDoor
open Go.RowKit
set_option linter.unusedVariables false
set_option linter.unusedSimpArgs false
set_option maxRecDepth 100000
def hcs (l : List (Zn × List Nat)) : List Value := l.flatMap fun x => zc x.1 ++ bs x.2
theorem hcs_snoc (l : List (Zn × List Nat)) (x : Zn × List Nat) : hcs (l ++ [x]) = hcs l ++ (zc x.1 ++ bs x.2) := by simp [hcs]
def GrI (w : World) (P : Nat → Prop) (g d : Nat) (rows : List (List Vl)) (hs : List (Zn × List Nat)) (ks : List (List Nat)) : Prop :=
  ∃ R cR C cC K cK us vv, Blk w g 63 #[.slice R rows.length cR, .pointer (some ⟨d, 0, none⟩), .slice C hs.length cC, .slice K ks.length cK] ∧ ¬ P g ∧
    OffG w P 1 R rows.length us ∧ AllS vs List.length w P 3 us rows ∧ OffG w P 40 C hs.length (hcs hs) ∧ OffG w P 1 K ks.length vv ∧ AllS bs List.length w P 1 vv ks
theorem GrI.step {w w' : World} {P P' : Nat → Prop} {row : Option Nat} {g d : Nat} {rows : List (List Vl)} {hs : List (Zn × List Nat)} {ks : List (List Nat)} (h : GrI w P g d rows hs ks) (s : Stp w w' P P' row) : GrI w' P' g d rows hs ks := by
  obtain ⟨R, cR, C, cC, K, cK, us, vv, h0, h1, h2, h3, h4, h5, h6⟩ := h
  refine ⟨R, cR, C, cC, K, cK, us, vv, h0.grown s.1 (fun e => ?_), fun hp => ?_, h2.step s, h3.step s, h4.step s, h5.step s, h6.step s⟩
  · rcases s.2.1 g e.symm with h | h
    · exact h1 h
    · have := h0.lt; omega
  · rcases s.2.2 g hp with h | h
    · exact h1 h
    · have := h0.lt; omega
def NewG (w : World) (sl : List Cl) (rows : List (List Vl)) (e : Ending) (w' : World) : Prop :=
  ∃ g d h, e = .returned (.tuple #[.pointer (some ⟨g, 0, none⟩), .int .i64 0]) ∧ GrI w' (fun b => b < w.heap.size ∨ b = h) g d rows (hdsG sl rows sl.length) (chsG sl rows sl.length) ∧
    SetIn w' w.heap.size d h rows.length (List.replicate (siz rows.length) 0) ∧ Below w.heap.size w w'
end Go.Proofs.YtpgdlmnhomnblaaGreatDoor
namespace Go.Proofs.YtpgdlmnhomnblaaGreatDoor
open Go.RowKit
set_option linter.unusedVariables false
set_option linter.unusedSimpArgs false
theorem fold_set (k : Nat) : ∀ (D : List Value) (i : Nat) (cs : Array Value), k + i + D.length = cs.size → (D.zipIdx i).foldl (fun cs x => cs.setIfInBounds (k + x.2) x.1) cs = (cs.toList.take (k + i) ++ D).toArray
  | [], i, cs, h => by
    simp at h
    rw [List.take_of_length_le (by simp; omega)]
    simp
  | d :: D, i, cs, h => by
    rw [List.length_cons] at h
    rw [List.zipIdx_cons, List.foldl_cons, fold_set k D (i + 1) _ (by simp; omega)]
    congr 1
    rw [show k + (i + 1) = k + i + 1 by omega, List.take_add_one]
    simp only [Array.toList_setIfInBounds]
    rw [List.take_set_of_le (by omega), List.getElem?_set_self (by simp; omega)]
    simp
theorem fold_setT (k : Nat) : ∀ (D : List Value) (i : Nat) (cs : Array Value), k + i + D.length ≤ cs.size → (D.zipIdx i).foldl (fun cs x => cs.setIfInBounds (k + x.2) x.1) cs = (cs.toList.take (k + i) ++ D ++ cs.toList.drop (k + i + D.length)).toArray
  | [], i, cs, h => by simp
  | d :: D, i, cs, h => by
    rw [List.length_cons] at h
    rw [List.zipIdx_cons, List.foldl_cons, fold_setT k D (i + 1) _ (by simp; omega)]
    congr 1
    rw [show k + (i + 1) = k + i + 1 by omega, List.take_add_one, List.length_cons, show k + i + (D.length + 1) = k + i + 1 + D.length by omega]
    simp only [Array.toList_setIfInBounds]
    rw [List.take_set_of_le (by omega), List.getElem?_set_self (by simp; omega), List.drop_set_of_lt (by omega)]
    simp
theorem head_set (a b v v' : Value) (D : List Value) (hD : D.length = 32) : ([a, b] ++ D ++ [v]).toArray.setIfInBounds 34 v' = ([a, b] ++ D ++ [v']).toArray := by
  rw [List.setIfInBounds_toArray]
  congr 1
  rw [List.set_append, if_neg (by simp; omega)]
  simp [hD]
theorem fold_whole (cs F : Array Value) (h : F.size = cs.size) : Array.foldl (fun cs x => cs.setIfInBounds x.2 x.1) cs F.zipIdx 0 F.size = F := by
  have h1 := fold_set 0 F.toList 0 cs (by simp; omega)
  simp only [Nat.zero_add, List.take_zero, List.nil_append] at h1
  rw [show F.size = F.zipIdx.size by simp, ← Array.foldl_toList, Array.toList_zipIdx]
  simpa using h1
theorem reads_whole (W : World) (t : TypeId) (F : Array Value) (l : List Value) (s : Nat) (h : l.toArray = F) (hl : l.length = s) : Reads (W.alloc (.cells F t)) (W.heap.size + 1) s (some ⟨W.heap.size, 0, none⟩) 1 l := by
  subst h
  refine ⟨by omega, fun _ => ⟨_, rfl, Nat.lt_succ_self _, fun j u hu => ?_⟩⟩
  rw [plain_add, Nat.zero_add, (Blk.new W t l.toArray).cell]
  simpa using hu
end Go.Proofs.YtpgdlmnhomnblaaGreatDoor
namespace Go.Proofs.YtpgdlmnhomnblaaGreatDoor
open Go.RowKit
set_option linter.unusedVariables false
set_option linter.unusedSimpArgs false
set_option maxRecDepth 100000
theorem reads_blkZ {w : World} {g n s : Nat} {t : TypeId} {xs : List Value} (hb : Blk w g t xs.toArray) (hl : xs.length = n * s) : Reads w w.heap.size s (some ⟨g, 0, none⟩) n xs :=
  ⟨hl, fun _ => ⟨_, rfl, hb.lt, fun j u hu => by rw [plain_add, Nat.zero_add, hb.cell j, List.getElem?_toArray]; exact hu⟩⟩
end Go.Proofs.YtpgdlmnhomnblaaGreatDoor
namespace Go.Proofs.YtpgdlmnhomnblaaGreatDoor
open Go.RowKit
set_option linter.unusedVariables false
set_option linter.unusedSimpArgs false
set_option maxRecDepth 100000
theorem below_drewR {B : Nat} {w W : World} (h : Below B w W) : Below B w W.drew := ⟨h.os, h.tape, h.output, h.size, h.block⟩
end Go.Proofs.YtpgdlmnhomnblaaGreatDoor
namespace Go.Proofs.YtpgdlmnhomnblaaGreatDoor
open Go.RowKit
set_option linter.unusedVariables false
set_option linter.unusedSimpArgs false
set_option maxRecDepth 100000
def CmpC : Prop := ∀ (a b : Vl) (w : World), Calls Tryz.prog 47 #[vW a, vW b] w fun e w' => e = .returned (.int .i64 (cmpV a b)) ∧ Below w.heap.size w w'
end Go.Proofs.YtpgdlmnhomnblaaGreatDoor
namespace Go.Proofs.YtpgdlmnhomnblaaGreatDoor
open Go.RowKit
set_option linter.unusedVariables false
set_option linter.unusedSimpArgs false
set_option maxRecDepth 100000
theorem binOp_gtr_tx (t : TypeId) (a b : List UInt8) : binOp .gtr t (.string ⟨a.toArray⟩) (.string ⟨b.toArray⟩) = pure (.bool (decide (tlt b a))) := by
  have h : (!(Op.bytesLess a b || a == b)) = decide (tlt b a) := by
    by_cases h1 : tlt a b
    · rw [less_of h1, show decide (tlt b a) = false by simp [tlt_asymm h1]]; rfl
    · rw [less_not h1]
      by_cases h2 : a = b
      · subst h2
        rw [show decide (tlt a a) = false by simp [tlt_irrefl a]]; simp
      · rw [show decide (tlt b a) = true by simp [tlt_total h1 h2]]; simp [h2]
  rw [← h]; simp [binOp, Op.stringOp]
end Go.Proofs.YtpgdlmnhomnblaaGreatDoor
namespace Go.Proofs.YtpgdlmnhomnblaaGreatDoor
open Go.RowKit
set_option linter.unusedVariables false
set_option linter.unusedSimpArgs false
set_option maxRecDepth 100000
attribute [local go_sem] binOp_gtr_tx
def cmpI (x y : Int) : Int := if x < y then -1 else if y < x then 1 else 0
def cmpT (x y : Tx) : Int := if tlt x y then -1 else if tlt y x then 1 else 0
theorem cmpV_is (a b : Vl) : cmpV a b = if a.1 = b.1 then (if a.1 = 1 then cmpI a.2.1 b.2.1 else if a.1 = 2 then cmpT a.2.2 b.2.2 else 0) else cmpI a.1 b.1 := by
  unfold cmpI cmpT
  rcases cmp_cases a b with ⟨h, e⟩ | ⟨h, e⟩ | ⟨h0, ⟨k, ⟨h, e⟩ | ⟨h, e⟩ | ⟨h, e⟩⟩ | ⟨k, ⟨h, e⟩ | ⟨h, e⟩ | ⟨h, e⟩⟩ | ⟨k1, k2, e⟩⟩
  · rw [e, if_neg (by omega), if_pos h]
  · rw [e, if_neg (by omega), if_neg (by omega), if_pos h]
  · rw [e, if_pos h0, if_pos k, if_pos h]
  · rw [e, if_pos h0, if_pos k, if_neg (by omega), if_pos h]
  · rw [e, if_pos h0, if_pos k, if_neg (by omega), if_neg (by omega)]
  · rw [e, if_pos h0, if_neg (by omega), if_pos k, if_pos h]
  · rw [e, if_pos h0, if_neg (by omega), if_pos k, if_neg (tlt_asymm h), if_pos h]
  · rw [e, if_pos h0, if_neg (by omega), if_pos k, h, if_neg (tlt_irrefl _), if_neg (tlt_irrefl _)]
  · rw [e, if_pos h0, if_neg k1, if_neg k2]
theorem isNaN_int (x : Int) (w : World) : Calls Tryz.prog 147 #[.int .i64 x] w fun e w' => e = .returned (.bool false) ∧ w = w' := by
  go_enter Tryz.func147, Tryz.ntmps147
  go_wp2_with fail
  go_ret
  exact ⟨by first | rfl | simp, rfl⟩
theorem isNaN_int64 (x : Int) (w : World) : Calls Tryz.prog 148 #[.int .i64 x] w fun e w' => e = .returned (.bool false) ∧ w = w' := by
  go_enter Tryz.func148, Tryz.ntmps148
  go_wp2_with fail
  go_ret
  exact ⟨by first | rfl | simp, rfl⟩
theorem isNaN_tx (x : Tx) (w : World) : Calls Tryz.prog 149 #[.string ⟨x.toArray⟩] w fun e w' => e = .returned (.bool false) ∧ w = w' := by
  go_enter Tryz.func149, Tryz.ntmps149
  go_wp2_with fail
  go_ret
  exact ⟨by first | rfl | simp, rfl⟩
theorem compare_int (x y : Int) (w : World) : Calls Tryz.prog 91 #[.int .i64 x, .int .i64 y] w fun e w' => e = .returned (.int .i64 (cmpI x y)) ∧ w = w' := by
  obtain ⟨r, hr⟩ : ∃ r, cmpI x y = r := ⟨_, rfl⟩
  rw [hr]
  unfold cmpI at hr
  have H1 := Lib.hid (isNaN_int x); have H2 := Lib.hid (isNaN_int y)
  go_enter Tryz.func91, Tryz.ntmps91
  go_wp2_with fail
  refine (H1.out _).mono ?_
  rintro e w' ⟨rfl, rfl⟩
  go_wp2_with fail
  refine (H2.out _).mono ?_
  rintro e w' ⟨rfl, rfl⟩
  by_cases h1 : x < y
  · rw [if_pos h1] at hr
    subst hr
    go_wp2_with fail
    go_ret
    exact ⟨rfl, rfl⟩
  · rw [if_neg h1] at hr
    by_cases h2 : y < x
    · rw [if_pos h2] at hr
      subst hr
      go_wp2_with fail
      go_ret
      exact ⟨rfl, rfl⟩
    · rw [if_neg h2] at hr
      subst hr
      go_wp2_with fail
      go_ret
      exact ⟨rfl, rfl⟩
theorem compare_int64 (x y : Int) (w : World) : Calls Tryz.prog 92 #[.int .i64 x, .int .i64 y] w fun e w' => e = .returned (.int .i64 (cmpI x y)) ∧ w = w' := by
  obtain ⟨r, hr⟩ : ∃ r, cmpI x y = r := ⟨_, rfl⟩
  rw [hr]
  unfold cmpI at hr
  have H1 := Lib.hid (isNaN_int64 x); have H2 := Lib.hid (isNaN_int64 y)
  go_enter Tryz.func92, Tryz.ntmps92
  go_wp2_with fail
  refine (H1.out _).mono ?_
  rintro e w' ⟨rfl, rfl⟩
  go_wp2_with fail
  refine (H2.out _).mono ?_
  rintro e w' ⟨rfl, rfl⟩
  by_cases h1 : x < y
  · rw [if_pos h1] at hr
    subst hr
    go_wp2_with fail
    go_ret
    exact ⟨rfl, rfl⟩
  · rw [if_neg h1] at hr
    by_cases h2 : y < x
    · rw [if_pos h2] at hr
      subst hr
      go_wp2_with fail
      go_ret
      exact ⟨rfl, rfl⟩
    · rw [if_neg h2] at hr
      subst hr
      go_wp2_with fail
      go_ret
      exact ⟨rfl, rfl⟩
theorem compare_tx (x y : Tx) (w : World) : Calls Tryz.prog 93 #[.string ⟨x.toArray⟩, .string ⟨y.toArray⟩] w fun e w' => e = .returned (.int .i64 (cmpT x y)) ∧ w = w' := by
  obtain ⟨r, hr⟩ : ∃ r, cmpT x y = r := ⟨_, rfl⟩
  rw [hr]
  unfold cmpT at hr
  have H1 := Lib.hid (isNaN_tx x); have H2 := Lib.hid (isNaN_tx y)
  go_enter Tryz.func93, Tryz.ntmps93
  go_wp2_with fail
  refine (H1.out _).mono ?_
  rintro e w' ⟨rfl, rfl⟩
  go_wp2_with fail
  refine (H2.out _).mono ?_
  rintro e w' ⟨rfl, rfl⟩
  by_cases h1 : tlt x y
  · rw [if_pos h1] at hr
    subst hr
    have l1 := less_of h1
    have g1 : decide (tlt x y) = true := by simp [h1]
    clear h1
    go_wp2_with fail
    go_ret
    exact ⟨rfl, rfl⟩
  · rw [if_neg h1] at hr
    have l1 := less_not h1
    have g1 : decide (tlt x y) = false := by simp [h1]
    by_cases h2 : tlt y x
    · rw [if_pos h2] at hr
      subst hr
      have g2 : decide (tlt y x) = true := by simp [h2]
      clear h1 h2
      go_wp2_with fail
      go_ret
      exact ⟨rfl, rfl⟩
    · rw [if_neg h2] at hr
      subst hr
      have g2 : decide (tlt y x) = false := by simp [h2]
      clear h1 h2
      go_wp2_with fail
      go_ret
      exact ⟨rfl, rfl⟩
set_option maxHeartbeats 1000000 in
theorem cmpC_any : CmpC := by
  intro a b w
  have hR := cmpV_is a b
  obtain ⟨r, hr⟩ : ∃ r, cmpV a b = r := ⟨_, rfl⟩
  rw [hr] at hR ⊢
  obtain ⟨a0, a1, za⟩ := a
  obtain ⟨b0, b1, zb⟩ := b
  simp only at hR
  clear hr
  unfold vW
  simp only
  have hB : Below w.heap.size w ((w.alloc (.cells #[.int .i64 a0, .int .i64 a1, .string ⟨za.toArray⟩] 51)).alloc (.cells #[.int .i64 b0, .int .i64 b1, .string ⟨zb.toArray⟩] 51)) :=
    ((Below.refl _ _).alloc (Nat.le_refl _) _).alloc (by simp) _
  by_cases h0 : a0 = b0
  · subst h0
    rw [if_pos rfl] at hR
    by_cases k1 : a0 = 1
    · subst k1
      rw [if_pos rfl] at hR
      subst hR
      have H := Lib.hid (compare_int64 a1 b1)
      go_enter Tryz.func47, Tryz.ntmps47
      go_wp2_with fail
      refine (H.out _).mono ?_
      rintro e w' ⟨rfl, rfl⟩
      go_wp2_with fail
      go_ret
      exact ⟨rfl, hB⟩
    · by_cases k2 : a0 = 2
      · subst k2
        rw [if_neg (by decide), if_pos rfl] at hR
        subst hR
        have H := Lib.hid (compare_tx za zb)
        go_enter Tryz.func47, Tryz.ntmps47
        go_wp2_with fail
        refine (H.out _).mono ?_
        rintro e w' ⟨rfl, rfl⟩
        go_wp2_with fail
        go_ret
        exact ⟨rfl, hB⟩
      · rw [if_neg k1, if_neg k2] at hR
        subst hR
        have q1 : (a0 == 1) = false := by simp [k1]
        have q2 : (a0 == 2) = false := by simp [k2]
        clear k1 k2
        go_enter Tryz.func47, Tryz.ntmps47
        go_wp2_with fail
        go_ret
        exact ⟨rfl, hB⟩
  · rw [if_neg h0] at hR
    subst hR
    have q1 : (a0 != b0) = true := by simp [h0]
    have H := Lib.hid (compare_int a0 b0)
    clear h0
    go_enter Tryz.func47, Tryz.ntmps47
    go_wp2_with fail
    refine (H.out _).mono ?_
    rintro e w' ⟨rfl, rfl⟩
    go_wp2_with fail
    go_ret
    exact ⟨rfl, hB⟩
end Go.Proofs.YtpgdlmnhomnblaaGreatDoor
