import Derived.Test.YticanhidahkhfaaGreatDoorJ34
import Derived.Test.YticanhidahkhfaaGreatDoorJ37
import Derived.Test.YticanhidahkhfaaGreatDoorJ6
import Derived.Test.YticanhidahkhfaaGreatDoorJ10
import Derived.Test.YticanhidahkhfaaGreatDoorJ1
import Derived.Test.YticanhidahkhfaaGreatDoorJ11
import Derived.Laws.CopyRow
import Derived.Deep.RegionLaw
import Derived.Test.YticanhidahkhfaaGreatDoorJ8
import Derived.Test.YticanhidahkhfaaGreatDoorJ19
namespace Go.Proofs.YticanhidahkhfaaGreatDoor
open Go.RowKit
set_option linter.unusedVariables false
set_option linter.unusedSimpArgs false
set_option maxRecDepth 100000
def Far (P : Nat → Prop) (A : Option Addr) (n : Nat) : Prop := 0 < n → ∀ ad, A = some ad → ¬ P ad.block
def IsP : Nat → World → (Nat → Prop) → List Value → Pd → Prop
  | 0, _, _, _, _ => False
  | f + 1, w, P, cs, p => ∃ A c A' c', cs = [.int .i64 p.op, .int .i64 p.col, .slice A p.vals.length c, .slice A' p.parts.length c'] ∧ Reads w w.heap.size 3 A p.vals.length (vs p.vals) ∧ (Far P A p.vals.length ∧ p.vals.length ≤ c) ∧ Far P A' p.parts.length ∧
      ∃ us : List (List Value), us.length = p.parts.length ∧ Reads w w.heap.size 4 A' p.parts.length us.flatten ∧ ∀ (k : Nat) (q : Pd), p.parts[k]? = some q → ∃ u, us[k]? = some u ∧ IsP f w P u q
def AllP (f : Nat) (w : World) (P : Nat → Prop) (us : List (List Value)) (l : List Pd) : Prop := us.length = l.length ∧ ∀ (k : Nat) (q : Pd), l[k]? = some q → ∃ u, us[k]? = some u ∧ IsP f w P u q
theorem IsP.four {f : Nat} {w : World} {P : Nat → Prop} {cs : List Value} {p : Pd} (h : IsP f w P cs p) : cs.length = 4 ∧ ∀ u ∈ cs, u.oneCell' = true := by
  cases f with
  | zero => exact h.elim
  | succ f =>
    obtain ⟨A, c, A', c', rfl, _⟩ := h
    refine ⟨rfl, fun u hu => ?_⟩
    simp only [List.mem_cons, List.not_mem_nil, or_false] at hu
    rcases hu with rfl | rfl | rfl | rfl <;> rfl
theorem reads_kept {w w' : World} {size n : Nat} {A : Option Addr} {xs : List Value} {P : Nat → Prop} (h : Reads w w.heap.size size A n xs) (hf : Far P A n) {row : Option Nat} (hg : w.grownBy w' row) (hP : ∀ q, row = some q → P q) : Reads w' w'.heap.size size A n xs := by
  refine ⟨h.1, fun hn => ?_⟩
  obtain ⟨ad, had, hlt, hc⟩ := h.2 hn
  refine ⟨ad, had, Nat.lt_of_lt_of_le hlt hg.size, fun j u hu => hg.cell (hc j u hu) ?_⟩
  rw [block_of_add]
  exact fun e => hf hn ad had (hP _ e.symm)
theorem IsP.next {w w' : World} {P : Nat → Prop} (hb : Below w.heap.size w w') : ∀ {f : Nat} {cs : List Value} {p : Pd}, IsP f w P cs p → IsP f w' P cs p
  | 0, _, _, h => h.elim
  | f + 1, _, _, h => by
    obtain ⟨A, c, A', c', e, h1, h2, h3, us, h4, h5, h6⟩ := h
    exact ⟨A, c, A', c', e, (h1.below hb).more hb.size, h2, h3, us, h4, (h5.below hb).more hb.size, fun k q hk => by obtain ⟨u, g1, g2⟩ := h6 k q hk; exact ⟨u, g1, IsP.next hb g2⟩⟩
theorem IsP.kept {w w' : World} {P : Nat → Prop} {row : Option Nat} (hg : w.grownBy w' row) (hP : ∀ q, row = some q → P q) : ∀ {f : Nat} {cs : List Value} {p : Pd}, IsP f w P cs p → IsP f w' P cs p
  | 0, _, _, h => h.elim
  | f + 1, _, _, h => by
    obtain ⟨A, c, A', c', e, h1, h2, h3, us, h4, h5, h6⟩ := h
    exact ⟨A, c, A', c', e, reads_kept h1 h2.1 hg hP, h2, h3, us, h4, reads_kept h5 h3 hg hP, fun k q hk => by obtain ⟨u, g1, g2⟩ := h6 k q hk; exact ⟨u, g1, IsP.kept hg hP g2⟩⟩
theorem IsP.off {w : World} {P P' : Nat → Prop} (hP : ∀ q, q < w.heap.size → P' q → P q) : ∀ {f : Nat} {cs : List Value} {p : Pd}, IsP f w P cs p → IsP f w P' cs p
  | 0, _, _, h => h.elim
  | f + 1, _, _, h => by
    obtain ⟨A, c, A', c', e, h1, h2, h3, us, h4, h5, h6⟩ := h
    refine ⟨A, c, A', c', e, h1, ⟨fun hn ad had hp => h2.1 hn ad had (hP _ ?_ hp), h2.2⟩, fun hn ad had hp => h3 hn ad had (hP _ ?_ hp), us, h4, h5, fun k q hk => by obtain ⟨u, g1, g2⟩ := h6 k q hk; exact ⟨u, g1, IsP.off hP g2⟩⟩
    · obtain ⟨ad', had', hlt, _⟩ := h1.2 hn
      rw [had] at had'; injection had' with e; subst e; exact hlt
    · obtain ⟨ad', had', hlt, _⟩ := h5.2 hn
      rw [had] at had'; injection had' with e; subst e; exact hlt
theorem IsP.more {w : World} {P : Nat → Prop} : ∀ {f : Nat} {cs : List Value} {p : Pd}, IsP f w P cs p → IsP (f + 1) w P cs p
  | 0, _, _, h => h.elim
  | f + 1, _, _, h => by
    obtain ⟨A, c, A', c', e, h1, h2, h3, us, h4, h5, h6⟩ := h
    exact ⟨A, c, A', c', e, h1, h2, h3, us, h4, h5, fun k q hk => by obtain ⟨u, g1, g2⟩ := h6 k q hk; exact ⟨u, g1, g2.more⟩⟩
theorem IsP.fuel {w : World} {P : Nat → Prop} {f : Nat} {cs : List Value} {p : Pd} (h : IsP f w P cs p) : ∀ j, IsP (f + j) w P cs p
  | 0 => h
  | j + 1 => (h.fuel j).more
theorem IsP.none_ (w : World) (P : Nat → Prop) (f : Nat) : IsP (f + 1) w P [.int .i64 0, .int .i64 0, .slice none 0 0, .slice none 0 0] Pd.none_ :=
  ⟨none, 0, none, 0, rfl, Reads.none_, ⟨(fun h => absurd h (by decide)), Nat.le_refl _⟩, (fun h => absurd h (by decide)), [], rfl, Reads.none_, fun k q h => by simp [Pd.none_, Pd.parts] at h⟩
theorem AllP.nil (f : Nat) (w : World) (P : Nat → Prop) : AllP f w P [] [] := ⟨rfl, fun k q h => by simp at h⟩
theorem AllP.next {f : Nat} {w w' : World} {P : Nat → Prop} {us : List (List Value)} {l : List Pd} (h : AllP f w P us l) (hb : Below w.heap.size w w') : AllP f w' P us l :=
  ⟨h.1, fun k q hk => by obtain ⟨u, g1, g2⟩ := h.2 k q hk; exact ⟨u, g1, g2.next hb⟩⟩
theorem AllP.kept {f : Nat} {w w' : World} {P : Nat → Prop} {us : List (List Value)} {l : List Pd} (h : AllP f w P us l) {row : Option Nat} (hg : w.grownBy w' row) (hP : ∀ q, row = some q → P q) : AllP f w' P us l :=
  ⟨h.1, fun k q hk => by obtain ⟨u, g1, g2⟩ := h.2 k q hk; exact ⟨u, g1, g2.kept hg hP⟩⟩
theorem AllP.off {f : Nat} {w : World} {P P' : Nat → Prop} {us : List (List Value)} {l : List Pd} (h : AllP f w P us l) (hP : ∀ q, q < w.heap.size → P' q → P q) : AllP f w P' us l :=
  ⟨h.1, fun k q hk => by obtain ⟨u, g1, g2⟩ := h.2 k q hk; exact ⟨u, g1, g2.off hP⟩⟩
theorem AllP.snoc {f : Nat} {w : World} {P : Nat → Prop} {us : List (List Value)} {l : List Pd} {u : List Value} {p : Pd} (h : AllP f w P us l) (hu : IsP f w P u p) : AllP f w P (us ++ [u]) (l ++ [p]) := by
  refine ⟨by simp [h.1], fun k q hk => ?_⟩
  by_cases hlt : k < l.length
  · rw [List.getElem?_append_left hlt] at hk
    obtain ⟨v, h1, h2⟩ := h.2 k q hk
    exact ⟨v, by rw [List.getElem?_append_left (by rw [h.1]; exact hlt)]; exact h1, h2⟩
  · have hk2 : k < (l ++ [p]).length := (List.getElem?_eq_some_iff.1 hk).1
    have e : k = l.length := by simp at hk2; omega
    subst e
    rw [List.getElem?_append_right (Nat.le_refl _), Nat.sub_self] at hk
    injection hk with hk
    subst hk
    exact ⟨u, by rw [← h.1, List.getElem?_append_right (Nat.le_refl _), Nat.sub_self]; rfl, hu⟩
theorem AllP.four {f : Nat} {w : World} {P : Nat → Prop} {us : List (List Value)} {l : List Pd} (h : AllP f w P us l) : ∀ u ∈ us, u.length = 4 ∧ ∀ v ∈ u, v.oneCell' = true := by
  intro u hu
  obtain ⟨k, hk, e⟩ := List.getElem_of_mem hu
  obtain ⟨v, h1, h2⟩ := h.2 k (l[k]'(by rw [← h.1]; exact hk)) (List.getElem?_eq_getElem _)
  rw [List.getElem?_eq_getElem hk, e] at h1
  injection h1 with h1
  subst h1
  exact h2.four
theorem flat4 : ∀ {us : List (List Value)} (h : ∀ u ∈ us, u.length = 4) {k j : Nat} {u : List Value}, us[k]? = some u → j < 4 → us.flatten[k * 4 + j]? = u[j]?
  | [], _, k, j, u, hk, _ => by simp at hk
  | x :: us, h, 0, j, u, hk, hj => by
    simp at hk
    subst hk
    have hx := h x (List.mem_cons_self ..)
    rw [List.flatten_cons, Nat.zero_mul, Nat.zero_add, List.getElem?_append_left (by omega)]
  | x :: us, h, k + 1, j, u, hk, hj => by
    simp at hk
    have hx := h x (List.mem_cons_self ..)
    rw [List.flatten_cons, List.getElem?_append_right (by omega), hx, show (k + 1) * 4 + j - 4 = k * 4 + j by omega]
    exact flat4 (fun u hu => h u (List.mem_cons_of_mem _ hu)) hk hj
theorem flat4_length : ∀ {us : List (List Value)} (h : ∀ u ∈ us, u.length = 4), us.flatten.length = us.length * 4
  | [], _ => rfl
  | x :: us, h => by
    rw [List.flatten_cons, List.length_append, h x (List.mem_cons_self ..), flat4_length fun u hu => h u (List.mem_cons_of_mem _ hu), List.length_cons]; omega
theorem flat4_one {us : List (List Value)} (h : ∀ u ∈ us, ∀ v ∈ u, v.oneCell' = true) : ∀ v ∈ us.flatten, v.oneCell' = true := by
  intro v hv
  obtain ⟨u, hu, hv⟩ := List.mem_flatten.1 hv
  exact h u hu v hv
theorem AllP.at_ {f : Nat} {w : World} {P : Nat → Prop} {B n : Nat} {A : Option Addr} {us : List (List Value)} {l : List Pd} (h : AllP f w P us l) (hr : Reads w B 4 A n us.flatten) (hn : l.length = n) {k : Nat} {q : Pd} (hk : l[k]? = some q) :
    ∃ b o c0 c1 c2 c3, A = some ⟨b, o, none⟩ ∧ b < B ∧ IsP f w P [c0, c1, c2, c3] q ∧ w.cell? ⟨b, o + k * 4, none⟩ = some c0 ∧ w.cell? ⟨b, o + k * 4 + 1, none⟩ = some c1 ∧ w.cell? ⟨b, o + k * 4 + 2, none⟩ = some c2 ∧ w.cell? ⟨b, o + k * 4 + 3, none⟩ = some c3 := by
  obtain ⟨u, hu, hp⟩ := h.2 k q hk
  have h4 := h.four
  have hul := hp.four.1
  have hkl : k < l.length := (List.getElem?_eq_some_iff.1 hk).1
  obtain ⟨⟨b, o, sp⟩, rfl, hb, hc⟩ := hr.2 (by omega)
  match u, hul with
  | [c0, c1, c2, c3], _ =>
    have f0 := flat4 (fun u hu => (h4 u hu).1) hu (j := 0) (by omega)
    have f1 := flat4 (fun u hu => (h4 u hu).1) hu (j := 1) (by omega)
    have f2 := flat4 (fun u hu => (h4 u hu).1) hu (j := 2) (by omega)
    have f3 := flat4 (fun u hu => (h4 u hu).1) hu (j := 3) (by omega)
    have d0 := hc _ _ f0
    have d1 := hc _ _ f1
    have d2 := hc _ _ f2
    have d3 := hc _ _ f3
    obtain rfl : sp = none := by
      have hl0 : 0 < us.flatten.length := by rw [flat4_length fun u hu => (h4 u hu).1, h.1]; omega
      simpa [Addr.add] using World.cell?_spot (hc 0 _ (List.getElem?_eq_getElem hl0))
    rw [plain_add] at d0 d1 d2 d3
    exact ⟨b, o, c0, c1, c2, c3, rfl, hb, hp, by simpa using d0, by rw [Nat.add_assoc]; exact d1, by rw [Nat.add_assoc]; exact d2, by rw [Nat.add_assoc]; exact d3⟩
theorem row_far {w : World} {B n size : Nat} {t : TypeId} {A : Option Addr} {c : Nat} {xs : List Value} (h : w.ownsRow B t size (.slice A n c) n xs) : Far (fun q => q < B) A n := by
  intro _ ad had
  rcases h.2 with ⟨e, _⟩ | ⟨q, cap, cur, e, hB, _⟩
  · injection e with e; rw [e] at had; cases had
  · injection e with e; rw [e] at had; injection had with had; subst had; show ¬ q < B; omega
theorem IsP.mk_ {w : World} {B f n n' : Nat} {op col : Int} {vals : List Vl} {parts : List Pd} {A A' : Option Addr} {c c' : Nat} {t t' : TypeId} {us : List (List Value)} {own : Option Nat} (hn : vals.length = n) (hn' : parts.length = n')
    (h1 : w.ownsRow B t 3 (.slice A n c) n (vs vals)) (h2 : w.ownsRow B t' 4 (.slice A' n' c') n' us.flatten) (h3 : AllP f w (fun q => q < B ∨ some q = own) us parts) :
    IsP (f + 1) w (fun q => q < B) [.int .i64 op, .int .i64 col, .slice A n c, .slice A' n' c'] (.mk op col vals parts) := by
  subst hn hn'
  exact ⟨A, c, A', c', rfl, Reads.of_own h1, ⟨row_far h1, by obtain ⟨A2, c2, e, h, _⟩ := own_slice h1; injection e with _ _ e; rw [e]; exact h⟩, row_far h2, us, h3.1, Reads.of_own h2, (h3.off fun q _ hq => .inl hq).2⟩
theorem AllP.push {f : Nat} {w2 w6 : World} {B S : Nat} {us : List (List Value)} {l : List Pd} {cs : List Value} {p : Pd} {own own' : Option Nat} {o : Obj} (hA : AllP f w2 (fun q => q < B ∨ some q = own) us l) (hp : IsP f w2 (fun q => q < S) cs p) (hB : B ≤ S) (hown : ∀ q, own = some q → q < S)
    (hg : (w2.alloc o).grownBy w6 own) (hat : own' = own ∨ own' = some (w2.alloc o).heap.size) : AllP f w6 (fun q => q < B ∨ some q = own') (us ++ [cs]) (l ++ [p]) := by
  have hba : Below w2.heap.size w2 (w2.alloc o) := (Below.refl _ _).alloc (Nat.le_refl _) o
  have hnew : ∀ q, q < w2.heap.size → some q = own' → some q = own := fun q hq e => by
    rcases hat with h | h
    · rw [← h]; exact e
    · rw [h] at e; injection e with e; simp at e; omega
  have h1 : AllP f w2 (fun q => q < B ∨ some q = own ∨ some q = own') us l := hA.off fun q hq h => by
    rcases h with h | h | h
    · exact .inl h
    · exact .inr h
    · exact .inr (hnew q hq h)
  have h2 : IsP f w2 (fun q => q < B ∨ some q = own ∨ some q = own') cs p := hp.off fun q hq h => by
    rcases h with h | h | h
    · show q < S; omega
    · exact hown q h.symm
    · exact hown q (hnew q hq h).symm
  have h3 := ((h1.next hba).snoc (h2.next hba)).kept hg (fun q hq => .inr (.inl hq.symm))
  exact h3.off fun q _ h => by
    rcases h with h | h
    · exact .inl h
    · exact .inr (.inr h)
end Go.Proofs.YticanhidahkhfaaGreatDoor
namespace Go.Proofs.YticanhidahkhfaaGreatDoor
open Go.RowKit
set_option linter.unusedVariables false
set_option linter.unusedSimpArgs false
set_option maxRecDepth 100000
theorem blk4' {w : World} {g : Nat} {t : TypeId} {a b c d : Value} (h : Blk w g t #[a, b, c, d]) : w.cell? ⟨g, 0, none⟩ = some a ∧ w.cell? ⟨g, 1, none⟩ = some b ∧ w.cell? ⟨g, 2, none⟩ = some c ∧ w.cell? ⟨g, 3, none⟩ = some d := ⟨h.cell 0, h.cell 1, h.cell 2, h.cell 3⟩
def Small : Nat → Pd → Prop
  | 0, _ => True
  | f + 1, p => p.vals.length ≤ 65536 ∧ p.parts.length ≤ 65536 ∧ ∀ q ∈ p.parts, Small f q
end Go.Proofs.YticanhidahkhfaaGreatDoor
namespace Go.Proofs.YticanhidahkhfaaGreatDoor
open Go.RowKit
set_option linter.unusedVariables false
set_option linter.unusedSimpArgs false
set_option maxRecDepth 100000
def zc (z : Zn) : List Value := [.int .i64 z.1, .bool z.2.1] ++ vc z.2.2.1 ++ vc z.2.2.2
def zW (z : Zn) : Value := .agg #[.int .i64 z.1, .bool z.2.1, .int .i64 z.2.2.1.1, .int .i64 z.2.2.1.2.1, .string ⟨z.2.2.1.2.2.toArray⟩, .int .i64 z.2.2.2.1, .int .i64 z.2.2.2.2.1, .string ⟨z.2.2.2.2.2.toArray⟩]
theorem blk8 {w : World} {g : Nat} {t : TypeId} {a b c d e f h i : Value} (H : Blk w g t #[a, b, c, d, e, f, h, i]) : w.cell? ⟨g, 0, none⟩ = some a ∧ w.cell? ⟨g, 1, none⟩ = some b ∧ w.cell? ⟨g, 2, none⟩ = some c ∧ w.cell? ⟨g, 3, none⟩ = some d ∧ w.cell? ⟨g, 4, none⟩ = some e ∧ w.cell? ⟨g, 5, none⟩ = some f ∧ w.cell? ⟨g, 6, none⟩ = some h ∧ w.cell? ⟨g, 7, none⟩ = some i :=
  ⟨H.cell 0, H.cell 1, H.cell 2, H.cell 3, H.cell 4, H.cell 5, H.cell 6, H.cell 7⟩
theorem store3 {w W : World} {R : Nat} {t : TypeId} {z0 z1 z2 : Value} (hR : Blk W R t #[z0, z1, z2]) (hb : Below w.heap.size w W) (hwR : w.heap.size ≤ R) (u0 u1 u2 : Value) :
    Blk (((W.setCell ⟨R, 0, none⟩ u0).setCell ⟨R, 1, none⟩ u1).setCell ⟨R, 2, none⟩ u2) R t #[u0, u1, u2] ∧ Below w.heap.size w (((W.setCell ⟨R, 0, none⟩ u0).setCell ⟨R, 1, none⟩ u1).setCell ⟨R, 2, none⟩ u2) := by
  have b3 := ((hR.set_ 0 u0).set_ 1 u1).set_ 2 u2
  have g3 := ((hb.setCell (p := ⟨R, 0, none⟩) hwR u0).setCell (p := ⟨R, 1, none⟩) hwR u1).setCell (p := ⟨R, 2, none⟩) hwR u2
  exact ⟨by simpa using b3, g3⟩
end Go.Proofs.YticanhidahkhfaaGreatDoor
namespace Go.Proofs.YticanhidahkhfaaGreatDoor
open Go.RowKit
set_option linter.unusedVariables false
set_option linter.unusedSimpArgs false
set_option maxRecDepth 100000
def hcs (l : List (Zn × List Nat)) : List Value := l.flatMap fun x => zc x.1 ++ bs x.2
theorem hcs_snoc (l : List (Zn × List Nat)) (x : Zn × List Nat) : hcs (l ++ [x]) = hcs l ++ (zc x.1 ++ bs x.2) := by simp [hcs]
theorem hcs_nil : hcs [] = [] := rfl
def GrI (w : World) (P : Nat → Prop) (g d : Nat) (rows : List (List Vl)) (hs : List (Zn × List Nat)) (ks : List (List Nat)) : Prop :=
  ∃ R cR C cC K cK us vv, Blk w g 88 #[.slice R rows.length cR, .pointer (some ⟨d, 0, none⟩), .slice C hs.length cC, .slice K ks.length cK] ∧ ¬ P g ∧
    OffG w P 1 R rows.length us ∧ AllS vs List.length w P 3 us rows ∧ OffG w P 40 C hs.length (hcs hs) ∧ OffG w P 1 K ks.length vv ∧ AllS bs List.length w P 1 vv ks
theorem GrI.step {w w' : World} {P P' : Nat → Prop} {row : Option Nat} {g d : Nat} {rows : List (List Vl)} {hs : List (Zn × List Nat)} {ks : List (List Nat)} (h : GrI w P g d rows hs ks) (s : Stp w w' P P' row) : GrI w' P' g d rows hs ks := by
  obtain ⟨R, cR, C, cC, K, cK, us, vv, h0, h1, h2, h3, h4, h5, h6⟩ := h
  refine ⟨R, cR, C, cC, K, cK, us, vv, h0.grown s.1 (fun e => ?_), fun hp => ?_, h2.step s, h3.step s, h4.step s, h5.step s, h6.step s⟩
  · rcases s.2.1 g e.symm with h | h
    · exact h1 h
    · have := h0.lt; omega
  · rcases s.2.2 g hp with h | h
    · exact h1 h
    · have := h0.lt; omega
def NewG (w : World) (sl : List Cl) (rows : List (List Vl)) (e : Ending) (w' : World) : Prop :=
  ∃ g d h, e = .returned (.tuple #[.pointer (some ⟨g, 0, none⟩), .int .i64 0]) ∧ GrI w' (fun b => b < w.heap.size ∨ b = h) g d rows (hdsG sl rows sl.length) (chsG sl rows sl.length) ∧
    SetIn w' w.heap.size d h rows.length (List.replicate (siz rows.length) 0) ∧ Below w.heap.size w w'
end Go.Proofs.YticanhidahkhfaaGreatDoor
namespace Go.Proofs.YticanhidahkhfaaGreatDoor
open Go.RowKit
set_option linter.unusedVariables false
set_option linter.unusedSimpArgs false
theorem fold_set (k : Nat) : ∀ (D : List Value) (i : Nat) (cs : Array Value), k + i + D.length = cs.size → (D.zipIdx i).foldl (fun cs x => cs.setIfInBounds (k + x.2) x.1) cs = (cs.toList.take (k + i) ++ D).toArray
  | [], i, cs, h => by
    simp at h
    rw [List.take_of_length_le (by simp; omega)]
    simp
  | d :: D, i, cs, h => by
    rw [List.length_cons] at h
    rw [List.zipIdx_cons, List.foldl_cons, fold_set k D (i + 1) _ (by simp; omega)]
    congr 1
    rw [show k + (i + 1) = k + i + 1 by omega, List.take_add_one]
    simp only [Array.toList_setIfInBounds]
    rw [List.take_set_of_le (by omega), List.getElem?_set_self (by simp; omega)]
    simp
theorem fold_setT (k : Nat) : ∀ (D : List Value) (i : Nat) (cs : Array Value), k + i + D.length ≤ cs.size → (D.zipIdx i).foldl (fun cs x => cs.setIfInBounds (k + x.2) x.1) cs = (cs.toList.take (k + i) ++ D ++ cs.toList.drop (k + i + D.length)).toArray
  | [], i, cs, h => by simp
  | d :: D, i, cs, h => by
    rw [List.length_cons] at h
    rw [List.zipIdx_cons, List.foldl_cons, fold_setT k D (i + 1) _ (by simp; omega)]
    congr 1
    rw [show k + (i + 1) = k + i + 1 by omega, List.take_add_one, List.length_cons, show k + i + (D.length + 1) = k + i + 1 + D.length by omega]
    simp only [Array.toList_setIfInBounds]
    rw [List.take_set_of_le (by omega), List.getElem?_set_self (by simp; omega), List.drop_set_of_lt (by omega)]
    simp
theorem head_set (a b v v' : Value) (D : List Value) (hD : D.length = 32) : ([a, b] ++ D ++ [v]).toArray.setIfInBounds 34 v' = ([a, b] ++ D ++ [v']).toArray := by
  rw [List.setIfInBounds_toArray]
  congr 1
  rw [List.set_append, if_neg (by simp; omega)]
  simp [hD]
theorem fold_whole (cs F : Array Value) (h : F.size = cs.size) : Array.foldl (fun cs x => cs.setIfInBounds x.2 x.1) cs F.zipIdx 0 F.size = F := by
  have h1 := fold_set 0 F.toList 0 cs (by simp; omega)
  simp only [Nat.zero_add, List.take_zero, List.nil_append] at h1
  rw [show F.size = F.zipIdx.size by simp, ← Array.foldl_toList, Array.toList_zipIdx]
  simpa using h1
theorem reads_whole (W : World) (t : TypeId) (F : Array Value) (l : List Value) (s : Nat) (h : l.toArray = F) (hl : l.length = s) : Reads (W.alloc (.cells F t)) (W.heap.size + 1) s (some ⟨W.heap.size, 0, none⟩) 1 l := by
  subst h
  refine ⟨by omega, fun _ => ⟨_, rfl, Nat.lt_succ_self _, fun j u hu => ?_⟩⟩
  rw [plain_add, Nat.zero_add, (Blk.new W t l.toArray).cell]
  simpa using hu
end Go.Proofs.YticanhidahkhfaaGreatDoor
namespace Go.Proofs.YticanhidahkhfaaGreatDoor
open Go.RowKit
set_option linter.unusedVariables false
set_option linter.unusedSimpArgs false
set_option maxRecDepth 100000
theorem flat_rep (zs : List Value) (h : 0 < zs.length) : ∀ (n j : Nat), j < n * zs.length → (List.replicate n zs).flatten[j]? = zs[j % zs.length]?
  | 0, j, hj => by omega
  | n + 1, j, hj => by
    rw [List.replicate_succ, List.flatten_cons]
    by_cases hlt : j < zs.length
    · rw [List.getElem?_append_left hlt, Nat.mod_eq_of_lt hlt]
    · rw [List.getElem?_append_right (by omega), flat_rep zs h n (j - zs.length) (by rw [Nat.succ_mul] at hj; omega)]
      congr 1
      exact (Nat.mod_eq_sub_mod (by omega)).symm
theorem flat_rep_length (zs : List Value) (n : Nat) : (List.replicate n zs).flatten.length = n * zs.length := by simp
theorem made_gen (zs : List Value) (h : 0 < zs.length) (n : Nat) : madeCells zs.toArray (n * zs.length) = ((List.replicate n zs).flatten).toArray := by
  apply Array.ext'
  apply List.ext_getElem?
  intro j
  by_cases hj : j < n * zs.length
  · rw [List.toList_toArray, flat_rep zs h n j hj]
    have hm : j % zs.length < zs.length := Nat.mod_lt _ h
    simp [madeCells, hj, List.getElem?_eq_getElem hm, Array.getD, hm]
  · rw [List.getElem?_eq_none (by simp [madeCells]; omega), List.getElem?_eq_none (by rw [List.toList_toArray, flat_rep_length]; omega)]
def zcl (n : Nat) : List Value := (List.replicate n [.int .i64 0, .bool false, .int .i64 0]).flatten
theorem zcl_length (n : Nat) : (zcl n).length = n * 3 := flat_rep_length _ n
theorem info_col0 : (Tryz.prog.info? 83).map (fun i => (i.zero, i.size, i.bytes)) = some (some (.agg #[.int .i64 0, .bool false, .int .i64 0]), 3, 24) := by kernel_rfl
theorem run_make_cols (n : Nat) (hn : n ≤ 1073741824) (w : World) :
    (Instr.makeSlice 22 (.int .i64 (n : Int)) (.int .i64 (n : Int))).run Tryz.prog w = .ok (.slice (some ⟨w.heap.size, 0, none⟩) n n) (w.alloc (.cells (zcl n).toArray 83)) := by
  obtain ⟨i, hi, hz0, hz1, hz2⟩ := info_parts info_col0
  have hr := run_make (P := Tryz.prog) w 22 83 i _ Tryz.underlying22 hi hz0 .i64 .i64 n n (by omega) (by omega) (by rw [hz2]; omega) (by omega)
  rw [hz1] at hr
  simp only [Int.toNat_natCast, Value.cells] at hr
  rw [show madeCells #[.int .i64 0, .bool false, .int .i64 0] (n * 3) = (zcl n).toArray from made_gen [.int .i64 0, .bool false, .int .i64 0] (by simp) n] at hr
  exact hr
theorem reads_blkZ {w : World} {g n s : Nat} {t : TypeId} {xs : List Value} (hb : Blk w g t xs.toArray) (hl : xs.length = n * s) : Reads w w.heap.size s (some ⟨g, 0, none⟩) n xs :=
  ⟨hl, fun _ => ⟨_, rfl, hb.lt, fun j u hu => by rw [plain_add, Nat.zero_add, hb.cell j, List.getElem?_toArray]; exact hu⟩⟩
theorem zcl_kind {w : World} {B n k : Nat} {A : Option Addr} (h : Reads w B 3 A n (zcl n)) (hk : k < n) : ∃ b o, A = some ⟨b, o, none⟩ ∧ b < B ∧ w.cell? ⟨b, o + k * 3, none⟩ = some (.int .i64 0) := by
  obtain ⟨⟨b, o, sp⟩, rfl, hb, hc⟩ := h.2 (by omega)
  have hl := zcl_length n
  obtain rfl : sp = none := by simpa [Addr.add] using World.cell?_spot (hc 0 _ (List.getElem?_eq_getElem (by omega)))
  refine ⟨b, o, rfl, hb, ?_⟩
  have h0 : (zcl n)[k * 3]? = some (.int .i64 0) := by
    rw [zcl, flat_rep _ (by simp) n (k * 3) (by simp; omega)]
    simp
  have := hc _ _ h0
  rwa [plain_add] at this
end Go.Proofs.YticanhidahkhfaaGreatDoor
namespace Go.Proofs.YticanhidahkhfaaGreatDoor
open Go.RowKit
set_option linter.unusedVariables false
set_option linter.unusedSimpArgs false
set_option maxRecDepth 100000
theorem mul64_12 (w : World) : Calls Tryz.prog 249 #[.int .u64 1, .int .u64 2] w fun e w' => e = .returned (.tuple #[.int .u64 0, .int .u64 2]) ∧ w = w' := by
  go_enter Tryz.func249, Tryz.ntmps249
  go_wp2_with fail
  go_ret2
  exact ⟨by first | rfl | simp, rfl⟩
theorem mul_12 (w : World) : Calls Tryz.prog 179 #[.int .u64 1, .int .u64 2] w fun e w' => e = .returned (.tuple #[.int .u64 0, .int .u64 2]) ∧ w = w' := by
  have H := Lib.hid mul64_12
  go_enter Tryz.func179, Tryz.ntmps179
  go_wp2_with fail
  refine (H.out _).mono ?_
  rintro e w1 ⟨rfl, rfl⟩
  go_wp2_with fail
  go_ret2
  exact ⟨by first | rfl | simp, rfl⟩
theorem run_copy3 (w : World) (g o dLen dCap : Nat) (a : Addr) (sLen sCap : Nat) (cur : Array Value) (t ty : TypeId) (cs : List Value)
    (hg : w.heap[g]? = some (.cells cur t (0, 0))) (hn : cs.length = Nat.min sLen dLen * 3)
    (hsrc : ∀ j v, cs[j]? = some v → w.cell? (a.add j) = some v) (hfit : o + cs.length ≤ cur.size) (h1 : ∀ v ∈ cs, v.oneCell' = true) :
    (Builtin.copy_ #[22, 22] ty #[.slice (some ⟨g, o, none⟩) dLen dCap, .slice (some a) sLen sCap]).run Tryz.prog w =
      .ok (goInt (Nat.min sLen dLen)) (w.setRow g (cur.toList.take o ++ cs ++ cur.toList.drop (o + cs.length)).toArray) := by
  have hl := run_loadCells_list (P := Tryz.prog) w a cs hsrc
  have hst := run_storeCells_at (P := Tryz.prog) g o t cs 0 cur w hg (by simpa using hfit) h1
  obtain ⟨i, hi, hz0, hz1, hz2⟩ := info_parts info_col0
  simp [Builtin.copy_, run_underlying Tryz.underlying22, Builtin.lenOf, Builtin.firstCells, sizeOf, typeInfo, hi, hz1, ← hn, hl, hst]
theorem below_setRow (w : World) (g : Nat) (cs : Array Value) : Below g w (w.setRow g cs) := ⟨rfl, rfl, rfl, by simp [World.setRow], fun k hk => setRow_other w g k cs (by omega)⟩
theorem below_drewR {B : Nat} {w W : World} (h : Below B w W) : Below B w W.drew := ⟨h.os, h.tape, h.output, h.size, h.block⟩
set_option maxHeartbeats 1000000 in
theorem repeat_12 {w : World} {g : Nat} (hb : Blk w g 83 #[.int .i64 1, .bool false, .int .i64 0]) :
    Calls Tryz.prog 108 #[.slice (some ⟨g, 0, none⟩) 1 1, .int .i64 2] w fun e w' => e = .returned (.slice (some ⟨w.heap.size, 0, none⟩) 2 2) ∧ Blk w' w.heap.size 83 #[.int .i64 1, .bool false, .int .i64 0, .int .i64 1, .bool false, .int .i64 0] ∧ Below w.heap.size w w' := by
  have H := Lib.hid mul_12
  have hmk : ∀ W : World, (Instr.makeSlice 22 (.int .i64 2) (.int .i64 2)).run Tryz.prog W = .ok (.slice (some ⟨W.heap.size, 0, none⟩) 2 2) (W.alloc (.cells #[.int .i64 0, .bool false, .int .i64 0, .int .i64 0, .bool false, .int .i64 0] 83)) := fun W => run_make_cols 2 (by omega) W
  have k0 := Blk.new w 83 #[.int .i64 0, .bool false, .int .i64 0, .int .i64 0, .bool false, .int .i64 0]
  have b0 := (Below.refl w.heap.size w).alloc (Nat.le_refl _) (.cells #[.int .i64 0, .bool false, .int .i64 0, .int .i64 0, .bool false, .int .i64 0] 83)
  have kg := hb.alloc (.cells #[.int .i64 0, .bool false, .int .i64 0, .int .i64 0, .bool false, .int .i64 0] 83)
  have c1 := run_copy3 (w.alloc (.cells #[.int .i64 0, .bool false, .int .i64 0, .int .i64 0, .bool false, .int .i64 0] 83)) w.heap.size 0 2 2 ⟨g, 0, none⟩ 1 1 _ _ 3 [.int .i64 1, .bool false, .int .i64 0] k0 rfl (fun j v hj => by rw [plain_add, Nat.zero_add, kg.cell j]; simpa using hj) (by simp) (by intro v hv; simp only [List.mem_cons, List.not_mem_nil, or_false] at hv; rcases hv with rfl | rfl | rfl <;> rfl)
  have hcp1 : (Builtin.copy_ #[22, 22] 3 #[.slice (some ⟨w.heap.size, 0, none⟩) 2 2, .slice (some ⟨g, 0, none⟩) 1 1]).run Tryz.prog (w.alloc (.cells #[.int .i64 0, .bool false, .int .i64 0, .int .i64 0, .bool false, .int .i64 0] 83)) = .ok (.int .i64 1) ((w.alloc (.cells #[.int .i64 0, .bool false, .int .i64 0, .int .i64 0, .bool false, .int .i64 0] 83)).setRow w.heap.size #[.int .i64 1, .bool false, .int .i64 0, .int .i64 0, .bool false, .int .i64 0]) := c1
  have k1 : Blk ((w.alloc (.cells #[.int .i64 0, .bool false, .int .i64 0, .int .i64 0, .bool false, .int .i64 0] 83)).setRow w.heap.size #[.int .i64 1, .bool false, .int .i64 0, .int .i64 0, .bool false, .int .i64 0]) w.heap.size 83 #[.int .i64 1, .bool false, .int .i64 0, .int .i64 0, .bool false, .int .i64 0] := setRow_heap _ _ _ _ _ _ k0
  have g1 := b0.trans ((below_setRow (w.alloc (.cells #[.int .i64 0, .bool false, .int .i64 0, .int .i64 0, .bool false, .int .i64 0] 83)) w.heap.size #[.int .i64 1, .bool false, .int .i64 0, .int .i64 0, .bool false, .int .i64 0]).mono (Nat.le_refl _))
  obtain ⟨W1, hW1⟩ : ∃ q, (w.alloc (.cells #[.int .i64 0, .bool false, .int .i64 0, .int .i64 0, .bool false, .int .i64 0] 83)).setRow w.heap.size #[.int .i64 1, .bool false, .int .i64 0, .int .i64 0, .bool false, .int .i64 0] = q := ⟨_, rfl⟩
  rw [hW1] at hcp1 k1 g1
  have c2 := run_copy3 W1.drew w.heap.size 3 1 1 ⟨w.heap.size, 0, none⟩ 1 2 _ _ 3 [.int .i64 1, .bool false, .int .i64 0] k1.drew rfl (fun j v hj => by
    rw [plain_add, Nat.zero_add, k1.drew.cell j]
    have hl : j < 3 := by simpa using (List.getElem?_eq_some_iff.1 hj).1
    have h3 : j = 0 ∨ j = 1 ∨ j = 2 := by omega
    rcases h3 with rfl | rfl | rfl <;> simpa using hj) (by simp) (by intro v hv; simp only [List.mem_cons, List.not_mem_nil, or_false] at hv; rcases hv with rfl | rfl | rfl <;> rfl)
  have hcp2 : (Builtin.copy_ #[22, 22] 3 #[.slice (some ⟨w.heap.size, 3, none⟩) 1 1, .slice (some ⟨w.heap.size, 0, none⟩) 1 2]).run Tryz.prog W1.drew = .ok (.int .i64 1) (W1.drew.setRow w.heap.size #[.int .i64 1, .bool false, .int .i64 0, .int .i64 1, .bool false, .int .i64 0]) := c2
  have k2 : Blk (W1.drew.setRow w.heap.size #[.int .i64 1, .bool false, .int .i64 0, .int .i64 1, .bool false, .int .i64 0]) w.heap.size 83 #[.int .i64 1, .bool false, .int .i64 0, .int .i64 1, .bool false, .int .i64 0] := setRow_heap _ _ _ _ _ _ k1.drew
  have g2 := (below_drewR g1).trans ((below_setRow W1.drew w.heap.size #[.int .i64 1, .bool false, .int .i64 0, .int .i64 1, .bool false, .int .i64 0]).mono (Nat.le_refl _))
  have HK2 := Lib.hid k2; have HG2 := Lib.hid g2
  clear k0 b0 kg c1 c2 k1 g1 hb k2 g2 hW1
  go_enter Tryz.func108, Tryz.ntmps108
  go_wp2_with fail
  refine (H.out _).mono ?_
  rintro e w1 ⟨rfl, rfl⟩
  go_wp2_with fail
  go_loopw [8] (fun s wr => (s = .int .i64 1 ∧ wr = W1) ∨ (s = .int .i64 2 ∧ Blk wr w.heap.size 83 #[.int .i64 1, .bool false, .int .i64 0, .int .i64 1, .bool false, .int .i64 0] ∧ Below w.heap.size w wr)) (fun s _ => 2 - (intOf s).toNat)
  case atStart => exact .inl ⟨rfl, rfl⟩
  case round =>
    rcases hrel with ⟨rfl, rfl⟩ | ⟨rfl, k, hb⟩
    · go_wp2_with fail
      go_region
      go_wp2_with fail
      go_round
      case rel => exact .inr ⟨rfl, HK2.out, HG2.out⟩
      case measure => simp [intOf]
    · clear hcp1 hcp2
      go_wp2_with fail
      go_ret
      exact ⟨rfl, k, hb⟩
end Go.Proofs.YticanhidahkhfaaGreatDoor
namespace Go.Proofs.YticanhidahkhfaaGreatDoor
open Go.RowKit
set_option linter.unusedVariables false
set_option linter.unusedSimpArgs false
set_option maxRecDepth 100000
def CmpC : Prop := ∀ (a b : Vl) (w : World), Calls Tryz.prog 96 #[vW a, vW b] w fun e w' => e = .returned (.int .i64 (cmpV a b)) ∧ Below w.heap.size w w'
end Go.Proofs.YticanhidahkhfaaGreatDoor
namespace Go.Proofs.YticanhidahkhfaaGreatDoor
open Go.RowKit
set_option linter.unusedVariables false
set_option linter.unusedSimpArgs false
set_option maxRecDepth 100000
theorem binOp_gtr_tx (t : TypeId) (a b : List UInt8) : binOp .gtr t (.string ⟨a.toArray⟩) (.string ⟨b.toArray⟩) = pure (.bool (decide (tlt b a))) := by
  have h : (!(Op.bytesLess a b || a == b)) = decide (tlt b a) := by
    by_cases h1 : tlt a b
    · rw [less_of h1, show decide (tlt b a) = false by simp [tlt_asymm h1]]; rfl
    · rw [less_not h1]
      by_cases h2 : a = b
      · subst h2
        rw [show decide (tlt a a) = false by simp [tlt_irrefl a]]; simp
      · rw [show decide (tlt b a) = true by simp [tlt_total h1 h2]]; simp [h2]
  rw [← h]; simp [binOp, Op.stringOp]
end Go.Proofs.YticanhidahkhfaaGreatDoor
