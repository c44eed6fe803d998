/- Texts joined: Each Lists Concat. -/
import Derived.Test.YtppeagjklndidaaGreatDoorWords
import Derived.Test.YtppeagjklndidaaGreatDoorJ2
import Derived.Test.YtppeagjklndidaaGreatDoorJ16
/- A relation between the values of a row and byte texts, one for one. No program. -/
namespace Go.Proofs.YtppeagjklndidaaGreatDoor
open Go.RowKit
set_option linter.unusedVariables false
set_option linter.unusedSimpArgs false

def Each (R : Value → List Nat → Prop) : List Value → List (List Nat) → Prop
  | [], [] => True
  | v :: vs, l :: ls => R v l ∧ Each R vs ls
  | _, _ => False
theorem Each.imp {R R' : Value → List Nat → Prop} (h : ∀ v l, R v l → R' v l) : ∀ {vs : List Value} {ls : List (List Nat)}, Each R vs ls → Each R' vs ls := by
  intro vs
  induction vs with
  | nil => intro ls e; cases ls with
    | nil => trivial
    | cons l ls => exact e.elim
  | cons v vs ih => intro ls e; cases ls with
    | nil => exact e.elim
    | cons l ls => exact ⟨h v l e.1, ih e.2⟩
theorem Each.length {R : Value → List Nat → Prop} : ∀ {vs : List Value} {ls : List (List Nat)}, Each R vs ls → vs.length = ls.length := by
  intro vs
  induction vs with
  | nil => intro ls e; cases ls with
    | nil => rfl
    | cons l ls => exact e.elim
  | cons v vs ih => intro ls e; cases ls with
    | nil => exact e.elim
    | cons l ls => simp [ih e.2]
theorem Each.append {R : Value → List Nat → Prop} : ∀ {vs : List Value} {ls : List (List Nat)} {us : List Value} {ms : List (List Nat)}, Each R vs ls → Each R us ms → Each R (vs ++ us) (ls ++ ms) := by
  intro vs
  induction vs with
  | nil => intro ls us ms e f; cases ls with
    | nil => exact f
    | cons l ls => exact e.elim
  | cons v vs ih => intro ls us ms e f; cases ls with
    | nil => exact e.elim
    | cons l ls => exact ⟨e.1, ih e.2 f⟩
theorem Each.at_ {R : Value → List Nat → Prop} : ∀ {vs : List Value} {ls : List (List Nat)}, Each R vs ls → ∀ {i : Nat} {l : List Nat}, ls[i]? = some l → ∃ v, vs[i]? = some v ∧ R v l := by
  intro vs
  induction vs with
  | nil => intro ls e i l h; cases ls with
    | nil => simp at h
    | cons l ls => exact e.elim
  | cons v vs ih => intro ls e i l h; cases ls with
    | nil => exact e.elim
    | cons l' ls =>
      cases i with
      | zero => simp at h; subst h; exact ⟨v, by simp, e.1⟩
      | succ i => simp at h; obtain ⟨u, h1, h2⟩ := ih e.2 h; exact ⟨u, by simpa using h1, h2⟩
theorem Each.cells {R : Value → List Nat → Prop} (h1 : ∀ v l, R v l → v.oneCell' = true) : ∀ {vs : List Value} {ls : List (List Nat)}, Each R vs ls → ∀ u ∈ vs, u.oneCell' = true := by
  intro vs
  induction vs with
  | nil => intro ls e u hu; simp at hu
  | cons v vs ih => intro ls e u hu; cases ls with
    | nil => exact e.elim
    | cons l ls =>
      rcases List.mem_cons.1 hu with rfl | hu
      · exact h1 _ _ e.1
      · exact ih e.2 u hu
theorem Each.range {R : Value → List Nat → Prop} (g : Nat → Value) (f : Nat → List Nat) (n : Nat) (h : ∀ r, r < n → R (g r) (f r)) : Each R ((List.range n).map g) ((List.range n).map f) := by
  induction n with
  | zero => trivial
  | succ n ih =>
    rw [List.range_succ, List.map_append, List.map_append]
    exact (ih fun r hr => h r (by omega)).append ⟨h n (by omega), trivial⟩
end Go.Proofs.YtppeagjklndidaaGreatDoor

/- Lists of byte texts in memory: a slice of slices; append of one onto a row of the call's own. -/
namespace Go.Proofs.YtppeagjklndidaaGreatDoor
open Go.RowKit
set_option linter.unusedVariables false
set_option linter.unusedSimpArgs false
set_option maxRecDepth 100000

/-- A slice that reads as bytes, off the block 'own'. -/
def Off (w : World) (own : Option Nat) (v : Value) (l : List Nat) : Prop :=
  ∃ A c, v = .slice A l.length c ∧ Reads w w.heap.size 1 A l.length (bs l) ∧ (0 < l.length → ∀ ad, A = some ad → some ad.block ≠ own)
/-- A slice that reads as bytes. -/
def IsB (w : World) (v : Value) (l : List Nat) : Prop := ∃ A c, v = .slice A l.length c ∧ Reads w w.heap.size 1 A l.length (bs l)
theorem Off.isB {w : World} {own : Option Nat} {v : Value} {l : List Nat} (h : Off w own v l) : IsB w v l := by
  obtain ⟨A, c, e, hr, _⟩ := h
  exact ⟨A, c, e, hr⟩
theorem IsB.off {w : World} {v : Value} {l : List Nat} (h : IsB w v l) (own : Option Nat) (ho : ∀ g, own = some g → w.heap.size ≤ g) : Off w own v l := by
  obtain ⟨A, c, e, hr⟩ := h
  refine ⟨A, c, e, hr, fun hn ad had heq => ?_⟩
  obtain ⟨ad', h1, h2, _⟩ := hr.2 hn
  rw [had] at h1
  injection h1 with h1
  subst h1
  have := ho _ heq.symm
  omega
theorem IsB.one {w : World} {v : Value} {l : List Nat} (h : IsB w v l) : v.oneCell' = true := by
  obtain ⟨A, c, rfl, _⟩ := h; rfl
theorem Off.one {w : World} {own : Option Nat} {v : Value} {l : List Nat} (h : Off w own v l) : v.oneCell' = true := h.isB.one
theorem IsB.next {w w' : World} {v : Value} {l : List Nat} (h : IsB w v l) (hb : Below w.heap.size w w') : IsB w' v l := by
  obtain ⟨A, c, e, hr⟩ := h
  exact ⟨A, c, e, (hr.below hb).more hb.size⟩
theorem Off.next {w w' : World} {own : Option Nat} {v : Value} {l : List Nat} (h : Off w own v l) (hb : Below w.heap.size w w') : Off w' own v l := by
  obtain ⟨A, c, e, hr, ho⟩ := h
  exact ⟨A, c, e, (hr.below hb).more hb.size, ho⟩
/-- A row of the call's own grows, in place or in a new block: what lies off it stands, and lies off it still. -/
theorem Off.grown {w w' : World} {own own' : Option Nat} {v : Value} {l : List Nat} (h : Off w own v l) (hg : w.grownBy w' own) (ho' : own' = own ∨ own' = some w.heap.size) : Off w' own' v l := by
  obtain ⟨A, c, e, hr, ho⟩ := h
  refine ⟨A, c, e, ⟨hr.1, fun hn => ?_⟩, fun hn ad had => ?_⟩
  · obtain ⟨ad, had, hlt, hc⟩ := hr.2 hn
    refine ⟨ad, had, Nat.lt_of_lt_of_le hlt hg.size, fun j u hu => hg.cell (hc j u hu) ?_⟩
    rw [block_of_add]
    exact ho hn ad had
  · rcases ho' with rfl | rfl
    · exact ho hn ad had
    · obtain ⟨ad', had', hlt, _⟩ := hr.2 hn
      rw [had] at had'
      injection had' with had'
      subst had'
      intro h
      injection h with h
      omega
/-- A list of byte texts: a slice of slices. -/
def LL (w : World) (A : Option Addr) (ls : List (List Nat)) : Prop := ∃ vs, Reads w w.heap.size 1 A ls.length vs ∧ Each (IsB w) vs ls
theorem LL.next {w w' : World} {A : Option Addr} {ls : List (List Nat)} (h : LL w A ls) (hb : Below w.heap.size w w') : LL w' A ls := by
  obtain ⟨vs, hr, he⟩ := h
  exact ⟨vs, (hr.below hb).more hb.size, he.imp fun v l hv => hv.next hb⟩
theorem LL.none_ {w : World} : LL w none [] := ⟨[], Reads.none_, trivial⟩

theorem info_bytes : (Tryz.prog.info? 22).map (fun i => (i.zero, i.size, i.bytes)) = some (some (.slice none 0 0), 1, 24) := by kernel_rfl
end Go.Proofs.YtppeagjklndidaaGreatDoor

/- Contract of the library's slices.Concat over bytes: all parts, one behind the other, in new memory. -/
namespace Go.Proofs.YtppeagjklndidaaGreatDoor
open Go.RowKit
set_option linter.unusedVariables false
set_option linter.unusedSimpArgs false
set_option maxRecDepth 100000

/-- The text at a place of a list of byte texts. -/
theorem LL.at_ {w : World} {A : Option Addr} {ls : List (List Nat)} (h : LL w A ls) {i : Nat} {l : List Nat} (hl : ls[i]? = some l) : ∃ ad u, A = some ad ∧ w.cell? (ad.add i) = some u ∧ IsB w u l := by
  obtain ⟨vs, hr, he⟩ := h
  obtain ⟨u, hu, hc⟩ := he.at_ hl
  obtain ⟨ad, u', e, _, h1, h2⟩ := hr.at_ (k := i) (List.getElem?_eq_some_iff.1 hl).1
  rw [hu] at h1
  injection h1 with h1
  subst h1
  exact ⟨ad, u, e, h2, hc⟩
theorem flat_step {ls : List (List Nat)} {k : Nat} {l : List Nat} (h : ls[k]? = some l) : (ls.take (k + 1)).flatten = (ls.take k).flatten ++ l := by
  rw [List.take_add_one, h]; simp
theorem flat_le (ls : List (List Nat)) (k : Nat) : (ls.take k).flatten.length ≤ ls.flatten.length := by
  have h : ls.flatten = (ls.take k).flatten ++ (ls.drop k).flatten := by rw [← List.flatten_append, List.take_append_drop]
  rw [h, List.length_append]; omega
set_option maxHeartbeats 1000000 in
theorem concat_any (A : Option Addr) (n c : Nat) (ls : List (List Nat)) (w : World) (hL : LL w A ls) (hl : ls.length = n) (hn : n ≤ 140737488355328) (ht : ls.flatten.length ≤ 70368744177664) :
    Calls Tryz.prog 56 #[.slice A n c] w (New w (bs ls.flatten) ls.flatten.length) := by
  obtain ⟨i0, hi0, hz0, hz1, hz2⟩ := info_parts info_u8
  obtain ⟨T, hT⟩ : ∃ T, T = ls.flatten.length := ⟨_, rfl⟩
  have hle := fun k => flat_le ls k
  rw [← hT] at ht hle ⊢
  have HL := Lib.hid hl; have HT := Lib.hid hT
  clear hl hT
  go_enter Tryz.func56, Tryz.ntmps56
  go_wp2_with fail
  go_loop [3, 11] (fun s3 s11 => ∃ k m : Nat, k ≤ n ∧ s11 = .int .i64 (k : Int) ∧ s3 = .int .i64 (m : Int) ∧ Hid (m = (ls.take k).flatten.length)) (fun _ i => n - (intOf i).toNat)
  case atStart => exact ⟨0, 0, Nat.zero_le _, rfl, rfl, Lib.hid rfl⟩
  case round =>
    obtain ⟨k, m, hk, rfl, rfl, hm⟩ := hrel
    have hmT : m ≤ T := by rw [hm.out]; exact hle k
    by_cases hlt : k < n
    · obtain ⟨t, hat⟩ : ∃ t, ls[k]? = some t := ⟨_, List.getElem?_eq_getElem (by rw [HL.out]; exact hlt)⟩
      obtain ⟨ad, u, rfl, hc, A2, c2, rfl, hr2⟩ := hL.at_ hat
      have hm2 := hle (k + 1)
      rw [flat_step hat, List.length_append, ← hm.out] at hm2
      obtain ⟨q, hq⟩ : ∃ q, q = t.length := ⟨_, rfl⟩
      rw [← hq] at hc hm2
      have HS : Hid ((ls.take (k + 1)).flatten.length = m + q) := Lib.hid (by rw [flat_step hat, List.length_append, ← hm.out, hq])
      clear hat hq hr2
      go_wp2_with fail
      go_round
      case rel => exact ⟨k + 1, m + q, by omega, by go_num, by go_num, Lib.hid HS.out.symm⟩
      case measure => simp [intOf]; omega
    · obtain rfl : k = n := by omega
      have hmk : Hid (m = T) := Lib.hid (by rw [hm.out, HT.out, List.take_of_length_le (by rw [HL.out]; omega)])
      clear hm
      have h1 := hmk.out
      subst h1
      go_wp2_with fail
      refine (grow_nil m w (by omega)).mono ?_
      rintro e w1 ⟨v1, rfl, hown1, hb1⟩
      go_wp2_with fail
      go_loopw [6, 27] (fun s6 s27 wr => ∃ j : Nat, j ≤ k ∧ s27 = .int .i64 (j : Int) ∧ wr.ownsRow w.heap.size 5 1 s6 (ls.take j).flatten.length (bs (ls.take j).flatten) ∧ Below w.heap.size w wr) (fun _ i _ => k - (intOf i).toNat)
      case atStart => exact ⟨0, by omega, rfl, hown1, hb1⟩
      case round =>
        clear hown1 hb1
        obtain ⟨j, hj, rfl, hown, hb⟩ := hrel
        have hmj := hle j
        by_cases hlt : j < k
        · obtain ⟨t, hat⟩ : ∃ t, ls[j]? = some t := ⟨_, List.getElem?_eq_getElem (by rw [HL.out]; exact hlt)⟩
          obtain ⟨ad, u, rfl, hc, A2, c2, rfl, hr2⟩ := (hL.next hb).at_ hat
          have hm2 := hle (j + 1)
          rw [flat_step hat, List.length_append] at hm2
          have HS := Lib.hid (flat_step hat)
          clear hat
          go_wp2_with (at_builtin
                       refine wpList_append_any _ rfl (.tmp 31) (.tmp 32) _ rfl w.heap.size 5 i0 _ 1 1 Tryz.underlying22 hi0 hz0 hz1 hz2 rfl (by omega) u6 (ls.take j).flatten.length (bs (ls.take j).flatten) rfl
                         hown wr.heap.size A2 t.length c2 (bs t) rfl hr2 (bs_one _) (by unfold maxLen; omega) (by omega) hb.size ?_
                       intro v3 w3 hown3 hg3 hat3)
          go_round
          case rel =>
            refine ⟨j + 1, by omega, by go_num, ?_, hb.grown hg3 hb.size (fun j hj => (hown.lt j hj).1)⟩
            rw [HS.out, List.length_append, bs_append]
            exact hown3
          case measure => simp [intOf]; omega
        · go_wp2_with fail
          go_ret
          obtain rfl : j = k := by omega
          rw [List.take_of_length_le (by rw [HL.out]; omega), ← HT.out] at hown
          exact ⟨_, rfl, hown, hb⟩
end Go.Proofs.YtppeagjklndidaaGreatDoor
