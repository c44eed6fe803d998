/- A list of acts that came in, opened; acts apart from a disk. -/
import Derived.Test.YthgopedojgbaoaaDoActs
import Derived.Test.YthgopedojgbaoaaPost
import Derived.Test.YthgopedojgbaoaaOpenStruct
namespace Go.Proofs.Ythgopedojgbaoaa
open Go.ChangeShapes Go.WideShapes Go.RowKit
set_option linter.unusedVariables false
set_option linter.unusedSimpArgs false
set_option maxRecDepth 100000

theorem IsRow.ints {w : World} {a : Option Addr} {len cap : Nat} {zs : List Int} (h : IsRow .i64 w a len cap zs) :
    ∃ l : List Int, l.length = len ∧ len ≤ cap ∧ cap ≤ maxLen ∧ Reads w w.heap.size 1 a len (l.map (Value.int .i64)) ∧ ∀ z ∈ l, -9223372036854775808 ≤ z ∧ z < 9223372036854775808 := by
  rcases h with ⟨rfl, rfl, rfl, rfl⟩ | ⟨x, rfl, hl, hm, hz, hcell, hw⟩
  · exact ⟨[], rfl, Nat.le_refl _, Nat.zero_le _, Reads.none_, by simp⟩
  · refine ⟨zs.take len, by simp; omega, hl, hm, ⟨by simp; omega, fun hn => ⟨x, rfl, ?_, fun j u hu => ?_⟩⟩, ?_⟩
    · have := World.block_lt_of_cell? w _ (hcell 0 (by omega))
      rwa [block_of_add] at this
    · rw [List.getElem?_map, List.getElem?_take] at hu
      split at hu
      · rename_i hj
        have hjz : j < zs.length := by omega
        rw [List.getElem?_eq_getElem hjz] at hu
        simp at hu
        rw [hcell j hjz, ← hu]
        simp only [List.getD, List.getElem?_eq_getElem hjz, Option.getD]
      · cases hu
    · intro z hz'
      have := i64_of (hw z (List.mem_of_mem_take hz'))
      omega
/-- What an act that came in holds. -/
structure ActIn (w : World) (x : Ac) : Prop where
  rb : Reads w w.heap.size 1 x.bA x.b.length (bs x.b)
  byte : ∀ b ∈ x.b, b < 256
  bl : x.b.length ≤ maxLen
  rk : Reads w w.heap.size 1 x.kA x.ks.length (x.ks.map (Value.int .i64))
  rng : ∀ z ∈ x.ks, -9223372036854775808 ≤ z ∧ z < 9223372036854775808
  kl : x.ks.length ≤ x.kc ∧ x.kc ≤ maxLen
  n : -9223372036854775808 ≤ x.n ∧ x.n < 9223372036854775808
def Acts (w : World) (A : Option Addr) (n : Nat) (al : List Ac) : Prop :=
  al.length = n ∧ (0 < n → ∃ b o, A = some ⟨b, o, none⟩ ∧ b < w.heap.size ∧ ∀ j x, al[j]? = some x → ActIn w x ∧ ∀ i v, x.cells[i]? = some v → w.cell? ⟨b, o + j * 6 + i, none⟩ = some v)
def IsActs (w : World) (A : Option Addr) (n : Nat) (al : List Ac) : Prop := Acts w A n al ∧ n ≤ maxLen
theorem off_of {w w1 : World} {X : Nat → Prop} {A : Option Addr} {n : Nat} {xs : List Value} (hr : Reads w w.heap.size 1 A n xs) (hs : Step w (fun _ => False) w1 X) : 0 < n → ∀ ad, A = some ad → ¬ X ad.block := fun hn ad e hX => by
  obtain ⟨ad', e', hb, _⟩ := hr.2 hn
  rw [e] at e'
  cases e'
  rcases hs.new _ hX with h1 | h1
  · exact h1
  · omega
theorem Step.below0 {w w1 : World} {X : Nat → Prop} (hs : Step w (fun _ => False) w1 X) : Below w.heap.size w w1 := hs.below (fun i e => e.elim) (Nat.le_refl _)
theorem ActIn.at_ {w w1 : World} {X : Nat → Prop} {x : Ac} (h : ActIn w x) (hs : Step w (fun _ => False) w1 X) : ActAt w1 X x :=
  ⟨⟨(h.rb.below hs.below0).more hs.size, off_of h.rb hs, h.byte, h.bl⟩, ⟨(h.rk.below hs.below0).more hs.size, off_of h.rk hs, h.rng, h.kl⟩, h.n⟩
theorem bytes_of {H : Type} {enc : TypeId × Value → H} {W : World} {fuel : Nat} {v : Value} {y : DataW H × List MemPlace} (h : DataW.trod enc Try.prog W 0 (fun _ => true) true fuel 26 [v] = some y) :
    ∃ (A : Option Addr) (c : Nat) (l : List Nat), v = .slice A l.length c ∧ l.length ≤ maxLen ∧ Reads W W.heap.size 1 A l.length (bs l) ∧ ∀ b ∈ l, b < 256 := by
  rcases open_ints Try.underlying26 Try.underlying5 (by kernel_rfl) h with ⟨hcs, _⟩ | ⟨x, l, c, zs, hcs, _, hl, hm, hz, _, hcell, hwz⟩
  · injection hcs with hcs
    exact ⟨none, 0, [], hcs, by unfold maxLen; simp, Reads.none_, by simp⟩
  · injection hcs with hcs
    have hrow : IsRow .u8 W (some x) l c zs := .inr ⟨_, rfl, hl, hm, by simpa using hz, hcell, hwz⟩
    obtain ⟨t, rfl, _, hr, hb⟩ := hrow.bytes
    exact ⟨some x, c, t, hcs, by omega, hr, hb⟩
theorem ints_of {H : Type} {enc : TypeId × Value → H} {W : World} {fuel : Nat} {v : Value} {y : DataW H × List MemPlace} (h : DataW.trod enc Try.prog W 0 (fun _ => true) true fuel 32 [v] = some y) :
    ∃ (A : Option Addr) (c : Nat) (l : List Int), v = .slice A l.length c ∧ (l.length ≤ c ∧ c ≤ maxLen) ∧ Reads W W.heap.size 1 A l.length (l.map (Value.int .i64)) ∧ ∀ z ∈ l, -9223372036854775808 ≤ z ∧ z < 9223372036854775808 := by
  rcases open_ints Try.underlying32 Try.underlying3 (by kernel_rfl) h with ⟨hcs, _⟩ | ⟨x, l, c, zs, hcs, _, hl, hm, hz, _, hcell, hwz⟩
  · injection hcs with hcs
    exact ⟨none, 0, [], hcs, ⟨Nat.le_refl _, by unfold maxLen; simp⟩, Reads.none_, by simp⟩
  · injection hcs with hcs
    have hrow : IsRow .i64 W (some x) l c zs := .inr ⟨_, rfl, hl, hm, by simpa using hz, hcell, hwz⟩
    obtain ⟨t, rfl, h1, h2, hr, hb⟩ := hrow.ints
    exact ⟨some x, c, t, hcs, ⟨h1, h2⟩, hr, hb⟩
theorem acts_of {H : Type} {enc : TypeId × Value → H} {W : World} {a : Option Addr} {len cap : Nat} {d : DataW H} {p : List MemPlace} (h : DataW.Trod enc Try.prog W 0 (fun _ => true) true 37 (.slice a len cap) d p) :
    ∃ al, IsActs W a len al := by
  obtain ⟨fuel, hf⟩ := h
  rcases open_slice_fields Try.underlying37 Try.underlying42 (by kernel_rfl) (by kernel_rfl) hf with ⟨hcs, _⟩ | ⟨x, l, c, mm, D, Pl, hcs, _, hl, hcm, hmm, _, hi⟩
  · simp [Value.cells] at hcs
    obtain ⟨_, rfl, _⟩ := hcs
    exact ⟨[], ⟨rfl, fun h => absurd h (by omega)⟩, Nat.zero_le _⟩
  · simp [Value.cells] at hcs
    obtain ⟨rfl, rfl, rfl⟩ := hcs
    have hall : ∀ j, ∃ y : Ac, j < len → ActIn W y ∧ ∀ i v, y.cells[i]? = some v → W.cell? (x.add (j * 6 + i)) = some v := by
      intro j
      by_cases hj : j < len
      · obtain ⟨ys, nn, _, _, _, hfld⟩ := hi j (by rw [hmm]; simp; omega)
        obtain ⟨v0, y0, c0, _, t0⟩ := hfld 0 _ rfl
        obtain ⟨v1, y1, c1, _, t1⟩ := hfld 1 _ rfl
        obtain ⟨v2, y2, c2, _, t2⟩ := hfld 2 _ rfl
        obtain ⟨v3, y3, c3, _, t3⟩ := hfld 3 _ rfl
        obtain ⟨v4, y4, c4, _, t4⟩ := hfld 4 _ rfl
        obtain ⟨v5, y5, c5, _, t5⟩ := hfld 5 _ rfl
        obtain ⟨k, e0, _, wk⟩ := DataW.trod_int Try.underlying3 t0
        obtain ⟨s1, e1, _, _⟩ := DataW.trod_string Try.underlying9 t1
        obtain ⟨s2, e2, _, _⟩ := DataW.trod_string Try.underlying9 t2
        obtain ⟨A3, d3, l3, rfl, m3, r3, b3⟩ := bytes_of t3
        obtain ⟨n, e4, _, wn⟩ := DataW.trod_int Try.underlying3 t4
        obtain ⟨A5, d5, l5, rfl, m5, r5, b5⟩ := ints_of t5
        injection e0 with e0
        injection e1 with e1
        injection e2 with e2
        injection e4 with e4
        subst e0 e1 e2 e4
        have hn : -9223372036854775808 ≤ n ∧ n < 9223372036854775808 := by have := i64_of wn; omega
        refine ⟨⟨k, s1, s2, l3, A3, d3, n, l5, A5, d5⟩, fun _ => ⟨⟨r3, b3, m3, r5, b5, m5, hn⟩, fun i v hv => ?_⟩⟩
        unfold Ac.cells at hv
        rcases i with _ | _ | _ | _ | _ | _ | i
        all_goals simp at hv
        all_goals subst hv
        · exact c0
        · exact c1
        · exact c2
        · exact c3
        · exact c4
        · exact c5
      · exact ⟨⟨0, default, default, [], none, 0, 0, [], none, 0⟩, fun h => absurd h hj⟩
    obtain ⟨f, hfn⟩ := Classical.axiomOfChoice hall
    refine ⟨(List.range len).map f, ⟨by simp, fun hm => ?_⟩, by omega⟩
    obtain ⟨bx, ox, sx⟩ := x
    have cc0 := (hfn 0 hm).2 0 _ rfl
    have hsx : sx = none := by simpa [Addr.add] using World.cell?_spot cc0
    subst hsx
    refine ⟨bx, ox, rfl, ?_, fun j y hy => ?_⟩
    · have := World.block_lt_of_cell? W _ cc0
      rwa [block_of_add] at this
    · have hj : j < len := by
        have := (List.getElem?_eq_some_iff.1 hy).1
        simpa using this
      rw [List.getElem?_map, List.getElem?_range hj] at hy
      injection hy with hy
      subst hy
      obtain ⟨h1, h2⟩ := hfn j hj
      refine ⟨h1, fun i v hv => ?_⟩
      have := h2 i v hv
      rw [plain_add, ← Nat.add_assoc] at this
      exact this
end Go.Proofs.Ythgopedojgbaoaa
