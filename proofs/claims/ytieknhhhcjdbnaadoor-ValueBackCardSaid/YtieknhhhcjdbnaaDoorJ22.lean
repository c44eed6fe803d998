/- Texts joined: ColsIn VlAwake. -/
import Derived.Deep.Slices
import Derived.Test.YtieknhhhcjdbnaaDoorJ21
import Derived.Deep.Matrix
import Derived.BigQuiet
import Derived.BigGuard
import Derived.Deep.QuietTactic
import Derived.Test.YtieknhhhcjdbnaaDoorJ12
import Derived.Test.YtieknhhhcjdbnaaDoorJ18
/- A schema's columns, and rows of values, in memory; lists of them that came in, opened. -/
namespace Go.Proofs.YtieknhhhcjdbnaaDoor
open Go.ChangeShapes Go.WideShapes Go.RowKit
set_option linter.unusedVariables false
set_option linter.unusedSimpArgs false
set_option maxRecDepth 100000

/-- A column's cells. -/
def cc (c : Int × Bool × Int) : List Value := [.int .i64 c.1, .bool c.2.1, .int .i64 c.2.2]
/-- Columns as cells. -/
def cls (l : List (Int × Bool × Int)) : List Value := l.flatMap cc
theorem cls_nil : cls [] = [] := rfl
theorem cls_append (a b : List (Int × Bool × Int)) : cls (a ++ b) = cls a ++ cls b := by simp [cls]
theorem cls_one (c : Int × Bool × Int) : cls [c] = cc c := by simp [cls]
theorem cls_cons (c : Int × Bool × Int) (l : List (Int × Bool × Int)) : cls (c :: l) = cc c ++ cls l := by simp [cls]
theorem cls_length : ∀ l : List (Int × Bool × Int), (cls l).length = l.length * 3
  | [] => rfl
  | c :: l => by rw [cls_cons, List.length_append, cls_length l]; simp [cc]; omega
theorem cc_cell (c : Int × Bool × Int) : ∀ u ∈ cc c, u.oneCell' = true := by
  intro u hu
  simp [cc] at hu
  rcases hu with rfl | rfl | rfl <;> rfl
theorem cls_at : ∀ {l : List (Int × Bool × Int)} {k : Nat} {c : Int × Bool × Int}, l[k]? = some c → (cls l)[k * 3]? = some (.int .i64 c.1) ∧ (cls l)[k * 3 + 1]? = some (.bool c.2.1) ∧ (cls l)[k * 3 + 2]? = some (.int .i64 c.2.2)
  | [], k, c, h => by simp at h
  | x :: l, 0, c, h => by
    simp at h
    subst h
    rw [cls_cons]
    exact ⟨rfl, rfl, rfl⟩
  | x :: l, k + 1, c, h => by
    simp at h
    obtain ⟨h1, h2, h3⟩ := cls_at h
    have e : ∀ j, (cc x ++ cls l)[3 + j]? = (cls l)[j]? := fun j => by
      rw [List.getElem?_append_right (by simp [cc])]
      congr 1
      simp [cc]
    rw [cls_cons, show (k + 1) * 3 = 3 + k * 3 by omega, show 3 + k * 3 + 1 = 3 + (k * 3 + 1) by omega, show 3 + k * 3 + 2 = 3 + (k * 3 + 2) by omega, e, e, e]
    exact ⟨h1, h2, h3⟩
theorem Reads.col {w : World} {B n : Nat} {A : Option Addr} {l : List (Int × Bool × Int)} (h : Reads w B 3 A n (cls l)) {k : Nat} {c : Int × Bool × Int} (hv : l[k]? = some c) :
    ∃ b o, A = some ⟨b, o, none⟩ ∧ b < B ∧ w.cell? ⟨b, o + k * 3, none⟩ = some (.int .i64 c.1) ∧ w.cell? ⟨b, o + k * 3 + 1, none⟩ = some (.bool c.2.1) ∧ w.cell? ⟨b, o + k * 3 + 2, none⟩ = some (.int .i64 c.2.2) := by
  have hk : k < l.length := (List.getElem?_eq_some_iff.1 hv).1
  have hn : 0 < n := by have := h.1; rw [cls_length] at this; omega
  obtain ⟨⟨b, o, sp⟩, rfl, hb, hc⟩ := h.2 hn
  obtain ⟨h1, h2, h3⟩ := cls_at hv
  have c1 := hc _ _ h1
  have c2 := hc _ _ h2
  have c3 := hc _ _ h3
  have hl : 0 < (cls l).length := by rw [cls_length]; omega
  obtain rfl : sp = none := by simpa [Addr.add] using World.cell?_spot (hc 0 _ (List.getElem?_eq_getElem hl))
  rw [plain_add] at c1 c2 c3
  exact ⟨b, o, rfl, hb, c1, by rw [← c2, Nat.add_assoc], by rw [← c3, Nat.add_assoc]⟩
/-- What the walk is told of a schema that came in. -/
def IsCols (w : World) (a : Option Addr) (len cap : Nat) (l : List (Int × Bool × Int)) : Prop :=
  l.length = len ∧ len ≤ cap ∧ cap ≤ maxLen ∧ Reads w w.heap.size 3 a len (cls l) ∧ ∀ c ∈ l, In64 c.1 ∧ In64 c.2.2
theorem cols_of {H : Type} {enc : TypeId × Value → H} {W : World} {a : Option Addr} {len cap : Nat} {d : DataW H} {p : List MemPlace} (h : DataW.Trod enc Tryd.prog W 0 (fun _ => true) true 23 (.slice a len cap) d p) :
    ∃ l, IsCols W a len cap l := by
  obtain ⟨fuel, hf⟩ := h
  rcases open_slice_fields Tryd.underlying23 Tryd.underlying69 (by kernel_rfl) (by kernel_rfl) hf with ⟨hcs, _⟩ | ⟨x, l, c, mm, D, Pl, hcs, _, hl, hcm, hmm, _, hi⟩
  · simp [Value.cells] at hcs
    obtain ⟨rfl, rfl, rfl⟩ := hcs
    exact ⟨[], rfl, Nat.le_refl _, Nat.zero_le _, Reads.none_, by simp⟩
  · simp [Value.cells] at hcs
    obtain ⟨rfl, rfl, rfl⟩ := hcs
    have hall : ∀ j, ∃ y : Int × Bool × Int, j < len → (In64 y.1 ∧ In64 y.2.2) ∧ ∀ i v, (cc y)[i]? = some v → W.cell? (x.add (j * 3 + i)) = some v := by
      intro j
      by_cases hj : j < len
      · obtain ⟨ys, nn, _, _, _, hfld⟩ := hi j (by rw [hmm]; simp; omega)
        obtain ⟨v0, y0, c0, _, t0⟩ := hfld 0 _ rfl
        obtain ⟨v1, y1, c1, _, t1⟩ := hfld 1 _ rfl
        obtain ⟨v2, y2, c2, _, t2⟩ := hfld 2 _ rfl
        obtain ⟨k, e0, _, wk⟩ := DataW.trod_int Tryd.underlying3 t0
        obtain ⟨bb, e1, _⟩ := DataW.trod_bool Tryd.underlying4 t1
        obtain ⟨s, e2, _, ws⟩ := DataW.trod_int Tryd.underlying3 t2
        injection e0 with e0
        injection e1 with e1
        injection e2 with e2
        subst e0 e1 e2
        have hk : In64 k := by have := i64_of wk; unfold In64; omega
        have hs : In64 s := by have := i64_of ws; unfold In64; omega
        refine ⟨⟨k, bb, s⟩, fun _ => ⟨⟨hk, hs⟩, fun i v hv => ?_⟩⟩
        unfold cc at hv
        rcases i with _ | _ | _ | i
        all_goals simp at hv
        all_goals subst hv
        · exact c0
        · exact c1
        · exact c2
      · exact ⟨(0, false, 0), fun h => absurd h hj⟩
    obtain ⟨f, hfn⟩ := Classical.axiomOfChoice hall
    have hget : ∀ j y, ((List.range len).map f)[j]? = some y → j < len ∧ y = f j := by
      intro j y hy
      have hj : j < len := by
        have := (List.getElem?_eq_some_iff.1 hy).1
        simpa using this
      rw [List.getElem?_map, List.getElem?_range hj] at hy
      injection hy with hy
      exact ⟨hj, hy.symm⟩
    refine ⟨(List.range len).map f, by simp, hl, hcm, ⟨by rw [cls_length]; simp, fun hn => ?_⟩, fun v hv => ?_⟩
    · refine ⟨x, rfl, ?_, fun j u hu => ?_⟩
      · have := World.block_lt_of_cell? W _ ((hfn 0 hn).2 0 _ rfl)
        rwa [block_of_add] at this
      · have hj : j < len * 3 := by
          have := (List.getElem?_eq_some_iff.1 hu).1
          rw [cls_length] at this
          simpa using this
        have hy : ((List.range len).map f)[j / 3]? = some (f (j / 3)) := by rw [List.getElem?_map, List.getElem?_range (by omega)]; rfl
        obtain ⟨h1, h2, h3⟩ := cls_at hy
        have hc := (hfn (j / 3) (by omega)).2
        obtain ⟨q, hq⟩ : ∃ q, j / 3 = q := ⟨_, rfl⟩
        rw [hq] at h1 h2 h3 hc
        have hr : j = q * 3 ∨ j = q * 3 + 1 ∨ j = q * 3 + 2 := by omega
        rcases hr with rfl | rfl | rfl
        · rw [h1] at hu; exact hc 0 _ (by rw [← hu]; rfl)
        · rw [h2] at hu; exact hc 1 _ (by rw [← hu]; rfl)
        · rw [h3] at hu; exact hc 2 _ (by rw [← hu]; rfl)
    · obtain ⟨j, hj, rfl⟩ := List.mem_map.1 hv
      exact (hfn j (List.mem_range.1 hj)).1
/-- A slice that reads as values. -/
def IsV (w : World) (v : Value) (l : List (Int × Int × Tx)) : Prop := ∃ A c, v = .slice A l.length c ∧ Reads w w.heap.size 3 A l.length (vs l)
theorem IsV.next {w w' : World} {v : Value} {l : List (Int × Int × Tx)} (h : IsV w v l) (hb : Below w.heap.size w w') : IsV w' v l := by
  obtain ⟨A, c, e, hr⟩ := h
  exact ⟨A, c, e, (hr.below hb).more hb.size⟩
theorem IsV.one {w : World} {v : Value} {l : List (Int × Int × Tx)} (h : IsV w v l) : v.oneCell' = true := by
  obtain ⟨A, c, rfl, _⟩ := h; rfl
/-- Rows of values: a slice of slices. -/
def VV (w : World) (A : Option Addr) (rows : List (List (Int × Int × Tx))) : Prop := ∃ us : List Value, Reads w w.heap.size 1 A rows.length us ∧ ∀ (k : Nat) (r : List (Int × Int × Tx)), rows[k]? = some r → ∃ u : Value, us[k]? = some u ∧ IsV w u r
theorem VV.next {w w' : World} {A : Option Addr} {rows : List (List (Int × Int × Tx))} (h : VV w A rows) (hb : Below w.heap.size w w') : VV w' A rows := by
  obtain ⟨us, hr, he⟩ := h
  exact ⟨us, (hr.below hb).more hb.size, fun k r hk => by obtain ⟨u, h1, h2⟩ := he k r hk; exact ⟨u, h1, h2.next hb⟩⟩
theorem VV.none_ {w : World} : VV w none [] := ⟨[], Reads.none_, fun k r h => by simp at h⟩
/-- What the walk is told of rows that came in. -/
def IsRowsV (w : World) (a : Option Addr) (len cap : Nat) (rows : List (List (Int × Int × Tx))) : Prop :=
  rows.length = len ∧ len ≤ cap ∧ cap ≤ maxLen ∧ VV w a rows ∧ ∀ r ∈ rows, ∀ v ∈ r, In64 v.1 ∧ In64 v.2.1
theorem rowsV_of {H : Type} {enc : TypeId × Value → H} {W : World} {a : Option Addr} {len cap : Nat} {d : DataW H} {p : List MemPlace} (h : DataW.Trod enc Tryd.prog W 0 (fun _ => true) true 39 (.slice a len cap) d p) :
    ∃ rows, IsRowsV W a len cap rows := by
  obtain ⟨fuel, hf⟩ := h
  have hce : Tryd.prog.cellsOf 47 = 1 := by kernel_rfl
  rcases Go.Deep.open_slice1 Tryd.underlying39 hce hf with ⟨hcs, _⟩ | ⟨x, l, c, mm, nn, V, D, Pl, hcs, _, hl, hcm, hmm, _, hi⟩
  · simp [Value.cells] at hcs
    obtain ⟨rfl, rfl, rfl⟩ := hcs
    exact ⟨[], rfl, Nat.le_refl _, Nat.zero_le _, VV.none_, by simp⟩
  · simp [Value.cells] at hcs
    obtain ⟨rfl, rfl, rfl⟩ := hcs
    have hall : ∀ j, ∃ r : List (Int × Int × Tx), j < len → IsV W (V j) r ∧ ∀ v ∈ r, In64 v.1 ∧ In64 v.2.1 := by
      intro j
      by_cases hj : j < len
      · obtain ⟨_, ht⟩ := hi j (by rw [hmm]; simp; omega)
        have hsl : ∃ A1 l1 c1, V j = .slice A1 l1 c1 := by
          rcases Go.Deep.open_slice Tryd.underlying47 ht with ⟨e, _⟩ | ⟨a1, l1, c1, _, _, _, _, e, _⟩
          · exact ⟨none, 0, 0, by simpa using e⟩
          · exact ⟨some a1, l1, c1, by simpa using e⟩
        obtain ⟨A1, l1, c1, e⟩ := hsl
        rw [e] at ht
        obtain ⟨r, hr1, hr2, hr3, hr4, hr5⟩ := vals_of (a := A1) (len := l1) (cap := c1) ⟨nn, ht⟩
        exact ⟨r, fun _ => ⟨⟨A1, c1, by rw [e, hr1], by rw [hr1]; exact hr4⟩, hr5⟩⟩
      · exact ⟨[], fun h => absurd h hj⟩
    obtain ⟨f, hfn⟩ := Classical.axiomOfChoice hall
    refine ⟨(List.range len).map f, by simp, hl, hcm, ⟨(List.range len).map V, ⟨by simp, fun hn => ?_⟩, ?_⟩, ?_⟩
    · refine ⟨x, rfl, ?_, fun j u hu => ?_⟩
      · have hn0 : 0 < len := by simpa using hn
        have := World.block_lt_of_cell? W _ (hi 0 (by rw [hmm]; simp; omega)).1
        rwa [block_of_add] at this
      · have hj : j < len := by
          have := (List.getElem?_eq_some_iff.1 hu).1
          simpa using this
        rw [List.getElem?_map, List.getElem?_range hj] at hu
        injection hu with hu
        rw [← hu]
        exact (hi j (by rw [hmm]; simp; omega)).1
    · intro k r hk
      have hj : k < len := by
        have := (List.getElem?_eq_some_iff.1 hk).1
        simpa using this
      rw [List.getElem?_map, List.getElem?_range hj] at hk
      injection hk with hk
      refine ⟨V k, by rw [List.getElem?_map, List.getElem?_range hj]; rfl, ?_⟩
      rw [← hk]
      exact (hfn k hj).1
    · intro r hr v hv
      obtain ⟨j, hj, rfl⟩ := List.mem_map.1 hr
      exact (hfn j (List.mem_range.1 hj)).2 v hv
end Go.Proofs.YtieknhhhcjdbnaaDoor

/- The program's Cmp and Schema told by contracts; the layer's awake under them. -/
namespace Go.Proofs.YtieknhhhcjdbnaaDoor
open Go.RowKit
set_option linter.unusedVariables false
set_option linter.unusedSimpArgs false
set_option maxRecDepth 100000

/-- The program's order of values is the document's. -/
def CmpC : Prop := ∀ (a b : Vl) (w : World), Calls Tryd.prog 22 #[vW a, vW b] w fun e w' => e = .returned (.int .i64 (cmpV a b)) ∧ Below w.heap.size w w'
/-- The program's check of a schema is the document's. -/
def SchemaC : Prop := ∀ (A : Option Addr) (n c : Nat) (s : List Cl) (w : World), Reads w w.heap.size 3 A n (cls s) → n ≤ 200 → Calls Tryd.prog 17 #[.slice A n c] w fun e w' => e = .returned (.int .i64 (scE s)) ∧ Below w.heap.size w w'
theorem blk3 {w : World} {g : Nat} {t : TypeId} {a b c : Value} (h : Blk w g t #[a, b, c]) : w.cell? ⟨g, 0, none⟩ = some a ∧ w.cell? ⟨g, 1, none⟩ = some b ∧ w.cell? ⟨g, 2, none⟩ = some c := ⟨h.cell 0, h.cell 1, h.cell 2⟩
set_option maxHeartbeats 1000000 in
theorem awakeV_any (hc : CmpC) (hs : SchemaC) (w : World) : Calls Tryd.prog 5 #[] w fun e w' => e = .returned (.bool true) ∧ Below w.heap.size w w' := by
  have c1 : ∀ W : World, Calls Tryd.prog 22 #[.agg #[.int .i64 0, .int .i64 0, .string ⟨#[]⟩], .agg #[.int .i64 1, .int .i64 (-5), .string ⟨#[]⟩]] W fun e w' => e = .returned (.int .i64 (-1)) ∧ Below W.heap.size W w' := fun W => hc (0, 0, []) (1, -5, []) W
  have c2 : ∀ W : World, Calls Tryd.prog 22 #[.agg #[.int .i64 1, .int .i64 (-5), .string ⟨#[]⟩], .agg #[.int .i64 2, .int .i64 0, .string ⟨#[]⟩]] W fun e w' => e = .returned (.int .i64 (-1)) ∧ Below W.heap.size W w' := fun W => hc (1, -5, []) (2, 0, []) W
  have c3 : ∀ W : World, Calls Tryd.prog 22 #[.agg #[.int .i64 2, .int .i64 0, .string ⟨#[]⟩], .agg #[.int .i64 2, .int .i64 0, .string ⟨#[]⟩]] W fun e w' => e = .returned (.int .i64 0) ∧ Below W.heap.size W w' := fun W => hc (2, 0, []) (2, 0, []) W
  have c4 : ∀ W : World, Calls Tryd.prog 17 #[.slice none 0 0] W fun e w' => e = .returned (.int .i64 12) ∧ Below W.heap.size W w' := fun W => hs none 0 0 [] W Reads.none_ (by omega)
  have C1 := Lib.hid c1; have C2 := Lib.hid c2; have C3 := Lib.hid c3; have C4 := Lib.hid c4
  clear c1 c2 c3 c4 hc hs
  obtain ⟨x0, hx0⟩ : ∃ x : Array Value, x = #[.int .i64 0, .int .i64 0, .string ⟨#[]⟩] := ⟨_, rfl⟩
  obtain ⟨x1, hx1⟩ : ∃ x : Array Value, x = #[.int .i64 1, .int .i64 (-5), .string ⟨#[]⟩] := ⟨_, rfl⟩
  obtain ⟨x2, hx2⟩ : ∃ x : Array Value, x = #[.int .i64 2, .int .i64 0, .string ⟨#[]⟩] := ⟨_, rfl⟩
  have hB : Below w.heap.size w (((w.alloc (.cells x0 31)).alloc (.cells x1 31)).alloc (.cells x2 31)) := (((Below.refl _ _).alloc (Nat.le_refl _) _).alloc (by simp) _).alloc (by simp; omega) _
  have k1 : Blk (((w.alloc (.cells x0 31)).alloc (.cells x1 31)).alloc (.cells x2 31)) (w.heap.size + 1) 31 x1 := by
    have h := (Blk.new (w.alloc (.cells x0 31)) 31 x1).alloc (.cells x2 31)
    rwa [World.size_alloc] at h
  have k2 : Blk (((w.alloc (.cells x0 31)).alloc (.cells x1 31)).alloc (.cells x2 31)) (w.heap.size + 1 + 1) 31 x2 := by
    have h := Blk.new ((w.alloc (.cells x0 31)).alloc (.cells x1 31)) 31 x2
    rwa [World.size_alloc, World.size_alloc] at h
  have hz : (((w.alloc (.cells x0 31)).alloc (.cells x1 31)).alloc (.cells x2 31)).heap.size = w.heap.size + 3 := by simp
  rw [hx0, hx1, hx2] at hB k1 k2 hz
  have HB := Lib.hid hB; have K1 := Lib.hid k1; have K2 := Lib.hid k2; have HZ := Lib.hid hz
  clear hB k1 k2 hz hx0 hx1 hx2
  go_enter Tryd.func5, Tryd.ntmps5
  go_wp2_with fail
  refine (C1.out _).mono ?_
  rintro e w1 ⟨rfl, hb1⟩
  have z1 := hb1.size
  rw [HZ.out] at z1
  have j1 := K1.out.below hb1 (by rw [HZ.out]; omega)
  have j2 := K2.out.below hb1 (by rw [HZ.out]; omega)
  have hb01 := HB.out.trans (hb1.mono (by rw [HZ.out]; omega))
  obtain ⟨p0, p1, p2⟩ := blk3 j1
  obtain ⟨q0, q1, q2⟩ := blk3 j2
  go_wp2_with fail
  refine (C2.out _).mono ?_
  rintro e w2 ⟨rfl, hb2⟩
  clear p0 p1 p2 q0 q1 q2
  have z2 := hb2.size
  have j3 := j2.below hb2 (by omega)
  have hb02 := hb01.trans (hb2.mono (by omega))
  obtain ⟨q0, q1, q2⟩ := blk3 j3
  go_wp2_with fail
  refine (C3.out _).mono ?_
  rintro e w3 ⟨rfl, hb3⟩
  clear q0 q1 q2
  have z3 := hb3.size
  have hb03 := hb02.trans (hb3.mono (by omega))
  go_wp2_with fail
  refine (C4.out _).mono ?_
  rintro e w4 ⟨rfl, hb4⟩
  go_wp2_with fail
  go_ret
  exact ⟨rfl, hb03.trans (hb4.mono (by omega))⟩
end Go.Proofs.YtieknhhhcjdbnaaDoor
