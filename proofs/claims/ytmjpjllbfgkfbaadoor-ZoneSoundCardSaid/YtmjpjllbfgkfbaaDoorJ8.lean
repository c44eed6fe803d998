/- Texts joined: ZwSt ZwSteps. -/
import Derived.Maps.AppendAt
import Derived.Test.YtmjpjllbfgkfbaaDoorJ4
import Derived.Test.YtmjpjllbfgkfbaaDoorZwStep
import Derived.Test.YtmjpjllbfgkfbaaDoorJ5
/- Contracts of a step's parts and of zone's steps: a predicate and all its parts that count, each one ahead of its own, the last part first. -/
namespace Go.Proofs.YtmjpjllbfgkfbaaDoor
open Go.RowKit
set_option linter.unusedVariables false
set_option linter.unusedSimpArgs false
set_option maxRecDepth 100000

theorem parts_any {w : World} {b o nv cv np cp : Nat} {op col : Int} {Av Ap : Option Addr} (ok : Bool) (h : Nd w b o op col Av nv cv Ap np cp) :
    Calls Tryd.prog 31 #[.agg #[.pointer (some ⟨b, o, none⟩), .bool ok]] w fun e w' => e = .returned (.int .i64 (if ok then (np : Int) else 0)) ∧ Below w.heap.size w w' := by
  obtain ⟨hlt, x0, x1, x2, x3⟩ := h
  have hB := (Below.refl w.heap.size w).alloc (Nat.le_refl _) (.cells #[.pointer (some ⟨b, o, none⟩), .bool ok] 73)
  have u3 := (hB.cell (p := ⟨b, o + 3, none⟩) hlt).trans x3
  clear x0 x1 x2 x3
  cases ok
  all_goals
    go_enter Tryd.func31, Tryd.ntmps31
    go_wp2_with fail
    go_ret
    exact ⟨by first | rfl | simp, hB⟩
/-- What isFormed is asked. -/
def FmdC : Prop := ∀ (w : World) (b o n c n' c' m cs : Nat) (op col : Int) (A A' S : Option Addr), Nd w b o op col A n c A' n' c' → Reads w w.heap.size 3 S m (zcl m) → Shp w → m ≤ 100 → n ≤ 65536 → n' ≤ 65536 →
  Calls Tryd.prog 42 #[.slice S m cs, .pointer (some ⟨b, o, none⟩)] w fun e w' => e = .returned (.bool (decide (okZ m op col n n'))) ∧ Below w.heap.size w w'
/-- A step's cells. -/
def stpC (cols : Nat) (t : Tr) : List Value := [t.ad, .bool (decide (okT cols t))]
/-- So many steps. -/
def stvC (cols : Nat) (r : Tr) (k : Nat) : List Value := (List.range k).flatMap fun i => stpC cols (nth r i)
theorem stvC_succ (cols : Nat) (r : Tr) (k : Nat) : stvC cols r (k + 1) = stvC cols r k ++ stpC cols (nth r k) := by simp [stvC, List.range_succ]
theorem stvC_length (cols : Nat) (r : Tr) : ∀ k, (stvC cols r k).length = k * 2
  | 0 => rfl
  | k + 1 => by rw [stvC_succ, List.length_append, stvC_length cols r k]; simp [stpC]; omega
/-- While the tree is gone through: two rows of the call's own, and the schema. -/
structure StW (w : World) (g : Nat) (m : Nat) (xs ys : List Value) (n2 : Nat) (v1 v2 : Value) (W : World) : Prop where
  below : Below w.heap.size w W
  sch : Blk W g 43 (zcl m).toArray
  gge : w.heap.size ≤ g
  todo : W.ownsRow w.heap.size 50 1 v1 xs.length xs
  list : W.ownsRow w.heap.size 73 2 v2 n2 ys
  far1 : ∀ q, v1.ownBlock = some q → q ≠ g ∧ v2.ownBlock ≠ some q
  far2 : ∀ q, v2.ownBlock = some q → q ≠ g
section
variable {w W W' : World} {g m n2 : Nat} {xs ys : List Value} {v1 v2 : Value}
theorem StW.next (h : StW w g m xs ys n2 v1 v2 W) (hb : Below W.heap.size W W') : StW w g m xs ys n2 v1 v2 W' :=
  ⟨h.below.trans (hb.mono h.below.size), h.sch.below hb h.sch.lt, h.gge, own_below h.todo hb, own_below h.list hb, h.far1, h.far2⟩
theorem StW.pop {A : Option Addr} {c n : Nat} {x : Value} (h : StW w g m (xs ++ [x]) ys n2 (.slice A n c) v2 W) : StW w g m xs ys n2 (.slice A xs.length c) v2 W := by
  have hn : n = xs.length + 1 := by
    obtain ⟨A', c', e, _⟩ := own_slice h.todo
    injection e with _ e _
    simpa using e
  have h1 := h.todo
  rw [show (xs ++ [x]).length = n by simp [hn]] at h1
  have h2 := own_less h1 (k := xs.length) (by omega)
  rw [List.take_left' rfl] at h2
  have hob : (Value.slice A xs.length c).ownBlock = (Value.slice A n c).ownBlock := by cases A <;> rfl
  exact ⟨h.below, h.sch, h.gge, h2, h.list, fun q hq => h.far1 q (hob ▸ hq), h.far2⟩
theorem StW.pushT {v' x : Value} (h : StW w g m xs ys n2 v1 v2 W) (hg : W.grownBy W' v1.ownBlock) (ho : W'.ownsRow w.heap.size 50 1 v' (xs.length + 1) (xs ++ [x])) (hat : v'.ownBlock = v1.ownBlock ∨ v'.ownBlock = some W.heap.size) : StW w g m (xs ++ [x]) ys n2 v' v2 W' := by
  have hs := h.below.size
  refine ⟨h.below.grown hg hs (fun j hj => (h.todo.lt j hj).1), h.sch.grown hg (fun e => (h.far1 g e.symm).1 rfl), h.gge, by simpa using ho, own_on h.list (C := fun q => v1.ownBlock ≠ some q) (fun k hk hc => hg.block k hk (fun e => hc e.symm)) (fun q hq e => (h.far1 q e).2 hq), fun q hq => ?_, h.far2⟩
  rcases hat with e | e
  · exact h.far1 q (e ▸ hq)
  · rw [e] at hq
    injection hq with hq
    subst hq
    exact ⟨fun e2 => by have := h.sch.lt; omega, fun e2 => by have := (h.list.lt _ e2).2; omega⟩
theorem StW.pushL {v' : Value} {zs : List Value} {n' : Nat} (h : StW w g m xs ys n2 v1 v2 W) (hg : W.grownBy W' v2.ownBlock) (ho : W'.ownsRow w.heap.size 73 2 v' n' zs) (hat : v'.ownBlock = v2.ownBlock ∨ v'.ownBlock = some W.heap.size) : StW w g m xs zs n' v1 v' W' := by
  have hs := h.below.size
  refine ⟨h.below.grown hg hs (fun j hj => (h.list.lt j hj).1), h.sch.grown hg (fun e => h.far2 g e.symm rfl), h.gge, own_on h.todo (C := fun q => v2.ownBlock ≠ some q) (fun k hk hc => hg.block k hk (fun e => hc e.symm)) (fun q hq e => (h.far1 q hq).2 e), ho, fun q hq => ⟨(h.far1 q hq).1, fun e2 => ?_⟩, fun q hq => ?_⟩
  · rcases hat with e | e
    · exact (h.far1 q hq).2 (e ▸ e2)
    · rw [e] at e2
      injection e2 with e2
      have := (h.todo.lt q hq).2
      omega
  · rcases hat with e | e
    · exact h.far2 q (e ▸ hq)
    · rw [e] at hq
      injection hq with hq
      have := h.sch.lt
      omega
theorem StW.reads (h : StW w g m xs ys n2 v1 v2 W) : Reads W W.heap.size 3 (some ⟨g, 0, none⟩) m (zcl m) := reads_blkZ h.sch (zcl_length m)
end
end Go.Proofs.YtmjpjllbfgkfbaaDoor

/- Contract of zone's steps. -/
namespace Go.Proofs.YtmjpjllbfgkfbaaDoor
open Go.RowKit
set_option linter.unusedVariables false
set_option linter.unusedSimpArgs false
set_option maxRecDepth 100000

theorem info_ptrZ : (Tryd.prog.info? 50).map (fun i => (i.zero, i.size, i.bytes)) = some (some (.pointer none), 1, 8) := by kernel_rfl
theorem info_stepZ : (Tryd.prog.info? 73).map (fun i => (i.zero, i.size, i.bytes)) = some (some (.agg #[.pointer none, .bool false]), 2, 16) := by kernel_rfl
/-- The stack: what is to be gone through, the first one last. -/
def adZ (l : List Tr) : List Value := l.reverse.map Tr.ad
theorem adZ_cons (t : Tr) (l : List Tr) : adZ (t :: l) = adZ l ++ [t.ad] := by simp [adZ]
theorem adZ_length (l : List Tr) : (adZ l).length = l.length := by simp [adZ]
def lenS : Value → Nat
  | .slice _ n _ => n
  | _ => 0
theorem stvC_next (m : Nat) (r : Tr) (k : Nat) (t : Tr) (ht : nth r k = t) (f : Bool) (hf : decide (okT m t) = f) : stvC m r (k + 1) = stvC m r k ++ [.pointer (some ⟨t.b, t.o, none⟩), .bool f] := by
  rw [stvC_succ, ht, ← hf]; rfl
theorem stepZ_one (p : Option Addr) (f : Bool) : ∀ u ∈ [Value.pointer p, .bool f], u.oneCell' = true := by
  intro u hu
  simp only [List.mem_cons, List.not_mem_nil, or_false] at hu
  rcases hu with rfl | rfl <;> rfl
theorem ptrZ_one (p : Option Addr) : ∀ u ∈ [Value.pointer p], u.oneCell' = true := by
  intro u hu
  simp only [List.mem_cons, List.not_mem_nil, or_false] at hu
  rcases hu with rfl; rfl
set_option maxHeartbeats 8000000 in
theorem steps_any (hF : FmdC) (m : Nat) (r : Tr) (w : World) (ha : allT (NodeZ m w w.heap.size) r) (hN : cntT r ≤ 1073741824) (hm : m ≤ 100) (hs : Shp w) :
    Calls Tryd.prog 30 #[.pointer (some ⟨r.b, r.o, none⟩), .int .i64 (m : Int)] w fun e w' => ∃ A c, e = .returned (.slice A (cntT r) c) ∧ w'.ownsRow w.heap.size 73 2 (.slice A (cntT r) c) (cntT r) (stvC m r (cntT r)) ∧ Below w.heap.size w w' := by
  obtain ⟨i1, hi1, hy0, hy1, hy2⟩ := info_parts info_stepZ
  obtain ⟨i2, hi2, hz0, hz1, hz2⟩ := info_parts info_ptrZ
  have hmk := fun W => run_make_cols m (by omega) W
  obtain ⟨N, hNe⟩ : ∃ N, cntT r = N := ⟨_, rfl⟩
  have HN := Lib.hid hNe
  have HA := Lib.hid ha
  have HSH := Lib.hid hs
  rw [hNe] at hN ⊢
  obtain ⟨g, hg⟩ : ∃ g, w.heap.size = g := ⟨_, rfl⟩
  have hb1 := (Below.refl w.heap.size w).alloc (Nat.le_refl _) (.cells (zcl m).toArray 43)
  have hb2 := hb1.alloc hb1.size (.cells #[.pointer (some ⟨r.b, r.o, none⟩)] 50)
  have hkt := Blk.new (w.alloc (.cells (zcl m).toArray 43)) 50 #[.pointer (some ⟨r.b, r.o, none⟩)]
  rw [World.size_alloc] at hkt
  have S0 : StW w w.heap.size m (adZ (wood r 0)) (stvC m r 0) 0 (.slice (some ⟨w.heap.size + 1, 0, none⟩) 1 1) (.slice none 0 0) ((w.alloc (.cells (zcl m).toArray 43)).alloc (.cells #[.pointer (some ⟨r.b, r.o, none⟩)] 50)) :=
    ⟨hb2, (Blk.new w 43 (zcl m).toArray).alloc _, Nat.le_refl _, own_whole (xs := [.pointer (some ⟨r.b, r.o, none⟩)]) hkt (by omega) rfl (by unfold maxLen; omega), own_nil _ _ _ _, fun q hq => by simp [Value.ownBlock] at hq; subst hq; exact ⟨by omega, by simp [Value.ownBlock]⟩, fun q hq => by simp [Value.ownBlock] at hq⟩
  have HS0 := Lib.hid S0
  clear ha hs hb1 hb2 hkt S0 hNe hg
  go_enter Tryd.func30, Tryd.ntmps30
  go_wp2_with fail
  go_loopw [5, 7] (fun l t wr => ∃ k : Nat, k ≤ N ∧ StW w w.heap.size m (adZ (wood r k)) (stvC m r k) k t l wr) (fun l _ _ => N - lenS l)
  case atStart => exact ⟨0, Nat.zero_le _, HS0.out⟩
  case round =>
    clear HS0
    obtain ⟨k, hk, S⟩ := hrel
    obtain ⟨A2, c2, rfl, _, _, _⟩ := own_slice S.list
    obtain ⟨A1, c1, rfl, hcap, hcm, hrd⟩ := own_slice S.todo
    have hszw := S.below.size
    by_cases hlt : k < N
    · obtain ⟨rest, hw1, hw2⟩ := wood_nth (r := r) (k := k) (by rw [HN.out]; exact hlt)
      have hnd := nth_all HA.out (k := k) (by rw [HN.out]; exact hlt)
      obtain ⟨t, ht⟩ : ∃ t, nth r k = t := ⟨_, rfl⟩
      rw [ht] at hw1 hw2 hnd
      have hcn := cnt_wood r k (by rw [HN.out]; exact hk)
      rw [hw1, HN.out] at hcn
      have hcl := cntL_len (t :: rest)
      obtain ⟨n, hn⟩ : ∃ n, rest.length = n := ⟨_, rfl⟩
      have hn2 : n + 1 ≤ 1073741824 := by simp at hcl; omega
      have hwl : (adZ (wood r k)).length = n + 1 := by rw [hw1, adZ_length]; simp [hn]
      rw [hwl] at S hrd hcap ⊢
      rw [hw1, adZ_cons] at S hrd
      have hln : (adZ rest ++ [t.ad]).length = n + 1 := by simp [adZ_length, hn]
      have HW1 := Lib.hid hw1
      clear hw1 hwl
      have hlen : (adZ rest).length = n := by rw [adZ_length, hn]
      have HNR := Lib.hid (show rest.length ≤ 1073741824 by omega)
      obtain ⟨q1, o1, rfl, hq1, hcell⟩ := hrd.plain (by omega)
      have HQ1 := Lib.hid hq1
      have hel := hcell n t.ad (by rw [List.getElem?_append_right (by omega), hlen, Nat.sub_self]; rfl)
      rw [show t.ad = .pointer (some ⟨t.b, t.o, none⟩) from rfl] at hel
      obtain ⟨Av, cv, Ap, cp, hnb, x0, x1, x2, x3, hvr, hvl, hpl, hok1, hok0⟩ := hnd
      have hbb := S.below
      have hNW : Nd w t.b t.o t.p.op t.p.col Av t.p.vals.length cv Ap t.p.parts.length cp := ⟨hnb, x0, x1, x2, x3⟩
      have HNW := Lib.hid hNW
      have hND : Nd wr t.b t.o t.p.op t.p.col Av t.p.vals.length cv Ap t.p.parts.length cp := ⟨by omega, (hbb.cell hnb).trans x0, (hbb.cell hnb).trans x1, (hbb.cell hnb).trans x2, (hbb.cell hnb).trans x3⟩
      have hfm := hF wr t.b t.o t.p.vals.length cv t.p.parts.length cp m m t.p.op t.p.col Av Ap (some ⟨w.heap.size, 0, none⟩) hND S.reads (HSH.out.next hbb) hm hvl hpl
      obtain ⟨f, hf⟩ : ∃ f, decide (okT m t) = f := ⟨_, rfl⟩
      rw [show decide (okZ m t.p.op t.p.col t.p.vals.length t.p.parts.length) = f from hf] at hfm
      have HFM := Lib.hid hfm
      have hst := stvC_next m r k t ht f hf
      have HST := Lib.hid hst
      have S1 := S.pop
      rw [hlen] at S1
      have HS1 := Lib.hid S1
      obtain ⟨K, hK⟩ : ∃ K : Nat, (if f then t.p.parts.length else 0) = K := ⟨_, rfl⟩
      have hKL : t.kids.length = K := by
        cases f with
        | true =>
          have := (hok1 (by simpa using hf)).1
          rw [← hK, ← this]; simp
        | false => rw [← hK, hok0 (by simpa using hf)]; rfl
      have HKL := Lib.hid hKL
      have hKm : K ≤ 65536 := by rw [← hK]; split <;> omega
      have hkid : ∀ j, j < K → f = true ∧ ∃ s b o, t.kids.reverse[j]? = some s ∧ Ap = some ⟨b, o, none⟩ ∧ s.ad = .pointer (some ⟨b, o + j * 4, none⟩) ∧ j < t.p.parts.length := fun j hj => by
        cases f with
        | false => rw [← hK] at hj; simp at hj
        | true =>
          obtain ⟨s, hsj⟩ : ∃ s, t.kids.reverse[j]? = some s := ⟨_, List.getElem?_eq_getElem (by rw [List.length_reverse, hKL]; exact hj)⟩
          obtain ⟨b, o, h1, h2, h3, _⟩ := (hok1 (by simpa using hf)).2 j s hsj
          exact ⟨rfl, s, b, o, hsj, h1, by unfold Tr.ad; rw [h2, h3], by rw [← hK] at hj; simpa using hj⟩
      have HKID := Lib.hid hkid
      have HW2 := Lib.hid hw2
      have hPI : (if f = true then ((t.p.parts.length : Nat) : Int) else 0) = (K : Int) := by rw [← hK]; split <;> rfl
      have hpa := fun (W : World) (h : Nd W t.b t.o t.p.op t.p.col Av t.p.vals.length cv Ap t.p.parts.length cp) => parts_any f h
      rw [hPI] at hpa
      have HPA := Lib.hid hpa
      have hw1 : IntKind.i64.wrap (((n + 1 : Nat) : Int) - 1) = (n : Int) := by rw [show ((n + 1 : Nat) : Int) - 1 = (n : Int) by omega]; exact IntWalk.i64_in _ (by omega)
      have d1 : (n : Int) ≤ (c1 : Int) := by omega
      clear S S1 hNW hfm hf hst hok1 hok0 hK hKL hkid hw2 hPI hpa hND hnb x0 x1 x2 x3 hvr hvl hpl hcl hcn hln hcell hrd hlen ht hn hbb
      go_wp2_with fail
      refine (HFM.out).mono ?_
      rintro e w1 ⟨rfl, hb1⟩
      have T1 := HS1.out.next hb1
      have hba := (Below.refl w1.heap.size w1).alloc (Nat.le_refl _) (.cells #[.pointer (some ⟨t.b, t.o, none⟩), .bool f] 73)
      have hbb := hba.alloc (by simp) (.cells #[.pointer (some ⟨t.b, t.o, none⟩), .bool f] 73)
      have T2 := T1.next hbb
      have ks := (Blk.new w1 73 #[.pointer (some ⟨t.b, t.o, none⟩), .bool f]).alloc (.cells #[.pointer (some ⟨t.b, t.o, none⟩), .bool f] 73)
      have kx := reads_blkZ (Blk.new (w1.alloc (.cells #[.pointer (some ⟨t.b, t.o, none⟩), .bool f] 73)) 73 #[.pointer (some ⟨t.b, t.o, none⟩), .bool f]) (n := 1) (s := 2) (xs := [.pointer (some ⟨t.b, t.o, none⟩), .bool f]) rfl
      rw [World.size_alloc] at kx
      obtain ⟨y0, y1⟩ := blk2 (Blk.new w1 73 #[.pointer (some ⟨t.b, t.o, none⟩), .bool f])
      have hs1 := T1.below.size
      have hsw := hb1.size
      have hl1 : ∀ q, (Value.slice A2 k c2).ownBlock = some q → q < w1.heap.size := fun q hq => (T1.list.lt q hq).2
      have HT2 := Lib.hid T2; have HKS := Lib.hid ks; have HL1 := Lib.hid hl1
      clear hb1 T1 hba hbb T2 ks HS1 HFM hl1
      go_wp2_with (at_builtin
                   refine wpList_append_any _ rfl (.tmp 34) (.tmp 36) _ rfl w.heap.size 73 i1 _ 2 16 Tryd.underlying71 hi1 hy0 hy1 hy2 rfl (by omega) (.slice A2 k c2) k (stvC m r k) rfl
                     HT2.out.list (w1.heap.size + 1 + 1) (some ⟨w1.heap.size + 1, 0, none⟩) 1 1 [.pointer (some ⟨t.b, t.o, none⟩), .bool f] rfl (by simpa using kx) (stepZ_one _ _) (by unfold maxLen; omega) (by omega) (by simp; omega) ?_
                   intro v3 w3 hown3 hg3 hat3
                   have ks3 := HKS.out.grown hg3 (fun e => by have := HL1.out _ e.symm; omega)
                   obtain ⟨z0, z1⟩ := blk2 ks3)
      have T3 := HT2.out.pushL hg3 (by rw [← HST.out] at hown3; exact hown3) (by rcases hat3 with e | e; exact .inl e; exact .inr (by simpa using e))
      have hs3 : w1.heap.size < w3.heap.size := ks3.lt
      have hq3 : q1 < w1.heap.size := by have := HQ1.out; omega
      obtain ⟨A3, c3, rfl, _, _, _⟩ := own_slice T3.list
      have HT3 := Lib.hid T3; have HK3 := Lib.hid ks3
      clear T3 ks3 hown3 hg3 hat3 z0 z1 y0 y1 kx HT2 HKS HL1 hel hw1 d1 hcap hcm
      refine (HPA.out _ (HNW.out.next HT3.out.below)).mono ?_
      rintro e w4 ⟨rfl, hb4⟩
      have T4 := HT3.out.next hb4
      have ks4 := HK3.out.below hb4 hs3
      have HT4 : Hid (StW w w.heap.size m (adZ rest ++ (t.kids.reverse.take 0).map Tr.ad) (stvC m r (k + 1)) (k + 1) (.slice (some ⟨q1, o1, none⟩) n c1) (.slice A3 (k + 1) c3) w4) := Lib.hid (by simpa using T4)
      have HK4 := Lib.hid ks4
      clear T4 ks4 hb4 HT3 HK3 HPA
      go_wp2_with fail
      go_loopw [7, 40] (fun tv i wq => ∃ j : Nat, j ≤ K ∧ i = .int .i64 (j : Int) ∧ StW w w.heap.size m (adZ rest ++ (t.kids.reverse.take j).map Tr.ad) (stvC m r (k + 1)) (k + 1) tv (.slice A3 (k + 1) c3) wq ∧ Blk wq w1.heap.size 73 #[.pointer (some ⟨t.b, t.o, none⟩), .bool f] ∧ ∀ q, tv.ownBlock = some q → q ≠ w1.heap.size) (fun _ i _ => K - (intOf i).toNat)
      case atStart => exact ⟨0, Nat.zero_le _, rfl, HT4.out, HK4.out, fun q hq => by simp [Value.ownBlock] at hq; omega⟩
      case round =>
        clear HT4 HK4
        obtain ⟨j, hj, rfl, S, ks, hne⟩ := hrel
        by_cases hjl : j < K
        · obtain ⟨rfl, s, b', o', hsj, rfl, had, hjp⟩ := HKID.out j hjl
          have hN := HNW.out.next S.below
          have y3 := hN.c3
          have d4 : decide ((j : Int) < 0) = false := by simp
          have d5 : decide (((t.p.parts.length : Nat) : Int) ≤ (j : Int)) = false := by simp; omega
          obtain ⟨np, hnp⟩ : ∃ np, t.p.parts.length = np := ⟨_, rfl⟩
          rw [hnp] at y3 d5 hjp
          obtain ⟨y0, y1⟩ := blk2 ks
          obtain ⟨xs, hxs⟩ : ∃ xs, adZ rest ++ (t.kids.reverse.take j).map Tr.ad = xs := ⟨_, rfl⟩
          have hnx : adZ rest ++ (t.kids.reverse.take (j + 1)).map Tr.ad = xs ++ [.pointer (some ⟨b', o' + j * 4, none⟩)] := by
            rw [List.take_add_one, hsj, ← hxs, List.map_append, ← List.append_assoc]
            simp [had]
          have hlx : xs.length ≤ 1073741824 + 65536 := by
            rw [← hxs, List.length_append, adZ_length, List.length_map, List.length_take]
            have := HNR.out
            omega
          rw [hxs] at S
          obtain ⟨Aq, cq, rfl, _, _, _⟩ := own_slice S.todo
          have hba := (Below.refl wr.heap.size wr).alloc (Nat.le_refl _) (.cells #[.pointer (some ⟨b', o' + j * 4, none⟩)] 50)
          have S1 := S.next hba
          have kk := ks.alloc (.cells #[.pointer (some ⟨b', o' + j * 4, none⟩)] 50)
          have kx := reads_blkZ (Blk.new wr 50 #[.pointer (some ⟨b', o' + j * 4, none⟩)]) (n := 1) (s := 1) (xs := [.pointer (some ⟨b', o' + j * 4, none⟩)]) rfl
          rw [World.size_alloc] at kx
          have hsz := S.below.size
          have hkl := ks.lt
          have HS1 := Lib.hid S1; have HKK := Lib.hid kk; have HNX := Lib.hid hnx
          clear S S1 ks kk hba hN hsj had hxs hnx hnp
          go_wp2_with (at_builtin
                       refine wpList_append_any _ rfl (.tmp 43) (.tmp 51) _ rfl w.heap.size 50 i2 _ 1 8 Tryd.underlying94 hi2 hz0 hz1 hz2 rfl (by omega) (.slice Aq xs.length cq) xs.length xs rfl
                         HS1.out.todo (wr.heap.size + 1) (some ⟨wr.heap.size, 0, none⟩) 1 1 [.pointer (some ⟨b', o' + j * 4, none⟩)] rfl kx (ptrZ_one _) (by unfold maxLen; omega) (by omega) (by simp; omega) ?_
                       intro v5 w5 hown5 hg5 hat5)
          have T5 := HS1.out.pushT hg5 hown5 hat5
          have k5 := HKK.out.grown hg5 (fun e => hne _ e.symm rfl)
          rw [← HNX.out] at T5
          go_round
          case rel =>
            refine ⟨j + 1, by omega, by go_num, T5, k5, fun q hq => ?_⟩
            rcases hat5 with e | e
            · exact hne q (e ▸ hq)
            · rw [e] at hq
              injection hq with hq
              simp at hq
              omega
          case measure => simp [intOf]; omega
        · obtain rfl : j = K := by omega
          have S1 := S
          rw [List.take_of_length_le (by rw [List.length_reverse, HKL.out]; exact Nat.le_refl _), show adZ rest ++ t.kids.reverse.map Tr.ad = adZ (wood r (k + 1)) by rw [HW2.out]; simp [adZ]] at S1
          have HS1 := Lib.hid S1
          clear S S1 ks hne
          go_wp2_with fail
          go_round
          case rel => exact ⟨k + 1, by omega, HS1.out⟩
          case measure => simp [lenS]; omega
    · obtain rfl : k = N := by omega
      have hwe : wood r k = [] := by rw [← HN.out]; exact wood_end r
      have hwl : (adZ (wood r k)).length = 0 := by rw [hwe]; rfl
      rw [hwl]
      have HS1 := Lib.hid S
      clear S hrd hcap hwe hwl
      go_wp2_with fail
      go_ret
      exact ⟨_, _, rfl, HS1.out.list, HS1.out.below⟩
end Go.Proofs.YtmjpjllbfgkfbaaDoor
