import Derived.Deep.RegionLaw
import Derived.Deep.RegionWith
import Derived.Deep.DeepCutAuto
import Derived.Deep.CutBlock
import Derived.Deep.AppendLies
import Derived.Test.YtpgdlmnhomnblaaGreatDoorJ23
import Derived.Test.YtpgdlmnhomnblaaGreatDoorJ24
import Derived.Test.YtpgdlmnhomnblaaGreatDoorJ20
import Derived.Test.YtpgdlmnhomnblaaGreatDoorJ25
import Derived.Test.YtpgdlmnhomnblaaGreatDoorJ29
import Derived.Test.YtpgdlmnhomnblaaGreatDoorJ8
namespace Go.Proofs.YtpgdlmnhomnblaaGreatDoor
open Go.RowKit
set_option linter.unusedVariables false
set_option linter.unusedSimpArgs false
set_option maxRecDepth 100000
def PutG : Prop := ∀ (A : Option Addr) (n c : Nat) (kd way : Int) (l : List Vl) (W : World), Reads W W.heap.size 3 A n (vs l) → n ≤ 65536 → (∀ v ∈ l, In64 v.1 ∧ In64 v.2.1) → (∀ v ∈ l, v.2.2.length ≤ 65536) → In64 kd → In64 way →
  Calls Tryz.prog 20 #[.slice A n c, .int .i64 kd, .int .i64 way] W (CkPut W kd way l)
theorem info_rowG : (Tryz.prog.info? 49).map (fun i => (i.zero, i.size, i.bytes)) = some (some (.slice none 0 0), 1, 24) := by kernel_rfl
theorem info_chunkG : (Tryz.prog.info? 66).map (fun i => (i.zero, i.size, i.bytes)) = some (some (.slice none 0 0), 1, 24) := by kernel_rfl
theorem info_headG : (Tryz.prog.info? 57).map (fun i => (i.zero, i.size, i.bytes)) = some (some (.agg (#[.int .i64 0, .bool false, .int .i64 0, .int .i64 0, .string ⟨#[]⟩, .int .i64 0, .int .i64 0, .string ⟨#[]⟩] ++ Array.replicate 32 (.int .u8 0))), 40, 112) := by kernel_rfl
def PG (w : World) (g h : Nat) (va vb : Value) (q : Nat) : Prop := q < w.heap.size ∨ q = g ∨ q = h ∨ va.ownBlock = some q ∨ vb.ownBlock = some q
theorem grown_alloc {w w' : World} {o : Obj} {row : Option Nat} (hg : (w.alloc o).grownBy w' row) : w.grownBy w' row := only_trans (only_alloc (World.grownBy.refl w row) o) hg
theorem stp_a {w W W' : World} {g h : Nat} {v v' vb : Value} {o : Obj} (hg : (W.alloc o).grownBy W' v.ownBlock) (hat : v'.ownBlock = v.ownBlock ∨ v'.ownBlock = some (W.alloc o).heap.size) : Stp W W' (PG w g h v vb) (PG w g h v' vb) v.ownBlock := by
  refine ⟨grown_alloc hg, fun q hq => .inl (.inr (.inr (.inr (.inl hq)))), fun q hq => ?_⟩
  rcases hq with h1 | h1 | h1 | h1 | h1
  · exact .inl (.inl h1)
  · exact .inl (.inr (.inl h1))
  · exact .inl (.inr (.inr (.inl h1)))
  · rcases hat with e | e
    · exact .inl (.inr (.inr (.inr (.inl (by rw [← e]; exact h1)))))
    · rw [e] at h1; injection h1 with h1; simp at h1; exact .inr (by omega)
  · exact .inl (.inr (.inr (.inr (.inr h1))))
theorem stp_b {w W W' : World} {g h : Nat} {v v' va : Value} {o : Obj} (hg : (W.alloc o).grownBy W' v.ownBlock) (hat : v'.ownBlock = v.ownBlock ∨ v'.ownBlock = some (W.alloc o).heap.size) : Stp W W' (PG w g h va v) (PG w g h va v') v.ownBlock := by
  refine ⟨grown_alloc hg, fun q hq => .inl (.inr (.inr (.inr (.inr hq)))), fun q hq => ?_⟩
  rcases hq with h1 | h1 | h1 | h1 | h1
  · exact .inl (.inl h1)
  · exact .inl (.inr (.inl h1))
  · exact .inl (.inr (.inr (.inl h1)))
  · exact .inl (.inr (.inr (.inr (.inl h1))))
  · rcases hat with e | e
    · exact .inl (.inr (.inr (.inr (.inr (by rw [← e]; exact h1)))))
    · rw [e] at h1; injection h1 with h1; simp at h1; exact .inr (by omega)
theorem stp_g {w W : World} {g h : Nat} {va vb : Value} (i : Nat) (u : Value) : Stp W (W.setCell ⟨g, i, none⟩ u) (PG w g h va vb) (PG w g h va vb) (some g) :=
  ⟨only_setCell (p := ⟨g, i, none⟩) (World.grownBy.refl W (some g)) (.inl rfl) u, fun q hq => by injection hq with hq; exact .inl (.inr (.inl hq.symm)), fun q hq => .inl hq⟩
theorem own_boxG {W : World} {B n size R : Nat} {t : TypeId} {v : Value} {xs : List Value} (h : W.ownsRow B t size v n xs) (hR : R < B) (i : Nat) (u : Value) : (W.setCell ⟨R, i, none⟩ u).ownsRow B t size v n xs :=
  h.kept (only_setCell (p := ⟨R, i, none⟩) (World.grownBy.refl W (some R)) (.inl rfl) u) (by
    cases hq : v.ownBlock with
    | none => exact .inl rfl
    | some q => exact .inr fun e => by injection e with e; have := (h.lt q hq).1; omega)
structure Mkg (w wr : World) (g d h n : Nat) (Z : List Nat) (v0 v2 v3 : Value) : Prop where
  blk : Blk wr g 63 #[v0, .pointer (some ⟨d, 0, none⟩), v2, v3]
  set : SetIn wr w.heap.size d h n Z
  low : Below w.heap.size w wr
  gw : w.heap.size ≤ g
  dg : d < g
  hg : h < g
section
variable {w wr W : World} {g d h n : Nat} {Z : List Nat} {v0 v2 v3 : Value}
theorem Mkg.below (H : Mkg w wr g d h n Z v0 v2 v3) (hb : Below wr.heap.size wr W) : Mkg w W g d h n Z v0 v2 v3 :=
  ⟨H.blk.below hb H.blk.lt, H.set.below hb (Nat.le_refl _), H.low.trans (hb.mono H.low.size), H.gw, H.dg, H.hg⟩
theorem Mkg.row (H : Mkg w wr g d h n Z v0 v2 v3) {o : Obj} {v : Value} (hg : (wr.alloc o).grownBy W v.ownBlock) (hv : ∀ q, v.ownBlock = some q → g < q) : Mkg w W g d h n Z v0 v2 v3 := by
  have h1 := H.dg; have h2 := H.hg; have h3 := H.gw
  refine ⟨(H.blk.alloc o).grown hg (fun e => by have := hv g e.symm; omega), (H.set.alloc o).grown hg (fun e => by have := hv d e.symm; omega) (fun e => by have := hv h e.symm; omega),
    (H.low.alloc H.low.size o).grown hg (by have := H.low.size; simp; omega) (fun q hq => by have := hv q hq; omega), H.gw, H.dg, H.hg⟩
theorem Mkg.put0 (H : Mkg w wr g d h n Z v0 v2 v3) (u : Value) : Mkg w (wr.setCell ⟨g, 0, none⟩ u) g d h n Z u v2 v3 := by
  have h1 := H.dg; have h2 := H.hg
  exact ⟨by simpa using H.blk.set_ 0 u, H.set.setCell (by show d ≠ g; omega) (by show h ≠ g; omega) u, H.low.setCell (p := ⟨g, 0, none⟩) H.gw u, H.gw, H.dg, H.hg⟩
theorem Mkg.put2 (H : Mkg w wr g d h n Z v0 v2 v3) (u : Value) : Mkg w (wr.setCell ⟨g, 2, none⟩ u) g d h n Z v0 u v3 := by
  have h1 := H.dg; have h2 := H.hg
  exact ⟨by simpa using H.blk.set_ 2 u, H.set.setCell (by show d ≠ g; omega) (by show h ≠ g; omega) u, H.low.setCell (p := ⟨g, 2, none⟩) H.gw u, H.gw, H.dg, H.hg⟩
theorem Mkg.put3 (H : Mkg w wr g d h n Z v0 v2 v3) (u : Value) : Mkg w (wr.setCell ⟨g, 3, none⟩ u) g d h n Z v0 v2 u := by
  have h1 := H.dg; have h2 := H.hg
  exact ⟨by simpa using H.blk.set_ 3 u, H.set.setCell (by show d ≠ g; omega) (by show h ≠ g; omega) u, H.low.setCell (p := ⟨g, 3, none⟩) H.gw u, H.gw, H.dg, H.hg⟩
theorem Mkg.cells (H : Mkg w wr g d h n Z v0 v2 v3) : wr.cell? ⟨g, 0, none⟩ = some v0 ∧ wr.cell? ⟨g, 1, none⟩ = some (.pointer (some ⟨d, 0, none⟩)) ∧ wr.cell? ⟨g, 2, none⟩ = some v2 ∧ wr.cell? ⟨g, 3, none⟩ = some v3 :=
  ⟨H.blk.cell 0, H.blk.cell 1, H.blk.cell 2, H.blk.cell 3⟩
theorem PG_own {B : Nat} {va vb : Value} {ys zs : List Value} {wo : World} {na nb ta tb sa sb} {Ba Bb : Nat} (H : Mkg w wo g d h n Z v0 v2 v3) (ha : wo.ownsRow Ba ta sa va na ys) (hb : wo.ownsRow Bb tb sb vb nb zs) (hB : wo.heap.size ≤ B) :
    ∀ q, PG w g h va vb q → q < B := by
  intro q hq
  have h1 := H.blk.lt; have h2 := H.set.row.lt; have h3 := H.low.size
  rcases hq with h | h | h | h | h
  · omega
  · omega
  · omega
  · have := (ha.lt q h).2; omega
  · have := (hb.lt q h).2; omega
end
structure L2 (w wq : World) (g d h k : Nat) (Z : List Nat) (R : Option Addr) (cR : Nat) (v2 v3 : Value) (us vv : List Value) (rows : List (List Vl)) (hs : List (Zn × List Nat)) (ks : List (List Nat)) : Prop where
  mkg : Mkg w wq g d h k Z (.slice R k cR) v2 v3
  own2 : wq.ownsRow (g + 1) 57 40 v2 hs.length (hcs hs)
  own3 : wq.ownsRow (g + 1) 66 1 v3 ks.length vv
  ne : v3.ownBlock = none ∨ v3.ownBlock ≠ v2.ownBlock
  ch : AllS bs List.length wq (PG w g h v2 v3) 1 vv ks
  spine : OffG wq (PG w g h v2 v3) 1 R k us
  each : AllS vs List.length wq (PG w g h v2 v3) 3 us rows
section
variable {w wq W : World} {g d h k : Nat} {Z : List Nat} {R : Option Addr} {cR : Nat} {v2 v3 v' : Value} {us vv : List Value} {rows : List (List Vl)} {hs : List (Zn × List Nat)} {ks : List (List Nat)}
theorem L2.below (L : L2 w wq g d h k Z R cR v2 v3 us vv rows hs ks) (hb : Below wq.heap.size wq W) : L2 w W g d h k Z R cR v2 v3 us vv rows hs ks :=
  ⟨L.mkg.below hb, own_below L.own2 hb, own_below L.own3 hb, L.ne, L.ch.step (Stp.of_below hb), L.spine.step (Stp.of_below hb), L.each.step (Stp.of_below hb)⟩
theorem L2.pg (L : L2 w wq g d h k Z R cR v2 v3 us vv rows hs ks) : ∀ q, PG w g h v2 v3 q → q < wq.heap.size := PG_own L.mkg L.own2 L.own3 (Nat.le_refl _)
theorem L2.lt3 (L : L2 w wq g d h k Z R cR v2 v3 us vv rows hs ks) : ∀ q, v3.ownBlock = some q → g < q := fun q hq => (L.own3.lt q hq).1
theorem L2.lt2 (L : L2 w wq g d h k Z R cR v2 v3 us vv rows hs ks) : ∀ q, v2.ownBlock = some q → g < q := fun q hq => (L.own2.lt q hq).1
theorem L2.chunk (L : L2 w wq g d h k Z R cR v2 v3 us vv rows hs ks) {o : Obj} {u : Value} {b : List Nat} (hu : OffS wq (PG w g h v2 v3) 1 u b.length (bs b)) (hown : W.ownsRow (g + 1) 66 1 v' (ks.length + 1) (vv ++ [u])) (hg : (wq.alloc o).grownBy W v3.ownBlock) (hat : v'.ownBlock = v3.ownBlock ∨ v'.ownBlock = some (wq.alloc o).heap.size) :
    L2 w (W.setCell ⟨g, 3, none⟩ v') g d h k Z R cR v2 v' us (vv ++ [u]) rows hs (ks ++ [b]) := by
  have hl : vv.length = ks.length := by have := L.own3.1; omega
  have sg := stp_b (w := w) (g := g) (h := h) (va := v2) hg hat
  have ss := stp_g (w := w) (W := W) (g := g) (h := h) (va := v2) (vb := v') 3 v'
  have hn2 : v2.ownBlock = none ∨ v2.ownBlock ≠ v3.ownBlock := by
    rcases L.ne with e | e
    · cases hb : v2.ownBlock with
      | none => exact .inl rfl
      | some q => exact .inr (by rw [e]; simp)
    · exact .inr fun e2 => e e2.symm
  have h2 : W.ownsRow (g + 1) 57 40 v2 hs.length (hcs hs) := (L.own2.alloc o).kept hg hn2
  refine ⟨(L.mkg.row hg L.lt3).put3 v', own_boxG h2 (Nat.lt_succ_self _) _ _, by rw [List.length_append]; exact own_boxG hown (Nat.lt_succ_self _) _ _, ?_, ((L.ch.snoc hl hu).step sg).step ss, (L.spine.step sg).step ss, (L.each.step sg).step ss⟩
  rcases hat with e | e
  · rw [e]; exact L.ne
  · rw [e]
    cases hb : v2.ownBlock with
    | none => exact .inr (by simp)
    | some q => exact .inr fun e2 => by injection e2 with e2; have := (L.own2.lt q hb).2; simp at e2; omega
theorem L2.head (L : L2 w wq g d h k Z R cR v2 v3 us vv rows hs ks) {o : Obj} {x : Zn × List Nat} (hown : W.ownsRow (g + 1) 57 40 v' (hs.length + 1) (hcs hs ++ (zc x.1 ++ bs x.2))) (hg : (wq.alloc o).grownBy W v2.ownBlock) (hat : v'.ownBlock = v2.ownBlock ∨ v'.ownBlock = some (wq.alloc o).heap.size) :
    L2 w (W.setCell ⟨g, 2, none⟩ v') g d h k Z R cR v' v3 us vv rows (hs ++ [x]) ks := by
  have sg := stp_a (w := w) (g := g) (h := h) (vb := v3) hg hat
  have ss := stp_g (w := w) (W := W) (g := g) (h := h) (va := v') (vb := v3) 2 v'
  have h3 : W.ownsRow (g + 1) 66 1 v3 ks.length vv := (L.own3.alloc o).kept hg L.ne
  refine ⟨(L.mkg.row hg L.lt2).put2 v', by rw [List.length_append, hcs_snoc]; exact own_boxG hown (Nat.lt_succ_self _) _ _, own_boxG h3 (Nat.lt_succ_self _) _ _, ?_, (L.ch.step sg).step ss, (L.spine.step sg).step ss, (L.each.step sg).step ss⟩
  rcases hat with e | e
  · rw [e]; exact L.ne
  · rw [e]
    cases hb : v3.ownBlock with
    | none => exact .inl rfl
    | some q => exact .inr fun e2 => by injection e2 with e2; have := (L.own3.lt q hb).2; simp at e2; omega
theorem L2.done (L : L2 w wq g d h k Z R cR v2 v3 us vv rows hs ks) (hk : rows.length = k) : GrI wq (fun b => b < w.heap.size ∨ b = h) g d rows hs ks := by
  obtain ⟨C, cC, rfl, _, _, _⟩ := own_slice L.own2
  obtain ⟨K, cK, rfl, _, _, _⟩ := own_slice L.own3
  have g1 := L.mkg.gw; have g2 := L.mkg.hg
  have hP : ∀ q, (q < w.heap.size ∨ q = h) → q < g + 1 ∨ wq.heap.size ≤ q := fun q hq => .inl (by omega)
  have st : Stp wq wq (PG w g h (.slice C hs.length cC) (.slice K ks.length cK)) (fun b => b < w.heap.size ∨ b = h) none := Stp.below' (Below.refl _ _) (fun q hq => .inl (hq.elim .inl fun e => .inr (.inr (.inl e))))
  subst hk
  exact ⟨R, cR, C, cC, K, cK, us, vv, L.mkg.blk, by omega, L.spine.step st, L.each.step st, OffG.of_own L.own2 hP, OffG.of_own L.own3 hP, L.ch.step st⟩
end
section
variable {w : World} {A S : Option Addr} {n c m cs : Nat} {sl : List Cl} {rows : List (List Vl)}
set_option maxHeartbeats 1000000 in
theorem new_no (hS : Reads w w.heap.size 3 S m (cls sl)) (hm : m ≤ 140737488355328) (hV : VV w A rows) (hrn : rows.length = n) (hn : n ≤ 9223372036854775807) (hbig : ∀ r ∈ rows, r.length ≤ 140737488355328) (he : newE sl rows ≠ 0) :
    Calls Tryz.prog 6 #[.slice S m cs, .slice A n c] w fun e w' => e = .returned (.tuple #[.pointer none, .int .i64 (newE sl rows)]) ∧ Below w.heap.size w w' := by
  have HF := Lib.hid (refusal_G (c := c) (cs := cs) hS hm hV hrn hn hbig)
  obtain ⟨E, hE⟩ : ∃ E, newE sl rows = E := ⟨_, rfl⟩
  rw [hE] at HF he ⊢
  have q1 : (E == 0) = false := by simpa using he
  clear hS hV hbig hE hrn
  go_enter Tryz.func6, Tryz.ntmps6
  go_wp2_with fail
  refine HF.out.mono ?_
  rintro e w1 ⟨rfl, hb⟩
  go_wp2_with fail
  go_ret2
  exact ⟨rfl, hb⟩
set_option maxHeartbeats 4000000 in
theorem new_yes (HP : PutG) (ht : ShTab w) (hS : Reads w w.heap.size 3 S m (cls sl)) (hci : ∀ c ∈ sl, In64 c.1 ∧ In64 c.2.2) (hm : m ≤ 65536) (hV : VV w A rows) (hrn : rows.length = n) (hn : n ≤ 300) (hin : ∀ r ∈ rows, ∀ v ∈ r, In64 v.1 ∧ In64 v.2.1) (hbig : ∀ r ∈ rows, r.length ≤ 65536) (he : newE sl rows = 0) :
    Calls Tryz.prog 6 #[.slice S m cs, .slice A n c] w (NewG w sl rows) := by
  have hf := refusal_G (c := c) (cs := cs) hS (by omega) hV hrn (by omega) (fun r hr => by have := hbig r hr; omega)
  rw [he] at hf
  have hsl : sl.length = m := by have := hS.1; rw [cls_length] at this; omega
  have hall : ∀ r ∈ rows, rwE sl r = 0 := by
    unfold newE at he
    split at he
    · rename_i h1; exact absurd he h1
    split at he
    · cases he
    exact rowsE_all he
  have HF := Lib.hid hf
  have HNB := Lib.hid fun W => New_any n W (by omega)
  have HSR := Lib.hid hS
  have HCO := Lib.hid fun (W : World) (hb : Below w.heap.size w W) (ci : Nat) (h1 : ci < m) => column_G (w := W) (A := A) (n := n) (c := c) (ci := ci) (rows := rows) (hV.next hb) hrn (by omega) (by omega) (fun r hr => by have := row_len (hall r hr); have := hbig r hr; omega)
  obtain ⟨us, hu, hus⟩ := hV
  rw [hrn] at hu
  have HCP := Lib.hid fun (k : Nat) (r : List Vl) (h : rows[k]? = some r) => (show ∃ A2 c2, us[k]? = some (.slice A2 r.length c2) ∧ ∀ W, Below w.heap.size w W → Calls Tryz.prog 18 #[.slice A2 r.length c2] W fun e w' => ∃ v, e = .returned v ∧ w'.ownsRow W.heap.size 51 3 v r.length (vs r) ∧ Below W.heap.size W w' from by
    obtain ⟨u, h1, A2, c2, h2, h3⟩ := hus k r h
    exact ⟨A2, c2, by rw [h1, h2], fun W hb => copied_V ((h3.below hb).more hb.size) (hbig r (List.mem_of_getElem? h))⟩)
  have HE := Lib.hid hrn; have HT := Lib.hid ht; have HIN := Lib.hid hin; have HAL := Lib.hid hall; have HCI := Lib.hid hci; have HP' := Lib.hid HP; have HSL := Lib.hid hsl; have HUS := Lib.hid hu
  obtain ⟨i0, hi0, hx0, hx1, hx2⟩ := info_parts info_rowG
  obtain ⟨i1, hi1, hy0, hy1, hy2⟩ := info_parts info_chunkG
  obtain ⟨i2, hi2, hz0, hz1, hz2⟩ := info_parts info_headG
  clear hS hci hin hbig he hf ht hus hall HP hrn hsl
  go_enter Tryz.func6, Tryz.ntmps6
  go_wp2_with fail
  refine HF.out.mono ?_
  rintro e w1 ⟨rfl, hb1⟩
  have HB1 := Lib.hid hb1
  clear hb1 HF
  go_wp2_with fail
  refine (HNB.out _).mono ?_
  rintro e w2 ⟨d, h, rfl, hset, hb2⟩
  have hsz1 := HB1.out.size
  have HB2 := Lib.hid (HB1.out.trans (hb2.mono HB1.out.size))
  have HSET := Lib.hid (hset.from (B' := w.heap.size) hsz1)
  have hsz2 := HB2.out.size
  clear hset hb2 HNB HB1
  go_wp2_with fail
  obtain ⟨g, hg⟩ : ∃ g, w2.heap.size = g := ⟨_, rfl⟩
  rw [hg]
  have M0 : Mkg w (w2.alloc (.cells #[.slice none 0 0, .pointer (some ⟨d, 0, none⟩), .slice none 0 0, .slice none 0 0] 63)) g d h n (List.replicate (siz n) 0) (.slice none 0 0) (.slice none 0 0) (.slice none 0 0) := by
    subst hg
    exact ⟨Blk.new w2 _ _, HSET.out.alloc _, HB2.out.alloc hsz2 _, hsz2, HSET.out.obj.lt, HSET.out.row.lt⟩
  obtain ⟨w3, hw3⟩ : ∃ w3, w2.alloc (.cells #[.slice none 0 0, .pointer (some ⟨d, 0, none⟩), .slice none 0 0, .slice none 0 0] 63) = w3 := ⟨_, rfl⟩
  rw [hw3] at M0 ⊢
  have HM := Lib.hid M0
  obtain ⟨Z, hZ⟩ : ∃ Z, List.replicate (siz n) 0 = Z := ⟨_, rfl⟩
  have HZZ := Lib.hid hZ
  rw [hZ] at HM
  clear M0 hw3 HSET HB2 hg hZ hsz1 hsz2
  go_loopw [9, 28] (fun _ i wr => ∃ k : Nat, k ≤ n ∧ i = .int .i64 (k : Int) ∧ ∃ v us', Mkg w wr g d h n Z v (.slice none 0 0) (.slice none 0 0) ∧ wr.ownsRow (g + 1) 49 1 v k us' ∧ AllS vs List.length wr (PG w g h v (.slice none 0 0)) 3 us' (rows.take k)) (fun _ i _ => n - (intOf i).toNat)
  case atStart => exact ⟨0, Nat.zero_le _, rfl, _, [], HM.out, own_nil _ _ _ _, by simpa using AllS.nil⟩
  case round =>
    clear HM
    obtain ⟨k, hk, rfl, v, us', hM, hown, hrows⟩ := hrel
    by_cases hlt : k < n
    · obtain ⟨r, hz⟩ : ∃ r, rows[k]? = some r := ⟨_, List.getElem?_eq_getElem (by rw [HE.out]; omega)⟩
      obtain ⟨A2, c2, hu1, hcp'⟩ := HCP.out k r hz
      obtain ⟨bb, oo, rfl, hbb, hcell⟩ := reads_plain2 HUS.out (by omega) hu1
      have hck := (hM.low.cell (p := ⟨bb, oo + k, none⟩) hbb).trans (hcell k _ hu1)
      have hbd : Below wr.heap.size wr wr.drew := Below.drew (Below.refl _ _)
      have hMd := hM.below hbd
      have hcp := hcp' wr.drew hMd.low
      clear hcp'
      have hownd : wr.drew.ownsRow (g + 1) 49 1 v k us' := hown
      have hrowd := hrows.step (Stp.of_below (P := PG w g h v (.slice none 0 0)) hbd)
      have HTK := Lib.hid (show rows.take (k + 1) = rows.take k ++ [r] by rw [List.take_add_one, hz]; rfl)
      obtain ⟨l, hl⟩ : ∃ l, r.length = l := ⟨_, rfl⟩
      rw [hl] at hck hcp
      have HC := Lib.hid hcp; have HL := Lib.hid hl
      obtain ⟨x0, x1, x2, x3⟩ := hMd.cells
      have hul : us'.length = k := by have := hown.1; omega
      have hgw := hM.gw
      have hszd := hMd.blk.lt
      clear hcp hl hu1 hcell hM hown hrows hz
      go_wp2_with fail
      go_region_law (first
        | (refine step_append_any _ rfl (.tmp 36) (.tmp 39) _ rfl (g + 1) 49 i0 _ 1 24 Tryz.underlying23 hi0 hx0 hx1 hx2 rfl (by omega) v k us' (by simp [Act.eval, Act.put])
            (hown4.alloc _) (w4.heap.size + 1) (some ⟨w4.heap.size, 0, none⟩) 1 1 [.slice A4 l c4] (by simp [Act.eval, Act.put]) (Reads.new w4 (.slice A4 l c4) _) (by intro u hu; rw [List.mem_singleton.1 hu]; rfl) (by unfold maxLen; omega) (by omega) (by have := M4.blk.lt; simp; omega) ?_
           intro v5 w5 hown5 hg5 hat5
           obtain ⟨A5, c5, rfl, _, _, _⟩ := own_slice hown5
           have M5 := M4.row hg5 (fun q hq => (hown4.lt q hq).1)
           obtain ⟨t0, t1, t2, t3⟩ := M5.cells
           have tz := M5.blk.frozen 0)
        | (go_simp; go_at_call 18; refine HC.out.mono ?_
           rintro e w4 ⟨v4, rfl, hv4, hb4⟩
           have M4 := hMd.below hb4
           have hown4 := own_below hownd hb4
           obtain ⟨A4, c4, rfl, _, _, _⟩ := own_slice hv4
           obtain ⟨s0, s1, s2, s3⟩ := M4.cells
           obtain ⟨s4, s5, s6, s7⟩ := (M4.below ((Below.refl _ _).alloc (Nat.le_refl _) (.cells #[.slice A4 l c4] 49))).cells
           show _))
      all_goals
        have s1' := (OffS.of_own hv4 (P := PG w g h v (.slice none 0 0)) (fun q hq => .inl (PG_own hMd hownd (own_nil wr.drew 0 5 1) (Nat.le_refl _) q hq)))
        have r4 := AllS.snoc (hrowd.step (Stp.of_below (P := PG w g h v (.slice none 0 0)) hb4)) (by rw [hul, List.length_take]; rw [HE.out]; omega) (show OffS w4 (PG w g h v (.slice none 0 0)) 3 _ r.length (vs r) by rw [HL.out]; exact s1')
        have r6 := (r4.step (stp_a hg5 hat5)).step (stp_g (g := g) 0 (.slice A5 (k + 1) c5))
        rw [← HTK.out] at r6
        have M6 := M5.put0 (.slice A5 (k + 1) c5)
        have o6 := own_boxG hown5 (show g < g + 1 by omega) 0 (.slice A5 (k + 1) c5)
        have HR6 := Lib.hid r6; have HM6 := Lib.hid M6; have HO6 := Lib.hid o6
        clear r6 M6 o6 r4 s1' M5 hown5 hg5 hat5 t0 t1 t2 t3 tz M4 hown4 hv4 hb4 s0 s1 s2 s3 s4 s5 s6 s7 x0 x1 x2 x3 hMd hownd hrowd
        go_wp2_with fail
        go_round
        case rel => exact ⟨k + 1, by omega, by go_num, _, _, HM6.out, HO6.out, HR6.out⟩
        case measure => simp [intOf]; omega
    · obtain rfl : k = n := by omega
      rw [List.take_of_length_le (by rw [HE.out]; exact Nat.le_refl _)] at hrows
      obtain ⟨R, cR, rfl, _, _, _⟩ := own_slice hown
      have g1 := hM.gw; have g2 := hM.dg; have g3 := hM.hg
      have hpl : ∀ q, PG w g h (.slice none 0 0) (.slice none 0 0) q → q < g + 1 := fun q hq => by
        rcases hq with e | e | e | e | e
        · omega
        · omega
        · omega
        · cases e
        · cases e
      have HR0 := Lib.hid (OffG.of_own hown (P := PG w g h (.slice none 0 0) (.slice none 0 0)) (fun q hq => .inl (hpl q hq)))
      have HA0 := Lib.hid (hrows.step (Stp.below' (P' := PG w g h (.slice none 0 0) (.slice none 0 0)) (Below.refl _ _) (fun q hq => by
        rcases hq with e | e | e | e | e
        · exact .inl (.inl e)
        · exact .inl (.inr (.inl e))
        · exact .inl (.inr (.inr (.inl e)))
        · cases e
        · cases e)))
      have HM := Lib.hid hM
      clear hM hown hrows hlt HCP HUS hpl
      go_wp2_with fail
      go_loopw [10, 11, 12, 13, 14, 46] (fun _ _ _ _ _ i wq => ∃ j : Nat, j ≤ m ∧ i = .int .i64 (j : Int) ∧ ∃ v2 v3 vv, L2 w wq g d h k Z R cR v2 v3 us' vv rows (hdsG sl rows j) (chsG sl rows j)) (fun _ _ _ _ _ i _ => m - (intOf i).toNat)
      case atStart => exact ⟨0, Nat.zero_le _, rfl, _, _, [], HM.out, by simpa [hdsG, hcs] using own_nil _ _ _ _, by simpa [chsG] using own_nil _ _ _ _, .inl rfl, by simpa [chsG] using AllS.nil, HR0.out, HA0.out⟩
      case round =>
        clear HM HR0 HA0
        obtain ⟨j, hj, rfl, v2, v3, vv, L⟩ := hrel
        by_cases hlt2 : j < m
        · obtain ⟨⟨kd, nu, wy⟩, hsc⟩ : ∃ q, sl[j]? = some q := ⟨_, List.getElem?_eq_getElem (by rw [HSL.out]; exact hlt2)⟩
          obtain ⟨sb, so, hS', hsb, t0, t1, t2⟩ := (HSR.out.below L.mkg.low).col hsc
          subst hS'
          go_upto_region 13 with fail
          have hb1 : Below wr.heap.size wr (wr.alloc (.cells #[.int .i64 kd, .bool nu, .int .i64 wy] 53)) := (Below.refl _ _).alloc (Nat.le_refl _) _
          have L1 := L.below hb1
          have K1 := Blk.new wr 53 #[.int .i64 kd, .bool nu, .int .i64 wy]
          obtain ⟨W1, hW1⟩ : ∃ W1, wr.alloc (.cells #[.int .i64 kd, .bool nu, .int .i64 wy] 53) = W1 := ⟨_, rfl⟩
          rw [hW1] at L1 K1 ⊢
          have hcin := HCI.out _ (List.mem_of_getElem? hsc)
          have htx := col_text HAL.out hsc
          have hvi := col_in HIN.out j
          have hvl : (colV rows j).length = k := by rw [colV_length, HE.out]
          have hcb := cpB_small (kd := kd) (way := wy) (by omega) (fun v hv => (hvi v hv).2) htx
          have hchj : chG sl rows j = cpB kd wy (colV rows j) := by unfold chG; rw [List.getD_eq_getElem?_getD, hsc]; rfl
          have hhdj : hdG sl rows j = (zoV (colV rows j), shaN (cpB kd wy (colV rows j))) := by unfold hdG; rw [hchj]
          have hs1 := hdsG_succ sl rows j
          have hk1 := chsG_succ sl rows j
          rw [hhdj] at hs1
          rw [hchj] at hk1
          have H1 := Lib.hid hs1; have H2 := Lib.hid hk1
          have HLH := Lib.hid (hdsG_length sl rows j); have HLK := Lib.hid (chsG_length sl rows j)
          obtain ⟨hs, hhs⟩ : ∃ q, hdsG sl rows j = q := ⟨_, rfl⟩
          obtain ⟨ks, hks⟩ : ∃ q, chsG sl rows j = q := ⟨_, rfl⟩
          rw [hhs] at L1 H1 HLH
          rw [hks] at L1 H2 HLK
          have hco := HCO.out W1 L1.mkg.low j hlt2
          obtain ⟨V, hV⟩ : ∃ V, colV rows j = V := ⟨_, rfl⟩
          rw [hV] at hco htx hvi hvl hcb H1 H2
          have HCOL := Lib.hid hco
          have HL1 := Lib.hid L1; have HK1 := Lib.hid K1; have HTX := Lib.hid htx; have HVI := Lib.hid hvi; have HCB := Lib.hid hcb; have HCN := Lib.hid hcin; have HVL := Lib.hid hvl
          clear L L1 K1 hW1 hb1 hsc hcin htx hvi hvl hcb hchj hhdj hs1 hk1 hhs hks hco hV t0 t1 t2
          go_wp2_with fail
          refine HCOL.out.mono ?_
          rintro e W2 ⟨v5, rfl, ho5, hb2⟩
          obtain ⟨A5, c5, rfl, _, _, r5⟩ := own_slice ho5
          have HL2 := Lib.hid (HL1.out.below hb2)
          have HL1s := Lib.hid HL1.out.pg
          have K2 := HK1.out.below hb2 HK1.out.lt
          obtain ⟨x0, x1, x2⟩ := blk3 K2
          have HO5 := Lib.hid ho5
          have HPU := Lib.hid (HP'.out A5 k c5 kd wy V W2 r5 (by omega) HVI.out HTX.out HCN.out.1 HCN.out.2)
          clear ho5 hb2 r5 K2 HL1 HK1 HCOL
          go_wp2_with fail
          refine HPU.out.mono ?_
          rintro e W3 ⟨v6, rfl, ho6, hb3⟩
          obtain ⟨A6, c6, rfl, hc6, _, r6⟩ := own_slice ho6
          have L3 := HL2.out.below hb3
          have S5 := (OffG.of_own HO5.out (P := PG w g h v2 v3) (fun q hq => .inl (HL1s.out q hq))).step (Stp.of_below hb3)
          have S6 := OffG.of_own ho6 (P := PG w g h v2 v3) (fun q hq => .inl (HL2.out.pg q hq))
          obtain ⟨b, hbq⟩ : ∃ b, cpB kd wy V = b := ⟨_, rfl⟩
          obtain ⟨E, hE⟩ : ∃ E, cpE kd wy V = E := ⟨_, rfl⟩
          rw [hbq] at H1 H2 HCB S6 r6 hc6 ⊢
          rw [hE]
          obtain ⟨n6, hn6⟩ : ∃ n6, b.length = n6 := ⟨_, rfl⟩
          rw [hn6] at S6 r6 hc6 HCB ⊢
          have HN6 := Lib.hid hn6
          have HL3 := Lib.hid L3; have HS5 := Lib.hid S5; have HS6 := Lib.hid S6; have HC6 := Lib.hid hc6
          obtain ⟨x0, x1, x2, x3⟩ := L3.mkg.cells
          have hgl := L3.mkg.blk.lt
          have hlk := HLK.out
          clear L3 S5 S6 ho6 hb3 hbq hE hn6 r6 hc6 HPU HL2 HO5 HL1s
          go_wp2_with (at_builtin; refine wpList_append_any _ rfl (.tmp 67) (.tmp 69) _ rfl (g + 1) 66 i1 _ 1 24 Tryz.underlying61 hi1 hy0 hy1 hy2 rfl (by omega) v3 ks.length vv rfl (HL3.out.own3.alloc _) (W3.heap.size + 1) (some ⟨W3.heap.size, 0, none⟩) 1 1 [.slice A6 n6 c6] rfl (Reads.new W3 (.slice A6 n6 c6) _) (by intro u hu; rw [List.mem_singleton.1 hu]; rfl) (by unfold maxLen; omega) (by omega) (by simp; omega) ?_; intro v7 W4 hown7 hg7 hat7; obtain ⟨A7, c7, rfl, _, _, _⟩ := own_slice hown7; have M4 := HL3.out.mkg.row hg7 HL3.out.lt3; obtain ⟨z0, z1, z2, z3⟩ := M4.cells; have tz := M4.blk.frozen 3)
          have hu6 : OffS W3 (PG w g h v2 v3) 1 (.slice A6 n6 c6) b.length (bs b) := ⟨A6, c6, by rw [HN6.out], by rw [HN6.out]; exact HC6.out, by rw [HN6.out]; exact HS6.out⟩
          have L5 := HL3.out.chunk hu6 hown7 hg7 hat7
          have S5 := (HS5.out.step (stp_b (w := w) (g := g) (h := h) (va := v2) hg7 hat7)).step (stp_g (w := w) (W := W4) (g := g) (h := h) (va := v2) (vb := .slice A7 (ks.length + 1) c7) 3 (.slice A7 (ks.length + 1) c7))
          have S6 := (HS6.out.step (stp_b (w := w) (g := g) (h := h) (va := v2) hg7 hat7)).step (stp_g (w := w) (W := W4) (g := g) (h := h) (va := v2) (vb := .slice A7 (ks.length + 1) c7) 3 (.slice A7 (ks.length + 1) c7))
          rw [hlk] at L5 S5 S6
          obtain ⟨W5, hW5⟩ : ∃ W5, W4.setCell ⟨g, 3, none⟩ (.slice A7 (j + 1) c7) = W5 := ⟨_, rfl⟩
          rw [hW5] at L5 S5 S6 ⊢
          have hb5 : Below W5.heap.size W5 W5.drew := Below.drew (Below.refl _ _)
          have L6 := L5.below hb5
          have R5 := (S5.step (Stp.of_below hb5)).1
          have R6 := (S6.step (Stp.of_below hb5)).1
          have hzo := zoneOf_any (c := c5) R5 (by omega)
          have hsu := fun (W : World) (hb : Below W5.drew.heap.size W5.drew W) => sumS_any A6 n6 c6 b W ((R6.below hb).more hb.size) HCB.out.2 HC6.out (by have := HCB.out.1; omega) (HT.out.next (L6.mkg.low.trans (hb.mono L6.mkg.low.size)))
          obtain ⟨⟨q0, q1, ⟨qa0, qa1, qat⟩, ⟨qb0, qb1, qbt⟩⟩, hq⟩ : ∃ z, zoV V = z := ⟨_, rfl⟩
          rw [hq, show zW (q0, q1, (qa0, qa1, qat), (qb0, qb1, qbt)) = .agg #[.int .i64 q0, .bool q1, .int .i64 qa0, .int .i64 qa1, .string ⟨qat.toArray⟩, .int .i64 qb0, .int .i64 qb1, .string ⟨qbt.toArray⟩] from rfl] at hzo
          rw [hq] at H1
          have hD32 : (bs (shaN b)).length = 32 := by rw [bs_length, shaN_length]
          have hDc : ∀ u ∈ bs (shaN b), u.oneCell' = true := bs_one _
          have hsu : ∀ (W : World), Below W5.drew.heap.size W5.drew W → Calls Tryz.prog 22 #[.slice A6 n6 c6] W fun e w' => e = .returned (.agg (bs (shaN b)).toArray) ∧ Below W.heap.size W w' := hsu
          obtain ⟨D, hD⟩ : ∃ D, bs (shaN b) = D := ⟨_, rfl⟩
          rw [hD] at hD32 hDc hsu
          have hfold := fold_set 8 D 0 #[.int .i64 q0, .bool q1, .int .i64 qa0, .int .i64 qa1, .string ⟨qat.toArray⟩, .int .i64 qb0, .int .i64 qb1, .string ⟨qbt.toArray⟩, .int .u8 0, .int .u8 0, .int .u8 0, .int .u8 0, .int .u8 0, .int .u8 0, .int .u8 0, .int .u8 0, .int .u8 0, .int .u8 0, .int .u8 0, .int .u8 0, .int .u8 0, .int .u8 0, .int .u8 0, .int .u8 0, .int .u8 0, .int .u8 0, .int .u8 0, .int .u8 0, .int .u8 0, .int .u8 0, .int .u8 0, .int .u8 0, .int .u8 0, .int .u8 0, .int .u8 0, .int .u8 0, .int .u8 0, .int .u8 0, .int .u8 0, .int .u8 0] (by rw [hD32]; rfl)
          rw [show (#[.int .i64 q0, .bool q1, .int .i64 qa0, .int .i64 qa1, .string ⟨qat.toArray⟩, .int .i64 qb0, .int .i64 qb1, .string ⟨qbt.toArray⟩, .int .u8 0, .int .u8 0, .int .u8 0, .int .u8 0, .int .u8 0, .int .u8 0, .int .u8 0, .int .u8 0, .int .u8 0, .int .u8 0, .int .u8 0, .int .u8 0, .int .u8 0, .int .u8 0, .int .u8 0, .int .u8 0, .int .u8 0, .int .u8 0, .int .u8 0, .int .u8 0, .int .u8 0, .int .u8 0, .int .u8 0, .int .u8 0, .int .u8 0, .int .u8 0, .int .u8 0, .int .u8 0, .int .u8 0, .int .u8 0, .int .u8 0, .int .u8 0] : Array Value).toList.take (8 + 0) = zc (q0, q1, (qa0, qa1, qat), (qb0, qb1, qbt)) from rfl] at hfold
          obtain ⟨F, hF⟩ : ∃ F, (zc (q0, q1, (qa0, qa1, qat), (qb0, qb1, qbt)) ++ D).toArray = F := ⟨_, rfl⟩
          rw [hF] at hfold
          have hFs : F.size = 40 := by rw [← hF]; simp [zc, vc, hD32]
          have hfold2 := fold_whole #[.int .i64 0, .bool false, .int .i64 0, .int .i64 0, .string ⟨#[]⟩, .int .i64 0, .int .i64 0, .string ⟨#[]⟩, .int .u8 0, .int .u8 0, .int .u8 0, .int .u8 0, .int .u8 0, .int .u8 0, .int .u8 0, .int .u8 0, .int .u8 0, .int .u8 0, .int .u8 0, .int .u8 0, .int .u8 0, .int .u8 0, .int .u8 0, .int .u8 0, .int .u8 0, .int .u8 0, .int .u8 0, .int .u8 0, .int .u8 0, .int .u8 0, .int .u8 0, .int .u8 0, .int .u8 0, .int .u8 0, .int .u8 0, .int .u8 0, .int .u8 0, .int .u8 0, .int .u8 0, .int .u8 0] F (by rw [hFs]; rfl)
          rw [hFs] at hfold2
          have HF := Lib.hid hF
          have HFL := Lib.hid (show (zc (q0, q1, (qa0, qa1, qat), (qb0, qb1, qbt)) ++ D).length = 40 by rw [List.length_append, hD32]; rfl)
          have HFC : Hid (∀ u ∈ zc (q0, q1, (qa0, qa1, qat), (qb0, qb1, qbt)) ++ D, u.oneCell' = true) := Lib.hid fun u hu => by
            rcases List.mem_append.1 hu with hu | hu
            · simp [zc, vc] at hu
              rcases hu with rfl | rfl | rfl | rfl | rfl | rfl | rfl | rfl <;> rfl
            · exact hDc u hu
          have HDD := Lib.hid hD
          clear hF hDc hD
          have HZO := Lib.hid hzo; have HSU := Lib.hid hsu
          obtain ⟨x0, x1, x2, x3⟩ := L6.mkg.cells
          have hgl6 := L6.mkg.blk.lt
          have hlh := HLH.out
          clear hu6 hown7 hg7 hat7 M4 z0 z1 z2 z3 tz S5 S6 hW5 hb5 R5 R6 hzo hsu hq L5 HL3 HS5 HS6 hgl
          go_region_law (first
            | (refine step_append_any _ rfl (.tmp 77) (.tmp 83) _ rfl (g + 1) 57 i2 _ 40 112 Tryz.underlying40 hi2 hz0 hz1 hz2 rfl (by omega) v2 hs.length (hcs hs) (by simp [Act.eval, Act.put]) (L8.own2.alloc _) (W8.heap.size + 1) (some ⟨W8.heap.size, 0, none⟩) 1 1 (zc (q0, q1, (qa0, qa1, qat), (qb0, qb1, qbt)) ++ D) (by simp [Act.eval, Act.put]) (reads_whole W8 _ F _ 40 HF.out HFL.out) HFC.out (by unfold maxLen; omega) (by omega) (by have := L8.mkg.blk.lt; simp; omega) ?_
               intro v9 W9 hown9 hg9 hat9
               obtain ⟨A9, c9, rfl, _, _, _⟩ := own_slice hown9
               have M9 := L8.mkg.row hg9 L8.lt2
               obtain ⟨t0, t1, t2, t3⟩ := M9.cells
               have tz := M9.blk.frozen 2)
            | (go_simp; go_at_call 21; refine HZO.out.mono ?_
               rintro e W7 ⟨rfl, hb7⟩
               have L7 := L6.below hb7
               obtain ⟨s0, s1, s2, s3⟩ := L7.mkg.cells
               show _)
            | (go_simp; go_at_call 22; refine (HSU.out _ hb7).mono ?_
               rintro e W8 ⟨rfl, hb8⟩
               have L8 := L7.below hb8
               obtain ⟨s4, s5, s6, s7⟩ := L8.mkg.cells
               obtain ⟨y0, y1, y2, y3⟩ := (L8.below ((Below.refl _ _).alloc (Nat.le_refl _) (.cells F 57))).mkg.cells
               show _))
          all_goals
            rw [← HDD.out] at hown9
            have L9 := L8.head (x := ((q0, q1, (qa0, qa1, qat), (qb0, qb1, qbt)), shaN b)) hown9 hg9 hat9
            rw [hlh, ← H1.out, ← H2.out] at L9
            have HL9 := Lib.hid L9
            clear L9 hown9 hg9 hat9 M9 t0 t1 t2 t3 tz L8 L7 L6 hb7 hb8 s0 s1 s2 s3 s4 s5 s6 s7 y0 y1 y2 y3 x0 x1 x2 x3 hfold hfold2
            go_wp2_with fail
            go_round
            case rel => exact ⟨j + 1, by omega, by go_num, _, _, _, HL9.out⟩
            case measure => simp [intOf]; omega
        · obtain rfl : j = m := by omega
          have HLL := Lib.hid L
          clear L
          go_wp2_with fail
          go_ret2
          refine ⟨g, d, h, rfl, by rw [HSL.out]; exact HLL.out.done HE.out, ?_, HLL.out.mkg.low⟩
          have hst := HLL.out.mkg.set
          rw [← HZZ.out] at hst
          rw [HE.out]
          exact hst
theorem newG_any (HP : PutG) (ht : ShTab w) (hS : Reads w w.heap.size 3 S m (cls sl)) (hci : ∀ c ∈ sl, In64 c.1 ∧ In64 c.2.2) (hm : m ≤ 65536) (hV : VV w A rows) (hrn : rows.length = n) (hn : n ≤ 300) (hin : ∀ r ∈ rows, ∀ v ∈ r, In64 v.1 ∧ In64 v.2.1) (hbig : ∀ r ∈ rows, r.length ≤ 65536) :
    Calls Tryz.prog 6 #[.slice S m cs, .slice A n c] w fun e w' => if newE sl rows = 0 then NewG w sl rows e w' else e = .returned (.tuple #[.pointer none, .int .i64 (newE sl rows)]) ∧ Below w.heap.size w w' := by
  by_cases h : newE sl rows = 0
  · simp only [if_pos h]
    exact new_yes HP ht hS hci hm hV hrn hn hin hbig h
  · simp only [if_neg h]
    exact new_no hS (by omega) hV hrn (by omega) (fun r hr => by have := hbig r hr; omega) h
end
end Go.Proofs.YtpgdlmnhomnblaaGreatDoor
