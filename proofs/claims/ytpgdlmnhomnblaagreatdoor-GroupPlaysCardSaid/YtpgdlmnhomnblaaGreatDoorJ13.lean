import Derived.Test.YtpgdlmnhomnblaaGreatDoorJ5
import Derived.Test.YtpgdlmnhomnblaaGreatDoorJ10
import Derived.Test.YtpgdlmnhomnblaaGreatDoorJ12
import Derived.Test.YtpgdlmnhomnblaaGreatDoorJ9
import Derived.Test.YtpgdlmnhomnblaaGreatDoorJ1
namespace Go.Proofs.YtpgdlmnhomnblaaGreatDoor
open Go.RowKit
set_option linter.unusedVariables false
set_option linter.unusedSimpArgs false
set_option maxRecDepth 100000
def NewZ (w : World) (l : List Int) (e : Ending) (w' : World) : Prop := ∃ v, e = .returned v ∧ w'.ownsRow w.heap.size 2 1 v l.length (zs l) ∧ Below w.heap.size w w'
theorem NewZ.opened {w w' : World} {l : List Int} {e : Ending} (h : NewZ w l e w') : ∃ A c, e = .returned (.slice A l.length c) ∧ l.length ≤ c ∧ c ≤ maxLen ∧ Reads w' w'.heap.size 1 A l.length (zs l) ∧ Below w.heap.size w w' := by
  obtain ⟨v, rfl, hown, hb⟩ := h
  obtain ⟨A, c, rfl, hc, hm, hr⟩ := own_slice hown
  exact ⟨A, c, rfl, hc, hm, hr, hb⟩
theorem zs_some {l : List Int} {k : Nat} {z : Int} (h : l[k]? = some z) : (zs l)[k]? = some (.int .i64 z) := by unfold zs; rw [List.getElem?_map, h]; rfl
set_option maxHeartbeats 1000000 in
theorem steps_any (A : Option Addr) (n c : Nat) (l : List Int) (w : World) (hr : Reads w w.heap.size 1 A n (zs l)) (hn : n ≤ 17592186044416) :
    Calls Tryz.prog 119 #[.slice A n c] w (NewZ w (stp 0 l)) := by
  have e1 : l.length = n := by have := hr.1; rw [zs_length] at this; omega
  have hXz : (zs (stp 0 l)).length = n := by rw [zs_length, stp_length, e1]
  have hmk := fun W => run_make_i64 n n (Nat.le_refl _) (by omega) W
  rw [← fillW_zero (zs (stp 0 l)) (.int .i64 0) n hXz] at hmk
  have HX := Lib.hid hXz; have E1 := Lib.hid e1
  clear hXz e1
  have hF0 := Blk.new w 2 (fillW (zs (stp 0 l)) (.int .i64 0) 0)
  have hb0 : Below w.heap.size w (w.alloc (.cells (fillW (zs (stp 0 l)) (.int .i64 0) 0) 2)) := (Below.refl _ _).alloc (Nat.le_refl _) _
  go_enter Tryz.func119, Tryz.ntmps119
  go_wp2_with fail
  clear hmk
  go_loopw [4, 12] (fun s4 s12 wr => ∃ k : Nat, k ≤ n ∧ s12 = .int .i64 (k : Int) ∧ s4 = .int .i64 (ahd 0 l k) ∧ Blk wr w.heap.size 2 (fillW (zs (stp 0 l)) (.int .i64 0) k) ∧ Below w.heap.size w wr) (fun _ i _ => n - (intOf i).toNat)
  case atStart => exact ⟨0, by omega, rfl, rfl, hF0, hb0⟩
  case round =>
    clear hF0 hb0
    obtain ⟨k, hk, rfl, rfl, hF, hb⟩ := hrel
    by_cases hlt : k < n
    · obtain ⟨ad, u, rfl, _, hu, hc0⟩ := (hr.below hb).at_ hlt
      obtain ⟨z, hz, rfl⟩ := zs_at hu
      have hc := hF.cell k
      rw [fillW_old _ _ k (by rw [HX.out]; omega)] at hc
      have hf := hF.frozen k
      have HZ := Lib.hid hz
      clear hu hz
      generalize ha : ahd 0 l k = a
      have HA := Lib.hid ha
      clear ha
      go_wp2_with fail
      go_round
      case rel =>
        refine ⟨k + 1, by omega, by go_num, by rw [ahd_succ HZ.out], ?_, hb.setCell (Nat.le_refl _) _⟩
        have h1 := hF.set_ k (.int .i64 (wrap64 (z - a)))
        rw [fillW_next _ _ k _ (zs_some (by rw [← HA.out]; exact stp_at l 0 k z HZ.out))] at h1
        exact h1
      case measure => simp [intOf]; omega
    · obtain rfl : k = n := by omega
      go_wp2_with fail
      go_ret
      rw [fillW_all _ _ k HX.out] at hF
      have := own_whole (B := w.heap.size) hF (Nat.le_refl _) HX.out (by unfold maxLen; omega)
      refine ⟨_, rfl, ?_, hb⟩
      rw [stp_length, E1.out]
      exact this
theorem us_some {l : List Int} {k : Nat} {z : Int} (h : l[k]? = some z) : (us (l.map zg))[k]? = some (.int .u64 (zg z : Int)) := by unfold us; rw [List.getElem?_map, List.getElem?_map, h]; rfl
set_option maxHeartbeats 1000000 in
theorem zigs_any (A : Option Addr) (n c : Nat) (l : List Int) (w : World) (hr : Reads w w.heap.size 1 A n (zs l)) (hl : ∀ z ∈ l, In64 z) (hn : n ≤ 17592186044416) :
    Calls Tryz.prog 120 #[.slice A n c] w (New64 w (us (l.map zg)) n) := by
  have e1 : l.length = n := by have := hr.1; rw [zs_length] at this; omega
  have hXz : (us (l.map zg)).length = n := by rw [us_length, List.length_map, e1]
  have hmk := fun W => run_make_u64 n n (Nat.le_refl _) (by omega) W
  rw [← fillW_zero (us (l.map zg)) (.int .u64 0) n hXz] at hmk
  have HX := Lib.hid hXz; have HL := Lib.hid hl
  clear hXz e1 hl
  have hF0 := Blk.new w 131 (fillW (us (l.map zg)) (.int .u64 0) 0)
  have hb0 : Below w.heap.size w (w.alloc (.cells (fillW (us (l.map zg)) (.int .u64 0) 0) 131)) := (Below.refl _ _).alloc (Nat.le_refl _) _
  go_enter Tryz.func120, Tryz.ntmps120
  go_wp2_with fail
  clear hmk
  go_loopw [11] (fun s11 wr => ∃ k : Nat, k ≤ n ∧ s11 = .int .i64 (k : Int) ∧ Blk wr w.heap.size 131 (fillW (us (l.map zg)) (.int .u64 0) k) ∧ Below w.heap.size w wr) (fun i _ => n - (intOf i).toNat)
  case atStart => exact ⟨0, by omega, rfl, hF0, hb0⟩
  case round =>
    clear hF0 hb0
    obtain ⟨k, hk, rfl, hF, hb⟩ := hrel
    by_cases hlt : k < n
    · obtain ⟨ad, u, rfl, _, hu, hc0⟩ := (hr.below hb).at_ hlt
      obtain ⟨z, hz, rfl⟩ := zs_at hu
      have hz64 := HL.out z (List.mem_of_getElem? hz)
      have hc := hF.cell k
      rw [fillW_old _ _ k (by rw [HX.out]; omega)] at hc
      have hf := hF.frozen k
      have HZ := Lib.hid hz
      clear hu hz
      go_wp2_with fail
      refine (zigN_any z wr hz64).mono ?_
      rintro e w' ⟨rfl, rfl⟩
      go_wp2_with fail
      go_round
      case rel =>
        refine ⟨k + 1, by omega, by go_num, ?_, hb.setCell (Nat.le_refl _) _⟩
        have h1 := hF.set_ k (.int .u64 (zg z : Int))
        rw [fillW_next _ _ k _ (us_some HZ.out)] at h1
        exact h1
      case measure => simp [intOf]; omega
    · obtain rfl : k = n := by omega
      go_wp2_with fail
      go_ret
      rw [fillW_all _ _ k HX.out] at hF
      exact ⟨_, rfl, own_whole (B := w.heap.size) hF (Nat.le_refl _) HX.out (by unfold maxLen; omega), hb⟩
end Go.Proofs.YtpgdlmnhomnblaaGreatDoor
namespace Go.Proofs.YtpgdlmnhomnblaaGreatDoor
open Go.RowKit
set_option linter.unusedVariables false
set_option linter.unusedSimpArgs false
set_option maxRecDepth 100000
theorem run_append_zeros_nil {P : Program} (w : World) (t u ty e : TypeId) (i : TypeInfo) (z : Value) (k : IntKind) (ht : P.underlying t = some (.slice e)) (hu : P.underlying u = some (.int k)) (hi : P.info? e = some i) (hz : i.zero = some z)
    (n : Nat) (h0 : 0 < n) (hsz : 0 < i.size) (h63 : (n : Int) ≤ 9223372036854775807) (h48 : n * i.bytes ≤ 281474976710656) :
    (Builtin.append_ #[t, u] ty #[.slice none 0 0, .int .i64 (n : Int)]).run P w =
      .ok (.slice (some ⟨w.heap.size, 0, none⟩) n (grownCap w n 0 e)) (w.drew.alloc (.cells (Builtin.zeroCells z.cells n ++ Builtin.zeroCells z.cells (grownCap w n 0 e - n)) e)) := by
  have hn : n ≠ 0 := by omega
  have hs0 : i.size ≠ 0 := by omega
  have h63' : ¬ (9223372036854775807 < (n : Int)) := by omega
  have h48' : ¬ (281474976710656 < Builtin.nextslicecap n 0 * i.bytes) := by rw [nextslicecap_zero h0]; omega
  have hw : IntKind.i64.wrap (n : Int) = (n : Int) := IntWalk.i64_in _ (by omega)
  have hneg : ¬ ((n : Int) < 0) := by omega
  have hle : ¬ ((n : Int) ≤ 0) := by omega
  have hmx : ¬ (9223372036854775807 < max (n : Int) 0) := by omega
  have h48i : ¬ (281474976710656 < (n : Int) * (i.bytes : Int)) := by rw [← Int.natCast_mul]; omega
  simp [Builtin.append_, run_underlying ht, run_underlying hu, sizeOf, typeInfo, zeroValue, hi, hz, Builtin.lenOf, hn, hs0, h63', h48', hw, hneg, h48i, asInt, asIntOf, hle, hmx, Question.forced, run_firstCells_none, newRow, grownCap]
  intro h
  rcases Nat.mul_eq_zero.1 h with h | h <;> omega
theorem wpList_append_zeros {P : Program} (w : World) {ops : Array Oper} {rest : List Oper} {o : Oper} {a : Act} {Q : Exit → Act → World → Prop} (hgd : o.guard = none) (s x : Operand) (t u : TypeId)
    (ho : o.op = .call { callee := .builtin .append, args := #[s, x], argTypes := #[t, u] }) (e : TypeId) (i : TypeInfo) (z : Value) (k : IntKind) (ht : P.underlying t = some (.slice e)) (hu : P.underlying u = some (.int k)) (hi : P.info? e = some i) (hz : i.zero = some z)
    (hsz : i.size = 1) (hzs : z.cells.size = 1) (hby : i.bytes = 1) (n : Nat) (h0 : 0 < n) (h48 : n ≤ 140737488355328) (hs : a.eval s = .slice none 0 0) (hx : a.eval x = .int .i64 (n : Int))
    (h : ∀ cap cs, n ≤ cap → cap ≤ maxLen → cs.size = cap → wpList P ops Q rest (a.put o.dst (.slice (some ⟨w.heap.size, 0, none⟩) n cap)) (w.drew.alloc (.cells cs e))) : wpList P ops Q (o :: rest) a w := by
  refine wpList_plain hgd fun _ hK => ?_
  have hr := run_append_zeros_nil (P := P) w t u o.type e i z k ht hu hi hz n h0 (by omega) (by omega) (by rw [hby]; omega)
  unfold Oper.wp execOp
  simp only [ho, resolve, invoke, builtin, Sem.run_bind, Sem.run_pure, Result.andThen_ok, List.map_toArray, List.map_cons, List.map_nil, hs, hx, hr]
  refine hK _ _ (h _ _ (grownCap_ge w n 0 e) (grownCap_le_maxLen w n 0 e (by unfold maxLen; omega)) ?_)
  have := grownCap_ge w n 0 e
  rw [Array.size_append, size_zeroCells, size_zeroCells, hzs]
  omega
theorem grow_nil (n : Nat) (w : World) (hn : n ≤ 140737488355328) :
    Calls Tryz.prog 90 #[.slice none 0 0, .int .i64 (n : Int)] w (New w [] 0) := by
  obtain ⟨i0, hi0, hz0, hz1, hz2⟩ := info_parts info_u8
  rcases Nat.eq_zero_or_pos n with h0 | h0
  · subst h0
    go_enter Tryz.func90, Tryz.ntmps90
    go_wp2_with fail
    go_ret
    exact ⟨_, rfl, own_nil _ _ _ _, Below.refl _ _⟩
  · go_enter Tryz.func90, Tryz.ntmps90
    go_wp2_with (at_builtin
                 refine wpList_append_zeros w rfl (.tmp 20) (.tmp 21) _ _ rfl 5 i0 _ .i64 Tryz.underlying66 Tryz.underlying3 hi0 hz0 hz1 rfl hz2 n h0 hn rfl rfl ?_
                 intro cap cs hcap hcm hcs)
    go_ret
    exact ⟨_, rfl, World.ownsRow_made w.drew _ _ (Nat.le_refl _) hcm (by rw [hcs]; omega), (Drawn.one w 1).below (Below.refl _ _) |>.alloc (Nat.le_refl _) _⟩
end Go.Proofs.YtpgdlmnhomnblaaGreatDoor
namespace Go.Proofs.YtpgdlmnhomnblaaGreatDoor
open Go.RowKit
set_option linter.unusedVariables false
set_option linter.unusedSimpArgs false
def Each (R : Value → List Nat → Prop) : List Value → List (List Nat) → Prop
  | [], [] => True
  | v :: vs, l :: ls => R v l ∧ Each R vs ls
  | _, _ => False
theorem Each.imp {R R' : Value → List Nat → Prop} (h : ∀ v l, R v l → R' v l) : ∀ {vs : List Value} {ls : List (List Nat)}, Each R vs ls → Each R' vs ls := by
  intro vs
  induction vs with
  | nil => intro ls e; cases ls with
    | nil => trivial
    | cons l ls => exact e.elim
  | cons v vs ih => intro ls e; cases ls with
    | nil => exact e.elim
    | cons l ls => exact ⟨h v l e.1, ih e.2⟩
theorem Each.length {R : Value → List Nat → Prop} : ∀ {vs : List Value} {ls : List (List Nat)}, Each R vs ls → vs.length = ls.length := by
  intro vs
  induction vs with
  | nil => intro ls e; cases ls with
    | nil => rfl
    | cons l ls => exact e.elim
  | cons v vs ih => intro ls e; cases ls with
    | nil => exact e.elim
    | cons l ls => simp [ih e.2]
theorem Each.append {R : Value → List Nat → Prop} : ∀ {vs : List Value} {ls : List (List Nat)} {us : List Value} {ms : List (List Nat)}, Each R vs ls → Each R us ms → Each R (vs ++ us) (ls ++ ms) := by
  intro vs
  induction vs with
  | nil => intro ls us ms e f; cases ls with
    | nil => exact f
    | cons l ls => exact e.elim
  | cons v vs ih => intro ls us ms e f; cases ls with
    | nil => exact e.elim
    | cons l ls => exact ⟨e.1, ih e.2 f⟩
theorem Each.at_ {R : Value → List Nat → Prop} : ∀ {vs : List Value} {ls : List (List Nat)}, Each R vs ls → ∀ {i : Nat} {l : List Nat}, ls[i]? = some l → ∃ v, vs[i]? = some v ∧ R v l := by
  intro vs
  induction vs with
  | nil => intro ls e i l h; cases ls with
    | nil => simp at h
    | cons l ls => exact e.elim
  | cons v vs ih => intro ls e i l h; cases ls with
    | nil => exact e.elim
    | cons l' ls =>
      cases i with
      | zero => simp at h; subst h; exact ⟨v, by simp, e.1⟩
      | succ i => simp at h; obtain ⟨u, h1, h2⟩ := ih e.2 h; exact ⟨u, by simpa using h1, h2⟩
theorem Each.cells {R : Value → List Nat → Prop} (h1 : ∀ v l, R v l → v.oneCell' = true) : ∀ {vs : List Value} {ls : List (List Nat)}, Each R vs ls → ∀ u ∈ vs, u.oneCell' = true := by
  intro vs
  induction vs with
  | nil => intro ls e u hu; simp at hu
  | cons v vs ih => intro ls e u hu; cases ls with
    | nil => exact e.elim
    | cons l ls =>
      rcases List.mem_cons.1 hu with rfl | hu
      · exact h1 _ _ e.1
      · exact ih e.2 u hu
theorem Each.range {R : Value → List Nat → Prop} (g : Nat → Value) (f : Nat → List Nat) (n : Nat) (h : ∀ r, r < n → R (g r) (f r)) : Each R ((List.range n).map g) ((List.range n).map f) := by
  induction n with
  | zero => trivial
  | succ n ih =>
    rw [List.range_succ, List.map_append, List.map_append]
    exact (ih fun r hr => h r (by omega)).append ⟨h n (by omega), trivial⟩
end Go.Proofs.YtpgdlmnhomnblaaGreatDoor
namespace Go.Proofs.YtpgdlmnhomnblaaGreatDoor
open Go.RowKit
set_option linter.unusedVariables false
set_option linter.unusedSimpArgs false
set_option maxRecDepth 100000
def Off (w : World) (own : Option Nat) (v : Value) (l : List Nat) : Prop :=
  ∃ A c, v = .slice A l.length c ∧ Reads w w.heap.size 1 A l.length (bs l) ∧ (0 < l.length → ∀ ad, A = some ad → some ad.block ≠ own)
def IsB (w : World) (v : Value) (l : List Nat) : Prop := ∃ A c, v = .slice A l.length c ∧ Reads w w.heap.size 1 A l.length (bs l)
theorem Off.isB {w : World} {own : Option Nat} {v : Value} {l : List Nat} (h : Off w own v l) : IsB w v l := by
  obtain ⟨A, c, e, hr, _⟩ := h
  exact ⟨A, c, e, hr⟩
theorem IsB.off {w : World} {v : Value} {l : List Nat} (h : IsB w v l) (own : Option Nat) (ho : ∀ g, own = some g → w.heap.size ≤ g) : Off w own v l := by
  obtain ⟨A, c, e, hr⟩ := h
  refine ⟨A, c, e, hr, fun hn ad had heq => ?_⟩
  obtain ⟨ad', h1, h2, _⟩ := hr.2 hn
  rw [had] at h1
  injection h1 with h1
  subst h1
  have := ho _ heq.symm
  omega
theorem IsB.one {w : World} {v : Value} {l : List Nat} (h : IsB w v l) : v.oneCell' = true := by
  obtain ⟨A, c, rfl, _⟩ := h; rfl
theorem Off.one {w : World} {own : Option Nat} {v : Value} {l : List Nat} (h : Off w own v l) : v.oneCell' = true := h.isB.one
theorem IsB.next {w w' : World} {v : Value} {l : List Nat} (h : IsB w v l) (hb : Below w.heap.size w w') : IsB w' v l := by
  obtain ⟨A, c, e, hr⟩ := h
  exact ⟨A, c, e, (hr.below hb).more hb.size⟩
theorem Off.next {w w' : World} {own : Option Nat} {v : Value} {l : List Nat} (h : Off w own v l) (hb : Below w.heap.size w w') : Off w' own v l := by
  obtain ⟨A, c, e, hr, ho⟩ := h
  exact ⟨A, c, e, (hr.below hb).more hb.size, ho⟩
theorem Off.grown {w w' : World} {own own' : Option Nat} {v : Value} {l : List Nat} (h : Off w own v l) (hg : w.grownBy w' own) (ho' : own' = own ∨ own' = some w.heap.size) : Off w' own' v l := by
  obtain ⟨A, c, e, hr, ho⟩ := h
  refine ⟨A, c, e, ⟨hr.1, fun hn => ?_⟩, fun hn ad had => ?_⟩
  · obtain ⟨ad, had, hlt, hc⟩ := hr.2 hn
    refine ⟨ad, had, Nat.lt_of_lt_of_le hlt hg.size, fun j u hu => hg.cell (hc j u hu) ?_⟩
    rw [block_of_add]
    exact ho hn ad had
  · rcases ho' with rfl | rfl
    · exact ho hn ad had
    · obtain ⟨ad', had', hlt, _⟩ := hr.2 hn
      rw [had] at had'
      injection had' with had'
      subst had'
      intro h
      injection h with h
      omega
def LL (w : World) (A : Option Addr) (ls : List (List Nat)) : Prop := ∃ vs, Reads w w.heap.size 1 A ls.length vs ∧ Each (IsB w) vs ls
theorem LL.next {w w' : World} {A : Option Addr} {ls : List (List Nat)} (h : LL w A ls) (hb : Below w.heap.size w w') : LL w' A ls := by
  obtain ⟨vs, hr, he⟩ := h
  exact ⟨vs, (hr.below hb).more hb.size, he.imp fun v l hv => hv.next hb⟩
theorem LL.none_ {w : World} : LL w none [] := ⟨[], Reads.none_, trivial⟩
end Go.Proofs.YtpgdlmnhomnblaaGreatDoor
namespace Go.Proofs.YtpgdlmnhomnblaaGreatDoor
open Go.RowKit
set_option linter.unusedVariables false
set_option linter.unusedSimpArgs false
set_option maxRecDepth 100000
theorem LL.at_ {w : World} {A : Option Addr} {ls : List (List Nat)} (h : LL w A ls) {i : Nat} {l : List Nat} (hl : ls[i]? = some l) : ∃ ad u, A = some ad ∧ w.cell? (ad.add i) = some u ∧ IsB w u l := by
  obtain ⟨vs, hr, he⟩ := h
  obtain ⟨u, hu, hc⟩ := he.at_ hl
  obtain ⟨ad, u', e, _, h1, h2⟩ := hr.at_ (k := i) (List.getElem?_eq_some_iff.1 hl).1
  rw [hu] at h1
  injection h1 with h1
  subst h1
  exact ⟨ad, u, e, h2, hc⟩
theorem flat_step {ls : List (List Nat)} {k : Nat} {l : List Nat} (h : ls[k]? = some l) : (ls.take (k + 1)).flatten = (ls.take k).flatten ++ l := by
  rw [List.take_add_one, h]; simp
theorem flat_le (ls : List (List Nat)) (k : Nat) : (ls.take k).flatten.length ≤ ls.flatten.length := by
  have h : ls.flatten = (ls.take k).flatten ++ (ls.drop k).flatten := by rw [← List.flatten_append, List.take_append_drop]
  rw [h, List.length_append]; omega
set_option maxHeartbeats 1000000 in
theorem concat_any (A : Option Addr) (n c : Nat) (ls : List (List Nat)) (w : World) (hL : LL w A ls) (hl : ls.length = n) (hn : n ≤ 140737488355328) (ht : ls.flatten.length ≤ 70368744177664) :
    Calls Tryz.prog 45 #[.slice A n c] w (New w (bs ls.flatten) ls.flatten.length) := by
  obtain ⟨i0, hi0, hz0, hz1, hz2⟩ := info_parts info_u8
  obtain ⟨T, hT⟩ : ∃ T, T = ls.flatten.length := ⟨_, rfl⟩
  have hle := fun k => flat_le ls k
  rw [← hT] at ht hle ⊢
  have HL := Lib.hid hl; have HT := Lib.hid hT
  clear hl hT
  go_enter Tryz.func45, Tryz.ntmps45
  go_wp2_with fail
  go_loop [3, 11] (fun s3 s11 => ∃ k m : Nat, k ≤ n ∧ s11 = .int .i64 (k : Int) ∧ s3 = .int .i64 (m : Int) ∧ Hid (m = (ls.take k).flatten.length)) (fun _ i => n - (intOf i).toNat)
  case atStart => exact ⟨0, 0, Nat.zero_le _, rfl, rfl, Lib.hid rfl⟩
  case round =>
    obtain ⟨k, m, hk, rfl, rfl, hm⟩ := hrel
    have hmT : m ≤ T := by rw [hm.out]; exact hle k
    by_cases hlt : k < n
    · obtain ⟨t, hat⟩ : ∃ t, ls[k]? = some t := ⟨_, List.getElem?_eq_getElem (by rw [HL.out]; exact hlt)⟩
      obtain ⟨ad, u, rfl, hc, A2, c2, rfl, hr2⟩ := hL.at_ hat
      have hm2 := hle (k + 1)
      rw [flat_step hat, List.length_append, ← hm.out] at hm2
      obtain ⟨q, hq⟩ : ∃ q, q = t.length := ⟨_, rfl⟩
      rw [← hq] at hc hm2
      have HS : Hid ((ls.take (k + 1)).flatten.length = m + q) := Lib.hid (by rw [flat_step hat, List.length_append, ← hm.out, hq])
      clear hat hq hr2
      go_wp2_with fail
      go_round
      case rel => exact ⟨k + 1, m + q, by omega, by go_num, by go_num, Lib.hid HS.out.symm⟩
      case measure => simp [intOf]; omega
    · obtain rfl : k = n := by omega
      have hmk : Hid (m = T) := Lib.hid (by rw [hm.out, HT.out, List.take_of_length_le (by rw [HL.out]; omega)])
      clear hm
      have h1 := hmk.out
      subst h1
      go_wp2_with fail
      refine (grow_nil m w (by omega)).mono ?_
      rintro e w1 ⟨v1, rfl, hown1, hb1⟩
      go_wp2_with fail
      go_loopw [6, 27] (fun s6 s27 wr => ∃ j : Nat, j ≤ k ∧ s27 = .int .i64 (j : Int) ∧ wr.ownsRow w.heap.size 5 1 s6 (ls.take j).flatten.length (bs (ls.take j).flatten) ∧ Below w.heap.size w wr) (fun _ i _ => k - (intOf i).toNat)
      case atStart => exact ⟨0, by omega, rfl, hown1, hb1⟩
      case round =>
        clear hown1 hb1
        obtain ⟨j, hj, rfl, hown, hb⟩ := hrel
        have hmj := hle j
        by_cases hlt : j < k
        · obtain ⟨t, hat⟩ : ∃ t, ls[j]? = some t := ⟨_, List.getElem?_eq_getElem (by rw [HL.out]; exact hlt)⟩
          obtain ⟨ad, u, rfl, hc, A2, c2, rfl, hr2⟩ := (hL.next hb).at_ hat
          have hm2 := hle (j + 1)
          rw [flat_step hat, List.length_append] at hm2
          have HS := Lib.hid (flat_step hat)
          clear hat
          go_wp2_with (at_builtin
                       refine wpList_append_any _ rfl (.tmp 31) (.tmp 32) _ rfl w.heap.size 5 i0 _ 1 1 Tryz.underlying66 hi0 hz0 hz1 hz2 rfl (by omega) u6 (ls.take j).flatten.length (bs (ls.take j).flatten) rfl
                         hown wr.heap.size A2 t.length c2 (bs t) rfl hr2 (bs_one _) (by unfold maxLen; omega) (by omega) hb.size ?_
                       intro v3 w3 hown3 hg3 hat3)
          go_round
          case rel =>
            refine ⟨j + 1, by omega, by go_num, ?_, hb.grown hg3 hb.size (fun j hj => (hown.lt j hj).1)⟩
            rw [HS.out, List.length_append, bs_append]
            exact hown3
          case measure => simp [intOf]; omega
        · go_wp2_with fail
          go_ret
          obtain rfl : j = k := by omega
          rw [List.take_of_length_le (by rw [HL.out]; omega), ← HT.out] at hown
          exact ⟨_, rfl, hown, hb⟩
end Go.Proofs.YtpgdlmnhomnblaaGreatDoor
namespace Go.Proofs.YtpgdlmnhomnblaaGreatDoor
open Go.RowKit
set_option linter.unusedVariables false
set_option linter.unusedSimpArgs false
set_option maxRecDepth 100000
theorem IsB.nil_ (w : World) : IsB w (.slice none 0 0) [] := ⟨none, 0, rfl, Reads.none_⟩
theorem three_parts (w : World) (t : TypeId) (v1 v2 v3 : Value) (l1 l2 l3 : List Nat) (h1 : IsB w v1 l1) (h2 : IsB w v2 l2) (h3 : IsB w v3 l3) :
    LL (w.alloc (.cells #[v1, v2, v3] t)) (some ⟨w.heap.size, 0, none⟩) [l1, l2, l3] := by
  have hb : Below w.heap.size w (w.alloc (.cells #[v1, v2, v3] t)) := (Below.refl _ _).alloc (Nat.le_refl _) _
  exact ⟨[v1, v2, v3], reads_blk (Blk.new w t #[v1, v2, v3]) _ 3 _ (by simp) rfl rfl, h1.next hb, h2.next hb, h3.next hb, trivial⟩
end Go.Proofs.YtpgdlmnhomnblaaGreatDoor
namespace Go.Proofs.YtpgdlmnhomnblaaGreatDoor
open Go.RowKit
set_option linter.unusedVariables false
set_option linter.unusedSimpArgs false
set_option maxRecDepth 100000
theorem width_any (A : Option Addr) (n c : Nat) (l : List Nat) (w : World) (hr : Reads w w.heap.size 1 A n (us l)) (hl : ∀ a ∈ l, a < 18446744073709551616) (hn : n ≤ 140737488355328) :
    Calls Tryz.prog 121 #[.slice A n c] w fun e w' => e = .returned (.int .i64 (wd l : Int)) ∧ w = w' := by
  have e1 : l.length = n := by have := hr.1; rw [us_length] at this; omega
  have E1 := Lib.hid e1; clear e1
  have HL := Lib.hid hl; clear hl
  go_enter Tryz.func121, Tryz.ntmps121
  go_wp2_with fail
  go_loop [3, 8] (fun s3 s8 => ∃ k m : Nat, k ≤ n ∧ s8 = .int .i64 (k : Int) ∧ s3 = .int .u64 (m : Int) ∧ Hid (m = orl (l.take k))) (fun _ i => n - (intOf i).toNat)
  case atStart => exact ⟨0, 0, Nat.zero_le _, rfl, rfl, Lib.hid rfl⟩
  case round =>
    obtain ⟨k, m, hk, rfl, rfl, hm⟩ := hrel
    by_cases hlt : k < n
    · obtain ⟨ad, u, rfl, _, hu, hc⟩ := hr.at_ hlt
      obtain ⟨b, hb, rfl⟩ := us_at hu
      have HB := Lib.hid hb
      clear hb hu
      go_wp2_with fail
      go_round
      case rel =>
        refine ⟨k + 1, orl (l.take (k + 1)), by omega, by go_num, ?_, Lib.hid rfl⟩
        have e : l.take (k + 1) = l.take k ++ [b] := by rw [List.take_add_one, HB.out]; rfl
        rw [e, orl_snoc, ← hm.out, u64_or_nat]
        · rw [hm.out]; exact orl_lt _ 64 fun a ha => HL.out a (List.mem_of_mem_take ha)
        · exact HL.out b (List.mem_of_getElem? HB.out)
      case measure => simp [intOf]; omega
    · obtain rfl : k = n := by omega
      have hmm : m < 18446744073709551616 := by rw [hm.out]; exact orl_lt _ 64 fun a ha => HL.out a (List.mem_of_mem_take ha)
      go_wp2_with (go_at_call 171; refine (len64_any m _ hmm).mono ?_; rintro e w' ⟨rfl, rfl⟩)
      go_ret
      refine ⟨ret_of (congrArg (Value.int .i64) ?_), rfl⟩
      rw [hm.out, blen_orl, List.take_of_length_le (by rw [E1.out]; omega)]
def szI (n w : Int) : Int := if 0 ≤ n ∧ n ≤ 65536 ∧ 0 ≤ w ∧ w ≤ 64 then (sz n.toNat w.toNat : Int) else -1
theorem sz_small (n w : Nat) (hn : n ≤ 65536) (hw : w ≤ 64) : n * w ≤ 4194304 := (Nat.mul_le_mul hn hw)
theorem size_any (n w : Int) (W : World) (hn : -9223372036854775808 ≤ n ∧ n ≤ 9223372036854775807) (hw : -9223372036854775808 ≤ w ∧ w ≤ 9223372036854775807) :
    Calls Tryz.prog 172 #[.int .i64 n, .int .i64 w] W fun e w' => e = .returned (.int .i64 (szI n w)) ∧ W = w' := by
  by_cases h : 0 ≤ n ∧ n ≤ 65536 ∧ 0 ≤ w ∧ w ≤ 64
  · have hz : szI n w = (sz n.toNat w.toNat : Int) := by unfold szI; rw [if_pos h]
    have HZ := Lib.hid hz; clear hz
    obtain ⟨h1, h2, h3, h4⟩ := h
    obtain ⟨n, rfl⟩ := Int.eq_ofNat_of_zero_le h1
    obtain ⟨w, rfl⟩ := Int.eq_ofNat_of_zero_le h3
    have hs := sz_small n w (by omega) (by omega)
    have hs2 : (n : Int) * (w : Int) ≤ 4194304 := by rw [← Int.natCast_mul]; omega
    have hs3 : 0 ≤ (n : Int) * (w : Int) := by rw [← Int.natCast_mul]; omega
    go_enter Tryz.func172, Tryz.ntmps172
    go_wp2_with fail
    go_ret
    refine ⟨ret_of (congrArg (Value.int .i64) ?_), rfl⟩
    rw [HZ.out]
    unfold sz
    simp
    omega
  · have hz : szI n w = -1 := by unfold szI; rw [if_neg h]
    have HZ := Lib.hid hz; clear hz
    by_cases h1 : n < 0
    · clear h
      go_enter Tryz.func172, Tryz.ntmps172
      go_wp2_with fail
      go_ret
      exact ⟨ret_of (congrArg (Value.int .i64) HZ.out.symm), rfl⟩
    · by_cases h2 : 65536 < n
      · clear h
        go_enter Tryz.func172, Tryz.ntmps172
        go_wp2_with fail
        go_ret
        exact ⟨ret_of (congrArg (Value.int .i64) HZ.out.symm), rfl⟩
      · by_cases h3 : w < 0
        · clear h
          go_enter Tryz.func172, Tryz.ntmps172
          go_wp2_with fail
          go_ret
          exact ⟨ret_of (congrArg (Value.int .i64) HZ.out.symm), rfl⟩
        · have h4 : 64 < w := by omega
          clear h
          go_enter Tryz.func172, Tryz.ntmps172
          go_wp2_with fail
          go_ret
          exact ⟨ret_of (congrArg (Value.int .i64) HZ.out.symm), rfl⟩
end Go.Proofs.YtpgdlmnhomnblaaGreatDoor
