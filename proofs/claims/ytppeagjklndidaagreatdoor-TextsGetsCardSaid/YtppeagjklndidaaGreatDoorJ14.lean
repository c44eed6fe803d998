/- Texts joined: Blob TxPutL GrowNil Each. -/
import Derived.Test.YtppeagjklndidaaGreatDoorJ13
import Derived.Test.YtppeagjklndidaaGreatDoorJ12
import Derived.Test.YtppeagjklndidaaGreatDoorJ2
import Derived.Test.YtppeagjklndidaaGreatDoorWords
/- Contract of package num's PutBlob. -/
namespace Go.Proofs.YtppeagjklndidaaGreatDoor
open Go.RowKit
set_option linter.unusedVariables false
set_option linter.unusedSimpArgs false
set_option maxRecDepth 100000

/-- A blob's bytes. -/
def blob (p : List Nat) : List Nat := vb p.length ++ p
theorem blob_length (p : List Nat) : (blob p).length = (vb p.length).length + p.length := by simp [blob]
theorem blob_byte (p : List Nat) (h : ∀ b ∈ p, b < 256) (hl : p.length < 18446744073709551616) : ∀ b ∈ blob p, b < 256 := by
  intro b hb
  rcases List.mem_append.1 hb with h1 | h1
  · exact vb_byte _ hl b h1
  · exact h b h1

set_option maxHeartbeats 400000 in
theorem putBlob_any (A A' : Option Addr) (n c m c' : Nat) (xs : List Value) (p : List Nat) (w : World) (hr : Reads w w.heap.size 1 A n xs) (h1 : ∀ u ∈ xs, u.oneCell' = true)
    (hp : Reads w w.heap.size 1 A' m (bs p)) (hb : n + m ≤ 140737488355300) :
    Calls Tryz.prog 74 #[.slice A n c, .slice A' m c'] w (New w (xs ++ bs (blob p)) (n + (blob p).length)) := by
  obtain ⟨i0, hi0, hz0, hz1, hz2⟩ := info_parts info_u8
  have hm : m = p.length := by have := hp.1; rw [bs_length] at this; omega
  subst hm
  have hl := vb_length p.length
  go_enter Tryz.func74, Tryz.ntmps74
  go_wp2_with (first
    | (go_at_call 57; refine (putVar_any none 0 0 p.length [] w (by omega) Reads.none_ (by simp) (by omega)).mono ?_; rintro e w1 ⟨v1, rfl, hown1, hb1⟩
       simp only [Nat.zero_add, List.nil_append] at hown1
       obtain ⟨A1, c1, rfl, hc1, hc1', hr1⟩ := own_slice hown1)
    | (go_at_call 83; refine (copied_any A n c ((vb p.length).length + p.length) xs w1 ((hr.below hb1).more hb1.size) h1 (by omega)).mono ?_; rintro e w2 ⟨v2, rfl, hown2, hb2⟩)
    | (at_builtin
       refine wpList_append_any _ rfl (.tmp 17) (.tmp 18) _ rfl w1.heap.size 5 i0 _ 1 1 Tryz.underlying22 hi0 hz0 hz1 hz2 rfl (by omega) v2 n xs rfl
         hown2 w1.heap.size A1 (vb p.length).length c1 (bs (vb p.length)) rfl (hr1.below hb2) (bs_one _) (by unfold maxLen; omega) (by omega) hb2.size ?_
       intro v3 w3 hown3 hg3 hat3
       have hb3 : Below w1.heap.size w1 w3 := hb2.grown hg3 hb2.size (fun k hk => (hown2.lt k hk).1))
    | (at_builtin
       refine wpList_append_any _ rfl (.tmp 20) (.tmp 21) _ rfl w1.heap.size 5 i0 _ 1 1 Tryz.underlying22 hi0 hz0 hz1 hz2 rfl (by omega) v3 (n + (vb p.length).length) (xs ++ bs (vb p.length)) rfl
         hown3 w.heap.size A' p.length c' (bs p) rfl ((hp.below hb1).below (hb3.mono hb1.size)) (bs_one _) (by unfold maxLen; omega) (by omega) hb3.size ?_
       intro v4 w4 hown4 hg4 hat4))
  go_ret
  refine ⟨v4, rfl, ?_, (hb1.trans (hb3.mono hb1.size)).grown hg4 (by have := hb3.size; have := hb1.size; omega) (fun k hk => by have := (hown3.lt k hk).1; have := hb1.size; omega)⟩
  rw [blob_length]
  refine own_base ?_ hb1.size
  simpa [blob, bs_append, Nat.add_assoc] using hown4
end Go.Proofs.YtppeagjklndidaaGreatDoor

/- Contract of package texts' putList: the head of the form in new memory. -/
namespace Go.Proofs.YtppeagjklndidaaGreatDoor
open Go.RowKit
set_option linter.unusedVariables false
set_option linter.unusedSimpArgs false
set_option maxRecDepth 100000

theorem blobT_is (s : Tx) : blob (nb s) = blbT s := blob_nb s
theorem front_le (L : List Tx) (N k : Nat) (hk : k ≤ N) (hN : N ≤ 65536) (hq : ∀ s ∈ L, s.length ≤ 65536) : (vb N ++ blbs (L.take k)).length ≤ 4295622666 := by
  have h1 := (vb_length N).2
  have h2 := blbs_length (L.take k) 65536 (fun s hs => hq s (List.mem_of_mem_take hs))
  have h3 : (L.take k).length ≤ 65536 := by have := List.length_take_le k L; omega
  have h4 : (65536 + 10) * (L.take k).length ≤ (65536 + 10) * 65536 := Nat.mul_le_mul (Nat.le_refl _) h3
  rw [List.length_append]; omega
set_option maxHeartbeats 600000 in
theorem putLT_any (A : Option Addr) (N c : Nat) (L : List Tx) (w : World) (hr : Reads w w.heap.size 1 A N (ts L)) (hn : N ≤ 65536) (hq : ∀ s ∈ L, s.length ≤ 65536) :
    Calls Tryz.prog 49 #[.slice A N c] w (New w (bs (hdT L)) (hdT L).length) := by
  obtain ⟨i0, hi0, hz0, hz1, hz2⟩ := info_parts info_u8
  have e1 : L.length = N := by have := hr.1; rw [ts_length] at this; omega
  have HHD : Hid (hdT L = vb N ++ blbs L) := Lib.hid (by unfold hdT; rw [e1])
  have E1 := Lib.hid e1
  have HQ := Lib.hid hq
  have HFL := Lib.hid (fun k (hk : k ≤ N) => front_le L N k hk hn hq)
  clear e1 hq
  go_enter Tryz.func49, Tryz.ntmps49
  go_wp2_with fail
  refine (putVar_any none 0 0 N [] w (by omega) Reads.none_ (by simp) (by omega)).mono ?_
  rintro e w1 ⟨v1, rfl, hown1, hb1⟩
  rw [List.nil_append, Nat.zero_add] at hown1
  go_wp2_with fail
  go_loopw [3, 12] (fun s3 s12 wr => ∃ k : Nat, k ≤ N ∧ s12 = .int .i64 (k : Int) ∧ wr.ownsRow w.heap.size 5 1 s3 (vb N ++ blbs (L.take k)).length (bs (vb N ++ blbs (L.take k))) ∧ Below w.heap.size w wr) (fun _ i _ => N - (intOf i).toNat)
  case atStart => exact ⟨0, Nat.zero_le _, rfl, by simpa [blbs] using hown1, hb1⟩
  case round =>
    clear hown1 hb1
    obtain ⟨k, hk, rfl, hown, hb⟩ := hrel
    by_cases hlt : k < N
    · obtain ⟨ad, u, rfl, _, hu, hc0⟩ := (hr.below hb).at_ hlt
      obtain ⟨z, hz, rfl⟩ := ts_at hu
      have hzl := HQ.out z (List.mem_of_getElem? hz)
      have hwl := HFL.out k hk
      have HST := Lib.hid (blbs_step hz)
      have HBZ := Lib.hid (blobT_is z)
      have hbl : (blbT z).length ≤ 65546 := by have := blbT_length (s := z); omega
      have hcv := conv_is z
      have hbc := conv_below wr z
      have hrc := conv_reads wr z
      clear hu hz
      go_wp2_with fail
      refine (putBlob_any none _ 0 0 z.length _ [] (nb z) _ Reads.none_ (by simp) hrc (by omega)).mono ?_
      intro e2 w2 hN2
      obtain ⟨A2, c2, rfl, _, hr2, hb2⟩ := hN2.opened
      rw [Nat.zero_add, List.nil_append, HBZ.out] at hr2
      rw [HBZ.out]
      simp only [Nat.zero_add]
      have hbw2 : Below wr.heap.size wr w2 := hbc.trans (hb2.mono hbc.size)
      have hown2 := own_below hown hbw2
      have hb02 := hb.trans (hbw2.mono hb.size)
      clear hcv hbc hrc hb2 hN2
      go_wp2_with (at_builtin
                   refine wpList_append_any _ rfl (.tmp 16) (.tmp 19) _ rfl w.heap.size 5 i0 _ 1 1 Tryz.underlying22 hi0 hz0 hz1 hz2 rfl (by omega) u3 (vb N ++ blbs (L.take k)).length (bs (vb N ++ blbs (L.take k))) rfl
                     hown2 w2.heap.size A2 (blbT z).length c2 (bs (blbT z)) rfl hr2 (bs_one _) (by unfold maxLen; omega) (by omega) hb02.size ?_
                   intro v3 w3 hown3 hg3 hat3)
      go_round
      case rel =>
        refine ⟨k + 1, by omega, by go_num, ?_, hb02.grown hg3 hb02.size (fun j hj => (hown2.lt j hj).1)⟩
        rw [HST.out, ← List.append_assoc, List.length_append, bs_append]
        exact hown3
      case measure => simp [intOf]; omega
    · obtain rfl : k = N := by omega
      have hd := HHD.out
      go_wp2_with fail
      go_ret
      rw [List.take_of_length_le (by rw [E1.out]; exact Nat.le_refl _), ← hd] at hown
      exact ⟨_, rfl, hown, hb⟩
end Go.Proofs.YtppeagjklndidaaGreatDoor

/- Contract of the library's slices.Grow over bytes, of nil: room of its own. An append of so many zeros onto nil. -/
namespace Go.Proofs.YtppeagjklndidaaGreatDoor
open Go.RowKit
set_option linter.unusedVariables false
set_option linter.unusedSimpArgs false
set_option maxRecDepth 100000

theorem run_append_zeros_nil {P : Program} (w : World) (t u ty e : TypeId) (i : TypeInfo) (z : Value) (k : IntKind) (ht : P.underlying t = some (.slice e)) (hu : P.underlying u = some (.int k)) (hi : P.info? e = some i) (hz : i.zero = some z)
    (n : Nat) (h0 : 0 < n) (hsz : 0 < i.size) (h63 : (n : Int) ≤ 9223372036854775807) (h48 : n * i.bytes ≤ 281474976710656) :
    (Builtin.append_ #[t, u] ty #[.slice none 0 0, .int .i64 (n : Int)]).run P w =
      .ok (.slice (some ⟨w.heap.size, 0, none⟩) n (grownCap w n 0 e)) (w.drew.alloc (.cells (Builtin.zeroCells z.cells n ++ Builtin.zeroCells z.cells (grownCap w n 0 e - n)) e)) := by
  have hn : n ≠ 0 := by omega
  have hs0 : i.size ≠ 0 := by omega
  have h63' : ¬ (9223372036854775807 < (n : Int)) := by omega
  have h48' : ¬ (281474976710656 < Builtin.nextslicecap n 0 * i.bytes) := by rw [nextslicecap_zero h0]; omega
  have hw : IntKind.i64.wrap (n : Int) = (n : Int) := IntWalk.i64_in _ (by omega)
  have hneg : ¬ ((n : Int) < 0) := by omega
  have hle : ¬ ((n : Int) ≤ 0) := by omega
  have hmx : ¬ (9223372036854775807 < max (n : Int) 0) := by omega
  have h48i : ¬ (281474976710656 < (n : Int) * (i.bytes : Int)) := by rw [← Int.natCast_mul]; omega
  simp [Builtin.append_, run_underlying ht, run_underlying hu, sizeOf, typeInfo, zeroValue, hi, hz, Builtin.lenOf, hn, hs0, h63', h48', hw, hneg, h48i, asInt, asIntOf, hle, hmx, Question.forced, run_firstCells_none, newRow, grownCap]
  intro h
  rcases Nat.mul_eq_zero.1 h with h | h <;> omega
theorem wpList_append_zeros {P : Program} (w : World) {ops : Array Oper} {rest : List Oper} {o : Oper} {a : Act} {Q : Exit → Act → World → Prop} (hgd : o.guard = none) (s x : Operand) (t u : TypeId)
    (ho : o.op = .call { callee := .builtin .append, args := #[s, x], argTypes := #[t, u] }) (e : TypeId) (i : TypeInfo) (z : Value) (k : IntKind) (ht : P.underlying t = some (.slice e)) (hu : P.underlying u = some (.int k)) (hi : P.info? e = some i) (hz : i.zero = some z)
    (hsz : i.size = 1) (hzs : z.cells.size = 1) (hby : i.bytes = 1) (n : Nat) (h0 : 0 < n) (h48 : n ≤ 140737488355328) (hs : a.eval s = .slice none 0 0) (hx : a.eval x = .int .i64 (n : Int))
    (h : ∀ cap cs, n ≤ cap → cap ≤ maxLen → cs.size = cap → wpList P ops Q rest (a.put o.dst (.slice (some ⟨w.heap.size, 0, none⟩) n cap)) (w.drew.alloc (.cells cs e))) : wpList P ops Q (o :: rest) a w := by
  refine wpList_plain hgd fun _ hK => ?_
  have hr := run_append_zeros_nil (P := P) w t u o.type e i z k ht hu hi hz n h0 (by omega) (by omega) (by rw [hby]; omega)
  unfold Oper.wp execOp
  simp only [ho, resolve, invoke, builtin, Sem.run_bind, Sem.run_pure, Result.andThen_ok, List.map_toArray, List.map_cons, List.map_nil, hs, hx, hr]
  refine hK _ _ (h _ _ (grownCap_ge w n 0 e) (grownCap_le_maxLen w n 0 e (by unfold maxLen; omega)) ?_)
  have := grownCap_ge w n 0 e
  rw [Array.size_append, size_zeroCells, size_zeroCells, hzs]
  omega
theorem grow_nil (n : Nat) (w : World) (hn : n ≤ 140737488355328) :
    Calls Tryz.prog 82 #[.slice none 0 0, .int .i64 (n : Int)] w (New w [] 0) := by
  obtain ⟨i0, hi0, hz0, hz1, hz2⟩ := info_parts info_u8
  rcases Nat.eq_zero_or_pos n with h0 | h0
  · subst h0
    go_enter Tryz.func82, Tryz.ntmps82
    go_wp2_with fail
    go_ret
    exact ⟨_, rfl, own_nil _ _ _ _, Below.refl _ _⟩
  · go_enter Tryz.func82, Tryz.ntmps82
    go_wp2_with (at_builtin
                 refine wpList_append_zeros w rfl (.tmp 20) (.tmp 21) _ _ rfl 5 i0 _ .i64 Tryz.underlying22 Tryz.underlying3 hi0 hz0 hz1 rfl hz2 n h0 hn rfl rfl ?_
                 intro cap cs hcap hcm hcs)
    go_ret
    exact ⟨_, rfl, World.ownsRow_made w.drew _ _ (Nat.le_refl _) hcm (by rw [hcs]; omega), (Drawn.one w 1).below (Below.refl _ _) |>.alloc (Nat.le_refl _) _⟩
end Go.Proofs.YtppeagjklndidaaGreatDoor

/- A relation between the values of a row and byte texts, one for one. No program. -/
namespace Go.Proofs.YtppeagjklndidaaGreatDoor
open Go.RowKit
set_option linter.unusedVariables false
set_option linter.unusedSimpArgs false

def Each (R : Value → List Nat → Prop) : List Value → List (List Nat) → Prop
  | [], [] => True
  | v :: vs, l :: ls => R v l ∧ Each R vs ls
  | _, _ => False
theorem Each.imp {R R' : Value → List Nat → Prop} (h : ∀ v l, R v l → R' v l) : ∀ {vs : List Value} {ls : List (List Nat)}, Each R vs ls → Each R' vs ls := by
  intro vs
  induction vs with
  | nil => intro ls e; cases ls with
    | nil => trivial
    | cons l ls => exact e.elim
  | cons v vs ih => intro ls e; cases ls with
    | nil => exact e.elim
    | cons l ls => exact ⟨h v l e.1, ih e.2⟩
theorem Each.length {R : Value → List Nat → Prop} : ∀ {vs : List Value} {ls : List (List Nat)}, Each R vs ls → vs.length = ls.length := by
  intro vs
  induction vs with
  | nil => intro ls e; cases ls with
    | nil => rfl
    | cons l ls => exact e.elim
  | cons v vs ih => intro ls e; cases ls with
    | nil => exact e.elim
    | cons l ls => simp [ih e.2]
theorem Each.append {R : Value → List Nat → Prop} : ∀ {vs : List Value} {ls : List (List Nat)} {us : List Value} {ms : List (List Nat)}, Each R vs ls → Each R us ms → Each R (vs ++ us) (ls ++ ms) := by
  intro vs
  induction vs with
  | nil => intro ls us ms e f; cases ls with
    | nil => exact f
    | cons l ls => exact e.elim
  | cons v vs ih => intro ls us ms e f; cases ls with
    | nil => exact e.elim
    | cons l ls => exact ⟨e.1, ih e.2 f⟩
theorem Each.at_ {R : Value → List Nat → Prop} : ∀ {vs : List Value} {ls : List (List Nat)}, Each R vs ls → ∀ {i : Nat} {l : List Nat}, ls[i]? = some l → ∃ v, vs[i]? = some v ∧ R v l := by
  intro vs
  induction vs with
  | nil => intro ls e i l h; cases ls with
    | nil => simp at h
    | cons l ls => exact e.elim
  | cons v vs ih => intro ls e i l h; cases ls with
    | nil => exact e.elim
    | cons l' ls =>
      cases i with
      | zero => simp at h; subst h; exact ⟨v, by simp, e.1⟩
      | succ i => simp at h; obtain ⟨u, h1, h2⟩ := ih e.2 h; exact ⟨u, by simpa using h1, h2⟩
theorem Each.cells {R : Value → List Nat → Prop} (h1 : ∀ v l, R v l → v.oneCell' = true) : ∀ {vs : List Value} {ls : List (List Nat)}, Each R vs ls → ∀ u ∈ vs, u.oneCell' = true := by
  intro vs
  induction vs with
  | nil => intro ls e u hu; simp at hu
  | cons v vs ih => intro ls e u hu; cases ls with
    | nil => exact e.elim
    | cons l ls =>
      rcases List.mem_cons.1 hu with rfl | hu
      · exact h1 _ _ e.1
      · exact ih e.2 u hu
theorem Each.range {R : Value → List Nat → Prop} (g : Nat → Value) (f : Nat → List Nat) (n : Nat) (h : ∀ r, r < n → R (g r) (f r)) : Each R ((List.range n).map g) ((List.range n).map f) := by
  induction n with
  | zero => trivial
  | succ n ih =>
    rw [List.range_succ, List.map_append, List.map_append]
    exact (ih fun r hr => h r (by omega)).append ⟨h n (by omega), trivial⟩
end Go.Proofs.YtppeagjklndidaaGreatDoor
