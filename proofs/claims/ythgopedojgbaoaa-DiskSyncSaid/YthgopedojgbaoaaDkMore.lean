/- Contracts of package disk's New, Read, Used, Fuse, Down. -/
import Derived.WalkSpells
import Derived.Test.YthgopedojgbaoaaDkRename
namespace Go.Proofs.Ythgopedojgbaoaa
open Go.RowKit Go.Maps Go.WideMaps Go.ChangeMaps
set_option linter.unusedVariables false
set_option linter.unusedSimpArgs false
set_option maxRecDepth 100000

section
variable {w w1 : World} {X X1 : Nat → Prop} {d m : Nat} {D : DataW Unit} {C : Nat → Value} {S : St}
def St.new (r : Nat) : St := { room := r, used := 0, n := 0, fuse := -1, down := false, V := fun _ => none }
theorem St.new_ok {r : Nat} (h : r ≤ 1099511627776) : (St.new r).ok :=
  ⟨Tot.none_, Nat.zero_le _, h, by show 0 ≤ 65536; omega, by show -9223372036854775808 ≤ (-1 : Int) ∧ (-1 : Int) < 9223372036854775808; omega, (fun k f e => by cases e), (fun k f e => by cases e), (fun k f e => by cases e)⟩
def NewD (w : World) (S : St) (e : Ending) (w' : World) : Prop := ∃ d X, e = .returned (.pointer (some ⟨d, 0, none⟩)) ∧ Dsk w' X d S ∧ Step w (fun _ => False) w' X
theorem New_yes (r : Nat) (hr : r ≤ 1099511627776) (w : World) : Calls Try.prog 8 #[.int .i64 (r : Int)] w (NewD w (St.new r)) := by
  have hmm := @run_makeMap Try.prog
  have h0 : ¬ (r : Int) < 0 := by omega
  have h1 : ¬ (1099511627776 : Int) < (r : Int) := by omega
  have h0e : decide ((r : Int) < 0) = false := decide_eq_false h0
  have hfin : NewD w (St.new r) (.returned (.pointer (some ⟨w.heap.size + 1, 0, none⟩))) ((w.alloc (.map #[] 0)).alloc (.cells #[.int .i64 (r : Int), .int .i64 0, .map (some w.heap.size), .int .i64 (-1), .bool false] 52)) := by
    have hm : ((w.alloc (.map #[] 0)).alloc (.cells #[.int .i64 (r : Int), .int .i64 0, .map (some w.heap.size), .int .i64 (-1), .bool false] 52)).ownsMap Try.prog 9 ptrR w.heap.size 0 (.map []) := (World.ownsMap_made w Try.prog 9 ptrR).alloc _
    have hb := Blk.new (w.alloc (.map #[] 0)) 52 #[.int .i64 (r : Int), .int .i64 0, .map (some w.heap.size), .int .i64 (-1), .bool false]
    simp only [World.size_alloc] at hb
    have hno : ∀ k b, ¬ At (.map [] : DataW Unit) k b := fun k b e => by
      unfold At at e
      rw [atKey_of_not_has (by rfl)] at e
      cases e
    refine ⟨w.heap.size + 1, fun i => i = w.heap.size ∨ i = w.heap.size + 1, rfl, ⟨St.new_ok hr, w.heap.size, .map [], fun _ => .slice none 0 0, ⟨hb, hm, rfl, .inr rfl, .inl rfl, fun i hi => by simp; omega, fun k => rfl, fun k f e => by (exfalso; cases e), fun k k' b e => absurd e (hno _ _), fun k k' b b' g e => absurd e (hno _ _)⟩⟩, ?_⟩
    refine Step.widen (X1 := fun _ => False) (((Step.refl w _).alloc _).alloc _) (fun i hi => ?_)
    rcases hi with hi | hi
    · subst hi; exact .inr (Nat.le_refl _)
    · subst hi; exact .inr (by omega)
  have HFIN := Lib.hid hfin
  clear hfin
  go_enter Try.func8, Try.ntmps8
  go_wp2_with fail
  go_ret
  exact HFIN.out
theorem ready_any (h : Dsk w X d S) : Calls Try.prog 30 #[.pointer (some ⟨d, 0, none⟩)] w fun e w' => e = .returned (.int .i64 (if S.down = true then 15 else 0)) ∧ Drawn w w' := by
  obtain ⟨m, _, _, _, _, q4, _⟩ := h.cells
  cases hd : S.down with
  | true => rw [hd] at q4; exact ready_down d w q4
  | false => rw [hd] at q4; exact ready_up d w q4
theorem Used_any (h : Dsk w X d S) : Calls Try.prog 17 #[.pointer (some ⟨d, 0, none⟩)] w fun e w' => e = .returned (.int .i64 (if S.down = true then 0 else (S.used : Int))) ∧ Drawn w w' := by
  obtain ⟨m, _, q1, _, _, q4, _⟩ := h.cells
  obtain ⟨u, hu⟩ : ∃ u, S.used = u := ⟨_, rfl⟩
  rw [hu] at q1 ⊢
  cases hd : S.down with
  | true =>
    rw [hd] at q4
    clear hu hd
    go_enter Try.func17, Try.ntmps17
    go_wp2_with fail
    refine (ready_down d w q4).mono ?_
    rintro e w1 ⟨rfl, hd⟩
    go_wp2_with fail
    go_ret
    exact ⟨rfl, hd⟩
  | false =>
    rw [hd] at q4
    clear hu hd
    go_enter Try.func17, Try.ntmps17
    go_wp2_with fail
    refine (ready_up d w q4).mono ?_
    rintro e w1 ⟨rfl, hd⟩
    have p1 : w1.cell? ⟨d, 1, none⟩ = some (.int .i64 (u : Int)) := by obtain ⟨q, rfl⟩ := hd; exact q1
    go_wp2_with fail
    go_ret
    exact ⟨rfl, hd⟩
theorem Used_nil (w : World) : Calls Try.prog 17 #[.pointer none] w fun e w' => e = .returned (.int .i64 0) ∧ Drawn w w' := by
  go_enter Try.func17, Try.ntmps17
  go_wp2_with fail
  refine (ready_nil w).mono ?_
  rintro e w1 ⟨rfl, hd⟩
  go_wp2_with fail
  go_ret
  exact ⟨rfl, hd⟩
theorem Down_any (h : Dsk w X d S) : Calls Try.prog 15 #[.pointer (some ⟨d, 0, none⟩)] w fun e w' => e = .returned (.bool S.down) ∧ Drawn w w' := by
  obtain ⟨m, _, _, _, _, q4, _⟩ := h.cells
  obtain ⟨b, hb⟩ : ∃ b, S.down = b := ⟨_, rfl⟩
  rw [hb] at q4 ⊢
  clear hb
  go_enter Try.func15, Try.ntmps15
  go_wp2_with fail
  try go_quiet (fail)
  go_wp2_with fail
  go_ret
  first
    | exact ⟨rfl, Drawn.refl _⟩
    | exact ⟨rfl, _, rfl⟩
theorem Down_nil (w : World) : Calls Try.prog 15 #[.pointer none] w fun e w' => e = .returned (.bool false) ∧ Drawn w w' := by
  go_enter Try.func15, Try.ntmps15
  go_wp2_with fail
  try go_quiet (fail)
  go_wp2_with fail
  go_ret
  first
    | exact ⟨rfl, Drawn.refl _⟩
    | exact ⟨rfl, _, rfl⟩
theorem Fuse_any (h : Dsk w X d S) (n : Int) (hn : -9223372036854775808 ≤ n ∧ n < 9223372036854775808) : Calls Try.prog 11 #[.pointer (some ⟨d, 0, none⟩), .int .i64 n] w fun e w' => e = .returned (.tuple #[]) ∧ Did w X d { S with fuse := n } w' := by
  obtain ⟨hok, m, D, C, h⟩ := h
  have f3 := h.free 3
  have c3 := h.cells.2.2.2.1
  have hfin : Did w X d { S with fuse := n } (w.setCell ⟨d, 3, none⟩ (.int .i64 n)) :=
    ⟨X, ⟨hok.fused hn, m, D, C, h.setObj (by simp [World.setCell]) (fun i _ hi => Below.heap_setCell _ _ _ _ hi) (by have := h.obj.set_ 3 (.int .i64 n); exact this) rfl rfl⟩, (Step.refl w X).setCell h.xd _⟩
  have HFIN := Lib.hid hfin
  clear hfin hn
  go_enter Try.func11, Try.ntmps11
  go_wp2_with fail
  go_end0
  exact ⟨rfl, HFIN.out⟩
theorem Fuse_nil (w : World) (n : Int) : Calls Try.prog 11 #[.pointer none, .int .i64 n] w fun e w' => e = .returned (.tuple #[]) ∧ Drawn w w' := by
  go_enter Try.func11, Try.ntmps11
  go_wp2_with fail
  go_end0
  exact ⟨rfl, Drawn.refl _⟩
theorem sclone_any (A : Option Addr) (n c : Nat) (xs : List Value) (w : World) (hr : Reads w w.heap.size 1 A n xs) (h1 : ∀ u ∈ xs, u.oneCell' = true) (hb : n ≤ 140737488355328) :
    Calls Try.prog 32 #[.slice A n c] w (New w xs n) := by
  obtain ⟨i0, hi0, hz0, hz1, hz2⟩ := info_parts info_u8
  rcases A with _ | ad
  · have hn : n = 0 := by
      rcases Nat.eq_zero_or_pos n with h0 | h0
      · exact h0
      · obtain ⟨ad, h, _⟩ := hr.2 h0
        cases h
    subst hn
    have hx : xs = [] := List.eq_nil_of_length_eq_zero (by simpa using hr.1)
    subst hx
    have he := Lib.run_eql_slice_nil (P := Try.prog) w 26 5 none 0 c 0 0 Try.underlying26
    go_enter Try.func32, Try.ntmps32
    go_wp2_with fail
    go_ret
    exact ⟨_, rfl, World.ownsRow_nil _ _ _ _, Below.refl _ _⟩
  · have he := Lib.run_eql_slice_nil (P := Try.prog) w 26 5 (some ad) n c 0 0 Try.underlying26
    have hown0 : (w.alloc (.cells #[] 5)).ownsRow w.heap.size 5 1 (.slice (some ⟨w.heap.size, 0, none⟩) 0 0) 0 [] :=
      World.ownsRow_made w _ _ (Nat.le_refl _) (by unfold maxLen; omega) rfl
    go_enter Try.func32, Try.ntmps32
    go_wp2_with (at_builtin
                 refine wpList_append_any _ rfl (.tmp 5) (.tmp 6) _ rfl w.heap.size 5 i0 _ 1 1 Try.underlying26 hi0 hz0 hz1 hz2 rfl (by omega) (.slice (some ⟨w.heap.size, 0, none⟩) 0 0) 0 [] rfl
                   hown0 w.heap.size (some ad) n c xs rfl (hr.alloc (Nat.le_refl _) _) h1 (by unfold maxLen; omega) (by omega) (by simp) ?_
                 intro v1 w1 hown1 hg1 hat1)
    go_ret
    exact ⟨v1, rfl, by simpa using hown1, ((Below.refl _ _).alloc (Nat.le_refl _) _).grown hg1 (by simp) (fun k hk => by simp [Value.ownBlock] at hk; omega)⟩
/-- What Read answers. -/
def St.read (S : St) (k : List UInt8) : Nat × List Nat := if S.down = true then (15, []) else if nm k = false then (1, []) else match S.V k with | none => (8, []) | some f => (0, f.1)
def ReadD (w : World) (r : Nat × List Nat) (e : Ending) (w' : World) : Prop := ∃ v, e = .returned (.tuple #[v, .int .i64 (r.1 : Int)]) ∧ w'.ownsRow w.heap.size 5 1 v r.2.length (bs r.2) ∧ Below w.heap.size w w'
theorem ReadD.none_ {w w' : World} (hd : Drawn w w') (n : Nat) : ReadD w (n, []) (.returned (.tuple #[.slice none 0 0, .int .i64 (n : Int)])) w' :=
  ⟨_, rfl, World.ownsRow_nil _ _ _ _, hd.below (Below.refl _ _)⟩
theorem Read_any (h : Dsk w X d S) (s : ByteArray) : Calls Try.prog 13 #[.pointer (some ⟨d, 0, none⟩), .string s] w (ReadD w (S.read s.data.toList)) := by
  obtain ⟨hok, m, D, C, h⟩ := h
  have c4 := h.cells.2.2.2.2
  cases hdn : S.down with
  | true =>
    have he : S.read s.data.toList = (15, []) := by unfold St.read; rw [if_pos hdn]
    rw [he]
    rw [hdn] at c4
    clear he hdn
    go_enter Try.func13, Try.ntmps13
    go_wp2_with fail
    refine (ready_down d w c4).mono ?_
    rintro e w1 ⟨rfl, hd⟩
    go_wp2_with fail
    go_ret2
    exact ReadD.none_ hd 15
  | false =>
    rw [hdn] at c4
    cases hn : nm s.data.toList with
    | false =>
      have he : S.read s.data.toList = (1, []) := by unfold St.read; rw [if_neg (by simp [hdn]), if_pos hn]
      rw [he]
      clear he hdn
      go_enter Try.func13, Try.ntmps13
      go_wp2_with fail
      refine (ready_up d w c4).mono ?_
      rintro e w1 ⟨rfl, hd⟩
      go_wp2_with fail
      refine (find_no (h.drawn hd) s hn).mono ?_
      rintro e w2 ⟨rfl, hd2⟩
      go_wp2_with fail
      go_ret2
      exact ReadD.none_ (hd.trans hd2) 1
    | true =>
      cases hv : S.V s.data.toList with
      | none =>
        have he : S.read s.data.toList = (8, []) := by unfold St.read; rw [if_neg (by simp [hdn]), if_neg (by simp [hn]), hv]
        rw [he]
        clear he hdn
        go_enter Try.func13, Try.ntmps13
        go_wp2_with fail
        refine (ready_up d w c4).mono ?_
        rintro e w1 ⟨rfl, hd⟩
        go_wp2_with fail
        refine (find_none (h.drawn hd) s hn hv).mono ?_
        rintro e w2 ⟨rfl, hd2⟩
        go_wp2_with fail
        go_ret2
        exact ReadD.none_ (hd.trans hd2) 8
      | some f =>
        have he : S.read s.data.toList = (0, f.1) := by unfold St.read; rw [if_neg (by simp [hdn]), if_neg (by simp [hn]), hv]
        rw [he]
        obtain ⟨b, hat, hF⟩ := h.fs _ f hv
        obtain ⟨A, c, hC, hc1, hc2, hr⟩ := own_slice hF.own
        have b0 : w.cell? ⟨b, 0, none⟩ = some (.slice A f.1.length c) := by rw [hF.blk.cell 0, hC]; rfl
        have hlen := hok.len hv
        obtain ⟨l, hl⟩ : ∃ l, f.1.length = l := ⟨_, rfl⟩
        have hfin : ∀ (v : Value) (w1 w2 : World), Drawn w w1 → w2.ownsRow w1.heap.size 5 1 v l (bs f.1) → Below w1.heap.size w1 w2 → ReadD w (0, f.1) (.returned (.tuple #[v, .int .i64 0])) w2 := by
          intro v w1 w2 hd ho hb
          rw [← hl] at ho
          obtain ⟨q, rfl⟩ := hd
          exact ⟨v, rfl, ho, ⟨hb.os, hb.tape, hb.output, hb.size, hb.block⟩⟩
        rw [hl] at b0 hr hlen
        have HFIN := Lib.hid hfin
        have HV := Lib.hid hv
        clear he hdn hl hfin hv hC
        go_enter Try.func13, Try.ntmps13
        go_wp2_with fail
        refine (ready_up d w c4).mono ?_
        rintro e w1 ⟨rfl, hd⟩
        go_wp2_with fail
        refine (find_some (h.drawn hd) s hn hat).mono ?_
        rintro e w2 ⟨rfl, hd2⟩
        have hd3 := hd.trans hd2
        have p0 : w2.cell? ⟨b, 0, none⟩ = some (.slice A l c) := by obtain ⟨q, rfl⟩ := hd3; exact b0
        have hr2 : Reads w2 w2.heap.size 1 A l (bs f.1) := by obtain ⟨q, rfl⟩ := hd3; exact hr
        go_wp2_with fail
        refine (sclone_any A l c (bs f.1) w2 hr2 (bs_one _) (by omega)).mono ?_
        rintro e w3 ⟨v, rfl, ho3, hb3⟩
        go_wp2_with fail
        go_ret2
        exact HFIN.out v w2 w3 hd3 ho3 hb3
end
end Go.Proofs.Ythgopedojgbaoaa
