/- Texts joined: Copied Rdr. -/
import Derived.Deep.QuietTactic
import Derived.BigQuiet
import Derived.Test.YtppeagjklndidaaGreatDoorWords
import Derived.Test.YtppeagjklndidaaGreatDoorJ2
import Derived.WalkSpells
/- Contract of package num's copied: bytes in new memory. -/
namespace Go.Proofs.YtppeagjklndidaaGreatDoor
open Go.RowKit
set_option linter.unusedVariables false
set_option linter.unusedSimpArgs false
set_option maxRecDepth 100000

theorem copied_any (A : Option Addr) (n c more : Nat) (xs : List Value) (w : World) (hr : Reads w w.heap.size 1 A n xs) (h1 : ∀ u ∈ xs, u.oneCell' = true) (hb : n + more ≤ 140737488355328) :
    Calls Tryz.prog 83 #[.slice A n c, .int .i64 (more : Int)] w fun e w' => ∃ v, e = .returned v ∧ w'.ownsRow w.heap.size 5 1 v n xs ∧ Below w.heap.size w w' := by
  obtain ⟨i0, hi0, hz0, hz1, hz2⟩ := info_parts info_u8
  have hmk : ∀ W : World, (Instr.makeSlice 22 (.int .i64 0) (.int .i64 ((n : Int) + (more : Int)))).run Tryz.prog W = .ok (.slice (some ⟨W.heap.size, 0, none⟩) 0 (n + more)) (W.alloc (.cells (madeCells #[.int .u8 0] (n + more)) 5)) := fun W => run_make_u8 (n + more) (by omega) W
  have hown0 : (w.alloc (.cells (madeCells #[.int .u8 0] (n + more)) 5)).ownsRow w.heap.size 5 1 (.slice (some ⟨w.heap.size, 0, none⟩) 0 (n + more)) 0 [] :=
    World.ownsRow_made w _ _ (Nat.le_refl _) (by unfold maxLen; omega) (by rw [size_madeCells]; omega)
  go_enter Tryz.func83, Tryz.ntmps83
  go_wp2_with (at_builtin
               refine wpList_append_any _ rfl (.tmp 9) (.tmp 10) _ rfl w.heap.size 5 i0 _ 1 1 Tryz.underlying22 hi0 hz0 hz1 hz2 rfl (by omega) (.slice (some ⟨w.heap.size, 0, none⟩) 0 (n + more)) 0 [] rfl
                 hown0 w.heap.size A n c xs rfl (hr.alloc (Nat.le_refl _) _) h1 (by unfold maxLen; omega) (by omega) (by simp) ?_
               intro v1 w1 hown1 hg1 hat1)
  go_ret
  exact ⟨v1, rfl, by simpa using hown1, ((Below.refl _ _).alloc (Nat.le_refl _) _).grown hg1 (by simp) (fun k hk => by simp [Value.ownBlock] at hk; omega)⟩
end Go.Proofs.YtppeagjklndidaaGreatDoor

/- Contracts of package num's Reader: making one, asking whether it has stopped, and what is left. -/
namespace Go.Proofs.YtppeagjklndidaaGreatDoor
open Go.RowKit
set_option linter.unusedVariables false
set_option linter.unusedSimpArgs false
set_option maxRecDepth 100000

/-- A reader that lies in block 'g': its bytes 'l' (below that block), its place, its error. -/
structure Rd (w : World) (g : Nat) (A : Option Addr) (n c at_ : Nat) (err : Value) (l : List Nat) : Prop where
  blk : Blk w g 95 #[.slice A n c, .int .i64 (at_ : Int), err]
  reads : Reads w g 1 A n (bs l)
  cap : n ≤ c
  place : at_ ≤ n
  size : n ≤ 140737488355328
  byte : ∀ b ∈ l, b < 256
theorem Rd.length {w : World} {g : Nat} {A : Option Addr} {n c at_ : Nat} {err : Value} {l : List Nat} (h : Rd w g A n c at_ err l) : l.length = n := by
  have := h.reads.1; rw [bs_length] at this; omega

theorem Rd.drewN {w : World} {g : Nat} {A : Option Addr} {n c at_ : Nat} {err : Value} {l : List Nat} (h : Rd w g A n c at_ err l) (q : Nat) : Rd (w.drewN q) g A n c at_ err l :=
  ⟨h.blk.drewN q, h.reads.drewN q, h.cap, h.place, h.size, h.byte⟩
theorem Rd.goes {w : World} {g : Nat} {A : Option Addr} {n c at_ : Nat} {err : Value} {l : List Nat} (h : Rd w g A n c at_ err l) (q k : Nat) (hk : at_ + k ≤ n) :
    Rd ((w.drewN q).setCell ⟨g, 1, none⟩ (.int .i64 ((at_ : Int) + (k : Int)))) g A n c (at_ + k) err l ∧ w.grownBy ((w.drewN q).setCell ⟨g, 1, none⟩ (.int .i64 ((at_ : Int) + (k : Int)))) (some g) :=
  ⟨⟨by have := (h.blk.drewN q).set_ 1 (.int .i64 ((at_ : Int) + (k : Int))); simpa using this, (h.reads.drewN q).setCell (p := ⟨g, 1, none⟩) (Nat.le_refl _) _, h.cap, hk, h.size, h.byte⟩,
    only_setCell (only_drewN (World.grownBy.refl w _) q) (.inl rfl) _⟩
theorem Rd.below {w w' : World} {g : Nat} {A : Option Addr} {n c at_ : Nat} {err : Value} {l : List Nat} {B : Nat} (h : Rd w g A n c at_ err l) (hb : Below B w w') (hg : g < B) : Rd w' g A n c at_ err l :=
  ⟨h.blk.below hb hg, (h.reads.more (Nat.le_of_lt hg) |>.below hb) |> (fun r => ⟨r.1, fun hn => by
    obtain ⟨ad, e, _, hc⟩ := r.2 hn
    obtain ⟨ad', e', hb', _⟩ := h.reads.2 hn
    rw [e] at e'
    injection e' with e'
    subst e'
    exact ⟨_, e, hb', hc⟩⟩), h.cap, h.place, h.size, h.byte⟩
theorem stopped_nil (w : World) : Calls Tryz.prog 65 #[.pointer none] w fun e w' => e = .returned (.bool true) ∧ w = w' := by
  go_enter Tryz.func65, Tryz.ntmps65
  go_wp2_with fail
  go_ret
  exact ⟨rfl, rfl⟩
theorem stopped_ok {w : World} {g : Nat} {A : Option Addr} {n c at_ : Nat} {l : List Nat} (h : Rd w g A n c at_ .nilIface l) :
    Calls Tryz.prog 65 #[.pointer (some ⟨g, 0, none⟩)] w fun e w' => e = .returned (.bool false) ∧ w = w' := by
  have hc := h.blk.cell 2
  simp only [List.getElem?_toArray, List.getElem?_cons_succ, List.getElem?_cons_zero] at hc
  go_enter Tryz.func65, Tryz.ntmps65
  go_wp2_with fail
  go_ret
  exact ⟨rfl, rfl⟩

theorem left_any {w : World} {g : Nat} {A : Option Addr} {n c at_ : Nat} {err : Value} {l : List Nat} (h : Rd w g A n c at_ err l) :
    Calls Tryz.prog 63 #[.pointer (some ⟨g, 0, none⟩)] w fun e w' => e = .returned (.int .i64 ((n : Int) - at_)) ∧ Drawn w w' := by
  have hc0 := h.blk.cell 0
  have hc := h.blk.cell 1
  simp only [List.getElem?_toArray, List.getElem?_cons_succ, List.getElem?_cons_zero] at hc hc0
  have hs := h.size
  have hp := h.place
  go_enter Tryz.func63, Tryz.ntmps63
  go_wp2_with fail
  go_quiet (fail)
  go_wp2_with fail
  go_ret
  exact ⟨rfl, Drawn.one _ _⟩


theorem clone_any (A : Option Addr) (n c : Nat) (xs : List Value) (w : World) (hr : Reads w w.heap.size 1 A n xs) (h1 : ∀ u ∈ xs, u.oneCell' = true) (hb : n ≤ 140737488355328) :
    Calls Tryz.prog 59 #[.slice A n c] w (New w xs n) := by
  obtain ⟨i0, hi0, hz0, hz1, hz2⟩ := info_parts info_u8
  rcases A with _ | ad
  · have hn : n = 0 := by
      rcases Nat.eq_zero_or_pos n with h0 | h0
      · exact h0
      · obtain ⟨ad, h, _⟩ := hr.2 h0
        cases h
    subst hn
    have hx : xs = [] := List.eq_nil_of_length_eq_zero (by simpa using hr.1)
    subst hx
    have he := Lib.run_eql_slice_nil (P := Tryz.prog) w 22 5 none 0 c 0 0 Tryz.underlying22
    go_enter Tryz.func59, Tryz.ntmps59
    go_wp2_with fail
    go_ret
    exact ⟨_, rfl, World.ownsRow_nil _ _ _ _, Below.refl _ _⟩
  · have he := Lib.run_eql_slice_nil (P := Tryz.prog) w 22 5 (some ad) n c 0 0 Tryz.underlying22
    have hown0 : (w.alloc (.cells #[] 5)).ownsRow w.heap.size 5 1 (.slice (some ⟨w.heap.size, 0, none⟩) 0 0) 0 [] :=
      World.ownsRow_made w _ _ (Nat.le_refl _) (by unfold maxLen; omega) rfl
    go_enter Tryz.func59, Tryz.ntmps59
    go_wp2_with (at_builtin
                 refine wpList_append_any _ rfl (.tmp 5) (.tmp 6) _ rfl w.heap.size 5 i0 _ 1 1 Tryz.underlying22 hi0 hz0 hz1 hz2 rfl (by omega) (.slice (some ⟨w.heap.size, 0, none⟩) 0 0) 0 [] rfl
                   hown0 w.heap.size (some ad) n c xs rfl (hr.alloc (Nat.le_refl _) _) h1 (by unfold maxLen; omega) (by omega) (by simp) ?_
                 intro v1 w1 hown1 hg1 hat1)
    go_ret
    exact ⟨v1, rfl, by simpa using hown1, ((Below.refl _ _).alloc (Nat.le_refl _) _).grown hg1 (by simp) (fun k hk => by simp [Value.ownBlock] at hk; omega)⟩

theorem newReader_any (A : Option Addr) (n c : Nat) (l : List Nat) (w : World) (hr : Reads w w.heap.size 1 A n (bs l)) (hb : n ≤ 140737488355328) (h256 : ∀ b ∈ l, b < 256) :
    Calls Tryz.prog 32 #[.slice A n c] w fun e w' => ∃ g A' c', e = .returned (.pointer (some ⟨g, 0, none⟩)) ∧ w.heap.size ≤ g ∧ Rd w' g A' n c' 0 .nilIface l ∧ Below w.heap.size w w' := by
  go_enter Tryz.func32, Tryz.ntmps32
  go_wp2_with (go_at_call 59; refine (clone_any A n c (bs l) w hr (bs_one l) hb).mono ?_; rintro e w1 ⟨v, rfl, hown, hbl⟩; obtain ⟨A', c', rfl, hnc, hc', hr'⟩ := own_slice hown)
  go_ret
  refine ⟨_, A', c', rfl, hbl.size, ⟨?_, hr'.alloc (Nat.le_refl _) _, hnc, Nat.zero_le _, hb, h256⟩, hbl.alloc hbl.size _⟩
  exact Blk.new _ _ _

end Go.Proofs.YtppeagjklndidaaGreatDoor
