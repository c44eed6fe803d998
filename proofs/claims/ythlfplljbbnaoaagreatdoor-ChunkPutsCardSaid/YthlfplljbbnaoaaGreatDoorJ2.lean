/- Texts joined: Plain Mem Copied Rdr RdE. -/
import Derived.Deep.QuietTactic
import Derived.BigQuiet
import Derived.Test.YthlfplljbbnaoaaGreatDoorJ1
import Derived.Test.YthlfplljbbnaoaaGreatDoorChecked
import Derived.WalkSpells
/- Plain facts on numbers as bytes: the short number's bytes, the fixed number's bytes and its value. No condition. -/
namespace Go.Proofs.YthlfplljbbnaoaaGreatDoor

/-- The short number of 'v', with fuel. -/
def vbF : Nat → Nat → List Nat
  | 0, v => [v]
  | f + 1, v => if v < 128 then [v] else (128 + v % 128) :: vbF f (v / 128)
/-- The short number of 'v' (below 2^64). -/
def vb (v : Nat) : List Nat := vbF 9 v

theorem vbF_step (f v : Nat) : vbF (f + 1) v = if v < 128 then [v] else (128 + v % 128) :: vbF f (v / 128) := rfl
theorem vbF_succ (f v : Nat) (h : v < 128 ^ (f + 1)) : vbF (f + 1) v = vbF f v := by
  induction f generalizing v with
  | zero => unfold vbF; rw [if_pos (by simpa using h)]
  | succ f ih =>
    rw [vbF_step (f + 1) v, vbF_step f v]
    by_cases h1 : v < 128
    · rw [if_pos h1, if_pos h1]
    · rw [if_neg h1, if_neg h1, ih]
      rw [Nat.pow_succ] at h
      exact Nat.div_lt_of_lt_mul (by omega)
theorem vb_small (v : Nat) (h : v < 128) : vb v = [v] := by unfold vb; rw [vbF_step, if_pos h]
theorem vb_big (v : Nat) (h : ¬ v < 128) (h2 : v < 18446744073709551616) : vb v = (128 + v % 128) :: vb (v / 128) := by
  unfold vb
  rw [vbF_step 8 v, if_neg h, vbF_succ 8 (v / 128)]
  have : (128 : Nat) ^ (8 + 1) = 9223372036854775808 := by decide
  rw [this]; omega
theorem vbF_length (f v : Nat) : 0 < (vbF f v).length ∧ (vbF f v).length ≤ f + 1 := by
  induction f generalizing v with
  | zero => simp [vbF]
  | succ f ih =>
    rw [vbF_step]
    by_cases h : v < 128
    · rw [if_pos h]; simp
    · rw [if_neg h]; have := ih (v / 128); simp only [List.length_cons]; omega
theorem vb_length (v : Nat) : 0 < (vb v).length ∧ (vb v).length ≤ 10 := by have := vbF_length 9 v; unfold vb; omega
theorem vbF_byte (f v : Nat) (h : v < 128 ^ (f + 1)) : ∀ b ∈ vbF f v, b < 256 := by
  induction f generalizing v with
  | zero => intro b hb; simp [vbF] at hb h; omega
  | succ f ih =>
    rw [vbF_step]
    by_cases h1 : v < 128
    · rw [if_pos h1]; intro b hb; simp at hb; omega
    · rw [if_neg h1]
      intro b hb
      rcases List.mem_cons.1 hb with rfl | hb
      · omega
      · refine ih _ ?_ b hb
        rw [Nat.pow_succ] at h
        exact Nat.div_lt_of_lt_mul (by omega)
theorem vb_byte (v : Nat) (h : v < 18446744073709551616) : ∀ b ∈ vb v, b < 256 :=
  vbF_byte 9 v (by have : (128 : Nat) ^ (9 + 1) = 1180591620717411303424 := by decide
                   rw [this]; omega)

/-- The fixed number of 'v' in 'n' bytes. -/
def fx : Nat → Nat → List Nat
  | 0, _ => []
  | n + 1, v => v % 256 :: fx n (v / 256)
/-- The number that fixed bytes are. -/
def unfx : List Nat → Nat
  | [] => 0
  | b :: l => b + 256 * unfx l
theorem fx_length (n v : Nat) : (fx n v).length = n := by
  induction n generalizing v with
  | zero => rfl
  | succ n ih => simp [fx, ih]
theorem fx_byte (n v : Nat) : ∀ b ∈ fx n v, b < 256 := by
  induction n generalizing v with
  | zero => intro b hb; simp [fx] at hb
  | succ n ih =>
    intro b hb
    rcases List.mem_cons.1 hb with rfl | hb
    · omega
    · exact ih _ b hb
theorem unfx_fx (n v : Nat) : unfx (fx n v) = v % 256 ^ n := by
  induction n generalizing v with
  | zero => simp [fx, unfx, Nat.mod_one]
  | succ n ih =>
    simp only [fx, unfx, ih]
    rw [Nat.pow_succ, Nat.mul_comm (256 ^ n) 256, Nat.mod_mul]
theorem unfx_lt (l : List Nat) (h : ∀ b ∈ l, b < 256) : unfx l < 256 ^ l.length := by
  induction l with
  | nil => simp [unfx]
  | cons b l ih =>
    have h1 := h b (by simp)
    have h2 := ih fun x hx => h x (by simp [hx])
    simp only [unfx, List.length_cons, Nat.pow_succ]
    omega
set_option maxRecDepth 10000 in
theorem bit7' : ∀ b : Fin 256, b.val ||| 128 = 128 + b.val % 128 := by decide +kernel
theorem bit7 (b : Nat) (h : b < 256) : b ||| 128 = 128 + b % 128 := bit7' ⟨b, h⟩
end Go.Proofs.YthlfplljbbnaoaaGreatDoor

/- Bytes in memory, over this program: a byte slice that is made; what a function answers that hands out new bytes. No condition. -/
namespace Go.Proofs.YthlfplljbbnaoaaGreatDoor
open Go.RowKit
set_option linter.unusedVariables false
set_option linter.unusedSimpArgs false
set_option maxRecDepth 100000

theorem info_u8 : (Tryz.prog.info? 5).map (fun i => (i.zero, i.size, i.bytes)) = some (some (.int .u8 0), 1, 1) := by kernel_rfl
theorem run_make_u8 (c : Nat) (hc : c ≤ 281474976710656) (w : World) :
    (Instr.makeSlice 25 (.int .i64 0) (.int .i64 (c : Int))).run Tryz.prog w = .ok (.slice (some ⟨w.heap.size, 0, none⟩) 0 c) (w.alloc (.cells (madeCells #[.int .u8 0] c) 5)) := by
  obtain ⟨i, hi, hz0, hz1, hz2⟩ := info_parts info_u8
  have hr := run_make (P := Tryz.prog) w 25 5 i _ Tryz.underlying25 hi hz0 .i64 .i64 0 c (by omega) (by omega) (by rw [hz2]; omega) (by omega)
  rw [hz1] at hr
  simpa [Value.cells] using hr

/-- What a function answers that puts bytes behind bytes: new memory that holds 'xs'. -/
def New (w : World) (xs : List Value) (n : Nat) (e : Ending) (w' : World) : Prop := ∃ v, e = .returned v ∧ w'.ownsRow w.heap.size 5 1 v n xs ∧ Below w.heap.size w w'
/-- Bytes in new memory, and the number of an error. -/
def NewE (w : World) (l : List Nat) (x : Nat) (e : Ending) (w' : World) : Prop :=
  ∃ v, e = .returned (.tuple #[v, .int .i64 (x : Int)]) ∧ w'.ownsRow w.heap.size 5 1 v l.length (bs l) ∧ Below w.heap.size w w'
end Go.Proofs.YthlfplljbbnaoaaGreatDoor

/- Contract of package num's copied: bytes in new memory. -/
namespace Go.Proofs.YthlfplljbbnaoaaGreatDoor
open Go.RowKit
set_option linter.unusedVariables false
set_option linter.unusedSimpArgs false
set_option maxRecDepth 100000

theorem copied_any (A : Option Addr) (n c more : Nat) (xs : List Value) (w : World) (hr : Reads w w.heap.size 1 A n xs) (h1 : ∀ u ∈ xs, u.oneCell' = true) (hb : n + more ≤ 140737488355328) :
    Calls Tryz.prog 140 #[.slice A n c, .int .i64 (more : Int)] w fun e w' => ∃ v, e = .returned v ∧ w'.ownsRow w.heap.size 5 1 v n xs ∧ Below w.heap.size w w' := by
  obtain ⟨i0, hi0, hz0, hz1, hz2⟩ := info_parts info_u8
  have hmk : ∀ W : World, (Instr.makeSlice 25 (.int .i64 0) (.int .i64 ((n : Int) + (more : Int)))).run Tryz.prog W = .ok (.slice (some ⟨W.heap.size, 0, none⟩) 0 (n + more)) (W.alloc (.cells (madeCells #[.int .u8 0] (n + more)) 5)) := fun W => run_make_u8 (n + more) (by omega) W
  have hown0 : (w.alloc (.cells (madeCells #[.int .u8 0] (n + more)) 5)).ownsRow w.heap.size 5 1 (.slice (some ⟨w.heap.size, 0, none⟩) 0 (n + more)) 0 [] :=
    World.ownsRow_made w _ _ (Nat.le_refl _) (by unfold maxLen; omega) (by rw [size_madeCells]; omega)
  go_enter Tryz.func140, Tryz.ntmps140
  go_wp2_with (at_builtin
               refine wpList_append_any _ rfl (.tmp 9) (.tmp 10) _ rfl w.heap.size 5 i0 _ 1 1 Tryz.underlying25 hi0 hz0 hz1 hz2 rfl (by omega) (.slice (some ⟨w.heap.size, 0, none⟩) 0 (n + more)) 0 [] rfl
                 hown0 w.heap.size A n c xs rfl (hr.alloc (Nat.le_refl _) _) h1 (by unfold maxLen; omega) (by omega) (by simp) ?_
               intro v1 w1 hown1 hg1 hat1)
  go_ret
  exact ⟨v1, rfl, by simpa using hown1, ((Below.refl _ _).alloc (Nat.le_refl _) _).grown hg1 (by simp) (fun k hk => by simp [Value.ownBlock] at hk; omega)⟩
end Go.Proofs.YthlfplljbbnaoaaGreatDoor

/- Contracts of package num's Reader: making one, asking whether it has stopped, and what is left. -/
namespace Go.Proofs.YthlfplljbbnaoaaGreatDoor
open Go.RowKit
set_option linter.unusedVariables false
set_option linter.unusedSimpArgs false
set_option maxRecDepth 100000

/-- A reader that lies in block 'g': its bytes 'l' (below that block), its place, its error. -/
structure Rd (w : World) (g : Nat) (A : Option Addr) (n c at_ : Nat) (err : Value) (l : List Nat) : Prop where
  blk : Blk w g 96 #[.slice A n c, .int .i64 (at_ : Int), err]
  reads : Reads w g 1 A n (bs l)
  cap : n ≤ c
  place : at_ ≤ n
  size : n ≤ 140737488355328
  byte : ∀ b ∈ l, b < 256
theorem Rd.length {w : World} {g : Nat} {A : Option Addr} {n c at_ : Nat} {err : Value} {l : List Nat} (h : Rd w g A n c at_ err l) : l.length = n := by
  have := h.reads.1; rw [bs_length] at this; omega

theorem Rd.drewN {w : World} {g : Nat} {A : Option Addr} {n c at_ : Nat} {err : Value} {l : List Nat} (h : Rd w g A n c at_ err l) (q : Nat) : Rd (w.drewN q) g A n c at_ err l :=
  ⟨h.blk.drewN q, h.reads.drewN q, h.cap, h.place, h.size, h.byte⟩
theorem Rd.goes {w : World} {g : Nat} {A : Option Addr} {n c at_ : Nat} {err : Value} {l : List Nat} (h : Rd w g A n c at_ err l) (q k : Nat) (hk : at_ + k ≤ n) :
    Rd ((w.drewN q).setCell ⟨g, 1, none⟩ (.int .i64 ((at_ : Int) + (k : Int)))) g A n c (at_ + k) err l ∧ w.grownBy ((w.drewN q).setCell ⟨g, 1, none⟩ (.int .i64 ((at_ : Int) + (k : Int)))) (some g) :=
  ⟨⟨by have := (h.blk.drewN q).set_ 1 (.int .i64 ((at_ : Int) + (k : Int))); simpa using this, (h.reads.drewN q).setCell (p := ⟨g, 1, none⟩) (Nat.le_refl _) _, h.cap, hk, h.size, h.byte⟩,
    only_setCell (only_drewN (World.grownBy.refl w _) q) (.inl rfl) _⟩
theorem Rd.below {w w' : World} {g : Nat} {A : Option Addr} {n c at_ : Nat} {err : Value} {l : List Nat} {B : Nat} (h : Rd w g A n c at_ err l) (hb : Below B w w') (hg : g < B) : Rd w' g A n c at_ err l :=
  ⟨h.blk.below hb hg, (h.reads.more (Nat.le_of_lt hg) |>.below hb) |> (fun r => ⟨r.1, fun hn => by
    obtain ⟨ad, e, _, hc⟩ := r.2 hn
    obtain ⟨ad', e', hb', _⟩ := h.reads.2 hn
    rw [e] at e'
    injection e' with e'
    subst e'
    exact ⟨_, e, hb', hc⟩⟩), h.cap, h.place, h.size, h.byte⟩
theorem stopped_nil (w : World) : Calls Tryz.prog 70 #[.pointer none] w fun e w' => e = .returned (.bool true) ∧ w = w' := by
  go_enter Tryz.func70, Tryz.ntmps70
  go_wp2_with fail
  go_ret
  exact ⟨rfl, rfl⟩
theorem stopped_ok {w : World} {g : Nat} {A : Option Addr} {n c at_ : Nat} {l : List Nat} (h : Rd w g A n c at_ .nilIface l) :
    Calls Tryz.prog 70 #[.pointer (some ⟨g, 0, none⟩)] w fun e w' => e = .returned (.bool false) ∧ w = w' := by
  have hc := h.blk.cell 2
  simp only [List.getElem?_toArray, List.getElem?_cons_succ, List.getElem?_cons_zero] at hc
  go_enter Tryz.func70, Tryz.ntmps70
  go_wp2_with fail
  go_ret
  exact ⟨rfl, rfl⟩

theorem left_any {w : World} {g : Nat} {A : Option Addr} {n c at_ : Nat} {err : Value} {l : List Nat} (h : Rd w g A n c at_ err l) :
    Calls Tryz.prog 72 #[.pointer (some ⟨g, 0, none⟩)] w fun e w' => e = .returned (.int .i64 ((n : Int) - at_)) ∧ Drawn w w' := by
  have hc0 := h.blk.cell 0
  have hc := h.blk.cell 1
  simp only [List.getElem?_toArray, List.getElem?_cons_succ, List.getElem?_cons_zero] at hc hc0
  have hs := h.size
  have hp := h.place
  go_enter Tryz.func72, Tryz.ntmps72
  go_wp2_with fail
  go_quiet (fail)
  go_wp2_with fail
  go_ret
  exact ⟨rfl, Drawn.one _ _⟩


theorem clone_any (A : Option Addr) (n c : Nat) (xs : List Value) (w : World) (hr : Reads w w.heap.size 1 A n xs) (h1 : ∀ u ∈ xs, u.oneCell' = true) (hb : n ≤ 140737488355328) :
    Calls Tryz.prog 69 #[.slice A n c] w (New w xs n) := by
  obtain ⟨i0, hi0, hz0, hz1, hz2⟩ := info_parts info_u8
  rcases A with _ | ad
  · have hn : n = 0 := by
      rcases Nat.eq_zero_or_pos n with h0 | h0
      · exact h0
      · obtain ⟨ad, h, _⟩ := hr.2 h0
        cases h
    subst hn
    have hx : xs = [] := List.eq_nil_of_length_eq_zero (by simpa using hr.1)
    subst hx
    have he := Lib.run_eql_slice_nil (P := Tryz.prog) w 25 5 none 0 c 0 0 Tryz.underlying25
    go_enter Tryz.func69, Tryz.ntmps69
    go_wp2_with fail
    go_ret
    exact ⟨_, rfl, World.ownsRow_nil _ _ _ _, Below.refl _ _⟩
  · have he := Lib.run_eql_slice_nil (P := Tryz.prog) w 25 5 (some ad) n c 0 0 Tryz.underlying25
    have hown0 : (w.alloc (.cells #[] 5)).ownsRow w.heap.size 5 1 (.slice (some ⟨w.heap.size, 0, none⟩) 0 0) 0 [] :=
      World.ownsRow_made w _ _ (Nat.le_refl _) (by unfold maxLen; omega) rfl
    go_enter Tryz.func69, Tryz.ntmps69
    go_wp2_with (at_builtin
                 refine wpList_append_any _ rfl (.tmp 5) (.tmp 6) _ rfl w.heap.size 5 i0 _ 1 1 Tryz.underlying25 hi0 hz0 hz1 hz2 rfl (by omega) (.slice (some ⟨w.heap.size, 0, none⟩) 0 0) 0 [] rfl
                   hown0 w.heap.size (some ad) n c xs rfl (hr.alloc (Nat.le_refl _) _) h1 (by unfold maxLen; omega) (by omega) (by simp) ?_
                 intro v1 w1 hown1 hg1 hat1)
    go_ret
    exact ⟨v1, rfl, by simpa using hown1, ((Below.refl _ _).alloc (Nat.le_refl _) _).grown hg1 (by simp) (fun k hk => by simp [Value.ownBlock] at hk; omega)⟩

theorem newReader_any (A : Option Addr) (n c : Nat) (l : List Nat) (w : World) (hr : Reads w w.heap.size 1 A n (bs l)) (hb : n ≤ 140737488355328) (h256 : ∀ b ∈ l, b < 256) :
    Calls Tryz.prog 26 #[.slice A n c] w fun e w' => ∃ g A' c', e = .returned (.pointer (some ⟨g, 0, none⟩)) ∧ w.heap.size ≤ g ∧ Rd w' g A' n c' 0 .nilIface l ∧ Below w.heap.size w w' := by
  go_enter Tryz.func26, Tryz.ntmps26
  go_wp2_with (go_at_call 69; refine (clone_any A n c (bs l) w hr (bs_one l) hb).mono ?_; rintro e w1 ⟨v, rfl, hown, hbl⟩; obtain ⟨A', c', rfl, hnc, hc', hr'⟩ := own_slice hown)
  go_ret
  refine ⟨_, A', c', rfl, hbl.size, ⟨?_, hr'.alloc (Nat.le_refl _) _, hnc, Nat.zero_le _, hb, h256⟩, hbl.alloc hbl.size _⟩
  exact Blk.new _ _ _

end Go.Proofs.YthlfplljbbnaoaaGreatDoor

/- Package num's Reader with its error: none, or a fault with its number and its place. Contracts of stopped, stop, At, Left. -/
namespace Go.Proofs.YthlfplljbbnaoaaGreatDoor
open Go.RowKit
set_option linter.unusedVariables false
set_option linter.unusedSimpArgs false
set_option maxRecDepth 100000

/-- What the field err holds: nothing, or a fault: its number, its place. -/
def ErrIs (w : World) (err : Value) : Option (Int × Nat) → Prop
  | none => err = .nilIface
  | some (k, on) => ∃ f, err = .iface 105 (.pointer (some ⟨f, 0, none⟩)) ∧ Blk w f 110 #[.int .i64 (on : Int), .iface 26 (.int .i64 k)]
/-- A reader in block 'g': its bytes, its place, its error. -/
def RdS (w : World) (g : Nat) (l : List Nat) (at_ : Nat) (x : Option (Int × Nat)) : Prop := ∃ A n c err, Rd w g A n c at_ err l ∧ ErrIs w err x

theorem ErrIs.next {w w' : World} {err : Value} {x : Option (Int × Nat)} (h : ErrIs w err x) (hb : ∀ f t cs, Blk w f t cs → t = 110 → Blk w' f t cs) : ErrIs w' err x := by
  cases x with
  | none => exact h
  | some x =>
    obtain ⟨k, on⟩ := x
    obtain ⟨f, e, hf⟩ := h
    exact ⟨f, e, hb _ _ _ hf rfl⟩
theorem RdS.lt {w : World} {g : Nat} {l : List Nat} {at_ : Nat} {x : Option (Int × Nat)} (h : RdS w g l at_ x) : g < w.heap.size := by
  obtain ⟨A, n, c, err, hR, _⟩ := h
  exact hR.blk.lt
theorem RdS.next {w w' : World} {g : Nat} {l : List Nat} {at_ : Nat} {x : Option (Int × Nat)} (h : RdS w g l at_ x) (hb : Below w.heap.size w w') : RdS w' g l at_ x := by
  have hg := h.lt
  obtain ⟨A, n, c, err, hR, hE⟩ := h
  exact ⟨A, n, c, err, hR.below hb hg, hE.next fun f t cs hf _ => hf.below hb hf.lt⟩
theorem RdS.place {w : World} {g : Nat} {l : List Nat} {at_ : Nat} {x : Option (Int × Nat)} (h : RdS w g l at_ x) : at_ ≤ l.length ∧ l.length ≤ 140737488355328 := by
  obtain ⟨A, n, c, err, hR, hE⟩ := h
  have := hR.length; have := hR.place; have := hR.size
  omega
theorem Blk.type_ne {w : World} {g g' : Nat} {t t' : TypeId} {cs cs' : Array Value} (h : Blk w g t cs) (h' : Blk w g' t' cs') (hne : t ≠ t') : g ≠ g' := by
  rintro rfl
  unfold Blk at h h'
  rw [h] at h'
  injection h' with h'
  injection h' with _ ht
  exact hne ht
theorem RdS.goes {w w1 : World} {g : Nat} {l : List Nat} {at_ : Nat} {A : Option Addr} {n c : Nat} {err : Value} {x : Option (Int × Nat)} (hR : Rd w g A n c at_ err l) (hE : ErrIs w err x) (k : Nat) (hk : at_ + k ≤ n) (hb : Below w.heap.size w w1) :
    RdS (w1.setCell ⟨g, 1, none⟩ (.int .i64 ((at_ : Int) + (k : Int)))) g l (at_ + k) x ∧ w.grownBy (w1.setCell ⟨g, 1, none⟩ (.int .i64 ((at_ : Int) + (k : Int)))) (some g) := by
  have hR1 := hR.below hb hR.blk.lt
  have hE1 := hE.next (w' := w1) fun f t cs hf _ => hf.below hb hf.lt
  have := hR1.goes 0 k hk
  refine ⟨⟨A, n, c, err, this.1, hE1.next fun f t cs hf ht => hf.far (p := ⟨g, 1, none⟩) (hf.type_ne hR1.blk (by rw [ht]; decide)) _⟩, ?_⟩
  exact only_setCell (only_below (World.grownBy.refl w _) hb) (.inl rfl) _

theorem stopped_err {w : World} {g : Nat} {l : List Nat} {at_ : Nat} {x : Int × Nat} (h : RdS w g l at_ (some x)) :
    Calls Tryz.prog 70 #[.pointer (some ⟨g, 0, none⟩)] w fun e w' => e = .returned (.bool true) ∧ w = w' := by
  obtain ⟨A, n, c, err, hR, hE⟩ := h
  obtain ⟨k, on⟩ := x
  obtain ⟨f, rfl, hf⟩ := hE
  have hc := hR.blk.cell 2
  simp only [List.getElem?_toArray, List.getElem?_cons_succ, List.getElem?_cons_zero] at hc
  go_enter Tryz.func70, Tryz.ntmps70
  go_wp2_with fail
  go_ret
  exact ⟨rfl, rfl⟩
theorem stop_any {w : World} {g : Nat} {A : Option Addr} {n c at_ : Nat} {l : List Nat} (k : Int) (hR : Rd w g A n c at_ .nilIface l) :
    Calls Tryz.prog 71 #[.pointer (some ⟨g, 0, none⟩), .iface 26 (.int .i64 k)] w
      fun e w' => e = .returned (.tuple #[]) ∧ RdS w' g l at_ (some (k, at_)) ∧ w.grownBy w' (some g) := by
  have hc := hR.blk.cell 1
  have hc2 := hR.blk.cell 2
  simp only [List.getElem?_toArray, List.getElem?_cons_succ, List.getElem?_cons_zero] at hc hc2
  have hf := hR.blk.frozen 2
  have hlt := hR.blk.lt
  go_enter Tryz.func71, Tryz.ntmps71
  go_wp2_with fail
  go_end0
  have hR1 : RdS ((w.setCell ⟨g, 2, none⟩ (.iface 105 (.pointer (some ⟨w.heap.size, 0, none⟩)))).alloc (.cells #[.int .i64 (at_ : Int), .iface 26 (.int .i64 k)] 110)) g l at_ (some (k, at_)) := by
    refine ⟨A, n, c, _, ⟨?_, ((hR.reads.setCell (p := ⟨g, 2, none⟩) (Nat.le_refl _) _).alloc (by simp; omega) _), hR.cap, hR.place, hR.size, hR.byte⟩, w.heap.size, rfl, ?_⟩
    · have := (hR.blk.set_ 2 (.iface 105 (.pointer (some ⟨w.heap.size, 0, none⟩)))).alloc (.cells #[.int .i64 (at_ : Int), .iface 26 (.int .i64 k)] 110)
      simpa using this
    · have := Blk.new (w.setCell ⟨g, 2, none⟩ (.iface 105 (.pointer (some ⟨w.heap.size, 0, none⟩)))) 110 #[.int .i64 (at_ : Int), .iface 26 (.int .i64 k)]
      simpa using this
  exact ⟨rfl, hR1, only_alloc (only_setCell (World.grownBy.refl w _) (.inl rfl) _) _⟩

/-! What the reader's methods do, told by its bytes, its place and its error. -/
def takeS (l : List Nat) (at_ : Nat) (x : Option (Int × Nat)) (n : Int) : List Nat × Nat × Option (Int × Nat) :=
  match x with
  | some x => ([], at_, some x)
  | none => if n < 0 then ([], at_, some (1, at_)) else if (l.length : Int) - at_ < n then ([], at_, some (2, at_)) else ((l.drop at_).take n.toNat, at_ + n.toNat, none)
def fixS (l : List Nat) (at_ : Nat) (x : Option (Int × Nat)) (n : Int) : Nat × Nat × Option (Int × Nat) :=
  match x with
  | some x => (0, at_, some x)
  | none => if n < 0 ∨ 8 < n then (0, at_, some (1, at_)) else if (l.length : Int) - at_ < n then (0, at_, some (2, at_)) else (unfx ((l.drop at_).take n.toNat), at_ + n.toNat, none)
def failS (at_ : Nat) (x : Option (Int × Nat)) (k : Int) : Option (Int × Nat) :=
  match x with
  | some x => some x
  | none => if k = 0 then none else some (k, at_)
/-- What a method leaves: the reader so, and nothing else that was there changed. -/
def RdTo (w : World) (g : Nat) (l : List Nat) (at_ : Nat) (x : Option (Int × Nat)) (w' : World) : Prop := RdS w' g l at_ x ∧ w.grownBy w' (some g)
theorem RdTo.same {w w' : World} {g : Nat} {l : List Nat} {at_ : Nat} {x : Option (Int × Nat)} (h : RdS w g l at_ x) (hd : Drawn w w') : RdTo w g l at_ x w' := by
  have hb := hd.below (Below.refl w.heap.size w)
  exact ⟨h.next hb, only_below (World.grownBy.refl w _) hb⟩
/-- What a method answers that answers bytes. -/
def Bytes (l : List Nat) (e : Ending) (w' : World) : Prop := ∃ A n c, e = .returned (.slice A n c) ∧ Reads w' w'.heap.size 1 A n (bs l)

theorem left_nil (w : World) : Calls Tryz.prog 72 #[.pointer none] w fun e w' => e = .returned (.int .i64 0) ∧ w = w' := by
  go_enter Tryz.func72, Tryz.ntmps72
  go_wp2_with fail
  go_ret
  exact ⟨rfl, rfl⟩
theorem left_is {w : World} {g : Nat} {l : List Nat} {at_ : Nat} {x : Option (Int × Nat)} (h : RdS w g l at_ x) :
    Calls Tryz.prog 72 #[.pointer (some ⟨g, 0, none⟩)] w fun e w' => e = .returned (.int .i64 ((l.length : Int) - at_)) ∧ Drawn w w' := by
  obtain ⟨A, n, c, err, hR, hE⟩ := h
  exact (left_any hR).mono fun e w' ⟨he, hd⟩ => ⟨by rw [he, hR.length], hd⟩
theorem stop_is {w : World} {g : Nat} {l : List Nat} {at_ : Nat} (k : Int) (h : RdS w g l at_ none) :
    Calls Tryz.prog 71 #[.pointer (some ⟨g, 0, none⟩), .iface 26 (.int .i64 k)] w fun e w' => e = .returned (.tuple #[]) ∧ RdTo w g l at_ (some (k, at_)) w' := by
  obtain ⟨A, n, c, err, hR, rfl⟩ := h
  exact stop_any k hR
theorem stopped_is {w : World} {g : Nat} {l : List Nat} {at_ : Nat} (h : RdS w g l at_ none) :
    Calls Tryz.prog 70 #[.pointer (some ⟨g, 0, none⟩)] w fun e w' => e = .returned (.bool false) ∧ w = w' := by
  obtain ⟨A, n, c, err, hR, rfl⟩ := h
  exact stopped_ok hR

theorem only_trans {a b c : World} {row : Option Nat} (h : a.grownBy b row) (k : b.grownBy c row) : a.grownBy c row := h.trans k
theorem own_far {w : World} {B g i n c : Nat} {A : Option Addr} {e : TypeId} {xs : List Value} (h : w.ownsRow B e 1 (.slice A n c) n xs) (hg : g < B) (u : Value) : Reads (w.setCell ⟨g, i, none⟩ u) (w.setCell ⟨g, i, none⟩ u).heap.size 1 A n xs :=
  Reads.of_own (h.kept (only_setCell (p := ⟨g, i, none⟩) (World.grownBy.refl w (some g)) (.inl rfl) u) (.inr (fun h' => by have := (h.lt g h').1; omega)))
end Go.Proofs.YthlfplljbbnaoaaGreatDoor
