/- Texts joined: Post Plain Mem Copied Rdr. -/
import Derived.Below
import Derived.ChangeSame
import Derived.ProofKit
import Derived.OpenShut
import Derived.Test.YtieknhhhcjdbnaaDoorWords
import Derived.Deep.QuietTactic
import Derived.BigQuiet
import Derived.Test.YtieknhhhcjdbnaaDoorChecked
import Derived.WalkSpells
/- The last step of a row whose call leaves a world of which only 'Below' is known. -/
namespace Go.Proofs.YtieknhhhcjdbnaaDoor
open Go.RowKit Go.WideShapes Go.ChangeShapes
section
variable {H : Type} {enc : TypeId × Value → H} {P : Program}
theorem post_of_below {f : Func} {s : ChangeSpec} {apart fresh handsOn again : Bool} {W W' : World} {args : Array Value} {v : Value} {ds gs : List (DataW H)} {before pa pv : List MemPlace}
    (hW : DataW.Whole enc P f.params.toList s.vars apart W args.toList ds gs before)
    (hres : ∀ (b : Nat) (sp : Nat → Bool) (hd : Bool), DataW.TrodAll enc P W' b sp hd f.resultTypes.toList (v.resultList f.resultTypes.size) (s.fn H (ds ++ gs)).results [])
    (hargs : ∀ sp : Nat → Bool, (∀ p ∈ before, sp p.block = true) → DataW.TrodAll enc P W' 0 sp true f.params.toList args.toList (s.fn H (ds ++ gs)).args pa)
    (hvars : ∀ sp : Nat → Bool, (∀ p ∈ before, sp p.block = true) → DataW.TrodVars enc P W' sp s.vars (s.fn H (ds ++ gs)).vars pv)
    (hps : before = pa ++ pv) (hb : Below W.heap.size W W')
    (hok : ∀ (j : Nat) (t : TypeId) (r : Value), f.resultTypes[j]? = some t → (v.resultList f.resultTypes.size)[j]? = some r → Value.okWide P W' .any 0 t r) :
    s.post enc P f apart fresh handsOn again W args v W' := by
  have hlt : ∀ p ∈ before, p.block < W.heap.size := fun p hp => hW.lt p hp
  have hold : ∀ p ∈ before, (fun b => decide (b < W.heap.size)) p.block = true := fun p hp => by simpa using hlt p hp
  refine ⟨ds, gs, before, [], pa, pv, hW, hres _ _ _, hargs _ hold, hvars _ hold, World.keptBut_mono (fun p hp => ⟨hp, ?_⟩) (hb.frame (· ∈ before)), fun _ => ?_⟩
  · rw [hps, List.mem_append] at hp
    exact Or.inr hp
  · obtain ⟨_, _, _, _, _, hz, hn⟩ := hW
    refine ⟨hok, _, _, ([] ++ pa) ++ pv, ⟨[] ++ pa, pv, trodAll_append (hargs _ (fun _ _ => rfl)) (hres _ _ _), hvars _ (fun _ _ => rfl), rfl, ?_, ?_⟩, ?_⟩
    · intro b off hp
      have hin : MemPlace.cell b off ∈ before := by rw [hps]; simpa using hp
      rw [hb.frozen (hlt _ hin)]
      exact hz b off hin
    · intro ha
      have := hn ha
      rw [hps] at this
      simpa using this
    · intro p hp _
      rw [hps]
      simpa using hp
end

/-- What the walk is told of a slice of integers that came in. -/
def IsRow (k : IntKind) (w : World) (a : Option Addr) (len cap : Nat) (zs : List Int) : Prop :=
  (a = none ∧ len = 0 ∧ cap = 0 ∧ zs = []) ∨
  ∃ x, a = some x ∧ len ≤ cap ∧ cap ≤ maxLen ∧ zs.length = cap ∧ (∀ i, i < zs.length → w.cell? (x.add i) = some (.int k (zs.getD i 0))) ∧ ∀ n ∈ zs, (Lit.int k n).wf = true
theorem IsRow.bytes {w : World} {a : Option Addr} {len cap : Nat} {zs : List Int} (h : IsRow .u8 w a len cap zs) :
    ∃ l : List Nat, l.length = len ∧ len ≤ cap ∧ Reads w w.heap.size 1 a len (bs l) ∧ ∀ b ∈ l, b < 256 := by
  rcases h with ⟨rfl, rfl, rfl, rfl⟩ | ⟨x, rfl, hl, hm, hz, hcell, hw⟩
  · exact ⟨[], rfl, Nat.le_refl _, Reads.none_, by simp⟩
  · have hr : ∀ n ∈ zs, 0 ≤ n ∧ n ≤ 255 := fun n hn => by have := hw n hn; simpa [Lit.wf, IntKind.min, IntKind.max, IntKind.signed, IntKind.bits] using this
    refine ⟨(zs.take len).map Int.toNat, by simp; omega, hl, ⟨by simp [bs]; omega, fun hn => ⟨x, rfl, ?_, fun j u hu => ?_⟩⟩, ?_⟩
    · have := World.block_lt_of_cell? w _ (hcell 0 (by omega))
      rwa [block_of_add] at this
    · obtain ⟨b, hb, rfl⟩ := bs_at hu
      rw [List.getElem?_map, List.getElem?_take] at hb
      split at hb
      · rename_i hj
        have hjz : j < zs.length := by omega
        rw [List.getElem?_eq_getElem hjz] at hb
        simp at hb
        have h0 := hr _ (List.getElem_mem hjz)
        rw [hcell j hjz]
        simp only [List.getD, List.getElem?_eq_getElem hjz, Option.getD]
        congr 2
        omega
      · cases hb
    · intro b hb
      obtain ⟨z, hz', rfl⟩ := List.mem_map.1 hb
      have := hr z (List.mem_of_mem_take hz')
      omega
theorem u64_of {a : Int} (w : (Lit.int .u64 a).wf = true) : ∃ v : Nat, a = (v : Int) ∧ v < 18446744073709551616 := by
  have hx : 0 ≤ a ∧ a ≤ 18446744073709551615 := by simpa [Lit.wf, IntKind.min, IntKind.max, IntKind.signed, IntKind.bits] using w
  obtain ⟨v, rfl⟩ := Int.eq_ofNat_of_zero_le hx.1
  exact ⟨v, rfl, by omega⟩
theorem i64_of {a : Int} (w : (Lit.int .i64 a).wf = true) : -9223372036854775808 ≤ a ∧ a ≤ 9223372036854775807 := by
  simpa [Lit.wf, IntKind.min, IntKind.max, IntKind.signed, IntKind.bits] using w
theorem u8_of {a : Int} (w : (Lit.int .u8 a).wf = true) : ∃ v : Nat, a = (v : Int) ∧ v < 256 := by
  have hx : 0 ≤ a ∧ a ≤ 255 := by simpa [Lit.wf, IntKind.min, IntKind.max, IntKind.signed, IntKind.bits] using w
  obtain ⟨v, rfl⟩ := Int.eq_ofNat_of_zero_le hx.1
  exact ⟨v, rfl, by omega⟩
end Go.Proofs.YtieknhhhcjdbnaaDoor

/- Plain facts on numbers as bytes: the short number's bytes, the fixed number's bytes and its value. No condition. -/
namespace Go.Proofs.YtieknhhhcjdbnaaDoor

/-- The short number of 'v', with fuel. -/
def vbF : Nat → Nat → List Nat
  | 0, v => [v]
  | f + 1, v => if v < 128 then [v] else (128 + v % 128) :: vbF f (v / 128)
/-- The short number of 'v' (below 2^64). -/
def vb (v : Nat) : List Nat := vbF 9 v

theorem vbF_step (f v : Nat) : vbF (f + 1) v = if v < 128 then [v] else (128 + v % 128) :: vbF f (v / 128) := rfl
theorem vbF_succ (f v : Nat) (h : v < 128 ^ (f + 1)) : vbF (f + 1) v = vbF f v := by
  induction f generalizing v with
  | zero => unfold vbF; rw [if_pos (by simpa using h)]
  | succ f ih =>
    rw [vbF_step (f + 1) v, vbF_step f v]
    by_cases h1 : v < 128
    · rw [if_pos h1, if_pos h1]
    · rw [if_neg h1, if_neg h1, ih]
      rw [Nat.pow_succ] at h
      exact Nat.div_lt_of_lt_mul (by omega)
theorem vb_small (v : Nat) (h : v < 128) : vb v = [v] := by unfold vb; rw [vbF_step, if_pos h]
theorem vb_big (v : Nat) (h : ¬ v < 128) (h2 : v < 18446744073709551616) : vb v = (128 + v % 128) :: vb (v / 128) := by
  unfold vb
  rw [vbF_step 8 v, if_neg h, vbF_succ 8 (v / 128)]
  have : (128 : Nat) ^ (8 + 1) = 9223372036854775808 := by decide
  rw [this]; omega
theorem vbF_length (f v : Nat) : 0 < (vbF f v).length ∧ (vbF f v).length ≤ f + 1 := by
  induction f generalizing v with
  | zero => simp [vbF]
  | succ f ih =>
    rw [vbF_step]
    by_cases h : v < 128
    · rw [if_pos h]; simp
    · rw [if_neg h]; have := ih (v / 128); simp only [List.length_cons]; omega
theorem vb_length (v : Nat) : 0 < (vb v).length ∧ (vb v).length ≤ 10 := by have := vbF_length 9 v; unfold vb; omega
theorem vbF_byte (f v : Nat) (h : v < 128 ^ (f + 1)) : ∀ b ∈ vbF f v, b < 256 := by
  induction f generalizing v with
  | zero => intro b hb; simp [vbF] at hb h; omega
  | succ f ih =>
    rw [vbF_step]
    by_cases h1 : v < 128
    · rw [if_pos h1]; intro b hb; simp at hb; omega
    · rw [if_neg h1]
      intro b hb
      rcases List.mem_cons.1 hb with rfl | hb
      · omega
      · refine ih _ ?_ b hb
        rw [Nat.pow_succ] at h
        exact Nat.div_lt_of_lt_mul (by omega)
theorem vb_byte (v : Nat) (h : v < 18446744073709551616) : ∀ b ∈ vb v, b < 256 :=
  vbF_byte 9 v (by have : (128 : Nat) ^ (9 + 1) = 1180591620717411303424 := by decide
                   rw [this]; omega)

/-- The fixed number of 'v' in 'n' bytes. -/
def fx : Nat → Nat → List Nat
  | 0, _ => []
  | n + 1, v => v % 256 :: fx n (v / 256)
/-- The number that fixed bytes are. -/
def unfx : List Nat → Nat
  | [] => 0
  | b :: l => b + 256 * unfx l
theorem fx_length (n v : Nat) : (fx n v).length = n := by
  induction n generalizing v with
  | zero => rfl
  | succ n ih => simp [fx, ih]
theorem fx_byte (n v : Nat) : ∀ b ∈ fx n v, b < 256 := by
  induction n generalizing v with
  | zero => intro b hb; simp [fx] at hb
  | succ n ih =>
    intro b hb
    rcases List.mem_cons.1 hb with rfl | hb
    · omega
    · exact ih _ b hb
theorem unfx_fx (n v : Nat) : unfx (fx n v) = v % 256 ^ n := by
  induction n generalizing v with
  | zero => simp [fx, unfx, Nat.mod_one]
  | succ n ih =>
    simp only [fx, unfx, ih]
    rw [Nat.pow_succ, Nat.mul_comm (256 ^ n) 256, Nat.mod_mul]
theorem unfx_lt (l : List Nat) (h : ∀ b ∈ l, b < 256) : unfx l < 256 ^ l.length := by
  induction l with
  | nil => simp [unfx]
  | cons b l ih =>
    have h1 := h b (by simp)
    have h2 := ih fun x hx => h x (by simp [hx])
    simp only [unfx, List.length_cons, Nat.pow_succ]
    omega
set_option maxRecDepth 10000 in
theorem bit7' : ∀ b : Fin 256, b.val ||| 128 = 128 + b.val % 128 := by decide +kernel
theorem bit7 (b : Nat) (h : b < 256) : b ||| 128 = 128 + b % 128 := bit7' ⟨b, h⟩
end Go.Proofs.YtieknhhhcjdbnaaDoor

/- Bytes in memory, over this program: a byte slice that is made; what a function answers that hands out new bytes. No condition. -/
namespace Go.Proofs.YtieknhhhcjdbnaaDoor
open Go.RowKit
set_option linter.unusedVariables false
set_option linter.unusedSimpArgs false
set_option maxRecDepth 100000

theorem info_u8 : (Tryd.prog.info? 5).map (fun i => (i.zero, i.size, i.bytes)) = some (some (.int .u8 0), 1, 1) := by kernel_rfl
theorem run_make_u8 (c : Nat) (hc : c ≤ 281474976710656) (w : World) :
    (Instr.makeSlice 22 (.int .i64 0) (.int .i64 (c : Int))).run Tryd.prog w = .ok (.slice (some ⟨w.heap.size, 0, none⟩) 0 c) (w.alloc (.cells (madeCells #[.int .u8 0] c) 5)) := by
  obtain ⟨i, hi, hz0, hz1, hz2⟩ := info_parts info_u8
  have hr := run_make (P := Tryd.prog) w 22 5 i _ Tryd.underlying22 hi hz0 .i64 .i64 0 c (by omega) (by omega) (by rw [hz2]; omega) (by omega)
  rw [hz1] at hr
  simpa [Value.cells] using hr

/-- What a function answers that puts bytes behind bytes: new memory that holds 'xs'. -/
def New (w : World) (xs : List Value) (n : Nat) (e : Ending) (w' : World) : Prop := ∃ v, e = .returned v ∧ w'.ownsRow w.heap.size 5 1 v n xs ∧ Below w.heap.size w w'
/-- Bytes in new memory, and the number of an error. -/
def NewE (w : World) (l : List Nat) (x : Nat) (e : Ending) (w' : World) : Prop :=
  ∃ v, e = .returned (.tuple #[v, .int .i64 (x : Int)]) ∧ w'.ownsRow w.heap.size 5 1 v l.length (bs l) ∧ Below w.heap.size w w'
end Go.Proofs.YtieknhhhcjdbnaaDoor

/- Contract of package num's copied: bytes in new memory. -/
namespace Go.Proofs.YtieknhhhcjdbnaaDoor
open Go.RowKit
set_option linter.unusedVariables false
set_option linter.unusedSimpArgs false
set_option maxRecDepth 100000

theorem copied_any (A : Option Addr) (n c more : Nat) (xs : List Value) (w : World) (hr : Reads w w.heap.size 1 A n xs) (h1 : ∀ u ∈ xs, u.oneCell' = true) (hb : n + more ≤ 140737488355328) :
    Calls Tryd.prog 62 #[.slice A n c, .int .i64 (more : Int)] w fun e w' => ∃ v, e = .returned v ∧ w'.ownsRow w.heap.size 5 1 v n xs ∧ Below w.heap.size w w' := by
  obtain ⟨i0, hi0, hz0, hz1, hz2⟩ := info_parts info_u8
  have hmk : ∀ W : World, (Instr.makeSlice 22 (.int .i64 0) (.int .i64 ((n : Int) + (more : Int)))).run Tryd.prog W = .ok (.slice (some ⟨W.heap.size, 0, none⟩) 0 (n + more)) (W.alloc (.cells (madeCells #[.int .u8 0] (n + more)) 5)) := fun W => run_make_u8 (n + more) (by omega) W
  have hown0 : (w.alloc (.cells (madeCells #[.int .u8 0] (n + more)) 5)).ownsRow w.heap.size 5 1 (.slice (some ⟨w.heap.size, 0, none⟩) 0 (n + more)) 0 [] :=
    World.ownsRow_made w _ _ (Nat.le_refl _) (by unfold maxLen; omega) (by rw [size_madeCells]; omega)
  go_enter Tryd.func62, Tryd.ntmps62
  go_wp2_with (at_builtin
               refine wpList_append_any _ rfl (.tmp 9) (.tmp 10) _ rfl w.heap.size 5 i0 _ 1 1 Tryd.underlying22 hi0 hz0 hz1 hz2 rfl (by omega) (.slice (some ⟨w.heap.size, 0, none⟩) 0 (n + more)) 0 [] rfl
                 hown0 w.heap.size A n c xs rfl (hr.alloc (Nat.le_refl _) _) h1 (by unfold maxLen; omega) (by omega) (by simp) ?_
               intro v1 w1 hown1 hg1 hat1)
  go_ret
  exact ⟨v1, rfl, by simpa using hown1, ((Below.refl _ _).alloc (Nat.le_refl _) _).grown hg1 (by simp) (fun k hk => by simp [Value.ownBlock] at hk; omega)⟩
end Go.Proofs.YtieknhhhcjdbnaaDoor

/- Contracts of package num's Reader: making one, asking whether it has stopped, and what is left. -/
namespace Go.Proofs.YtieknhhhcjdbnaaDoor
open Go.RowKit
set_option linter.unusedVariables false
set_option linter.unusedSimpArgs false
set_option maxRecDepth 100000

/-- A reader that lies in block 'g': its bytes 'l' (below that block), its place, its error. -/
structure Rd (w : World) (g : Nat) (A : Option Addr) (n c at_ : Nat) (err : Value) (l : List Nat) : Prop where
  blk : Blk w g 58 #[.slice A n c, .int .i64 (at_ : Int), err]
  reads : Reads w g 1 A n (bs l)
  cap : n ≤ c
  place : at_ ≤ n
  size : n ≤ 140737488355328
  byte : ∀ b ∈ l, b < 256
theorem Rd.length {w : World} {g : Nat} {A : Option Addr} {n c at_ : Nat} {err : Value} {l : List Nat} (h : Rd w g A n c at_ err l) : l.length = n := by
  have := h.reads.1; rw [bs_length] at this; omega

theorem Rd.drewN {w : World} {g : Nat} {A : Option Addr} {n c at_ : Nat} {err : Value} {l : List Nat} (h : Rd w g A n c at_ err l) (q : Nat) : Rd (w.drewN q) g A n c at_ err l :=
  ⟨h.blk.drewN q, h.reads.drewN q, h.cap, h.place, h.size, h.byte⟩
theorem Rd.goes {w : World} {g : Nat} {A : Option Addr} {n c at_ : Nat} {err : Value} {l : List Nat} (h : Rd w g A n c at_ err l) (q k : Nat) (hk : at_ + k ≤ n) :
    Rd ((w.drewN q).setCell ⟨g, 1, none⟩ (.int .i64 ((at_ : Int) + (k : Int)))) g A n c (at_ + k) err l ∧ w.grownBy ((w.drewN q).setCell ⟨g, 1, none⟩ (.int .i64 ((at_ : Int) + (k : Int)))) (some g) :=
  ⟨⟨by have := (h.blk.drewN q).set_ 1 (.int .i64 ((at_ : Int) + (k : Int))); simpa using this, (h.reads.drewN q).setCell (p := ⟨g, 1, none⟩) (Nat.le_refl _) _, h.cap, hk, h.size, h.byte⟩,
    only_setCell (only_drewN (World.grownBy.refl w _) q) (.inl rfl) _⟩
theorem Rd.below {w w' : World} {g : Nat} {A : Option Addr} {n c at_ : Nat} {err : Value} {l : List Nat} {B : Nat} (h : Rd w g A n c at_ err l) (hb : Below B w w') (hg : g < B) : Rd w' g A n c at_ err l :=
  ⟨h.blk.below hb hg, (h.reads.more (Nat.le_of_lt hg) |>.below hb) |> (fun r => ⟨r.1, fun hn => by
    obtain ⟨ad, e, _, hc⟩ := r.2 hn
    obtain ⟨ad', e', hb', _⟩ := h.reads.2 hn
    rw [e] at e'
    injection e' with e'
    subst e'
    exact ⟨_, e, hb', hc⟩⟩), h.cap, h.place, h.size, h.byte⟩
theorem stopped_nil (w : World) : Calls Tryd.prog 52 #[.pointer none] w fun e w' => e = .returned (.bool true) ∧ w = w' := by
  go_enter Tryd.func52, Tryd.ntmps52
  go_wp2_with fail
  go_ret
  exact ⟨rfl, rfl⟩
theorem stopped_ok {w : World} {g : Nat} {A : Option Addr} {n c at_ : Nat} {l : List Nat} (h : Rd w g A n c at_ .nilIface l) :
    Calls Tryd.prog 52 #[.pointer (some ⟨g, 0, none⟩)] w fun e w' => e = .returned (.bool false) ∧ w = w' := by
  have hc := h.blk.cell 2
  simp only [List.getElem?_toArray, List.getElem?_cons_succ, List.getElem?_cons_zero] at hc
  go_enter Tryd.func52, Tryd.ntmps52
  go_wp2_with fail
  go_ret
  exact ⟨rfl, rfl⟩

theorem left_any {w : World} {g : Nat} {A : Option Addr} {n c at_ : Nat} {err : Value} {l : List Nat} (h : Rd w g A n c at_ err l) :
    Calls Tryd.prog 48 #[.pointer (some ⟨g, 0, none⟩)] w fun e w' => e = .returned (.int .i64 ((n : Int) - at_)) ∧ Drawn w w' := by
  have hc0 := h.blk.cell 0
  have hc := h.blk.cell 1
  simp only [List.getElem?_toArray, List.getElem?_cons_succ, List.getElem?_cons_zero] at hc hc0
  have hs := h.size
  have hp := h.place
  go_enter Tryd.func48, Tryd.ntmps48
  go_wp2_with fail
  go_quiet (fail)
  go_wp2_with fail
  go_ret
  exact ⟨rfl, Drawn.one _ _⟩


theorem clone_any (A : Option Addr) (n c : Nat) (xs : List Value) (w : World) (hr : Reads w w.heap.size 1 A n xs) (h1 : ∀ u ∈ xs, u.oneCell' = true) (hb : n ≤ 140737488355328) :
    Calls Tryd.prog 23 #[.slice A n c] w (New w xs n) := by
  obtain ⟨i0, hi0, hz0, hz1, hz2⟩ := info_parts info_u8
  rcases A with _ | ad
  · have hn : n = 0 := by
      rcases Nat.eq_zero_or_pos n with h0 | h0
      · exact h0
      · obtain ⟨ad, h, _⟩ := hr.2 h0
        cases h
    subst hn
    have hx : xs = [] := List.eq_nil_of_length_eq_zero (by simpa using hr.1)
    subst hx
    have he := Lib.run_eql_slice_nil (P := Tryd.prog) w 22 5 none 0 c 0 0 Tryd.underlying22
    go_enter Tryd.func23, Tryd.ntmps23
    go_wp2_with fail
    go_ret
    exact ⟨_, rfl, World.ownsRow_nil _ _ _ _, Below.refl _ _⟩
  · have he := Lib.run_eql_slice_nil (P := Tryd.prog) w 22 5 (some ad) n c 0 0 Tryd.underlying22
    have hown0 : (w.alloc (.cells #[] 5)).ownsRow w.heap.size 5 1 (.slice (some ⟨w.heap.size, 0, none⟩) 0 0) 0 [] :=
      World.ownsRow_made w _ _ (Nat.le_refl _) (by unfold maxLen; omega) rfl
    go_enter Tryd.func23, Tryd.ntmps23
    go_wp2_with (at_builtin
                 refine wpList_append_any _ rfl (.tmp 5) (.tmp 6) _ rfl w.heap.size 5 i0 _ 1 1 Tryd.underlying22 hi0 hz0 hz1 hz2 rfl (by omega) (.slice (some ⟨w.heap.size, 0, none⟩) 0 0) 0 [] rfl
                   hown0 w.heap.size (some ad) n c xs rfl (hr.alloc (Nat.le_refl _) _) h1 (by unfold maxLen; omega) (by omega) (by simp) ?_
                 intro v1 w1 hown1 hg1 hat1)
    go_ret
    exact ⟨v1, rfl, by simpa using hown1, ((Below.refl _ _).alloc (Nat.le_refl _) _).grown hg1 (by simp) (fun k hk => by simp [Value.ownBlock] at hk; omega)⟩

theorem newReader_any (A : Option Addr) (n c : Nat) (l : List Nat) (w : World) (hr : Reads w w.heap.size 1 A n (bs l)) (hb : n ≤ 140737488355328) (h256 : ∀ b ∈ l, b < 256) :
    Calls Tryd.prog 6 #[.slice A n c] w fun e w' => ∃ g A' c', e = .returned (.pointer (some ⟨g, 0, none⟩)) ∧ w.heap.size ≤ g ∧ Rd w' g A' n c' 0 .nilIface l ∧ Below w.heap.size w w' := by
  go_enter Tryd.func6, Tryd.ntmps6
  go_wp2_with (go_at_call 23; refine (clone_any A n c (bs l) w hr (bs_one l) hb).mono ?_; rintro e w1 ⟨v, rfl, hown, hbl⟩; obtain ⟨A', c', rfl, hnc, hc', hr'⟩ := own_slice hown)
  go_ret
  refine ⟨_, A', c', rfl, hbl.size, ⟨?_, hr'.alloc (Nat.le_refl _) _, hnc, Nat.zero_le _, hb, h256⟩, hbl.alloc hbl.size _⟩
  exact Blk.new _ _ _

end Go.Proofs.YtieknhhhcjdbnaaDoor
