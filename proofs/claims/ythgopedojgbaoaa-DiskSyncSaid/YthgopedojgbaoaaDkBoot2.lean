/- Contract of package disk's Boot: the loop. -/
import Derived.Outline
import Derived.IntWalk
import Derived.Test.YthgopedojgbaoaaDkBoot
namespace Go.Proofs.Ythgopedojgbaoaa
open Go.RowKit Go.Maps Go.WideMaps Go.ChangeMaps
set_option linter.unusedVariables false
set_option linter.unusedSimpArgs false
set_option maxRecDepth 100000

section
variable {w w1 : World} {X X1 : Nat → Prop} {d m : Nat} {D : DataW Unit} {C : Nat → Value} {S : St}
/-- What holds ahead of the name 'k' of the names 'ts', of a start at 'S'. -/
def BootAt (w2 : World) (X : Nat → Prop) (d : Nat) (ts : List (List UInt8)) (S : St) (l : List Int) (k : Nat) (A : Option Addr) (n c : Nat) (wr : World) : Prop :=
  Dsk wr X d (bootS (ts.take k) (S, l)).1 ∧ Step w2 X wr X ∧ Ints w2 X A n c (bootS (ts.take k) (S, l)).2
theorem boot_start (h : Dsk w X d S) (z : Int) (hz : z = -1) : Dsk ((w.setCell ⟨d, 4, none⟩ (.bool false)).setCell ⟨d, 3, none⟩ (.int .i64 z)) X d { S with down := false, fuse := -1 } ∧ Step w X ((w.setCell ⟨d, 4, none⟩ (.bool false)).setCell ⟨d, 3, none⟩ (.int .i64 z)) X := by
  subst hz
  obtain ⟨hok, m, D, C, h⟩ := h
  have h1 := h.setObj (w' := w.setCell ⟨d, 4, none⟩ (.bool false)) (S' := { S with down := false }) (by simp [World.setCell]) (fun i _ hi => Below.heap_setCell _ _ _ _ hi) (by have := h.obj.set_ 4 (.bool false); exact this) rfl rfl
  have h2 := h1.setObj (w' := (w.setCell ⟨d, 4, none⟩ (.bool false)).setCell ⟨d, 3, none⟩ (.int .i64 (-1))) (S' := { S with down := false, fuse := -1 }) (by simp [World.setCell]) (fun i _ hi => Below.heap_setCell _ _ _ _ hi) (by have := h1.obj.set_ 3 (.int .i64 (-1)); exact this) rfl rfl
  exact ⟨⟨(hok.fell false).fused (n := -1) (by omega), m, D, C, h2⟩, ((Step.refl w X).setCell h.xd _).setCell h.xd _⟩
theorem Ints.step {A : Option Addr} {n c : Nat} {l : List Int} (h : Ints w X A n c l) (hs : Step w X w1 X1) : Ints w1 X1 A n c l := by
  refine ⟨(Reads.cells h.rd fun hn ad j e hb => hs.cell (by rw [block_of_add]; exact hb) (by rw [block_of_add]; exact h.off hn ad e)).more hs.size, fun hn ad e hX => ?_, h.rng, h.cap⟩
  rcases hs.new _ hX with h1 | h1
  · exact h.off hn ad e h1
  · obtain ⟨ad', e', hb, _⟩ := h.rd.2 hn
    rw [e] at e'
    cases e'
    omega
theorem bootAt_more {w2 : World} {ts : List (List UInt8)} {k : Nat} {t : List UInt8} (ht : ts[k]? = some t) {S0 : St} {l : List Int} : bootS (ts.take (k + 1)) (S0, l) = bootK t (bootS (ts.take k) (S0, l)) := by
  rw [List.take_add_one, ht, Option.toList_some, bootS_snoc]
theorem bootK_rest {Sk : St} {lk : List Int} {t : List UInt8} {f : Fl} (hf : Sk.V t = some f) (h : ¬ f.2 < f.1.length ∨ lk = []) : bootK t (Sk, lk) = ((actSync t Sk f).2, lk) := by
  unfold bootK
  rw [hf]
  have e : bootF f lk = ((f.1, f.1.length), lk) := by
    unfold bootF
    rcases h with h | h
    · cases lk with
      | nil => rfl
      | cons z r => exact if_neg h
    · subst h; rfl
  simp only [e]
  unfold actSync
  simp
theorem bootK_cut {Sk : St} {r : List Int} {z : Int} {t : List UInt8} {f : Fl} (hf : Sk.V t = some f) (h : f.2 < f.1.length) {n : Nat} (hn : n = f.2 + (modu z ((f.1.length - f.2 : Nat) + 1)).toNat) (hle : n ≤ f.1.length) :
    bootK t (Sk, z :: r) = ((actSync t (Sk.cut t f n) (f.1.take n, min f.2 n)).2, r) := by
  unfold bootK
  rw [hf]
  have e : bootF f (z :: r) = ((f.1.take n, n), r) := by exact (if_pos h).trans (by rw [← hn])
  simp only [e]
  unfold actSync St.cut
  simp only
  rw [upd_upd]
  have : (f.1.take n).length = n := by rw [List.length_take]; omega
  rw [this]
set_option maxHeartbeats 1000000 in
theorem Boot_any (h : Dsk w X d S) (A : Option Addr) (n c : Nat) (l : List Int) (hl : Ints w X A n c l) :
    Calls Try.prog 12 #[.pointer (some ⟨d, 0, none⟩), .slice A n c] w (BootD w X d S l) := by
  obtain ⟨m0, q0, q1, q2, q3, q4, fz⟩ := h.cells
  have f3 := fz 3
  have f4 := fz 4
  have hst := boot_start h (-1) rfl
  have hX := h.lt
  have hsz : ((w.setCell ⟨d, 4, none⟩ (.bool false)).setCell ⟨d, 3, none⟩ (.int .i64 (-1))).heap.size = w.heap.size := by simp [World.setCell]
  have HST := Lib.hid hst
  have HSZ := Lib.hid hsz
  clear hst fz hsz
  go_enter Try.func12, Try.ntmps12
  go_wp2_with fail
  refine (Names_up HST.out.1 rfl).mono ?_
  rintro e w2 ⟨v, ts, rfl, hts, hrow, hb⟩
  have hs2 := HST.out.2.trans (Step.of_below hb X)
  have hD2 := HST.out.1.keep hb.size (fun i hi => hb.block i (by rw [HSZ.out]; exact hX i hi))
  have hl2 := hl.step hs2
  have hbase : ∀ g, v.ownBlock = some g → ¬ X g := fun g e hx => by
    have h1 := (hrow.lt g e).1
    have h2 := hX g hx
    rw [HSZ.out] at h1
    omega
  have hV : ∀ t, t ∈ ts → (S.V t).isSome = true := fun t ht => (hts.mem t).1 ht
  obtain ⟨An, cn, rfl, hn1, hn2, hnr⟩ := own_slice hrow
  have hfin : ∀ w', Dsk w' X d (bootS ts ({ S with down := false, fuse := -1 }, l)).1 → Step w2 X w' X → BootD w X d S l (.returned (.tuple #[])) w' := fun w' hd hs => ⟨rfl, ts, hts, hd, hs2.trans hs⟩
  obtain ⟨S0, hS0⟩ : ∃ S0, ({ S with down := false, fuse := -1 } : St) = S0 := ⟨_, rfl⟩
  have hV0 : S0.V = S.V := by rw [← hS0]
  rw [hS0] at hD2 hfin
  have hname : ∀ k, k < ts.length → ∃ t, ts[k]? = some t ∧ t ∈ ts := fun k hk => ⟨ts[k], List.getElem?_eq_getElem hk, List.getElem_mem hk⟩
  obtain ⟨N, hN⟩ : ∃ N, ts.length = N := ⟨_, rfl⟩
  rw [hN] at hn1 hnr hname hbase ⊢
  have htl : ts.take N = ts := by rw [← hN]; exact List.take_length
  have HS0 := Lib.hid hS0
  have HV0 := Lib.hid hV0
  have HV := Lib.hid hV
  have HN := Lib.hid hN
  have HTL := Lib.hid htl
  have HFIN := Lib.hid hfin
  have HNM := Lib.hid hname
  have HB := Lib.hid hbase
  have HX := Lib.hid hX
  clear hS0 hN hfin hrow hb hts hl h hs2 hV0 hV htl hname hbase hX q0 q1 q2 q3 q4 f3 f4
  unfold maxLen at hn2
  go_wp2_with fail
  go_loopg [1, 19] N (fun g s1 s19 wr => ∃ (k : Nat) (A' : Option Addr) (n' c' : Nat), k + g = N ∧ s19 = .int .i64 (k : Int) ∧ s1 = .slice A' n' c' ∧ BootAt w2 X d ts S0 l k A' n' c' wr)
  case atStart => exact ⟨0, A, n, c, by omega, rfl, rfl, hD2, Step.refl _ _, hl2⟩
  case round =>
    obtain ⟨k, A', n', c', hkg, rfl, rfl, hB⟩ := hrel
    cases gk with
    | zero =>
      obtain rfl : k = N := by omega
      unfold BootAt at hB
      rw [HTL.out] at hB
      obtain ⟨hb1, hb2, _⟩ := hB
      clear hkg
      go_wp2_with fail
      go_end0
      exact HFIN.out _ hb1 hb2
    | succ g =>
      have hk : k < N := by omega
      obtain ⟨t, ht, htm⟩ := HNM.out k hk
      obtain ⟨⟨hok, m, D, C, hD⟩, hs, hI⟩ := hB
      have hdom := bootS_dom (ts.take k) (S0, l) t
      have hmore := bootAt_more (w2 := w2) ht (S0 := S0) (l := l)
      obtain ⟨⟨Sk, lk⟩, hx⟩ : ∃ x, bootS (ts.take k) (S0, l) = x := ⟨_, rfl⟩
      rw [hx] at hok hD hI hdom hmore
      simp only [HV0.out, HV.out t htm] at hdom
      obtain ⟨f, hf⟩ := Option.isSome_iff_exists.1 hdom
      obtain ⟨b, hat, hF⟩ := hD.fs t f hf
      obtain ⟨bn, on, rfl, _, hnc⟩ := hnr.plain (by omega)
      have hnx := HB.out bn rfl
      have hcell : wr.cell? ⟨bn, on + k, none⟩ = some (Go.Proofs.encStr t) := by
        have h0 := hnc k (Go.Proofs.encStr t) (by rw [List.getElem?_map, ht]; rfl)
        exact hs.at_ h0 (by assumption) hnx
      have hstr : Go.Proofs.encStr t = .string ⟨t.toArray⟩ := rfl
      rw [hstr] at hcell
      have htd : (⟨t.toArray⟩ : ByteArray).data.toList = t := by simp
      have hnm := hok.name _ _ hf
      have hkey : keyOf Try.prog 9 (.string ⟨t.toArray⟩) = some (.string t) := by
        have h0 := key_of (s := ⟨t.toArray⟩) (by have := nm_size (s := ⟨t.toArray⟩) (by rw [htd]; exact hnm); unfold maxLen; omega)
        rw [htd] at h0
        exact h0
      obtain ⟨v, ps, hrun, hv1⟩ := hD.map.lookup kS Try.underlying50 (zeroF wr) ptrR_nil hkey
      have hat0 := hat
      unfold At at hat
      rw [hat] at hv1
      obtain rfl := ptrR_inv hv1
      obtain ⟨A1, c1, hC, hc1, hc2, hr⟩ := own_slice hF.own
      have b0 : wr.cell? ⟨b, 0, none⟩ = some (.slice A1 f.1.length c1) := by rw [hF.blk.cell 0, hC]; rfl
      have b1 : wr.cell? ⟨b, 1, none⟩ = some (.int .i64 (f.2 : Int)) := hF.blk.cell 1
      have g1 := hF.blk.frozen 1
      obtain ⟨u0, u1, u2, u3, u4⟩ := hD.cells
      have hlen := hok.len hf
      have hsure := hok.sure _ _ hf
      by_cases hc : f.2 < f.1.length ∧ ∃ z r, lk = z :: r
      · obtain ⟨hlt, z, r, rfl⟩ := hc
        have hmd := modu_in (n := z) (m := ((f.1.length - f.2 : Nat) + 1 : Int)) (by omega)
        obtain ⟨q, hq⟩ : ∃ q : Nat, modu z ((f.1.length - f.2 : Nat) + 1) = (q : Int) := ⟨(modu z ((f.1.length - f.2 : Nat) + 1)).toNat, by omega⟩
        rw [hq] at hmd
        have hle : f.2 + q ≤ f.1.length := by omega
        rw [bootK_cut hf hlt (n := f.2 + q) (by rw [hq]; rfl) hle] at hmore
        have hz := hI.rng z (by simp)
        have hlr := hI.len
        have hcp := hI.cap
        have hln : n' = r.length + 1 := by rw [← hlr]; rfl
        have hIt := hI.tail
        obtain ⟨bk, ok, rfl, hk0⟩ := hI.plain hs
        have hok1 := hok.cut (m := f.2 + q) hf hle
        have hV1 : (Sk.cut t f (f.2 + q)).V t = some (f.1.take (f.2 + q), min f.2 (f.2 + q)) := by unfold St.cut; exact upd_same _ _ _
        have hl1 : (f.1.take (f.2 + q)).length = f.2 + q := by rw [List.length_take]; omega
        have hend : ∀ w0 wc C', Drawn wr w0 → Step w0 X wc X → DskAt wc X d m D C' (Sk.cut t f (f.2 + q)) →
            BootAt w2 X d ts S0 l (k + 1) (if c' = 1 then some ⟨bk, ok, none⟩ else (some (⟨bk, ok, none⟩ : Addr)).map (·.add 1)) (n' - 1) (c' - 1) (wc.setCell ⟨b, 1, none⟩ (.int .i64 ((f.2 : Int) + (q : Int)))) := by
          intro w0 wc C' hd0 hsc hdc
          have h0 := hdc.synced hat0 hV1 ((f.2 : Int) + (q : Int)) (by rw [hl1]; omega)
          have hok2 := hok1.sync (k := t) hV1
          unfold BootAt
          rw [hmore]
          exact ⟨⟨hok2, m, D, _, h0.1⟩, ((hs.trans (Step.of_drawn hd0 X)).trans hsc).trans h0.2, hIt⟩
        have hcall : ∀ w0, Drawn wr w0 → _ := fun w0 hd0 => cut_any (hD.drawn hd0) hok hat0 hf (f.2 + q) hle
        have hfile : ∀ wc C', DskAt wc X d m D C' (Sk.cut t f (f.2 + q)) → ∃ A2 c2, wc.cell? ⟨b, 0, none⟩ = some (.slice A2 (f.2 + q) c2) ∧ (∃ y : Int, wc.cell? ⟨b, 1, none⟩ = some (.int .i64 y)) ∧ wc.frozen? ⟨b, 1, none⟩ = false := by
          intro wc C' hdc
          obtain ⟨f9, hf9, hF9⟩ := hdc.some_of hat0
          rw [hV1] at hf9
          cases hf9
          obtain ⟨A2, c2, hC2, _⟩ := own_slice hF9.own
          rw [hl1] at hC2
          exact ⟨A2, c2, by rw [hF9.blk.cell 0, hC2]; rfl, ⟨_, hF9.blk.cell 1⟩, hF9.blk.frozen 1⟩
        simp only [Int.natCast_add] at hcall
        obtain ⟨L, hL⟩ : ∃ L, f.1.length = L := ⟨_, rfl⟩
        obtain ⟨sr, hsr⟩ : ∃ sr, f.2 = sr := ⟨_, rfl⟩
        rw [hL] at hlen hsure b0 hlt hle hq hmd
        rw [hsr] at hend hsure b1 hlt hle hq hcall hfile hmd
        have h1 : (0 : Int) < (L : Int) - (sr : Int) := by omega
        have h2 : decide ((0 : Int) < (L : Int) - (sr : Int)) = true := decide_eq_true h1
        have hz1 := hz.1
        have hz2 := hz.2
        have hmst : ∀ W, Calls Try.prog 29 #[.int .i64 z, .int .i64 ((L : Int) - (sr : Int) + 1)] W fun e w' => e = .returned (.int .i64 (q : Int)) ∧ w' = W := by
          intro W
          have h0 := modulo_still z ((L : Int) - (sr : Int) + 1) hz (by omega) (by omega) W
          have e : (((L - sr : Nat) : Int) + 1) = (L : Int) - (sr : Int) + 1 := by omega
          rw [e] at hq
          rw [hq] at h0
          exact h0
        have hn0 : (0 : Int) < (n' : Int) := by omega
        have hn1' : (1 : Int) ≤ (n' : Int) := by omega
        have hcn' : (n' : Int) ≤ (c' : Int) := by omega
        have hcm : c' ≤ 9223372036854775807 := by have := hcp.2; unfold maxLen at this; omega
        have hcc : (c' = 1 ∧ ∀ w0 wc C', Drawn wr w0 → Step w0 X wc X → DskAt wc X d m D C' (Sk.cut t f (sr + q)) → BootAt w2 X d ts S0 l (k + 1) (some ⟨bk, ok, none⟩) (n' - 1) 0 (wc.setCell ⟨b, 1, none⟩ (.int .i64 ((sr : Int) + (q : Int))))) ∨
            (c' ≠ 1 ∧ ∀ w0 wc C', Drawn wr w0 → Step w0 X wc X → DskAt wc X d m D C' (Sk.cut t f (sr + q)) → BootAt w2 X d ts S0 l (k + 1) (some ⟨bk, ok + 1, none⟩) (n' - 1) (c' - 1) (wc.setCell ⟨b, 1, none⟩ (.int .i64 ((sr : Int) + (q : Int))))) := by
          by_cases h1 : c' = 1
          · rw [if_pos h1, h1] at hend
            exact .inl ⟨h1, hend⟩
          · rw [if_neg h1] at hend
            exact .inr ⟨h1, hend⟩
        clear hend
        have HCALL := Lib.hid hcall
        have HFILE := Lib.hid hfile
        have HT := Lib.hid ht
        have HI := Lib.hid hI
        have HIT := Lib.hid hIt
        have HMS := Lib.hid hmst
        have HLN := Lib.hid hln
        clear hcall hfile hmst hq hL hsr ht hI hIt hmore hx hf hat hat0 hF hD hr hC hdom htd hnm htm hok hc1 hc2 hs hok1 hV1 hl1 hlr hln hcp hz
        rcases hcc with ⟨hc1', HEND0⟩ | ⟨hc1', HEND0⟩
        all_goals
          have HEND := Lib.hid HEND0
          clear HEND0
          go_wp2_with fail
          go_region
          go_wp2_with fail
          have hwr1 : IntKind.i64.wrap ((L : Int) - (sr : Int) + 1) = (L : Int) - (sr : Int) + 1 := IntWalk.i64_in _ (by omega)
          have hwr2 : IntKind.i64.wrap ((sr : Int) + (q : Int)) = (sr : Int) + (q : Int) := IntWalk.i64_in _ (by omega)
          refine wp_region_still_tail 13 (by kernel_rfl) (by kernel_rfl) ?_
          simp only [List.take_succ_cons, List.take_zero, List.drop_succ_cons, List.drop_zero]
          change wpStill _ _ wr.drew.drew _ _ _
          repeat still_step
          still_call (HMS.out _)
          repeat still_step
          refine wpStill_nil ?_
          clear hwr1 hwr2
          go_wp2_with fail
          refine (HCALL.out _ (Drawn.one wr 2)).mono ?_
          rintro e wc ⟨rfl, hsc, C', hdc⟩
          obtain ⟨A2, c2, v0, ⟨y, v1⟩, v2⟩ := HFILE.out wc C' hdc
          have HDC := Lib.hid hdc
          have HSC := Lib.hid hsc
          clear hdc hsc
          go_wp2_with fail
          go_roundg g
          case rel => exact ⟨k + 1, _, _, _, by omega, by simp, rfl, HEND.out wr.drew.drew wc C' (Drawn.one wr 2) HSC.out HDC.out⟩
          case measure => exact Nat.lt_succ_self _
      · have hrest : ¬ f.2 < f.1.length ∨ lk = [] := by
          by_cases h1 : f.2 < f.1.length
          · right
            cases lk with
            | nil => rfl
            | cons z r => exact absurd ⟨h1, z, r, rfl⟩ hc
          · exact .inl h1
        rw [bootK_rest hf hrest] at hmore
        have hn' : ¬ f.2 < f.1.length ∨ n' = 0 := by
          rcases hrest with h1 | h1
          · exact .inl h1
          · right; have := hI.len; rw [h1] at this; exact this.symm
        have hend : ∀ w0, Drawn wr w0 → BootAt w2 X d ts S0 l (k + 1) A' n' c' (w0.setCell ⟨b, 1, none⟩ (.int .i64 (f.1.length : Int))) := by
          intro w0 hd0
          have h0 := (hD.drawn hd0).synced hat0 hf _ rfl
          have hok2 := hok.sync (k := t) hf
          unfold BootAt
          rw [hmore]
          exact ⟨⟨hok2, m, D, _, h0.1⟩, (hs.trans (Step.of_drawn hd0 X)).trans h0.2, hI⟩
        obtain ⟨L, hL⟩ : ∃ L, f.1.length = L := ⟨_, rfl⟩
        obtain ⟨sr, hsr⟩ : ∃ sr, f.2 = sr := ⟨_, rfl⟩
        rw [hL] at hend hn' hlen hsure b0
        rw [hsr] at hn' hsure b1
        have hD1 : (¬ (0 : Int) < (L : Int) - (sr : Int) ∧ decide ((0 : Int) < (L : Int) - (sr : Int)) = false) ∨ ((0 : Int) < (L : Int) - (sr : Int) ∧ decide ((0 : Int) < (L : Int) - (sr : Int)) = true ∧ n' = 0) := by
          by_cases h1 : (0 : Int) < (L : Int) - (sr : Int)
          · right
            exact ⟨h1, decide_eq_true h1, by rcases hn' with h2 | h2 <;> omega⟩
          · exact .inl ⟨h1, decide_eq_false h1⟩
        have HEND := Lib.hid hend
        have HT := Lib.hid ht
        have HI := Lib.hid hI
        clear hend hL hsr ht hI hmore hx hf hat hat0 hF hD hr hC hc hrest hn' hdom htd hnm htm hok hc1 hc2 hs
        rcases hD1 with ⟨h1, h2⟩ | ⟨h1, h2, rfl⟩
        all_goals
          go_wp2_with fail
          go_region
          go_wp2_with fail
          go_roundg g
          case rel => exact ⟨k + 1, _, _, _, by omega, by simp, rfl, HEND.out _ (Drawn.one wr 1)⟩
          case measure => exact Nat.lt_succ_self _
end
end Go.Proofs.Ythgopedojgbaoaa
