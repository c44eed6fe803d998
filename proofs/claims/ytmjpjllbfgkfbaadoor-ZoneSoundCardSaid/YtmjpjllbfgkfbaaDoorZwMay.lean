/- Contract of zone's May where there are rows: which truths may be of a predicate is what the document says. -/
import Derived.Deep.RegionHeld
import Derived.Test.YtmjpjllbfgkfbaaDoorZwMv
import Derived.Test.YtmjpjllbfgkfbaaDoorJ3
import Derived.Test.YtmjpjllbfgkfbaaDoorJ5
namespace Go.Proofs.YtmjpjllbfgkfbaaDoor
open Go.RowKit
set_option linter.unusedVariables false
set_option linter.unusedSimpArgs false
set_option maxRecDepth 100000
attribute [local go_sem] Oper.semAt_some wide_fn wide_depth

theorem tru_one (a b c : Bool) : ∀ u ∈ [Value.bool a, .bool b, .bool c], u.oneCell' = true := by
  intro u hu
  simp only [List.mem_cons, List.not_mem_nil, or_false] at hu
  rcases hu with rfl | rfl | rfl <;> rfl
/-- What May makes ahead of its walk. -/
theorem may_mem (w : World) (x0 x1 x2 x3 rw zv : Value) :
    Below (w.heap.size + 1) (w.alloc (.cells #[x0, x1, x2, x3] 26)) (((((w.alloc (.cells #[x0, x1, x2, x3] 26)).alloc (.cells #[rw] 3)).alloc (.cells #[zv] 34)).alloc (.cells #[.bool false, .bool false, .bool false] 56)).alloc (.cells #[.slice none 0 0] 67)) ∧ Below w.heap.size w (((((w.alloc (.cells #[x0, x1, x2, x3] 26)).alloc (.cells #[rw] 3)).alloc (.cells #[zv] 34)).alloc (.cells #[.bool false, .bool false, .bool false] 56)).alloc (.cells #[.slice none 0 0] 67)) ∧
    Blk (((((w.alloc (.cells #[x0, x1, x2, x3] 26)).alloc (.cells #[rw] 3)).alloc (.cells #[zv] 34)).alloc (.cells #[.bool false, .bool false, .bool false] 56)).alloc (.cells #[.slice none 0 0] 67)) (w.heap.size + 1) 3 #[rw] ∧ Blk (((((w.alloc (.cells #[x0, x1, x2, x3] 26)).alloc (.cells #[rw] 3)).alloc (.cells #[zv] 34)).alloc (.cells #[.bool false, .bool false, .bool false] 56)).alloc (.cells #[.slice none 0 0] 67)) (w.heap.size + 1 + 1) 34 #[zv] ∧ Blk (((((w.alloc (.cells #[x0, x1, x2, x3] 26)).alloc (.cells #[rw] 3)).alloc (.cells #[zv] 34)).alloc (.cells #[.bool false, .bool false, .bool false] 56)).alloc (.cells #[.slice none 0 0] 67)) (w.heap.size + 1 + 1 + 1) 56 #[.bool false, .bool false, .bool false] ∧ Blk (((((w.alloc (.cells #[x0, x1, x2, x3] 26)).alloc (.cells #[rw] 3)).alloc (.cells #[zv] 34)).alloc (.cells #[.bool false, .bool false, .bool false] 56)).alloc (.cells #[.slice none 0 0] 67)) (w.heap.size + 1 + 1 + 1 + 1) 67 #[.slice none 0 0] := by
  have b1 := (Below.refl w.heap.size w).alloc (Nat.le_refl _) (.cells #[x0, x1, x2, x3] 26)
  have b2 : Below (w.heap.size + 1) (w.alloc (.cells #[x0, x1, x2, x3] 26)) (((((w.alloc (.cells #[x0, x1, x2, x3] 26)).alloc (.cells #[rw] 3)).alloc (.cells #[zv] 34)).alloc (.cells #[.bool false, .bool false, .bool false] 56)).alloc (.cells #[.slice none 0 0] 67)) := ((((Below.refl _ _).alloc (by simp) _).alloc (by simp) _).alloc (by simp) _).alloc (by simp) _
  have k1 := (((Blk.new (w.alloc (.cells #[x0, x1, x2, x3] 26)) 3 #[rw]).alloc (.cells #[zv] 34)).alloc (.cells #[.bool false, .bool false, .bool false] 56)).alloc (.cells #[.slice none 0 0] 67)
  have k2 := ((Blk.new ((w.alloc (.cells #[x0, x1, x2, x3] 26)).alloc (.cells #[rw] 3)) 34 #[zv]).alloc (.cells #[.bool false, .bool false, .bool false] 56)).alloc (.cells #[.slice none 0 0] 67)
  have k3 := (Blk.new (((w.alloc (.cells #[x0, x1, x2, x3] 26)).alloc (.cells #[rw] 3)).alloc (.cells #[zv] 34)) 56 #[.bool false, .bool false, .bool false]).alloc (.cells #[.slice none 0 0] 67)
  have k4 := Blk.new ((((w.alloc (.cells #[x0, x1, x2, x3] 26)).alloc (.cells #[rw] 3)).alloc (.cells #[zv] 34)).alloc (.cells #[.bool false, .bool false, .bool false] 56)) 67 #[.slice none 0 0]
  simp only [World.size_alloc] at k1 k2 k3 k4
  exact ⟨b2, b1.trans (b2.mono (by omega)), k1, k2, k3, k4⟩
set_option maxHeartbeats 4000000 in
theorem may_main (hF : FmdC) (f : Nat) (w : World) (P : Nat → Prop) (c0 c1 c2 c3 : Value) (p : Pd) (rows : Int) (Az : Option Addr) (m cz : Nat) (zl : List Zn) (hI : IsP f w P [c0, c1, c2, c3] p) (hsm : Small f p) (hnd : ndP p ≤ 1073741824) (hr : 1 ≤ rows) (hz : Reads w w.heap.size 8 Az m (zcs zl)) (hm : m ≤ 100) (hs : Shp w) :
    Calls Tryd.prog 22 #[.agg #[c0, c1, c2, c3], .int .i64 rows, .slice Az m cz] w fun e w' => e = .returned (tW (mayP rows zl p)) ∧ Below w.heap.size w w' := by
  obtain ⟨i2, hi2, hq0, hq1, hq2⟩ := info_parts info_truZ
  refine (callsIn_wide (n := 0)).1 ?_
  refine callsIn_of_wp_marks Tryd.func22 rfl trivial ?_ rfl
  simp only [Tryd.ntmps22, List.size_toArray, List.length_cons, List.length_nil, Nat.reduceAdd, Nat.reduceSub, Array.replicate_succ, Array.replicate_zero, List.push_toArray, List.append_toArray, List.nil_append, List.cons_append]
  obtain ⟨A0, d0, A1, d1, e4⟩ : ∃ A c A' c', [c0, c1, c2, c3] = [.int .i64 p.op, .int .i64 p.col, .slice A p.vals.length c, .slice A' p.parts.length c'] := by
    cases f with
    | zero => exact hI.elim
    | succ f => obtain ⟨A, c, A', c', e, _⟩ := hI; exact ⟨A, c, A', c', e⟩
  injection e4 with e0 e4; injection e4 with e1 e4; injection e4 with e2 e4; injection e4 with e3 _
  subst e0 e1 e2 e3
  obtain ⟨h, hh⟩ : ∃ h, w.heap.size = h := ⟨_, rfl⟩
  have hb1 := (Below.refl w.heap.size w).alloc (Nat.le_refl _) (.cells #[.int .i64 p.op, .int .i64 p.col, .slice A0 p.vals.length d0, .slice A1 p.parts.length d1] 26)
  have hk1 := Blk.new w 26 #[.int .i64 p.op, .int .i64 p.col, .slice A0 p.vals.length d0, .slice A1 p.parts.length d1]
  obtain ⟨r0, hrb0, hro0, hrp0, hra⟩ := tree_of (hI.next hb1) hsm (b := w.heap.size) (o := 0) (by simp) (hk1.cell 0) (hk1.cell 1) (hk1.cell 2) (hk1.cell 3)
  rw [World.size_alloc] at hra
  have hN0 : cntT r0 ≤ 1073741824 := by rw [cntT_nd hra, hrp0]; exact hnd
  have hraz := prT_at (cols := m) hra
  obtain ⟨r, hre⟩ : ∃ r, prT m r0 = r := ⟨_, rfl⟩
  have hrb : r.b = h := by rw [← hre, prT_b, hrb0, hh]
  have hro : r.o = 0 := by rw [← hre, prT_o, hro0]
  have hrp : r.p = p := by rw [← hre, prT_p, hrp0]
  have hN : cntT r ≤ 1073741824 := by rw [← hre]; exact Nat.le_trans (cnt_prT m r0) hN0
  rw [hre] at hraz
  obtain ⟨hW1, hw1, k1, k2, k3, k4⟩ := may_mem w (.int .i64 p.op) (.int .i64 p.col) (.slice A0 p.vals.length d0) (.slice A1 p.parts.length d1) (.int .i64 rows) (.slice Az m cz)
  have hz1 : (((((w.alloc (.cells #[.int .i64 p.op, .int .i64 p.col, .slice A0 p.vals.length d0, .slice A1 p.parts.length d1] 26)).alloc (.cells #[.int .i64 rows] 3)).alloc (.cells #[.slice Az m cz] 34)).alloc (.cells #[.bool false, .bool false, .bool false] 56)).alloc (.cells #[.slice none 0 0] 67)).heap.size = h + 5 := by simp only [World.size_alloc]; omega
  have hr1 : decide (rows < 1) = false := by simp; omega
  have ha1 : allT (NodeZ m (((((w.alloc (.cells #[.int .i64 p.op, .int .i64 p.col, .slice A0 p.vals.length d0, .slice A1 p.parts.length d1] 26)).alloc (.cells #[.int .i64 rows] 3)).alloc (.cells #[.slice Az m cz] 34)).alloc (.cells #[.bool false, .bool false, .bool false] 56)).alloc (.cells #[.slice none 0 0] 67)) (h + 1)) r := by rw [hh] at hraz hW1; exact allT_mono (fun t ht => ht.below hW1) hraz
  rw [hh] at k1 k2 k3 k4 hw1
  have y4 : (((((w.alloc (.cells #[.int .i64 p.op, .int .i64 p.col, .slice A0 p.vals.length d0, .slice A1 p.parts.length d1] 26)).alloc (.cells #[.int .i64 rows] 3)).alloc (.cells #[.slice Az m cz] 34)).alloc (.cells #[.bool false, .bool false, .bool false] 56)).alloc (.cells #[.slice none 0 0] 67)).cell? ⟨h + 1, 0, none⟩ = some (.int .i64 rows) := k1.cell 0
  have y5 : (((((w.alloc (.cells #[.int .i64 p.op, .int .i64 p.col, .slice A0 p.vals.length d0, .slice A1 p.parts.length d1] 26)).alloc (.cells #[.int .i64 rows] 3)).alloc (.cells #[.slice Az m cz] 34)).alloc (.cells #[.bool false, .bool false, .bool false] 56)).alloc (.cells #[.slice none 0 0] 67)).cell? ⟨h + 1 + 1, 0, none⟩ = some (.slice Az m cz) := k2.cell 0
  have hs1 : Shp (((((w.alloc (.cells #[.int .i64 p.op, .int .i64 p.col, .slice A0 p.vals.length d0, .slice A1 p.parts.length d1] 26)).alloc (.cells #[.int .i64 rows] 3)).alloc (.cells #[.slice Az m cz] 34)).alloc (.cells #[.bool false, .bool false, .bool false] 56)).alloc (.cells #[.slice none 0 0] 67)) := hs.next (by rw [hh]; exact hw1)
  have hst := steps_any hF m r (((((w.alloc (.cells #[.int .i64 p.op, .int .i64 p.col, .slice A0 p.vals.length d0, .slice A1 p.parts.length d1] 26)).alloc (.cells #[.int .i64 rows] 3)).alloc (.cells #[.slice Az m cz] 34)).alloc (.cells #[.bool false, .bool false, .bool false] 56)).alloc (.cells #[.slice none 0 0] 67)) (by
      refine allT_mono (fun t ht => ?_) ha1
      obtain ⟨A, c, A', c', g1, g2, g3, g4, g5, g6, g7, g8, g9, g10⟩ := ht
      exact ⟨A, c, A', c', by rw [hz1]; omega, g2, g3, g4, g5, g6.more (by rw [hz1]; omega), g7, g8, fun hk => ⟨(g9 hk).1, fun i s hs => by obtain ⟨b, o, q1, q2, q3, q4⟩ := (g9 hk).2 i s hs; exact ⟨b, o, q1, q2, q3, by rw [hz1]; omega⟩⟩, g10⟩) hN hm hs1
  rw [hrb, hro] at hst
  have HST := Lib.hid hst
  clear hst
  gi_wp2_with (gi_at_call 30; refine (callsIn_wide.2 HST.out).mono ?_; rintro e w3 ⟨qA, qc, rfl, hown3, hb3⟩)
  obtain ⟨W1, hW1e⟩ : ∃ q, (((((w.alloc (.cells #[.int .i64 p.op, .int .i64 p.col, .slice A0 p.vals.length d0, .slice A1 p.parts.length d1] 26)).alloc (.cells #[.int .i64 rows] 3)).alloc (.cells #[.slice Az m cz] 34)).alloc (.cells #[.bool false, .bool false, .bool false] 56)).alloc (.cells #[.slice none 0 0] 67)) = q := ⟨_, rfl⟩
  rw [hW1e] at hown3 hb3 hw1 k1 k2 k3 k4 hz1 ha1 hs1
  have hr1z : Reads W1 h 8 Az m (zcs zl) := by rw [hh] at hz; exact hz.below hw1
  clear hW1e hW1 hb1 hk1 hra hI hsm hnd hs hz hraz hre hrb0 hro0 hrp0 hN0 y4 y5 HST
  obtain ⟨qd, qcap, eqd, hqd, hqlt⟩ := hown3.form (cntT_pos r)
  injection eqd with eqd _ _
  subst eqd
  have hrd := Reads.of_own hown3
  obtain ⟨N, hNe⟩ : ∃ N, cntT r = N := ⟨_, rfl⟩
  have hNp : 0 < N := by rw [← hNe]; exact cntT_pos r
  rw [hNe] at hrd hown3 hN ⊢
  rw [hz1] at hqd hb3
  have hsz3 := hb3.size
  rw [hz1] at hsz3
  gi_wp2_with (gi_at_call 29; refine (callsIn_wide.2 (backS_any _ _ _ _)).mono ?_; rintro e w' ⟨rfl, rfl⟩)
  obtain ⟨b4, hb4⟩ : ∃ b4, w3.heap.size = b4 := ⟨_, rfl⟩
  have hal4 : Below w3.heap.size w3 (w3.alloc (.cells #[.slice (some ⟨qd, 0, none⟩) N qcap] 71)) := (Below.refl _ _).alloc (Nat.le_refl _) _
  have hbk := Blk.new w3 71 #[.slice (some ⟨qd, 0, none⟩) N qcap]
  have hcl3 : ∀ i, i < N → w3.cell? ⟨qd, 0 + i * 2, none⟩ = some (nth r i).ad ∧ w3.cell? ⟨qd, 0 + i * 2 + 1, none⟩ = some (.bool (decide (okT m (nth r i)))) := fun i hi => by
    obtain ⟨_, e, _, hc⟩ := hrd.2 hNp
    injection e with e
    subst e
    obtain ⟨s1, s2⟩ := stvC_at m r hi
    have h1 := hc _ _ s1
    have h2 := hc _ _ s2
    rw [plain_add] at h1 h2
    exact ⟨h1, by rw [Nat.add_assoc]; exact h2⟩
  have hgv := backS_gives qd 0 N qcap b4 (fun i => (nth r i).ad) (fun i => .bool (decide (okT m (nth r i)))) (w3.alloc (.cells #[.slice (some ⟨qd, 0, none⟩) N qcap] 71)) (by rw [← hb4]; exact hbk.cell 0) (by rw [World.size_alloc]; omega) (by rw [World.size_alloc]; omega)
    (fun i hi => ⟨(hal4.cell (p := ⟨qd, 0 + i * 2, none⟩) hqlt).trans (hcl3 i hi).1, (hal4.cell (p := ⟨qd, 0 + i * 2 + 1, none⟩) hqlt).trans (hcl3 i hi).2⟩) (by omega)
  have hsz5 : (w3.alloc (.cells #[.slice (some ⟨qd, 0, none⟩) N qcap] 71)).heap.size = b4 + 1 := by rw [World.size_alloc, hb4]
  have hk5 : Below (h + 5) W1 (w3.alloc (.cells #[.slice (some ⟨qd, 0, none⟩) N qcap] 71)) := hb3.trans (hal4.mono (by omega))
  obtain ⟨W5, hW5⟩ : ∃ q, w3.alloc (.cells #[.slice (some ⟨qd, 0, none⟩) N qcap] 71) = q := ⟨_, rfl⟩
  rw [hb4]
  rw [hW5] at hgv hsz5 hk5 ⊢
  have hra5 : allT (NodeZ m W5 (h + 1)) r := allT_mono (fun t ht => ht.below (hk5.mono (by omega))) ha1
  have hr5 : Reads W5 h 8 Az m (zcs zl) := hr1z.below (hk5.mono (by omega))
  have hk15 := k1.below hk5 (by omega); have hk25 := k2.below hk5 (by omega); have hk35 := k3.below hk5 (by omega); have hk45 := k4.below hk5 (by omega)
  have hw5 : Below w.heap.size w W5 := by rw [hh]; exact hw1.trans (hk5.mono (by omega))
  obtain ⟨tb, htb⟩ : ∃ tb, h + 1 + 1 + 1 + 1 = tb := ⟨_, rfl⟩
  rw [htb] at hk45 ⊢
  have hEv0 : Mvg r rows zl tb (b4 + 1) w W5 0 (fun q => q < b4 + 1 ∨ (Value.slice none 0 0).ownBlock = some q) none 0 0 W5 :=
    ⟨Nat.zero_le _, hk45, by rw [Nat.sub_zero, wood_end]; exact own_nil _ _ _ _, fun q hq => by simp [Value.ownBlock] at hq, fun _ _ _ => rfl, hw5, by omega, rfl⟩
  rw [hb4] at hqlt hsz3
  have htb1 : tb + 1 ≤ b4 := by omega
  have HRA := Lib.hid hra5; have HR5 := Lib.hid hr5; have HK1 := Lib.hid hk15; have HK2 := Lib.hid hk25; have HK3 := Lib.hid hk35; have HNE := Lib.hid hNe
  clear hW5 hbk hal4 hk5 hra5 hr5 hk15 hk25 hk35 hk45 hcl3 hrd hb3 hown3 hr1z k1 k2 k3 k4 ha1 hw1 hb4
  refine range_gives3 (gf := 41) (lb := #[.pointer (some ⟨b4, 0, none⟩)]) rfl (enters_of Tryd.func41 (by kernel_rfl) rfl) hgv
    (fun q hq => by rcases hq with h | h <;> omega) (fun _ => rfl)
    (fun k Cin W => ∃ A2 n c2, Mvg r rows zl tb (b4 + 1) w W5 k Cin A2 n c2 W)
    (fun k bx => { tmps := #[.agg #[.int .i64 p.op, .int .i64 p.col, .slice A0 p.vals.length d0, .slice A1 p.parts.length d1], .int .i64 rows, .slice Az m cz, .pointer (some ⟨h, 0, none⟩), .pointer (some ⟨h + 1, 0, none⟩), .pointer (some ⟨h + 1 + 1, 0, none⟩), .pointer (some ⟨h + 1 + 1 + 1, 0, none⟩), .pointer (some ⟨tb, 0, none⟩), undef, .pointer (some ⟨bx, 0, none⟩), undef, .int .i64 rows, .bool false, undef, .slice Az m cz, .int .i64 (m : Int), .slice (some ⟨qd, 0, none⟩) N qcap, .func (.func 41) #[] #[.pointer (some ⟨b4, 0, none⟩)], .int .i64 ((N - 1 - k : Nat) : Int), .agg #[(nth r (N - 1 - k)).ad, .bool (decide (okT m (nth r (N - 1 - k))))], undef, undef, undef, undef, undef, undef, undef, undef, undef, undef, undef, undef, undef, undef, undef, undef, undef, undef, undef, undef], defers := [] })
    (fun k => .cells #[(nth r (N - 1 - k)).ad, .bool (decide (okT m (nth r (N - 1 - k))))] 73)
    _ ⟨_, _, _, hEv0⟩ ?hI ?hIt ?hIC ?hassign ?hbody ?hdone
  case hI =>
    rintro k Cin Wa Wb ⟨A2, n, c2, Q⟩ hk
    have how := Q.cin
    have hsz2 := Q.size
    exact ⟨A2, n, c2, Q.le, blk_on Q.box hk.block (by rw [how]; exact .inl (by omega)), own_on Q.own hk.block (fun q hq => by rw [how]; exact .inr hq), Q.row, fun j hj hne => (hk.block j (by omega) (by rw [how]; exact .inl hj)).trans (Q.lean j hj hne), Q.below.trans (hk.below (by have := Q.below.size; omega) (fun j hj => by rw [how]; exact .inl (by omega))), Nat.le_trans Q.size hk.size, how⟩
  case hIt =>
    rintro k Cin Wa ⟨A2, n, c2, Q⟩ q hq
    rw [Q.cin] at hq
    have := Q.size
    rcases hq with h | h
    · omega
    · exact (Q.own.lt q h).2
  case hIC =>
    rintro k Cin Wa ⟨A2, n, c2, Q⟩
    rw [hsz5, Q.cin]
    refine ⟨fun h => ?_, fun h => ?_⟩
    · rcases h with h | h
      · omega
      · have := Q.row _ h; omega
    · rcases h with h | h
      · omega
      · have := Q.row _ h; omega
  case hassign =>
    intro lp2 k Wa K hK
    unfold Tr.ad at hK ⊢
    gi_wp2
    exact hK
  case hbody =>
    rintro lp2 k Cin Wi bx hk hbx hbl hbo hbC ⟨A2, n, c2, Q⟩
    obtain ⟨im, him⟩ : ∃ im, N - 1 - k = im := ⟨_, rfl⟩
    have hik : N - k = im + 1 := by omega
    obtain ⟨rest, hwd1, hwd2⟩ := wood_nth (r := r) (k := im) (by rw [HNE.out]; omega)
    have hnd := (nth_all HRA.out (k := im) (by rw [HNE.out]; omega)).kept (w' := Wi) (fun j hj => Q.lean j (by omega) (by omega))
    simp only [him] at hbo ⊢
    obtain ⟨s, hs⟩ : ∃ s, nth r im = s := ⟨_, rfl⟩
    rw [hs] at hnd hwd1 hwd2 hbo ⊢
    obtain ⟨n', hn⟩ : ∃ n', rest.length = n' := ⟨_, rfl⟩
    have hown := Q.own
    rw [HNE.out, hik, hwd2, trz_append, bs3_append] at hown
    obtain ⟨ys, hys⟩ : ∃ ys, bs3 (trz rows zl rest) = ys := ⟨_, rfl⟩
    rw [hys] at hown
    have hyl : ys.length = n' * 3 := by rw [← hys, bs3_length, trz_length, hn]
    have hml : n = n' + s.kids.length := by have := hown.1; rw [List.length_append, hyl, bs3_length, trz_length] at this; omega
    have hmb : n ≤ 1073741824 := by
      have h1 := cnt_wood r (im + 1) (by rw [HNE.out]; omega)
      have h2 := cntL_len (wood r (im + 1))
      rw [hwd2] at h1 h2
      rw [List.length_append, hn] at h2
      rw [HNE.out] at h1
      omega
    obtain ⟨f, hf⟩ : ∃ f, decide (okT m s) = f := ⟨_, rfl⟩
    have hnd' := hnd
    obtain ⟨Av, cv, Ap, cp, hsb, x0, x1, x2, x3, hvr, hvl, hpl, hk1, hk0⟩ := hnd'
    have hND : Nd Wi s.b s.o s.p.op s.p.col Av s.p.vals.length cv Ap s.p.parts.length cp := ⟨by have := Q.size; omega, x0, x1, x2, x3⟩
    obtain ⟨K, hK⟩ : ∃ K, s.kids.length = K := ⟨_, rfl⟩
    have hKf : (if f = true then ((s.p.parts.length : Nat) : Int) else 0) = (K : Int) := by
      cases f with
      | true =>
        have := (hk1 (by simpa using hf)).1
        rw [← hK, ← this]; simp
      | false => rw [← hK, hk0 (by simpa using hf)]; rfl
    have hPA := fun (V : World) (hb : Below Wi.heap.size Wi V) => parts_any f (hND.next hb)
    rw [hKf] at hPA
    have hbox0 : Wi.cell? ⟨tb, 0, none⟩ = some (.slice A2 n c2) := Q.box.cell 0
    rw [hf] at hbo
    have hbxB : Blk Wi bx 73 #[.pointer (some ⟨s.b, s.o, none⟩), .bool f] := hbo
    obtain ⟨_, c2', ec2, hcap, hcm, _⟩ := own_slice hown
    injection ec2 with ea _ ec2
    subst ec2
    clear ea
    rw [hK] at hml
    rw [hf]
    unfold Tr.ad
    have hsz2 := Q.size
    have hw1 : IntKind.i64.wrap ((n : Int) - (K : Int)) = (n' : Int) := by rw [show (n : Int) - (K : Int) = (n' : Int) by omega]; exact IntWalk.i64_in _ (by omega)
    have HPA := Lib.hid hPA
    have htbl : tb < Wi.heap.size := by omega
    have hlow : ∀ j, j < tb → Wi.heap[j]? = W5.heap[j]? := fun j hj => Q.lean j (by omega) (by omega)
    have hnew : ∀ V, Below Wi.heap.size Wi V → ∀ j, j < tb → V.heap[j]? = W5.heap[j]? := fun V hb j hj => (hb.block j (by omega)).trans (hlow j hj)
    have hrest := (Reads.of_own hown).rest (p := n') (by omega) hcap
    rw [List.drop_left' hyl, show n - n' = K by omega] at hrest
    obtain ⟨⟨e0, e1, e2⟩, hE⟩ : ∃ E, mayP rows zl s.p = E := ⟨_, rfl⟩
    have hmay : ∀ V, Below Wi.heap.size Wi V → Calls Tryd.prog 32 #[.agg #[.pointer (some ⟨s.b, s.o, none⟩), .bool f], .int .i64 rows, .slice Az m cz, .slice (if c2 = n' then A2 else A2.map (·.add (n' * 3))) K (c2 - n')] V fun e w' => e = .returned (.agg #[.bool e0, .bool e1, .bool e2]) ∧ Below V.heap.size V w' := fun V hb => by
      have hh5 : h + 1 ≤ Wi.heap.size := by omega
      have hq := stepmay_any (w := V) (B := h + 1) (m := m) (cz := cz) (n := K) (c := c2 - n') (rows := rows) (Az := Az) (A := if c2 = n' then A2 else A2.map (·.add (n' * 3))) (zl := zl) s (hnd.below (hb.mono hh5)) (by have := hb.size; omega) hr
        ((HR5.out.keep (w' := V) (fun q hq => World.cell?_of_block (hnew V hb _ (by omega)))).more (by have := hb.size; omega))
        (fun hok => ⟨by
          have h1 := hk1 hok
          rw [trz_kids, h1.1] at hrest
          exact (hrest.below hb).more hb.size, by have h1 := (hk1 hok).1; rw [← hK, ← h1]; simp, by omega⟩)
      rw [hf, hE] at hq
      exact hq
    have hfront := own_less3 hown (k := n') (by omega)
    rw [List.take_left' hyl] at hfront
    have hne : ∀ q, (Value.slice A2 n' c2).ownBlock = some q → q ≠ tb := fun q hq => by have := Q.row q (by cases A2 <;> exact hq); omega
    have hob : (Value.slice A2 n' c2).ownBlock = (Value.slice A2 n c2).ownBlock := by cases A2 <;> rfl
    have hcin := Q.cin
    have hQr := Q.row; have hQl := Q.lean; have hQb := Q.below; have hQbx := Q.box
    have hbxne : bx ≠ tb := by omega
    have hntb : (Value.slice A2 n' c2).ownBlock ≠ some tb := fun e => hne tb e rfl
    have hnbx : (Value.slice A2 n' c2).ownBlock ≠ some bx := fun e => hbC (by rw [hcin]; exact .inr (hob ▸ e))
    have hfin : ∀ V2, Below Wi.heap.size Wi V2 → ∀ (v4 : Value) (w4 : World), w4.ownsRow 0 66 3 v4 (n' + 1) (ys ++ [.bool e0, .bool e1, .bool e2]) → (V2.alloc (.cells #[.bool e0, .bool e1, .bool e2] 66)).grownBy w4 (Value.slice A2 n' c2).ownBlock →
        (v4.ownBlock = (Value.slice A2 n' c2).ownBlock ∨ v4.ownBlock = some (V2.alloc (.cells #[.bool e0, .bool e1, .bool e2] 66)).heap.size) →
        After (fun j => j = qd ∨ j = b4) (fun Cin W => ∃ A2 n c2, Mvg r rows zl tb (b4 + 1) w W5 (k + 1) Cin A2 n c2 W) Cin Wi (w4.setCell ⟨tb, 0, none⟩ v4) := by
      intro V2 hb v4 w4 ho hg hat
      obtain ⟨P1, P2, P3, P4⟩ := pushT3 (hQbx.below hb htbl) hne ho hg hat
      obtain ⟨A4, c4, rfl, _, _, _⟩ := own_slice ho
      have hV2 := hb.size
      have hQo : ∀ q, (Value.slice A2 n' c2).ownBlock = some q → b4 + 1 + 2 ≤ q := fun q hq => hQr q (hob ▸ hq)
      have hst : ∀ i, i < Wi.heap.size → i ≠ tb → (Value.slice A2 n' c2).ownBlock ≠ some i → (w4.setCell ⟨tb, 0, none⟩ (.slice A4 (n' + 1) c4)).heap[i]? = Wi.heap[i]? := fun i hi h1 h2 =>
        (P3.block i (by omega) ⟨h1, h2⟩).trans (hb.block i (by omega))
      refine ⟨⟨_, ⟨A4, n' + 1, c4, by rw [HNE.out]; omega, P1, ?_, ?_, fun j hj hn => (hst j (by omega) hn (fun e => by have := hQo j e; omega)).trans (hQl j hj hn), ?_, by have := P3.size; omega, rfl⟩, ?_⟩, by have := P3.size; omega, ?_⟩
      · rw [HNE.out, show N - (k + 1) = im by omega, hwd1, trz_cons, bs3_append, hys, hE]
        exact P2
      · intro q hq
        rcases P4 q hq with e | e
        · exact hQo q e
        · omega
      · exact hQb.trans ((hb.mono hQb.size).trans (P3.below (by have := hQb.size; omega) (fun j hj => ⟨by have := hQb.size; omega, fun e => by have := hQo j e; omega⟩)))
      · intro q hq
        rw [hcin]
        rcases hq with h | h
        · exact .inl (.inl h)
        · rcases P4 q h with e | e
          · exact .inl (.inr (hob ▸ e))
          · exact .inr (by omega)
      · intro i hi hx
        rw [hcin] at hx
        rcases hx with h | h
        · exact hst i hi (by omega) (fun e => by have := hQo i e; omega)
        · exact hst i hi (fun e => h (.inl (by omega))) (fun e => h (.inr (hob ▸ e)))
    have HFIN := Lib.hid hfin; have HMAY := Lib.hid hmay
    have HOA := Lib.hid fun (V2 : World) (hb : Below Wi.heap.size Wi V2) => (own_below (own_below hfront hb) ((Below.refl V2.heap.size V2).alloc (Nat.le_refl _) (.cells #[.bool e0, .bool e1, .bool e2] 66)) : (V2.alloc (.cells #[.bool e0, .bool e1, .bool e2] 66)).ownsRow 0 66 3 (.slice A2 n' c2) n' ys)
    have HTB := Lib.hid fun (V2 : World) (hb : Below Wi.heap.size Wi V2) => (show V2.cell? ⟨tb, 0, none⟩ = some (.slice A2 n c2) from (hQbx.below hb htbl).cell 0)
    have HT4 := Lib.hid fun (V2 : World) (hb : Below Wi.heap.size Wi V2) (w4 : World) (hg : (V2.alloc (.cells #[.bool e0, .bool e1, .bool e2] 66)).grownBy w4 (Value.slice A2 n' c2).ownBlock) => (((hQbx.below hb htbl).alloc (.cells #[.bool e0, .bool e1, .bool e2] 66)).grown hg (fun e => hntb e.symm) : Blk w4 tb 67 #[.slice A2 n c2])
    have HS0 : Hid (∀ V2, Below Wi.heap.size Wi V2 → V2.cell? ⟨h + 1, 0, none⟩ = some (.int .i64 rows) ∧ V2.cell? ⟨h + 1 + 1, 0, none⟩ = some (.slice Az m cz) ∧ V2.cell? ⟨bx, 0, none⟩ = some (.pointer (some ⟨s.b, s.o, none⟩)) ∧ V2.cell? ⟨bx, 1, none⟩ = some (.bool f)) := Lib.hid fun V2 hb =>
      ⟨(World.cell?_of_block (hnew V2 hb _ (by show h + 1 < tb; omega))).trans (HK1.out.cell 0), (World.cell?_of_block (hnew V2 hb _ (by show h + 1 + 1 < tb; omega))).trans (HK2.out.cell 0), (hbxB.below hb hbl).cell 0, (hbxB.below hb hbl).cell 1⟩
    have HS4 : Hid (∀ V2, Below Wi.heap.size Wi V2 → ∀ w4 : World, (V2.alloc (.cells #[.bool e0, .bool e1, .bool e2] 66)).grownBy w4 (Value.slice A2 n' c2).ownBlock → ∀ W : World, (∀ j, j < Wi.heap.size → j ≠ tb → W.heap[j]? = w4.heap[j]?) → W.cell? ⟨h + 1, 0, none⟩ = some (.int .i64 rows) ∧ W.cell? ⟨h + 1 + 1, 0, none⟩ = some (.slice Az m cz) ∧ W.cell? ⟨bx, 0, none⟩ = some (.pointer (some ⟨s.b, s.o, none⟩)) ∧ W.cell? ⟨bx, 1, none⟩ = some (.bool f)) := Lib.hid fun V2 hb w4 hg W hW => by
      have hh5 : h + 1 + 1 < Wi.heap.size := by omega
      have hob2 : ∀ q, (Value.slice A2 n' c2).ownBlock = some q → b4 + 1 + 2 ≤ q := fun q hq => hQr q (hob ▸ hq)
      have hst : ∀ i, i < Wi.heap.size → i ≠ tb → (Value.slice A2 n' c2).ownBlock ≠ some i → W.heap[i]? = V2.heap[i]? := fun i hi h1 h2 =>
        (hW i hi h1).trans ((hg.block i (by have := hb.size; simp; omega) (fun e => h2 e.symm)).trans (Below.heap_alloc V2 _ i (by have := hb.size; omega)))
      obtain ⟨g1, g2, g3, g4⟩ := HS0.out V2 hb
      have hc : ∀ q : Addr, q.block < Wi.heap.size → q.block ≠ tb → (Value.slice A2 n' c2).ownBlock ≠ some q.block → W.cell? q = V2.cell? q := fun q h1 h2 h3 => World.cell?_of_block (hst _ h1 h2 h3)
      exact ⟨(hc ⟨h + 1, 0, none⟩ (by show h + 1 < Wi.heap.size; omega) (by show h + 1 ≠ tb; omega) (fun e => by have := hob2 _ e; simp at this; omega)).trans g1, (hc ⟨h + 1 + 1, 0, none⟩ hh5 (by show h + 1 + 1 ≠ tb; omega) (fun e => by have := hob2 _ e; simp at this; omega)).trans g2,
        (hc ⟨bx, 0, none⟩ hbl hbxne hnbx).trans g3, (hc ⟨bx, 1, none⟩ hbl hbxne hnbx).trans g4⟩
    have hnb : n' ≤ 1073741824 := by omega
    have hd1 : n' ≤ c2 := by omega
    have hd2 : n' ≤ n := by omega
    have hsl1 := fun W => sliceT_front A2 n c2 n' (by omega) W
    have hsl2 := fun W => sliceT_rest A2 n c2 n' (by omega) W
    obtain ⟨A6, hA6⟩ : ∃ q, (if c2 = n' then A2 else A2.map (·.add (n' * 3))) = q := ⟨_, rfl⟩
    rw [hA6] at hsl2 HMAY
    rw [show n - n' = K by omega] at hsl2
    obtain ⟨c6, hc6⟩ : ∃ q, c2 - n' = q := ⟨_, rfl⟩
    rw [hc6] at hsl2 HMAY
    clear hc6 hA6 hfin hmay hfront hrest hown hQr hQl hQb hQbx hnd hlow hnew Q hml hE hs hn hys hyl hwd1 hwd2 hmb hpl hob hcin hk hbx hcap hsz2 hND hPA hbxB hbo hk1 hk0 hvr hvl x0 x1 x2 x3 hne hntb hnbx hbxne hsb hK hKf hf him hik hcm hbox0
    gi_wp2
    refine region_in (by kernel_rfl) (by kernel_rfl) (fun _ _ h => by cases h.1) (wpAny_of_held (S := fun w' => Below Wi.heap.size Wi w') _ _ _ _ ?_)
    have hHeld : Below Wi.heap.size Wi Wi.drew := below_drew (Below.refl _ _)
    refine wpAnyH_take (i := 0) (oi := { dst := some 20, op := Op.load 67 (Operand.tmp 7), type := 67, pos := "zone.go:39", after := #[], guard := none }) (v := ?_) rfl (by kernel_rfl) (by kernel_rfl) (by kernel_rfl) (fun _ _ _ h => by cases h.1) (Or.inl ⟨by rfl, ?_⟩) (by assumption) ?_
    rotate_left
    · intro W hSw
      try dsimp only at hSw
      have y0 := HTB.out W hSw
      try clear hSw
      go_simp
      try with_reducible rfl
    try simp only [Act.put, List.setIfInBounds_toArray, List.set_cons_zero, List.set_cons_succ]
    refine wpAnyH_take (i := 1) (oi := { dst := some 21, op := Op.call { callee := Callee.builtin Builtin.len, args := #[Operand.tmp 20], argTypes := #[67] }, type := 3, pos := "zone.go:39", after := #[{ on := 0, ground := Ground.data }], guard := none }) (v := ?_) rfl (by kernel_rfl) (by kernel_rfl) (by kernel_rfl) (fun _ _ _ h => by cases h.1) (Or.inl ⟨by rfl, ?_⟩) (by assumption) ?_
    rotate_left
    · intro W hSw
      try dsimp only at hSw
      try clear hSw
      go_simp
      try with_reducible rfl
    try simp only [Act.put, List.setIfInBounds_toArray, List.set_cons_zero, List.set_cons_succ]
    refine wpAnyH_take (i := 2) (oi := { dst := some 22, op := Op.load 73 (Operand.tmp 9), type := 73, pos := "zone.go:39", after := #[], guard := none }) (v := ?_) rfl (by kernel_rfl) (by kernel_rfl) (by kernel_rfl) (fun _ _ _ h => by cases h.1) (Or.inl ⟨by rfl, ?_⟩) (by assumption) ?_
    rotate_left
    · intro W hSw
      try dsimp only at hSw
      obtain ⟨_, _, y0, y1⟩ := HS0.out W hSw
      try clear hSw
      go_simp
      try with_reducible rfl
    try simp only [Act.put, List.setIfInBounds_toArray, List.set_cons_zero, List.set_cons_succ]
    refine wpAnyH_ready (rs := [3]) (by kernel_rfl) (by simp) ?_
    refine AllReadyH.cons (o := { dst := some 23, op := Op.call { callee := Callee.value (Operand.func 31), args := #[Operand.tmp 22], argTypes := #[73] }, type := 3, pos := "zone.go:39", after := #[{ on := 2, ground := Ground.data }], guard := none }) rfl (fun K hK => ?_) ?_
    · skip
      go_simp
      go_at_call 31
      refine (HPA.out _ hHeld).mono ?_
      rintro e9 V ⟨rfl, hbV⟩
      have hHeld1 := hHeld.trans (hbV.mono hHeld.size)
      clear hbV
      show _
      try go_simp
      clear hHeld
      have hHeld := hHeld1
      clear hHeld1
      refine hK.out _ _ hHeld (fun _ => ?_)
      clear hK K
      try simp only [Act.put, List.setIfInBounds_toArray, List.set_cons_zero, List.set_cons_succ]
      refine wpAnyH_take (i := 4) (oi := { dst := some 24, op := Op.binOp BinOp.sub 3 (Operand.tmp 21) (Operand.tmp 23) 3, type := 3, pos := "zone.go:39", after := #[{ on := 1, ground := Ground.data }, { on := 3, ground := Ground.data }], guard := none }) (v := ?_) rfl (by kernel_rfl) (by kernel_rfl) (by kernel_rfl) (fun _ _ _ h => by cases h.1) (Or.inl ⟨by rfl, ?_⟩) (by assumption) ?_
      rotate_left
      · intro W hSw
        try dsimp only at hSw
        try clear hSw
        go_simp
        try with_reducible rfl
      try simp only [Act.put, List.setIfInBounds_toArray, List.set_cons_zero, List.set_cons_succ]
      refine wpAnyH_take (i := 5) (oi := { dst := some 10, op := Op.assign (Operand.tmp 24), type := 3, pos := "zone.go:39", after := #[{ on := 4, ground := Ground.data }, { on := 3, ground := Ground.chain }, { on := 0, ground := Ground.phase }, { on := 1, ground := Ground.phase }, { on := 2, ground := Ground.phase }, { on := 3, ground := Ground.phase }, { on := 4, ground := Ground.phase }], guard := none }) (v := ?_) rfl (by kernel_rfl) (by kernel_rfl) (by kernel_rfl) (fun _ _ _ h => by cases h.1) (Or.inl ⟨by rfl, ?_⟩) (by assumption) ?_
      rotate_left
      · intro W hSw
        try dsimp only at hSw
        try clear hSw
        go_simp
        try with_reducible rfl
      try simp only [Act.put, List.setIfInBounds_toArray, List.set_cons_zero, List.set_cons_succ]
      refine wpAnyH_done (by kernel_rfl) ?_ _
      gi_wp2
      refine region_in (by kernel_rfl) (by kernel_rfl) (fun _ _ h => by cases h.1) (wpAny_of_held (S := fun w7 => w7.cell? ⟨h + 1, 0, none⟩ = some (.int .i64 rows) ∧ w7.cell? ⟨h + 1 + 1, 0, none⟩ = some (.slice Az m cz) ∧ w7.cell? ⟨bx, 0, none⟩ = some (.pointer (some ⟨s.b, s.o, none⟩)) ∧ w7.cell? ⟨bx, 1, none⟩ = some (.bool f)) _ _ _ _ ?_)
      have hB := below_drew hHeld
      have hHeld1 := HS0.out _ hB
      clear hHeld
      have hHeld := hHeld1
      clear hHeld1
      refine wpAnyH_take (i := 1) (oi := { dst := some 26, op := Op.move (Operand.tmp 10), type := 3, pos := "zone.go:40", after := #[], guard := none }) (v := ?_) rfl (by kernel_rfl) (by kernel_rfl) (by kernel_rfl) (fun _ _ _ h => by cases h.1) (Or.inl ⟨by rfl, ?_⟩) (by assumption) ?_
      rotate_left
      · intro W hSw
        try dsimp only at hSw
        try clear hSw
        go_simp
        try with_reducible rfl
      try simp only [Act.put, List.setIfInBounds_toArray, List.set_cons_zero, List.set_cons_succ]
      refine wpAnyH_take (i := 3) (oi := { dst := some 28, op := Op.load 73 (Operand.tmp 9), type := 73, pos := "zone.go:40", after := #[], guard := none }) (v := ?_) rfl (by kernel_rfl) (by kernel_rfl) (by kernel_rfl) (fun _ _ _ h => by cases h.1) (Or.inl ⟨by rfl, ?_⟩) (by assumption) ?_
      rotate_left
      · intro W hSw
        try dsimp only at hSw
        obtain ⟨_, _, y0, y1⟩ := hSw
        try clear hSw
        go_simp
        try with_reducible rfl
      try simp only [Act.put, List.setIfInBounds_toArray, List.set_cons_zero, List.set_cons_succ]
      refine wpAnyH_take (i := 4) (oi := { dst := some 29, op := Op.load 3 (Operand.tmp 4), type := 3, pos := "zone.go:40", after := #[], guard := none }) (v := ?_) rfl (by kernel_rfl) (by kernel_rfl) (by kernel_rfl) (fun _ _ _ h => by cases h.1) (Or.inl ⟨by rfl, ?_⟩) (by assumption) ?_
      rotate_left
      · intro W hSw
        try dsimp only at hSw
        obtain ⟨y0, _, _, _⟩ := hSw
        try clear hSw
        go_simp
        try with_reducible rfl
      try simp only [Act.put, List.setIfInBounds_toArray, List.set_cons_zero, List.set_cons_succ]
      refine wpAnyH_take (i := 5) (oi := { dst := some 30, op := Op.load 34 (Operand.tmp 5), type := 34, pos := "zone.go:40", after := #[], guard := none }) (v := ?_) rfl (by kernel_rfl) (by kernel_rfl) (by kernel_rfl) (fun _ _ _ h => by cases h.1) (Or.inl ⟨by rfl, ?_⟩) (by assumption) ?_
      rotate_left
      · intro W hSw
        try dsimp only at hSw
        obtain ⟨_, y0, _, _⟩ := hSw
        try clear hSw
        go_simp
        try with_reducible rfl
      try simp only [Act.put, List.setIfInBounds_toArray, List.set_cons_zero, List.set_cons_succ]
      refine wpAnyH_take (i := 7) (oi := { dst := some 32, op := Op.move (Operand.tmp 10), type := 3, pos := "zone.go:40", after := #[], guard := none }) (v := ?_) rfl (by kernel_rfl) (by kernel_rfl) (by kernel_rfl) (fun _ _ _ h => by cases h.1) (Or.inl ⟨by rfl, ?_⟩) (by assumption) ?_
      rotate_left
      · intro W hSw
        try dsimp only at hSw
        try clear hSw
        go_simp
        try with_reducible rfl
      try simp only [Act.put, List.setIfInBounds_toArray, List.set_cons_zero, List.set_cons_succ]
      refine wpAnyH_ready (rs := [0, 6]) (by kernel_rfl) (by simp) ?_
      refine AllReadyH.cons (o := { dst := some 25, op := Op.load 67 (Operand.tmp 7), type := 67, pos := "zone.go:40", after := #[], guard := none }) rfl (fun K hK => ?_) ?_
      · skip
        have y0 := HTB.out _ hB
        go_simp
        clear y0
        have hHeld1 := hHeld
        clear hHeld
        have hHeld := hHeld1
        clear hHeld1
        refine hK.out _ _ hHeld (fun _ => ?_)
        clear hK K
        try simp only [Act.put, List.setIfInBounds_toArray, List.set_cons_zero, List.set_cons_succ]
        refine wpAnyH_take (i := 2) (oi := { dst := some 27, op := Op.slice 67 (Operand.tmp 25) none (some (Operand.tmp 26)) none, type := 67, pos := "zone.go:40", after := #[{ on := 0, ground := Ground.data }, { on := 1, ground := Ground.data }], guard := none }) (v := ?_) rfl (by kernel_rfl) (by kernel_rfl) (by kernel_rfl) (fun _ _ _ h => by cases h.1) (Or.inl ⟨by rfl, ?_⟩) (by assumption) ?_
        rotate_left
        · intro W hSw
          try dsimp only at hSw
          try clear hSw
          go_simp
          try with_reducible rfl
        try simp only [Act.put, List.setIfInBounds_toArray, List.set_cons_zero, List.set_cons_succ]
        refine wpAnyH_ready (rs := [6]) (by kernel_rfl) (by simp) ?_
        refine AllReadyH.cons (o := { dst := some 31, op := Op.load 67 (Operand.tmp 7), type := 67, pos := "zone.go:40", after := #[], guard := none }) rfl (fun K hK => ?_) ?_
        · skip
          have y0 := HTB.out _ hB
          go_simp
          clear y0
          have hHeld1 := hHeld
          clear hHeld
          have hHeld := hHeld1
          clear hHeld1
          refine hK.out _ _ hHeld (fun _ => ?_)
          clear hK K
          try simp only [Act.put, List.setIfInBounds_toArray, List.set_cons_zero, List.set_cons_succ]
          refine wpAnyH_take (i := 8) (oi := { dst := some 33, op := Op.slice 67 (Operand.tmp 31) (some (Operand.tmp 32)) none none, type := 67, pos := "zone.go:40", after := #[{ on := 6, ground := Ground.data }, { on := 7, ground := Ground.data }], guard := none }) (v := ?_) rfl (by kernel_rfl) (by kernel_rfl) (by kernel_rfl) (fun _ _ _ h => by cases h.1) (Or.inl ⟨by rfl, ?_⟩) (by assumption) ?_
          rotate_left
          · intro W hSw
            try dsimp only at hSw
            try clear hSw
            go_simp
            try with_reducible rfl
          try simp only [Act.put, List.setIfInBounds_toArray, List.set_cons_zero, List.set_cons_succ]
          refine wpAnyH_ready (rs := [9]) (by kernel_rfl) (by simp) ?_
          refine AllReadyH.cons (o := { dst := some 34, op := Op.call { callee := Callee.value (Operand.func 32), args := #[Operand.tmp 28, Operand.tmp 29, Operand.tmp 30, Operand.tmp 33], argTypes := #[73, 3, 34, 67] }, type := 66, pos := "zone.go:40", after := #[{ on := 3, ground := Ground.data }, { on := 4, ground := Ground.data }, { on := 5, ground := Ground.data }, { on := 8, ground := Ground.data }], guard := none }) rfl (fun K hK => ?_) ?_
          · skip
            go_simp
            go_at_call 32
            refine (HMAY.out _ hB).mono ?_
            rintro e9 V2 ⟨rfl, hb2⟩
            have hB2 := hB.trans (hb2.mono hB.size)
            have hHeld1 := HS0.out _ hB2
            clear hb2
            show _
            try go_simp
            clear hHeld
            have hHeld := hHeld1
            clear hHeld1
            refine hK.out _ _ hHeld (fun _ => ?_)
            clear hK K
            try simp only [Act.put, List.setIfInBounds_toArray, List.set_cons_zero, List.set_cons_succ]
            refine wpAnyH_ready (rs := [10]) (by kernel_rfl) (by simp) ?_
            refine AllReadyH.cons (o := { dst := some 35, op := Op.buildSlice 67 1 #[(0, Operand.tmp 34)], type := 67, pos := "zone.go:40", after := #[{ on := 9, ground := Ground.data }], guard := none }) rfl (fun K hK => ?_) ?_
            · skip
              go_simp
              have hB3 := hB2.alloc hB2.size (.cells #[.bool e0, .bool e1, .bool e2] 66)
              have hHeld1 := HS0.out _ hB3
              clear hHeld
              have hHeld := hHeld1
              clear hHeld1
              refine hK.out _ _ hHeld (fun _ => ?_)
              clear hK K
              try simp only [Act.put, List.setIfInBounds_toArray, List.set_cons_zero, List.set_cons_succ]
              refine wpAnyH_ready (rs := [11]) (by kernel_rfl) (by simp) ?_
              refine AllReadyH.cons (o := { dst := some 36, op := Op.call { callee := Callee.builtin Builtin.append, args := #[Operand.tmp 27, Operand.tmp 35], argTypes := #[67, 67] }, type := 67, pos := "zone.go:40", after := #[{ on := 2, ground := Ground.data }, { on := 10, ground := Ground.data }, { on := 9, ground := Ground.chain }], guard := none }) rfl (fun K hK => ?_) ?_
              · skip
                have kx := reads_blkZ (Blk.new V2 66 #[.bool e0, .bool e1, .bool e2]) (n := 1) (s := 3) (xs := [.bool e0, .bool e1, .bool e2]) rfl
                rw [World.size_alloc] at kx
                refine step_append_any _ rfl (.tmp 27) (.tmp 35) _ rfl 0 66 i2 _ 3 3 Tryd.underlying67 hi2 hq0 hq1 hq2 rfl (by omega) (.slice A2 n' c2) n' ys (by simp [Act.eval, Act.put])
                  (HOA.out V2 hB2) (V2.heap.size + 1) (some ⟨V2.heap.size, 0, none⟩) 1 1 [.bool e0, .bool e1, .bool e2] (by simp [Act.eval, Act.put]) kx (tru_one _ _ _) (by unfold maxLen; omega) (by omega) (Nat.zero_le _) ?_
                intro v4 w4 hrow4 hg4 hat4
                obtain ⟨A4, c4, rfl, _, _, _⟩ := own_slice hrow4
                have hHeld1 := HS4.out V2 hB2 w4 hg4 w4 (fun _ _ _ => rfl)
                clear kx
                try go_simp
                clear hHeld
                have hHeld := hHeld1
                clear hHeld1
                refine hK.out _ _ hHeld (fun _ => ?_)
                clear hK K
                try simp only [Act.put, List.setIfInBounds_toArray, List.set_cons_zero, List.set_cons_succ]
                refine wpAnyH_ready (rs := [12]) (by kernel_rfl) (by simp) ?_
                refine AllReadyH.cons (o := { dst := none, op := Op.store 67 (Operand.tmp 7) (Operand.tmp 36), type := 0, pos := "zone.go:40", after := #[{ on := 11, ground := Ground.data }, { on := 11, ground := Ground.chain }, { on := 0, ground := Ground.phase }, { on := 1, ground := Ground.phase }, { on := 2, ground := Ground.phase }, { on := 3, ground := Ground.phase }, { on := 4, ground := Ground.phase }, { on := 5, ground := Ground.phase }, { on := 6, ground := Ground.phase }, { on := 7, ground := Ground.phase }, { on := 8, ground := Ground.phase }, { on := 9, ground := Ground.phase }, { on := 10, ground := Ground.phase }, { on := 11, ground := Ground.phase }], guard := none }) rfl (fun K hK => ?_) ?_
                · skip
                  have hf4 := (HT4.out V2 hB2 w4 hg4).frozen 0
                  have hc4 : w4.cell? ⟨tb, 0, none⟩ = some (.slice A2 n c2) := (HT4.out V2 hB2 w4 hg4).cell 0
                  go_simp
                  have hHeld1 := HS4.out V2 hB2 w4 hg4 (w4.setCell ⟨tb, 0, none⟩ (.slice A4 (n' + 1) c4)) (fun j _ hj => Below.heap_setCell w4 ⟨tb, 0, none⟩ _ j hj)
                  clear hHeld
                  have hHeld := hHeld1
                  clear hHeld1
                  refine hK.out _ _ hHeld (fun _ => ?_)
                  clear hK K
                  try simp only [Act.put, List.setIfInBounds_toArray, List.set_cons_zero, List.set_cons_succ]
                  refine wpAnyH_done (by kernel_rfl) ?_ _
                  exact ⟨rfl, HFIN.out V2 hB2 _ _ hrow4 hg4 hat4⟩
                exact AllReadyH.nil
              exact AllReadyH.nil
            exact AllReadyH.nil
          exact AllReadyH.nil
        exact AllReadyH.nil
      refine AllReadyH.cons (o := { dst := some 31, op := Op.load 67 (Operand.tmp 7), type := 67, pos := "zone.go:40", after := #[], guard := none }) rfl (fun K hK => ?_) ?_
      · skip
        have y0 := HTB.out _ hB
        go_simp
        clear y0
        have hHeld1 := hHeld
        clear hHeld
        have hHeld := hHeld1
        clear hHeld1
        refine hK.out _ _ hHeld (fun _ => ?_)
        clear hK K
        try simp only [Act.put, List.setIfInBounds_toArray, List.set_cons_zero, List.set_cons_succ]
        refine wpAnyH_take (i := 8) (oi := { dst := some 33, op := Op.slice 67 (Operand.tmp 31) (some (Operand.tmp 32)) none none, type := 67, pos := "zone.go:40", after := #[{ on := 6, ground := Ground.data }, { on := 7, ground := Ground.data }], guard := none }) (v := ?_) rfl (by kernel_rfl) (by kernel_rfl) (by kernel_rfl) (fun _ _ _ h => by cases h.1) (Or.inl ⟨by rfl, ?_⟩) (by assumption) ?_
        rotate_left
        · intro W hSw
          try dsimp only at hSw
          try clear hSw
          go_simp
          try with_reducible rfl
        try simp only [Act.put, List.setIfInBounds_toArray, List.set_cons_zero, List.set_cons_succ]
        refine wpAnyH_ready (rs := [0, 9]) (by kernel_rfl) (by simp) ?_
        refine AllReadyH.cons (o := { dst := some 25, op := Op.load 67 (Operand.tmp 7), type := 67, pos := "zone.go:40", after := #[], guard := none }) rfl (fun K hK => ?_) ?_
        · skip
          have y0 := HTB.out _ hB
          go_simp
          clear y0
          have hHeld1 := hHeld
          clear hHeld
          have hHeld := hHeld1
          clear hHeld1
          refine hK.out _ _ hHeld (fun _ => ?_)
          clear hK K
          try simp only [Act.put, List.setIfInBounds_toArray, List.set_cons_zero, List.set_cons_succ]
          refine wpAnyH_take (i := 2) (oi := { dst := some 27, op := Op.slice 67 (Operand.tmp 25) none (some (Operand.tmp 26)) none, type := 67, pos := "zone.go:40", after := #[{ on := 0, ground := Ground.data }, { on := 1, ground := Ground.data }], guard := none }) (v := ?_) rfl (by kernel_rfl) (by kernel_rfl) (by kernel_rfl) (fun _ _ _ h => by cases h.1) (Or.inl ⟨by rfl, ?_⟩) (by assumption) ?_
          rotate_left
          · intro W hSw
            try dsimp only at hSw
            try clear hSw
            go_simp
            try with_reducible rfl
          try simp only [Act.put, List.setIfInBounds_toArray, List.set_cons_zero, List.set_cons_succ]
          refine wpAnyH_ready (rs := [9]) (by kernel_rfl) (by simp) ?_
          refine AllReadyH.cons (o := { dst := some 34, op := Op.call { callee := Callee.value (Operand.func 32), args := #[Operand.tmp 28, Operand.tmp 29, Operand.tmp 30, Operand.tmp 33], argTypes := #[73, 3, 34, 67] }, type := 66, pos := "zone.go:40", after := #[{ on := 3, ground := Ground.data }, { on := 4, ground := Ground.data }, { on := 5, ground := Ground.data }, { on := 8, ground := Ground.data }], guard := none }) rfl (fun K hK => ?_) ?_
          · skip
            go_simp
            go_at_call 32
            refine (HMAY.out _ hB).mono ?_
            rintro e9 V2 ⟨rfl, hb2⟩
            have hB2 := hB.trans (hb2.mono hB.size)
            have hHeld1 := HS0.out _ hB2
            clear hb2
            show _
            try go_simp
            clear hHeld
            have hHeld := hHeld1
            clear hHeld1
            refine hK.out _ _ hHeld (fun _ => ?_)
            clear hK K
            try simp only [Act.put, List.setIfInBounds_toArray, List.set_cons_zero, List.set_cons_succ]
            refine wpAnyH_ready (rs := [10]) (by kernel_rfl) (by simp) ?_
            refine AllReadyH.cons (o := { dst := some 35, op := Op.buildSlice 67 1 #[(0, Operand.tmp 34)], type := 67, pos := "zone.go:40", after := #[{ on := 9, ground := Ground.data }], guard := none }) rfl (fun K hK => ?_) ?_
            · skip
              go_simp
              have hB3 := hB2.alloc hB2.size (.cells #[.bool e0, .bool e1, .bool e2] 66)
              have hHeld1 := HS0.out _ hB3
              clear hHeld
              have hHeld := hHeld1
              clear hHeld1
              refine hK.out _ _ hHeld (fun _ => ?_)
              clear hK K
              try simp only [Act.put, List.setIfInBounds_toArray, List.set_cons_zero, List.set_cons_succ]
              refine wpAnyH_ready (rs := [11]) (by kernel_rfl) (by simp) ?_
              refine AllReadyH.cons (o := { dst := some 36, op := Op.call { callee := Callee.builtin Builtin.append, args := #[Operand.tmp 27, Operand.tmp 35], argTypes := #[67, 67] }, type := 67, pos := "zone.go:40", after := #[{ on := 2, ground := Ground.data }, { on := 10, ground := Ground.data }, { on := 9, ground := Ground.chain }], guard := none }) rfl (fun K hK => ?_) ?_
              · skip
                have kx := reads_blkZ (Blk.new V2 66 #[.bool e0, .bool e1, .bool e2]) (n := 1) (s := 3) (xs := [.bool e0, .bool e1, .bool e2]) rfl
                rw [World.size_alloc] at kx
                refine step_append_any _ rfl (.tmp 27) (.tmp 35) _ rfl 0 66 i2 _ 3 3 Tryd.underlying67 hi2 hq0 hq1 hq2 rfl (by omega) (.slice A2 n' c2) n' ys (by simp [Act.eval, Act.put])
                  (HOA.out V2 hB2) (V2.heap.size + 1) (some ⟨V2.heap.size, 0, none⟩) 1 1 [.bool e0, .bool e1, .bool e2] (by simp [Act.eval, Act.put]) kx (tru_one _ _ _) (by unfold maxLen; omega) (by omega) (Nat.zero_le _) ?_
                intro v4 w4 hrow4 hg4 hat4
                obtain ⟨A4, c4, rfl, _, _, _⟩ := own_slice hrow4
                have hHeld1 := HS4.out V2 hB2 w4 hg4 w4 (fun _ _ _ => rfl)
                clear kx
                try go_simp
                clear hHeld
                have hHeld := hHeld1
                clear hHeld1
                refine hK.out _ _ hHeld (fun _ => ?_)
                clear hK K
                try simp only [Act.put, List.setIfInBounds_toArray, List.set_cons_zero, List.set_cons_succ]
                refine wpAnyH_ready (rs := [12]) (by kernel_rfl) (by simp) ?_
                refine AllReadyH.cons (o := { dst := none, op := Op.store 67 (Operand.tmp 7) (Operand.tmp 36), type := 0, pos := "zone.go:40", after := #[{ on := 11, ground := Ground.data }, { on := 11, ground := Ground.chain }, { on := 0, ground := Ground.phase }, { on := 1, ground := Ground.phase }, { on := 2, ground := Ground.phase }, { on := 3, ground := Ground.phase }, { on := 4, ground := Ground.phase }, { on := 5, ground := Ground.phase }, { on := 6, ground := Ground.phase }, { on := 7, ground := Ground.phase }, { on := 8, ground := Ground.phase }, { on := 9, ground := Ground.phase }, { on := 10, ground := Ground.phase }, { on := 11, ground := Ground.phase }], guard := none }) rfl (fun K hK => ?_) ?_
                · skip
                  have hf4 := (HT4.out V2 hB2 w4 hg4).frozen 0
                  have hc4 : w4.cell? ⟨tb, 0, none⟩ = some (.slice A2 n c2) := (HT4.out V2 hB2 w4 hg4).cell 0
                  go_simp
                  have hHeld1 := HS4.out V2 hB2 w4 hg4 (w4.setCell ⟨tb, 0, none⟩ (.slice A4 (n' + 1) c4)) (fun j _ hj => Below.heap_setCell w4 ⟨tb, 0, none⟩ _ j hj)
                  clear hHeld
                  have hHeld := hHeld1
                  clear hHeld1
                  refine hK.out _ _ hHeld (fun _ => ?_)
                  clear hK K
                  try simp only [Act.put, List.setIfInBounds_toArray, List.set_cons_zero, List.set_cons_succ]
                  refine wpAnyH_done (by kernel_rfl) ?_ _
                  exact ⟨rfl, HFIN.out V2 hB2 _ _ hrow4 hg4 hat4⟩
                exact AllReadyH.nil
              exact AllReadyH.nil
            exact AllReadyH.nil
          exact AllReadyH.nil
        refine AllReadyH.cons (o := { dst := some 34, op := Op.call { callee := Callee.value (Operand.func 32), args := #[Operand.tmp 28, Operand.tmp 29, Operand.tmp 30, Operand.tmp 33], argTypes := #[73, 3, 34, 67] }, type := 66, pos := "zone.go:40", after := #[{ on := 3, ground := Ground.data }, { on := 4, ground := Ground.data }, { on := 5, ground := Ground.data }, { on := 8, ground := Ground.data }], guard := none }) rfl (fun K hK => ?_) ?_
        · skip
          go_simp
          go_at_call 32
          refine (HMAY.out _ hB).mono ?_
          rintro e9 V2 ⟨rfl, hb2⟩
          have hB2 := hB.trans (hb2.mono hB.size)
          have hHeld1 := HS0.out _ hB2
          clear hb2
          show _
          try go_simp
          clear hHeld
          have hHeld := hHeld1
          clear hHeld1
          refine hK.out _ _ hHeld (fun _ => ?_)
          clear hK K
          try simp only [Act.put, List.setIfInBounds_toArray, List.set_cons_zero, List.set_cons_succ]
          refine wpAnyH_ready (rs := [0, 10]) (by kernel_rfl) (by simp) ?_
          refine AllReadyH.cons (o := { dst := some 25, op := Op.load 67 (Operand.tmp 7), type := 67, pos := "zone.go:40", after := #[], guard := none }) rfl (fun K hK => ?_) ?_
          · skip
            have y0 := HTB.out _ hB2
            go_simp
            clear y0
            have hHeld1 := hHeld
            clear hHeld
            have hHeld := hHeld1
            clear hHeld1
            refine hK.out _ _ hHeld (fun _ => ?_)
            clear hK K
            try simp only [Act.put, List.setIfInBounds_toArray, List.set_cons_zero, List.set_cons_succ]
            refine wpAnyH_take (i := 2) (oi := { dst := some 27, op := Op.slice 67 (Operand.tmp 25) none (some (Operand.tmp 26)) none, type := 67, pos := "zone.go:40", after := #[{ on := 0, ground := Ground.data }, { on := 1, ground := Ground.data }], guard := none }) (v := ?_) rfl (by kernel_rfl) (by kernel_rfl) (by kernel_rfl) (fun _ _ _ h => by cases h.1) (Or.inl ⟨by rfl, ?_⟩) (by assumption) ?_
            rotate_left
            · intro W hSw
              try dsimp only at hSw
              try clear hSw
              go_simp
              try with_reducible rfl
            try simp only [Act.put, List.setIfInBounds_toArray, List.set_cons_zero, List.set_cons_succ]
            refine wpAnyH_ready (rs := [10]) (by kernel_rfl) (by simp) ?_
            refine AllReadyH.cons (o := { dst := some 35, op := Op.buildSlice 67 1 #[(0, Operand.tmp 34)], type := 67, pos := "zone.go:40", after := #[{ on := 9, ground := Ground.data }], guard := none }) rfl (fun K hK => ?_) ?_
            · skip
              go_simp
              have hB3 := hB2.alloc hB2.size (.cells #[.bool e0, .bool e1, .bool e2] 66)
              have hHeld1 := HS0.out _ hB3
              clear hHeld
              have hHeld := hHeld1
              clear hHeld1
              refine hK.out _ _ hHeld (fun _ => ?_)
              clear hK K
              try simp only [Act.put, List.setIfInBounds_toArray, List.set_cons_zero, List.set_cons_succ]
              refine wpAnyH_ready (rs := [11]) (by kernel_rfl) (by simp) ?_
              refine AllReadyH.cons (o := { dst := some 36, op := Op.call { callee := Callee.builtin Builtin.append, args := #[Operand.tmp 27, Operand.tmp 35], argTypes := #[67, 67] }, type := 67, pos := "zone.go:40", after := #[{ on := 2, ground := Ground.data }, { on := 10, ground := Ground.data }, { on := 9, ground := Ground.chain }], guard := none }) rfl (fun K hK => ?_) ?_
              · skip
                have kx := reads_blkZ (Blk.new V2 66 #[.bool e0, .bool e1, .bool e2]) (n := 1) (s := 3) (xs := [.bool e0, .bool e1, .bool e2]) rfl
                rw [World.size_alloc] at kx
                refine step_append_any _ rfl (.tmp 27) (.tmp 35) _ rfl 0 66 i2 _ 3 3 Tryd.underlying67 hi2 hq0 hq1 hq2 rfl (by omega) (.slice A2 n' c2) n' ys (by simp [Act.eval, Act.put])
                  (HOA.out V2 hB2) (V2.heap.size + 1) (some ⟨V2.heap.size, 0, none⟩) 1 1 [.bool e0, .bool e1, .bool e2] (by simp [Act.eval, Act.put]) kx (tru_one _ _ _) (by unfold maxLen; omega) (by omega) (Nat.zero_le _) ?_
                intro v4 w4 hrow4 hg4 hat4
                obtain ⟨A4, c4, rfl, _, _, _⟩ := own_slice hrow4
                have hHeld1 := HS4.out V2 hB2 w4 hg4 w4 (fun _ _ _ => rfl)
                clear kx
                try go_simp
                clear hHeld
                have hHeld := hHeld1
                clear hHeld1
                refine hK.out _ _ hHeld (fun _ => ?_)
                clear hK K
                try simp only [Act.put, List.setIfInBounds_toArray, List.set_cons_zero, List.set_cons_succ]
                refine wpAnyH_ready (rs := [12]) (by kernel_rfl) (by simp) ?_
                refine AllReadyH.cons (o := { dst := none, op := Op.store 67 (Operand.tmp 7) (Operand.tmp 36), type := 0, pos := "zone.go:40", after := #[{ on := 11, ground := Ground.data }, { on := 11, ground := Ground.chain }, { on := 0, ground := Ground.phase }, { on := 1, ground := Ground.phase }, { on := 2, ground := Ground.phase }, { on := 3, ground := Ground.phase }, { on := 4, ground := Ground.phase }, { on := 5, ground := Ground.phase }, { on := 6, ground := Ground.phase }, { on := 7, ground := Ground.phase }, { on := 8, ground := Ground.phase }, { on := 9, ground := Ground.phase }, { on := 10, ground := Ground.phase }, { on := 11, ground := Ground.phase }], guard := none }) rfl (fun K hK => ?_) ?_
                · skip
                  have hf4 := (HT4.out V2 hB2 w4 hg4).frozen 0
                  have hc4 : w4.cell? ⟨tb, 0, none⟩ = some (.slice A2 n c2) := (HT4.out V2 hB2 w4 hg4).cell 0
                  go_simp
                  have hHeld1 := HS4.out V2 hB2 w4 hg4 (w4.setCell ⟨tb, 0, none⟩ (.slice A4 (n' + 1) c4)) (fun j _ hj => Below.heap_setCell w4 ⟨tb, 0, none⟩ _ j hj)
                  clear hHeld
                  have hHeld := hHeld1
                  clear hHeld1
                  refine hK.out _ _ hHeld (fun _ => ?_)
                  clear hK K
                  try simp only [Act.put, List.setIfInBounds_toArray, List.set_cons_zero, List.set_cons_succ]
                  refine wpAnyH_done (by kernel_rfl) ?_ _
                  exact ⟨rfl, HFIN.out V2 hB2 _ _ hrow4 hg4 hat4⟩
                exact AllReadyH.nil
              exact AllReadyH.nil
            exact AllReadyH.nil
          refine AllReadyH.cons (o := { dst := some 35, op := Op.buildSlice 67 1 #[(0, Operand.tmp 34)], type := 67, pos := "zone.go:40", after := #[{ on := 9, ground := Ground.data }], guard := none }) rfl (fun K hK => ?_) ?_
          · skip
            go_simp
            have hB3 := hB2.alloc hB2.size (.cells #[.bool e0, .bool e1, .bool e2] 66)
            have hHeld1 := HS0.out _ hB3
            clear hHeld
            have hHeld := hHeld1
            clear hHeld1
            refine hK.out _ _ hHeld (fun _ => ?_)
            clear hK K
            try simp only [Act.put, List.setIfInBounds_toArray, List.set_cons_zero, List.set_cons_succ]
            refine wpAnyH_ready (rs := [0]) (by kernel_rfl) (by simp) ?_
            refine AllReadyH.cons (o := { dst := some 25, op := Op.load 67 (Operand.tmp 7), type := 67, pos := "zone.go:40", after := #[], guard := none }) rfl (fun K hK => ?_) ?_
            · skip
              have y0 := HTB.out _ hB3
              go_simp
              clear y0
              have hHeld1 := hHeld
              clear hHeld
              have hHeld := hHeld1
              clear hHeld1
              refine hK.out _ _ hHeld (fun _ => ?_)
              clear hK K
              try simp only [Act.put, List.setIfInBounds_toArray, List.set_cons_zero, List.set_cons_succ]
              refine wpAnyH_take (i := 2) (oi := { dst := some 27, op := Op.slice 67 (Operand.tmp 25) none (some (Operand.tmp 26)) none, type := 67, pos := "zone.go:40", after := #[{ on := 0, ground := Ground.data }, { on := 1, ground := Ground.data }], guard := none }) (v := ?_) rfl (by kernel_rfl) (by kernel_rfl) (by kernel_rfl) (fun _ _ _ h => by cases h.1) (Or.inl ⟨by rfl, ?_⟩) (by assumption) ?_
              rotate_left
              · intro W hSw
                try dsimp only at hSw
                try clear hSw
                go_simp
                try with_reducible rfl
              try simp only [Act.put, List.setIfInBounds_toArray, List.set_cons_zero, List.set_cons_succ]
              refine wpAnyH_ready (rs := [11]) (by kernel_rfl) (by simp) ?_
              refine AllReadyH.cons (o := { dst := some 36, op := Op.call { callee := Callee.builtin Builtin.append, args := #[Operand.tmp 27, Operand.tmp 35], argTypes := #[67, 67] }, type := 67, pos := "zone.go:40", after := #[{ on := 2, ground := Ground.data }, { on := 10, ground := Ground.data }, { on := 9, ground := Ground.chain }], guard := none }) rfl (fun K hK => ?_) ?_
              · skip
                have kx := reads_blkZ (Blk.new V2 66 #[.bool e0, .bool e1, .bool e2]) (n := 1) (s := 3) (xs := [.bool e0, .bool e1, .bool e2]) rfl
                rw [World.size_alloc] at kx
                refine step_append_any _ rfl (.tmp 27) (.tmp 35) _ rfl 0 66 i2 _ 3 3 Tryd.underlying67 hi2 hq0 hq1 hq2 rfl (by omega) (.slice A2 n' c2) n' ys (by simp [Act.eval, Act.put])
                  (HOA.out V2 hB2) (V2.heap.size + 1) (some ⟨V2.heap.size, 0, none⟩) 1 1 [.bool e0, .bool e1, .bool e2] (by simp [Act.eval, Act.put]) kx (tru_one _ _ _) (by unfold maxLen; omega) (by omega) (Nat.zero_le _) ?_
                intro v4 w4 hrow4 hg4 hat4
                obtain ⟨A4, c4, rfl, _, _, _⟩ := own_slice hrow4
                have hHeld1 := HS4.out V2 hB2 w4 hg4 w4 (fun _ _ _ => rfl)
                clear kx
                try go_simp
                clear hHeld
                have hHeld := hHeld1
                clear hHeld1
                refine hK.out _ _ hHeld (fun _ => ?_)
                clear hK K
                try simp only [Act.put, List.setIfInBounds_toArray, List.set_cons_zero, List.set_cons_succ]
                refine wpAnyH_ready (rs := [12]) (by kernel_rfl) (by simp) ?_
                refine AllReadyH.cons (o := { dst := none, op := Op.store 67 (Operand.tmp 7) (Operand.tmp 36), type := 0, pos := "zone.go:40", after := #[{ on := 11, ground := Ground.data }, { on := 11, ground := Ground.chain }, { on := 0, ground := Ground.phase }, { on := 1, ground := Ground.phase }, { on := 2, ground := Ground.phase }, { on := 3, ground := Ground.phase }, { on := 4, ground := Ground.phase }, { on := 5, ground := Ground.phase }, { on := 6, ground := Ground.phase }, { on := 7, ground := Ground.phase }, { on := 8, ground := Ground.phase }, { on := 9, ground := Ground.phase }, { on := 10, ground := Ground.phase }, { on := 11, ground := Ground.phase }], guard := none }) rfl (fun K hK => ?_) ?_
                · skip
                  have hf4 := (HT4.out V2 hB2 w4 hg4).frozen 0
                  have hc4 : w4.cell? ⟨tb, 0, none⟩ = some (.slice A2 n c2) := (HT4.out V2 hB2 w4 hg4).cell 0
                  go_simp
                  have hHeld1 := HS4.out V2 hB2 w4 hg4 (w4.setCell ⟨tb, 0, none⟩ (.slice A4 (n' + 1) c4)) (fun j _ hj => Below.heap_setCell w4 ⟨tb, 0, none⟩ _ j hj)
                  clear hHeld
                  have hHeld := hHeld1
                  clear hHeld1
                  refine hK.out _ _ hHeld (fun _ => ?_)
                  clear hK K
                  try simp only [Act.put, List.setIfInBounds_toArray, List.set_cons_zero, List.set_cons_succ]
                  refine wpAnyH_done (by kernel_rfl) ?_ _
                  exact ⟨rfl, HFIN.out V2 hB2 _ _ hrow4 hg4 hat4⟩
                exact AllReadyH.nil
              exact AllReadyH.nil
            exact AllReadyH.nil
          exact AllReadyH.nil
        exact AllReadyH.nil
      exact AllReadyH.nil
    exact AllReadyH.nil
  case hdone =>
    rintro D Cin Wd hD ⟨A2, n, c2, Q⟩ hK
    rw [hsz5] at hD
    subst hD
    have hown := Q.own
    obtain ⟨⟨e0, e1, e2⟩, hE⟩ : ∃ E, mayP rows zl p = E := ⟨_, rfl⟩
    have hone : trz rows zl (wood r (cntT r - N)) = [(e0, e1, e2)] := by rw [HNE.out, Nat.sub_self]; simp [wood, trz, hrp, hE]
    rw [hone] at hown
    obtain rfl : n = 1 := by have := hown.1; simp [bs3] at this; omega
    have hbx0 : Wd.cell? ⟨tb, 0, none⟩ = some (.slice A2 1 c2) := Q.box.cell 0
    obtain ⟨g, off, rfl, _, v0, v1, v2⟩ := (Reads.of_own hown).tru (show [(e0, e1, e2)][0]? = some (e0, e1, e2) from rfl)
    rw [Nat.zero_mul, Nat.add_zero] at v0 v1 v2
    have k3 : Blk Wd (h + 1 + 1 + 1) 56 #[.bool false, .bool false, .bool false] := (Q.lean (h + 1 + 1 + 1) (by omega) (by omega)).trans HK3.out
    obtain ⟨r0, r1, r2⟩ := blk3 k3
    have z0 := k3.frozen 0; have z1 := k3.frozen 1; have z2 := k3.frozen 2
    have hBb := Q.below
    have hwb : w.heap.size ≤ b4 + 1 := by omega
    obtain ⟨f1, f2⟩ := store3 k3 hBb (by omega) (.bool e0) (.bool e1) (.bool e2)
    have hfar : ∀ (q : Addr), q.block = h + 1 + 1 + 1 → b4 + 1 ≠ q.block := fun q hq => by omega
    have hK3 : (((Wd.setCell ⟨h + 1 + 1 + 1, 0, none⟩ (.bool e0)).setCell ⟨h + 1 + 1 + 1, 1, none⟩ (.bool e1)).setCell ⟨h + 1 + 1 + 1, 2, none⟩ (.bool e2)).heap[b4 + 1]? = some (.deferred (some [])) :=
      (Below.heap_setCell _ ⟨h + 1 + 1 + 1, 2, none⟩ _ _ (hfar _ rfl)).trans ((Below.heap_setCell _ ⟨h + 1 + 1 + 1, 1, none⟩ _ _ (hfar _ rfl)).trans ((Below.heap_setCell _ ⟨h + 1 + 1 + 1, 0, none⟩ _ _ (hfar _ rfl)).trans hK))
    have f3 := f1
    have HF1 := Lib.hid f1; have HF2 := Lib.hid f2; have HK9 := Lib.hid hK3; have HE := Lib.hid hE
    have hh3 : h + 1 + 1 + 1 ≠ b4 + 1 := by omega
    clear Q hown hone hgv hEv0 hrb hro hrp f1 f2 f3 k3 hfar hE hK3 hh
    gi_wp2
    refine ⟨by simp, .inl ⟨_, _, rfl, run_takeDeferred HK9.out, ?_⟩⟩
    refine ⟨.agg #[.bool e0, .bool e1, .bool e2], results_cell_row rfl _ _ _ _ _ _ _ (by rfl) ((World.putObj_heap_other hh3).trans HF1.out) Tryd.underlying56 rfl (by kernel_rfl), ret_of (by rw [HE.out]; rfl), HF2.out.trans (belowK_b (w := w) (Nat.le_refl _) _ (b4 + 1) _ _ (by omega) HK9.out rfl rfl)⟩
end Go.Proofs.YtmjpjllbfgkfbaaDoor
