/- Contract of package tree's Fold. No condition. -/
import Derived.Test.YtkopoepoinkpeaaDoorTrFold
namespace Go.Proofs.YtkopoepoinkpeaaDoor
open Go.RowKit
set_option linter.unusedVariables false
set_option linter.unusedSimpArgs false
set_option maxRecDepth 100000

/-- Is there such a leaf, and is the path as long as it has to be? -/
def okF (i n : Int) (m : Nat) : Bool := decide (1 ≤ n ∧ n ≤ 1099511627776 ∧ 0 ≤ i ∧ i < n ∧ m = depD i.toNat n.toNat)
def fldV (d : List Nat) (i n : Int) (ds : List (List Nat)) : List Nat := if okF i n ds.length = true then foldD d i.toNat n.toNat ds else List.replicate 32 0
theorem fldV_len {d : List Nat} (i n : Int) (ds : List (List Nat)) (h : d.length = 32) : (fldV d i n ds).length = 32 := by
  unfold fldV
  split
  · exact foldD_len _ _ _ h
  · simp
/-- What Fold answers. -/
def FoldTo (w : World) (B : Nat) (d : List Nat) (i n : Int) (ds : List (List Nat)) (e : Ending) (w' : World) : Prop := e = .returned (.tuple #[.agg (bs (fldV d i n ds)).toArray, .bool (okF i n ds.length)]) ∧ Below B w w'
theorem bs_zero : (bs (List.replicate 32 0)).toArray = Array.replicate 32 (Value.int .u8 0) := by
  apply Array.ext'
  simp [bs]
theorem okF_no {i n : Int} {m : Nat} (h : ¬ (1 ≤ n ∧ n ≤ 1099511627776 ∧ 0 ≤ i ∧ i < n ∧ m = depD i.toNat n.toNat)) : okF i n m = false := by unfold okF; exact decide_eq_false h
theorem okF_yes {i n : Int} {m : Nat} (h : 1 ≤ n ∧ n ≤ 1099511627776 ∧ 0 ≤ i ∧ i < n ∧ m = depD i.toNat n.toNat) : okF i n m = true := by unfold okF; exact decide_eq_true h
theorem FoldTo.no {w w' : World} {B : Nat} {d : List Nat} {i n : Int} {ds : List (List Nat)} (h : okF i n ds.length = false) (hb : Below B w w') : FoldTo w B d i n ds (.returned (.tuple #[.agg (Array.replicate 32 (.int .u8 0)), .bool false])) w' := by
  refine ⟨?_, hb⟩
  unfold fldV
  rw [h, if_neg (by simp), bs_zero]
theorem results_cell_slot {P : Program} {fn : Func} {p q : Tmp} {ty : TypeId} (h : fn.results = #[.cell p ty, .tmp q]) (tmps : Array Value) (w : World) (g : Nat) (t : TypeId) (cs : Array Value) (fr : Nat × Nat) (d : TypeDesc)
    (hp : tmps.getD p undef = .pointer (some ⟨g, 0, none⟩)) (hg : w.heap[g]? = some (.cells cs t fr))
    (hu : P.underlying ty = some d) (hd : (match d with | .struct _ | .array _ _ => true | _ => false) = true) (hi : (P.info? ty).map (·.size) = some cs.size) :
    (results fn tmps).run P w = .ok (.tuple #[.agg cs, tmps.getD q undef]) w := by
  have hp' : tmps[p]?.getD undef = .pointer (some ⟨g, 0, none⟩) := by simpa using hp
  simp [results, h, hp', asAddr, run_loadVar_row w g t ty cs fr d hg hu hd hi]
theorem z32_all : (Array.replicate 32 (Value.int .u8 0)).all (·.oneCell') = true := by decide +kernel
set_option maxHeartbeats 4000000 in
theorem fold_any (d : List Nat) (i n : Int) (ds : List (List Nat)) (A : Option Addr) (m c : Nat) (w : World) (h32 : d.length = 32) (hd : ∀ b ∈ d, b < 256) (hm : ds.length = m) (hdg : Dg ds) (hat : HsAt w A ds) (hc : m ≤ c) (hm1 : m ≤ 1000000) (hn0 : -9223372036854775808 ≤ n) (ht : ShTab w) :
    Calls Tryd.prog 22 #[.agg (bs d).toArray, .int .i64 i, .int .i64 n, .slice A m c] w (FoldTo w w.heap.size d i n ds) := by
  have hz := (zero_of_info info_hash).1
  have hsz := Lib.hid (zero_of_info info_hash).2
  obtain ⟨VD, hVD, hvz, hon, hvi⟩ := hash_ok d h32
  have b1 := (Below.refl w.heap.size w).alloc (Nat.le_refl _) (.cells VD 31)
  have b2 := b1.alloc b1.size (.cells (Array.replicate 32 (.int .u8 0)) 31)
  have k1 := (Blk.new w 31 VD).alloc (.cells (Array.replicate 32 (.int .u8 0)) 31)
  have k2 := Blk.new (w.alloc (.cells VD 31)) 31 (Array.replicate 32 (.int .u8 0))
  simp only [World.size_alloc] at k2
  obtain ⟨W0, hW0⟩ : ∃ W0, (w.alloc (.cells VD 31)).alloc (.cells (Array.replicate 32 (.int .u8 0)) 31) = W0 := ⟨_, rfl⟩
  have hs0 : W0.heap.size = w.heap.size + 1 + 1 := by rw [← hW0]; simp
  rw [hW0] at b2 k1 k2
  rw [hVD]
  have HRD : Hid (W0.rangeAt w.heap.size 0 (bs d)) := Lib.hid (by rw [← hVD] at k1; exact k1.range)
  have HAT := Lib.hid (hat.next b2)
  have HT := Lib.hid (ht.next b2)
  have HB2 := Lib.hid b2; have HK2 := Lib.hid k2; have HDG := Lib.hid hdg; have HD := Lib.hid hd; have H32 := Lib.hid h32
  have HID := Lib.hid (hash_size d h32)
  have HVD := Lib.hid hVD
  have HM := Lib.hid hm
  have hrs := Lib.hid (show (Tryd.f22).results = #[.cell 8 31, .tmp 9] from rfl)
  clear b1 b2 k1 k2 hs0 hdg hd h32 hVD hvz hon hvi hat ht hm
  by_cases hbig : 1099511627776 < n
  · have HNO := Lib.hid (okF_no (i := i) (n := n) (m := ds.length) (by omega))
    go_enter Tryd.func22, Tryd.ntmps22
    go_wp2_with (refine wpList_store_row (cs' := Array.replicate 32 (.int .u8 0)) (by rfl) (.tmp 8) (.tmp 20) (by rfl) (by rfl) (by rfl) HK2.out (by simpa using hsz.out) (by simp) z32_all ?_)
    refine bodyPost_ret (v := .tuple #[.agg (Array.replicate 32 (.int .u8 0)), .bool false]) (results_cell_slot hrs.out _ _ _ _ _ _ _ (by rfl) (HK2.out.row (Array.replicate 32 (.int .u8 0))) Tryd.underlying31 rfl (by simpa using hsz.out)) rfl (FoldTo.no HNO.out (Below.row HB2.out (by omega) _))
  · have HDP := Lib.hid (depth_any i n W0 hn0 (by omega))
    by_cases hdm : depI i n = (m : Int)
    · have hin : 0 ≤ i ∧ i < n := by
        rcases Int.lt_or_le i 0 with h | h
        · rw [depI_out (.inl h)] at hdm; omega
        · rcases Int.lt_or_le i n with h2 | h2
          · exact ⟨h, h2⟩
          · rw [depI_out (.inr h2)] at hdm; omega
      obtain ⟨a, rfl⟩ : ∃ a : Nat, i = (a : Int) := ⟨i.toNat, by omega⟩
      obtain ⟨N, rfl⟩ : ∃ N : Nat, n = (N : Int) := ⟨n.toNat, by omega⟩
      have hd1 := hdm
      rw [depI_in (by omega)] at hd1
      have hd2 : depD a N = m := by omega
      have hok := okF_yes (i := (a : Int)) (n := (N : Int)) (m := ds.length) ⟨by omega, by omega, hin.1, hin.2, by rw [HM.out, ← hd2]; rfl⟩
      have hfv : fldV d (a : Int) (N : Int) ds = foldD d a N ds := by unfold fldV; rw [if_pos hok]; rfl
      have HOK := Lib.hid hok; have HFV := Lib.hid hfv
      have hcall := folded_any N d a ds A c W0 (by omega) (by omega) H32.out HD.out (by rw [HM.out]; exact hd2.symm) HDG.out HAT.out (by rw [HM.out]; exact hc) (by rw [HM.out]; exact hm1) HT.out
      rw [HVD.out, HM.out] at hcall
      obtain ⟨V, hV, hvz, hon, hvi⟩ := hash_ok (foldD d a N ds) (foldD_len a N ds H32.out)
      have HV := Lib.hid hV; have HVZ := Lib.hid hvz; have HON := Lib.hid hon; have HVI := Lib.hid hvi
      have HC := Lib.hid hcall
      rw [hdm] at HDP
      clear hd1 hd2 hok hfv hV hvz hon hvi hcall hdm
      go_enter Tryd.func22, Tryd.ntmps22
      go_wp2_with fail
      refine HDP.out.mono ?_
      rintro _ _ ⟨rfl, rfl⟩
      go_wp2_with (refine wpQ_load (by rfl) 31 (.tmp 4) rfl w.heap.size 0 rfl (bs d) VD HVD.out _ HRD.out Tryd.underlying31 rfl HID.out ?_)
      refine HC.out.mono ?_
      rintro _ w3 ⟨rfl, hb3⟩
      rw [HV.out]
      have HK3 := Lib.hid (HK2.out.below hb3 HK2.out.lt)
      have HB3 := Lib.hid (HB2.out.trans (hb3.mono HB2.out.size))
      clear hb3
      go_wp2_with (refine wpList_store_row (by rfl) (.tmp 8) (.tmp 25) (by rfl) (by rfl) (by rfl) HK3.out HVI.out (by rw [HVZ.out]; simp) HON.out ?_)
      refine bodyPost_ret (v := .tuple #[.agg V, .bool true]) (results_cell_slot hrs.out _ _ _ _ _ _ _ (by rfl) (HK3.out.row V) Tryd.underlying31 rfl HVI.out) rfl ⟨by rw [HFV.out, HV.out, HOK.out], Below.row HB3.out (by omega) _⟩
    · have HNO := Lib.hid (okF_no (i := i) (n := n) (m := ds.length) (by
        rintro ⟨h1, h2, h3, h4, h5⟩
        apply hdm
        unfold depI
        rw [if_neg (by omega), ← h5, HM.out]))
      obtain ⟨D, hD⟩ : ∃ D, depI i n = D := ⟨_, rfl⟩
      rw [hD] at hdm HDP
      clear hD
      go_enter Tryd.func22, Tryd.ntmps22
      go_wp2_with fail
      refine HDP.out.mono ?_
      rintro _ _ ⟨rfl, rfl⟩
      go_wp2_with (refine wpList_store_row (cs' := Array.replicate 32 (.int .u8 0)) (by rfl) (.tmp 8) (.tmp 20) (by rfl) (by rfl) (by rfl) HK2.out (by simpa using hsz.out) (by simp) z32_all ?_)
      refine bodyPost_ret (v := .tuple #[.agg (Array.replicate 32 (.int .u8 0)), .bool false]) (results_cell_slot hrs.out _ _ _ _ _ _ _ (by rfl) (HK2.out.row (Array.replicate 32 (.int .u8 0))) Tryd.underlying31 rfl (by simpa using hsz.out)) rfl (FoldTo.no HNO.out (Below.row HB2.out (by omega) _))
end Go.Proofs.YtkopoepoinkpeaaDoor
