import Derived.Deep.RegionLaw
import Derived.Deep.RegionWith
import Derived.Deep.DeepCutAuto
import Derived.Deep.CutBlock
import Derived.Deep.AppendLies
import Derived.Test.YtpgdlmnhomnblaaGreatDoorJ41
import Derived.Test.YtpgdlmnhomnblaaGreatDoorJ31
import Derived.Test.YtpgdlmnhomnblaaGreatDoorJ32
import Derived.Test.YtpgdlmnhomnblaaGreatDoorJ23
import Derived.Test.YtpgdlmnhomnblaaGreatDoorJ44
import Derived.Test.YtpgdlmnhomnblaaGreatDoorJ33
import Derived.Test.YtpgdlmnhomnblaaGreatDoorZnRefOf
import Derived.Test.YtpgdlmnhomnblaaGreatDoorJ34
import Derived.Test.YtpgdlmnhomnblaaGreatDoorGrNew
namespace Go.Proofs.YtpgdlmnhomnblaaGreatDoor
open Go.RowKit
set_option linter.unusedVariables false
set_option linter.unusedSimpArgs false
set_option maxRecDepth 100000
attribute [local go_sem ↓] Go.wp_at_zero Go.wp_at_succ
theorem info_hdr : (Tryz.prog.info? 42).map (fun i => (i.zero, i.size)) = some (some (.agg (#[.int .i64 0, .int .i64 0] ++ Array.replicate 32 (.int .u8 0) ++ #[.slice none 0 0])), 35) := by kernel_rfl
theorem info_chd : (Tryz.prog.info? 57).map (fun i => (i.zero, i.size)) = some (some (.agg (#[.int .i64 0, .bool false, .int .i64 0, .int .i64 0, .string ⟨#[]⟩, .int .i64 0, .int .i64 0, .string ⟨#[]⟩] ++ Array.replicate 32 (.int .u8 0))), 40) := by kernel_rfl
theorem size_refG : (Tryz.prog.info? 33).map (·.size) = some 3 := by kernel_rfl
theorem range_rowG {W : World} {g b o : Nat} {cs : List Value} (V : Array Value) (h : W.rangeAt b o cs) (hne : b ≠ g) : (W.setRow g V).rangeAt b o cs :=
  fun j v hv => (World.cell?_of_block (a := ⟨b, o + j, none⟩) (setRow_other W g b V (by omega))).trans (h j v hv)
theorem range_nextG {W W' : World} {b o : Nat} {cs : List Value} (h : W.rangeAt b o cs) (hb : b < W.heap.size) (hw : Below W.heap.size W W') : W'.rangeAt b o cs :=
  fun j v hv => (hw.cell (p := ⟨b, o + j, none⟩) hb).trans (h j v hv)
theorem range_blkG {w : World} {g : Nat} {t : TypeId} {l : List Value} (h : Blk w g t l.toArray) : w.rangeAt g 0 l := fun j v hv => by
  rw [Nat.zero_add, h.cell]
  simpa using hv
theorem wpQ_loadG {P : Program} {ops : Array Oper} {rest : List Oper} {op : Oper} {a : Act} {w : World} {Q : Exit → Act → World → Prop} (hgd : op.guard = none) (ty : TypeId) (x : Operand) (ho : op.op = .load ty x)
    (b o : Nat) (hx : a.eval x = .pointer (some ⟨b, o, none⟩)) (cs : List Value) (X : Array Value) (hX : cs.toArray = X) (d : TypeDesc) (hc : w.rangeAt b o cs)
    (hu : P.underlying ty = some d) (hd : d.isRow = true) (hi : (P.info? ty).map (·.size) = some cs.length)
    (h : wpList P ops Q rest (a.put op.dst (.agg X)) w) : wpList P ops Q (op :: rest) a w := by
  subst hX
  exact wpList_load_mid hgd ty x ho b o hx cs d hc hu hd hi h
theorem reads_oneG {W : World} {g s : Nat} {t : TypeId} {l : List Value} (h : Blk W g t l.toArray) (hl : l.length = s) : Reads W (g + 1) s (some ⟨g, 0, none⟩) 1 l := by
  refine ⟨by omega, fun _ => ⟨_, rfl, Nat.lt_succ_self _, fun j u hu => ?_⟩⟩
  rw [plain_add, Nat.zero_add, h.cell]
  simpa using hu
def hdC (n L : Int) (D : List Value) (v : Value) : List Value := [Value.int .i64 n, .int .i64 L] ++ D ++ [v]
theorem hdC_len {n L : Int} {D : List Value} {v : Value} (h : D.length = 32) : (hdC n L D v).length = 35 := by simp [hdC, h]
theorem hdC_at {n L : Int} {D : List Value} {v : Value} (h : D.length = 32) : (hdC n L D v)[34]? = some v := by
  unfold hdC
  rw [List.getElem?_append_right (by simp [h])]
  simp [h]
theorem build_hdr (w : World) (n L : Int) (X : Array Value) (hX : X.size = 32) :
    (Instr.build 42 #[(0, .int .i64 n), (1, .int .i64 L), (2, .agg X)]).run Tryz.prog w = .ok (.agg (hdC n L X.toList (.slice none 0 0)).toArray) w := by
  have hz := (zero_of_info info_hdr).1 w
  have lX : X.toList.length = 32 := by simpa using hX
  obtain ⟨zs, hzs⟩ : ∃ zs, [Value.int .i64 0, .int .i64 0] ++ List.replicate 32 (Value.int .u8 0) ++ [Value.slice none 0 0] = zs := ⟨_, rfl⟩
  have hzl : zs.length = 35 := by rw [← hzs]; simp
  have hlist : #[.int .i64 0, .int .i64 0] ++ Array.replicate 32 (Value.int .u8 0) ++ #[.slice none 0 0] = zs.toArray := by rw [← hzs, ← List.toArray_replicate]; simp
  have hz34 : zs.drop 34 = [Value.slice none 0 0] := by rw [← hzs]; simp
  rw [hlist] at hz
  clear hzs hlist
  have hf : ∀ place : Nat → Option (Nat × Nat), place 0 = some (0, 1) → place 1 = some (1, 1) → place 2 = some (2, 32) → Instr.fill place zs.toArray [(0, .int .i64 n), (1, .int .i64 L), (2, .agg X)] = some (hdC n L X.toList (.slice none 0 0)).toArray := by
    intro place p0 p1 p2
    have e1 : zs.take 0 ++ (Value.int .i64 n).cells.toList ++ zs.drop (0 + 1) = [Value.int .i64 n] ++ zs.drop 1 := by simp [Value.cells]
    have e2 : ([Value.int .i64 n] ++ zs.drop 1).take 1 ++ (Value.int .i64 L).cells.toList ++ ([Value.int .i64 n] ++ zs.drop 1).drop (1 + 1) = [Value.int .i64 n, .int .i64 L] ++ zs.drop 2 := by simp [Value.cells, List.drop_drop]
    have e3 : ([Value.int .i64 n, .int .i64 L] ++ zs.drop 2).take 2 ++ (Value.agg X).cells.toList ++ ([Value.int .i64 n, .int .i64 L] ++ zs.drop 2).drop (2 + 32) = hdC n L X.toList (.slice none 0 0) := by
      have h34 : (zs.drop 2).drop 32 = zs.drop 34 := by rw [List.drop_drop]
      show [Value.int .i64 n, .int .i64 L] ++ X.toList ++ (zs.drop 2).drop 32 = _
      rw [h34, hz34]
      rfl
    rw [fill_step place zs 0 0 1 (.int .i64 n) _ p0 rfl (by omega), e1, fill_step place _ 1 1 1 (.int .i64 L) _ p1 rfl (by simp; omega), e2, fill_step place _ 2 2 32 (.agg X) [] p2 hX (by simp; omega), e3, Instr.fill]
  unfold Instr.build
  simp only [Sem.run_bind, hz, Result.andThen_ok]
  show ((Sem.run Tryz.prog (underlying 42) w).andThen _) = _
  generalize Instr.fill = F at hf ⊢
  simp [go_sem, Tryz.underlying42, hf]
theorem build_chd (w : World) (X Y : Array Value) (hX : X.size = 8) (hY : Y.size = 32) :
    (Instr.build 57 #[(0, .agg X), (1, .agg Y)]).run Tryz.prog w = .ok (.agg (X.toList ++ Y.toList).toArray) w := by
  have hz := (zero_of_info info_chd).1 w
  have lX : X.toList.length = 8 := by simpa using hX
  have lY : Y.toList.length = 32 := by simpa using hY
  obtain ⟨zs, hzs⟩ : ∃ zs, [Value.int .i64 0, .bool false, .int .i64 0, .int .i64 0, .string ⟨#[]⟩, .int .i64 0, .int .i64 0, .string ⟨#[]⟩] ++ List.replicate 32 (Value.int .u8 0) = zs := ⟨_, rfl⟩
  have hzl : zs.length = 40 := by rw [← hzs]; simp
  have hlist : #[.int .i64 0, .bool false, .int .i64 0, .int .i64 0, .string ⟨#[]⟩, .int .i64 0, .int .i64 0, .string ⟨#[]⟩] ++ Array.replicate 32 (Value.int .u8 0) = zs.toArray := by rw [← hzs, ← List.toArray_replicate]; simp
  rw [hlist] at hz
  clear hzs hlist
  have hf : ∀ place : Nat → Option (Nat × Nat), place 0 = some (0, 8) → place 1 = some (8, 32) → Instr.fill place zs.toArray [(0, .agg X), (1, .agg Y)] = some (X.toList ++ Y.toList).toArray := by
    intro place p0 p1
    have e1 : zs.take 0 ++ X.toList ++ zs.drop (0 + 8) = X.toList ++ zs.drop 8 := by simp
    have e2 : (X.toList ++ zs.drop 8).take 8 ++ Y.toList ++ (X.toList ++ zs.drop 8).drop (8 + 32) = X.toList ++ Y.toList := by
      rw [List.take_left' lX, List.drop_of_length_le (l := X.toList ++ zs.drop 8) (by rw [List.length_append, List.length_drop]; omega), List.append_nil]
    rw [fill_step place zs 0 0 8 (.agg X) _ p0 hX (by omega)]
    show Instr.fill place (zs.take 0 ++ X.toList ++ zs.drop (0 + 8)).toArray _ = _
    rw [e1, fill_step place _ 1 8 32 (.agg Y) [] p1 hY (by rw [List.length_append, lX, List.length_drop]; omega)]
    show Instr.fill place ((X.toList ++ zs.drop 8).take 8 ++ Y.toList ++ (X.toList ++ zs.drop 8).drop (8 + 32)).toArray [] = _
    rw [e2, Instr.fill]
  unfold Instr.build
  simp only [Sem.run_bind, hz, Result.andThen_ok]
  show ((Sem.run Tryz.prog (underlying 57) w).andThen _) = _
  generalize Instr.fill = F at hf ⊢
  simp [go_sem, Tryz.underlying57, hf]
section
variable {w : World} {S A D : Option Addr} {m cs n c cd : Nat} {sl : List Cl} {rows : List (List Vl)} {Z : List Nat}
set_option maxHeartbeats 8000000 in
theorem refHeader_any (hS : Reads w w.heap.size 3 S m (cls sl)) (hsl : sl.length = m) (hm : m ≤ 65536) (hV : VV w A rows) (hrn : rows.length = n) (hn : n ≤ 300) (hr : Reads w w.heap.size 1 D n (bl (bit Z) n)) (hok : OkS n Z)
    (hlen : ∀ r ∈ rows, r.length = m) (hi : ∀ k, ∀ v ∈ colV rows k, In64 v.1 ∧ In64 v.2.1) (hq : ∀ k, k < m → ∀ v ∈ colV rows k, v.2.2.length ≤ 65536) :
    Calls Tryz.prog 30 #[.agg #[.slice S m cs, .slice A n c, .slice D n cd]] w fun e w' => ∃ v, e = .returned (hdA (n : Int) ((n : Int) - (cnt (bit Z) n : Int)) (bs (shaN Z)) v) ∧ w'.ownsRow w.heap.size 57 40 v m (hcs (hdsG sl rows m)) ∧ Below w.heap.size w w' := by
  obtain ⟨L, hL⟩ : ∃ L : Int, (n : Int) - (cnt (bit Z) n : Int) = L := ⟨_, rfl⟩
  have HLV0 := Lib.hid fun (W : World) (hb : Below w.heap.size w W) => refLive_any (S := S) (m := m) (cs := cs) (A := A) (c := c) (cd := cd) (hr.next hb) (by omega)
  rw [hL] at HLV0 ⊢
  obtain ⟨zl, hzl⟩ : ∃ zl, Z.length = zl := ⟨_, rfl⟩
  have hzs : zl ≤ 8192 := by have := hok.len; unfold siz at this; omega
  have HBY0 := Lib.hid fun (W : World) (hb : Below w.heap.size w W) => refBytes_any D n cd Z W (hr.next hb) (by omega) hok
  rw [hzl] at HBY0
  obtain ⟨VD, hVD, hvz, hon, hvi⟩ := hash_ok (shaN Z) (shaN_length Z)
  have HSM0 := Lib.hid fun (W : World) (A : Option Addr) (c : Nat) (hr : Reads W W.heap.size 1 A zl (bs Z)) => refSum_any A zl c Z W hr hok.byte (by omega)
  unfold HashTo at HSM0
  rw [hVD] at HSM0
  have HCO0 := Lib.hid fun (W : World) (hb : Below w.heap.size w W) (k : Nat) (hk : k < m) => column_any (A := A) (cp := c) (ci := k) hrn (hV.next hb) (by omega) (by omega) (fun r hr => by have := hlen r hr; omega)
  have HCH0 := Lib.hid fun (W : World) (hb : Below w.heap.size w W) (k : Nat) (hk : k < m) (kd wy : Int) (nu : Bool) (hz : sl[k]? = some (kd, nu, wy)) => refChunk_any (S := S) (m := m) (cs := cs) (A := A) (c := c) (D := D) (cd := cd) (ci := k) (kd := kd) (wy := wy) (nu := nu) ((hS.below hb).more hb.size) (by omega) (hV.next hb) hrn (by omega) hz (fun r hr => by have := hlen r hr; omega) (hi k) (hq k hk)
  have HCI := Lib.hid hi; have HCQ := Lib.hid hq
  have hrow : ∀ k, (colV rows k).length = n := fun k => by unfold colV; rw [List.length_map, hrn]
  have HROW := Lib.hid hrow
  have hgz := (zero_of_info info_hdr).1
  obtain ⟨Z35, hZ35⟩ : ∃ Z35 : Array Value, #[.int .i64 0, .int .i64 0] ++ Array.replicate 32 (.int .u8 0) ++ #[.slice none 0 0] = Z35 := ⟨_, rfl⟩
  rw [hZ35] at hgz
  have HZ35 : Hid (Z35.size = 35) := Lib.hid (by rw [← hZ35]; simp)
  have hsz := Lib.hid (zero_of_info info_hdr).2
  have hD32 : (bs (shaN Z)).length = 32 := by rw [bs_length, shaN_length]
  obtain ⟨F0, hF0⟩ : ∃ F0 : Array Value, (hdC (n : Int) L (bs (shaN Z)) (.slice none 0 0)).toArray = F0 := ⟨_, rfl⟩
  have HFS : Hid (F0.size = 35) := Lib.hid (by rw [← hF0, List.size_toArray]; exact hdC_len hD32)
  have hdo : ∀ v : Value, v.oneCell' = true → (hdC (n : Int) L (bs (shaN Z)) v).toArray.all (·.oneCell') = true := fun v hv => by
    rw [Array.all_eq_true_iff_forall_mem]
    intro u hu
    unfold hdC at hu
    simp only [List.mem_toArray, List.mem_append, List.mem_cons, List.not_mem_nil, or_false] at hu
    rcases hu with ((rfl | rfl) | hu) | rfl
    · rfl
    · rfl
    · exact bs_one _ u hu
    · exact hv
  have HFO : Hid (F0.all (·.oneCell') = true) := Lib.hid (by rw [← hF0]; exact hdo _ rfl)
  have HFI : Hid ((Tryz.prog.info? 42).map (·.size) = some F0.size) := Lib.hid (by rw [HFS.out]; exact hsz.out)
  have HBD : Hid (∀ W, (Instr.build 42 #[(0, .int .i64 (n : Int)), (1, .int .i64 L), (2, .agg VD)]).run Tryz.prog W = .ok (.agg F0) W) := Lib.hid fun W => by
    rw [build_hdr W (n : Int) L VD hvz, ← hF0, ← hVD]
  obtain ⟨G3, hG3⟩ : ∃ G3 : Array Value, #[.slice S m cs, .slice A n c, .slice D n cd] = G3 := ⟨_, rfl⟩
  have hG3l : [Value.slice S m cs, .slice A n c, .slice D n cd].toArray = G3 := hG3
  have kg := (Blk.new w 33 G3).alloc (.cells Z35 42)
  have b1 := (Below.refl w.heap.size w).alloc (Nat.le_refl _) (.cells G3 33)
  have b2 := b1.alloc b1.size (.cells Z35 42)
  have kr := Blk.new (w.alloc (.cells G3 33)) 42 Z35
  simp only [World.size_alloc] at kr
  rw [hG3]
  obtain ⟨W0, hW0⟩ : ∃ W0, (w.alloc (.cells G3 33)).alloc (.cells Z35 42) = W0 := ⟨_, rfl⟩
  have hs0 : W0.heap.size = w.heap.size + 1 + 1 := by rw [← hW0]; simp
  rw [hW0] at kg b2 kr
  have hrg : W0.rangeAt w.heap.size 0 [Value.slice S m cs, .slice A n c, .slice D n cd] := by rw [← hG3l] at kg; exact range_blkG kg
  have HRG := Lib.hid hrg; have HB2 := Lib.hid b2; have HKR := Lib.hid kr; have HS0' := Lib.hid hs0; have HKG := Lib.hid kg.lt
  have HVD := Lib.hid hVD; have HF0 := Lib.hid hF0; have HDO := Lib.hid hdo; have HG3 := Lib.hid hG3l
  have HGI : Hid ((Tryz.prog.info? 33).map (·.size) = some [Value.slice S m cs, .slice A n c, .slice D n cd].length) := Lib.hid size_refG
  have HSLN := Lib.hid hsl
  clear hS hV hr hok hlen hi hq hrow hL hzl hVD hvz hon hvi hZ35 hF0 hdo hG3 hG3l kg b1 b2 kr hs0 hrg hrn hsl
  go_enter Tryz.func30, Tryz.ntmps30
  go_upto_region 1 with fail
  try clear hW0
  go_cut [3] (fun s3 wx => ∃ gh Y, s3 = .pointer (some ⟨gh, 0, none⟩) ∧ Y = wx ∧ W0.heap.size ≤ gh ∧ Below W0.heap.size W0 Y ∧ Blk Y gh 42 F0)
  case first =>
    have HSB : ∀ (W : World), Below W0.heap.size W0 W → W.rangeAt w.heap.size 0 [Value.slice S m cs, .slice A n c, .slice D n cd] := fun W hW => range_nextG HRG.out HKG.out hW
    have HLV : Hid (∀ W, Below W0.heap.size W0 W → Calls Tryz.prog 29 #[.agg G3] W fun e w' => e = .returned (.int .i64 L) ∧ Below W.heap.size W w') := Lib.hid fun W hW => by rw [← HG3.out]; exact HLV0.out W (HB2.out.trans (hW.mono HB2.out.size))
    have HBY : Hid (∀ W, Below W0.heap.size W0 W → Calls Tryz.prog 32 #[.slice D n cd] W (New W (bs Z) zl)) := Lib.hid fun W hW => HBY0.out W (HB2.out.trans (hW.mono HB2.out.size))
    have HSM : Hid (∀ W A c, Reads W W.heap.size 1 A zl (bs Z) → Calls Tryz.prog 57 #[.slice A zl c] W fun e w' => e = .returned (.agg VD) ∧ Below W.heap.size W w') := HSM0
    have hss := HS0'.out
    refine wp_region_noPanic ?_
    refine wp_region_held_drew (S := fun w' => w'.rangeAt w.heap.size 0 [Value.slice S m cs, .slice A n c, .slice D n cd]) (by kernel_rfl) (HSB _ (Below.drew (Below.refl _ _))) (fun hHeld => ?_)
    change wpAnyH _ _ _ _ _ 12 #[false, false, false, false, false, false, false, false, false, false, false, false] _ _
    have HBD0 := Lib.hid (Below.drew (Below.refl W0.heap.size W0))
    refine wpAnyH_take (i := 0) (oi := { dst := some 5, op := Go.Op.fieldAddr 33 (Go.Operand.tmp 1) 1, type := 0, pos := "ref.go:48", after := #[], guard := none }) (v := ?_) rfl (by kernel_rfl) (by kernel_rfl) (by kernel_rfl) (fun _ _ _ => np) (Or.inl ⟨by rfl, ?_⟩) (by assumption) ?_
    rotate_left
    · (intro _ hSw; (try dsimp only at hSw); clear hSw; go_simp; try with_reducible rfl)
    try simp only [Act.put, List.setIfInBounds_toArray, List.set_cons_zero, List.set_cons_succ]
    refine wpAnyH_take (i := 1) (oi := { dst := some 6, op := Go.Op.load 23 (Go.Operand.tmp 5), type := 23, pos := "ref.go:48", after := #[{ on := 0, ground := Go.Ground.data }], guard := none }) (v := .slice A n c) rfl (by kernel_rfl) (by kernel_rfl) (by kernel_rfl) (fun _ _ _ => np) (Or.inl ⟨by rfl, ?_⟩) (by assumption) ?_
    · (intro W hS; have hcl := ((hS 1 _ rfl : W.cell? ⟨w.heap.size, 1, none⟩ = some (.slice A n c))); clear hS; go_simp; try with_reducible rfl)
    try simp only [Act.put, List.setIfInBounds_toArray, List.set_cons_zero, List.set_cons_succ]
    refine wpAnyH_take (i := 2) (oi := { dst := some 7, op := Go.Op.call { callee := Go.Callee.builtin Go.Builtin.len, args := #[Go.Operand.tmp 6], argTypes := #[23] }, type := 3, pos := "ref.go:48", after := #[{ on := 1, ground := Go.Ground.data }], guard := none }) (v := ?_) rfl (by kernel_rfl) (by kernel_rfl) (by kernel_rfl) (fun _ _ _ => np) (Or.inl ⟨by rfl, ?_⟩) (by assumption) ?_
    rotate_left
    · (intro _ hSw; (try dsimp only at hSw); clear hSw; go_simp; try with_reducible rfl)
    try simp only [Act.put, List.setIfInBounds_toArray, List.set_cons_zero, List.set_cons_succ]
    refine wpAnyH_take (i := 3) (oi := { dst := some 8, op := Go.Op.load 33 (Go.Operand.tmp 1), type := 33, pos := "ref.go:48", after := #[], guard := none }) (v := .agg G3) rfl (by kernel_rfl) (by kernel_rfl) (by kernel_rfl) (fun _ _ _ => np) (yieldsIf_load_midX (by rfl) 33 (.tmp 1) rfl w.heap.size 0 rfl [Value.slice S m cs, .slice A n c, .slice D n cd] G3 HG3.out _ (fun w' hS => hS) Tryz.underlying33 rfl HGI.out) (by assumption) ?_
    try simp only [Act.put, List.setIfInBounds_toArray, List.set_cons_zero, List.set_cons_succ]
    refine wpAnyH_take (i := 5) (oi := { dst := some 10, op := Go.Op.fieldAddr 33 (Go.Operand.tmp 1) 2, type := 0, pos := "ref.go:48", after := #[], guard := none }) (v := ?_) rfl (by kernel_rfl) (by kernel_rfl) (by kernel_rfl) (fun _ _ _ => np) (Or.inl ⟨by rfl, ?_⟩) (by assumption) ?_
    rotate_left
    · (intro _ hSw; (try dsimp only at hSw); clear hSw; go_simp; try with_reducible rfl)
    try simp only [Act.put, List.setIfInBounds_toArray, List.set_cons_zero, List.set_cons_succ]
    refine wpAnyH_take (i := 6) (oi := { dst := some 11, op := Go.Op.load 31 (Go.Operand.tmp 10), type := 31, pos := "ref.go:48", after := #[{ on := 5, ground := Go.Ground.data }], guard := none }) (v := .slice D n cd) rfl (by kernel_rfl) (by kernel_rfl) (by kernel_rfl) (fun _ _ _ => np) (Or.inl ⟨by rfl, ?_⟩) (by assumption) ?_
    · (intro W hS; have hcl := ((hS 2 _ rfl : W.cell? ⟨w.heap.size, 2, none⟩ = some (.slice D n cd))); clear hS; go_simp; try with_reducible rfl)
    try simp only [Act.put, List.setIfInBounds_toArray, List.set_cons_zero, List.set_cons_succ]
    refine with_states ?_
    intro R a0 hR ha0
    have HR := Lib.hid hR; have HA0 := Lib.hid ha0
    clear hR ha0 hHeld
    have st4_1 : Hid (∀ (W : World) (A2 : Option Addr) (c2 : Nat) (gh : Nat), Below W0.heap.size W0 W → Reads W W.heap.size 1 A2 zl (bs Z) → W0.heap.size ≤ gh → Blk W gh 42 Z35 → R 1 #[true, true, true, true, true, true, true, true, true, true, true, false] (((((a0.put (some 9) (.int .i64 L)).put (some 12) (.slice A2 zl c2)).put (some 13) (.agg VD)).put (some 14) (.agg F0)).put (some 3) (.pointer (some ⟨gh, 0, none⟩))) W) := Lib.hid (by
      intro W A2 c2 gh hb rb l0 k0
      rw [← HR.out, ← HA0.out]
      try simp only [Act.put, List.setIfInBounds_toArray, List.set_cons_zero, List.set_cons_succ]
      have s0 := run_storeCells_row (P := Tryz.prog) k0 (cs' := F0) HFI.out (by rw [HFS.out, HZ35.out]) HFO.out
      have hvf := HFS.out
      refine wpAnyH_ready (rs := [11]) (by kernel_rfl) (by simp) ?_
      refine AllReadyH.cons rfl (fun K hK => ?_) AllReadyH.nil
      go_simp
      refine hK.out _ _ (range_rowG F0 (HSB _ hb) (by omega)) (fun hHeld => ?_)
      clear hK K hvf s0
      try simp only [Act.put, List.setIfInBounds_toArray, List.set_cons_zero, List.set_cons_succ]
      refine wpAnyH_done (by kernel_rfl) ?_ _
      refine NoPanic.normal ?_
      go_wp2_with fail
      go_meet
      exact ⟨gh, _, rfl, rfl, l0, Below.row hb l0 F0, k0.row F0⟩)
    have st4_0 : Hid (∀ (W : World) (A2 : Option Addr) (c2 : Nat), Below W0.heap.size W0 W → Reads W W.heap.size 1 A2 zl (bs Z) → R 2 #[true, true, true, true, true, true, true, true, true, true, false, false] ((((a0.put (some 9) (.int .i64 L)).put (some 12) (.slice A2 zl c2)).put (some 13) (.agg VD)).put (some 14) (.agg F0)) W) := Lib.hid (by
      intro W A2 c2 hb rb
      rw [← HR.out, ← HA0.out]
      try simp only [Act.put, List.setIfInBounds_toArray, List.set_cons_zero, List.set_cons_succ]
      refine wpAnyH_ready (rs := [10]) (by kernel_rfl) (by simp) ?_
      refine AllReadyH.cons (o := { dst := some 3, op := Go.Op.alloc 42, type := 0, pos := "ref.go:48", after := #[], guard := none }) rfl (fun K hK => ?_) AllReadyH.nil
      · have hbA := (Below.refl W.heap.size W).alloc (Nat.le_refl _) (.cells Z35 42)
        go_simp
        refine hK.out _ _ (HSB (W.alloc (.cells Z35 42)) (hb.alloc hb.size _)) (fun hHeld => ?_)
        clear hK K
        try simp only [Act.put, List.setIfInBounds_toArray, List.set_cons_zero, List.set_cons_succ]
        have hn := st4_1.out (W.alloc (.cells Z35 42)) A2 c2 W.heap.size (hb.alloc hb.size _) (((rb.below hbA).more hbA.size)) hb.size (Blk.new W _ _)
        rw [← HR.out, ← HA0.out] at hn
        simp only [Act.put, List.setIfInBounds_toArray, List.set_cons_zero, List.set_cons_succ] at hn
        exact hn)
    have st3_1 : Hid (∀ (W : World) (A2 : Option Addr) (c2 : Nat) (gh : Nat), Below W0.heap.size W0 W → Reads W W.heap.size 1 A2 zl (bs Z) → W0.heap.size ≤ gh → Blk W gh 42 Z35 → R 2 #[true, true, true, true, true, true, true, true, true, false, true, false] ((((a0.put (some 9) (.int .i64 L)).put (some 12) (.slice A2 zl c2)).put (some 13) (.agg VD)).put (some 3) (.pointer (some ⟨gh, 0, none⟩))) W) := Lib.hid (by
      intro W A2 c2 gh hb rb l0 k0
      rw [← HR.out, ← HA0.out]
      try simp only [Act.put, List.setIfInBounds_toArray, List.set_cons_zero, List.set_cons_succ]
      refine wpAnyH_ready (rs := [9]) (by kernel_rfl) (by simp) ?_
      refine AllReadyH.cons (o := { dst := some 14, op := Go.Op.build 42 #[(0, Go.Operand.tmp 7), (1, Go.Operand.tmp 9), (2, Go.Operand.tmp 13)], type := 42, pos := "ref.go:48", after := #[{ on := 2, ground := Go.Ground.data }, { on := 4, ground := Go.Ground.data }, { on := 8, ground := Go.Ground.data }], guard := none }) rfl (fun K hK => ?_) AllReadyH.nil
      · refine wp_buildV 42 #[(0, .tmp 7), (1, .tmp 9), (2, .tmp 13)] rfl #[(0, .int .i64 (n : Int)), (1, .int .i64 L), (2, .agg VD)] (by first | rfl | (simp [Act.eval, Act.put]; done) | simp [Act.eval]) _ (HBD.out _) ?_
        refine hK.out _ _ (HSB W hb) (fun hHeld => ?_)
        clear hK K
        try simp only [Act.put, List.setIfInBounds_toArray, List.set_cons_zero, List.set_cons_succ]
        have hn := st4_1.out W A2 c2 gh hb rb l0 k0
        rw [← HR.out, ← HA0.out] at hn
        simp only [Act.put, List.setIfInBounds_toArray, List.set_cons_zero, List.set_cons_succ] at hn
        exact hn)
    have st3_0 : Hid (∀ (W : World) (A2 : Option Addr) (c2 : Nat), Below W0.heap.size W0 W → Reads W W.heap.size 1 A2 zl (bs Z) → R 3 #[true, true, true, true, true, true, true, true, true, false, false, false] (((a0.put (some 9) (.int .i64 L)).put (some 12) (.slice A2 zl c2)).put (some 13) (.agg VD)) W) := Lib.hid (by
      intro W A2 c2 hb rb
      rw [← HR.out, ← HA0.out]
      try simp only [Act.put, List.setIfInBounds_toArray, List.set_cons_zero, List.set_cons_succ]
      refine wpAnyH_ready (rs := [9, 10]) (by kernel_rfl) (by simp) ?_
      refine AllReadyH.cons (o := { dst := some 14, op := Go.Op.build 42 #[(0, Go.Operand.tmp 7), (1, Go.Operand.tmp 9), (2, Go.Operand.tmp 13)], type := 42, pos := "ref.go:48", after := #[{ on := 2, ground := Go.Ground.data }, { on := 4, ground := Go.Ground.data }, { on := 8, ground := Go.Ground.data }], guard := none }) rfl (fun K hK => ?_) (AllReadyH.cons (o := { dst := some 3, op := Go.Op.alloc 42, type := 0, pos := "ref.go:48", after := #[], guard := none }) rfl (fun K hK => ?_) AllReadyH.nil)
      · refine wp_buildV 42 #[(0, .tmp 7), (1, .tmp 9), (2, .tmp 13)] rfl #[(0, .int .i64 (n : Int)), (1, .int .i64 L), (2, .agg VD)] (by first | rfl | (simp [Act.eval, Act.put]; done) | simp [Act.eval]) _ (HBD.out _) ?_
        refine hK.out _ _ (HSB W hb) (fun hHeld => ?_)
        clear hK K
        try simp only [Act.put, List.setIfInBounds_toArray, List.set_cons_zero, List.set_cons_succ]
        have hn := st4_0.out W A2 c2 hb rb
        rw [← HR.out, ← HA0.out] at hn
        simp only [Act.put, List.setIfInBounds_toArray, List.set_cons_zero, List.set_cons_succ] at hn
        exact hn
      · have hbA := (Below.refl W.heap.size W).alloc (Nat.le_refl _) (.cells Z35 42)
        go_simp
        refine hK.out _ _ (HSB (W.alloc (.cells Z35 42)) (hb.alloc hb.size _)) (fun hHeld => ?_)
        clear hK K
        try simp only [Act.put, List.setIfInBounds_toArray, List.set_cons_zero, List.set_cons_succ]
        have hn := st3_1.out (W.alloc (.cells Z35 42)) A2 c2 W.heap.size (hb.alloc hb.size _) (((rb.below hbA).more hbA.size)) hb.size (Blk.new W _ _)
        rw [← HR.out, ← HA0.out] at hn
        simp only [Act.put, List.setIfInBounds_toArray, List.set_cons_zero, List.set_cons_succ] at hn
        exact hn)
    have st2_1 : Hid (∀ (W : World) (A2 : Option Addr) (c2 : Nat) (gh : Nat), Below W0.heap.size W0 W → Reads W W.heap.size 1 A2 zl (bs Z) → W0.heap.size ≤ gh → Blk W gh 42 Z35 → R 3 #[true, true, true, true, true, true, true, true, false, false, true, false] (((a0.put (some 9) (.int .i64 L)).put (some 12) (.slice A2 zl c2)).put (some 3) (.pointer (some ⟨gh, 0, none⟩))) W) := Lib.hid (by
      intro W A2 c2 gh hb rb l0 k0
      rw [← HR.out, ← HA0.out]
      try simp only [Act.put, List.setIfInBounds_toArray, List.set_cons_zero, List.set_cons_succ]
      refine wpAnyH_ready (rs := [8]) (by kernel_rfl) (by simp) ?_
      refine AllReadyH.cons (o := { dst := some 13, op := Go.Op.call { callee := Go.Callee.value (Go.Operand.func 57), args := #[Go.Operand.tmp 12], argTypes := #[66] }, type := 39, pos := "ref.go:48", after := #[{ on := 7, ground := Go.Ground.data }, { on := 7, ground := Go.Ground.chain }], guard := none }) rfl (fun K hK => ?_) AllReadyH.nil
      · go_simp
        go_at_call 57
        refine (HSM.out _ A2 c2 rb).mono ?_
        rintro _ w6 ⟨rfl, hb6⟩
        go_wp2_with fail
        refine hK.out _ _ (HSB w6 (hb.trans (hb6.mono hb.size))) (fun hHeld => ?_)
        clear hK K
        try simp only [Act.put, List.setIfInBounds_toArray, List.set_cons_zero, List.set_cons_succ]
        have hn := st3_1.out w6 A2 c2 gh (hb.trans (hb6.mono hb.size)) (((rb.below hb6).more hb6.size)) l0 (k0.below hb6 k0.lt)
        rw [← HR.out, ← HA0.out] at hn
        simp only [Act.put, List.setIfInBounds_toArray, List.set_cons_zero, List.set_cons_succ] at hn
        exact hn)
    have st2_0 : Hid (∀ (W : World) (A2 : Option Addr) (c2 : Nat), Below W0.heap.size W0 W → Reads W W.heap.size 1 A2 zl (bs Z) → R 4 #[true, true, true, true, true, true, true, true, false, false, false, false] ((a0.put (some 9) (.int .i64 L)).put (some 12) (.slice A2 zl c2)) W) := Lib.hid (by
      intro W A2 c2 hb rb
      rw [← HR.out, ← HA0.out]
      try simp only [Act.put, List.setIfInBounds_toArray, List.set_cons_zero, List.set_cons_succ]
      refine wpAnyH_ready (rs := [8, 10]) (by kernel_rfl) (by simp) ?_
      refine AllReadyH.cons (o := { dst := some 13, op := Go.Op.call { callee := Go.Callee.value (Go.Operand.func 57), args := #[Go.Operand.tmp 12], argTypes := #[66] }, type := 39, pos := "ref.go:48", after := #[{ on := 7, ground := Go.Ground.data }, { on := 7, ground := Go.Ground.chain }], guard := none }) rfl (fun K hK => ?_) (AllReadyH.cons (o := { dst := some 3, op := Go.Op.alloc 42, type := 0, pos := "ref.go:48", after := #[], guard := none }) rfl (fun K hK => ?_) AllReadyH.nil)
      · go_simp
        go_at_call 57
        refine (HSM.out _ A2 c2 rb).mono ?_
        rintro _ w6 ⟨rfl, hb6⟩
        go_wp2_with fail
        refine hK.out _ _ (HSB w6 (hb.trans (hb6.mono hb.size))) (fun hHeld => ?_)
        clear hK K
        try simp only [Act.put, List.setIfInBounds_toArray, List.set_cons_zero, List.set_cons_succ]
        have hn := st3_0.out w6 A2 c2 (hb.trans (hb6.mono hb.size)) (((rb.below hb6).more hb6.size))
        rw [← HR.out, ← HA0.out] at hn
        simp only [Act.put, List.setIfInBounds_toArray, List.set_cons_zero, List.set_cons_succ] at hn
        exact hn
      · have hbA := (Below.refl W.heap.size W).alloc (Nat.le_refl _) (.cells Z35 42)
        go_simp
        refine hK.out _ _ (HSB (W.alloc (.cells Z35 42)) (hb.alloc hb.size _)) (fun hHeld => ?_)
        clear hK K
        try simp only [Act.put, List.setIfInBounds_toArray, List.set_cons_zero, List.set_cons_succ]
        have hn := st2_1.out (W.alloc (.cells Z35 42)) A2 c2 W.heap.size (hb.alloc hb.size _) (((rb.below hbA).more hbA.size)) hb.size (Blk.new W _ _)
        rw [← HR.out, ← HA0.out] at hn
        simp only [Act.put, List.setIfInBounds_toArray, List.set_cons_zero, List.set_cons_succ] at hn
        exact hn)
    have st1_1 : Hid (∀ (W : World) (gh : Nat), Below W0.heap.size W0 W → W0.heap.size ≤ gh → Blk W gh 42 Z35 → R 4 #[true, true, true, true, true, true, true, false, false, false, true, false] ((a0.put (some 9) (.int .i64 L)).put (some 3) (.pointer (some ⟨gh, 0, none⟩))) W) := Lib.hid (by
      intro W gh hb l0 k0
      rw [← HR.out, ← HA0.out]
      try simp only [Act.put, List.setIfInBounds_toArray, List.set_cons_zero, List.set_cons_succ]
      refine wpAnyH_ready (rs := [7]) (by kernel_rfl) (by simp) ?_
      refine AllReadyH.cons (o := { dst := some 12, op := Go.Op.call { callee := Go.Callee.value (Go.Operand.func 32), args := #[Go.Operand.tmp 11], argTypes := #[31] }, type := 66, pos := "ref.go:48", after := #[{ on := 6, ground := Go.Ground.data }, { on := 4, ground := Go.Ground.chain }], guard := none }) rfl (fun K hK => ?_) AllReadyH.nil
      · go_simp
        go_at_call 32
        refine (HBY.out _ hb).mono ?_
        rintro _ w6 ⟨v2, rfl, ho2, hb6⟩
        obtain ⟨A2, c2, rfl, _, _, r2⟩ := own_slice ho2
        go_wp2_with fail
        refine hK.out _ _ (HSB w6 (hb.trans (hb6.mono hb.size))) (fun hHeld => ?_)
        clear hK K
        try simp only [Act.put, List.setIfInBounds_toArray, List.set_cons_zero, List.set_cons_succ]
        have hn := st2_1.out w6 A2 c2 gh (hb.trans (hb6.mono hb.size)) (r2) l0 (k0.below hb6 k0.lt)
        rw [← HR.out, ← HA0.out] at hn
        simp only [Act.put, List.setIfInBounds_toArray, List.set_cons_zero, List.set_cons_succ] at hn
        exact hn)
    have st1_0 : Hid (∀ (W : World), Below W0.heap.size W0 W → R 5 #[true, true, true, true, true, true, true, false, false, false, false, false] (a0.put (some 9) (.int .i64 L)) W) := Lib.hid (by
      intro W  hb
      rw [← HR.out, ← HA0.out]
      try simp only [Act.put, List.setIfInBounds_toArray, List.set_cons_zero, List.set_cons_succ]
      refine wpAnyH_ready (rs := [7, 10]) (by kernel_rfl) (by simp) ?_
      refine AllReadyH.cons (o := { dst := some 12, op := Go.Op.call { callee := Go.Callee.value (Go.Operand.func 32), args := #[Go.Operand.tmp 11], argTypes := #[31] }, type := 66, pos := "ref.go:48", after := #[{ on := 6, ground := Go.Ground.data }, { on := 4, ground := Go.Ground.chain }], guard := none }) rfl (fun K hK => ?_) (AllReadyH.cons (o := { dst := some 3, op := Go.Op.alloc 42, type := 0, pos := "ref.go:48", after := #[], guard := none }) rfl (fun K hK => ?_) AllReadyH.nil)
      · go_simp
        go_at_call 32
        refine (HBY.out _ hb).mono ?_
        rintro _ w6 ⟨v2, rfl, ho2, hb6⟩
        obtain ⟨A2, c2, rfl, _, _, r2⟩ := own_slice ho2
        go_wp2_with fail
        refine hK.out _ _ (HSB w6 (hb.trans (hb6.mono hb.size))) (fun hHeld => ?_)
        clear hK K
        try simp only [Act.put, List.setIfInBounds_toArray, List.set_cons_zero, List.set_cons_succ]
        have hn := st2_0.out w6 A2 c2 (hb.trans (hb6.mono hb.size)) (r2)
        rw [← HR.out, ← HA0.out] at hn
        simp only [Act.put, List.setIfInBounds_toArray, List.set_cons_zero, List.set_cons_succ] at hn
        exact hn
      · have hbA := (Below.refl W.heap.size W).alloc (Nat.le_refl _) (.cells Z35 42)
        go_simp
        refine hK.out _ _ (HSB (W.alloc (.cells Z35 42)) (hb.alloc hb.size _)) (fun hHeld => ?_)
        clear hK K
        try simp only [Act.put, List.setIfInBounds_toArray, List.set_cons_zero, List.set_cons_succ]
        have hn := st1_1.out (W.alloc (.cells Z35 42)) W.heap.size (hb.alloc hb.size _) hb.size (Blk.new W _ _)
        rw [← HR.out, ← HA0.out] at hn
        simp only [Act.put, List.setIfInBounds_toArray, List.set_cons_zero, List.set_cons_succ] at hn
        exact hn)
    have st0_1 : Hid (∀ (W : World) (gh : Nat), Below W0.heap.size W0 W → W0.heap.size ≤ gh → Blk W gh 42 Z35 → R 5 #[true, true, true, true, false, true, true, false, false, false, true, false] (a0.put (some 3) (.pointer (some ⟨gh, 0, none⟩))) W) := Lib.hid (by
      intro W gh hb l0 k0
      rw [← HR.out, ← HA0.out]
      try simp only [Act.put, List.setIfInBounds_toArray, List.set_cons_zero, List.set_cons_succ]
      refine wpAnyH_ready (rs := [4]) (by kernel_rfl) (by simp) ?_
      refine AllReadyH.cons (o := { dst := some 9, op := Go.Op.call { callee := Go.Callee.value (Go.Operand.func 29), args := #[Go.Operand.tmp 8], argTypes := #[33] }, type := 3, pos := "ref.go:48", after := #[{ on := 3, ground := Go.Ground.data }], guard := none }) rfl (fun K hK => ?_) AllReadyH.nil
      · go_simp
        go_at_call 29
        refine (HLV.out _ hb).mono ?_
        rintro _ w6 ⟨rfl, hb6⟩
        go_wp2_with fail
        refine hK.out _ _ (HSB w6 (hb.trans (hb6.mono hb.size))) (fun hHeld => ?_)
        clear hK K
        try simp only [Act.put, List.setIfInBounds_toArray, List.set_cons_zero, List.set_cons_succ]
        have hn := st1_1.out w6 gh (hb.trans (hb6.mono hb.size)) l0 (k0.below hb6 k0.lt)
        rw [← HR.out, ← HA0.out] at hn
        simp only [Act.put, List.setIfInBounds_toArray, List.set_cons_zero, List.set_cons_succ] at hn
        exact hn)
    have st0_0 : Hid (∀ (W : World), Below W0.heap.size W0 W → R 6 #[true, true, true, true, false, true, true, false, false, false, false, false] a0 W) := Lib.hid (by
      intro W  hb
      rw [← HR.out, ← HA0.out]
      try simp only [Act.put, List.setIfInBounds_toArray, List.set_cons_zero, List.set_cons_succ]
      refine wpAnyH_ready (rs := [4, 10]) (by kernel_rfl) (by simp) ?_
      refine AllReadyH.cons (o := { dst := some 9, op := Go.Op.call { callee := Go.Callee.value (Go.Operand.func 29), args := #[Go.Operand.tmp 8], argTypes := #[33] }, type := 3, pos := "ref.go:48", after := #[{ on := 3, ground := Go.Ground.data }], guard := none }) rfl (fun K hK => ?_) (AllReadyH.cons (o := { dst := some 3, op := Go.Op.alloc 42, type := 0, pos := "ref.go:48", after := #[], guard := none }) rfl (fun K hK => ?_) AllReadyH.nil)
      · go_simp
        go_at_call 29
        refine (HLV.out _ hb).mono ?_
        rintro _ w6 ⟨rfl, hb6⟩
        go_wp2_with fail
        refine hK.out _ _ (HSB w6 (hb.trans (hb6.mono hb.size))) (fun hHeld => ?_)
        clear hK K
        try simp only [Act.put, List.setIfInBounds_toArray, List.set_cons_zero, List.set_cons_succ]
        have hn := st1_0.out w6 (hb.trans (hb6.mono hb.size))
        rw [← HR.out, ← HA0.out] at hn
        simp only [Act.put, List.setIfInBounds_toArray, List.set_cons_zero, List.set_cons_succ] at hn
        exact hn
      · have hbA := (Below.refl W.heap.size W).alloc (Nat.le_refl _) (.cells Z35 42)
        go_simp
        refine hK.out _ _ (HSB (W.alloc (.cells Z35 42)) (hb.alloc hb.size _)) (fun hHeld => ?_)
        clear hK K
        try simp only [Act.put, List.setIfInBounds_toArray, List.set_cons_zero, List.set_cons_succ]
        have hn := st0_1.out (W.alloc (.cells Z35 42)) W.heap.size (hb.alloc hb.size _) hb.size (Blk.new W _ _)
        rw [← HR.out, ← HA0.out] at hn
        simp only [Act.put, List.setIfInBounds_toArray, List.set_cons_zero, List.set_cons_succ] at hn
        exact hn)
    exact st0_0.out _ HBD0.out
  case rest =>
    obtain ⟨gh, Y, rfl, hY, hgh, hby, kh⟩ := hcut
    subst hY
    have HGY := Lib.hid kh.lt; have HGH := Lib.hid hgh; have HYW := Lib.hid hby.size
    have HKR2 := Lib.hid (HKR.out.below hby HKR.out.lt)
    have HBYY := Lib.hid hby
    obtain ⟨iH, hiH, hzH0, hzH1, hzH2⟩ := info_parts info_headG'
    have HS0 : Hid (∀ (W : World), Below W0.heap.size W0 W → W.rangeAt w.heap.size 0 [Value.slice S m cs, .slice A n c, .slice D n cd]) := Lib.hid fun W hW => range_nextG HRG.out HKG.out hW
    have hmI : ∀ k : Nat, k < m → (k : Int) < (m : Int) := fun k h => by omega
    have HKH := Lib.hid kh
    clear hby kh hgh HLV0 HBY0
    go_wp2_with fail
    go_loopw [4] (fun s4 wr => ∃ k : Nat, ∃ v, k ≤ m ∧ s4 = .int .i64 (k : Int) ∧ Blk wr gh 42 (hdC (n : Int) L (bs (shaN Z)) v).toArray ∧ wr.ownsRow Y.heap.size 57 40 v k (hcs (hdsG sl rows k)) ∧ Below W0.heap.size W0 wr ∧ Y.heap.size ≤ wr.heap.size) (fun s4 _ => m - (intOf s4).toNat)
    case atStart => exact ⟨0, .slice none 0 0, Nat.zero_le _, rfl, by rw [HF0.out]; exact HKH.out, own_nil _ _ _ _, HBYY.out, Nat.le_refl _⟩
    case round =>
      obtain ⟨k, v, hk, rfl, kh0, ow0, hbw, hyr⟩ := hrel
      obtain ⟨Av, cv, rfl, _, _, _⟩ := own_slice ow0
      have hc0 : wr.cell? ⟨w.heap.size, 0, none⟩ = some (.slice S m cs) := HS0.out _ hbw 0 _ rfl
      obtain ⟨HV, hHV⟩ : ∃ HV, (hdC (n : Int) L (bs (shaN Z)) (.slice Av k cv)).toArray = HV := ⟨_, rfl⟩
      obtain ⟨HL, hHL⟩ : ∃ HL, hdsG sl rows k = HL := ⟨_, rfl⟩
      rw [hHV] at kh0
      rw [hHL] at ow0
      by_cases hlt : k < m
      · obtain ⟨⟨kd, nu, wy⟩, hcl⟩ : ∃ c, sl[k]? = some c := ⟨_, List.getElem?_eq_getElem (by rw [HSLN.out]; exact hlt)⟩
        have hltI := hmI k hlt
        obtain ⟨CV5, hCV5⟩ : ∃ l, colV rows k = l := ⟨_, rfl⟩
        obtain ⟨B9, hB9⟩ : ∃ l, cpB kd wy CV5 = l := ⟨_, rfl⟩
        obtain ⟨l9, hl9⟩ : ∃ q, B9.length = q := ⟨_, rfl⟩
        have hcn : CV5.length = n := by rw [← hCV5]; exact HROW.out k
        have hsm : l9 ≤ 20010000 ∧ ∀ b ∈ B9, b < 256 := by rw [← hl9, ← hB9, ← hCV5]; exact cpB_small (by rw [HROW.out]; omega) (fun v hv => (HCI.out k v hv).2) (HCQ.out k hlt)
        have HW0 := Lib.hid hbw
        have RCO : Hid (∀ W, Below wr.heap.size wr W → Calls Tryz.prog 59 #[.slice A n c, .int .i64 (k : Int)] W fun e w' => ∃ v, e = .returned v ∧ w'.ownsRow W.heap.size 51 3 v n (vs CV5) ∧ Below W.heap.size W w') := Lib.hid fun W hW => by
          have hb := HW0.out.trans (hW.mono HW0.out.size)
          rw [← hCV5]
          exact HCO0.out W (HB2.out.trans (hb.mono HB2.out.size)) k hlt
        obtain ⟨⟨q0, q1, ⟨qa0, qa1, qat⟩, ⟨qb0, qb1, qbt⟩⟩, hq⟩ : ∃ z, zoV CV5 = z := ⟨_, rfl⟩
        obtain ⟨ZV, hZV⟩ : ∃ ZV : Array Value, (zc (q0, q1, (qa0, qa1, qat), (qb0, qb1, qbt))).toArray = ZV := ⟨_, rfl⟩
        have hZV8 : ZV.size = 8 := by rw [← hZV]; rfl
        have ROF : Hid (∀ W A c, Reads W W.heap.size 3 A n (vs CV5) → Calls Tryz.prog 58 #[.slice A n c] W fun e w' => e = .returned (.agg ZV) ∧ Below W.heap.size W w') := Lib.hid fun W A c hr => by
          have := refOfZ_any (c := c) hr (by omega)
          rw [hq] at this
          rw [← hZV]
          exact this
        have RCH : Hid (∀ W, Below wr.heap.size wr W → Calls Tryz.prog 37 #[.agg G3, .int .i64 (k : Int)] W fun e w' => ∃ v, e = .returned v ∧ w'.ownsRow W.heap.size 5 1 v l9 (bs B9) ∧ Below W.heap.size W w') := Lib.hid fun W hW => by
          have hb := HW0.out.trans (hW.mono HW0.out.size)
          have := HCH0.out W (HB2.out.trans (hb.mono HB2.out.size)) k hlt kd wy nu hcl
          rw [hCV5, hB9, hl9] at this
          rw [← HG3.out]
          exact this
        obtain ⟨SV, hSV, hsz32, hso, hsi⟩ := hash_ok (shaN B9) (shaN_length B9)
        have RSU : Hid (∀ W A c, Reads W W.heap.size 1 A l9 (bs B9) → Calls Tryz.prog 57 #[.slice A l9 c] W fun e w' => e = .returned (.agg SV) ∧ Below W.heap.size W w') := Lib.hid fun W A c hr => by
          have := refSum_any A l9 c B9 W hr hsm.2 (by omega)
          unfold HashTo at this
          rw [hSV] at this
          exact this
        obtain ⟨CL, hCL⟩ : ∃ CL, zc (q0, q1, (qa0, qa1, qat), (qb0, qb1, qbt)) ++ bs (shaN B9) = CL := ⟨_, rfl⟩
        have hCLL : CL.length = 40 := by rw [← hCL, List.length_append, bs_length, shaN_length]; rfl
        obtain ⟨CV, hCV⟩ : ∃ CV : Array Value, CL.toArray = CV := ⟨_, rfl⟩
        have hCVs : CV.size = 40 := by rw [← hCV, List.size_toArray]; exact hCLL
        have HBC : Hid (∀ W, (Instr.build 57 #[(0, .agg ZV), (1, .agg SV)]).run Tryz.prog W = .ok (.agg CV) W) := Lib.hid fun W => by
          rw [build_chd W ZV SV hZV8 hsz32, ← hCV, ← hCL, ← hZV, ← hSV]
        have hcc : ∀ u ∈ CL, u.oneCell' = true := by
          rw [← hCL]
          intro u hu
          rcases List.mem_append.1 hu with hu | hu
          · simp [zc, vc] at hu
            rcases hu with rfl | rfl | rfl | rfl | rfl | rfl | rfl | rfl <;> rfl
          · exact bs_one _ u hu
        have hnx : hcs HL ++ CL = hcs (hdsG sl rows (k + 1)) := by
          rw [hdsG_succ, hHL, hcs_snoc, ← hCL]
          have h1 : chG sl rows k = B9 := by unfold chG; rw [List.getD_eq_getElem?_getD, hcl, hCV5]; exact hB9
          have h2 : hdG sl rows k = ((q0, q1, (qa0, qa1, qat), (qb0, qb1, qbt)), shaN B9) := by unfold hdG; rw [h1, hCV5, hq]
          rw [h2]
        have hset : ∀ u, HV.setIfInBounds 34 u = (hdC (n : Int) L (bs (shaN Z)) u).toArray := fun u => by rw [← hHV]; exact head_set (.int .i64 (n : Int)) (.int .i64 L) (.slice Av k cv) u (bs (shaN Z)) hD32
        have hc34' : HV[34]? = some (.slice Av k cv) := by rw [← hHV, List.getElem?_toArray]; exact hdC_at hD32
        have HSET := Lib.hid hset; have HC34 := Lib.hid hc34'; have HNX := Lib.hid hnx; have HCC := Lib.hid hcc; have HCL := Lib.hid hCV; have HCLL := Lib.hid hCLL
        have hfold2 := fold_whole #[.int .i64 0, .bool false, .int .i64 0, .int .i64 0, .string ⟨#[]⟩, .int .i64 0, .int .i64 0, .string ⟨#[]⟩, .int .u8 0, .int .u8 0, .int .u8 0, .int .u8 0, .int .u8 0, .int .u8 0, .int .u8 0, .int .u8 0, .int .u8 0, .int .u8 0, .int .u8 0, .int .u8 0, .int .u8 0, .int .u8 0, .int .u8 0, .int .u8 0, .int .u8 0, .int .u8 0, .int .u8 0, .int .u8 0, .int .u8 0, .int .u8 0, .int .u8 0, .int .u8 0, .int .u8 0, .int .u8 0, .int .u8 0, .int .u8 0, .int .u8 0, .int .u8 0, .int .u8 0, .int .u8 0] CV (by rw [hCVs]; rfl)
        rw [hCVs] at hfold2
        have KH0 := Lib.hid kh0; have OW0 := Lib.hid ow0
        clear hHV hHL hCV5 hB9 hl9 hcn hsm hq hZV hZV8 hSV hsz32 hso hsi hCL hCLL hCV hcc hnx hset hc34' kh0 ow0 hcl
        go_upto_region 5 with fail
        have HSB : ∀ (W : World), Below wr.heap.size wr W → W.rangeAt w.heap.size 0 [Value.slice S m cs, .slice A n c, .slice D n cd] := fun W hW => HS0.out W (HW0.out.trans (hW.mono HW0.out.size))
        refine wp_region_noPanic ?_
        refine wp_region_held_drew (S := fun w' => w'.rangeAt w.heap.size 0 [Value.slice S m cs, .slice A n c, .slice D n cd]) (by kernel_rfl) (HSB _ (Below.drew (Below.refl _ _))) (fun hHeld => ?_)
        change wpAnyH _ _ _ _ _ 16 #[false, false, false, false, false, false, false, false, false, false, false, false, false, false, false, false] _ _
        have HBD0 := Lib.hid (Below.drew (Below.refl wr.heap.size wr))
        refine wpAnyH_take (i := 0) (oi := { dst := some 22, op := Go.Op.fieldAddr 42 (Go.Operand.tmp 3) 3, type := 0, pos := "ref.go:50", after := #[], guard := none }) (v := ?_) rfl (by kernel_rfl) (by kernel_rfl) (by kernel_rfl) (fun _ _ _ => np) (Or.inl ⟨by rfl, ?_⟩) (by assumption) ?_
        rotate_left
        · (intro _ hSw; (try dsimp only at hSw); clear hSw; go_simp; try with_reducible rfl)
        try simp only [Act.put, List.setIfInBounds_toArray, List.set_cons_zero, List.set_cons_succ]
        refine wpAnyH_take (i := 2) (oi := { dst := some 24, op := Go.Op.fieldAddr 33 (Go.Operand.tmp 1) 1, type := 0, pos := "ref.go:50", after := #[], guard := none }) (v := ?_) rfl (by kernel_rfl) (by kernel_rfl) (by kernel_rfl) (fun _ _ _ => np) (Or.inl ⟨by rfl, ?_⟩) (by assumption) ?_
        rotate_left
        · (intro _ hSw; (try dsimp only at hSw); clear hSw; go_simp; try with_reducible rfl)
        try simp only [Act.put, List.setIfInBounds_toArray, List.set_cons_zero, List.set_cons_succ]
        refine wpAnyH_take (i := 3) (oi := { dst := some 25, op := Go.Op.load 23 (Go.Operand.tmp 24), type := 23, pos := "ref.go:50", after := #[{ on := 2, ground := Go.Ground.data }], guard := none }) (v := .slice A n c) rfl (by kernel_rfl) (by kernel_rfl) (by kernel_rfl) (fun _ _ _ => np) (Or.inl ⟨by rfl, ?_⟩) (by assumption) ?_
        · (intro W hS; have hcl := ((hS 1 _ rfl : W.cell? ⟨w.heap.size, 1, none⟩ = some (.slice A n c))); clear hS; go_simp; try with_reducible rfl)
        try simp only [Act.put, List.setIfInBounds_toArray, List.set_cons_zero, List.set_cons_succ]
        refine wpAnyH_take (i := 4) (oi := { dst := some 26, op := Go.Op.move (Go.Operand.tmp 4), type := 3, pos := "ref.go:50", after := #[], guard := none }) (v := ?_) rfl (by kernel_rfl) (by kernel_rfl) (by kernel_rfl) (fun _ _ _ => np) (Or.inl ⟨by rfl, ?_⟩) (by assumption) ?_
        rotate_left
        · (intro _ hSw; (try dsimp only at hSw); clear hSw; go_simp; try with_reducible rfl)
        try simp only [Act.put, List.setIfInBounds_toArray, List.set_cons_zero, List.set_cons_succ]
        refine wpAnyH_take (i := 7) (oi := { dst := some 29, op := Go.Op.load 33 (Go.Operand.tmp 1), type := 33, pos := "ref.go:50", after := #[], guard := none }) (v := .agg G3) rfl (by kernel_rfl) (by kernel_rfl) (by kernel_rfl) (fun _ _ _ => np) (yieldsIf_load_midX (by rfl) 33 (.tmp 1) rfl w.heap.size 0 rfl [Value.slice S m cs, .slice A n c, .slice D n cd] G3 HG3.out _ (fun w' hS => hS) Tryz.underlying33 rfl HGI.out) (by assumption) ?_
        try simp only [Act.put, List.setIfInBounds_toArray, List.set_cons_zero, List.set_cons_succ]
        refine wpAnyH_take (i := 8) (oi := { dst := some 30, op := Go.Op.move (Go.Operand.tmp 4), type := 3, pos := "ref.go:50", after := #[], guard := none }) (v := ?_) rfl (by kernel_rfl) (by kernel_rfl) (by kernel_rfl) (fun _ _ _ => np) (Or.inl ⟨by rfl, ?_⟩) (by assumption) ?_
        rotate_left
        · (intro _ hSw; (try dsimp only at hSw); clear hSw; go_simp; try with_reducible rfl)
        try simp only [Act.put, List.setIfInBounds_toArray, List.set_cons_zero, List.set_cons_succ]
        refine with_states ?_
        intro R a0 hR ha0
        have HR := Lib.hid hR; have HA0 := Lib.hid ha0
        clear hR ha0 hHeld
        have st6_1 : Hid (∀ (W : World) (A5 : Option Addr) (c5 : Nat) (A9 : Option Addr) (c9 : Nat) (gq : Nat), Below wr.heap.size wr W → Blk W gh 42 HV → W.ownsRow Y.heap.size 57 40 (.slice Av k cv) k (hcs HL) → Reads W W.heap.size 3 A5 n (vs CV5) → Reads W W.heap.size 1 A9 l9 (bs B9) → Blk W gq 57 CV → R 3 #[true, true, true, true, true, true, true, true, true, true, true, true, true, false, false, false] (((((((a0.put (some 27) (.slice A5 n c5)).put (some 28) (.agg ZV)).put (some 31) (.slice A9 l9 c9)).put (some 32) (.agg SV)).put (some 33) (.agg CV)).put (some 34) (.slice (some ⟨gq, 0, none⟩) 1 1)).put (some 23) (.slice Av k cv)) W) := Lib.hid (by
          intro W A5 c5 A9 c9 gq hb kh ow r5 r9 kq
          rw [← HR.out, ← HA0.out]
          try simp only [Act.put, List.setIfInBounds_toArray, List.set_cons_zero, List.set_cons_succ]
          refine wpAnyH_ready (rs := [13]) (by kernel_rfl) (by simp) ?_
          refine AllReadyH.cons rfl (fun K hK => ?_) AllReadyH.nil
          refine step_append_any _ rfl (.tmp 23) (.tmp 34) _ rfl Y.heap.size 57 iH _ 40 112 Tryz.underlying40 hiH hzH0 hzH1 hzH2 rfl (by omega) (.slice Av k cv) k (hcs HL) (by simp [Act.eval, Act.put]) ow (gq + 1) (some ⟨gq, 0, none⟩) 1 1 CL (by simp [Act.eval, Act.put]) (reads_oneG (by rw [HCL.out]; exact kq) HCLL.out) HCC.out (by unfold maxLen; omega) (by omega) (by have h1 := hyr; have h2 := hb.size; omega) ?_
          intro v10 w10 hown10 hg10 hat10
          obtain ⟨A10, c10, rfl, _, _, _⟩ := own_slice hown10
          have hb0 := HW0.out.trans (hb.mono HW0.out.size)
          have hlo := fun g hg => (ow.lt g hg).1
          have b10 := hb0.grown hg10 hb0.size (fun g hg => by have h1 := hlo g hg; have h2 := HYW.out; omega)
          have kh10 := kh.grown hg10 (fun e => by have h1 := hlo _ e.symm; have h2 := HGY.out; omega)
          refine hK.out _ _ (HS0.out _ b10) (fun hHeld => ?_)
          clear hK K
          try simp only [Act.put, List.setIfInBounds_toArray, List.set_cons_zero, List.set_cons_succ]
          refine wpAnyH_take (i := 14) (oi := { dst := some 36, op := Go.Op.fieldAddr 42 (Go.Operand.tmp 3) 3, type := 0, pos := "ref.go:50", after := #[{ on := 0, ground := Go.Ground.phase }, { on := 1, ground := Go.Ground.phase }, { on := 2, ground := Go.Ground.phase }, { on := 3, ground := Go.Ground.phase }, { on := 4, ground := Go.Ground.phase }, { on := 5, ground := Go.Ground.phase }, { on := 6, ground := Go.Ground.phase }, { on := 7, ground := Go.Ground.phase }, { on := 8, ground := Go.Ground.phase }, { on := 9, ground := Go.Ground.phase }, { on := 10, ground := Go.Ground.phase }, { on := 11, ground := Go.Ground.phase }, { on := 12, ground := Go.Ground.phase }, { on := 13, ground := Go.Ground.phase }], guard := none }) (v := ?_) rfl (by kernel_rfl) (by kernel_rfl) (by kernel_rfl) (fun _ _ _ => np) (Or.inl ⟨by rfl, ?_⟩) (by assumption) ?_
          rotate_left
          · (intro _ hSw; (try dsimp only at hSw); clear hSw; go_simp; try with_reducible rfl)
          try simp only [Act.put, List.setIfInBounds_toArray, List.set_cons_zero, List.set_cons_succ]
          have hc34 : w10.cell? ⟨gh, 34, none⟩ = some (.slice Av k cv) := by rw [kh10.cell]; exact HC34.out
          have hf34 := kh10.frozen 34
          have b11 := b10.setCell (p := ⟨gh, 34, none⟩) (show W0.heap.size ≤ gh from HGH.out) (.slice A10 (k + 1) c10)
          have kh11 := kh10.set_ 34 (.slice A10 (k + 1) c10)
          rw [HSET.out] at kh11
          have ow11 := own_boxG hown10 HGY.out 34 (.slice A10 (k + 1) c10)
          rw [HNX.out] at ow11
          refine wpAnyH_ready (rs := [15]) (by kernel_rfl) (by simp) ?_
          refine AllReadyH.cons rfl (fun K hK => ?_) AllReadyH.nil
          go_simp
          refine hK.out _ _ (HS0.out _ b11) (fun hHeld => ?_)
          clear hK K
          try simp only [Act.put, List.setIfInBounds_toArray, List.set_cons_zero, List.set_cons_succ]
          refine wpAnyH_done (by kernel_rfl) ?_ _
          refine NoPanic.normal ?_
          have HY11 : Hid (Y.heap.size ≤ (w10.setCell ⟨gh, 34, none⟩ (.slice A10 (k + 1) c10)).heap.size) := Lib.hid (by have h1 := hg10.size; have h2 := hb.size; simp [World.setCell]; omega)
          have H11 := Lib.hid kh11; have O11 := Lib.hid ow11; have B11 := Lib.hid b11
          clear hc34 hf34 kh11 ow11 b11 kh10 b10 hown10 hg10 hat10 hb kh ow hlo hb0 hHeld
          go_wp2_with fail
          go_round
          case rel => exact ⟨k + 1, .slice A10 (k + 1) c10, by omega, by go_num, H11.out, O11.out, B11.out, HY11.out⟩
          case measure => simp [intOf]; omega)
        have st6_0 : Hid (∀ (W : World) (A5 : Option Addr) (c5 : Nat) (A9 : Option Addr) (c9 : Nat) (gq : Nat), Below wr.heap.size wr W → Blk W gh 42 HV → W.ownsRow Y.heap.size 57 40 (.slice Av k cv) k (hcs HL) → Reads W W.heap.size 3 A5 n (vs CV5) → Reads W W.heap.size 1 A9 l9 (bs B9) → Blk W gq 57 CV → R 4 #[true, false, true, true, true, true, true, true, true, true, true, true, true, false, false, false] ((((((a0.put (some 27) (.slice A5 n c5)).put (some 28) (.agg ZV)).put (some 31) (.slice A9 l9 c9)).put (some 32) (.agg SV)).put (some 33) (.agg CV)).put (some 34) (.slice (some ⟨gq, 0, none⟩) 1 1)) W) := Lib.hid (by
          intro W A5 c5 A9 c9 gq hb kh ow r5 r9 kq
          rw [← HR.out, ← HA0.out]
          try simp only [Act.put, List.setIfInBounds_toArray, List.set_cons_zero, List.set_cons_succ]
          refine wpAnyH_ready (rs := [1]) (by kernel_rfl) (by simp) ?_
          refine AllReadyH.cons (o := { dst := some 23, op := Go.Op.load 40 (Go.Operand.tmp 22), type := 40, pos := "ref.go:50", after := #[{ on := 0, ground := Go.Ground.data }], guard := none }) rfl (fun K hK => ?_) AllReadyH.nil
          · have hc34 : W.cell? ⟨gh, 34, none⟩ = some (.slice Av k cv) := by rw [kh.cell]; exact HC34.out
            go_simp
            refine hK.out _ _ (HSB W hb) (fun hHeld => ?_)
            clear hK K
            try simp only [Act.put, List.setIfInBounds_toArray, List.set_cons_zero, List.set_cons_succ]
            have hn := st6_1.out W A5 c5 A9 c9 gq hb kh ow r5 r9 kq
            rw [← HR.out, ← HA0.out] at hn
            simp only [Act.put, List.setIfInBounds_toArray, List.set_cons_zero, List.set_cons_succ] at hn
            exact hn)
        have st5_1 : Hid (∀ (W : World) (A5 : Option Addr) (c5 : Nat) (A9 : Option Addr) (c9 : Nat), Below wr.heap.size wr W → Blk W gh 42 HV → W.ownsRow Y.heap.size 57 40 (.slice Av k cv) k (hcs HL) → Reads W W.heap.size 3 A5 n (vs CV5) → Reads W W.heap.size 1 A9 l9 (bs B9) → R 4 #[true, true, true, true, true, true, true, true, true, true, true, true, false, false, false, false] ((((((a0.put (some 27) (.slice A5 n c5)).put (some 28) (.agg ZV)).put (some 31) (.slice A9 l9 c9)).put (some 32) (.agg SV)).put (some 33) (.agg CV)).put (some 23) (.slice Av k cv)) W) := Lib.hid (by
          intro W A5 c5 A9 c9 hb kh ow r5 r9
          rw [← HR.out, ← HA0.out]
          try simp only [Act.put, List.setIfInBounds_toArray, List.set_cons_zero, List.set_cons_succ]
          refine wpAnyH_ready (rs := [12]) (by kernel_rfl) (by simp) ?_
          refine AllReadyH.cons (o := { dst := some 34, op := Go.Op.buildSlice 40 1 #[(0, Go.Operand.tmp 33)], type := 40, pos := "ref.go:50", after := #[{ on := 11, ground := Go.Ground.data }], guard := none }) rfl (fun K hK => ?_) AllReadyH.nil
          · have hb6 := (Below.refl W.heap.size W).alloc (Nat.le_refl _) (.cells CV 57)
            go_simp
            refine hK.out _ _ (HSB (W.alloc (.cells CV 57)) (hb.trans (hb6.mono hb.size))) (fun hHeld => ?_)
            clear hK K
            try simp only [Act.put, List.setIfInBounds_toArray, List.set_cons_zero, List.set_cons_succ]
            have hn := st6_1.out (W.alloc (.cells CV 57)) A5 c5 A9 c9 W.heap.size (hb.trans (hb6.mono hb.size)) ((kh.below hb6 kh.lt)) ((own_below ow hb6)) (((r5.below hb6).more hb6.size)) (((r9.below hb6).more hb6.size)) ((Blk.new W _ _))
            rw [← HR.out, ← HA0.out] at hn
            simp only [Act.put, List.setIfInBounds_toArray, List.set_cons_zero, List.set_cons_succ] at hn
            exact hn)
        have st5_0 : Hid (∀ (W : World) (A5 : Option Addr) (c5 : Nat) (A9 : Option Addr) (c9 : Nat), Below wr.heap.size wr W → Blk W gh 42 HV → W.ownsRow Y.heap.size 57 40 (.slice Av k cv) k (hcs HL) → Reads W W.heap.size 3 A5 n (vs CV5) → Reads W W.heap.size 1 A9 l9 (bs B9) → R 5 #[true, false, true, true, true, true, true, true, true, true, true, true, false, false, false, false] (((((a0.put (some 27) (.slice A5 n c5)).put (some 28) (.agg ZV)).put (some 31) (.slice A9 l9 c9)).put (some 32) (.agg SV)).put (some 33) (.agg CV)) W) := Lib.hid (by
          intro W A5 c5 A9 c9 hb kh ow r5 r9
          rw [← HR.out, ← HA0.out]
          try simp only [Act.put, List.setIfInBounds_toArray, List.set_cons_zero, List.set_cons_succ]
          refine wpAnyH_ready (rs := [1, 12]) (by kernel_rfl) (by simp) ?_
          refine AllReadyH.cons (o := { dst := some 23, op := Go.Op.load 40 (Go.Operand.tmp 22), type := 40, pos := "ref.go:50", after := #[{ on := 0, ground := Go.Ground.data }], guard := none }) rfl (fun K hK => ?_) (AllReadyH.cons (o := { dst := some 34, op := Go.Op.buildSlice 40 1 #[(0, Go.Operand.tmp 33)], type := 40, pos := "ref.go:50", after := #[{ on := 11, ground := Go.Ground.data }], guard := none }) rfl (fun K hK => ?_) AllReadyH.nil)
          · have hc34 : W.cell? ⟨gh, 34, none⟩ = some (.slice Av k cv) := by rw [kh.cell]; exact HC34.out
            go_simp
            refine hK.out _ _ (HSB W hb) (fun hHeld => ?_)
            clear hK K
            try simp only [Act.put, List.setIfInBounds_toArray, List.set_cons_zero, List.set_cons_succ]
            have hn := st5_1.out W A5 c5 A9 c9 hb kh ow r5 r9
            rw [← HR.out, ← HA0.out] at hn
            simp only [Act.put, List.setIfInBounds_toArray, List.set_cons_zero, List.set_cons_succ] at hn
            exact hn
          · have hb6 := (Below.refl W.heap.size W).alloc (Nat.le_refl _) (.cells CV 57)
            go_simp
            refine hK.out _ _ (HSB (W.alloc (.cells CV 57)) (hb.trans (hb6.mono hb.size))) (fun hHeld => ?_)
            clear hK K
            try simp only [Act.put, List.setIfInBounds_toArray, List.set_cons_zero, List.set_cons_succ]
            have hn := st6_0.out (W.alloc (.cells CV 57)) A5 c5 A9 c9 W.heap.size (hb.trans (hb6.mono hb.size)) ((kh.below hb6 kh.lt)) ((own_below ow hb6)) (((r5.below hb6).more hb6.size)) (((r9.below hb6).more hb6.size)) ((Blk.new W _ _))
            rw [← HR.out, ← HA0.out] at hn
            simp only [Act.put, List.setIfInBounds_toArray, List.set_cons_zero, List.set_cons_succ] at hn
            exact hn)
        have st4_1 : Hid (∀ (W : World) (A5 : Option Addr) (c5 : Nat) (A9 : Option Addr) (c9 : Nat), Below wr.heap.size wr W → Blk W gh 42 HV → W.ownsRow Y.heap.size 57 40 (.slice Av k cv) k (hcs HL) → Reads W W.heap.size 3 A5 n (vs CV5) → Reads W W.heap.size 1 A9 l9 (bs B9) → R 5 #[true, true, true, true, true, true, true, true, true, true, true, false, false, false, false, false] (((((a0.put (some 27) (.slice A5 n c5)).put (some 28) (.agg ZV)).put (some 31) (.slice A9 l9 c9)).put (some 32) (.agg SV)).put (some 23) (.slice Av k cv)) W) := Lib.hid (by
          intro W A5 c5 A9 c9 hb kh ow r5 r9
          rw [← HR.out, ← HA0.out]
          try simp only [Act.put, List.setIfInBounds_toArray, List.set_cons_zero, List.set_cons_succ]
          refine wpAnyH_ready (rs := [11]) (by kernel_rfl) (by simp) ?_
          refine AllReadyH.cons (o := { dst := some 33, op := Go.Op.build 57 #[(0, Go.Operand.tmp 28), (1, Go.Operand.tmp 32)], type := 57, pos := "ref.go:50", after := #[{ on := 6, ground := Go.Ground.data }, { on := 10, ground := Go.Ground.data }], guard := none }) rfl (fun K hK => ?_) AllReadyH.nil
          · refine wp_buildV 57 #[(0, .tmp 28), (1, .tmp 32)] rfl #[(0, .agg ZV), (1, .agg SV)] (by first | rfl | (simp [Act.eval, Act.put]; done) | simp [Act.eval]) _ (HBC.out _) ?_
            refine hK.out _ _ (HSB W hb) (fun hHeld => ?_)
            clear hK K
            try simp only [Act.put, List.setIfInBounds_toArray, List.set_cons_zero, List.set_cons_succ]
            have hn := st5_1.out W A5 c5 A9 c9 hb kh ow r5 r9
            rw [← HR.out, ← HA0.out] at hn
            simp only [Act.put, List.setIfInBounds_toArray, List.set_cons_zero, List.set_cons_succ] at hn
            exact hn)
        have st4_0 : Hid (∀ (W : World) (A5 : Option Addr) (c5 : Nat) (A9 : Option Addr) (c9 : Nat), Below wr.heap.size wr W → Blk W gh 42 HV → W.ownsRow Y.heap.size 57 40 (.slice Av k cv) k (hcs HL) → Reads W W.heap.size 3 A5 n (vs CV5) → Reads W W.heap.size 1 A9 l9 (bs B9) → R 6 #[true, false, true, true, true, true, true, true, true, true, true, false, false, false, false, false] ((((a0.put (some 27) (.slice A5 n c5)).put (some 28) (.agg ZV)).put (some 31) (.slice A9 l9 c9)).put (some 32) (.agg SV)) W) := Lib.hid (by
          intro W A5 c5 A9 c9 hb kh ow r5 r9
          rw [← HR.out, ← HA0.out]
          try simp only [Act.put, List.setIfInBounds_toArray, List.set_cons_zero, List.set_cons_succ]
          refine wpAnyH_ready (rs := [1, 11]) (by kernel_rfl) (by simp) ?_
          refine AllReadyH.cons (o := { dst := some 23, op := Go.Op.load 40 (Go.Operand.tmp 22), type := 40, pos := "ref.go:50", after := #[{ on := 0, ground := Go.Ground.data }], guard := none }) rfl (fun K hK => ?_) (AllReadyH.cons (o := { dst := some 33, op := Go.Op.build 57 #[(0, Go.Operand.tmp 28), (1, Go.Operand.tmp 32)], type := 57, pos := "ref.go:50", after := #[{ on := 6, ground := Go.Ground.data }, { on := 10, ground := Go.Ground.data }], guard := none }) rfl (fun K hK => ?_) AllReadyH.nil)
          · have hc34 : W.cell? ⟨gh, 34, none⟩ = some (.slice Av k cv) := by rw [kh.cell]; exact HC34.out
            go_simp
            refine hK.out _ _ (HSB W hb) (fun hHeld => ?_)
            clear hK K
            try simp only [Act.put, List.setIfInBounds_toArray, List.set_cons_zero, List.set_cons_succ]
            have hn := st4_1.out W A5 c5 A9 c9 hb kh ow r5 r9
            rw [← HR.out, ← HA0.out] at hn
            simp only [Act.put, List.setIfInBounds_toArray, List.set_cons_zero, List.set_cons_succ] at hn
            exact hn
          · refine wp_buildV 57 #[(0, .tmp 28), (1, .tmp 32)] rfl #[(0, .agg ZV), (1, .agg SV)] (by first | rfl | (simp [Act.eval, Act.put]; done) | simp [Act.eval]) _ (HBC.out _) ?_
            refine hK.out _ _ (HSB W hb) (fun hHeld => ?_)
            clear hK K
            try simp only [Act.put, List.setIfInBounds_toArray, List.set_cons_zero, List.set_cons_succ]
            have hn := st5_0.out W A5 c5 A9 c9 hb kh ow r5 r9
            rw [← HR.out, ← HA0.out] at hn
            simp only [Act.put, List.setIfInBounds_toArray, List.set_cons_zero, List.set_cons_succ] at hn
            exact hn)
        have st3_1 : Hid (∀ (W : World) (A5 : Option Addr) (c5 : Nat) (A9 : Option Addr) (c9 : Nat), Below wr.heap.size wr W → Blk W gh 42 HV → W.ownsRow Y.heap.size 57 40 (.slice Av k cv) k (hcs HL) → Reads W W.heap.size 3 A5 n (vs CV5) → Reads W W.heap.size 1 A9 l9 (bs B9) → R 6 #[true, true, true, true, true, true, true, true, true, true, false, false, false, false, false, false] ((((a0.put (some 27) (.slice A5 n c5)).put (some 28) (.agg ZV)).put (some 31) (.slice A9 l9 c9)).put (some 23) (.slice Av k cv)) W) := Lib.hid (by
          intro W A5 c5 A9 c9 hb kh ow r5 r9
          rw [← HR.out, ← HA0.out]
          try simp only [Act.put, List.setIfInBounds_toArray, List.set_cons_zero, List.set_cons_succ]
          refine wpAnyH_ready (rs := [10]) (by kernel_rfl) (by simp) ?_
          refine AllReadyH.cons (o := { dst := some 32, op := Go.Op.call { callee := Go.Callee.value (Go.Operand.func 57), args := #[Go.Operand.tmp 31], argTypes := #[66] }, type := 39, pos := "ref.go:50", after := #[{ on := 9, ground := Go.Ground.data }, { on := 9, ground := Go.Ground.chain }], guard := none }) rfl (fun K hK => ?_) AllReadyH.nil
          · go_simp
            go_at_call 57
            refine (RSU.out _ A9 c9 r9).mono ?_
            rintro _ w6 ⟨rfl, hb6⟩
            go_wp2_with fail
            refine hK.out _ _ (HSB w6 (hb.trans (hb6.mono hb.size))) (fun hHeld => ?_)
            clear hK K
            try simp only [Act.put, List.setIfInBounds_toArray, List.set_cons_zero, List.set_cons_succ]
            have hn := st4_1.out w6 A5 c5 A9 c9 (hb.trans (hb6.mono hb.size)) ((kh.below hb6 kh.lt)) ((own_below ow hb6)) (((r5.below hb6).more hb6.size)) (((r9.below hb6).more hb6.size))
            rw [← HR.out, ← HA0.out] at hn
            simp only [Act.put, List.setIfInBounds_toArray, List.set_cons_zero, List.set_cons_succ] at hn
            exact hn)
        have st3_0 : Hid (∀ (W : World) (A5 : Option Addr) (c5 : Nat) (A9 : Option Addr) (c9 : Nat), Below wr.heap.size wr W → Blk W gh 42 HV → W.ownsRow Y.heap.size 57 40 (.slice Av k cv) k (hcs HL) → Reads W W.heap.size 3 A5 n (vs CV5) → Reads W W.heap.size 1 A9 l9 (bs B9) → R 7 #[true, false, true, true, true, true, true, true, true, true, false, false, false, false, false, false] (((a0.put (some 27) (.slice A5 n c5)).put (some 28) (.agg ZV)).put (some 31) (.slice A9 l9 c9)) W) := Lib.hid (by
          intro W A5 c5 A9 c9 hb kh ow r5 r9
          rw [← HR.out, ← HA0.out]
          try simp only [Act.put, List.setIfInBounds_toArray, List.set_cons_zero, List.set_cons_succ]
          refine wpAnyH_ready (rs := [1, 10]) (by kernel_rfl) (by simp) ?_
          refine AllReadyH.cons (o := { dst := some 23, op := Go.Op.load 40 (Go.Operand.tmp 22), type := 40, pos := "ref.go:50", after := #[{ on := 0, ground := Go.Ground.data }], guard := none }) rfl (fun K hK => ?_) (AllReadyH.cons (o := { dst := some 32, op := Go.Op.call { callee := Go.Callee.value (Go.Operand.func 57), args := #[Go.Operand.tmp 31], argTypes := #[66] }, type := 39, pos := "ref.go:50", after := #[{ on := 9, ground := Go.Ground.data }, { on := 9, ground := Go.Ground.chain }], guard := none }) rfl (fun K hK => ?_) AllReadyH.nil)
          · have hc34 : W.cell? ⟨gh, 34, none⟩ = some (.slice Av k cv) := by rw [kh.cell]; exact HC34.out
            go_simp
            refine hK.out _ _ (HSB W hb) (fun hHeld => ?_)
            clear hK K
            try simp only [Act.put, List.setIfInBounds_toArray, List.set_cons_zero, List.set_cons_succ]
            have hn := st3_1.out W A5 c5 A9 c9 hb kh ow r5 r9
            rw [← HR.out, ← HA0.out] at hn
            simp only [Act.put, List.setIfInBounds_toArray, List.set_cons_zero, List.set_cons_succ] at hn
            exact hn
          · go_simp
            go_at_call 57
            refine (RSU.out _ A9 c9 r9).mono ?_
            rintro _ w6 ⟨rfl, hb6⟩
            go_wp2_with fail
            refine hK.out _ _ (HSB w6 (hb.trans (hb6.mono hb.size))) (fun hHeld => ?_)
            clear hK K
            try simp only [Act.put, List.setIfInBounds_toArray, List.set_cons_zero, List.set_cons_succ]
            have hn := st4_0.out w6 A5 c5 A9 c9 (hb.trans (hb6.mono hb.size)) ((kh.below hb6 kh.lt)) ((own_below ow hb6)) (((r5.below hb6).more hb6.size)) (((r9.below hb6).more hb6.size))
            rw [← HR.out, ← HA0.out] at hn
            simp only [Act.put, List.setIfInBounds_toArray, List.set_cons_zero, List.set_cons_succ] at hn
            exact hn)
        have st2_1 : Hid (∀ (W : World) (A5 : Option Addr) (c5 : Nat), Below wr.heap.size wr W → Blk W gh 42 HV → W.ownsRow Y.heap.size 57 40 (.slice Av k cv) k (hcs HL) → Reads W W.heap.size 3 A5 n (vs CV5) → R 7 #[true, true, true, true, true, true, true, true, true, false, false, false, false, false, false, false] (((a0.put (some 27) (.slice A5 n c5)).put (some 28) (.agg ZV)).put (some 23) (.slice Av k cv)) W) := Lib.hid (by
          intro W A5 c5 hb kh ow r5
          rw [← HR.out, ← HA0.out]
          try simp only [Act.put, List.setIfInBounds_toArray, List.set_cons_zero, List.set_cons_succ]
          refine wpAnyH_ready (rs := [9]) (by kernel_rfl) (by simp) ?_
          refine AllReadyH.cons (o := { dst := some 31, op := Go.Op.call { callee := Go.Callee.value (Go.Operand.func 37), args := #[Go.Operand.tmp 29, Go.Operand.tmp 30], argTypes := #[33, 3] }, type := 66, pos := "ref.go:50", after := #[{ on := 7, ground := Go.Ground.data }, { on := 8, ground := Go.Ground.data }, { on := 6, ground := Go.Ground.chain }], guard := none }) rfl (fun K hK => ?_) AllReadyH.nil
          · go_simp
            go_at_call 37
            refine (RCH.out _ hb).mono ?_
            rintro _ w6 ⟨v9, rfl, ho9, hb6⟩
            obtain ⟨A9, c9, rfl, _, _, rr⟩ := own_slice ho9
            go_wp2_with fail
            refine hK.out _ _ (HSB w6 (hb.trans (hb6.mono hb.size))) (fun hHeld => ?_)
            clear hK K
            try simp only [Act.put, List.setIfInBounds_toArray, List.set_cons_zero, List.set_cons_succ]
            have hn := st3_1.out w6 A5 c5 A9 c9 (hb.trans (hb6.mono hb.size)) ((kh.below hb6 kh.lt)) ((own_below ow hb6)) (((r5.below hb6).more hb6.size)) (rr)
            rw [← HR.out, ← HA0.out] at hn
            simp only [Act.put, List.setIfInBounds_toArray, List.set_cons_zero, List.set_cons_succ] at hn
            exact hn)
        have st2_0 : Hid (∀ (W : World) (A5 : Option Addr) (c5 : Nat), Below wr.heap.size wr W → Blk W gh 42 HV → W.ownsRow Y.heap.size 57 40 (.slice Av k cv) k (hcs HL) → Reads W W.heap.size 3 A5 n (vs CV5) → R 8 #[true, false, true, true, true, true, true, true, true, false, false, false, false, false, false, false] ((a0.put (some 27) (.slice A5 n c5)).put (some 28) (.agg ZV)) W) := Lib.hid (by
          intro W A5 c5 hb kh ow r5
          rw [← HR.out, ← HA0.out]
          try simp only [Act.put, List.setIfInBounds_toArray, List.set_cons_zero, List.set_cons_succ]
          refine wpAnyH_ready (rs := [1, 9]) (by kernel_rfl) (by simp) ?_
          refine AllReadyH.cons (o := { dst := some 23, op := Go.Op.load 40 (Go.Operand.tmp 22), type := 40, pos := "ref.go:50", after := #[{ on := 0, ground := Go.Ground.data }], guard := none }) rfl (fun K hK => ?_) (AllReadyH.cons (o := { dst := some 31, op := Go.Op.call { callee := Go.Callee.value (Go.Operand.func 37), args := #[Go.Operand.tmp 29, Go.Operand.tmp 30], argTypes := #[33, 3] }, type := 66, pos := "ref.go:50", after := #[{ on := 7, ground := Go.Ground.data }, { on := 8, ground := Go.Ground.data }, { on := 6, ground := Go.Ground.chain }], guard := none }) rfl (fun K hK => ?_) AllReadyH.nil)
          · have hc34 : W.cell? ⟨gh, 34, none⟩ = some (.slice Av k cv) := by rw [kh.cell]; exact HC34.out
            go_simp
            refine hK.out _ _ (HSB W hb) (fun hHeld => ?_)
            clear hK K
            try simp only [Act.put, List.setIfInBounds_toArray, List.set_cons_zero, List.set_cons_succ]
            have hn := st2_1.out W A5 c5 hb kh ow r5
            rw [← HR.out, ← HA0.out] at hn
            simp only [Act.put, List.setIfInBounds_toArray, List.set_cons_zero, List.set_cons_succ] at hn
            exact hn
          · go_simp
            go_at_call 37
            refine (RCH.out _ hb).mono ?_
            rintro _ w6 ⟨v9, rfl, ho9, hb6⟩
            obtain ⟨A9, c9, rfl, _, _, rr⟩ := own_slice ho9
            go_wp2_with fail
            refine hK.out _ _ (HSB w6 (hb.trans (hb6.mono hb.size))) (fun hHeld => ?_)
            clear hK K
            try simp only [Act.put, List.setIfInBounds_toArray, List.set_cons_zero, List.set_cons_succ]
            have hn := st3_0.out w6 A5 c5 A9 c9 (hb.trans (hb6.mono hb.size)) ((kh.below hb6 kh.lt)) ((own_below ow hb6)) (((r5.below hb6).more hb6.size)) (rr)
            rw [← HR.out, ← HA0.out] at hn
            simp only [Act.put, List.setIfInBounds_toArray, List.set_cons_zero, List.set_cons_succ] at hn
            exact hn)
        have st1_1 : Hid (∀ (W : World) (A5 : Option Addr) (c5 : Nat), Below wr.heap.size wr W → Blk W gh 42 HV → W.ownsRow Y.heap.size 57 40 (.slice Av k cv) k (hcs HL) → Reads W W.heap.size 3 A5 n (vs CV5) → R 8 #[true, true, true, true, true, true, false, true, true, false, false, false, false, false, false, false] ((a0.put (some 27) (.slice A5 n c5)).put (some 23) (.slice Av k cv)) W) := Lib.hid (by
          intro W A5 c5 hb kh ow r5
          rw [← HR.out, ← HA0.out]
          try simp only [Act.put, List.setIfInBounds_toArray, List.set_cons_zero, List.set_cons_succ]
          refine wpAnyH_ready (rs := [6]) (by kernel_rfl) (by simp) ?_
          refine AllReadyH.cons (o := { dst := some 28, op := Go.Op.call { callee := Go.Callee.value (Go.Operand.func 58), args := #[Go.Operand.tmp 27], argTypes := #[49] }, type := 55, pos := "ref.go:50", after := #[{ on := 5, ground := Go.Ground.data }, { on := 5, ground := Go.Ground.chain }], guard := none }) rfl (fun K hK => ?_) AllReadyH.nil
          · go_simp
            go_at_call 58
            refine (ROF.out _ A5 c5 r5).mono ?_
            rintro _ w6 ⟨rfl, hb6⟩
            go_wp2_with fail
            refine hK.out _ _ (HSB w6 (hb.trans (hb6.mono hb.size))) (fun hHeld => ?_)
            clear hK K
            try simp only [Act.put, List.setIfInBounds_toArray, List.set_cons_zero, List.set_cons_succ]
            have hn := st2_1.out w6 A5 c5 (hb.trans (hb6.mono hb.size)) ((kh.below hb6 kh.lt)) ((own_below ow hb6)) (((r5.below hb6).more hb6.size))
            rw [← HR.out, ← HA0.out] at hn
            simp only [Act.put, List.setIfInBounds_toArray, List.set_cons_zero, List.set_cons_succ] at hn
            exact hn)
        have st1_0 : Hid (∀ (W : World) (A5 : Option Addr) (c5 : Nat), Below wr.heap.size wr W → Blk W gh 42 HV → W.ownsRow Y.heap.size 57 40 (.slice Av k cv) k (hcs HL) → Reads W W.heap.size 3 A5 n (vs CV5) → R 9 #[true, false, true, true, true, true, false, true, true, false, false, false, false, false, false, false] (a0.put (some 27) (.slice A5 n c5)) W) := Lib.hid (by
          intro W A5 c5 hb kh ow r5
          rw [← HR.out, ← HA0.out]
          try simp only [Act.put, List.setIfInBounds_toArray, List.set_cons_zero, List.set_cons_succ]
          refine wpAnyH_ready (rs := [1, 6]) (by kernel_rfl) (by simp) ?_
          refine AllReadyH.cons (o := { dst := some 23, op := Go.Op.load 40 (Go.Operand.tmp 22), type := 40, pos := "ref.go:50", after := #[{ on := 0, ground := Go.Ground.data }], guard := none }) rfl (fun K hK => ?_) (AllReadyH.cons (o := { dst := some 28, op := Go.Op.call { callee := Go.Callee.value (Go.Operand.func 58), args := #[Go.Operand.tmp 27], argTypes := #[49] }, type := 55, pos := "ref.go:50", after := #[{ on := 5, ground := Go.Ground.data }, { on := 5, ground := Go.Ground.chain }], guard := none }) rfl (fun K hK => ?_) AllReadyH.nil)
          · have hc34 : W.cell? ⟨gh, 34, none⟩ = some (.slice Av k cv) := by rw [kh.cell]; exact HC34.out
            go_simp
            refine hK.out _ _ (HSB W hb) (fun hHeld => ?_)
            clear hK K
            try simp only [Act.put, List.setIfInBounds_toArray, List.set_cons_zero, List.set_cons_succ]
            have hn := st1_1.out W A5 c5 hb kh ow r5
            rw [← HR.out, ← HA0.out] at hn
            simp only [Act.put, List.setIfInBounds_toArray, List.set_cons_zero, List.set_cons_succ] at hn
            exact hn
          · go_simp
            go_at_call 58
            refine (ROF.out _ A5 c5 r5).mono ?_
            rintro _ w6 ⟨rfl, hb6⟩
            go_wp2_with fail
            refine hK.out _ _ (HSB w6 (hb.trans (hb6.mono hb.size))) (fun hHeld => ?_)
            clear hK K
            try simp only [Act.put, List.setIfInBounds_toArray, List.set_cons_zero, List.set_cons_succ]
            have hn := st2_0.out w6 A5 c5 (hb.trans (hb6.mono hb.size)) ((kh.below hb6 kh.lt)) ((own_below ow hb6)) (((r5.below hb6).more hb6.size))
            rw [← HR.out, ← HA0.out] at hn
            simp only [Act.put, List.setIfInBounds_toArray, List.set_cons_zero, List.set_cons_succ] at hn
            exact hn)
        have st0_1 : Hid (∀ (W : World), Below wr.heap.size wr W → Blk W gh 42 HV → W.ownsRow Y.heap.size 57 40 (.slice Av k cv) k (hcs HL) → R 9 #[true, true, true, true, true, false, false, true, true, false, false, false, false, false, false, false] (a0.put (some 23) (.slice Av k cv)) W) := Lib.hid (by
          intro W  hb kh ow
          rw [← HR.out, ← HA0.out]
          try simp only [Act.put, List.setIfInBounds_toArray, List.set_cons_zero, List.set_cons_succ]
          refine wpAnyH_ready (rs := [5]) (by kernel_rfl) (by simp) ?_
          refine AllReadyH.cons (o := { dst := some 27, op := Go.Op.call { callee := Go.Callee.value (Go.Operand.func 59), args := #[Go.Operand.tmp 25, Go.Operand.tmp 26], argTypes := #[23, 3] }, type := 49, pos := "ref.go:50", after := #[{ on := 3, ground := Go.Ground.data }, { on := 4, ground := Go.Ground.data }], guard := none }) rfl (fun K hK => ?_) AllReadyH.nil
          · go_simp
            go_at_call 59
            refine (RCO.out _ hb).mono ?_
            rintro _ w6 ⟨v5, rfl, ho5, hb6⟩
            obtain ⟨A5, c5, rfl, _, _, rr⟩ := own_slice ho5
            go_wp2_with fail
            refine hK.out _ _ (HSB w6 (hb.trans (hb6.mono hb.size))) (fun hHeld => ?_)
            clear hK K
            try simp only [Act.put, List.setIfInBounds_toArray, List.set_cons_zero, List.set_cons_succ]
            have hn := st1_1.out w6 A5 c5 (hb.trans (hb6.mono hb.size)) ((kh.below hb6 kh.lt)) ((own_below ow hb6)) (rr)
            rw [← HR.out, ← HA0.out] at hn
            simp only [Act.put, List.setIfInBounds_toArray, List.set_cons_zero, List.set_cons_succ] at hn
            exact hn)
        have st0_0 : Hid (∀ (W : World), Below wr.heap.size wr W → Blk W gh 42 HV → W.ownsRow Y.heap.size 57 40 (.slice Av k cv) k (hcs HL) → R 10 #[true, false, true, true, true, false, false, true, true, false, false, false, false, false, false, false] a0 W) := Lib.hid (by
          intro W  hb kh ow
          rw [← HR.out, ← HA0.out]
          try simp only [Act.put, List.setIfInBounds_toArray, List.set_cons_zero, List.set_cons_succ]
          refine wpAnyH_ready (rs := [1, 5]) (by kernel_rfl) (by simp) ?_
          refine AllReadyH.cons (o := { dst := some 23, op := Go.Op.load 40 (Go.Operand.tmp 22), type := 40, pos := "ref.go:50", after := #[{ on := 0, ground := Go.Ground.data }], guard := none }) rfl (fun K hK => ?_) (AllReadyH.cons (o := { dst := some 27, op := Go.Op.call { callee := Go.Callee.value (Go.Operand.func 59), args := #[Go.Operand.tmp 25, Go.Operand.tmp 26], argTypes := #[23, 3] }, type := 49, pos := "ref.go:50", after := #[{ on := 3, ground := Go.Ground.data }, { on := 4, ground := Go.Ground.data }], guard := none }) rfl (fun K hK => ?_) AllReadyH.nil)
          · have hc34 : W.cell? ⟨gh, 34, none⟩ = some (.slice Av k cv) := by rw [kh.cell]; exact HC34.out
            go_simp
            refine hK.out _ _ (HSB W hb) (fun hHeld => ?_)
            clear hK K
            try simp only [Act.put, List.setIfInBounds_toArray, List.set_cons_zero, List.set_cons_succ]
            have hn := st0_1.out W hb kh ow
            rw [← HR.out, ← HA0.out] at hn
            simp only [Act.put, List.setIfInBounds_toArray, List.set_cons_zero, List.set_cons_succ] at hn
            exact hn
          · go_simp
            go_at_call 59
            refine (RCO.out _ hb).mono ?_
            rintro _ w6 ⟨v5, rfl, ho5, hb6⟩
            obtain ⟨A5, c5, rfl, _, _, rr⟩ := own_slice ho5
            go_wp2_with fail
            refine hK.out _ _ (HSB w6 (hb.trans (hb6.mono hb.size))) (fun hHeld => ?_)
            clear hK K
            try simp only [Act.put, List.setIfInBounds_toArray, List.set_cons_zero, List.set_cons_succ]
            have hn := st1_0.out w6 A5 c5 (hb.trans (hb6.mono hb.size)) ((kh.below hb6 kh.lt)) ((own_below ow hb6)) (rr)
            rw [← HR.out, ← HA0.out] at hn
            simp only [Act.put, List.setIfInBounds_toArray, List.set_cons_zero, List.set_cons_succ] at hn
            exact hn)
        exact st0_0.out _ HBD0.out (KH0.out.drew) (own_below OW0.out HBD0.out)
      · obtain rfl : k = m := by omega
        have hkI : ¬ (k : Int) < (k : Int) := by omega
        have hrr : wr.rangeAt gh 0 (hdC (n : Int) L (bs (shaN Z)) (.slice Av k cv)) := by rw [← hHV] at kh0; exact range_blkG kh0
        have HRR := Lib.hid hrr; have HHV := Lib.hid hHV
        have hvs : HV.size = 35 := by rw [← hHV, List.size_toArray]; exact hdC_len hD32
        have hvo : HV.all (·.oneCell') = true := by rw [← hHV]; exact HDO.out _ rfl
        have hvi : (Tryz.prog.info? 42).map (·.size) = some HV.size := by rw [hvs]; exact hsz.out
        have hvi2 : (Tryz.prog.info? 42).map (·.size) = some (hdC (n : Int) L (bs (shaN Z)) (.slice Av k cv)).length := by rw [hdC_len hD32]; exact hsz.out
        have HVS := Lib.hid hvs; have HVO := Lib.hid hvo; have HVI := Lib.hid hvi; have HVI2 := Lib.hid hvi2
        have hyw := HYW.out; have hs0' := HS0'.out
        have kr := HKR.out.below hbw HKR.out.lt
        have ow1 := own_base (ow0.kept (grown_setRow wr (w.heap.size + 1) HV) (by
          cases hq : (Value.slice Av k cv).ownBlock with
          | none => exact .inl rfl
          | some q' => exact .inr fun e => by injection e with e; have := (ow0.lt q' hq).1; omega)) (show w.heap.size ≤ Y.heap.size by omega)
        have bb1 := Below.row (HB2.out.trans (hbw.mono HB2.out.size)) (show w.heap.size ≤ w.heap.size + 1 by omega) HV
        rw [← hHL] at ow1
        have KR := Lib.hid kr; have OW1 := Lib.hid ow1; have BB1 := Lib.hid bb1
        clear hHV hHL hrr hvs hvo hvi hvi2 kh0 ow0 hbw kr ow1 bb1 hyw hs0' hlt hmI
        go_wp2_with (first
          | refine wpQ_loadG (by rfl) 42 (.tmp 3) rfl gh 0 rfl _ HV HHV.out _ HRR.out Tryz.underlying42 rfl HVI2.out ?_
          | (refine wpList_store_row (by rfl) (.tmp 2) (.tmp 37) (by rfl) (by rfl) (by rfl) KR.out HVI.out (by rw [HVS.out, HZ35.out]) HVO.out ?_))
        exact bodyPost_ret (v := .agg HV) (results_cell_row rfl _ _ _ _ _ _ _ (by rfl) (KR.out.row HV) Tryz.underlying42 rfl HVI.out) rfl ⟨_, by rw [← HHV.out]; rfl, OW1.out, BB1.out⟩
end
end Go.Proofs.YtpgdlmnhomnblaaGreatDoor
