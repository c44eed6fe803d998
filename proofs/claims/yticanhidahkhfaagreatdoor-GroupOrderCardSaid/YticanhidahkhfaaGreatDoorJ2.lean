import Derived.WalkSpells
import Derived.Deep.QuietTactic
import Derived.BigQuiet
import Derived.Test.YticanhidahkhfaaGreatDoorJ1
import Derived.LaidEql
import Derived.Stop.Asserts
import Derived.RowKitTokens
namespace Go.Proofs.YticanhidahkhfaaGreatDoor
open Go.RowKit
set_option linter.unusedVariables false
set_option linter.unusedSimpArgs false
set_option maxRecDepth 100000
structure Rd (w : World) (g : Nat) (A : Option Addr) (n c at_ : Nat) (err : Value) (l : List Nat) : Prop where
  blk : Blk w g 115 #[.slice A n c, .int .i64 (at_ : Int), err]
  reads : Reads w g 1 A n (bs l)
  cap : n ≤ c
  place : at_ ≤ n
  size : n ≤ 140737488355328
  byte : ∀ b ∈ l, b < 256
theorem Rd.length {w : World} {g : Nat} {A : Option Addr} {n c at_ : Nat} {err : Value} {l : List Nat} (h : Rd w g A n c at_ err l) : l.length = n := by
  have := h.reads.1; rw [bs_length] at this; omega
theorem Rd.drewN {w : World} {g : Nat} {A : Option Addr} {n c at_ : Nat} {err : Value} {l : List Nat} (h : Rd w g A n c at_ err l) (q : Nat) : Rd (w.drewN q) g A n c at_ err l :=
  ⟨h.blk.drewN q, h.reads.drewN q, h.cap, h.place, h.size, h.byte⟩
theorem Rd.goes {w : World} {g : Nat} {A : Option Addr} {n c at_ : Nat} {err : Value} {l : List Nat} (h : Rd w g A n c at_ err l) (q k : Nat) (hk : at_ + k ≤ n) :
    Rd ((w.drewN q).setCell ⟨g, 1, none⟩ (.int .i64 ((at_ : Int) + (k : Int)))) g A n c (at_ + k) err l ∧ w.grownBy ((w.drewN q).setCell ⟨g, 1, none⟩ (.int .i64 ((at_ : Int) + (k : Int)))) (some g) :=
  ⟨⟨by have := (h.blk.drewN q).set_ 1 (.int .i64 ((at_ : Int) + (k : Int))); simpa using this, (h.reads.drewN q).setCell (p := ⟨g, 1, none⟩) (Nat.le_refl _) _, h.cap, hk, h.size, h.byte⟩,
    only_setCell (only_drewN (World.grownBy.refl w _) q) (.inl rfl) _⟩
theorem Rd.below {w w' : World} {g : Nat} {A : Option Addr} {n c at_ : Nat} {err : Value} {l : List Nat} {B : Nat} (h : Rd w g A n c at_ err l) (hb : Below B w w') (hg : g < B) : Rd w' g A n c at_ err l :=
  ⟨h.blk.below hb hg, (h.reads.more (Nat.le_of_lt hg) |>.below hb) |> (fun r => ⟨r.1, fun hn => by
    obtain ⟨ad, e, _, hc⟩ := r.2 hn
    obtain ⟨ad', e', hb', _⟩ := h.reads.2 hn
    rw [e] at e'
    injection e' with e'
    subst e'
    exact ⟨_, e, hb', hc⟩⟩), h.cap, h.place, h.size, h.byte⟩
theorem stopped_nil (w : World) : Calls Tryz.prog 112 #[.pointer none] w fun e w' => e = .returned (.bool true) ∧ w = w' := by
  go_enter Tryz.func112, Tryz.ntmps112
  go_wp2_with fail
  go_ret
  exact ⟨rfl, rfl⟩
theorem stopped_ok {w : World} {g : Nat} {A : Option Addr} {n c at_ : Nat} {l : List Nat} (h : Rd w g A n c at_ .nilIface l) :
    Calls Tryz.prog 112 #[.pointer (some ⟨g, 0, none⟩)] w fun e w' => e = .returned (.bool false) ∧ w = w' := by
  have hc := h.blk.cell 2
  simp only [List.getElem?_toArray, List.getElem?_cons_succ, List.getElem?_cons_zero] at hc
  go_enter Tryz.func112, Tryz.ntmps112
  go_wp2_with fail
  go_ret
  exact ⟨rfl, rfl⟩
theorem left_any {w : World} {g : Nat} {A : Option Addr} {n c at_ : Nat} {err : Value} {l : List Nat} (h : Rd w g A n c at_ err l) :
    Calls Tryz.prog 67 #[.pointer (some ⟨g, 0, none⟩)] w fun e w' => e = .returned (.int .i64 ((n : Int) - at_)) ∧ Drawn w w' := by
  have hc0 := h.blk.cell 0
  have hc := h.blk.cell 1
  simp only [List.getElem?_toArray, List.getElem?_cons_succ, List.getElem?_cons_zero] at hc hc0
  have hs := h.size
  have hp := h.place
  go_enter Tryz.func67, Tryz.ntmps67
  go_wp2_with fail
  go_quiet (fail)
  go_wp2_with fail
  go_ret
  exact ⟨rfl, Drawn.one _ _⟩
theorem clone_any (A : Option Addr) (n c : Nat) (xs : List Value) (w : World) (hr : Reads w w.heap.size 1 A n xs) (h1 : ∀ u ∈ xs, u.oneCell' = true) (hb : n ≤ 140737488355328) :
    Calls Tryz.prog 61 #[.slice A n c] w (New w xs n) := by
  obtain ⟨i0, hi0, hz0, hz1, hz2⟩ := info_parts info_u8
  rcases A with _ | ad
  · have hn : n = 0 := by
      rcases Nat.eq_zero_or_pos n with h0 | h0
      · exact h0
      · obtain ⟨ad, h, _⟩ := hr.2 h0
        cases h
    subst hn
    have hx : xs = [] := List.eq_nil_of_length_eq_zero (by simpa using hr.1)
    subst hx
    have he := Lib.run_eql_slice_nil (P := Tryz.prog) w 48 5 none 0 c 0 0 Tryz.underlying48
    go_enter Tryz.func61, Tryz.ntmps61
    go_wp2_with fail
    go_ret
    exact ⟨_, rfl, World.ownsRow_nil _ _ _ _, Below.refl _ _⟩
  · have he := Lib.run_eql_slice_nil (P := Tryz.prog) w 48 5 (some ad) n c 0 0 Tryz.underlying48
    have hown0 : (w.alloc (.cells #[] 5)).ownsRow w.heap.size 5 1 (.slice (some ⟨w.heap.size, 0, none⟩) 0 0) 0 [] :=
      World.ownsRow_made w _ _ (Nat.le_refl _) (by unfold maxLen; omega) rfl
    go_enter Tryz.func61, Tryz.ntmps61
    go_wp2_with (at_builtin
                 refine wpList_append_any _ rfl (.tmp 5) (.tmp 6) _ rfl w.heap.size 5 i0 _ 1 1 Tryz.underlying48 hi0 hz0 hz1 hz2 rfl (by omega) (.slice (some ⟨w.heap.size, 0, none⟩) 0 0) 0 [] rfl
                   hown0 w.heap.size (some ad) n c xs rfl (hr.alloc (Nat.le_refl _) _) h1 (by unfold maxLen; omega) (by omega) (by simp) ?_
                 intro v1 w1 hown1 hg1 hat1)
    go_ret
    exact ⟨v1, rfl, by simpa using hown1, ((Below.refl _ _).alloc (Nat.le_refl _) _).grown hg1 (by simp) (fun k hk => by simp [Value.ownBlock] at hk; omega)⟩
theorem newReader_any (A : Option Addr) (n c : Nat) (l : List Nat) (w : World) (hr : Reads w w.heap.size 1 A n (bs l)) (hb : n ≤ 140737488355328) (h256 : ∀ b ∈ l, b < 256) :
    Calls Tryz.prog 21 #[.slice A n c] w fun e w' => ∃ g A' c', e = .returned (.pointer (some ⟨g, 0, none⟩)) ∧ w.heap.size ≤ g ∧ Rd w' g A' n c' 0 .nilIface l ∧ Below w.heap.size w w' := by
  go_enter Tryz.func21, Tryz.ntmps21
  go_wp2_with (go_at_call 61; refine (clone_any A n c (bs l) w hr (bs_one l) hb).mono ?_; rintro e w1 ⟨v, rfl, hown, hbl⟩; obtain ⟨A', c', rfl, hnc, hc', hr'⟩ := own_slice hown)
  go_ret
  refine ⟨_, A', c', rfl, hbl.size, ⟨?_, hr'.alloc (Nat.le_refl _) _, hnc, Nat.zero_le _, hb, h256⟩, hbl.alloc hbl.size _⟩
  exact Blk.new _ _ _
end Go.Proofs.YticanhidahkhfaaGreatDoor
namespace Go.Proofs.YticanhidahkhfaaGreatDoor
open Go.RowKit
set_option linter.unusedVariables false
set_option linter.unusedSimpArgs false
set_option maxRecDepth 100000
def ErrIs (w : World) (err : Value) : Option (Int × Nat) → Prop
  | none => err = .nilIface
  | some (k, on) => ∃ f, err = .iface 128 (.pointer (some ⟨f, 0, none⟩)) ∧ Blk w f 133 #[.int .i64 (on : Int), .iface 28 (.int .i64 k)]
def RdS (w : World) (g : Nat) (l : List Nat) (at_ : Nat) (x : Option (Int × Nat)) : Prop := ∃ A n c err, Rd w g A n c at_ err l ∧ ErrIs w err x
theorem ErrIs.next {w w' : World} {err : Value} {x : Option (Int × Nat)} (h : ErrIs w err x) (hb : ∀ f t cs, Blk w f t cs → t = 133 → Blk w' f t cs) : ErrIs w' err x := by
  cases x with
  | none => exact h
  | some x =>
    obtain ⟨k, on⟩ := x
    obtain ⟨f, e, hf⟩ := h
    exact ⟨f, e, hb _ _ _ hf rfl⟩
theorem RdS.lt {w : World} {g : Nat} {l : List Nat} {at_ : Nat} {x : Option (Int × Nat)} (h : RdS w g l at_ x) : g < w.heap.size := by
  obtain ⟨A, n, c, err, hR, _⟩ := h
  exact hR.blk.lt
theorem RdS.next {w w' : World} {g : Nat} {l : List Nat} {at_ : Nat} {x : Option (Int × Nat)} (h : RdS w g l at_ x) (hb : Below w.heap.size w w') : RdS w' g l at_ x := by
  have hg := h.lt
  obtain ⟨A, n, c, err, hR, hE⟩ := h
  exact ⟨A, n, c, err, hR.below hb hg, hE.next fun f t cs hf _ => hf.below hb hf.lt⟩
theorem RdS.place {w : World} {g : Nat} {l : List Nat} {at_ : Nat} {x : Option (Int × Nat)} (h : RdS w g l at_ x) : at_ ≤ l.length ∧ l.length ≤ 140737488355328 := by
  obtain ⟨A, n, c, err, hR, hE⟩ := h
  have := hR.length; have := hR.place; have := hR.size
  omega
theorem Blk.type_ne {w : World} {g g' : Nat} {t t' : TypeId} {cs cs' : Array Value} (h : Blk w g t cs) (h' : Blk w g' t' cs') (hne : t ≠ t') : g ≠ g' := by
  rintro rfl
  unfold Blk at h h'
  rw [h] at h'
  injection h' with h'
  injection h' with _ ht
  exact hne ht
theorem RdS.goes {w w1 : World} {g : Nat} {l : List Nat} {at_ : Nat} {A : Option Addr} {n c : Nat} {err : Value} {x : Option (Int × Nat)} (hR : Rd w g A n c at_ err l) (hE : ErrIs w err x) (k : Nat) (hk : at_ + k ≤ n) (hb : Below w.heap.size w w1) :
    RdS (w1.setCell ⟨g, 1, none⟩ (.int .i64 ((at_ : Int) + (k : Int)))) g l (at_ + k) x ∧ w.grownBy (w1.setCell ⟨g, 1, none⟩ (.int .i64 ((at_ : Int) + (k : Int)))) (some g) := by
  have hR1 := hR.below hb hR.blk.lt
  have hE1 := hE.next (w' := w1) fun f t cs hf _ => hf.below hb hf.lt
  have := hR1.goes 0 k hk
  refine ⟨⟨A, n, c, err, this.1, hE1.next fun f t cs hf ht => hf.far (p := ⟨g, 1, none⟩) (hf.type_ne hR1.blk (by rw [ht]; decide)) _⟩, ?_⟩
  exact only_setCell (only_below (World.grownBy.refl w _) hb) (.inl rfl) _
theorem stopped_err {w : World} {g : Nat} {l : List Nat} {at_ : Nat} {x : Int × Nat} (h : RdS w g l at_ (some x)) :
    Calls Tryz.prog 112 #[.pointer (some ⟨g, 0, none⟩)] w fun e w' => e = .returned (.bool true) ∧ w = w' := by
  obtain ⟨A, n, c, err, hR, hE⟩ := h
  obtain ⟨k, on⟩ := x
  obtain ⟨f, rfl, hf⟩ := hE
  have hc := hR.blk.cell 2
  simp only [List.getElem?_toArray, List.getElem?_cons_succ, List.getElem?_cons_zero] at hc
  go_enter Tryz.func112, Tryz.ntmps112
  go_wp2_with fail
  go_ret
  exact ⟨rfl, rfl⟩
theorem stop_any {w : World} {g : Nat} {A : Option Addr} {n c at_ : Nat} {l : List Nat} (k : Int) (hR : Rd w g A n c at_ .nilIface l) :
    Calls Tryz.prog 114 #[.pointer (some ⟨g, 0, none⟩), .iface 28 (.int .i64 k)] w
      fun e w' => e = .returned (.tuple #[]) ∧ RdS w' g l at_ (some (k, at_)) ∧ w.grownBy w' (some g) := by
  have hc := hR.blk.cell 1
  have hc2 := hR.blk.cell 2
  simp only [List.getElem?_toArray, List.getElem?_cons_succ, List.getElem?_cons_zero] at hc hc2
  have hf := hR.blk.frozen 2
  have hlt := hR.blk.lt
  go_enter Tryz.func114, Tryz.ntmps114
  go_wp2_with fail
  go_end0
  have hR1 : RdS ((w.setCell ⟨g, 2, none⟩ (.iface 128 (.pointer (some ⟨w.heap.size, 0, none⟩)))).alloc (.cells #[.int .i64 (at_ : Int), .iface 28 (.int .i64 k)] 133)) g l at_ (some (k, at_)) := by
    refine ⟨A, n, c, _, ⟨?_, ((hR.reads.setCell (p := ⟨g, 2, none⟩) (Nat.le_refl _) _).alloc (by simp; omega) _), hR.cap, hR.place, hR.size, hR.byte⟩, w.heap.size, rfl, ?_⟩
    · have := (hR.blk.set_ 2 (.iface 128 (.pointer (some ⟨w.heap.size, 0, none⟩)))).alloc (.cells #[.int .i64 (at_ : Int), .iface 28 (.int .i64 k)] 133)
      simpa using this
    · have := Blk.new (w.setCell ⟨g, 2, none⟩ (.iface 128 (.pointer (some ⟨w.heap.size, 0, none⟩)))) 133 #[.int .i64 (at_ : Int), .iface 28 (.int .i64 k)]
      simpa using this
  exact ⟨rfl, hR1, only_alloc (only_setCell (World.grownBy.refl w _) (.inl rfl) _) _⟩
def takeS (l : List Nat) (at_ : Nat) (x : Option (Int × Nat)) (n : Int) : List Nat × Nat × Option (Int × Nat) :=
  match x with
  | some x => ([], at_, some x)
  | none => if n < 0 then ([], at_, some (1, at_)) else if (l.length : Int) - at_ < n then ([], at_, some (2, at_)) else ((l.drop at_).take n.toNat, at_ + n.toNat, none)
def fixS (l : List Nat) (at_ : Nat) (x : Option (Int × Nat)) (n : Int) : Nat × Nat × Option (Int × Nat) :=
  match x with
  | some x => (0, at_, some x)
  | none => if n < 0 ∨ 8 < n then (0, at_, some (1, at_)) else if (l.length : Int) - at_ < n then (0, at_, some (2, at_)) else (unfx ((l.drop at_).take n.toNat), at_ + n.toNat, none)
def failS (at_ : Nat) (x : Option (Int × Nat)) (k : Int) : Option (Int × Nat) :=
  match x with
  | some x => some x
  | none => if k = 0 then none else some (k, at_)
def RdTo (w : World) (g : Nat) (l : List Nat) (at_ : Nat) (x : Option (Int × Nat)) (w' : World) : Prop := RdS w' g l at_ x ∧ w.grownBy w' (some g)
theorem RdTo.same {w w' : World} {g : Nat} {l : List Nat} {at_ : Nat} {x : Option (Int × Nat)} (h : RdS w g l at_ x) (hd : Drawn w w') : RdTo w g l at_ x w' := by
  have hb := hd.below (Below.refl w.heap.size w)
  exact ⟨h.next hb, only_below (World.grownBy.refl w _) hb⟩
def Bytes (l : List Nat) (e : Ending) (w' : World) : Prop := ∃ A n c, e = .returned (.slice A n c) ∧ Reads w' w'.heap.size 1 A n (bs l)
theorem left_nil (w : World) : Calls Tryz.prog 67 #[.pointer none] w fun e w' => e = .returned (.int .i64 0) ∧ w = w' := by
  go_enter Tryz.func67, Tryz.ntmps67
  go_wp2_with fail
  go_ret
  exact ⟨rfl, rfl⟩
theorem left_is {w : World} {g : Nat} {l : List Nat} {at_ : Nat} {x : Option (Int × Nat)} (h : RdS w g l at_ x) :
    Calls Tryz.prog 67 #[.pointer (some ⟨g, 0, none⟩)] w fun e w' => e = .returned (.int .i64 ((l.length : Int) - at_)) ∧ Drawn w w' := by
  obtain ⟨A, n, c, err, hR, hE⟩ := h
  exact (left_any hR).mono fun e w' ⟨he, hd⟩ => ⟨by rw [he, hR.length], hd⟩
theorem stop_is {w : World} {g : Nat} {l : List Nat} {at_ : Nat} (k : Int) (h : RdS w g l at_ none) :
    Calls Tryz.prog 114 #[.pointer (some ⟨g, 0, none⟩), .iface 28 (.int .i64 k)] w fun e w' => e = .returned (.tuple #[]) ∧ RdTo w g l at_ (some (k, at_)) w' := by
  obtain ⟨A, n, c, err, hR, rfl⟩ := h
  exact stop_any k hR
theorem stopped_is {w : World} {g : Nat} {l : List Nat} {at_ : Nat} (h : RdS w g l at_ none) :
    Calls Tryz.prog 112 #[.pointer (some ⟨g, 0, none⟩)] w fun e w' => e = .returned (.bool false) ∧ w = w' := by
  obtain ⟨A, n, c, err, hR, rfl⟩ := h
  exact stopped_ok hR
theorem only_trans {a b c : World} {row : Option Nat} (h : a.grownBy b row) (k : b.grownBy c row) : a.grownBy c row := h.trans k
theorem own_far {w : World} {B g i n c : Nat} {A : Option Addr} {e : TypeId} {xs : List Value} (h : w.ownsRow B e 1 (.slice A n c) n xs) (hg : g < B) (u : Value) : Reads (w.setCell ⟨g, i, none⟩ u) (w.setCell ⟨g, i, none⟩ u).heap.size 1 A n xs :=
  Reads.of_own (h.kept (only_setCell (p := ⟨g, i, none⟩) (World.grownBy.refl w (some g)) (.inl rfl) u) (.inr (fun h' => by have := (h.lt g h').1; omega)))
end Go.Proofs.YticanhidahkhfaaGreatDoor
namespace Go.Proofs.YticanhidahkhfaaGreatDoor
open Go.RowKit Go.Extern.Stop Go.Stop Go.Extern
set_option linter.unusedVariables false
set_option linter.unusedSimpArgs false
set_option maxRecDepth 100000
theorem as_nil (t : Value) (w : World) :
    Calls Tryz.prog 75 #[.nilIface, t] w fun e w' => e = .returned (.bool false) ∧ w = w' := by
  go_enter Tryz.func75, Tryz.ntmps75
  go_wp2_with fail
  go_ret
  exact ⟨rfl, rfl⟩
theorem rlm (z : Sem Value) (f : TypeId → Addr → Nat → Nat → Sem Value) (v : Value) :
    ReflectliteValue.method z f #[v] = (do match ← ReflectliteValue.parts v with | none => z | some (t, a, fl) => f t a fl (fl % 32)) := rfl
theorem rls (v x : Value) : ReflectliteValue.set #[v, x] = (do
    let (some (dst, a, fl), some (src, b, _)) := (← ReflectliteValue.parts v, ← ReflectliteValue.parts x)
      | unsupported (.noEntry "extern/(internal/reflectlite.Value).Set.zeroValue")
    if fl / ReflectliteValue.flagAddr % 2 == 0 then unsupported (.noEntry "extern/(internal/reflectlite.Value).Set.unaddressable")
    let val ← loadVar src b
    if ← Rtype.directlyAssignable dst src then storeVar dst a val
    else if ← Rtype.implements dst src then
      if (← Rtype.kind src) == 20 then
        match val with
        | .nilIface => unsupported (.noEntry "extern/reflectlite: a nil value of one interface type handed on as a value of another")
        | _ => storeVar dst a val
      else storeVar dst a (.iface src val)
    else panicString ("reflectlite.Set: value of type " ++ (← Rtype.spelt src) ++ " is not assignable to type " ++ (← Rtype.spelt dst))
    pure (.tuple #[])) := rfl
theorem methodKind (h : Value) (w : World) : (Go.method 496 239 (.agg #[h]) "Kind").run Tryz.prog w = .ok (335, h) w := by kernel_rfl
theorem methodElem (h : Value) (w : World) : (Go.method 496 239 (.agg #[h]) "Elem").run Tryz.prog w = .ok (350, .agg #[h]) w := by kernel_rfl
theorem methodImplements (h : Value) (w : World) : (Go.method 496 239 (.agg #[h]) "Implements").run Tryz.prog w = .ok (351, .agg #[h]) w := by kernel_rfl
theorem methodAssignableTo (h : Value) (w : World) : (Go.method 496 239 (.agg #[h]) "AssignableTo").run Tryz.prog w = .ok (348, .agg #[h]) w := by kernel_rfl
theorem valueOfPF (t : Addr) (w : World) : (ReflectliteValue.unpack (.iface 130 (.pointer (some t)))).run Tryz.prog w
    = .ok (.agg #[.pointer (some ⟨2, 130, none⟩), .pointer (some ⟨w.heap.size, 0, none⟩), .int .u64 150]) (w.alloc (.cells #[.pointer (some t)] 130)) := by kernel_rfl
theorem typePF (a : Addr) (w : World) : (ReflectliteValue.methodAny (ReflectliteValue.valueError "reflectlite.Value.Type" 0) (fun t _ _ _ => ReflectliteType.toType t) #[.agg #[.pointer (some ⟨2, 130, none⟩), .pointer (some a), .int .u64 150]]).run Tryz.prog w
    = .ok (.iface 239 (.agg #[.pointer (some ⟨2, 130, none⟩)])) w := by kernel_rfl
theorem kindPF (w : World) : ((ReflectliteType.abiMethod fun t => (fun a : Nat => Value.int IntKind.u8 (a : Int)) <$> Rtype.kind t) #[.pointer (some ⟨2, 130, none⟩)]).run Tryz.prog w = .ok (.int .u8 22) w := by kernel_rfl
theorem kindF (w : World) : ((ReflectliteType.abiMethod fun t => (fun a : Nat => Value.int IntKind.u8 (a : Int)) <$> Rtype.kind t) #[.pointer (some ⟨2, 128, none⟩)]).run Tryz.prog w = .ok (.int .u8 22) w := by kernel_rfl
theorem partsPF (a : Addr) (w : World) : (ReflectliteValue.parts (.agg #[.pointer (some ⟨2, 130, none⟩), .pointer (some a), .int .u64 150])).run Tryz.prog w = .ok (some (130, a, 150)) w := by kernel_rfl
theorem isNilPF (a p : Addr) (W : World) (ha : W.cell? a = some (.pointer (some p))) :
    (ReflectliteValue.method (ReflectliteValue.valueError "reflectlite.Value.IsNil" 0) ReflectliteValue.isNil #[.agg #[.pointer (some ⟨2, 130, none⟩), .pointer (some a), .int .u64 150]]).run Tryz.prog W = .ok (.bool false) W := by
  rw [rlm]
  simp only [Sem.run_bind, partsPF, Result.andThen]
  simp [ReflectliteValue.isNil, loadVar, isAgg, underlying, Tryz.underlying130, ha, Result.andThen]
theorem elemTPF (w : World) : (ReflectliteType.method ReflectliteType.elem #[.agg #[.pointer (some ⟨2, 130, none⟩)]]).run Tryz.prog w = .ok (.iface 239 (.agg #[.pointer (some ⟨2, 128, none⟩)])) w := by kernel_rfl
theorem implementsF (w : World) : (ReflectliteType.relation "Implements" ReflectliteType.implements_ #[.agg #[.pointer (some ⟨2, 128, none⟩)], .iface 239 (.agg #[.pointer (some ⟨2, 113, none⟩)])]).run Tryz.prog w = .ok (.bool true) w := by kernel_rfl
theorem typeOfF (v : Value) (w : World) : (ReflectliteType.typeOf #[.iface 128 v]).run Tryz.prog w = .ok (.iface 239 (.agg #[.pointer (some ⟨2, 128, none⟩)])) w := by kernel_rfl
theorem assignableF (w : World) : (ReflectliteType.relation "AssignableTo" ReflectliteType.assignableTo #[.agg #[.pointer (some ⟨2, 128, none⟩)], .iface 239 (.agg #[.pointer (some ⟨2, 128, none⟩)])]).run Tryz.prog w = .ok (.bool true) w := by kernel_rfl
theorem valueOfF (e : Addr) (w : World) : (ReflectliteValue.unpack (.iface 128 (.pointer (some e)))).run Tryz.prog w
    = .ok (.agg #[.pointer (some ⟨2, 128, none⟩), .pointer (some ⟨w.heap.size, 0, none⟩), .int .u64 150]) (w.alloc (.cells #[.pointer (some e)] 128)) := by kernel_rfl
theorem elemOfPF (w : World) : (Rtype.elem? 130).run Tryz.prog w = .ok (some 128) w := by kernel_rfl
theorem mkF (p : Addr) (w : World) : (ReflectliteValue.mk 128 p ReflectliteValue.flagAddr).run Tryz.prog w = .ok (.agg #[.pointer (some ⟨2, 128, none⟩), .pointer (some p), .int .u64 406]) w := by kernel_rfl
theorem elemVF (a p : Addr) (W : World) (ha : W.cell? a = some (.pointer (some p))) :
    (ReflectliteValue.method (ReflectliteValue.valueError "reflectlite.Value.Elem" 0) ReflectliteValue.elem #[.agg #[.pointer (some ⟨2, 130, none⟩), .pointer (some a), .int .u64 150]]).run Tryz.prog W
      = .ok (.agg #[.pointer (some ⟨2, 128, none⟩), .pointer (some p), .int .u64 406]) W := by
  rw [rlm]
  simp only [Sem.run_bind, partsPF, Result.andThen]
  simp [ReflectliteValue.elem, loadVar, isAgg, underlying, Tryz.underlying130, ha, Result.andThen, elemOfPF, mkF]
theorem partsAF (a : Addr) (w : World) : (ReflectliteValue.parts (.agg #[.pointer (some ⟨2, 128, none⟩), .pointer (some a), .int .u64 406])).run Tryz.prog w = .ok (some (128, a, 406)) w := by kernel_rfl
theorem partsF (a : Addr) (w : World) : (ReflectliteValue.parts (.agg #[.pointer (some ⟨2, 128, none⟩), .pointer (some a), .int .u64 150])).run Tryz.prog w = .ok (some (128, a, 150)) w := by kernel_rfl
theorem directF (w : World) : (Rtype.directlyAssignable 128 128).run Tryz.prog w = .ok true w := by kernel_rfl
theorem setF (ta b : Addr) (e : Addr) (old : Value) (W : World) (hb : W.cell? b = some (.pointer (some e))) (ht : W.cell? ta = some old) (hf : W.frozen? ta = false) :
    (ReflectliteValue.set #[.agg #[.pointer (some ⟨2, 128, none⟩), .pointer (some ta), .int .u64 406], .agg #[.pointer (some ⟨2, 128, none⟩), .pointer (some b), .int .u64 150]]).run Tryz.prog W
      = .ok (.tuple #[]) (W.setCell ta (.pointer (some e))) := by
  rw [rls]
  simp only [Sem.run_bind, partsAF, partsF, Result.andThen]
  simp [ReflectliteValue.flagAddr, loadVar, isAgg, underlying, Tryz.underlying128, hb, Result.andThen, directF, storeVar, Value.cells, storeCells, Addr.add]
  rw [run_store Tryz.prog W ta _ _ (by rfl)]
  simp [ht, hf]
theorem valueOfPE (t : Addr) (w : World) : (ReflectliteValue.unpack (.iface 131 (.pointer (some t)))).run Tryz.prog w
    = .ok (.agg #[.pointer (some ⟨2, 131, none⟩), .pointer (some ⟨w.heap.size, 0, none⟩), .int .u64 150]) (w.alloc (.cells #[.pointer (some t)] 131)) := by kernel_rfl
theorem typePE (a : Addr) (w : World) : (ReflectliteValue.methodAny (ReflectliteValue.valueError "reflectlite.Value.Type" 0) (fun t _ _ _ => ReflectliteType.toType t) #[.agg #[.pointer (some ⟨2, 131, none⟩), .pointer (some a), .int .u64 150]]).run Tryz.prog w
    = .ok (.iface 239 (.agg #[.pointer (some ⟨2, 131, none⟩)])) w := by kernel_rfl
theorem kindPE (w : World) : ((ReflectliteType.abiMethod fun t => (fun a : Nat => Value.int IntKind.u8 (a : Int)) <$> Rtype.kind t) #[.pointer (some ⟨2, 131, none⟩)]).run Tryz.prog w = .ok (.int .u8 22) w := by kernel_rfl
theorem kindE (w : World) : ((ReflectliteType.abiMethod fun t => (fun a : Nat => Value.int IntKind.u8 (a : Int)) <$> Rtype.kind t) #[.pointer (some ⟨2, 28, none⟩)]).run Tryz.prog w = .ok (.int .u8 2) w := by kernel_rfl
theorem partsPE (a : Addr) (w : World) : (ReflectliteValue.parts (.agg #[.pointer (some ⟨2, 131, none⟩), .pointer (some a), .int .u64 150])).run Tryz.prog w = .ok (some (131, a, 150)) w := by kernel_rfl
theorem isNilPE (a p : Addr) (W : World) (ha : W.cell? a = some (.pointer (some p))) :
    (ReflectliteValue.method (ReflectliteValue.valueError "reflectlite.Value.IsNil" 0) ReflectliteValue.isNil #[.agg #[.pointer (some ⟨2, 131, none⟩), .pointer (some a), .int .u64 150]]).run Tryz.prog W = .ok (.bool false) W := by
  rw [rlm]
  simp only [Sem.run_bind, partsPE, Result.andThen]
  simp [ReflectliteValue.isNil, loadVar, isAgg, underlying, Tryz.underlying131, ha, Result.andThen]
theorem elemTPE (w : World) : (ReflectliteType.method ReflectliteType.elem #[.agg #[.pointer (some ⟨2, 131, none⟩)]]).run Tryz.prog w = .ok (.iface 239 (.agg #[.pointer (some ⟨2, 28, none⟩)])) w := by kernel_rfl
theorem implementsE (w : World) : (ReflectliteType.relation "Implements" ReflectliteType.implements_ #[.agg #[.pointer (some ⟨2, 28, none⟩)], .iface 239 (.agg #[.pointer (some ⟨2, 113, none⟩)])]).run Tryz.prog w = .ok (.bool true) w := by kernel_rfl
theorem typeOfE (v : Value) (w : World) : (ReflectliteType.typeOf #[.iface 28 v]).run Tryz.prog w = .ok (.iface 239 (.agg #[.pointer (some ⟨2, 28, none⟩)])) w := by kernel_rfl
theorem assignableE (w : World) : (ReflectliteType.relation "AssignableTo" ReflectliteType.assignableTo #[.agg #[.pointer (some ⟨2, 28, none⟩)], .iface 239 (.agg #[.pointer (some ⟨2, 28, none⟩)])]).run Tryz.prog w = .ok (.bool true) w := by kernel_rfl
theorem valueOfE (e : Int) (w : World) : (ReflectliteValue.unpack (.iface 28 (.int .i64 e))).run Tryz.prog w
    = .ok (.agg #[.pointer (some ⟨2, 28, none⟩), .pointer (some ⟨w.heap.size, 0, none⟩), .int .u64 130]) (w.alloc (.cells #[.int .i64 e] 28)) := by kernel_rfl
theorem elemOfPE (w : World) : (Rtype.elem? 131).run Tryz.prog w = .ok (some 28) w := by kernel_rfl
theorem mkE (p : Addr) (w : World) : (ReflectliteValue.mk 28 p ReflectliteValue.flagAddr).run Tryz.prog w = .ok (.agg #[.pointer (some ⟨2, 28, none⟩), .pointer (some p), .int .u64 386]) w := by kernel_rfl
theorem elemVE (a p : Addr) (W : World) (ha : W.cell? a = some (.pointer (some p))) :
    (ReflectliteValue.method (ReflectliteValue.valueError "reflectlite.Value.Elem" 0) ReflectliteValue.elem #[.agg #[.pointer (some ⟨2, 131, none⟩), .pointer (some a), .int .u64 150]]).run Tryz.prog W
      = .ok (.agg #[.pointer (some ⟨2, 28, none⟩), .pointer (some p), .int .u64 386]) W := by
  rw [rlm]
  simp only [Sem.run_bind, partsPE, Result.andThen]
  simp [ReflectliteValue.elem, loadVar, isAgg, underlying, Tryz.underlying131, ha, Result.andThen, elemOfPE, mkE]
theorem partsAE (a : Addr) (w : World) : (ReflectliteValue.parts (.agg #[.pointer (some ⟨2, 28, none⟩), .pointer (some a), .int .u64 386])).run Tryz.prog w = .ok (some (28, a, 386)) w := by kernel_rfl
theorem partsE (a : Addr) (w : World) : (ReflectliteValue.parts (.agg #[.pointer (some ⟨2, 28, none⟩), .pointer (some a), .int .u64 130])).run Tryz.prog w = .ok (some (28, a, 130)) w := by kernel_rfl
theorem directE (w : World) : (Rtype.directlyAssignable 28 28).run Tryz.prog w = .ok true w := by kernel_rfl
theorem setE (ta b : Addr) (e : Int) (old : Value) (W : World) (hb : W.cell? b = some (.int .i64 e)) (ht : W.cell? ta = some old) (hf : W.frozen? ta = false) :
    (ReflectliteValue.set #[.agg #[.pointer (some ⟨2, 28, none⟩), .pointer (some ta), .int .u64 386], .agg #[.pointer (some ⟨2, 28, none⟩), .pointer (some b), .int .u64 130]]).run Tryz.prog W
      = .ok (.tuple #[]) (W.setCell ta (.int .i64 e)) := by
  rw [rls]
  simp only [Sem.run_bind, partsAE, partsE, Result.andThen]
  simp [ReflectliteValue.flagAddr, loadVar, isAgg, underlying, Tryz.underlying28, hb, Result.andThen, directE, storeVar, Value.cells, storeCells, Addr.add]
  rw [run_store Tryz.prog W ta _ _ (by rfl)]
  simp [ht, hf]
theorem assignableFE (w : World) : (ReflectliteType.relation "AssignableTo" ReflectliteType.assignableTo #[.agg #[.pointer (some ⟨2, 128, none⟩)], .iface 239 (.agg #[.pointer (some ⟨2, 28, none⟩)])]).run Tryz.prog w = .ok (.bool false) w := by kernel_rfl
end Go.Proofs.YticanhidahkhfaaGreatDoor
namespace Go.Proofs.YticanhidahkhfaaGreatDoor
open Go.RowKit Go.Extern.Stop Go.Stop Go.Extern
set_option linter.unusedVariables false
set_option linter.unusedSimpArgs false
set_option maxRecDepth 100000
set_option maxHeartbeats 4000000 in
theorem as_hitF0 (x : Addr) (t : Addr) (old : Value) (w : World) (hg : w.cell? ⟨0, 0, none⟩ = some (.iface 239 (.agg #[.pointer (some ⟨2, 113, none⟩)]))) (ht0 : w.cell? t = some old) (hf0 : w.frozen? t = false) :
    Calls Tryz.prog 75 #[.iface 128 (.pointer (some x)), .iface 130 (.pointer (some t))] w fun ev w' => ev = .returned (.bool true) ∧ w' = ((((w.alloc (.cells #[.pointer (some t)] 130)).alloc (.cells #[.pointer (some ⟨2, 130, none⟩), .pointer (some ⟨w.heap.size, 0, none⟩), .int .u64 150] 184)).alloc (.cells #[.pointer (some ⟨2, 130, none⟩), .pointer (some ⟨w.heap.size, 0, none⟩), .int .u64 150] 184)).alloc (.cells #[.pointer (some x)] 128)).setCell t (.pointer (some x)) := by
  have xVO := @run_callFunc_extern Tryz.prog 124 _ (fun args => ReflectliteValue.unpack (args.getD 0 (.tuple #[]))) Tryz.func124 (by kernel_rfl) (by kernel_rfl) (by kernel_rfl) (by kernel_rfl)
  have xTY := @run_callFunc_extern Tryz.prog 125 _ (ReflectliteValue.methodAny (ReflectliteValue.valueError "reflectlite.Value.Type" 0) (fun t _ _ _ => ReflectliteType.toType t)) Tryz.func125 (by kernel_rfl) (by kernel_rfl) (by kernel_rfl) (by kernel_rfl)
  have xIN := @run_callFunc_extern Tryz.prog 126 _ (ReflectliteValue.method (ReflectliteValue.valueError "reflectlite.Value.IsNil" 0) ReflectliteValue.isNil) Tryz.func126 (by kernel_rfl) (by kernel_rfl) (by kernel_rfl) (by kernel_rfl)
  have xKI := @run_callFunc_extern Tryz.prog 335 _ (ReflectliteType.abiMethod fun t => do pure (.int .u8 (← Rtype.kind t))) Tryz.func335 (by kernel_rfl) (by kernel_rfl) (by kernel_rfl) (by kernel_rfl)
  have xEL := @run_callFunc_extern Tryz.prog 350 _ (ReflectliteType.method ReflectliteType.elem) Tryz.func350 (by kernel_rfl) (by kernel_rfl) (by kernel_rfl) (by kernel_rfl)
  have xIM := @run_callFunc_extern Tryz.prog 351 _ (ReflectliteType.relation "Implements" ReflectliteType.implements_) Tryz.func351 (by kernel_rfl) (by kernel_rfl) (by kernel_rfl) (by kernel_rfl)
  have xTO := @run_callFunc_extern Tryz.prog 186 _ ReflectliteType.typeOf Tryz.func186 (by kernel_rfl) (by kernel_rfl) (by kernel_rfl) (by kernel_rfl)
  have xAT := @run_callFunc_extern Tryz.prog 348 _ (ReflectliteType.relation "AssignableTo" ReflectliteType.assignableTo) Tryz.func348 (by kernel_rfl) (by kernel_rfl) (by kernel_rfl) (by kernel_rfl)
  have xVE := @run_callFunc_extern Tryz.prog 187 _ (ReflectliteValue.method (ReflectliteValue.valueError "reflectlite.Value.Elem" 0) ReflectliteValue.elem) Tryz.func187 (by kernel_rfl) (by kernel_rfl) (by kernel_rfl) (by kernel_rfl)
  have xVS := @run_callFunc_extern Tryz.prog 188 _ ReflectliteValue.set Tryz.func188 (by kernel_rfl) (by kernel_rfl) (by kernel_rfl) (by kernel_rfl)
  have tO := typeOfF
  have mA := methodAssignableTo
  have a25 := assignableF
  have v25 := valueOfF
  have f6 := valueOfPF
  have f7 := typePF
  have mK := methodKind
  have mE := methodElem
  have mI := methodImplements
  have k27 := kindPF
  have k25 := kindF
  have e27 := elemTPF
  have i25 := implementsF
  have n8 := isNilPF ⟨w.heap.size, 0, none⟩ t ((w.alloc (.cells #[.pointer (some t)] 130)).alloc (.cells #[.pointer (some ⟨2, 130, none⟩), .pointer (some ⟨w.heap.size, 0, none⟩), .int .u64 150] 184)) (by simp)
  have hlt : 0 < w.heap.size := World.block_lt_of_cell? w _ hg
  have hg2 : ((w.alloc (.cells #[.pointer (some t)] 130)).alloc (.cells #[.pointer (some ⟨2, 130, none⟩), .pointer (some ⟨w.heap.size, 0, none⟩), .int .u64 150] 184)).cell? ⟨0, 0, none⟩ = some (.iface 239 (.agg #[.pointer (some ⟨2, 113, none⟩)])) := by
    rw [World.cell?_alloc_lt _ _ ⟨0, 0, none⟩ (by first | (simp; done) | (simp; omega)), World.cell?_alloc_lt _ _ ⟨0, 0, none⟩ hlt]; exact hg
  have htl : t.block < w.heap.size := World.block_lt_of_cell? w t ht0
  have el := elemVF ⟨w.heap.size, 0, none⟩ t (((w.alloc (.cells #[.pointer (some t)] 130)).alloc (.cells #[.pointer (some ⟨2, 130, none⟩), .pointer (some ⟨w.heap.size, 0, none⟩), .int .u64 150] 184)).alloc (.cells #[.pointer (some ⟨2, 130, none⟩), .pointer (some ⟨w.heap.size, 0, none⟩), .int .u64 150] 184)) (by rw [World.cell?_alloc_lt _ _ ⟨w.heap.size, 0, none⟩ (by simp; omega)]; simp)
  have st := setF t ⟨w.heap.size + 1 + 1 + 1, 0, none⟩ x old ((((w.alloc (.cells #[.pointer (some t)] 130)).alloc (.cells #[.pointer (some ⟨2, 130, none⟩), .pointer (some ⟨w.heap.size, 0, none⟩), .int .u64 150] 184)).alloc (.cells #[.pointer (some ⟨2, 130, none⟩), .pointer (some ⟨w.heap.size, 0, none⟩), .int .u64 150] 184)).alloc (.cells #[.pointer (some x)] 128))
    (by rw [World.cell?_alloc_at _ _ _ _ (by simp)]; rfl)
    (by rw [World.cell?_alloc_lt _ _ t (by simp; omega), World.cell?_alloc_lt _ _ t (by simp; omega), World.cell?_alloc_lt _ _ t (by simp; omega), World.cell?_alloc_lt _ _ t htl]; exact ht0)
    (by rw [World.frozen?_alloc_old _ _ t (by simp; omega), World.frozen?_alloc_old _ _ t (by simp; omega), World.frozen?_alloc_old _ _ t (by simp; omega), World.frozen?_alloc_old _ _ t (Nat.ne_of_lt htl)]; exact hf0)
  go_enter Tryz.func75, Tryz.ntmps75
  go_wp2
  refine wp_loop_rounds 1 ?_
  rw [rounds_succ]
  go_wp2
  go_ret
  exact ⟨rfl, rfl⟩
end Go.Proofs.YticanhidahkhfaaGreatDoor
