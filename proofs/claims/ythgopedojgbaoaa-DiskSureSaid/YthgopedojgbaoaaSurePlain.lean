/- A disk with one file alone, over no program: what the deeds of DiskSure make of it. -/
import Derived.Test.YthgopedojgbaoaaDkBoot
import Derived.Test.YthgopedojgbaoaaDkActs3
namespace Go.Proofs.Ythgopedojgbaoaa
set_option linter.unusedVariables false
set_option linter.unusedSimpArgs false

def flen (x : Option Fl) : Nat := match x with | none => 0 | some f => f.1.length
def cnt (x : Option Fl) : Nat := match x with | none => 0 | some _ => 1
def one (x : Option Fl) (fu : Int) (dn : Bool) : St := { room := 5000, used := flen x, n := cnt x, fuse := fu, down := dn, V := fun t => if t = [102] then x else none }
def addF (x : Option Fl) (y : List Nat) : Fl := match x with | none => (y, 0) | some f => (f.1 ++ y, f.2)
theorem one_V (x : Option Fl) (fu : Int) (dn : Bool) : (one x fu dn).V [102] = x := by unfold one; simp
theorem one_up (x : Option Fl) (fu : Int) : ¬ (one x fu false).down = true := by unfold one; simp
theorem upd_one (x : Option Fl) (y : Option Fl) : upd (fun t : List UInt8 => if t = [102] then x else none) [102] y = fun t => if t = [102] then y else none := by
  funext t
  unfold upd
  by_cases e : t = [102] <;> simp [e]
theorem new_one : St.new 5000 = one none (-1) false := by
  unfold St.new one
  congr 1
  funext t
  split <;> rfl
theorem add_one (x : Option Fl) (fu : Int) (dn : Bool) (y : List Nat) (h : flen x + y.length ≤ 5000) : (one x fu dn).add [102] y = (0, one (some (addF x y)) fu dn) := by
  unfold St.add
  rw [if_neg (by decide)]
  have hV := one_V x fu dn
  rw [hV]
  cases x with
  | none =>
    have h1 : ¬ (one none fu dn).n = 65536 := by show ¬ (0 = 65536); omega
    have h2 : ¬ (one none fu dn).room - (one none fu dn).used < y.length := by show ¬ (5000 - 0 < y.length); simp [flen] at h; omega
    refine ((if_neg h1).trans (if_neg h2)).trans ?_
    refine congrArg (Prod.mk 0) ?_
    unfold one
    simp only [upd_one, flen, cnt, addF, Nat.zero_add]
  | some f =>
    have h2 : ¬ (one (some f) fu dn).room - (one (some f) fu dn).used < y.length := by show ¬ (5000 - f.1.length < y.length); simp [flen] at h; omega
    refine (if_neg h2).trans ?_
    refine congrArg (Prod.mk 0) ?_
    unfold St.put one
    simp only [upd_one, flen, cnt, addF, List.length_append]
theorem deed_calm (x : Option Fl) (whole ahead : St → Nat × St) : (one x (-1) false).deed whole ahead = whole (one x (-1) false) := by
  unfold St.deed
  rw [if_neg (one_up _ _), if_neg (by show ¬ ((-1 : Int) = 0); omega)]
  rfl
theorem deed_fell (x : Option Fl) (fu : Int) (whole ahead : St → Nat × St) : (one x fu true).deed whole ahead = (15, one x fu true) := by
  unfold St.deed
  exact if_pos (show (one x fu true).down = true from rfl)
theorem deed_burns (x : Option Fl) (whole : St → Nat × St) (y : List Nat) (h : flen x + y.length ≤ 5000) : (one x 0 false).deed whole (fun T => T.add [102] y) = (15, one (some (addF x y)) 0 true) := by
  unfold St.deed
  rw [if_neg (one_up _ _), if_pos (show (one x 0 false).fuse = 0 from rfl)]
  simp only [add_one x 0 false y h]
  rfl
theorem deed_ticks (x : Option Fl) (fu : Int) (hf : 0 < fu) (whole ahead : St → Nat × St) : (one x fu false).deed whole ahead = whole (one x (fu - 1) false) := by
  unfold St.deed
  rw [if_neg (one_up _ _), if_neg (by show ¬ (fu = 0); omega)]
  congr 1
  unfold St.tick one
  simp only [hf, if_true]
theorem sync_one (f : Fl) : (one (some f) (-1) false).deed (fun T => T.on [102] (actSync [102])) (fun T => (0, T)) = (0, one (some (f.1, f.1.length)) (-1) false) := by
  rw [deed_calm]
  unfold St.on
  rw [if_neg (by decide)]
  have hV := one_V (some f) (-1) false
  rw [hV]
  simp only
  unfold actSync one
  simp only [upd_one, flen, cnt]
/-- What the tail leaves: all of it, or, once the power has failed, a beginning. -/
def Tl (a b : List Nat) (s0 : Prop) (x : Option Fl) (dn : Bool) : Prop :=
  (dn = false ∧ ((x = none ∧ a = [] ∧ b = [] ∧ s0) ∨ x = some (a ++ b, a.length))) ∨ (dn = true ∧ ∃ bp, bp <+: b ∧ x = some (a ++ bp, a.length))
theorem Tl.flen_le {a b : List Nat} {s0 : Prop} {x : Option Fl} {dn : Bool} (h : Tl a b s0 x dn) : flen x ≤ a.length + b.length := by
  rcases h with ⟨_, ⟨rfl, _⟩ | rfl⟩ | ⟨_, bp, hp, rfl⟩
  · exact Nat.zero_le _
  · simp [flen]
  · have := hp.length_le; simp [flen]; omega
theorem Tl.next {a b : List Nat} {s0 : Prop} {x : Option Fl} {dn : Bool} {fu : Int} (h : Tl a b s0 x dn) (hf : 0 ≤ fu) (y : List Nat) (hl : a.length + b.length + y.length ≤ 5000) :
    ∃ e x' fu' dn', 0 ≤ fu' ∧ (one x fu dn).deed (fun T => T.add [102] y) (fun T => T.add [102] y) = (e, one x' fu' dn') ∧ Tl a (b ++ y) s0 x' dn' := by
  have hfl := h.flen_le
  cases dn with
  | true =>
    rcases h with ⟨h, _⟩ | ⟨_, bp, hp, rfl⟩
    · cases h
    · exact ⟨15, _, fu, true, hf, deed_fell _ _ _ _, .inr ⟨rfl, bp, hp.trans (List.prefix_append _ _), rfl⟩⟩
  | false =>
    have hx : ∃ x', addF x y = x' ∧ some x' = some (a ++ (b ++ y), a.length) := by
      rcases h with ⟨_, ⟨rfl, rfl, rfl, _⟩ | rfl⟩ | ⟨h, _⟩
      · exact ⟨_, rfl, rfl⟩
      · exact ⟨_, rfl, by simp [addF]⟩
      · cases h
    obtain ⟨x', hx1, hx2⟩ := hx
    by_cases h0 : fu = 0
    · subst h0
      refine ⟨15, _, 0, true, Int.le_refl _, deed_burns x _ y (by omega), .inr ⟨rfl, b ++ y, List.prefix_refl _, ?_⟩⟩
      rw [hx1, hx2]
    · refine ⟨0, _, fu - 1, false, by omega, (deed_ticks x fu (by omega) _ _).trans (add_one x (fu - 1) false y (by omega)), .inl ⟨rfl, .inr ?_⟩⟩
      rw [hx1, hx2]
theorem boot_none (fu : Int) (dn : Bool) (keep : Int) {ts : List (List UInt8)} (hts : NamesOf (one none fu dn).V ts) (hok : (one none fu dn).ok) : (bootS ts ({ one none fu dn with down := false, fuse := -1 }, [keep])).1 = one none (-1) false := by
  have h1 := hts.len hok.tot
  have h2 : ts = [] := List.eq_nil_of_length_eq_zero h1
  subst h2
  rfl
theorem boot_some (f : Fl) (fu : Int) (dn : Bool) (keep : Int) {ts : List (List UInt8)} (hts : NamesOf (one (some f) fu dn).V ts) (hok : (one (some f) fu dn).ok) (hle : (bootF f [keep]).1.1.length ≤ f.1.length) :
    (bootS ts ({ one (some f) fu dn with down := false, fuse := -1 }, [keep])).1 = one (some (bootF f [keep]).1) (-1) false := by
  have h1 := hts.len hok.tot
  have h2 := (hts.mem [102]).2 (by rw [one_V]; rfl)
  have h3 : ts = [[102]] := by
    have h4 : ts.length = 1 := h1
    match ts, h4, h2 with
    | [x], _, h2 => simp at h2; rw [h2]
  subst h3
  rw [bootS_cons]
  show (bootK _ _).1 = _
  unfold bootK
  have hV : (({ one (some f) fu dn with down := false, fuse := -1 } : St)).V [102] = some f := one_V (some f) fu dn
  simp only [hV]
  unfold one
  have : f.1.length - (f.1.length - (bootF f [keep]).1.1.length) = (bootF f [keep]).1.1.length := by omega
  simp only [upd_one, flen, cnt, if_true, this]
/-- What a new start leaves of a file whose beginning is sure. -/
theorem bootF_pre (a bp : List Nat) (keep : Int) : ∃ bq, bq <+: bp ∧ (bootF (a ++ bp, a.length) [keep]).1.1 = a ++ bq := by
  by_cases h : a.length < (a ++ bp).length
  · have e : (bootF (a ++ bp, a.length) [keep]).1.1 = (a ++ bp).take (a.length + (modu keep (((a ++ bp).length - a.length : Nat) + 1)).toNat) := congrArg (fun z : Fl × List Int => z.1.1) (if_pos h)
    refine ⟨bp.take (modu keep (((a ++ bp).length - a.length : Nat) + 1)).toNat, List.take_prefix _ _, ?_⟩
    rw [e, List.take_append]
    simp
    exact List.take_of_length_le (by omega)
  · have e : (bootF (a ++ bp, a.length) [keep]).1.1 = a ++ bp := congrArg (fun z : Fl × List Int => z.1.1) (if_neg h)
    exact ⟨bp, List.prefix_refl _, e⟩
theorem read_none (fu : Int) : (one none fu false).read [102] = (8, []) := by
  unfold St.read
  rw [if_neg (one_up _ _), if_neg (by decide), one_V]
theorem read_some (f : Fl) (fu : Int) : (one (some f) fu false).read [102] = (0, f.1) := by
  unfold St.read
  rw [if_neg (one_up _ _), if_neg (by decide), one_V]
/-- The whole end. -/
theorem Tl.ends {a b : List Nat} {s0 : Prop} {x : Option Fl} {dn : Bool} {fu keep : Int} (h : Tl a b s0 x dn) {ts : List (List UInt8)} (hts : NamesOf (one x fu dn).V ts) (hok : (one x fu dn).ok) :
    (s0 ∧ (bootS ts ({ one x fu dn with down := false, fuse := -1 }, [keep])).1.down = false ∧ ((bootS ts ({ one x fu dn with down := false, fuse := -1 }, [keep])).1).read [102] = (8, [])) ∨
      ∃ bq, bq <+: b ∧ (bootS ts ({ one x fu dn with down := false, fuse := -1 }, [keep])).1.down = false ∧ ((bootS ts ({ one x fu dn with down := false, fuse := -1 }, [keep])).1).read [102] = (0, a ++ bq) := by
  have hs : ∀ bp, bp <+: b → x = some (a ++ bp, a.length) → ∃ bq, bq <+: b ∧ (bootS ts ({ one x fu dn with down := false, fuse := -1 }, [keep])).1.down = false ∧ ((bootS ts ({ one x fu dn with down := false, fuse := -1 }, [keep])).1).read [102] = (0, a ++ bq) := by
    rintro bp hp rfl
    obtain ⟨bq, hq, e⟩ := bootF_pre a bp keep
    refine ⟨bq, hq.trans hp, ?_⟩
    rw [boot_some _ fu dn keep hts hok (by rw [e]; have := hq.length_le; simp; omega)]
    exact ⟨rfl, by rw [read_some, e]⟩
  rcases h with ⟨_, ⟨rfl, rfl, rfl, h0⟩ | hx⟩ | ⟨_, bp, hp, hx⟩
  · left
    rw [boot_none fu dn keep hts hok]
    exact ⟨h0, rfl, read_none _⟩
  · exact .inr (hs b (List.prefix_refl _) hx)
  · exact .inr (hs bp hp hx)
end Go.Proofs.Ythgopedojgbaoaa
