import PyProof.Rows.All
import Wide.All
import OpenK.AllK
import Wide.FinOn
import PySem.Challenge.RW_guardsums_k19_ratios
import HandS.ForMost
import HandS.ForExc
import HandS.Wide
import HandS.Gcd
import HandS.FStr
import HandS.Lambda
import HandS.SlotsOwn
import HandS.IsInst
import HandS.Star
import HandS.Small
import HandS.HeadHook4
import HandS.HeadWalk
import KE.KOpsOwn
import KE.KCallOwn
import HandS.Style
import HandS.ExcIs
import KE.KStateDown
import HandS.Head0
import HandS.Head1
import HandS.Head2
import HandS.Head3
import HandS.HeadEnd
import HandS.HeadHook1
import HandS.HeadHook2
import HandS.HeadHook3
set_option Elab.async false
set_option linter.all false
set_option maxRecDepth 100000
set_option maxHeartbeats 0
namespace NumR
def sg (b : Int) : Int := if b < 0 then -1 else 1
/-- a / b in lowest terms -/
def lowN (a b : Int) : Int := (sg b * a) / (Int.gcd a b : Int)
def lowO (a b : Int) : Int := (sg b * b) / (Int.gcd a b : Int)
/-- n / o is a / b in lowest terms -/
structure Low (a b n o : Int) : Prop where
  pos : 0 < o
  cop : Int.gcd n o = 1
  eq : n * b = a * o
theorem gcd_pos {a b : Int} (hb : b ≠ 0) : 0 < (Int.gcd a b : Int) := by
  have := Int.gcd_pos_of_ne_zero_right a hb
  omega
theorem sg_mul {b : Int} (hb : b ≠ 0) : 0 < sg b * b := by
  unfold sg
  split <;> omega
theorem low_is {a b : Int} (hb : b ≠ 0) : Low a b (lowN a b) (lowO a b) := by
  have hg := gcd_pos (a := a) hb
  have hs := sg_mul hb
  have d1 : (Int.gcd a b : Int) ∣ sg b * a := Int.dvd_trans (Int.gcd_dvd_left a b) (Int.dvd_mul_left _ _)
  have d2 : (Int.gcd a b : Int) ∣ sg b * b := Int.dvd_trans (Int.gcd_dvd_right a b) (Int.dvd_mul_left _ _)
  have hgs : Int.gcd (sg b * a) (sg b * b) = Int.gcd a b := by
    unfold sg
    split
    · simp
    · simp
  unfold lowN lowO
  refine ⟨?_, ?_, ?_⟩
  · exact Int.ediv_pos_of_pos_of_dvd hs (by omega) d2
  · rw [← hgs]
    exact Int.gcd_ediv_gcd_ediv_gcd (by rw [hgs]; omega)
  · have e1 := Int.ediv_mul_cancel d1
    have e2 := Int.ediv_mul_cancel d2
    generalize sg b * a / (Int.gcd a b : Int) = n at *
    generalize sg b * b / (Int.gcd a b : Int) = o at *
    generalize (Int.gcd a b : Int) = g at *
    have hs1 : sg b = 1 ∨ sg b = -1 := by unfold sg; split <;> omega
    have key : (n * b - a * o) * g = 0 := by grind
    rcases Int.mul_eq_zero.mp key with z | z
    · omega
    · omega
theorem cop_dvd {n o k : Int} (h : Int.gcd n o = 1) (d : o ∣ n * k) : o ∣ k := by
  have h1 : Nat.Coprime o.natAbs n.natAbs := by
    show Nat.gcd _ _ = 1
    rw [Nat.gcd_comm]
    exact h
  have h2 : o.natAbs ∣ n.natAbs * k.natAbs := by
    rw [← Int.natAbs_mul]
    exact Int.natAbs_dvd_natAbs.mpr d
  exact Int.natAbs_dvd_natAbs.mp (Nat.Coprime.dvd_of_dvd_mul_left h1 h2)
theorem Low.unique {a b n o a' b' n' o' : Int} (h : Low a b n o) (h' : Low a' b' n' o') (hb : b ≠ 0) (hb' : b' ≠ 0) (e : a * b' = a' * b) : n = n' ∧ o = o' := by
  have h1 := h.eq
  have h2 := h'.eq
  have p1 := h.pos
  have p2 := h'.pos
  have key : n * o' = n' * o := by
    have : (n * o' - n' * o) * (b * b') = 0 := by grind
    rcases Int.mul_eq_zero.mp this with z | z
    · omega
    · rcases Int.mul_eq_zero.mp z with z | z
      · exact absurd z hb
      · exact absurd z hb'
  have d1 : o ∣ o' := cop_dvd h.cop ⟨n', by grind⟩
  have d2 : o' ∣ o := cop_dvd h'.cop ⟨n, by grind⟩
  have eo : o = o' := Int.dvd_antisymm (by omega) (by omega) d1 d2
  subst eo
  refine ⟨?_, rfl⟩
  have : (n - n') * o = 0 := by grind
  rcases Int.mul_eq_zero.mp this with z | z
  · omega
  · omega
/-- the fields hang on the value alone -/
theorem Low.of {a b n o : Int} (h : Low a b n o) (hb : b ≠ 0) : n = lowN a b ∧ o = lowO a b := h.unique (low_is hb) hb hb rfl
theorem low_congr {a b a' b' : Int} (hb : b ≠ 0) (hb' : b' ≠ 0) (e : a * b' = a' * b) : lowN a b = lowN a' b' ∧ lowO a b = lowO a' b' := (low_is hb).unique (low_is hb') hb hb' e
theorem low_one (a : Int) : lowN a 1 = a ∧ lowO a 1 = 1 := by
  have h : Low a 1 a 1 := ⟨by omega, by simp, by simp⟩
  have := h.of (by omega)
  exact ⟨this.1.symm, this.2.symm⟩
/-- equal fields: equal values -/
theorem low_iff {a b c d : Int} (hb : b ≠ 0) (hd : d ≠ 0) : (lowN a b = lowN c d ∧ lowO a b = lowO c d) ↔ a * d = c * b := by
  refine ⟨fun ⟨h1, h2⟩ => ?_, low_congr hb hd⟩
  have e1 := (low_is (a := a) hb).eq
  have e2 := (low_is (a := c) hd).eq
  have p := (low_is (a := a) hb).pos
  rw [← h1, ← h2] at e2
  generalize lowN a b = n at *
  generalize lowO a b = o at *
  have : (a * d - c * b) * o = 0 := by grind
  rcases Int.mul_eq_zero.mp this with z | z
  · omega
  · omega
theorem low_zero {c d : Int} (hd : d ≠ 0) : lowN c d = 0 ↔ c = 0 := by
  have e := (low_is (a := c) hd).eq
  have p := (low_is (a := c) hd).pos
  refine ⟨fun h => ?_, fun h => ?_⟩
  · rw [h] at e
    have : c * lowO c d = 0 := by omega
    rcases Int.mul_eq_zero.mp this with z | z
    · exact z
    · omega
  · rw [h] at e ⊢
    have : lowN 0 d * d = 0 := by omega
    rcases Int.mul_eq_zero.mp this with z | z
    · exact z
    · exact absurd z hd
/-- what __init__ reckons -/
theorem init_pos {a b : Int} (hb : 0 < b) : a.fdiv (Int.gcd a b : Int) = lowN a b ∧ b.fdiv (Int.gcd a b : Int) = lowO a b := by
  have hg := gcd_pos (a := a) (show b ≠ 0 by omega)
  unfold lowN lowO sg
  rw [if_neg (by omega), Int.one_mul, Int.one_mul, Int.fdiv_eq_ediv_of_nonneg _ (by omega), Int.fdiv_eq_ediv_of_nonneg _ (by omega)]
  exact ⟨rfl, rfl⟩
theorem fdiv_neg_exact {a g : Int} (hg : 0 < g) (d : g ∣ a) : a.fdiv (-g) = (-1 * a) / g := by
  obtain ⟨k, rfl⟩ := d
  have e1 : (g * k).fdiv (-g) = -k := by
    have : g * k = (-g) * (-k) := by grind
    rw [this, Int.mul_fdiv_cancel_left _ (by omega)]
  have e2 : -1 * (g * k) = g * (-k) := by grind
  rw [e1, e2, Int.mul_ediv_cancel_left _ (by omega)]
theorem init_neg {a b : Int} (hb : b < 0) : a.fdiv (-(Int.gcd a b : Int)) = lowN a b ∧ b.fdiv (-(Int.gcd a b : Int)) = lowO a b := by
  have hg := gcd_pos (a := a) (show b ≠ 0 by omega)
  unfold lowN lowO sg
  rw [if_pos hb, fdiv_neg_exact hg (Int.gcd_dvd_left a b), fdiv_neg_exact hg (Int.gcd_dvd_right a b)]
  exact ⟨rfl, rfl⟩
/-- sizes -/
theorem natAbs_ediv_le (x : Int) {g : Int} (hg : 0 < g) (d : g ∣ x) : (x / g).natAbs ≤ x.natAbs := by
  obtain ⟨k, rfl⟩ := d
  rw [Int.mul_ediv_cancel_left _ (by omega), Int.natAbs_mul]
  have : 1 ≤ g.natAbs := by omega
  exact Nat.le_mul_of_pos_left _ this
theorem lowN_le {a b : Int} (hb : b ≠ 0) : (lowN a b).natAbs ≤ a.natAbs := by
  have d1 : (Int.gcd a b : Int) ∣ sg b * a := Int.dvd_trans (Int.gcd_dvd_left a b) (Int.dvd_mul_left _ _)
  have := natAbs_ediv_le _ (gcd_pos (a := a) hb) d1
  unfold lowN
  have h2 : (sg b * a).natAbs = a.natAbs := by unfold sg; split <;> omega
  omega
theorem lowO_le {a b : Int} (hb : b ≠ 0) : (lowO a b).natAbs ≤ b.natAbs := by
  have d1 : (Int.gcd a b : Int) ∣ sg b * b := Int.dvd_trans (Int.gcd_dvd_right a b) (Int.dvd_mul_left _ _)
  have := natAbs_ediv_le _ (gcd_pos (a := a) hb) d1
  unfold lowO
  have h2 : (sg b * b).natAbs = b.natAbs := by unfold sg; split <;> omega
  omega
/-! ### what the operations reckon: n1 / o1 is a / b, n2 / o2 is c / d -/
section
variable {a b c d n1 o1 n2 o2 : Int}
theorem add_ok (h1 : Low a b n1 o1) (h2 : Low c d n2 o2) : (n1 * o2 + n2 * o1) * (b * d) = (a * d + c * b) * (o1 * o2) := by
  have e1 := h1.eq
  have e2 := h2.eq
  grind
theorem sub_ok (h1 : Low a b n1 o1) (h2 : Low c d n2 o2) : (n1 * o2 - n2 * o1) * (b * d) = (a * d - c * b) * (o1 * o2) := by
  have e1 := h1.eq
  have e2 := h2.eq
  grind
theorem mul_ok (h1 : Low a b n1 o1) (h2 : Low c d n2 o2) : (n1 * n2) * (b * d) = (a * c) * (o1 * o2) := by
  have e1 := h1.eq
  have e2 := h2.eq
  grind
theorem div_ok (h1 : Low a b n1 o1) (h2 : Low c d n2 o2) : (n1 * o2) * (b * c) = (a * d) * (o1 * n2) := by
  have e1 := h1.eq
  have e2 := h2.eq
  grind
theorem sq_pos {x : Int} (h : x ≠ 0) : 0 < x * x := by
  rcases Int.lt_or_gt_of_ne h with z | z
  · exact Int.mul_pos_of_neg_of_neg z z
  · exact Int.mul_pos z z
theorem less_ok (h1 : Low a b n1 o1) (h2 : Low c d n2 o2) (hb : b ≠ 0) (hd : d ≠ 0) : (n1 * o2 < n2 * o1) ↔ a * b * d * d < c * d * b * b := by
  have e1 := h1.eq
  have e2 := h2.eq
  have hp : 0 < (b * b) * (d * d) := Int.mul_pos (sq_pos hb) (sq_pos hd)
  have hq : 0 < o1 * o2 := Int.mul_pos h1.pos h2.pos
  have l1 : n1 * o2 * ((b * b) * (d * d)) = a * b * d * d * (o1 * o2) := by grind
  have l2 : n2 * o1 * ((b * b) * (d * d)) = c * d * b * b * (o1 * o2) := by grind
  refine ⟨fun h => ?_, fun h => ?_⟩
  · have := Int.mul_lt_mul_of_pos_right h hp
    rw [l1, l2] at this
    exact Int.lt_of_mul_lt_mul_right this (Int.le_of_lt hq)
  · have := Int.mul_lt_mul_of_pos_right h hq
    rw [← l1, ← l2] at this
    exact Int.lt_of_mul_lt_mul_right this (Int.le_of_lt hp)
end
theorem abs_eq (x : Int) : (if x < 0 then -x else x) = (x.natAbs : Int) := by split <;> omega
theorem abs_ok {a b n o : Int} (h : Low a b n o) : (n.natAbs : Int) * (b.natAbs : Int) = (a.natAbs : Int) * o := by
  have e := h.eq
  have p := h.pos
  have : (n * b).natAbs = (a * o).natAbs := by rw [e]
  rw [Int.natAbs_mul, Int.natAbs_mul] at this
  have ho : (o.natAbs : Int) = o := by omega
  have h2 : ((n.natAbs * b.natAbs : Nat) : Int) = ((a.natAbs * o.natAbs : Nat) : Int) := by rw [this]
  rw [Int.natCast_mul, Int.natCast_mul, ho] at h2
  exact h2
theorem low_low {a b : Int} (hb : b ≠ 0) : Low a b (lowN a b) (lowO a b) := low_is hb
theorem low_self {a b n o : Int} (h : Low a b n o) : Low n o n o := ⟨h.pos, h.cop, rfl⟩
theorem low_int (m : Int) : Low m 1 m 1 := ⟨by omega, by simp, by simp⟩
/-- the law's own: gcd by remainders -/
theorem gcd_turn {x y : Int} (hx : 0 ≤ x) (hy : 0 < y) : Int.gcd y (x % y) = Int.gcd x y := by
  have e : x % y = x - (x / y) * y := by
    have := Int.emod_add_ediv_mul x y
    omega
  rw [e, Int.gcd_sub_mul_right_right, Int.gcd_comm]
/-! ### sizes of what is reckoned -/
def Bd (k : Nat) (x : Int) : Prop := x.natAbs < 2 ^ k
theorem Bd.mono {k l : Nat} {x : Int} (h : Bd k x) (hl : k ≤ l) : Bd l x := Nat.lt_of_lt_of_le h (Nat.pow_le_pow_right (by decide) hl)
theorem Bd.mul {k l : Nat} {x y : Int} (h1 : Bd k x) (h2 : Bd l y) : Bd (k + l) (x * y) := by
  unfold Bd
  rw [Int.natAbs_mul, Nat.pow_add]
  exact Nat.mul_lt_mul'' h1 h2
theorem Bd.add {k : Nat} {x y : Int} (h1 : Bd k x) (h2 : Bd k y) : Bd (k + 1) (x + y) := by
  unfold Bd at *
  have : 2 ^ (k + 1) = 2 ^ k + 2 ^ k := by omega
  omega
theorem Bd.neg {k : Nat} {x : Int} (h : Bd k x) : Bd k (-x) := by
  unfold Bd at *
  omega
theorem Bd.sub {k : Nat} {x y : Int} (h1 : Bd k x) (h2 : Bd k y) : Bd (k + 1) (x - y) := by
  unfold Bd at *
  have : 2 ^ (k + 1) = 2 ^ k + 2 ^ k := by omega
  omega
theorem Bd.of_le {k : Nat} {x y : Int} (h : Bd k x) (hl : y.natAbs ≤ x.natAbs) : Bd k y := Nat.lt_of_le_of_lt hl h
end NumR

namespace Ru
open PySem PySem.W PySem.Calls PyProof.Rows
/-! ### the model's own steps -/
section
variable {prog : Program} {w : World} {A : Around} {E : Value → Shared → Prop} {s : Shared} {K : Frag} {x C f g : Addr} {ox : Obj} {od : Option Obj} {nm : String}
/-- an int's own method, handed an instance, declines -/
abbrev FinW (prog : Program) (w : World) (A : Around) (E : Value → Shared → Prop) (Q : Value → Shared → Prop) : Fin → Shared → Prop := fun fin s' => ∃ v, fin = .done (.ret v) ∧ Q v s'
theorem intBinary_no {name : String} {fn : Int → Int → Sem Fin} {a : Int} {t : Tok} {dx : Addr} (hx : s.heap.get? x = some (instObj C dx)) {Q : Value → Shared → Prop} (h : Q .notImplemented s) :
    wpAny (model prog w) A (Builtin.Int.intBinary name fn false ⟨[.int a t, .ref x], []⟩) (FinW prog w A E Q) E s := by
  obtain ⟨hp, gs, d, tk, os⟩ := s
  unfold Builtin.Int.intBinary
  wp_walk
  exact ⟨_, rfl, h⟩
theorem typeIs_i (s : Shared) (a : Int) (t : Tok) : s.TypeIs (.int a t) "int" := typeIs_int s a t
/-- of an int's op: it fills its place, and declines an instance -/
structure IntNo (prog : Program) (w : World) (nm : String) : Prop where
  fills : fillsNumberSlot (.type "int") nm = pure true
  no : ∀ {name : Str} {A : Around} {E : Value → Shared → Prop} {s : Shared} {C x dx : Addr} {a : Int} {t : Tok} {Q : Option Value → Shared → Prop}, name = PySem.dunder nm → s.heap.get? x = some (instObj C dx) → Q none s → wpAny (model prog w) A (tryMethod (.int a t) name (.ref x)) Q E s
theorem intNo_add : IntNo prog w "add" where
  fills := PySem.F.fills_int_add
  no := by
    intro name A E s C x dx a t Q hn hx h
    have S : Slot "int" name "int.__add__" := by rw [hn]; exact PySem.F.slot_int_add
    have R : wpAny (model prog w) A.in1 (Builtin.«int.__add__» ⟨[.int a t, .ref x], []⟩) (FinW prog w A.in1 E fun v s' => v = .notImplemented ∧ Q none s') E s := intBinary_no hx ⟨rfl, h⟩
    have en : entryFor table "int.__add__" = some Builtin.«int.__add__» := PySem.F.entry_int_add
    have ar : argsOk "int.__add__" ⟨[.int a t, .ref x], []⟩ := PySem.F.args_int_add_2 _ _
    generalize Builtin.«int.__add__» = B at en R
    exact wpAny_tryMethod_declines (typeIs_int s a t) S (wpAny_call_entry S (typeIs_int s a t) en R ar)
theorem intNo_sub : IntNo prog w "sub" where
  fills := PySem.F.fills_int_sub
  no := by
    intro name A E s C x dx a t Q hn hx h
    have S : Slot "int" name "int.__sub__" := by rw [hn]; exact PySem.F.slot_int_sub
    have R : wpAny (model prog w) A.in1 (Builtin.«int.__sub__» ⟨[.int a t, .ref x], []⟩) (FinW prog w A.in1 E fun v s' => v = .notImplemented ∧ Q none s') E s := intBinary_no hx ⟨rfl, h⟩
    have en : entryFor table "int.__sub__" = some Builtin.«int.__sub__» := PySem.F.entry_int_sub
    have ar : argsOk "int.__sub__" ⟨[.int a t, .ref x], []⟩ := PySem.F.args_int_sub_2 _ _
    generalize Builtin.«int.__sub__» = B at en R
    exact wpAny_tryMethod_declines (typeIs_int s a t) S (wpAny_call_entry S (typeIs_int s a t) en R ar)
theorem intNo_mul : IntNo prog w "mul" where
  fills := PySem.F.fills_int_mul
  no := by
    intro name A E s C x dx a t Q hn hx h
    have S : Slot "int" name "int.__mul__" := by rw [hn]; exact PySem.F.slot_int_mul
    have R : wpAny (model prog w) A.in1 (Builtin.«int.__mul__» ⟨[.int a t, .ref x], []⟩) (FinW prog w A.in1 E fun v s' => v = .notImplemented ∧ Q none s') E s := intBinary_no hx ⟨rfl, h⟩
    have en : entryFor table "int.__mul__" = some Builtin.«int.__mul__» := PySem.F.entry_int_mul
    have ar : argsOk "int.__mul__" ⟨[.int a t, .ref x], []⟩ := PySem.F.args_int_mul_2 _ _
    generalize Builtin.«int.__mul__» = B at en R
    exact wpAny_tryMethod_declines (typeIs_int s a t) S (wpAny_call_entry S (typeIs_int s a t) en R ar)
/-- int op instance: the instance's reflected method answers -/
theorem bin_rev {op : Operator} {sym : String} {a : Int} {t : Tok} {dx : Addr} {Q : Value → Shared → Prop} (hi : op.info = (sym, nm)) (N : IntNo prog w nm) (X : K.In s.heap) (I : InstAt s.heap x ox C od) (hx : s.heap.get? x = some (instObj C dx)) (hc : selfFirst K C = true)
    (hs : findIn K (.ref C) (PySem.dunder nm) = some (some (.ref f))) (hr : findIn K (.ref C) (dunderR nm) = some (some (.ref g))) (hg : isFn K (.ref g) = true) (hsub : subIn K (.ref C) (.type "int") = some false)
    (h : wpAny (model prog w) A (call (.ref g) [.ref x, .int a t]) (PySem.W.CmpBack Q) E s) : wpAny (model prog w) A (binaryOp op (.int a t) (.ref x)) Q E s := by
  obtain ⟨cd, rest, hcd, hm⟩ := ksp_first hc
  have one := ksp_try X I hr hg h
  have fi := N.fills
  obtain ⟨hh, gs, d, tt, os⟩ := s
  have L1 : Looks (model prog w) hh (typeOf (.int a t)) (.type "int") := Looks.of_pure rfl
  have L2 : Looks (model prog w) hh (typeOf (.ref x)) (.ref C) := I.type
  have L3 : Looks (model prog w) hh (fillsNumberSlot (.type "int") nm) true := Looks.of_pure fi
  have L4 : Looks (model prog w) hh (fillsNumberSlot (.ref C) nm) true := fills_K X hcd hm hs
  have L5 : Looks (model prog w) hh (isSubtype (.ref C) (.type "int")) false := looks_subIn X hsub
  have L6 : Looks (model prog w) hh (numberSlotInPython (.type "int") nm) false := Looks.of_pure rfl
  have hne : (Value.type "int" == Value.ref C) = false := Bool.eq_false_iff.mpr fun q => by cases beq_iff_eq.mp q
  simp only [binaryOp, hi]
  refine wpAny_holding (wpAny_bind ?_)
  unfold binaryOp1
  refine wpAny_bind (L1.at (wpAny_bind (L2.at (wpAny_bind (L3.at ?_)))))
  simp only [hne, Bool.false_eq_true, if_false]
  ksp_lk
  refine N.no rfl hx ?_
  ksp_lk
  refine wpAny_mono one (fun r s' hr' => ?_) fun _ _ e => e
  obtain ⟨v, rfl, hq⟩ := hr'
  ksp_lk
  exact hq
/-- own != : object's, over an own __eq__ -/
theorem ne_own {b : Value} {tb : Value} {Q : Value → Shared → Prop} (hu : A.units + 1 < cLine) (X : K.In s.heap) (I : InstAt s.heap x ox C od) (hb : Looks (model prog w) s.heap (typeOf b) tb) (hn : notFirst K C tb = true)
    (hne : findIn K (.ref C) "__ne__" = some (some (.builtin "object.__ne__"))) (hs : findIn K (.ref C) "__eq__" = some (some (.ref f))) (hf : isFn K (.ref f) = true) (hm : mroIn K C (.type "object") = some true)
    (h : wpAny (model prog w) A.in1 (call (.ref f) [.ref x, b]) (fun v s' => ∃ k, v = .bool k ∧ Q (.bool (!k)) s') E s) : wpAny (model prog w) A (richCompare .NotEq (.ref x) b) Q E s := by
  have one : wpAny (model prog w) A (tryCompare (.ref x) "__ne__" b) (fun r s' => ∃ v, r = some v ∧ Q v s') E s := by
    have hin : Looks (model prog w) s.heap (isInstance (.ref x) (.type "object")) true := I.type.andThen (looks_mroIn X hm)
    have body : wpAny (model prog w) A.in1 (Builtin.«object.__ne__» ⟨[.ref x, b], []⟩) (FinW prog w A.in1 E fun v s' => ∃ k, v = .bool k ∧ Q v s') E s := by
      have hu1 : A.in1.units < cLine := hu
      unfold Builtin.«object.__ne__»
      refine wpAny_bind (m := slotArgs _ _ _) (wpAny_pure ?_)
      refine wpAny_bind (m := cRoomFor _ _) (wpAny_cRoomFor hu1 ?_)
      refine wpAny_bind (m := callSpecialIfBound? (.ref x) (Str.ofString "__eq__") [b]) (ifBound_K X I hs hf (wpAny_mono h (fun v s' hv => ?_) fun _ _ e => e))
      obtain ⟨k, rfl, hq⟩ := hv
      exact wpAny_bind (wpAny_truthy_bool (wpAny_pure ⟨_, rfl, !k, rfl, hq⟩))
    have called : wpAny (model prog w) A (call (.builtin "object.__ne__") [.ref x, b]) (fun v s' => ∃ k, v = .bool k ∧ Q v s') E s := by
      refine wpAny_call (codeAny_call_builtin PySem.F.cmp_object.ne.plain PySem.F.cmpEntry_ne (@check_slot (model prog w) _ _ s "object.__ne__" "object" "__ne__" (.ref x) [b] [] _ PySem.F.cmpKind_ne PySem.F.cmpSplit_ne hin (PySem.F.cmpArgs_ne _ _) ?_))
      refine wpAny_mono body (fun fin s' hv => ?_) fun _ _ e => e
      obtain ⟨v, rfl, hq⟩ := hv
      exact hq
    have bd := PySem.F.cmp_object.ne.bind (.ref x)
    unfold tryCompare
    simp only [callSpecialIfBound?, bindSpecialIfBound?]
    refine wpAny_bind (wpAny_holding (wpAny_bind (wpAny_bind (wpAny_bind (I.type.here ((looks_findIn X hne).here ?_))))))
    refine wpAny_bind (wpAny_askSetting (wpAny_ite ?_))
    have out : ∀ {R : Option Value → Shared → Prop}, (∀ k s', Q (.bool k) s' → R (some (.bool k)) s') → wpAny (model prog w) A (call (.builtin "object.__ne__") ([.ref x] ++ [b]) >>= fun v => pure (some v)) R E s := fun hR =>
      wpAny_bind (wpAny_mono called (fun v s' hv => by
        obtain ⟨k, rfl, hq⟩ := hv
        exact wpAny_pure (hR k s' hq)) fun _ _ e => e)
    split
    · exact wpAny_bind (wpAny_of_eq bd (wpAny_pure (by exact out fun k s' hq => wpAny_pure ⟨_, rfl, hq⟩)))
    · exact wpAny_tryCatch (wpAny_bind (wpAny_of_eq bd (wpAny_pure (by exact out fun k s' hq => wpAny_pure ⟨_, rfl, hq⟩))))
  unfold richCompare
  simp only [oneThing_ref]
  refine wpAny_holding (wpAny_bind (wpAny_cRoomFor (Nat.lt_of_succ_lt hu) ?_))
  refine wpAny_bind (I.type.here (wpAny_bind (hb.here ?_)))
  split
  · rename_i q
    have e : subIn K tb (.ref C) = some false := by
      rcases Bool.or_eq_true_iff.mp hn with e | e
      · rw [beq_iff_eq.mp e] at q; simp at q
      · exact beq_iff_eq.mp e
    refine wpAny_bind ((looks_subIn X e).here ?_)
    simp only [Bool.false_eq_true, if_false]
    refine wpAny_bind (wpAny_mono one (fun r s' z => ?_) fun _ _ e => e)
    obtain ⟨v, rfl, hq⟩ := z
    exact wpAny_pure hq
  · refine wpAny_bind (wpAny_pure ?_)
    simp only [Bool.false_eq_true, if_false]
    refine wpAny_bind (wpAny_mono one (fun r s' z => ?_) fun _ _ e => e)
    obtain ⟨v, rfl, hq⟩ := z
    exact wpAny_pure hq
/-- abs of an instance -/
theorem abs_own {Q : Value → Shared → Prop} (X : K.In s.heap) (I : InstAt s.heap x ox C od) (hs : findIn K (.ref C) "__abs__" = some (some (.ref f))) (hf : isFn K (.ref f) = true)
    (h : wpAny (model prog w) A.in1 (call (.ref f) [.ref x]) Q E s) : wpAny (model prog w) A (call (.builtin "abs") [.ref x]) Q E s := by
  refine call_function_entry kind_abs plain_abs entry_abs (args_abs _) ?_
  unfold Builtin.«abs»
  refine wpAny_bind (m := oneArg "abs" _) (wpAny_pure ?_)
  refine wpAny_bind (m := callSpecial? (.ref x) (Str.ofString "__abs__")) (special_fn X I hs (beq_iff_eq.mp hf) (wpAny_mono h (fun v s' hv => ?_) fun _ _ e => e))
  exact wpAny_pure ⟨v, rfl, hv⟩
end
end Ru

namespace Wk
open PySem L2
open PySem.W (instObj InstAt selfFirst findIn subIn mroIn notFirst)
def IsIns (H : Hp) (C : Addr) (y : V) : Prop := ∃ a dx fs, y = .ref a ∧ H a = some (.ins C dx fs)
def IsInt (y : V) : Prop := ∃ i : Int, y = .int i
section
variable {X : Cx} {CX : CXT} {k : Nat} {C g g2 : Addr} {sp : Sp} {E : XK} {pins : List (Addr × Obj)} {σ : St} {H : Hp} {s : Shared}
theorem inst_at {a dx : Addr} {fs : List (Str × V)} (I : Inv X pins σ H s) (e : H a = some (.ins C dx fs)) : s.heap.get? a = some (instObj C dx) ∧ ∃ od, InstAt s.heap a (instObj C dx) C (some od) := by
  obtain ⟨mA, O, _⟩ := ins_get I.hok e
  obtain ⟨od, J, _⟩ := O.look
  exact ⟨O.obj, od, J⟩
/-- how a method's call comes back -/
theorem run_back {Q : VK} {us : List Value} {vs : List V} (F : FnR X.prog X.w X.K X.mg X.base CX k g sp) (hr : Room k X.A) (hx : Passes CX X E) (I : Inv X pins σ H s) (r : Vals vs us) (q : sp vs H Q E) :
    wpAny (model X.prog X.w) X.A (call (.ref g) us) (PySem.W.CmpBack (EP X pins σ Q)) X.xe s :=
  wpAny_mono (wpAny_call (run_fnR F hr hx I r q)) (fun w s' z => by
    obtain ⟨z', H', I', rz, qz⟩ := z
    exact SlX.cmpback rz ⟨z', H', I', rz, qz⟩) fun _ _ x => x
/-- x op y, x an instance of the class at C, y one too or an int -/
def rOwnB (C : Addr) (sp : Sp) (E : XK) : R2 := fun x y H Q => IsIns H C x ∧ (IsIns H C y ∨ IsInt y) ∧ sp [x, y] H Q E
theorem op_ownB {op : Operator} {fo ro : Option Value} (hc : selfFirst X.K C = true) (m : Meth X.K C (PySem.dunder op.info.2) g) (m2 : Meth X.K C (dunderR op.info.2) g2) (h1 : findIn X.K (.type "int") (PySem.dunder op.info.2) = some fo)
    (h2 : findIn X.K (.type "int") (dunderR op.info.2) = some ro) (hsub : subIn X.K (.type "int") (.ref C) = some false) (F : FnR X.prog X.w X.K X.mg X.base CX k g sp) (hr : Room k X.A) (hx : Passes CX X E) : OpR X (binaryOp op) (rOwnB C sp E) := by
  intro pins s σ H x y v u Q I rx ry h
  obtain ⟨⟨a, dx, fs, rfl, ea⟩, hy, q⟩ := h
  cases (show v = Value.ref a from rx)
  obtain ⟨_, od, J⟩ := inst_at I ea
  obtain ⟨m', hF⟩ := I.fr
  have run := run_back (us := [.ref a, u]) (vs := [.ref a, y]) F hr hx I (.cons rfl (.cons ry .nil)) q
  rcases hy with ⟨b, dy, gs, rfl, eb⟩ | ⟨i, rfl⟩
  · cases (show u = Value.ref b from ry)
    obtain ⟨_, od', J'⟩ := inst_at I eb
    exact PySem.W.binop_K hF I.ok.mod.kin J J'.type hc m.at_ m.fn run
  · obtain ⟨t, rfl⟩ := (show ∃ t, u = Value.int i t from ry)
    exact PySem.W.ksp_binT hF I.ok.mod.kin J rfl hc m.at_ m.fn m2.at_ (.inr ⟨g2, rfl⟩) h1 h2 hsub run
/-- i op y, y an instance whose reflected method answers -/
def rRevB (C : Addr) (sp : Sp) (E : XK) : R2 := fun x y H Q => IsInt x ∧ IsIns H C y ∧ sp [y, x] H Q E
theorem op_revB {op : Operator} {sym nm : String} (hi : op.info = (sym, nm)) (N : Ru.IntNo X.prog X.w nm) (hc : selfFirst X.K C = true) (m : Meth X.K C (PySem.dunder nm) g2) (m2 : Meth X.K C (dunderR nm) g)
    (hsub : subIn X.K (.ref C) (.type "int") = some false) (F : FnR X.prog X.w X.K X.mg X.base CX k g sp) (hr : Room k X.A) (hx : Passes CX X E) : OpR X (binaryOp op) (rRevB C sp E) := by
  intro pins s σ H x y v u Q I rx ry h
  obtain ⟨⟨i, rfl⟩, ⟨a, dx, fs, rfl, ea⟩, q⟩ := h
  cases (show u = Value.ref a from ry)
  obtain ⟨t, rfl⟩ := (show ∃ t, v = Value.int i t from rx)
  obtain ⟨ho, od, J⟩ := inst_at I ea
  exact Ru.bin_rev hi N I.kIn J ho hc m.at_ m2.at_ m2.fn hsub (run_back (us := [.ref a, .int i t]) (vs := [.ref a, .int i]) F hr hx I (.cons rfl (.cons ⟨t, rfl⟩ .nil)) q)
/-- an operation that is tried in two ways: x's own, or y's reflected -/
theorem op_either {op : Operator} {r r' : R2} (h1 : OpR X (binaryOp op) r) (h2 : OpR X (binaryOp op) r') : OpR X (binaryOp op) (fun x y H Q => r x y H Q ∨ r' x y H Q) := by
  intro pins s σ H x y v u Q I rx ry h
  rcases h with h | h
  · exact h1 pins s σ H x y v u Q I rx ry h
  · exact h2 pins s σ H x y v u Q I rx ry h
/-- -x -/
theorem un_negO (m : Meth X.K C "__neg__" g) (F : FnR X.prog X.w X.K X.mg X.base CX k g sp) (hr : Room k X.A) (hx : Passes CX X E) : UnR X (unaryOp .USub) (fun x H Q => IsIns H C x ∧ sp [x] H Q E) := by
  intro pins s σ H x v Q I rx h
  obtain ⟨⟨a, dx, fs, rfl, ea⟩, q⟩ := h
  cases (show v = Value.ref a from rx)
  obtain ⟨_, od, J⟩ := inst_at I ea
  obtain ⟨m', hF⟩ := I.fr
  exact PySem.W.ksp_neg hF I.ok.mod.kin J m.at_ m.fn (wpAny_call (run_fnR (us := [.ref a]) (vs := [.ref a]) F hr hx I (.cons rfl .nil) q))
/-- abs(x) -/
theorem call_absO (m : Meth X.K C "__abs__" g) (F : FnR X.prog X.w X.K X.mg X.base CX k g sp) (hr : Room (k + 1) X.A) (hx : Passes CX X E) : CallR X (.builtin "abs") (fun xs H Q => ∃ x, xs = [x] ∧ IsIns H C x ∧ sp [x] H Q E) := by
  intro pins s σ H xs us Q I r h
  obtain ⟨x, rfl, ⟨a, dx, fs, rfl, ea⟩, q⟩ := h
  obtain ⟨u, rfl, ru⟩ := r.one
  cases (show u = Value.ref a from ru)
  obtain ⟨_, od, J⟩ := inst_at I ea
  exact Ru.abs_own I.kIn J m.at_ m.fn (wpAny_call (SlX.run_at (us := [.ref a]) (ws := [.ref a]) F hr.in1 I.env0.in1 hx I (.cons rfl .nil) q))
/-- str(x) -/
theorem call_strO (m : Meth X.K C "__str__" g) (F : FnR X.prog X.w X.K X.mg X.base CX k g sp) (hr : Room (k + 2) X.A) (hx : Passes CX X E) :
    CallR X (.type "str") (fun xs H Q => ∃ x, xs = [x] ∧ IsIns H C x ∧ sp [x] H (fun z H' => ∃ y, z = .str y ∧ Q z H') E) := by
  intro pins s σ H xs us Q I r h
  obtain ⟨x, rfl, ⟨a, dx, fs, rfl, ea⟩, q⟩ := h
  obtain ⟨u, rfl, ru⟩ := r.one
  cases (show u = Value.ref a from ru)
  obtain ⟨_, od, J⟩ := inst_at I ea
  have hr2 : Room k X.A.in1.in1 := (show Room (k + 1) X.A.in1 from hr.in1).in1
  refine PySem.W.kso_call hr2.units0 I.kIn J m.at_ m.fn (wpAny_mono (wpAny_call (SlX.run_at (us := [.ref a]) (ws := [.ref a]) F hr2 I.env0.in1.in1 hx I (.cons rfl .nil) q)) (fun w s' z => ?_) fun _ _ x => x)
  obtain ⟨z', H', I', rz, y, ez, qz⟩ := z
  subst ez
  obtain ⟨t, rfl⟩ := (show ∃ t, w = Value.str y t from rz)
  exact ⟨.str y, H', I', ⟨t, rfl⟩, qz⟩
/-- x == y -/
def rEqO (C : Addr) (sp : Sp) (E : XK) : R2 := fun x y H Q => IsIns H C x ∧ (IsIns H C y ∨ IsInt y) ∧ sp [x, y] H Q E
theorem op_eqO (m : Meth X.K C "__eq__" g) (hsub : subIn X.K (.type "int") (.ref C) = some false) (F : FnR X.prog X.w X.K X.mg X.base CX k g sp) (hr : Room k X.A) (hx : Passes CX X E) : OpR X (compareOp .Eq) (rEqO C sp E) := by
  intro pins s σ H x y v u Q I rx ry h
  obtain ⟨⟨a, dx, fs, rfl, ea⟩, hy, q⟩ := h
  cases (show v = Value.ref a from rx)
  obtain ⟨_, od, J⟩ := inst_at I ea
  obtain ⟨m', hF⟩ := I.fr
  have run := run_back (us := [.ref a, u]) (vs := [.ref a, y]) F hr hx I (.cons rfl (.cons ry .nil)) q
  show wpAny _ _ (richCompare .Eq (.ref a) u) _ _ _
  rcases hy with ⟨b, dy, gs, rfl, eb⟩ | ⟨i, rfl⟩
  · cases (show u = Value.ref b from ry)
    obtain ⟨_, od', J'⟩ := inst_at I eb
    exact PySem.W.cmp_K (op := .Eq) (tb := .ref C) hr.units0 hF I.ok.mod.kin J J'.type (by simp [notFirst]) m.at_ m.fn run
  · obtain ⟨t, rfl⟩ := (show ∃ t, u = Value.int i t from ry)
    exact PySem.W.cmp_K (op := .Eq) (tb := .type "int") hr.units0 hF I.ok.mod.kin J (PySem.W.Looks.of_pure rfl) (by simp [notFirst, hsub]) m.at_ m.fn run
/-- x != y, over the own == -/
def rNeO (C : Addr) (sp : Sp) (E : XK) : R2 := fun x y H Q => IsIns H C x ∧ (IsIns H C y ∨ IsInt y) ∧ sp [x, y] H (fun z H' => ∃ k, z = .bl k ∧ Q (.bl (!k)) H') E
theorem op_neO (m : Meth X.K C "__eq__" g) (hne : findIn X.K (.ref C) "__ne__" = some (some (.builtin "object.__ne__"))) (hm : mroIn X.K C (.type "object") = some true) (hsub : subIn X.K (.type "int") (.ref C) = some false)
    (F : FnR X.prog X.w X.K X.mg X.base CX k g sp) (hr : Room (k + 1) X.A) (hx : Passes CX X E) : OpR X (compareOp .NotEq) (rNeO C sp E) := by
  intro pins s σ H x y v u Q I rx ry h
  obtain ⟨⟨a, dx, fs, rfl, ea⟩, hy, q⟩ := h
  cases (show v = Value.ref a from rx)
  obtain ⟨_, od, J⟩ := inst_at I ea
  have run : wpAny (model X.prog X.w) X.A.in1 (call (.ref g) [.ref a, u]) (fun v s' => ∃ k, v = .bool k ∧ EP X pins σ Q (.bool (!k)) s') X.xe s :=
    wpAny_mono (wpAny_call (SlX.run_at (us := [.ref a, u]) (ws := [.ref a, y]) F hr.in1 I.env0.in1 hx I (.cons rfl (.cons ry .nil)) q)) (fun w s' z => by
      obtain ⟨z', H', I', rz, b, ez, qz⟩ := z
      subst ez
      cases (show w = Value.bool b from rz)
      exact ⟨b, rfl, .bl (!b), H', I', rfl, qz⟩) fun _ _ x => x
  show wpAny _ _ (richCompare .NotEq (.ref a) u) _ _ _
  rcases hy with ⟨b, dy, gs, rfl, eb⟩ | ⟨i, rfl⟩
  · cases (show u = Value.ref b from ry)
    obtain ⟨_, od', J'⟩ := inst_at I eb
    exact Ru.ne_own (hu_of hr) I.kIn J (tb := .ref C) J'.type (by simp [notFirst]) hne m.at_ m.fn hm run
  · obtain ⟨t, rfl⟩ := (show ∃ t, u = Value.int i t from ry)
    exact Ru.ne_own (hu_of hr) I.kIn J (tb := .type "int") (PySem.W.Looks.of_pure rfl) (by simp [notFirst, hsub]) hne m.at_ m.fn hm run
/-- X(), X an own exception class without own __init__ -/
theorem pmk_own0 {bmB : List Value} {B newId initId : String} {x : Str} {p pos : Pos} (F : ExcBaseFacts B newId initId bmB) (q : PySem.W.excIn X.K C bmB newId = true) (gC : X.mg x = some (.ref C))
    (kC : PySem.W.keepIn X.K (.ref C) = true) (r : Raises X (.ref C)) (hg : Gl X x) (hdb : (x == ("__debug__" : Str)) = false := by decide) :
    PMk X (.Call (.Name x p) [] [] pos) (fun _ H Q => Q (.ref C) none H) := by
  intro pins s σ H Q I h
  refine wpAny_Call_Name_kw (ld_glob I hg gC ?_ hdb)
  refine PySem.W.callWith_K0 I.kIn kC ?_
  obtain ⟨bm, N, nm, qn, bs, hdct, sn, sub, ab, col, dd, k0, k1, k2, k3, k5, mN, hC, hN, hni, T⟩ := exc_obj I.kIn q
  refine wpAny_call_exc_subT F T hC hN hni (fun h' e hm => ?_) (by show 0 ≤ sizeLine; exact Nat.zero_le _)
  exact mk_of I hm r h (I.hok.gone hm.new)
/-- // by any divisor that is not 0, below 2 ^ 9000 -/
def CDivZ (_ j : Int) : Prop := j ≠ 0 ∧ j.natAbs.log2 < 9000
theorem op_fdivZ : OpR X (binaryOp .FloorDiv) (rI CDivZ fun i j => .int (i.fdiv j)) := opI fun i j _ _ _ _ _ hc q => PyProof.Rows.floordiv_int hc.1 q (.inl (PyProof.noPylong_of_log2 hc.2))
theorem cdivZ {i j : Int} {b : Nat} (h : j ≠ 0) (hb : j.natAbs < 2 ^ b) (h0 : 0 < b) (h9 : b ≤ 9000) : CDivZ i j := ⟨h, Nat.lt_of_lt_of_le (PySem.Flt.log2_lt_of h0 hb) h9⟩
end
end Wk

namespace Wk
open PySem L2 NumR
def top (i : Nat) : Stmt := PySem.Challenge.pw_guardsums_k19_ratios.main.body.getD i (.Pass ⟨0, 0, 0, 0⟩)
abbrev s_Ratio_init : Stmt := inClass (top 5) 0
theorem sc_Ratio_init : FnScope ["self", "number", "over", "common"] ["self", "number", "over"] (defScope s_Ratio_init) := ⟨rfl, rfl, rfl, by decide +kernel, rfl, by decide +kernel, by decide +kernel⟩
abbrev s_Ratio_add : Stmt := inClass (top 5) 1
theorem sc_Ratio_add : FnScope ["self", "other", "number", "over"] ["self", "other"] (defScope s_Ratio_add) := ⟨rfl, rfl, rfl, by decide +kernel, rfl, by decide +kernel, by decide +kernel⟩
abbrev s_Ratio_radd : Stmt := inClass (top 5) 2
theorem sc_Ratio_radd : FnScope ["self", "other"] ["self", "other"] (defScope s_Ratio_radd) := ⟨rfl, rfl, rfl, by decide +kernel, rfl, by decide +kernel, by decide +kernel⟩
abbrev s_Ratio_sub : Stmt := inClass (top 5) 3
theorem sc_Ratio_sub : FnScope ["self", "other", "number", "over"] ["self", "other"] (defScope s_Ratio_sub) := ⟨rfl, rfl, rfl, by decide +kernel, rfl, by decide +kernel, by decide +kernel⟩
abbrev s_Ratio_rsub : Stmt := inClass (top 5) 4
theorem sc_Ratio_rsub : FnScope ["self", "other"] ["self", "other"] (defScope s_Ratio_rsub) := ⟨rfl, rfl, rfl, by decide +kernel, rfl, by decide +kernel, by decide +kernel⟩
abbrev s_Ratio_mul : Stmt := inClass (top 5) 5
theorem sc_Ratio_mul : FnScope ["self", "other", "number", "over"] ["self", "other"] (defScope s_Ratio_mul) := ⟨rfl, rfl, rfl, by decide +kernel, rfl, by decide +kernel, by decide +kernel⟩
abbrev s_Ratio_rmul : Stmt := inClass (top 5) 6
theorem sc_Ratio_rmul : FnScope ["self", "other"] ["self", "other"] (defScope s_Ratio_rmul) := ⟨rfl, rfl, rfl, by decide +kernel, rfl, by decide +kernel, by decide +kernel⟩
abbrev s_Ratio_neg : Stmt := inClass (top 5) 7
theorem sc_Ratio_neg : FnScope ["self"] ["self"] (defScope s_Ratio_neg) := ⟨rfl, rfl, rfl, by decide +kernel, rfl, by decide +kernel, by decide +kernel⟩
abbrev s_Ratio_abs : Stmt := inClass (top 5) 8
theorem sc_Ratio_abs : FnScope ["self"] ["self"] (defScope s_Ratio_abs) := ⟨rfl, rfl, rfl, by decide +kernel, rfl, by decide +kernel, by decide +kernel⟩
abbrev s_Ratio_eq : Stmt := inClass (top 5) 9
theorem sc_Ratio_eq : FnScope ["self", "other"] ["self", "other"] (defScope s_Ratio_eq) := ⟨rfl, rfl, rfl, by decide +kernel, rfl, by decide +kernel, by decide +kernel⟩
abbrev s_Ratio_is_less : Stmt := inClass (top 5) 10
theorem sc_Ratio_is_less : FnScope ["self", "other", "number", "over"] ["self", "other"] (defScope s_Ratio_is_less) := ⟨rfl, rfl, rfl, by decide +kernel, rfl, by decide +kernel, by decide +kernel⟩
abbrev s_Ratio_divided : Stmt := inClass (top 5) 11
theorem sc_Ratio_divided : FnScope ["self", "other", "number", "over"] ["self", "other"] (defScope s_Ratio_divided) := ⟨rfl, rfl, rfl, by decide +kernel, rfl, by decide +kernel, by decide +kernel⟩
abbrev s_Ratio_str : Stmt := inClass (top 5) 12
theorem sc_Ratio_str : FnScope ["self"] ["self"] (defScope s_Ratio_str) := ⟨rfl, rfl, rfl, by decide +kernel, rfl, by decide +kernel, by decide +kernel⟩
abbrev s_parts : Stmt := top 6
theorem sc_parts : FnScope ["value"] ["value"] (defScope s_parts) := ⟨rfl, rfl, rfl, by decide +kernel, rfl, by decide +kernel, by decide +kernel⟩

abbrev FnM (K : PySem.W.Frag) (x q : Str) (st : Stmt) (f : Addr) (fd : FuncData) : Prop := FunD K x q (defArgs st) (defBody st) (defScope st) [] [] f fd
theorem r0_of {P : Program} {w : World} {K : PySem.W.Frag} {mg : Str → Option Value} {base : Heap} {CX : CXT} {k : Nat} {f : Addr} {fd : FuncData} {ps : List Str} {sp : Sp} (F : FnOk P w K mg base CX k f fd ps sp) (hb : Binds K fd ps []) :
    FnR P w K mg base CX k f sp := (F.raw hb .nil).imp fun vs H Q E h => by simpa using h
/-! ### a fraction -/
theorem kno : ¬ (Str.ofString "number" = Str.ofString "over") := by decide +kernel
def fl (n o : Int) : List (Str × V) := putF "over" (.int o) (putF "number" (.int n) [])
theorem fl_n (n o : Int) : (fl n o).lookup ("number" : Str) = some (V.int n) := by
  unfold fl
  rw [lookup_putF, if_neg kno, lookup_putF, if_pos rfl]
theorem fl_o (n o : Int) : (fl n o).lookup ("over" : Str) = some (V.int o) := by
  unfold fl
  rw [lookup_putF, if_pos rfl]
theorem fl_no (n o : Int) {m : Str} (h1 : ¬ m = "number") (h2 : ¬ m = "over") : (fl n o).lookup m = none := by
  unfold fl
  rw [lookup_putF, if_neg h2, lookup_putF, if_neg h1]
  rfl
def RatAt (C : Addr) (H : Hp) (p : Addr) (n o : Int) : Prop := ∃ dx, H p = some (.ins C dx (fl n o))
theorem RatAt.ins {C : Addr} {H : Hp} {p : Addr} {n o : Int} (h : RatAt C H p n o) : IsIns H C (.ref p) := by
  obtain ⟨dx, e⟩ := h
  exact ⟨p, dx, _, rfl, e⟩
theorem RatAt.same {C : Addr} {H H' : Hp} {p : Addr} {n o : Int} (h : RatAt C H p n o) (s : Same H H') : RatAt C H' p n o := by
  obtain ⟨dx, e⟩ := h
  exact ⟨dx, s _ _ e⟩
/-- a fraction or an integer -/
def NumAt (C : Addr) (H : Hp) (y : V) (n o : Int) : Prop := (∃ q, y = .ref q ∧ RatAt C H q n o) ∨ (y = .int n ∧ o = 1)
theorem NumAt.kind {C : Addr} {H : Hp} {y : V} {n o : Int} (h : NumAt C H y n o) : IsIns H C y ∨ IsInt y := by
  rcases h with ⟨q, rfl, h⟩ | ⟨rfl, _⟩
  · exact .inl h.ins
  · exact .inr ⟨n, rfl⟩
theorem NumAt.same {C : Addr} {H H' : Hp} {y : V} {n o : Int} (h : NumAt C H y n o) (s : Same H H') : NumAt C H' y n o := by
  rcases h with ⟨q, rfl, h⟩ | ⟨rfl, e⟩
  · exact .inl ⟨q, rfl, h.same s⟩
  · exact .inr ⟨rfl, e⟩
theorem same_upd {H : Hp} {p : Addr} {o : HO} (h : H p = none) : Same H (upd H p o) := fun b u e => by
  rw [upd_ne (ne_of_none e h)]
  exact e
/-- what the top has written -/
structure TxtR (K : PySem.W.Frag) (mg : Str → Option Value) (C CO fI : Addr) : Prop where
  cl : Cls K C
  nN : NoAttr K C "number"
  nO : NoAttr K C "over"
  mgC : mg "Ratio" = some (.ref C)
  mkr : Mk K C fI
  b_gcd : mg "gcd" = some (.builtin "math.gcd")
  f_abs : mg "abs" = none
  f_isinstance : mg "isinstance" = none
  f_str : mg "str" = none
  gO : mg "BadOver" = some (.ref CO)
  xO : PySem.W.excIn K CO [.type "ValueError", .type "Exception", .type "BaseException", .type "object"] "ValueError.__new__" = true
  kO : PySem.W.keepIn K (.ref CO) = true
  bO : PySem.W.subIn K (.ref CO) (.type "BaseException") = some true
  tO : PySem.W.typeIn K (.ref CO) = some (.type "type")
  ca : PySem.W.findIn K (.ref C) "__class__" = some (some (.builtin "object.__class__"))
  cn : PySem.W.specialIn K (.builtin "object.__class__") "__get__" = some (some (.builtin "getset_descriptor.__get__"))
  ct : PySem.W.takesIn K (.builtin "object.__class__") = some true
  cm : PySem.W.mroIn K C (.type "object") = some true
  k1 : PySem.W.kitOne K (.ref C) (.ref C) = some true
  k2 : PySem.W.kitOne K (.type "int") (.ref C) = some false
/-! ### promises -/
def Small (x : Int) : Prop := x.natAbs < 2 ^ 250
def spInit (C CO : Addr) : Sp := fun vs H Q E => ∃ (p dx : Addr) (a b : Int), vs = [.ref p, .int a, .int b] ∧ H p = some (.ins C dx []) ∧ b.natAbs < 2 ^ 4000 ∧ (b = 0 → E (.ref CO) none H) ∧
  (b ≠ 0 → Q .non (upd H p (.ins C dx (fl (lowN a b) (lowO a b)))))
section
variable {P : Program} {w : World} {K : PySem.W.Frag} {mg : Str → Option Value} {base : Heap} {C CO fI : Addr}
theorem ok_init {f : Addr} {fd : FuncData} (F : FunD K "__init__" "Ratio.__init__" (defArgs s_Ratio_init) (defBody s_Ratio_init) (defScope s_Ratio_init) [.int 1] [] f fd) (T : TxtR K mg C CO fI) : FnOk P w K mg base (L2.CX P w) 1 f fd ["self", "number", "over"] (spInit C CO) := by
  refine F.ok sc_Ratio_init (fun vs H Q E h => ?_) (fun cdv A outer s H vs Q E hr h => ?_)
  · obtain ⟨p, dx, a, b, rfl, _⟩ := h
    rfl
  · obtain ⟨p, dx, a, b, rfl, hp, hb, kE, kQ⟩ := h
    refine ⟨_, (pss_cons (ps_if (pt_cmpR op_eq (pv 2) pe_int (nomark _)) (pss_one (ps_raise rfl (takes_of rfl rfl rfl rfl) (pmk_own0 PySem.F.excBase_ValueError T.xO T.gO T.kO (raises_own T.bO T.tO) rfl))) pss_nil)
        (pss_cons (ps_set (i := 3) sc_Ratio_init.nd rfl (Or.inl rfl) (pe_callBfun cr_gcd rfl T.b_gcd (pa_cons (pv 1) (pa_cons (pv 2) pa_nil))))
        (pss_cons (ps_if (pt_cmpR op_lt (pv 2) pe_int (nomark _)) (pss_one (ps_set (i := 3) sc_Ratio_init.nd rfl (Or.inl rfl) (pe_un un_neg (pv 3)))) pss_nil)
        (pss_cons (ps_fld (pv 0) (pe_op op_fdivZ (pv 1) (pv 3)) rfl)
        (pss_one (ps_fld (pv 0) (pe_op op_fdivZ (pv 2) (pv 3)) rfl)))))), ?_⟩
    refine ⟨_, rfl, rfl, _, rfl, ?_⟩
    refine ite2 (fun hd => ?_) (fun hd => ?_)
    · have h0 : b = 0 := by
        have := of_decide_eq_true hd
        injection this
      exact kE h0
    · have h0 : b ≠ 0 := fun z => hd (by rw [z]; exact decide_eq_true rfl)
      have hg := gcd_pos (a := a) h0
      have hgb : Int.gcd a b < 2 ^ 4000 := by
        have h1 : Int.gcd a b ≤ b.natAbs := Nat.gcd_le_right _ (by omega)
        omega
      have hgi : ((Int.gcd a b : Nat) : Int).natAbs < 2 ^ 4000 := by
        rw [Int.natAbs_natCast]
        exact hgb
      have fin : ∀ x y : Int, x = lowN a b → y = lowO a b → Q .non (upd (upd H p (.ins C dx (putF "number" (.int x) []))) p (.ins C dx (putF "over" (.int y) (putF "number" (.int x) [])))) := fun x y e1 e2 => by
        rw [upd_upd, e1, e2]
        exact kQ h0
      refine ⟨_, rfl, _, rfl, _, _, rfl, ?_⟩
      refine ⟨_, rfl, _, _, rfl, rfl, _, rfl, ?_⟩
      refine ite2 (fun hn => ?_) (fun hn => ?_)
      · have hn := of_decide_eq_true hn
        refine ⟨_, rfl, _, rfl, ?_⟩
        refine ⟨_, rfl, _, rfl, _, _, rfl, rfl, cdivZ (show (-(Int.gcd a b : Int)) ≠ 0 by omega) (b := 4000) (by show (-(Int.gcd a b : Int)).natAbs < 2 ^ 4000; rw [Int.natAbs_neg]; exact hgi) (by decide) (by decide), ?_⟩
        refine ⟨_, rfl, p, C, dx, _, rfl, hp, T.cl, T.nN, (by show 0 < 1000; decide), ?_⟩
        refine ⟨_, rfl, _, rfl, _, _, rfl, rfl, cdivZ (show (-(Int.gcd a b : Int)) ≠ 0 by omega) (b := 4000) (by show (-(Int.gcd a b : Int)).natAbs < 2 ^ 4000; rw [Int.natAbs_neg]; exact hgi) (by decide) (by decide), ?_⟩
        refine ⟨_, rfl, p, C, dx, _, rfl, upd_same, T.cl, T.nO, (by show 1 < 1000; decide), ?_⟩
        exact fin _ _ (init_neg hn).1 (init_neg hn).2
      · have hn : 0 < b := by
          have : ¬ b < 0 := fun z => hn (decide_eq_true z)
          omega
        refine ⟨_, rfl, _, rfl, _, _, rfl, rfl, cdivZ (show (Int.gcd a b : Int) ≠ 0 by omega) (b := 4000) hgi (by decide) (by decide), ?_⟩
        refine ⟨_, rfl, p, C, dx, _, rfl, hp, T.cl, T.nN, (by show 0 < 1000; decide), ?_⟩
        refine ⟨_, rfl, _, rfl, _, _, rfl, rfl, cdivZ (show (Int.gcd a b : Int) ≠ 0 by omega) (b := 4000) hgi (by decide) (by decide), ?_⟩
        refine ⟨_, rfl, p, C, dx, _, rfl, upd_same, T.cl, T.nO, (by show 1 < 1000; decide), ?_⟩
        exact fin _ _ (init_pos hn).1 (init_pos hn).2
end
end Wk

namespace Wk
open PySem L2 NumR
/-! ### promises -/
def spParts (C : Addr) : Sp := fun vs H Q _ => ∃ (y : V) (n o : Int), vs = [y] ∧ NumAt C H y n o ∧ ∀ t, H t = none → Q (.ref t) (upd H t (.tup [.int n, .int o]))
abbrev Fn4 := Int → Int → Int → Int → Int
/-- a new fraction of two -/
def spBin (C : Addr) (fN fO : Fn4) : Sp := fun vs H Q _ => ∃ (p : Addr) (y : V) (n1 o1 n2 o2 : Int), vs = [.ref p, y] ∧ RatAt C H p n1 o1 ∧ NumAt C H y n2 o2 ∧ (Small n1 ∧ Small o1 ∧ Small n2 ∧ Small o2) ∧ fO n1 o1 n2 o2 ≠ 0 ∧
  ∀ r H', Same H H' → RatAt C H' r (lowN (fN n1 o1 n2 o2) (fO n1 o1 n2 o2)) (lowO (fN n1 o1 n2 o2) (fO n1 o1 n2 o2)) → Q (.ref r) H'
/-- the quotient, or the error -/
def spDiv (C CO : Addr) : Sp := fun vs H Q E => ∃ (p : Addr) (y : V) (n1 o1 n2 o2 : Int), vs = [.ref p, y] ∧ RatAt C H p n1 o1 ∧ NumAt C H y n2 o2 ∧ (Small n1 ∧ Small o1 ∧ Small n2 ∧ Small o2) ∧
  (o1 * n2 = 0 → ∀ H', Same H H' → E (.ref CO) none H') ∧
  (o1 * n2 ≠ 0 → ∀ r H', Same H H' → RatAt C H' r (lowN (n1 * o2) (o1 * n2)) (lowO (n1 * o2) (o1 * n2)) → Q (.ref r) H')
/-- a new fraction of one -/
def spOne (C : Addr) (fN : Int → Int) : Sp := fun vs H Q _ => ∃ (p : Addr) (n1 o1 : Int), vs = [.ref p] ∧ RatAt C H p n1 o1 ∧ (Small n1 ∧ Small o1) ∧ o1 ≠ 0 ∧
  ∀ r H', Same H H' → RatAt C H' r (lowN (fN n1) o1) (lowO (fN n1) o1) → Q (.ref r) H'
def spEq (C : Addr) : Sp := fun vs H Q _ => ∃ (p : Addr) (y : V) (n1 o1 : Int), vs = [.ref p, y] ∧ RatAt C H p n1 o1 ∧
  ((∃ q n2 o2, y = .ref q ∧ RatAt C H q n2 o2 ∧ Q (.bl (decide (n1 = n2 ∧ o1 = o2))) H) ∨ (∃ m, y = .int m ∧ Q (.bl false) H))
def spLess (C : Addr) : Sp := fun vs H Q _ => ∃ (p : Addr) (y : V) (n1 o1 n2 o2 : Int), vs = [.ref p, y] ∧ RatAt C H p n1 o1 ∧ NumAt C H y n2 o2 ∧ (Small n1 ∧ Small o1 ∧ Small n2 ∧ Small o2) ∧
  ∀ (k : Bool) (H' : Hp), (k = true ↔ n1 * o2 < n2 * o1) → Same H H' → Q (.bl k) H'
def tS (i : Int) : Str := Str.ofString (toString i)
def ratS (n o : Int) : Str := if o = 1 then tS n else tS n ++ "/" ++ tS o
def spStr (C : Addr) : Sp := fun vs H Q _ => ∃ (p : Addr) (n o : Int), vs = [.ref p] ∧ RatAt C H p n o ∧ (Small n ∧ Small o) ∧ Q (.str (ratS n o)) H
theorem made_same {H : Hp} {x dx C : Addr} {fs : List (Str × V)} (nx : H x = none) (nd : H dx = none) : Same H (upd (upd (upd H dx (.own x)) x (.ins C dx [])) x (.ins C dx fs)) := fun b u e => by
  rw [upd_ne (ne_of_none e nx), upd_ne (ne_of_none e nx), upd_ne (ne_of_none e nd)]
  exact e
theorem made0 {H : Hp} {x dx C : Addr} (nx : H x = none) (nd : H dx = none) : Same H (upd (upd H dx (.own x)) x (.ins C dx [])) := fun b u e => by
  rw [upd_ne (ne_of_none e nx), upd_ne (ne_of_none e nd)]
  exact e
theorem b2 {x y : Int} (h : Small x) (h' : Small y) : (x * y).natAbs < 2 ^ 4000 := Nat.lt_of_lt_of_le (wide_lt h h') (Nat.pow_le_pow_right (by decide) (by decide))
theorem cm {x y : Int} (h : Small x) (h' : Small y) : CMulW x y := wide_mul h h' (by decide) (by decide) (by decide)
section
variable {P : Program} {w : World} {K : PySem.W.Frag} {mg : Str → Option Value} {base : Heap} {C CO fI : Addr}
theorem NumAt.ty {H : Hp} {y : V} {n o : Int} (T : TxtR K mg C CO fI) (h : NumAt C H y n o) : ∃ t b, TyX K H y t ∧ PySem.W.kitOne K t (.ref C) = some b ∧ (b = true → ∃ q, y = .ref q ∧ RatAt C H q n o) ∧ (b = false → y = .int n ∧ o = 1) := by
  rcases h with ⟨q, rfl, dx, e⟩ | ⟨rfl, e⟩
  · exact ⟨.ref C, true, .base (.ins e T.cl T.ca T.cn T.ct T.cm), T.k1, fun _ => ⟨q, rfl, dx, e⟩, (fun z => nomatch z)⟩
  · exact ⟨.type "int", false, .base (.int n), T.k2, (fun z => nomatch z), fun _ => ⟨rfl, e⟩⟩
theorem ok_parts {f : Addr} {fd : FuncData} (F : FnM K "parts" "parts" s_parts f fd) (T : TxtR K mg C CO fI) : FnOk P w K mg base CX0 1 f fd ["value"] (spParts C) := by
  refine F.ok sc_parts (fun vs H Q E h => ?_) (fun cdv A outer s H vs Q E hr h => ?_)
  · obtain ⟨y, n, o, rfl, _⟩ := h
    rfl
  · obtain ⟨y, n, o, rfl, hy, k⟩ := h
    refine ⟨_, PSs.nox ((pss_cons (ps_if (pt_val (pe_callB call_isi rfl T.f_isinstance (by decide +kernel) (pa_cons (pv 0) (pa_cons (pe_glob (v := .ref C) rfl T.mgC rfl) pa_nil)))) (pss_one (ps_ret (pe_tup (pa_cons (pe_fld (pv 0) rfl) (pa_cons (pe_fld (pv 0) rfl) pa_nil))))) pss_nil)
        (pss_one (ps_ret (pe_tup (pa_cons (pv 0) (pa_cons pe_int pa_nil))))))), ?_⟩
    obtain ⟨t, b, hT, hk, h1, h2⟩ := hy.ty T
    refine ⟨_, rfl, _, _, _, _, b, rfl, .own C, hT, hk, _, rfl, ?_⟩
    cases b with
    | true =>
      obtain ⟨q, rfl, dx, e⟩ := h1 rfl
      refine iteT ?_
      exact ⟨_, rfl, q, C, dx, _, _, rfl, e, T.cl, T.nN, fl_n _ _, _, rfl, q, C, dx, _, _, rfl, e, T.cl, T.nO, fl_o _ _, (by show 2 ≤ sizeLine; decide), fun t ht => k t ht⟩
    | false =>
      obtain ⟨rfl, rfl⟩ := h2 rfl
      refine iteF ?_
      exact ⟨_, rfl, (by show 2 ≤ sizeLine; decide), fun t ht => k t ht⟩
section
variable {fP : Addr} {fdP fdI : FuncData} (T : TxtR K mg C CO fI) (GI : FnOk P w K mg base (L2.CX P w) 1 fI fdI ["self", "number", "over"] (spInit C CO)) (bI : Binds K fdI ["self", "number", "over"] [])
  (G_parts : FnOk P w K mg base CX0 1 fP fdP ["value"] (spParts C)) (g_parts : mg "parts" = some (.ref fP)) (kp_parts : PySem.W.keepIn K (.ref fP) = true) (b_parts : Binds K fdP ["value"] [])
include T GI bI G_parts g_parts kp_parts b_parts
theorem ok_add {f : Addr} {fd : FuncData} (F : FnM K "__add__" "Ratio.__add__" s_Ratio_add f fd) : FnOk P w K mg base CX0 3 f fd ["self", "other"] (spBin C (fun n1 o1 n2 o2 => n1 * o2 + n2 * o1) (fun _ o1 _ o2 => o1 * o2)) := by
  have GI := r0_of GI bI
  refine F.ok sc_Ratio_add (fun vs H Q E h => ?_) (fun cdv A outer s H vs Q E hr h => ?_)
  · obtain ⟨p, y, n1, o1, n2, o2, rfl, _⟩ := h
    rfl
  · obtain ⟨p, y, n1, o1, n2, o2, rfl, ⟨dx, hp⟩, hy, ⟨s1, s2, s3, s4⟩, hO, k⟩ := h
    refine ⟨_, PSs.nox ((pss_cons (ps_asg (pe_call G_parts (hr.mono (by decide)) rfl g_parts kp_parts b_parts .nil pass0 (pa_cons (pv 1) pa_nil)) (pg_tup rfl (pgs_cons (pg_name (i := 2) sc_Ratio_add.nd rfl (Or.inl rfl)) (pgs_cons (pg_name (i := 3) sc_Ratio_add.nd rfl (Or.inl rfl)) pgs_nil))))
        (pss_one (ps_ret (StX.pe_makeR T.mkr GI (hr.mono (by decide)) rfl T.mgC passL (pa_cons (pe_op op_add (pe_op op_mulW (pe_fld (pv 0) rfl) (pv 3)) (pe_op op_mulW (pv 2) (pe_fld (pv 0) rfl))) (pa_cons (pe_op op_mulW (pe_fld (pv 0) rfl) (pv 3)) pa_nil))))))), ?_⟩
    refine ⟨_, rfl, y, n2, o2, rfl, hy, fun t ht => ⟨t, _, rfl, SqT.of upd_same, rfl, _, _, rfl, _, _, rfl, rfl, ?_⟩⟩
    have hp1 : (upd H t (.tup [.int n2, .int o2])) p = some (.ins C dx (fl n1 o1)) := by rw [upd_ne (ne_of_none hp ht)]; exact hp
    refine ⟨_, rfl, p, C, dx, _, _, rfl, hp1, T.cl, T.nN, fl_n _ _, _, rfl, _, _, rfl, rfl, cm s1 s4, _, rfl, _, rfl, p, C, dx, _, _, rfl, hp1, T.cl, T.nO, fl_o _ _, _, _, rfl, rfl, cm s3 s2, _, _, rfl, rfl, ?_⟩
    refine ⟨_, rfl, p, C, dx, _, _, rfl, hp1, T.cl, T.nO, fl_o _ _, _, rfl, _, _, rfl, rfl, cm s2 s4, fun x ddx nx nd ne => ?_⟩
    exact ⟨x, ddx, _, _, rfl, upd_same, b2 s2 s4, fun z => absurd z hO, fun _ => ⟨rfl, k x _ ((same_upd ht).trans (made_same nx nd)) ⟨ddx, upd_same⟩⟩⟩
theorem ok_sub {f : Addr} {fd : FuncData} (F : FnM K "__sub__" "Ratio.__sub__" s_Ratio_sub f fd) : FnOk P w K mg base CX0 3 f fd ["self", "other"] (spBin C (fun n1 o1 n2 o2 => n1 * o2 - n2 * o1) (fun _ o1 _ o2 => o1 * o2)) := by
  have GI := r0_of GI bI
  refine F.ok sc_Ratio_sub (fun vs H Q E h => ?_) (fun cdv A outer s H vs Q E hr h => ?_)
  · obtain ⟨p, y, n1, o1, n2, o2, rfl, _⟩ := h
    rfl
  · obtain ⟨p, y, n1, o1, n2, o2, rfl, ⟨dx, hp⟩, hy, ⟨s1, s2, s3, s4⟩, hO, k⟩ := h
    refine ⟨_, PSs.nox ((pss_cons (ps_asg (pe_call G_parts (hr.mono (by decide)) rfl g_parts kp_parts b_parts .nil pass0 (pa_cons (pv 1) pa_nil)) (pg_tup rfl (pgs_cons (pg_name (i := 2) sc_Ratio_sub.nd rfl (Or.inl rfl)) (pgs_cons (pg_name (i := 3) sc_Ratio_sub.nd rfl (Or.inl rfl)) pgs_nil))))
        (pss_one (ps_ret (StX.pe_makeR T.mkr GI (hr.mono (by decide)) rfl T.mgC passL (pa_cons (pe_op op_sub (pe_op op_mulW (pe_fld (pv 0) rfl) (pv 3)) (pe_op op_mulW (pv 2) (pe_fld (pv 0) rfl))) (pa_cons (pe_op op_mulW (pe_fld (pv 0) rfl) (pv 3)) pa_nil))))))), ?_⟩
    refine ⟨_, rfl, y, n2, o2, rfl, hy, fun t ht => ⟨t, _, rfl, SqT.of upd_same, rfl, _, _, rfl, _, _, rfl, rfl, ?_⟩⟩
    have hp1 : (upd H t (.tup [.int n2, .int o2])) p = some (.ins C dx (fl n1 o1)) := by rw [upd_ne (ne_of_none hp ht)]; exact hp
    refine ⟨_, rfl, p, C, dx, _, _, rfl, hp1, T.cl, T.nN, fl_n _ _, _, rfl, _, _, rfl, rfl, cm s1 s4, _, rfl, _, rfl, p, C, dx, _, _, rfl, hp1, T.cl, T.nO, fl_o _ _, _, _, rfl, rfl, cm s3 s2, _, _, rfl, rfl, ?_⟩
    refine ⟨_, rfl, p, C, dx, _, _, rfl, hp1, T.cl, T.nO, fl_o _ _, _, rfl, _, _, rfl, rfl, cm s2 s4, fun x ddx nx nd ne => ?_⟩
    exact ⟨x, ddx, _, _, rfl, upd_same, b2 s2 s4, fun z => absurd z hO, fun _ => ⟨rfl, k x _ ((same_upd ht).trans (made_same nx nd)) ⟨ddx, upd_same⟩⟩⟩
theorem ok_mul {f : Addr} {fd : FuncData} (F : FnM K "__mul__" "Ratio.__mul__" s_Ratio_mul f fd) : FnOk P w K mg base CX0 3 f fd ["self", "other"] (spBin C (fun n1 _ n2 _ => n1 * n2) (fun _ o1 _ o2 => o1 * o2)) := by
  have GI := r0_of GI bI
  refine F.ok sc_Ratio_mul (fun vs H Q E h => ?_) (fun cdv A outer s H vs Q E hr h => ?_)
  · obtain ⟨p, y, n1, o1, n2, o2, rfl, _⟩ := h
    rfl
  · obtain ⟨p, y, n1, o1, n2, o2, rfl, ⟨dx, hp⟩, hy, ⟨s1, s2, s3, s4⟩, hO, k⟩ := h
    refine ⟨_, PSs.nox ((pss_cons (ps_asg (pe_call G_parts (hr.mono (by decide)) rfl g_parts kp_parts b_parts .nil pass0 (pa_cons (pv 1) pa_nil)) (pg_tup rfl (pgs_cons (pg_name (i := 2) sc_Ratio_mul.nd rfl (Or.inl rfl)) (pgs_cons (pg_name (i := 3) sc_Ratio_mul.nd rfl (Or.inl rfl)) pgs_nil))))
        (pss_one (ps_ret (StX.pe_makeR T.mkr GI (hr.mono (by decide)) rfl T.mgC passL (pa_cons (pe_op op_mulW (pe_fld (pv 0) rfl) (pv 2)) (pa_cons (pe_op op_mulW (pe_fld (pv 0) rfl) (pv 3)) pa_nil))))))), ?_⟩
    refine ⟨_, rfl, y, n2, o2, rfl, hy, fun t ht => ⟨t, _, rfl, SqT.of upd_same, rfl, _, _, rfl, _, _, rfl, rfl, ?_⟩⟩
    have hp1 : (upd H t (.tup [.int n2, .int o2])) p = some (.ins C dx (fl n1 o1)) := by rw [upd_ne (ne_of_none hp ht)]; exact hp
    refine ⟨_, rfl, p, C, dx, _, _, rfl, hp1, T.cl, T.nN, fl_n _ _, _, rfl, _, _, rfl, rfl, cm s1 s3, ?_⟩
    refine ⟨_, rfl, p, C, dx, _, _, rfl, hp1, T.cl, T.nO, fl_o _ _, _, rfl, _, _, rfl, rfl, cm s2 s4, fun x ddx nx nd ne => ?_⟩
    exact ⟨x, ddx, _, _, rfl, upd_same, b2 s2 s4, fun z => absurd z hO, fun _ => ⟨rfl, k x _ ((same_upd ht).trans (made_same nx nd)) ⟨ddx, upd_same⟩⟩⟩
theorem ok_div {f : Addr} {fd : FuncData} (F : FnM K "divided" "Ratio.divided" s_Ratio_divided f fd) : FnOk P w K mg base (L2.CX P w) 3 f fd ["self", "other"] (spDiv C CO) := by
  have GI := r0_of GI bI
  refine F.ok sc_Ratio_divided (fun vs H Q E h => ?_) (fun cdv A outer s H vs Q E hr h => ?_)
  · obtain ⟨p, y, n1, o1, n2, o2, rfl, _⟩ := h
    rfl
  · obtain ⟨p, y, n1, o1, n2, o2, rfl, ⟨dx, hp⟩, hy, ⟨s1, s2, s3, s4⟩, kE, k⟩ := h
    refine ⟨_, (pss_cons (ps_asg (pe_call G_parts (hr.mono (by decide)) rfl g_parts kp_parts b_parts .nil pass0 (pa_cons (pv 1) pa_nil)) (pg_tup rfl (pgs_cons (pg_name (i := 2) sc_Ratio_divided.nd rfl (Or.inl rfl)) (pgs_cons (pg_name (i := 3) sc_Ratio_divided.nd rfl (Or.inl rfl)) pgs_nil))))
        (pss_one (ps_ret (StX.pe_makeR T.mkr GI (hr.mono (by decide)) rfl T.mgC (passes_call (takes_of rfl rfl rfl rfl) fun _ _ _ _ h => h) (pa_cons (pe_op op_mulW (pe_fld (pv 0) rfl) (pv 3)) (pa_cons (pe_op op_mulW (pe_fld (pv 0) rfl) (pv 2)) pa_nil)))))), ?_⟩
    refine ⟨_, rfl, y, n2, o2, rfl, hy, fun t ht => ⟨t, _, rfl, SqT.of upd_same, rfl, _, _, rfl, _, _, rfl, rfl, ?_⟩⟩
    have hp1 : (upd H t (.tup [.int n2, .int o2])) p = some (.ins C dx (fl n1 o1)) := by rw [upd_ne (ne_of_none hp ht)]; exact hp
    refine ⟨_, rfl, p, C, dx, _, _, rfl, hp1, T.cl, T.nN, fl_n _ _, _, rfl, _, _, rfl, rfl, cm s1 s4, ?_⟩
    refine ⟨_, rfl, p, C, dx, _, _, rfl, hp1, T.cl, T.nO, fl_o _ _, _, rfl, _, _, rfl, rfl, cm s2 s3, fun x ddx nx nd ne => ?_⟩
    refine ⟨x, ddx, _, _, rfl, upd_same, b2 s2 s3, fun z => kE z _ ((same_upd ht).trans (made0 nx nd)), fun z => ⟨rfl, k z x _ ((same_upd ht).trans (made_same nx nd)) ⟨ddx, upd_same⟩⟩⟩
theorem ok_less {f : Addr} {fd : FuncData} (F : FnM K "is_less" "Ratio.is_less" s_Ratio_is_less f fd) : FnOk P w K mg base CX0 2 f fd ["self", "other"] (spLess C) := by
  refine F.ok sc_Ratio_is_less (fun vs H Q E h => ?_) (fun cdv A outer s H vs Q E hr h => ?_)
  · obtain ⟨p, y, n1, o1, n2, o2, rfl, _⟩ := h
    rfl
  · obtain ⟨p, y, n1, o1, n2, o2, rfl, ⟨dx, hp⟩, hy, ⟨s1, s2, s3, s4⟩, k⟩ := h
    refine ⟨_, PSs.nox ((pss_cons (ps_asg (pe_call G_parts (hr.mono (by decide)) rfl g_parts kp_parts b_parts .nil pass0 (pa_cons (pv 1) pa_nil)) (pg_tup rfl (pgs_cons (pg_name (i := 2) sc_Ratio_is_less.nd rfl (Or.inl rfl)) (pgs_cons (pg_name (i := 3) sc_Ratio_is_less.nd rfl (Or.inl rfl)) pgs_nil))))
        (pss_one (ps_ret (pe_cmpR op_lt (pe_op op_mulW (pe_fld (pv 0) rfl) (pv 3)) (pe_op op_mulW (pv 2) (pe_fld (pv 0) rfl)) (nomark _)))))), ?_⟩
    refine ⟨_, rfl, y, n2, o2, rfl, hy, fun t ht => ⟨t, _, rfl, SqT.of upd_same, rfl, _, _, rfl, _, _, rfl, rfl, ?_⟩⟩
    have hp1 : (upd H t (.tup [.int n2, .int o2])) p = some (.ins C dx (fl n1 o1)) := by rw [upd_ne (ne_of_none hp ht)]; exact hp
    refine ⟨_, rfl, p, C, dx, _, _, rfl, hp1, T.cl, T.nN, fl_n _ _, _, rfl, _, _, rfl, rfl, cm s1 s4, ?_⟩
    exact ⟨_, rfl, _, rfl, p, C, dx, _, _, rfl, hp1, T.cl, T.nO, fl_o _ _, _, _, rfl, rfl, cm s3 s2, _, _, rfl, rfl, k _ _ decide_eq_true_iff (same_upd ht)⟩
end
section
variable {fdI : FuncData} (T : TxtR K mg C CO fI) (GI : FnOk P w K mg base (L2.CX P w) 1 fI fdI ["self", "number", "over"] (spInit C CO)) (bI : Binds K fdI ["self", "number", "over"] [])
include T GI bI
theorem ok_neg {f : Addr} {fd : FuncData} (F : FnM K "__neg__" "Ratio.__neg__" s_Ratio_neg f fd) : FnOk P w K mg base CX0 3 f fd ["self"] (spOne C fun n => -n) := by
  have GI := r0_of GI bI
  refine F.ok sc_Ratio_neg (fun vs H Q E h => ?_) (fun cdv A outer s H vs Q E hr h => ?_)
  · obtain ⟨p, n1, o1, rfl, _⟩ := h
    rfl
  · obtain ⟨p, n1, o1, rfl, ⟨dx, hp⟩, ⟨s1, s2⟩, hO, k⟩ := h
    refine ⟨_, PSs.nox ((pss_one (ps_ret (StX.pe_makeR T.mkr GI (hr.mono (by decide)) rfl T.mgC passL (pa_cons (pe_un un_neg (pe_fld (pv 0) rfl)) (pa_cons (pe_fld (pv 0) rfl) pa_nil)))))), ?_⟩
    refine ⟨_, rfl, p, C, dx, _, _, rfl, hp, T.cl, T.nN, fl_n _ _, _, rfl, _, rfl, p, C, dx, _, _, rfl, hp, T.cl, T.nO, fl_o _ _, fun x ddx nx nd ne => ?_⟩
    exact ⟨x, ddx, _, _, rfl, upd_same, Nat.lt_of_lt_of_le s2 (Nat.pow_le_pow_right (by decide) (by decide)), fun z => absurd z hO, fun _ => ⟨rfl, k x _ (made_same nx nd) ⟨ddx, upd_same⟩⟩⟩
theorem ok_abs {f : Addr} {fd : FuncData} (F : FnM K "__abs__" "Ratio.__abs__" s_Ratio_abs f fd) : FnOk P w K mg base CX0 3 f fd ["self"] (spOne C fun n => if n < 0 then -n else n) := by
  have GI := r0_of GI bI
  refine F.ok sc_Ratio_abs (fun vs H Q E h => ?_) (fun cdv A outer s H vs Q E hr h => ?_)
  · obtain ⟨p, n1, o1, rfl, _⟩ := h
    rfl
  · obtain ⟨p, n1, o1, rfl, ⟨dx, hp⟩, ⟨s1, s2⟩, hO, k⟩ := h
    refine ⟨_, PSs.nox ((pss_one (ps_ret (StX.pe_makeR T.mkr GI (hr.mono (by decide)) rfl T.mgC passL (pa_cons (pe_callB call_abs rfl T.f_abs (by decide +kernel) (pa_cons (pe_fld (pv 0) rfl) pa_nil)) (pa_cons (pe_fld (pv 0) rfl) pa_nil)))))), ?_⟩
    refine ⟨_, rfl, p, C, dx, _, _, rfl, hp, T.cl, T.nN, fl_n _ _, _, rfl, _, rfl, p, C, dx, _, _, rfl, hp, T.cl, T.nO, fl_o _ _, fun x ddx nx nd ne => ?_⟩
    exact ⟨x, ddx, _, _, rfl, upd_same, Nat.lt_of_lt_of_le s2 (Nat.pow_le_pow_right (by decide) (by decide)), fun z => absurd z hO, fun _ => ⟨rfl, k x _ (made_same nx nd) ⟨ddx, upd_same⟩⟩⟩
end
theorem ok_eq {f : Addr} {fd : FuncData} (F : FnM K "__eq__" "Ratio.__eq__" s_Ratio_eq f fd) (T : TxtR K mg C CO fI) : FnOk P w K mg base CX0 1 f fd ["self", "other"] (spEq C) := by
  refine F.ok sc_Ratio_eq (fun vs H Q E h => ?_) (fun cdv A outer s H vs Q E hr h => ?_)
  · obtain ⟨p, y, n1, o1, rfl, _⟩ := h
    rfl
  · obtain ⟨p, y, n1, o1, rfl, ⟨dx, hp⟩, h⟩ := h
    refine ⟨_, PSs.nox ((pss_one (ps_ret (pe_and (pe_callB call_isi rfl T.f_isinstance (by decide +kernel) (pa_cons (pv 1) (pa_cons (pe_glob (v := .ref C) rfl T.mgC rfl) pa_nil))) (pe_and (pe_cmpR op_eq (pe_fld (pv 0) rfl) (pe_fld (pv 1) rfl) (nomark _)) (pe_one (pe_cmpR op_eq (pe_fld (pv 0) rfl) (pe_fld (pv 1) rfl) (nomark _)))))))), ?_⟩
    rcases h with ⟨q, n2, o2, rfl, ⟨dq, hq⟩, k⟩ | ⟨m, rfl, k⟩
    · refine ⟨_, rfl, _, _, _, _, true, rfl, .own C, .base (.ins hq T.cl T.ca T.cn T.ct T.cm), T.k1, _, rfl, iteT ?_⟩
      refine ⟨_, rfl, p, C, dx, _, _, rfl, hp, T.cl, T.nN, fl_n _ _, _, rfl, q, C, dq, _, _, rfl, hq, T.cl, T.nN, fl_n _ _, rfl, _, rfl, ?_⟩
      refine ite2 (fun hd => ?_) (fun hd => ?_)
      · have e1 : n1 = n2 := by injection of_decide_eq_true hd
        refine ⟨_, rfl, p, C, dx, _, _, rfl, hp, T.cl, T.nO, fl_o _ _, _, rfl, q, C, dq, _, _, rfl, hq, T.cl, T.nO, fl_o _ _, rfl, ?_⟩
        have e2 : decide (V.int o1 = V.int o2) = decide (n1 = n2 ∧ o1 = o2) := by simp [e1]
        rw [e2]
        exact k
      · have e1 : n1 ≠ n2 := fun z => hd (by rw [z]; exact decide_eq_true rfl)
        have e2 : false = decide (n1 = n2 ∧ o1 = o2) := by simp [e1]
        rw [e2]
        exact k
    · exact ⟨_, rfl, _, _, _, _, false, rfl, .own C, .base (.int m), T.k2, _, rfl, iteF k⟩
theorem tS_len {n : Int} (h : Small n) : (tS n).length ≤ 1000 := by
  have h1 : n.natAbs < 10 ^ 80 := Nat.lt_trans h (by decide)
  have e := int_text_length_le10 (k := 80) (by decide) h1
  show (Str.ofString (toString n)).length ≤ 1000
  rw [ofString_length]
  omega
theorem log_small {n : Int} (h : Small n) : n.natAbs.log2 < 1920 := Nat.lt_trans (PySem.Flt.log2_lt_of (k := 250) (by decide) h) (by decide)
theorem app_len (a b : Str) : (a ++ b).length = a.length + b.length := by
  show (a ++ b).cps.size = a.cps.size + b.cps.size
  exact Array.size_append
theorem e_app (d : Str) : Str.empty ++ d = d := by
  show (⟨#[] ++ d.cps⟩ : Str) = d
  rw [Array.empty_append]
theorem ok_str {f : Addr} {fd : FuncData} (F : FnM K "__str__" "Ratio.__str__" s_Ratio_str f fd) (T : TxtR K mg C CO fI) : FnOk P w K mg base CX0 1 f fd ["self"] (spStr C) := by
  refine F.ok sc_Ratio_str (fun vs H Q E h => ?_) (fun cdv A outer s H vs Q E hr h => ?_)
  · obtain ⟨p, n, o, rfl, _⟩ := h
    rfl
  · obtain ⟨p, n, o, rfl, ⟨dx, hp⟩, ⟨s1, s2⟩, k⟩ := h
    refine ⟨_, PSs.nox ((pss_cons (ps_if (pt_cmpR op_eq (pe_fld (pv 0) rfl) pe_int (nomark _)) (pss_one (ps_ret (pe_callTy call_str_int rfl T.f_str (by decide +kernel) (pa_cons (pe_fld (pv 0) rfl) pa_nil)))) pss_nil)
        (pss_one (ps_ret (pe_joined (PJ.cons (pe_fmt (pe_fld (pv 0) rfl)) (PJ.cons pe_str (PJ.cons (pe_fmt (pe_fld (pv 0) rfl)) PJ.nil)))))))), ?_⟩
    refine ⟨_, rfl, p, C, dx, _, _, rfl, hp, T.cl, T.nO, fl_o _ _, rfl, _, rfl, ?_⟩
    refine ite2 (fun hd => ?_) (fun hd => ?_)
    · have e1 : o = 1 := by injection of_decide_eq_true hd
      refine ⟨_, rfl, p, C, dx, _, _, rfl, hp, T.cl, T.nN, fl_n _ _, _, rfl, log_small s1, ?_⟩
      have e2 : ratS n o = tS n := if_pos e1
      rw [e2] at k
      exact k
    · have e1 : o ≠ 1 := fun z => hd (by rw [z]; exact decide_eq_true rfl)
      have e2 : ratS n o = tS n ++ "/" ++ tS o := if_neg e1
      have l1 := tS_len s1
      have l2 := tS_len s2
      have l3 : (Str.ofString "/").length = 1 := by decide +kernel
      have lim : 3000 ≤ sizeLine := by decide
      refine ⟨_, rfl, p, C, dx, _, _, rfl, hp, T.cl, T.nN, fl_n _ _, .inr ⟨_, rfl, log_small s1, _, rfl, ?_, _, rfl, ?_, ?_⟩⟩
      · show (Str.empty ++ tS n).length ≤ sizeLine
        rw [e_app]
        omega
      · show (Str.empty ++ tS n ++ Str.ofString "/").length ≤ sizeLine
        rw [e_app, app_len]
        omega
      · refine ⟨_, rfl, p, C, dx, _, _, rfl, hp, T.cl, T.nO, fl_o _ _, .inr ⟨_, rfl, log_small s2, _, rfl, ?_, ?_⟩⟩
        · show (Str.empty ++ tS n ++ Str.ofString "/" ++ tS o).length ≤ sizeLine
          rw [e_app, app_len, app_len]
          omega
        · show Q (.str (Str.empty ++ tS n ++ Str.ofString "/" ++ tS o)) H
          rw [e_app]
          rw [e2] at k
          exact k
end
end Wk

namespace Wk
open PySem L2 NumR
theorem dn1 : PySem.dunder "add" = ("__add__" : Str) := by decide +kernel
theorem dn2 : PySem.dunder "sub" = ("__sub__" : Str) := by decide +kernel
theorem dn3 : PySem.dunder "mul" = ("__mul__" : Str) := by decide +kernel
theorem dn4 : dunderR "add" = ("__radd__" : Str) := by decide +kernel
theorem dn5 : dunderR "sub" = ("__rsub__" : Str) := by decide +kernel
theorem dn6 : dunderR "mul" = ("__rmul__" : Str) := by decide +kernel
abbrev aN : Fn4 := fun n1 o1 n2 o2 => n1 * o2 + n2 * o1
abbrev sN : Fn4 := fun n1 o1 n2 o2 => n1 * o2 - n2 * o1
abbrev mN : Fn4 := fun n1 _ n2 _ => n1 * n2
abbrev dO : Fn4 := fun _ o1 _ o2 => o1 * o2
/-- what the class says of its operators -/
structure OpT (K : PySem.W.Frag) (C : Addr) (g : Nat → Addr) : Prop where
  first : PySem.W.selfFirst K C = true
  m1 : Meth K C "__add__" (g 1)
  m2 : Meth K C "__sub__" (g 2)
  m3 : Meth K C "__mul__" (g 3)
  m4 : Meth K C "__radd__" (g 4)
  m5 : Meth K C "__rsub__" (g 5)
  m6 : Meth K C "__rmul__" (g 6)
  m7 : Meth K C "__neg__" (g 7)
  m8 : Meth K C "__abs__" (g 8)
  m9 : Meth K C "__eq__" (g 9)
  m10 : Meth K C "is_less" (g 10)
  m11 : Meth K C "divided" (g 11)
  m12 : Meth K C "__str__" (g 12)
  i1 : (PySem.W.findIn K (.type "int") "__add__").isSome = true
  i2 : (PySem.W.findIn K (.type "int") "__sub__").isSome = true
  i3 : (PySem.W.findIn K (.type "int") "__mul__").isSome = true
  i4 : (PySem.W.findIn K (.type "int") "__radd__").isSome = true
  i5 : (PySem.W.findIn K (.type "int") "__rsub__").isSome = true
  i6 : (PySem.W.findIn K (.type "int") "__rmul__").isSome = true
  s1 : PySem.W.subIn K (.type "int") (.ref C) = some false
  s2 : PySem.W.subIn K (.ref C) (.type "int") = some false
  ne : PySem.W.findIn K (.ref C) "__ne__" = some (some (.builtin "object.__ne__"))
  cm : PySem.W.mroIn K C (.type "object") = some true
/-- the operators, each with its promise -/
structure Ops (P : Program) (w : World) (K : PySem.W.Frag) (mg : Str → Option Value) (base : Heap) (C : Addr) (g : Nat → Addr) : Prop where
  t : OpT K C g
  f1 : FnR P w K mg base CX0 3 (g 1) (spBin C aN dO)
  f2 : FnR P w K mg base CX0 3 (g 2) (spBin C sN dO)
  f3 : FnR P w K mg base CX0 3 (g 3) (spBin C mN dO)
  f7 : FnR P w K mg base CX0 3 (g 7) (spOne C fun n => -n)
section
variable {X : Cx} {C : Addr} {g : Nat → Addr} {E : XK}
theorem Ops.add (O : Ops X.prog X.w X.K X.mg X.base C g) (hr : Room 3 X.A) (hx : Passes CX0 X E) : OpR X (binaryOp .Add) (rOwnB C (spBin C aN dO) E) := by
  obtain ⟨fo, h1⟩ := Option.isSome_iff_exists.mp O.t.i1
  obtain ⟨ro, h2⟩ := Option.isSome_iff_exists.mp O.t.i4
  exact op_ownB (op := .Add) O.t.first (dn1 ▸ O.t.m1) (dn4 ▸ O.t.m4) (dn1 ▸ h1) (dn4 ▸ h2) O.t.s1 O.f1 hr hx
theorem Ops.sub (O : Ops X.prog X.w X.K X.mg X.base C g) (hr : Room 3 X.A) (hx : Passes CX0 X E) : OpR X (binaryOp .Sub) (rOwnB C (spBin C sN dO) E) := by
  obtain ⟨fo, h1⟩ := Option.isSome_iff_exists.mp O.t.i2
  obtain ⟨ro, h2⟩ := Option.isSome_iff_exists.mp O.t.i5
  exact op_ownB (op := .Sub) O.t.first (dn2 ▸ O.t.m2) (dn5 ▸ O.t.m5) (dn2 ▸ h1) (dn5 ▸ h2) O.t.s1 O.f2 hr hx
theorem Ops.mul (O : Ops X.prog X.w X.K X.mg X.base C g) (hr : Room 3 X.A) (hx : Passes CX0 X E) : OpR X (binaryOp .Mult) (rOwnB C (spBin C mN dO) E) := by
  obtain ⟨fo, h1⟩ := Option.isSome_iff_exists.mp O.t.i3
  obtain ⟨ro, h2⟩ := Option.isSome_iff_exists.mp O.t.i6
  exact op_ownB (op := .Mult) O.t.first (dn3 ▸ O.t.m3) (dn6 ▸ O.t.m6) (dn3 ▸ h1) (dn6 ▸ h2) O.t.s1 O.f3 hr hx
theorem Ops.neg (O : Ops X.prog X.w X.K X.mg X.base C g) (hr : Room 3 X.A) (hx : Passes CX0 X E) : UnR X (unaryOp .USub) (fun x H Q => IsIns H C x ∧ spOne C (fun n => -n) [x] H Q E) := un_negO O.t.m7 O.f7 hr hx
end
/-- y - self, self in lowest terms -/
def spRsub (C : Addr) : Sp := fun vs H Q _ => ∃ (p : Addr) (m n1 o1 : Int), vs = [.ref p, .int m] ∧ RatAt C H p n1 o1 ∧ (Small n1 ∧ Small o1 ∧ Small m) ∧ Low n1 o1 n1 o1 ∧
  ∀ r H', Same H H' → RatAt C H' r (lowN (-n1 * 1 + m * o1) (o1 * 1)) (lowO (-n1 * 1 + m * o1) (o1 * 1)) → Q (.ref r) H'
section
variable {P : Program} {w : World} {K : PySem.W.Frag} {mg : Str → Option Value} {base : Heap} {C CO fI : Addr} {g : Nat → Addr}
theorem ok_radd {f : Addr} {fd : FuncData} (F : FnM K "__radd__" "Ratio.__radd__" s_Ratio_radd f fd) (O : Ops P w K mg base C g) : FnOk P w K mg base CX0 4 f fd ["self", "other"] (spBin C aN dO) := by
  refine F.ok sc_Ratio_radd (fun vs H Q E h => ?_) (fun cdv A outer s H vs Q E hr h => ?_)
  · obtain ⟨p, y, n1, o1, n2, o2, rfl, _⟩ := h
    rfl
  · obtain ⟨p, y, n1, o1, n2, o2, rfl, hp, hy, hs, hO, k⟩ := h
    refine ⟨_, PSs.nox ((pss_one (ps_ret (pe_op (O.add (hr.mono (by decide)) pass0) (pv 0) (pv 1))))), ?_⟩
    exact ⟨_, rfl, _, rfl, hp.ins, hy.kind, p, y, n1, o1, n2, o2, rfl, hp, hy, hs, hO, k⟩
theorem ok_rmul {f : Addr} {fd : FuncData} (F : FnM K "__rmul__" "Ratio.__rmul__" s_Ratio_rmul f fd) (O : Ops P w K mg base C g) : FnOk P w K mg base CX0 4 f fd ["self", "other"] (spBin C mN dO) := by
  refine F.ok sc_Ratio_rmul (fun vs H Q E h => ?_) (fun cdv A outer s H vs Q E hr h => ?_)
  · obtain ⟨p, y, n1, o1, n2, o2, rfl, _⟩ := h
    rfl
  · obtain ⟨p, y, n1, o1, n2, o2, rfl, hp, hy, hs, hO, k⟩ := h
    refine ⟨_, PSs.nox ((pss_one (ps_ret (pe_op (O.mul (hr.mono (by decide)) pass0) (pv 0) (pv 1))))), ?_⟩
    exact ⟨_, rfl, _, rfl, hp.ins, hy.kind, p, y, n1, o1, n2, o2, rfl, hp, hy, hs, hO, k⟩
theorem ok_rsub {f : Addr} {fd : FuncData} (F : FnM K "__rsub__" "Ratio.__rsub__" s_Ratio_rsub f fd) (O : Ops P w K mg base C g) : FnOk P w K mg base CX0 4 f fd ["self", "other"] (spRsub C) := by
  refine F.ok sc_Ratio_rsub (fun vs H Q E h => ?_) (fun cdv A outer s H vs Q E hr h => ?_)
  · obtain ⟨p, m, n1, o1, rfl, _⟩ := h
    rfl
  · obtain ⟨p, m, n1, o1, rfl, hp, ⟨s1, s2, s3⟩, hl, k⟩ := h
    refine ⟨_, PSs.nox ((pss_one (ps_ret (pe_op (O.add (hr.mono (by decide)) pass0) (pe_un (O.neg (hr.mono (by decide)) pass0) (pv 0)) (pv 1))))), ?_⟩
    have ho : o1 ≠ 0 := by have := hl.pos; omega
    have sn : Small (-n1) := by
      show (-n1).natAbs < 2 ^ 250
      rw [Int.natAbs_neg]
      exact s1
    have hl2 : Low (-n1) o1 (-n1) o1 := ⟨hl.pos, by rw [Int.neg_gcd]; exact hl.cop, rfl⟩
    have e := hl2.of ho
    refine ⟨_, rfl, hp.ins, p, n1, o1, rfl, hp, ⟨s1, s2⟩, ho, fun r H1 S1 hr1 => ?_⟩
    rw [← e.1, ← e.2] at hr1
    refine ⟨_, rfl, hr1.ins, .inr ⟨m, rfl⟩, r, .int m, -n1, o1, m, 1, rfl, hr1, .inr ⟨rfl, rfl⟩, ⟨sn, s2, s3, by show (1 : Int).natAbs < 2 ^ 250; decide⟩, (by show o1 * 1 ≠ 0; omega), fun r2 H2 S2 h2 => k r2 H2 (S1.trans S2) h2⟩
end
end Wk

namespace Wk
open PySem L2
abbrev s_law_pen_of : Stmt := top 8
theorem sc_law_pen_of : FnScope ["_law_script"] ["_law_script"] (defScope s_law_pen_of) := ⟨rfl, rfl, rfl, by decide +kernel, rfl, by decide +kernel, by decide +kernel⟩
abbrev s_law_draw : Stmt := top 9
theorem sc_law_draw : FnScope ["_law_pen", "_law_many", "_law_digit", "_law_index", "_law_size", "_law_cell", "_law_mixed"] ["_law_pen", "_law_many"] (defScope s_law_draw) := ⟨rfl, rfl, rfl, by decide +kernel, rfl, by decide +kernel, by decide +kernel⟩
abbrev s_law_pick : Stmt := top 10
theorem sc_law_pick : FnScope ["_law_pen", "_law_items"] ["_law_pen", "_law_items"] (defScope s_law_pick) := ⟨rfl, rfl, rfl, by decide +kernel, rfl, by decide +kernel, by decide +kernel⟩

local macro_rules | `(tactic| walk_at "rd") => `(tactic| repeat first | refine ⟨_, rfl, ?_⟩ | refine ⟨_, _, rfl, rfl, ?_⟩ | refine ⟨rfl, ?_⟩)
/-! ### the pen -/
def penL (c : Addr) (i l : Int) : List (Key × V) := [(.inr "cells", .ref c), (.inr "next", .int i), (.inr "left", .int l)]
theorem kk1 : ¬ (Sum.inr "cells" : Key) = .inr "next" := by decide +kernel
theorem kk2 : ¬ (Sum.inr "cells" : Key) = .inr "left" := by decide +kernel
theorem kk3 : ¬ (Sum.inr "next" : Key) = .inr "left" := by decide +kernel
theorem kk4 : ¬ (Sum.inr "left" : Key) = .inr "next" := by decide +kernel
theorem ks1 : ¬ Str.ofString "cells" = Str.ofString "next" := by decide +kernel
theorem ks2 : ¬ Str.ofString "cells" = Str.ofString "left" := by decide +kernel
theorem ks3 : ¬ Str.ofString "next" = Str.ofString "left" := by decide +kernel
theorem ks4 : ¬ Str.ofString "left" = Str.ofString "next" := by decide +kernel
theorem pen_cells (c : Addr) (i l : Int) : valV (penL c i l) (.inr "cells") = some (.ref c) := valV_pos rfl
theorem pen_next (c : Addr) (i l : Int) : valV (penL c i l) (.inr "next") = some (.int i) := by
  rw [penL, valV_neg kk1, valV_pos rfl]
theorem pen_left (c : Addr) (i l : Int) : valV (penL c i l) (.inr "left") = some (.int l) := by
  rw [penL, valV_neg kk2, valV_neg kk3, valV_pos rfl]
theorem put_next (c : Addr) (i l j : Int) : putK (penL c i l) (.inr "next") (.int j) = penL c j l := by
  simp [putK, penL, ks1, ks4]
theorem put_left (c : Addr) (i l j : Int) : putK (penL c i l) (.inr "left") (.int j) = penL c i j := by
  simp [putK, penL, ks2, ks3]
structure PenAt (H : Hp) (p c : Addr) (ns : List Int) (i l : Int) : Prop where
  pen : H p = some (.dK (penL c i l))
  cells : H c = some (.lst (ns.map V.int))
  i0 : 0 ≤ i
  l0 : 0 ≤ l
  i1 : i ≤ 100000
theorem PenAt.ne {H : Hp} {p c : Addr} {ns : List Int} {i l : Int} (P : PenAt H p c ns i l) : c ≠ p := ne_of P.cells P.pen (by intro z; cases z)
/-- the pen behind a draw -/
def penTo (H : Hp) (p c : Addr) (i l : Int) : Hp := upd H p (.dK (penL c i l))
theorem PenAt.to {H : Hp} {p c : Addr} {ns : List Int} {i l i' l' : Int} (P : PenAt H p c ns i l) (h0 : 0 ≤ i') (h1 : 0 ≤ l') (h2 : i' ≤ 100000) : PenAt (penTo H p c i' l') p c ns i' l' :=
  ⟨upd_same, by rw [penTo, upd_ne P.ne]; exact P.cells, h0, h1, h2⟩
theorem penTo_to {H : Hp} {p c : Addr} {i l i' l' : Int} : penTo (penTo H p c i l) p c i' l' = penTo H p c i' l' := upd_upd
def spDraw : Sp := fun vs H Q _ => ∃ (p c : Addr) (ns : List Int) (i l m : Int), vs = [.ref p, .int m] ∧ PenAt H p c ns i l ∧ i < 100000 ∧ 1 ≤ m ∧ m.natAbs < 2 ^ 9000 ∧
  ∀ d i' l' : Int, 0 ≤ d → d < m → 0 ≤ i' → i' ≤ i + 1 → 0 ≤ l' → Q (.int d) (penTo H p c i' l')
/-- what the module's names stand for -/
structure TxtA (mg : Str → Option Value) : Prop where
  f_int : mg "int" = none
  f_len : mg "len" = none
  f_abs : mg "abs" = none
section
variable {P : Program} {w : World} {K : PySem.W.Frag} {mg : Str → Option Value} {base : Heap}
theorem small64 {i : Int} (h0 : 0 ≤ i) {n : Int} (h1 : i ≤ n) {k : Nat} (h2 : n.toNat < 2 ^ k) : i.natAbs < 2 ^ k := by omega
theorem fmod_at {a m : Int} (h : 1 ≤ m) : 0 ≤ a.fmod m ∧ a.fmod m < m := by
  rw [Int.fmod_eq_emod_of_nonneg _ (by omega)]
  exact ⟨Int.emod_nonneg _ (by omega), Int.emod_lt_of_pos _ (by omega)⟩
theorem emod_at {a m : Int} (h : 1 ≤ m) : 0 ≤ a % m ∧ a % m < m := ⟨Int.emod_nonneg _ (by omega), Int.emod_lt_of_pos _ (by omega)⟩
/-- a way that two branches share -/
theorem use_tail {B G : Prop} (f : B → G) (b : B) : G := f b
theorem pick2 {c1 : Prop} [Decidable c1] {X A B : Prop} (hB : B) (h1 : c1 → X) : if decide c1 = true then X else if false = true then A else B := by
  by_cases c : c1
  · rw [if_pos (decide_eq_true c)]
    exact h1 c
  · rw [if_neg (by simpa using c)]
    exact iteF hB
theorem mod_word {a b : Int} (hb : 1 ≤ b) (hb2 : b ≤ 4294967296) : ∃ y : Int, a % b = y ∧ 0 ≤ y ∧ y < 4294967296 := ⟨a % b, rfl, Int.emod_nonneg _ (by omega), by
  have := Int.emod_lt_of_pos a (show 0 < b by omega)
  omega⟩
theorem ok_draw {f : Addr} {fd : FuncData} (F : Fun K "_law_draw" "_law_draw" s_law_draw f fd) (T : TxtA mg) : FnOk P w K mg base CX0 1 f fd ["_law_pen", "_law_many"] spDraw := by
  refine F.ok sc_law_draw (fun vs H Q E h => ?_) (fun cdv A outer s H vs Q E hr h => ?_)
  · obtain ⟨p, c, ns, i, l, m, rfl, _⟩ := h
    rfl
  · obtain ⟨p, c, ns, i, l, m, rfl, S, hi, hm, hmw, k⟩ := h
    have hu := hu_of hr
    have hcp := S.ne
    have i0 := S.i0
    have l0 := S.l0
    refine ⟨_, (pss_cons (ps_if (pt_cmpR op_gt (pe_dget hu (pv 0) pe_str (fun _ _ => rfl)) pe_int (nomark _)) (pss_cons (ps_set (i := 2) sc_law_draw.nd rfl (Or.inl rfl) (pe_op op_modN (pe_callTy call_int1 rfl T.f_int (by decide +kernel) (pa_cons (pe_dget hu (pv 0) pe_str (fun _ _ => rfl)) pa_nil)) (pv 1)))
        (pss_cons (ps_dput hu (pv 0) pe_str (pe_op op_fdivW (pe_dget hu (pv 0) pe_str (fun _ _ => rfl)) (pv 1)) rfl)
        (pss_one (ps_ret (pv 2))))) pss_nil)
        (pss_cons (ps_par (i := 3) (j := 4) rfl sc_law_draw.nd rfl rfl (by decide) rfl rfl (pa_cons (pe_dget hu (pv 0) pe_str (fun _ _ => rfl)) (pa_cons (pe_callB call_len_seq rfl T.f_len PySem.boot_len (pa_cons (pe_dget hu (pv 0) pe_str (fun _ _ => rfl)) pa_nil)) pa_nil)) (by rfl))
        (pss_cons (ps_dput hu (pv 0) pe_str (pe_op op_add (pv 3) pe_int) rfl)
        (pss_cons (ps_if (pt_cmpR op_eq (pv 4) pe_int (nomark _)) (pss_one (ps_ret (pe_op op_modN (pe_callTy call_int1 rfl T.f_int (by decide +kernel) (pa_cons (pe_op op_add (pe_op op_mulW pe_int (pv 3)) pe_int) pa_nil)) (pv 1)))) pss_nil)
        (pss_cons (ps_set (i := 5) sc_law_draw.nd rfl (Or.inl rfl) (pe_ix ix_list (pe_dget hu (pv 0) pe_str (fun _ _ => rfl)) (pe_op op_modN (pe_callTy call_int1 rfl T.f_int (by decide +kernel) (pa_cons (pv 3) pa_nil)) (pv 4)) (fun _ _ => rfl)))
        (pss_cons (ps_if (PW.pt (pw_and (pt_cmpR op_lt (pv 3) (pv 4) (nomark _)) (pw_and1 (pt_cmpR op_ge (pe_callB call_abs rfl T.f_abs (by decide +kernel) (pa_cons (pv 5) pa_nil)) (pe_op op_pow pe_int pe_int) (nomark _))))) (pss_cons (ps_dput hu (pv 0) pe_str (pe_op op_fdivW (pe_op op_sub (pe_callB call_abs rfl T.f_abs (by decide +kernel) (pa_cons (pv 5) pa_nil)) (pe_op op_pow pe_int pe_int)) (pv 1)) rfl)
        (pss_one (ps_ret (pe_op op_modN (pe_callTy call_int1 rfl T.f_int (by decide +kernel) (pa_cons (pe_op op_sub (pe_callB call_abs rfl T.f_abs (by decide +kernel) (pa_cons (pv 5) pa_nil)) (pe_op op_pow pe_int pe_int)) pa_nil)) (pv 1))))) pss_nil)
        (pss_cons (ps_set (i := 6) sc_law_draw.nd rfl (Or.inl rfl) (pe_op op_add (pe_op op_mulW (pe_op op_mod (pe_callTy call_int1 rfl T.f_int (by decide +kernel) (pa_cons (pv 5) pa_nil)) pe_int) pe_int) (pe_op op_mulW (pe_op op_mulW pe_int (pv 3)) (pv 3))))
        (pss_cons (ps_set (i := 6) sc_law_draw.nd rfl (Or.inl rfl) (pe_op op_mod (pe_callTy call_int1 rfl T.f_int (by decide +kernel) (pa_cons (pe_op op_add (pe_op op_add (pv 6) (pe_op op_mulW pe_int (pv 3))) pe_int) pa_nil)) pe_int))
        (pss_cons (ps_set (i := 6) sc_law_draw.nd rfl (Or.inl rfl) (pe_op op_mod (pe_callTy call_int1 rfl T.f_int (by decide +kernel) (pa_cons (pe_op op_add (pe_op op_add (pe_op op_add (pe_op op_mulW (pv 6) (pv 6)) (pe_op op_mulW pe_int (pv 6))) (pe_op op_mulW pe_int (pv 3))) pe_int) pa_nil)) pe_int))
        (pss_one (ps_ret (pe_op op_modN (pe_callTy call_int1 rfl T.f_int (by decide +kernel) (pa_cons (pe_op op_fdiv (pe_op op_mod (pe_callTy call_int1 rfl T.f_int (by decide +kernel) (pa_cons (pe_op op_mulW (pv 6) (pe_op op_add (pv 6) pe_int)) pa_nil)) pe_int) pe_int) pa_nil)) (pv 1))))))))))))), ?_⟩
    -- if pen["left"] > 0
    have gL := pen_left c i l ▸ DGet.k (k := .inr "left") S.pen
    have gN := pen_next c i l ▸ DGet.k (k := .inr "next") S.pen
    have gC := pen_cells c i l ▸ DGet.k (k := .inr "cells") S.pen
    have z3 : (penL c i l).length < sizeLine := (by decide : 3 < sizeLine)
    have kR : ∀ (a i' l' : Int) (H' : Hp), 0 ≤ i' → i' ≤ i + 1 → 0 ≤ l' → H' = penTo H p c i' l' → Q (.int (a.fmod m)) H' := fun a i' l' H' h1 h2 h3 e => by
      rw [e]
      exact k _ _ _ (fmod_at hm).1 (fmod_at hm).2 h1 h2 h3
    have dv : ∀ x : Int, 0 ≤ x → 0 ≤ x / m := fun x hx => Int.ediv_nonneg hx (by omega)
    have cdv : ∀ x : Int, CDivW x m := fun x => wide_div (by omega) hmw (by decide) (by decide)
    refine ⟨_, rfl, p, _, rfl, gL, _, _, rfl, rfl, _, rfl, ?_⟩
    refine ite2 (fun hd => ?_) (fun hd => ?_)
    · have hl : 0 < l := of_decide_eq_true hd
      -- digit = int(pen["left"]) % many; pen["left"] = pen["left"] // many; return digit
      refine ⟨_, rfl, p, _, rfl, gL, .inl ⟨_, rfl, ?_⟩⟩
      refine ⟨_, rfl, _, _, rfl, rfl, (by omega), ?_⟩
      refine ⟨_, rfl, p, _, rfl, gL, _, rfl, _, _, rfl, rfl, cdv _, ?_⟩
      refine ⟨_, rfl, p, _, rfl, DPut.k (k := .inr "left") S.pen z3, _, rfl, ?_⟩
      exact kR _ i (l / m) _ i0 (by omega) (dv _ l0) (by rw [put_left]; rfl)
    · -- index, size = pen["next"], len(pen["cells"]); pen["next"] = index + 1
      have S1 : PenAt (penTo H p c (i + 1) l) p c ns (i + 1) l := S.to (by omega) l0 (by omega)
      have gC1 := pen_cells c (i + 1) l ▸ DGet.k (k := .inr "cells") S1.pen
      refine ⟨_, rfl, p, _, rfl, gN, _, rfl, p, _, rfl, gC, _, _, rfl, .inl (SqL.of S.cells), _, _, rfl, ?_⟩
      refine ⟨_, rfl, _, _, rfl, rfl, _, rfl, p, _, rfl, DPut.k (k := .inr "next") S.pen z3, ?_⟩
      rw [put_next]
      show tSeq _ _ _ _ (penTo H p c (i + 1) l)
      have w64 : ∀ {x n : Int}, 0 ≤ x → x ≤ n → n.toNat < 2 ^ 64 → x.natAbs < 2 ^ 64 := fun h0 h1 h2 => small64 h0 h1 h2
      have wi : i.natAbs < 2 ^ 64 := w64 i0 (n := 100000) (by omega) (by decide)
      have wc : ∀ {x y : Int}, x.natAbs < 2 ^ 64 → y.natAbs < 2 ^ 128 → CMulW x y := fun a b => wide_mul a b (by decide) (by decide) (by decide)
      -- if size == 0: return int(7 * index + 3) % many
      refine ⟨_, rfl, rfl, _, rfl, ?_⟩
      refine ite2 (fun he => ?_) (fun he => ?_)
      · refine ⟨_, rfl, _, _, rfl, rfl, wc (by decide) (by omega), _, _, rfl, rfl, .inl ⟨_, rfl, _, rfl, _, _, rfl, rfl, (by omega), ?_⟩⟩
        exact kR _ (i + 1) l _ (by omega) (by omega) l0 rfl
      · have hne : ns.length ≠ 0 := fun z => he (by
          have e : (ns.map V.int).length = 0 := by rw [List.length_map]; exact z
          rw [e]
          exact decide_eq_true rfl)
        have hlen : ((ns.map V.int).length : Int) = ns.length := by rw [List.length_map]
        rw [hlen]
        -- cell = pen["cells"][int(index) % size]
        have hj := fmod_at (a := i) (m := (ns.length : Int)) (by omega)
        obtain ⟨j, hj2⟩ : ∃ j : Nat, i.fmod (ns.length : Int) = j := ⟨(i.fmod (ns.length : Int)).toNat, by omega⟩
        have hjl : j < ns.length := by omega
        have ha : atI (ns.map V.int) (i.fmod (ns.length : Int)) = some (V.int ns[j]) := by
          rw [hj2]
          exact atI_nat (by simp [hjl])
        generalize ns[j] = x at ha
        refine ⟨_, rfl, p, _, rfl, gC1, _, rfl, .inl ⟨_, rfl, _, rfl, _, _, rfl, rfl, (by omega), c, _, _, _, rfl, rfl, SqL.of S1.cells, ha, ?_⟩⟩
        -- if index < size and abs(cell) >= 10 ** 18
        have ten : (0 : Int) ≤ 18 ∧ (18 : Int) ≤ 1000000 ∧ (10 : Int).natAbs < 2 ^ 64 := by decide
        refine ⟨_, rfl, _, rfl, _, _, rfl, rfl, _, rfl, ?_⟩
        refine use_tail (fun hB => pick2 hB fun c1 => ?_) ?tail
        · refine ⟨_, rfl, _, rfl, _, _, rfl, rfl, ten, _, _, rfl, rfl, _, rfl, ?_⟩
          refine ite2 (fun c2 => ?_) (fun _ => hB)
          have c3 := of_decide_eq_true c2
          -- pen["left"] = (abs(cell) - 10 ** 18) // many; return int(abs(cell) - 10 ** 18) % many
          refine ⟨_, rfl, _, rfl, _, _, rfl, rfl, ten, _, _, rfl, rfl, _, rfl, _, _, rfl, rfl, cdv _, ?_⟩
          refine ⟨_, rfl, p, _, rfl, DPut.k (k := .inr "left") S1.pen z3, ?_⟩
          refine ⟨_, rfl, _, rfl, _, _, rfl, rfl, ten, _, _, rfl, rfl, .inl ⟨_, rfl, _, rfl, _, _, rfl, rfl, (by omega), ?_⟩⟩
          rw [put_left]
          exact kR _ (i + 1) _ _ (by omega) (by omega) (dv _ (Int.sub_nonneg_of_le c3)) (by rw [penTo, upd_upd]; rfl)
        · -- mixed = ..
          refine ⟨_, rfl, .inl ⟨_, rfl, _, _, rfl, rfl, (by show (0 : Int) < 4294967197; decide), ?_⟩⟩
          refine ⟨_, _, rfl, rfl, wc (by omega) (by decide), _, rfl, _, _, rfl, rfl, wc (by decide) (by omega), _, rfl, _, _, rfl, rfl, wide_mul (wide_lt (a := 64) (b := 64) (by decide) wi) wi (by decide) (by decide) (by decide), _, _, rfl, rfl, ?_⟩
          refine ⟨_, rfl, _, rfl, _, _, rfl, rfl, wc (by decide) (by omega), _, _, rfl, rfl, _, _, rfl, rfl, .inl ⟨_, rfl, _, _, rfl, rfl, (by show (0 : Int) < 4294967189; decide), ?_⟩⟩
          have q2 := mod_word (a := x % 4294967197 * 52711 + 20353 * i * i + 1531 * i + 11) (b := 4294967189) (by decide) (by decide)
          show tSeq _ _ _ [some (V.ref p), some (V.int m), none, some (V.int i), some (V.int ns.length), some (V.int x), some (V.int ((x % 4294967197 * 52711 + 20353 * i * i + 1531 * i + 11) % 4294967189))] _
          obtain ⟨y2, e2, b3, b4⟩ := q2
          rw [e2]
          refine ⟨_, rfl, _, rfl, _, _, rfl, rfl, wc (by omega) (by omega), _, rfl, _, _, rfl, rfl, wc (by decide) (by omega), _, _, rfl, rfl, _, rfl, _, _, rfl, rfl, wc (by decide) (by omega), _, _, rfl, rfl, _, _, rfl, rfl, .inl ⟨_, rfl, _, _, rfl, rfl, (by show (0 : Int) < 4294967161; decide), ?_⟩⟩
          refine ⟨_, rfl, _, rfl, _, _, rfl, rfl, _, _, rfl, rfl, wc (by omega) (by omega), .inl ⟨_, rfl, _, _, rfl, rfl, (by show (0 : Int) < 4294967143; decide), _, _, rfl, rfl, (by constructor <;> decide), .inl ⟨_, rfl, _, rfl, _, _, rfl, rfl, (by omega), ?_⟩⟩⟩
          exact kR _ (i + 1) l _ (by omega) (by omega) l0 rfl
/-- one of some things: items at a -/
def spPick (K : PySem.W.Frag) : Sp := fun vs H Q _ => ∃ (p c a : Addr) (ns : List Int) (i l : Int) (items : List V), vs = [.ref p, .ref a] ∧ PenAt H p c ns i l ∧ i < 100000 ∧ H a = some (.lst items) ∧ items ≠ [] ∧ items.length ≤ 100000 ∧
  ∀ (v : V) (i' l' : Int), v ∈ items → 0 ≤ i' → i' ≤ i + 1 → 0 ≤ l' → Q v (penTo H p c i' l')
theorem ok_pick {f fD : Addr} {fd fdD : FuncData} (F : Fun K "_law_pick" "_law_pick" s_law_pick f fd) (T : TxtA mg) (G__law_draw : FnOk P w K mg base CX0 1 fD fdD ["_law_pen", "_law_many"] spDraw) (g__law_draw : mg "_law_draw" = some (.ref fD))
    (kp__law_draw : PySem.W.keepIn K (.ref fD) = true) (b__law_draw : Binds K fdD ["_law_pen", "_law_many"] []) : FnOk P w K mg base CX0 2 f fd ["_law_pen", "_law_items"] (spPick K) := by
  refine F.ok sc_law_pick (fun vs H Q E h => ?_) (fun cdv A outer s H vs Q E hr h => ?_)
  · obtain ⟨p, c, a, ns, i, l, items, rfl, _⟩ := h
    rfl
  · obtain ⟨p, c, a, ns, i, l, items, rfl, S, hi, ha, hne, hlen, k⟩ := h
    have hu := hu_of hr
    refine ⟨_, (pss_one (ps_ret (pe_ix ix_list (pv 1) (pe_call G__law_draw (hr.mono (by decide)) rfl g__law_draw kp__law_draw b__law_draw .nil pass0 (pa_cons (pv 0) (pa_cons (pe_callB call_len_seq rfl T.f_len PySem.boot_len (pa_cons (pv 1) pa_nil)) pa_nil))) (fun _ _ => rfl)))), ?_⟩
    have hpos : 0 < items.length := List.length_pos_iff.mpr hne
    refine ⟨_, rfl, _, rfl, _, rfl, _, _, rfl, .inl (SqL.of ha), p, c, ns, i, l, _, rfl, S, hi, by omega, by omega, fun d i' l' d0 d1 h0 h1 h2 => ?_⟩
    obtain ⟨j, rfl⟩ : ∃ j : Nat, d = j := ⟨d.toNat, by omega⟩
    have hj : j < items.length := by omega
    have hap : a ≠ p := ne_of ha S.pen (by intro z; cases z)
    refine ⟨a, items, _, items[j], rfl, rfl, SqL.of (by rw [penTo, upd_ne hap]; exact ha), atI_nat (by simp [hj]), ?_⟩
    exact k _ i' l' (List.getElem_mem hj) h0 h1 h2
end
end Wk

namespace Wk
open PySem L2 NumR
abbrev s_law_number_of : Stmt := top 11
theorem sc_law_number_of : FnScope ["_law_pen", "_law_menu", "_law_found"] ["_law_pen"] (defScope s_law_number_of) := ⟨rfl, rfl, rfl, by decide +kernel, rfl, by decide +kernel, by decide +kernel⟩
abbrev s_law_lowest : Stmt := top 12
theorem sc_law_lowest : FnScope ["_law_number", "_law_over", "_law_one", "_law_other", "_law_sign"] ["_law_number", "_law_over"] (defScope s_law_lowest) := ⟨rfl, rfl, rfl, by decide +kernel, rfl, by decide +kernel, by decide +kernel⟩
abbrev s_law_is : Stmt := top 13
theorem sc_law_is : FnScope ["_law_told", "_law_number", "_law_over"] ["_law_told", "_law_number", "_law_over"] (defScope s_law_is) := ⟨rfl, rfl, rfl, by decide +kernel, rfl, by decide +kernel, by decide +kernel⟩

/-- all but the pen stays -/
def PSame (p : Addr) (H H' : Hp) : Prop := ∀ b o, H b = some o → b ≠ p → H' b = some o
theorem PSame.trans {p : Addr} {H H1 H2 : Hp} (a : PSame p H H1) (b : PSame p H1 H2) : PSame p H H2 := fun c o e n => b c o (a c o e n) n
theorem PSame.pen {p c : Addr} {H : Hp} {i l : Int} : PSame p H (penTo H p c i l) := fun b o e n => by rw [penTo, upd_ne n]; exact e
theorem PSame.of {p : Addr} {H H' : Hp} (s : Same H H') : PSame p H H' := fun b o e _ => s b o e
theorem PenAt.same {H H' : Hp} {p c : Addr} {ns : List Int} {i l : Int} (P : PenAt H p c ns i l) (s : Same H H') : PenAt H' p c ns i l := ⟨s _ _ P.pen, s _ _ P.cells, P.i0, P.l0, P.i1⟩
theorem RatAt.psame {C : Addr} {H H' : Hp} {p q : Addr} {n o : Int} (h : RatAt C H q n o) (s : PSame p H H') (hne : q ≠ p) : RatAt C H' q n o := by
  obtain ⟨dx, e⟩ := h
  exact ⟨dx, s _ _ e hne⟩
def mu3 (σ : St) : Nat := match σ[3]? with
  | some (some (V.int y)) => y.toNat
  | _ => 0
def spNum : Sp := fun vs H Q _ => ∃ (p c : Addr) (ns : List Int) (i l : Int), vs = [.ref p] ∧ PenAt H p c ns i l ∧ i ≤ 99990 ∧
  ∀ (z i' l' : Int) (H' : Hp), z.natAbs < 2 ^ 140 → PenAt H' p c ns i' l' → i' ≤ i + 5 → PSame p H H' → Q (.int z) H'
def Mid (x : Int) : Prop := x.natAbs < 2 ^ 600
def spLow : Sp := fun vs H Q _ => ∃ a b : Int, vs = [.int a, .int b] ∧ b ≠ 0 ∧ Mid a ∧ Mid b ∧ ∀ t, H t = none → Q (.ref t) (upd H t (.tup [.int (lowN a b), .int (lowO a b)]))
def spIs (C : Addr) : Sp := fun vs H Q _ => ∃ (r : Addr) (a b : Int), vs = [.ref r, .int a, .int b] ∧ RatAt C H r (lowN a b) (lowO a b) ∧ b ≠ 0 ∧ Mid a ∧ Mid b ∧ ∀ H', Same H H' → Q (.bl true) H'
section
variable {P : Program} {w : World} {K : PySem.W.Frag} {mg : Str → Option Value} {base : Heap} {C CO fI : Addr}
theorem ok_num {f fD fK : Addr} {fd fdD fdK : FuncData} (F : Fun K "_law_number_of" "_law_number_of" s_law_number_of f fd) (G__law_draw : FnOk P w K mg base CX0 1 fD fdD ["_law_pen", "_law_many"] spDraw) (g__law_draw : mg "_law_draw" = some (.ref fD))
    (kp__law_draw : PySem.W.keepIn K (.ref fD) = true) (b__law_draw : Binds K fdD ["_law_pen", "_law_many"] []) (G__law_pick : FnOk P w K mg base CX0 2 fK fdK ["_law_pen", "_law_items"] (spPick K)) (g__law_pick : mg "_law_pick" = some (.ref fK))
    (kp__law_pick : PySem.W.keepIn K (.ref fK) = true) (b__law_pick : Binds K fdK ["_law_pen", "_law_items"] []) : FnOk P w K mg base CX0 3 f fd ["_law_pen"] spNum := by
  refine F.ok sc_law_number_of (fun vs H Q E h => ?_) (fun cdv A outer s H vs Q E hr h => ?_)
  · obtain ⟨p, c, ns, i, l, rfl, _⟩ := h
    rfl
  · obtain ⟨p, c, ns, i, l, rfl, S, hi, k⟩ := h
    have hu := hu_of hr
    refine ⟨_, (pss_cons (ps_set (i := 1) sc_law_number_of.nd rfl (Or.inl rfl) (pe_lst (pa_cons (pe_call G__law_draw (hr.mono (by decide)) rfl g__law_draw kp__law_draw b__law_draw .nil pass0 (pa_cons (pv 0) (pa_cons pe_int pa_nil))) (pa_cons (pe_op op_add (pe_op op_mulW (pe_call G__law_draw (hr.mono (by decide)) rfl g__law_draw kp__law_draw b__law_draw .nil pass0 (pa_cons (pv 0) (pa_cons pe_int pa_nil))) (pe_op op_pow pe_int pe_int)) pe_int) (pa_cons pe_int (pa_cons (pe_op op_mulW (pe_call G__law_draw (hr.mono (by decide)) rfl g__law_draw kp__law_draw b__law_draw .nil pass0 (pa_cons (pv 0) (pa_cons pe_int pa_nil))) (pe_op op_pow pe_int pe_int)) pa_nil))))))
        (pss_cons (ps_set (i := 2) sc_law_number_of.nd rfl (Or.inl rfl) (pe_call G__law_pick (hr.mono (by decide)) rfl g__law_pick kp__law_pick b__law_pick .nil pass0 (pa_cons (pv 0) (pa_cons (pv 1) pa_nil))))
        (pss_one (ps_ret (pe_ifExp (pt_cmpR op_eq (pe_call G__law_draw (hr.mono (by decide)) rfl g__law_draw kp__law_draw b__law_draw .nil pass0 (pa_cons (pv 0) (pa_cons pe_int pa_nil))) pe_int (nomark _)) (pe_un un_neg (pv 2)) (pv 2)))))), ?_⟩
    have w9 : ∀ n : Int, 0 ≤ n → n < 2000 → n.natAbs < 2 ^ 9000 := fun n h0 h1 => Nat.lt_of_lt_of_le (show n.natAbs < 2 ^ 11 by omega) (Nat.pow_le_pow_right (by decide) (by decide))
    have c37 : (0 : Int) ≤ 37 ∧ (37 : Int) ≤ 1000000 ∧ (10 : Int).natAbs < 2 ^ 64 := by decide
    have c20 : (0 : Int) ≤ 20 ∧ (20 : Int) ≤ 1000000 ∧ (10 : Int).natAbs < 2 ^ 64 := by decide
    have e37 : (10 : Int) ^ (Int.toNat 37) = 10000000000000000000000000000000000000 := by decide
    have e20 : (10 : Int) ^ (Int.toNat 20) = 100000000000000000000 := by decide
    have m37 : ∀ d : Int, 0 ≤ d → d < 1000 → CMulW d ((10 : Int) ^ (Int.toNat 37)) := fun d h0 h1 => wide_mul (a := 10) (b := 140) (by omega) (by rw [e37]; decide) (by decide) (by decide) (by decide)
    have m20 : ∀ d : Int, 0 ≤ d → d < 1000 → CMulW d ((10 : Int) ^ (Int.toNat 20)) := fun d h0 h1 => wide_mul (a := 10) (b := 140) (by omega) (by rw [e20]; decide) (by decide) (by decide) (by decide)
    refine ⟨_, rfl, p, c, ns, i, l, 7, rfl, S, by omega, by omega, w9 7 (by decide) (by decide), fun d1 i1 l1 a0 a1 b0 b1 c0 => ?_⟩
    have S1 := S.to (i' := i1) (l' := l1) b0 c0 (by omega)
    refine ⟨_, rfl, p, c, ns, i1, l1, 1000, rfl, S1, by omega, by omega, w9 1000 (by decide) (by decide), fun d2 i2 l2 a2 a3 b2 b3 c2 => ?_⟩
    have S2 := S1.to (i' := i2) (l' := l2) b2 c2 (by omega)
    refine ⟨_, _, rfl, rfl, c37, _, _, rfl, rfl, m37 d2 a2 a3, _, _, rfl, rfl, ?_⟩
    refine ⟨_, rfl, p, c, ns, i2, l2, 50, rfl, S2, by omega, by omega, w9 50 (by decide) (by decide), fun d3 i3 l3 a4 a5 b4 b5 c4 => ?_⟩
    have S3 := S2.to (i' := i3) (l' := l3) b4 c4 (by omega)
    refine ⟨_, _, rfl, rfl, c20, _, _, rfl, rfl, m20 d3 a4 (by omega), (by show 4 ≤ sizeLine; decide), fun q hq => ?_⟩
    have S4 := S3.same (same_upd (o := .lst [.int d1, .int (d2 * (10 : Int) ^ (Int.toNat 37) + 1), .int 0, .int (d3 * (10 : Int) ^ (Int.toNat 20))]) hq)
    refine ⟨_, rfl, _, rfl, p, c, q, ns, i3, l3, _, rfl, S4, by omega, upd_same, by simp, by simp, fun v i4 l4 hv b6 b7 c6 => ?_⟩
    have S5 := S4.to (i' := i4) (l' := l4) b6 c6 (by omega)
    obtain ⟨z, rfl, hz⟩ : ∃ z : Int, v = .int z ∧ z.natAbs < 2 ^ 140 := by
      simp only [List.mem_cons, List.not_mem_nil, or_false, e37, e20] at hv
      rcases hv with rfl | rfl | rfl | rfl
      · exact ⟨_, rfl, by omega⟩
      · exact ⟨_, rfl, by omega⟩
      · exact ⟨_, rfl, by omega⟩
      · exact ⟨_, rfl, by omega⟩
    refine ⟨_, rfl, p, c, ns, i4, l4, 2, rfl, S5, by omega, by omega, w9 2 (by decide) (by decide), fun d5 i5 l5 a8 a9 b8 b9 c8 => ?_⟩
    have S6 := S5.to (i' := i5) (l' := l5) b8 c8 (by omega)
    have sm : PSame p H (penTo (penTo (upd (penTo (penTo (penTo H p c i1 l1) p c i2 l2) p c i3 l3) q (.lst [.int d1, .int (d2 * (10 : Int) ^ (Int.toNat 37) + 1), .int 0, .int (d3 * (10 : Int) ^ (Int.toNat 20))])) p c i4 l4) p c i5 l5) :=
      ((((PSame.pen.trans .pen).trans .pen).trans (.of (same_upd hq))).trans .pen).trans .pen
    refine ⟨rfl, _, rfl, ?_⟩
    refine ite2 (fun _ => ?_) (fun _ => ?_)
    · exact ⟨_, rfl, _, rfl, k (-z) i5 l5 _ (by rw [Int.natAbs_neg]; exact hz) S6 (by omega) sm⟩
    · exact ⟨_, rfl, k z i5 l5 _ hz S6 (by omega) sm⟩
theorem ok_low {f : Addr} {fd : FuncData} (F : Fun K "_law_lowest" "_law_lowest" s_law_lowest f fd) (T : TxtA mg) : FnOk P w K mg base CX0 1 f fd ["_law_number", "_law_over"] spLow := by
  refine F.ok sc_law_lowest (fun vs H Q E h => ?_) (fun cdv A outer s H vs Q E hr h => ?_)
  · obtain ⟨a, b, rfl, _⟩ := h
    rfl
  · obtain ⟨a, b, rfl, hb, ma, mb, k⟩ := h
    refine ⟨_, (pss_cons (ps_par (i := 2) (j := 3) rfl sc_law_lowest.nd rfl rfl (by decide) rfl rfl (pa_cons (pe_callB call_abs rfl T.f_abs (by decide +kernel) (pa_cons (pv 0) pa_nil)) (pa_cons (pe_callB call_abs rfl T.f_abs (by decide +kernel) (pa_cons (pv 1) pa_nil)) pa_nil)) (by rfl))
        (pss_cons (ps_while PassesOwn.never (pt_cmpR op_gt (pv 3) pe_int (nomark _)) (pss_one (ps_par (i := 2) (j := 3) rfl sc_law_lowest.nd rfl rfl (by decide) rfl rfl (pa_cons (pv 3) (pa_cons (pe_op op_modN (pe_callTy call_int1 rfl T.f_int (by decide +kernel) (pa_cons (pv 2) pa_nil)) (pv 3)) pa_nil)) (by rfl))))
        (pss_cons (ps_set (i := 4) sc_law_lowest.nd rfl (Or.inl rfl) (pe_ifExp (pt_cmpR op_lt (pv 1) pe_int (nomark _)) (pe_un un_neg pe_int) pe_int))
        (pss_one (ps_ret (pe_tup (pa_cons (pe_op op_fdivW (pe_op op_mulW (pv 4) (pv 0)) (pv 2)) (pa_cons (pe_op op_fdivW (pe_op op_mulW (pv 4) (pv 1)) (pv 2)) pa_nil)))))))), ?_⟩
    refine ⟨_, rfl, _, rfl, _, rfl, _, rfl, _, _, rfl, ?_⟩
    refine while_by (fun σ H' => ∃ x y : Int, σ = [some (.int a), some (.int b), some (.int x), some (.int y), none] ∧ H' = H ∧ 0 ≤ x ∧ 0 ≤ y ∧ Int.gcd x y = Int.gcd a b)
      (fun σ _ => mu3 σ) ?_ ?_ (fun σ H Q Q' hq ⟨v, hv, i, j, e1, e2, k, e3, q⟩ => ⟨v, hv, i, j, e1, e2, k, e3, hq _ _ q⟩)
    · refine ⟨(a.natAbs : Int), (b.natAbs : Int), ?_, rfl, by omega, by omega, ?_⟩
      · rw [← abs_eq a, ← abs_eq b]
        rfl
      · show Nat.gcd _ _ = Nat.gcd _ _
        rw [Int.natAbs_natCast, Int.natAbs_natCast]
    · rintro σ H' ⟨x, y, rfl, rfl, hx, hy, hg⟩
      refine ⟨_, rfl, _, _, rfl, rfl, _, rfl, ?_⟩
      refine ite2 (fun hd => ?_) (fun hd => ?_)
      · have hy0 : 0 < y := of_decide_eq_true hd
        have hm := fmod_at (a := x) (m := y) (by omega)
        have he : x.fmod y = x % y := Int.fmod_eq_emod_of_nonneg _ (by omega)
        refine ⟨_, rfl, _, rfl, .inl ⟨_, rfl, _, rfl, _, _, rfl, rfl, (by omega), _, _, rfl, ⟨y, x.fmod y, rfl, rfl, hy, hm.1, ?_⟩, ?_⟩⟩
        · rw [he, gcd_turn hx hy0, hg]
        · show (x.fmod y).toNat < y.toNat
          omega
      · have hy0 : y = 0 := by
          have : ¬ 0 < y := fun z => hd (decide_eq_true z)
          omega
        subst hy0
        have hxg : x = (Int.gcd a b : Int) := by
          rw [← hg]
          simp
          omega
        have hgp := gcd_pos (a := a) hb
        have hgl : (Int.gcd a b : Int).natAbs < 2 ^ 600 := by
          have h1 : Int.gcd a b ≤ b.natAbs := Nat.gcd_le_right _ (by omega)
          have h2 : b.natAbs < 2 ^ 600 := mb
          rw [Int.natAbs_natCast]
          omega
        rw [hxg]
        have fin : ∀ s : Int, s = sg b → s.natAbs < 2 ^ 2 → tRet (tTup (tCons (tOp (rI CDivW fun i j => .int (i / j)) (tOp (rI CMulW fun i j => .int (i * j)) (tVar 4) (tVar 0)) (tVar 2)) (tCons (tOp (rI CDivW fun i j => .int (i / j)) (tOp (rI CMulW fun i j => .int (i * j)) (tVar 4) (tVar 1)) (tVar 2)) tNil))) { nx := fun _ H' => Q .non H', rt := Q } [some (V.int a), some (V.int b), some (V.int (Int.gcd a b : Int)), some (V.int 0), some (V.int s)] H' := fun s hs hs2 => by
          refine ⟨_, rfl, _, rfl, _, _, rfl, rfl, wide_mul (a := 2) (b := 600) hs2 ma (by decide) (by decide) (by decide), _, rfl, _, _, rfl, rfl, wide_div (b := 600) hgp hgl (by decide) (by decide), ?_⟩
          refine ⟨_, rfl, _, rfl, _, _, rfl, rfl, wide_mul (a := 2) (b := 600) hs2 mb (by decide) (by decide) (by decide), _, rfl, _, _, rfl, rfl, wide_div (b := 600) hgp hgl (by decide) (by decide), (by show 2 ≤ sizeLine; decide), fun t ht => ?_⟩
          rw [hs]
          exact k t ht
        refine ⟨_, rfl, _, _, rfl, rfl, _, rfl, ?_⟩
        refine ite2 (fun hn => ?_) (fun hn => ?_)
        · have hn := of_decide_eq_true hn
          exact ⟨_, rfl, fin (-1) (by unfold sg; rw [if_pos hn]) (by decide)⟩
        · have hn : ¬ b < 0 := fun z => hn (decide_eq_true z)
          exact fin 1 (by unfold sg; rw [if_neg hn]) (by decide)
theorem ok_is {f fL : Addr} {fd fdL : FuncData} (F : Fun K "_law_is" "_law_is" s_law_is f fd) (T : TxtR K mg C CO fI) (G__law_lowest : FnOk P w K mg base CX0 1 fL fdL ["_law_number", "_law_over"] spLow) (g__law_lowest : mg "_law_lowest" = some (.ref fL))
    (kp__law_lowest : PySem.W.keepIn K (.ref fL) = true) (b__law_lowest : Binds K fdL ["_law_number", "_law_over"] []) : FnOk P w K mg base CX0 2 f fd ["_law_told", "_law_number", "_law_over"] (spIs C) := by
  refine F.ok sc_law_is (fun vs H Q E h => ?_) (fun cdv A outer s H vs Q E hr h => ?_)
  · obtain ⟨r, a, b, rfl, _⟩ := h
    rfl
  · obtain ⟨r, a, b, rfl, ⟨dx, e⟩, hb, ma, mb, k⟩ := h
    refine ⟨_, (pss_one (ps_ret (pe_and (pe_callB call_isi rfl T.f_isinstance (by decide +kernel) (pa_cons (pv 0) (pa_cons (pe_glob (v := .ref C) rfl T.mgC rfl) pa_nil))) (pe_one (pe_cmpR (op_eqD hr.units) (pe_tup (pa_cons (pe_fld (pv 0) rfl) (pa_cons (pe_fld (pv 0) rfl) pa_nil))) (pe_call G__law_lowest (hr.mono (by decide)) rfl g__law_lowest kp__law_lowest b__law_lowest .nil pass0 (pa_cons (pv 1) (pa_cons (pv 2) pa_nil))) (nomark _)))))), ?_⟩
    refine ⟨_, rfl, _, _, _, _, true, rfl, .own C, .base (.ins e T.cl T.ca T.cn T.ct T.cm), T.k1, _, rfl, iteT ?_⟩
    refine ⟨_, rfl, r, C, dx, _, _, rfl, e, T.cl, T.nN, fl_n _ _, _, rfl, r, C, dx, _, _, rfl, e, T.cl, T.nO, fl_o _ _, (by show 2 ≤ sizeLine; decide), fun t ht => ?_⟩
    refine ⟨_, rfl, _, rfl, a, b, rfl, hb, ma, mb, fun t2 ht2 => ?_⟩
    have hne : t ≠ t2 := fun z => by rw [← z, upd_same] at ht2; cases ht2
    refine ⟨.tuple [.int (lowN a b), .int (lowO a b)], .tuple [.int (lowN a b), .int (lowO a b)], .tup (SqT.of (by rw [upd_ne hne]; exact upd_same)) (.cons (.int _) (.cons (.int _) .nil)), .tup (SqT.of upd_same) (.cons (.int _) (.cons (.int _) .nil)), ?_, ?_, ?_⟩
    · rfl
    · rfl
    · have ev : PyData.eqv (.tuple [.int (lowN a b), .int (lowO a b)]) (.tuple [.int (lowN a b), .int (lowO a b)]) = true := SeqAt.eqv_refl _ rfl
      rw [ev]
      exact k _ ((same_upd ht).trans (same_upd ht2))
end
end Wk

namespace Wk
open PySem L2 NumR
abbrev s_law_bad : Stmt := top 14
theorem sc_law_bad : FnScope ["_law_call", "_law_told", "e"] ["_law_call"] (defScope s_law_bad) := ⟨rfl, rfl, rfl, by decide +kernel, rfl, by decide +kernel, by decide +kernel⟩
abbrev s_law_pair : Stmt := top 15
theorem sc_law_pair : FnScope ["_law_one", "_law_other", "_law_a", "_law_b", "_law_c", "_law_d", "_law_lesser", "_law_refused"] ["_law_one", "_law_other", "_law_a", "_law_b", "_law_c", "_law_d"] (defScope s_law_pair) := ⟨rfl, rfl, rfl, by decide +kernel, rfl, by decide +kernel, by decide +kernel⟩

theorem takes_len {X : Cx} {W : WX} (t : Takes X W) : Takes X (fun c d σ H => σ.length = X.N.length → W c d σ H) := fun u s' ⟨a, B, sI, pins, σ, H, cls, d, e, I, nb, up, sky, na, os, ag, w⟩ =>
  t u s' ⟨a, B, sI, pins, σ, H, cls, d, e, I, nb, up, sky, na, os, ag, w I.len⟩
/-- the call raises the error -/
def TTbad (CO : Addr) : (XK → Hp → VK → Prop) → Hp → VK → Prop := fun tl H Q => tl (fun cls d H' => cls = .ref CO ∧ d = none ∧ Q (.bl true) H') H (fun _ H' => ∃ v, (some (some (V.bl false)) : Option (Option V)) = some (some v) ∧ Q v H')
theorem pss_given {X : Cx} {st : List Stmt} {t : TS} {A : Prop} (h : A → PSs X st t) : PSs X st (fun D σ H => A ∧ t D σ H) := ⟨fun pins s σ H D I q => (h q.1).run pins s σ H D I q.2⟩
structure TxtB (K : PySem.W.Frag) (mg : Str → Option Value) (CO CS : Addr) : Prop where
  gO : mg "BadOver" = some (.ref CO)
  gS : mg "SumsError" = some (.ref CS)
  f_isinstance : mg "isinstance" = none
  ex : ExcC K CO
  te : PySem.W.exmOne K (.ref CO) (.ref CO) = some true
  kS : PySem.W.kitOne K (.ref CO) (.ref CS) = some true
theorem bad_gives {X : Cx} {g CO CS : Addr} {cdg : Value} {q : Str} (T : TxtB X.K X.mg CO CS) : LamX.GivesTo X ["_law_call", "_law_told", "e"] "_law_bad" (defScope s_law_bad) g cdg (defBody s_law_bad) "_law_call" q (TTbad CO) := by
  intro f c' s H Q tl act hc h
  refine ⟨_, pss_cons (ps_set (i := 1) sc_law_bad.nd rfl (Or.inl rfl) pe_bl) (pss_cons (ps_try_as (i := 2) (c := .ref CO)
      (tb := fun W D σ H => ∃ Ech : XK, (∀ cls d σ' H', Ech cls d H' → σ'.length = 3 → W cls d σ' H') ∧ σ[0]? = some (some (.ref f)) ∧ H c' = some (LamX.CodeO c' q) ∧ tl Ech H (fun _ H' => D.nx σ H'))
      (ts := fun a cls d D σ H => (cls = .ref CO ∧ d = none) ∧ tAsg (tCB (rIsE X.K CO a) (tCons (tVar 2) (tCons (tC (.ref CS)) tNil))) (gName 1) D σ H)
      (Wout := fun _ _ _ _ => False) rfl rfl sc_law_bad.nd rfl rfl ⟨rfl, by decide, .inl T.gO⟩ takes0 (fun W pn xe tk _ => ?body) (fun a oe cls d pn hz hf => ?suite)) (pss_one (ps_ret (pv 1)))), ?_⟩
  case body =>
    refine ⟨fun pins s' σ H' D I h' => ?_⟩
    obtain ⟨Ech, hW, h1, h2, h3⟩ := h'
    have hp := fun p1 p2 => act (fun cls d σ' H' => σ'.length = 3 → W cls d σ' H') pn xe Ech p1 p2 (takes_len tk) (fun cls d σ' H' e => hW cls d σ' H' e)
    exact (pss_one (ps_expr (hp _ _))).run pins s' σ H' D I ⟨h1, h2, h3⟩
  case suite =>
    refine pss_given fun e => ?_
    obtain ⟨rfl, rfl⟩ := e
    exact pss_one (ps_set (i := 1) sc_law_bad.nd rfl (Or.inl rfl) (pe_callB (call_isE T.ex hz hf) rfl T.f_isinstance (by decide +kernel) (pa_cons (pv 2) (pa_cons (pe_glob (v := .ref CS) rfl T.gS rfl) pa_nil))))
  · refine ⟨fun cls d H' => cls = .ref CO ∧ d = none ∧ Q (.bl true) H', ?_, rfl, hc, ?_⟩
    · rintro cls d σ' H' ⟨rfl, rfl, hq⟩ hl
      obtain ⟨x0, x1, x2, rfl⟩ : ∃ x0 x1 x2, σ' = [x0, x1, x2] := by
        match σ', hl with
        | [x0, x1, x2], _ => exact ⟨x0, x1, x2, rfl⟩
      refine ⟨true, T.te, fun _ a ha => ⟨⟨rfl, rfl⟩, _, rfl, _, _, true, rfl, (fun u e => e), T.kS, ?_⟩, fun z => Bool.noConfusion z⟩
      exact ⟨_, rfl, hq⟩
    · exact h
theorem RatAt.cast {C : Addr} {H : Hp} {p : Addr} {n o n' o' : Int} (h : RatAt C H p n o) (e1 : n = n') (e2 : o = o') : RatAt C H p n' o' := by
  subst e1 e2
  exact h
theorem RatAt.ext {C : Addr} {H H' : Hp} {p : Addr} {n o : Int} (h : RatAt C H p n o) (s : LamX.ExtN H H') : RatAt C H' p n o := by
  obtain ⟨dx, e⟩ := h
  exact ⟨dx, s _ _ e fun ps z => by cases z⟩
theorem cmB {x y : Int} {k l : Nat} (h : Bd k x) (h' : Bd l y) (h0 : 0 < k := by decide) (h1 : 0 < l := by decide) (h2 : k + l ≤ 1000000 := by decide) : CMulW x y := wide_mul h h' h0 h1 h2
theorem mid {x : Int} {k : Nat} (h : Bd k x) (hk : k ≤ 600 := by decide) : Mid x := h.mono hk
theorem small_N {a b : Int} (hb : b ≠ 0) (h : Bd 140 a) : Small (lowN a b) := Nat.lt_of_le_of_lt (lowN_le hb) (Nat.lt_of_lt_of_le h (Nat.pow_le_pow_right (by decide) (by decide)))
theorem small_O {a b : Int} (hb : b ≠ 0) (h : Bd 80 b) : Small (lowO a b) := Nat.lt_of_le_of_lt (lowO_le hb) (Nat.lt_of_lt_of_le h (Nat.pow_le_pow_right (by decide) (by decide)))
/-- a name of the top that is called, with its promise -/
structure Dn (P : Program) (w : World) (K : PySem.W.Frag) (mg : Str → Option Value) (base : Heap) (CX : CXT) (k : Nat) (x : Str) (ps : List Str) (sp : Sp) : Prop where
  ex : ∃ (f : Addr) (fd : FuncData), FnOk P w K mg base CX k f fd ps sp ∧ mg x = some (.ref f) ∧ PySem.W.keepIn K (.ref f) = true ∧ Binds K fd ps []
/-- _law_bad as it stands -/
structure BadAt (K : PySem.W.Frag) (mg : Str → Option Value) : Prop where
  ex : ∃ (gB : Addr) (oc : Value) (od : Option Addr) (dV kV doc pm : Value) (an : Option Addr) (cdv ct : Value) (osl : Array (Option Value)), mg "_law_bad" = some (.ref gB) ∧ PySem.W.keepIn K (.ref gB) = true ∧
    K.lookup gB = some ⟨oc, od, .func (PySem.W.fnOf "_law_bad" "_law_bad" (defArgs s_law_bad) (defBody s_law_bad) (defScope s_law_bad) dV kV doc pm an cdv ct), osl⟩ ∧ PySem.W.codeIn K cdv "_law_bad" = true ∧
    Binds K (PySem.W.fnOf "_law_bad" "_law_bad" (defArgs s_law_bad) (defBody s_law_bad) (defScope s_law_bad) dV kV doc pm an cdv ct) ["_law_call"] []
def lamQ (x : Str) : Str := x ++ ".<locals>." ++ "<lambda>"
/-- a fraction handed to the law's own: a / b -/
structure Frc (C : Addr) (H : Hp) (p : Addr) (a b : Int) : Prop where
  at_ : RatAt C H p (lowN a b) (lowO a b)
  nz : b ≠ 0
  ba : Bd 140 a
  bb : Bd 80 b
theorem Frc.same {C : Addr} {H H' : Hp} {p : Addr} {a b : Int} (h : Frc C H p a b) (s : Same H H') : Frc C H' p a b := ⟨h.at_.same s, h.nz, h.ba, h.bb⟩
theorem Frc.ext {C : Addr} {H H' : Hp} {p : Addr} {a b : Int} (h : Frc C H p a b) (s : LamX.ExtN H H') : Frc C H' p a b := ⟨h.at_.ext s, h.nz, h.ba, h.bb⟩
theorem Frc.low {C : Addr} {H : Hp} {p : Addr} {a b : Int} (h : Frc C H p a b) : Low a b (lowN a b) (lowO a b) := low_is h.nz
theorem Frc.num {C : Addr} {H : Hp} {p : Addr} {a b : Int} (h : Frc C H p a b) : NumAt C H (.ref p) (lowN a b) (lowO a b) := .inl ⟨p, rfl, h.at_⟩
theorem Frc.smalls {C : Addr} {H : Hp} {p q : Addr} {a b c d : Int} (h : Frc C H p a b) (h2 : Frc C H q c d) : Small (lowN a b) ∧ Small (lowO a b) ∧ Small (lowN c d) ∧ Small (lowO c d) := ⟨small_N h.nz h.ba, small_O h.nz h.bb, small_N h2.nz h2.ba, small_O h2.nz h2.bb⟩
theorem Frc.oo {C : Addr} {H : Hp} {p q : Addr} {a b c d : Int} (h : Frc C H p a b) (h2 : Frc C H q c d) : lowO a b * lowO c d ≠ 0 := by
  have h1 := h.low.pos
  have h3 := h2.low.pos
  have := Int.mul_pos h1 h3
  omega
theorem mul_nz {b d : Int} (hb : b ≠ 0) (hd : d ≠ 0) : b * d ≠ 0 := fun z => by
  rcases Int.mul_eq_zero.mp z with z | z
  · exact hb z
  · exact hd z
def spPair (C : Addr) (Tb : List (Addr × Str)) : Sp := fun vs H Q _ => ∃ (p q : Addr) (a b c d : Int), vs = [.ref p, .ref q, .int a, .int b, .int c, .int d] ∧ Frc C H p a b ∧ Frc C H q c d ∧ LamX.Tabs Tb H ∧
  ∀ H', LamX.ExtN H H' → LamX.Tabs Tb H' → Q (.bl true) H'
section
variable {P : Program} {w : World} {K : PySem.W.Frag} {mg : Str → Option Value} {base : Heap} {C CO CS fI : Addr} {g : Nat → Addr}
/-- all that the law's own lean on -/
structure Env1 (P : Program) (w : World) (K : PySem.W.Frag) (mg : Str → Option Value) (base : Heap) (C CO CS fI : Addr) (g : Nat → Addr) : Prop where
  T : TxtR K mg C CO fI
  TB : TxtB K mg CO CS
  O : Ops P w K mg base C g
  FEq : FnR P w K mg base CX0 1 (g 9) (spEq C)
  FAbs : FnR P w K mg base CX0 3 (g 8) (spOne C fun n => if n < 0 then -n else n)
  FLess : FnR P w K mg base CX0 2 (g 10) (spLess C)
  FDiv : FnR P w K mg base (L2.CX P w) 3 (g 11) (spDiv C CO)
  dIs : Dn P w K mg base CX0 2 "_law_is" ["_law_told", "_law_number", "_law_over"] (spIs C)
  bad : BadAt K mg
theorem ok_pair {f c Pt : Addr} {Tb : List (Addr × Str)} {oc : Value} {od an : Option Addr} {dV kV doc pm ct : Value} {osl : Array (Option Value)} (V : Env1 P w K mg base C CO CS fI g)
    (lk : K.lookup f = some ⟨oc, od, .func (PySem.W.fnOf "_law_pair" "_law_pair" (defArgs s_law_pair) (defBody s_law_pair) (defScope s_law_pair) dV kV doc pm an (.ref c) ct), osl⟩) (hcd : PySem.W.codeIn K (.ref c) "_law_pair" = true)
    (TBL : LamX.TabB base mg c Pt) (hmT : (Pt, lamQ "_law_pair") ∈ Tb) (hu : ∀ p ∈ Tb, p.1 = Pt → p.2 = lamQ "_law_pair") :
    FnOk P w K mg base CX0 6 f (PySem.W.fnOf "_law_pair" "_law_pair" (defArgs s_law_pair) (defBody s_law_pair) (defScope s_law_pair) dV kV doc pm an (.ref c) ct) ["_law_one", "_law_other", "_law_a", "_law_b", "_law_c", "_law_d"] (spPair C Tb) := by
  obtain ⟨T, TB, O, FEq, FAbs, FLess, FDiv, dIs, bad⟩ := V
  have OT := O.t
  obtain ⟨fIs, fdIs, G__law_is, g__law_is, kp__law_is, b__law_is⟩ := dIs.ex
  obtain ⟨gBd, ocB, odB, dVB, kVB, docB, pmB, anB, cdvB, ctB, oslB, gB, kB, lkB, hcB, bB⟩ := bad.ex
  refine fn_of lk hcd sc_law_pair (fun vs H Q E h => ?_) (fun A outer s H vs Q E hr h => ?_)
  · obtain ⟨p, q, a, b, c', d, rfl, _⟩ := h
    rfl
  · obtain ⟨p, q, a, b, c', d, rfl, h1, h2, hT, k⟩ := h
    refine ⟨_, PSs.nox ((pss_cons (ps_if (PW.pt (pw_or (pt_not (pt_val (pe_call G__law_is (hr.mono (by decide)) rfl g__law_is kp__law_is b__law_is .nil pass0 (pa_cons (pv 0) (pa_cons (pv 2) (pa_cons (pv 3) pa_nil)))))) (pw_or1 (pt_not (pt_val (pe_call G__law_is (hr.mono (by decide)) rfl g__law_is kp__law_is b__law_is .nil pass0 (pa_cons (pe_op (O.add (hr.mono (by decide)) pass0) (pv 0) (pv 1)) (pa_cons (pe_op op_add (pe_op op_mulW (pv 2) (pv 5)) (pe_op op_mulW (pv 4) (pv 3))) (pa_cons (pe_op op_mulW (pv 3) (pv 5)) pa_nil))))))))) (pss_one (ps_ret pe_bl)) pss_nil)
        (pss_cons (ps_if (PW.pt (pw_or (pt_not (pt_val (pe_call G__law_is (hr.mono (by decide)) rfl g__law_is kp__law_is b__law_is .nil pass0 (pa_cons (pe_op (O.sub (hr.mono (by decide)) pass0) (pv 0) (pv 1)) (pa_cons (pe_op op_sub (pe_op op_mulW (pv 2) (pv 5)) (pe_op op_mulW (pv 4) (pv 3))) (pa_cons (pe_op op_mulW (pv 3) (pv 5)) pa_nil)))))) (pw_or1 (pt_not (pt_val (pe_call G__law_is (hr.mono (by decide)) rfl g__law_is kp__law_is b__law_is .nil pass0 (pa_cons (pe_op (O.mul (hr.mono (by decide)) pass0) (pv 0) (pv 1)) (pa_cons (pe_op op_mulW (pv 2) (pv 4)) (pa_cons (pe_op op_mulW (pv 3) (pv 5)) pa_nil))))))))) (pss_one (ps_ret pe_bl)) pss_nil)
        (pss_cons (ps_if (PW.pt (pw_or (pt_not (pt_val (pe_call G__law_is (hr.mono (by decide)) rfl g__law_is kp__law_is b__law_is .nil pass0 (pa_cons (pe_un (O.neg (hr.mono (by decide)) pass0) (pv 0)) (pa_cons (pe_un un_neg (pv 2)) (pa_cons (pv 3) pa_nil)))))) (pw_or (pt_not (pt_val (pe_call G__law_is (hr.mono (by decide)) rfl g__law_is kp__law_is b__law_is .nil pass0 (pa_cons (pe_callB (call_absO OT.m8 FAbs (hr.mono (by decide)) pass0) rfl T.f_abs (by decide +kernel) (pa_cons (pv 0) pa_nil)) (pa_cons (pe_callB call_abs rfl T.f_abs (by decide +kernel) (pa_cons (pv 2) pa_nil)) (pa_cons (pe_callB call_abs rfl T.f_abs (by decide +kernel) (pa_cons (pv 3) pa_nil)) pa_nil)))))) (pw_or1 (pt_cmpR op_ne (pe_cmpR (op_eqO OT.m9 OT.s1 FEq (hr.mono (by decide)) pass0) (pv 0) (pv 1) (nomark _)) (pe_cmpR op_eq (pe_op op_mulW (pv 2) (pv 5)) (pe_op op_mulW (pv 4) (pv 3)) (nomark _)) (nomark _)))))) (pss_one (ps_ret pe_bl)) pss_nil)
        (pss_cons (ps_set (i := 6) sc_law_pair.nd rfl (Or.inl rfl) (pe_cmpR op_lt (pe_op op_mulW (pe_op op_mulW (pe_op op_mulW (pv 2) (pv 3)) (pv 5)) (pv 5)) (pe_op op_mulW (pe_op op_mulW (pe_op op_mulW (pv 4) (pv 5)) (pv 3)) (pv 3)) (nomark _)))
        (pss_cons (ps_if (PW.pt (pw_or (PW.pt (pw_and (pt_cmpR op_notBl (pe_methR (pv 0) T.cl OT.m10 FLess (hr.mono (by decide)) pass0 (pa_cons (pv 1) pa_nil)) pe_bl (nomark _)) (pw_and1 (pt_val (pv 6))))) (pw_or1 (PW.pt (pw_and (pt_cmpR op_notBl (pe_methR (pv 0) T.cl OT.m10 FLess (hr.mono (by decide)) pass0 (pa_cons (pv 1) pa_nil)) pe_bl (nomark _)) (pw_and1 (pt_not (pt_val (pv 6))))))))) (pss_one (ps_ret pe_bl)) pss_nil)
        (pss_cons (ps_if (pt_cmpR op_eq (pv 4) pe_int (nomark _)) (pss_cons (ps_set (i := 7) sc_law_pair.nd rfl (Or.inl rfl) (LamX.pe_lamcall (k := 3) (T := Tb) (TT := TTbad CO) (c := c) (P := Pt) (t := fun E => tMethR C "divided" (spDiv C CO) E (tVar 0) (tCons (tVar 1) tNil)) rfl gB kB lkB hcB bB sc_law_bad rfl (Or.inl rfl) (bad_gives TB) TBL rfl hmT hu (hr.mono (by decide)) (LamX.lamS_by (sc := defScope s_law_pair) (by decide +kernel)) rfl (fun _ _ _ _ _ => rfl) (fun A outer s H E f c2 hr2 => pe_methR (pv 0) T.cl OT.m11 FDiv (hr2.mono (by decide)) (passes_call (takes_of rfl rfl rfl rfl) fun _ _ _ _ h => h) (pa_cons (pv 1) pa_nil))))
        (pss_one (ps_ret (pe_and (pv 7) (pe_one (LamX.pe_lamcall (k := 3) (T := Tb) (TT := TTbad CO) (c := c) (P := Pt) (t := fun E => tMethR C "divided" (spDiv C CO) E (tVar 0) (tCons (tC (.int 0)) tNil)) rfl gB kB lkB hcB bB sc_law_bad rfl (Or.inl rfl) (bad_gives TB) TBL rfl hmT hu (hr.mono (by decide)) (LamX.lamS_by (sc := defScope s_law_pair) (by decide +kernel)) rfl (fun _ _ _ _ _ => rfl) (fun A outer s H E f c2 hr2 => pe_methR (pv 0) T.cl OT.m11 FDiv (hr2.mono (by decide)) (passes_call (takes_of rfl rfl rfl rfl) fun _ _ _ _ h => h) (pa_cons pe_int pa_nil)))))))) pss_nil)
        (pss_one (ps_ret (pe_call G__law_is (hr.mono (by decide)) rfl g__law_is kp__law_is b__law_is .nil pass0 (pa_cons (pe_methR (pv 0) T.cl OT.m11 FDiv (hr.mono (by decide)) passL (pa_cons (pv 1) pa_nil)) (pa_cons (pe_op op_mulW (pv 2) (pv 5)) (pa_cons (pe_op op_mulW (pv 3) (pv 4)) pa_nil))))))))))))), ?_⟩
    have hb := h1.nz
    have hd := h2.nz
    have A1 := h1.ba
    have B1 := h1.bb
    have C1 := h2.ba
    have D1 := h2.bb
    have L1 := h1.low
    have L2' := h2.low
    have hbd := mul_nz hb hd
    have hOO := h1.oo h2
    have ad := A1.mul D1
    have cb := C1.mul B1
    have bd := B1.mul D1
    have eAdd := low_congr hOO hbd (add_ok L1 L2')
    have eSub := low_congr hOO hbd (sub_ok L1 L2')
    have eMul := low_congr hOO hbd (mul_ok L1 L2')
    have ho1 : lowO a b ≠ 0 := by have := L1.pos; omega
    have eNeg := low_congr (a := -lowN a b) (a' := -a) ho1 hb (by have := L1.eq; grind)
    -- is one; the sum
    refine ⟨_, rfl, _, rfl, _, rfl, p, a, b, rfl, h1.at_, hb, mid A1, mid B1, fun H1 S1 => ⟨_, rfl, iteF ?_⟩⟩
    have f1 := h1.same S1
    have f2 := h2.same S1
    refine ⟨_, rfl, _, rfl, f1.at_.ins, .inl f2.at_.ins, p, .ref q, _, _, _, _, rfl, f1.at_, f2.num, f1.smalls f2, hOO, fun r H2 S2 hr => ?_⟩
    refine ⟨_, rfl, _, rfl, _, _, rfl, rfl, cmB A1 D1, _, rfl, _, rfl, _, _, rfl, rfl, cmB C1 B1, _, _, rfl, rfl, _, rfl, _, rfl, _, _, rfl, rfl, cmB B1 D1, r, _, _, rfl, hr.cast eAdd.1 eAdd.2, hbd, mid (ad.add cb), mid bd, fun H3 S3 => ⟨_, rfl, iteF ?_⟩⟩
    have S := (S1.trans S2).trans S3
    clear hr S1 S2 S3 f1 f2
    -- the difference, the product
    have f1 := h1.same S
    have f2 := h2.same S
    refine ⟨_, rfl, _, rfl, f1.at_.ins, .inl f2.at_.ins, p, .ref q, _, _, _, _, rfl, f1.at_, f2.num, f1.smalls f2, hOO, fun r H4 S4 hr => ?_⟩
    refine ⟨_, rfl, _, rfl, _, _, rfl, rfl, cmB A1 D1, _, rfl, _, rfl, _, _, rfl, rfl, cmB C1 B1, _, _, rfl, rfl, _, rfl, _, rfl, _, _, rfl, rfl, cmB B1 D1, r, _, _, rfl, hr.cast eSub.1 eSub.2, hbd, mid (ad.sub cb), mid bd, fun H5 S5 => ⟨_, rfl, iteF ?_⟩⟩
    have S := (S.trans S4).trans S5
    clear hr S4 S5 f1 f2
    have f1 := h1.same S
    have f2 := h2.same S
    refine ⟨_, rfl, _, rfl, f1.at_.ins, .inl f2.at_.ins, p, .ref q, _, _, _, _, rfl, f1.at_, f2.num, f1.smalls f2, hOO, fun r H6 S6 hr => ?_⟩
    refine ⟨_, rfl, _, rfl, _, _, rfl, rfl, cmB A1 C1, _, rfl, _, rfl, _, _, rfl, rfl, cmB B1 D1, r, _, _, rfl, hr.cast eMul.1 eMul.2, hbd, mid (A1.mul C1), mid bd, fun H7 S7 => ⟨_, rfl, iteF ?_⟩⟩
    have S := (S.trans S6).trans S7
    clear hr S6 S7 f1 f2
    -- -one, abs(one), ==
    have f1 := h1.same S
    have f2 := h2.same S
    have sm := f1.smalls f2
    refine ⟨_, rfl, f1.at_.ins, p, _, _, rfl, f1.at_, ⟨sm.1, sm.2.1⟩, ho1, fun r H8 S8 hr => ?_⟩
    refine ⟨_, rfl, _, rfl, _, rfl, r, _, _, rfl, hr.cast eNeg.1 eNeg.2, hb, mid A1.neg, mid B1, fun H9 S9 => ⟨_, rfl, iteF ?_⟩⟩
    have S := (S.trans S8).trans S9
    clear hr S8 S9 f1 f2
    have f1 := h1.same S
    have f2 := h2.same S
    have hab : (if b < 0 then -b else b) ≠ 0 := by split <;> omega
    have aA : Bd 140 (if a < 0 then -a else a) := by split <;> first | exact A1.neg | exact A1
    have aB : Bd 80 (if b < 0 then -b else b) := by split <;> first | exact B1.neg | exact B1
    have eAbs := low_congr (a := if lowN a b < 0 then -lowN a b else lowN a b) (a' := if a < 0 then -a else a) ho1 hab (by rw [abs_eq, abs_eq, abs_eq]; exact abs_ok L1)
    refine ⟨_, rfl, _, rfl, f1.at_.ins, p, _, _, rfl, f1.at_, ⟨sm.1, sm.2.1⟩, ho1, fun r H10 S10 hr => ?_⟩
    refine ⟨_, rfl, _, rfl, _, rfl, _, rfl, r, _, _, rfl, hr.cast eAbs.1 eAbs.2, hab, mid aA, mid aB, fun H11 S11 => ⟨_, rfl, iteF ?_⟩⟩
    have S := (S.trans S10).trans S11
    clear hr S10 S11 f1 f2
    have f1 := h1.same S
    have f2 := h2.same S
    refine ⟨_, rfl, _, rfl, f1.at_.ins, .inl f2.at_.ins, p, .ref q, _, _, rfl, f1.at_, .inl ⟨q, _, _, rfl, f2.at_, ?_⟩⟩
    refine ⟨_, rfl, _, rfl, _, _, rfl, rfl, cmB A1 D1, _, rfl, _, rfl, _, _, rfl, rfl, cmB C1 B1, rfl, rfl, _, rfl, iteNS ?_ ?_⟩
    · have e : (lowN a b = lowN c' d ∧ lowO a b = lowO c' d) ↔ V.int (a * d) = V.int (c' * b) := by
        rw [low_iff hb hd]
        exact ⟨fun z => by rw [z], fun z => by injection z⟩
      rw [decide_eq_decide.mpr e]
    -- lesser
    refine ⟨_, rfl, _, rfl, _, _, rfl, rfl, cmB A1 B1, _, rfl, _, _, rfl, rfl, cmB (A1.mul B1) D1, _, rfl, _, _, rfl, rfl, cmB ((A1.mul B1).mul D1) D1, _, rfl, _, rfl, _, _, rfl, rfl, cmB C1 D1, _, rfl, _, _, rfl, rfl, cmB (C1.mul D1) B1, _, rfl, _, _, rfl, rfl, cmB ((C1.mul D1).mul B1) B1, _, _, rfl, rfl, ?_⟩
    have hl := less_ok L1 L2' hb hd
    obtain ⟨lv, hlv⟩ : ∃ lv, decide (a * b * d * d < c' * d * b * b) = lv := ⟨_, rfl⟩
    have hlv2 : lv = true ↔ lowN a b * lowO c' d < lowN c' d * lowO a b := by rw [← hlv, decide_eq_true_iff]; exact hl.symm
    show tSeq _ _ _ [some (V.ref p), some (V.ref q), some (V.int a), some (V.int b), some (V.int c'), some (V.int d), some (V.bl (decide (a * b * d * d < c' * d * b * b))), none] _
    rw [hlv]
    obtain ⟨dx1, e1⟩ := f1.at_
    have kd : (fl (lowN a b) (lowO a b)).lookup ("is_less" : Str) = none := fl_no _ _ (by decide +kernel) (by decide +kernel)
    have kv : (fl (lowN a b) (lowO a b)).lookup ("divided" : Str) = none := fl_no _ _ (by decide +kernel) (by decide +kernel)
    refine ⟨_, rfl, p, dx1, _, rfl, e1, kd, _, rfl, p, .ref q, _, _, _, _, rfl, f1.at_, f2.num, sm, fun k1 H12 hk1 S12 => ?_⟩
    have ek1 : k1 = lv := by rw [Bool.eq_iff_iff, hk1, hlv2]
    subst ek1
    have S := S.trans S12
    have f1 := h1.same S
    have f2 := h2.same S
    obtain ⟨dx2, e2⟩ := f1.at_
    refine ⟨k1, true, rfl, rfl, _, rfl, ?_⟩
    rcases (show k1 = true ∨ k1 = false by cases k1 <;> simp) with rfl | rfl
    refine iteF (iteF ?_)
    refine ⟨_, rfl, p, dx2, _, rfl, e2, kd, _, rfl, p, .ref q, _, _, _, _, rfl, f1.at_, f2.num, sm, fun k2 H13 hk2 S13 => ?_⟩
    have ek2 : k2 = true := by rw [Bool.eq_iff_iff, hk2, ← hlv2]
    subst ek2
    refine ⟨_, _, rfl, rfl, _, rfl, iteT ⟨_, rfl, _, rfl, iteF ?_⟩⟩
    rotate_left
    refine iteT ⟨_, rfl, _, rfl, iteF ?_⟩
    refine ⟨_, rfl, p, dx2, _, rfl, e2, kd, _, rfl, p, .ref q, _, _, _, _, rfl, f1.at_, f2.num, sm, fun k2 H13 hk2 S13 => ?_⟩
    have ek2 : k2 = false := by rw [Bool.eq_iff_iff, hk2, ← hlv2]
    subst ek2
    refine ⟨_, _, rfl, rfl, _, rfl, iteF (iteF ?_)⟩
    all_goals
      have S := S.trans S13
      have f1 := h1.same S
      have f2 := h2.same S
      have hT := hT.ext S
      obtain ⟨dx3, e3⟩ := f1.at_
      -- if c == 0
      refine ⟨_, rfl, rfl, _, rfl, ?_⟩
      refine ite2 (fun hz => ?_) (fun hz => ?_)
      · have hc0 : c' = 0 := by injection of_decide_eq_true hz
        have hn0 : lowN c' d = 0 := (low_zero hd).mpr hc0
        refine ⟨hT, fun H14 X14 T14 => ?_⟩
        have g1 := f1.ext X14
        have g2 := f2.ext X14
        obtain ⟨dx4, e4⟩ := g1.at_
        refine ⟨_, rfl, p, dx4, _, rfl, e4, kv, _, rfl, p, .ref q, _, _, _, _, rfl, g1.at_, g2.num, sm, fun _ H15 S15 => ⟨rfl, rfl, ?_⟩, fun z => absurd (by rw [hn0]; simp) z⟩
        refine ⟨_, rfl, _, rfl, iteT ⟨T14.ext S15, fun H16 X16 T16 => ?_⟩⟩
        have g1 := (g1.same S15).ext X16
        obtain ⟨dx5, e5⟩ := g1.at_
        refine ⟨_, rfl, p, dx5, _, rfl, e5, kv, p, .int 0, _, _, 0, 1, rfl, g1.at_, .inr ⟨rfl, rfl⟩, ⟨sm.1, sm.2.1, by show (0 : Int).natAbs < 2 ^ 250; decide, by show (1 : Int).natAbs < 2 ^ 250; decide⟩, fun _ H17 S17 => ⟨rfl, rfl, ?_⟩, fun z => absurd (by simp) z⟩
        exact k H17 ((((LamX.ExtN.of S).trans X14).trans (.of S15)).trans (X16.trans (.of S17))) (T16.ext S17)
      · have hc0 : c' ≠ 0 := fun z => hz (by rw [z]; exact decide_eq_true rfl)
        have hn0 : lowN c' d ≠ 0 := fun z => hc0 ((low_zero hd).mp z)
        have hon := mul_nz ho1 hn0
        have hbc := mul_nz hb hc0
        have eDiv := low_congr hon hbc (div_ok L1 L2')
        refine ⟨_, rfl, p, dx3, _, rfl, e3, kv, _, rfl, p, .ref q, _, _, _, _, rfl, f1.at_, f2.num, sm, fun z => absurd z hon, fun _ r H14 S14 hr => ?_⟩
        refine ⟨_, rfl, _, rfl, _, _, rfl, rfl, cmB A1 D1, _, rfl, _, rfl, _, _, rfl, rfl, cmB B1 C1, r, _, _, rfl, hr.cast eDiv.1 eDiv.2, hbc, mid ad, mid (B1.mul C1), fun H15 S15 => ?_⟩
        have S2 := (S.trans S14).trans S15
        exact k H15 (.of S2) ((hT.ext S14).ext S15)
end
end Wk

namespace Wk
open PySem L2 NumR
abbrev s_law_whole : Stmt := top 16
theorem sc_law_whole : FnScope ["_law_one", "_law_a", "_law_b", "_law_n", "_law_told", "_law_due", "_law_lesser", "_law_at"] ["_law_one", "_law_a", "_law_b", "_law_n"] (defScope s_law_whole) := ⟨rfl, rfl, rfl, by decide +kernel, rfl, by decide +kernel, by decide +kernel⟩

/-- the reflected operators -/
structure OpsR (P : Program) (w : World) (K : PySem.W.Frag) (mg : Str → Option Value) (base : Heap) (C : Addr) (g : Nat → Addr) : Prop where
  t : OpT K C g
  f4 : FnR P w K mg base CX0 4 (g 4) (spBin C aN dO)
  f5 : FnR P w K mg base CX0 4 (g 5) (spRsub C)
  f6 : FnR P w K mg base CX0 4 (g 6) (spBin C mN dO)
section
variable {X : Cx} {C : Addr} {g : Nat → Addr} {E : XK}
theorem OpsR.add (O : OpsR X.prog X.w X.K X.mg X.base C g) (hr : Room 4 X.A) (hx : Passes CX0 X E) : OpR X (binaryOp .Add) (rRevB C (spBin C aN dO) E) := op_revB (op := .Add) rfl Ru.intNo_add O.t.first (dn1 ▸ O.t.m1) (dn4 ▸ O.t.m4) O.t.s2 O.f4 hr hx
theorem OpsR.sub (O : OpsR X.prog X.w X.K X.mg X.base C g) (hr : Room 4 X.A) (hx : Passes CX0 X E) : OpR X (binaryOp .Sub) (rRevB C (spRsub C) E) := op_revB (op := .Sub) rfl Ru.intNo_sub O.t.first (dn2 ▸ O.t.m2) (dn5 ▸ O.t.m5) O.t.s2 O.f5 hr hx
theorem OpsR.mul (O : OpsR X.prog X.w X.K X.mg X.base C g) (hr : Room 4 X.A) (hx : Passes CX0 X E) : OpR X (binaryOp .Mult) (rRevB C (spBin C mN dO) E) := op_revB (op := .Mult) rfl Ru.intNo_mul O.t.first (dn3 ▸ O.t.m3) (dn6 ▸ O.t.m6) O.t.s2 O.f6 hr hx
end
def spWhole (C : Addr) (Tb : List (Addr × Str)) : Sp := fun vs H Q _ => ∃ (p : Addr) (a b n : Int), vs = [.ref p, .int a, .int b, .int n] ∧ Frc C H p a b ∧ Bd 140 n ∧ LamX.Tabs Tb H ∧
  ∀ H', LamX.ExtN H H' → LamX.Tabs Tb H' → Q (.bl true) H'
theorem small_i {n : Int} (h : Bd 140 n) : Small n := Nat.lt_of_lt_of_le h (Nat.pow_le_pow_right (by decide) (by decide))
theorem small_1 : Small 1 := by show (1 : Int).natAbs < 2 ^ 250; decide
section
variable {P : Program} {w : World} {K : PySem.W.Frag} {mg : Str → Option Value} {base : Heap} {C CO CS fI : Addr} {g : Nat → Addr}
theorem ok_whole {f c Pt : Addr} {Tb : List (Addr × Str)} {oc : Value} {od an : Option Addr} {dV kV doc pm ct : Value} {osl : Array (Option Value)} (V : Env1 P w K mg base C CO CS fI g) (R : OpsR P w K mg base C g)
    (fall : mg "all" = none) (frange : mg "range" = none)
    (lk : K.lookup f = some ⟨oc, od, .func (PySem.W.fnOf "_law_whole" "_law_whole" (defArgs s_law_whole) (defBody s_law_whole) (defScope s_law_whole) dV kV doc pm an (.ref c) ct), osl⟩) (hcd : PySem.W.codeIn K (.ref c) "_law_whole" = true)
    (TBL : LamX.TabB base mg c Pt) (hmT : (Pt, lamQ "_law_whole") ∈ Tb) (hu : ∀ p ∈ Tb, p.1 = Pt → p.2 = lamQ "_law_whole") :
    FnOk P w K mg base CX0 6 f (PySem.W.fnOf "_law_whole" "_law_whole" (defArgs s_law_whole) (defBody s_law_whole) (defScope s_law_whole) dV kV doc pm an (.ref c) ct) ["_law_one", "_law_a", "_law_b", "_law_n"] (spWhole C Tb) := by
  obtain ⟨T, TB, O, FEq, FAbs, FLess, FDiv, dIs, bad⟩ := V
  have OT := O.t
  obtain ⟨fIs, fdIs, G__law_is, g__law_is, kp__law_is, b__law_is⟩ := dIs.ex
  obtain ⟨gBd, ocB, odB, dVB, kVB, docB, pmB, anB, cdvB, ctB, oslB, gB, kB, lkB, hcB, bB⟩ := bad.ex
  refine fn_of lk hcd sc_law_whole (fun vs H Q E h => ?_) (fun A outer s H vs Q E hr h => ?_)
  · obtain ⟨p, a, b, n, rfl, _⟩ := h
    rfl
  · obtain ⟨p, a, b, n, rfl, h1, N1, hT, k⟩ := h
    refine ⟨_, PSs.nox ((pss_cons (ps_set (i := 4) sc_law_whole.nd rfl (Or.inr rfl) (pe_lst (pa_cons (pe_op (O.add (hr.mono (by decide)) pass0) (pv 0) (pv 3)) (pa_cons (pe_op (R.add (hr.mono (by decide)) pass0) (pv 3) (pv 0)) (pa_cons (pe_op (O.sub (hr.mono (by decide)) pass0) (pv 0) (pv 3)) (pa_cons (pe_op (R.sub (hr.mono (by decide)) pass0) (pv 3) (pv 0)) (pa_cons (pe_op (O.mul (hr.mono (by decide)) pass0) (pv 0) (pv 3)) (pa_cons (pe_op (R.mul (hr.mono (by decide)) pass0) (pv 3) (pv 0)) pa_nil))))))))
        (pss_cons (ps_set (i := 5) sc_law_whole.nd rfl (Or.inr rfl) (pe_lst (pa_cons (pe_tup (pa_cons (pe_op op_add (pv 1) (pe_op op_mulW (pv 3) (pv 2))) (pa_cons (pv 2) pa_nil))) (pa_cons (pe_tup (pa_cons (pe_op op_add (pv 1) (pe_op op_mulW (pv 3) (pv 2))) (pa_cons (pv 2) pa_nil))) (pa_cons (pe_tup (pa_cons (pe_op op_sub (pv 1) (pe_op op_mulW (pv 3) (pv 2))) (pa_cons (pv 2) pa_nil))) (pa_cons (pe_tup (pa_cons (pe_op op_sub (pe_op op_mulW (pv 3) (pv 2)) (pv 1)) (pa_cons (pv 2) pa_nil))) (pa_cons (pe_tup (pa_cons (pe_op op_mulW (pv 1) (pv 3)) (pa_cons (pv 2) pa_nil))) (pa_cons (pe_tup (pa_cons (pe_op op_mulW (pv 1) (pv 3)) (pa_cons (pv 2) pa_nil))) pa_nil))))))))
        (pss_cons (ps_if (PW.pt (pw_or (pt_not (pt_val (pe_callB (cr_all rfl) rfl fall (by decide +kernel) (pa_cons (pe_lc (own := [("_law_at", 7)]) (g := gName 7) rfl sc_law_whole.nd (pi_range1 rfl frange (pa_cons pe_int pa_nil)) (blkOk_by (N := ["_law_one", "_law_a", "_law_b", "_law_n", "_law_told", "_law_due", "_law_lesser", "_law_at"]) (sc := defScope s_law_whole) (by decide +kernel)) (fun _ _ _ _ _ => pg_name (i := 7) sc_law_whole.nd rfl (Or.inl rfl)) (fun _ _ _ _ _ => pts_nil) (fun _ _ _ _ _ => (pe_call G__law_is (hr.mono (by decide)) rfl g__law_is kp__law_is b__law_is .nil pass0 (pa_cons (pe_ix (r := rIxL K) ix_list (pv 4) (pv 7) (fun _ _ => rfl)) (pa_cons (pe_ix (r := rIxT K) ix_tup (pe_ix (r := rIxL K) ix_list (pv 5) (pv 7) (fun _ _ => rfl)) pe_int (fun _ _ => rfl)) (pa_cons (pe_ix (r := rIxT K) ix_tup (pe_ix (r := rIxL K) ix_list (pv 5) (pv 7) (fun _ _ => rfl)) pe_int (fun _ _ => rfl)) pa_nil)))))) pa_nil)))) (pw_or1 (pt_cmpR (op_eqO OT.m9 OT.s1 FEq (hr.mono (by decide)) pass0) (pv 0) (pv 3) (nomark _))))) (pss_one (ps_ret pe_bl)) pss_nil)
        (pss_cons (ps_set (i := 6) sc_law_whole.nd rfl (Or.inl rfl) (pe_cmpR op_lt (pe_op op_mulW (pv 1) (pv 2)) (pe_op op_mulW (pe_op op_mulW (pv 3) (pv 2)) (pv 2)) (nomark _)))
        (pss_cons (ps_if (PW.pt (pw_or (PW.pt (pw_and (pt_cmpR op_notBl (pe_methR (pv 0) T.cl OT.m10 FLess (hr.mono (by decide)) pass0 (pa_cons (pv 3) pa_nil)) pe_bl (nomark _)) (pw_and1 (pt_val (pv 6))))) (pw_or1 (PW.pt (pw_and (pt_cmpR op_notBl (pe_methR (pv 0) T.cl OT.m10 FLess (hr.mono (by decide)) pass0 (pa_cons (pv 3) pa_nil)) pe_bl (nomark _)) (pw_and1 (pt_not (pt_val (pv 6))))))))) (pss_one (ps_ret pe_bl)) pss_nil)
        (pss_one (ps_ret (pe_ifExp (pt_cmpR op_eq (pv 3) pe_int (nomark _)) (LamX.pe_lamcall (k := 3) (T := Tb) (TT := TTbad CO) (c := c) (P := Pt) (t := fun E => tMethR C "divided" (spDiv C CO) E (tVar 0) (tCons (tVar 3) tNil)) rfl gB kB lkB hcB bB sc_law_bad rfl (Or.inl rfl) (bad_gives TB) TBL rfl hmT hu (hr.mono (by decide)) (LamX.lamS_by (sc := defScope s_law_whole) (by decide +kernel)) rfl (fun _ _ _ _ _ => rfl) (fun A outer s H E f c2 hr2 => pe_methR (pv 0) T.cl OT.m11 FDiv (hr2.mono (by decide)) (passes_call (takes_of rfl rfl rfl rfl) fun _ _ _ _ h => h) (pa_cons (pv 3) pa_nil))) (pe_call G__law_is (hr.mono (by decide)) rfl g__law_is kp__law_is b__law_is .nil pass0 (pa_cons (pe_methR (pv 0) T.cl OT.m11 FDiv (hr.mono (by decide)) passL (pa_cons (pv 3) pa_nil)) (pa_cons (pv 1) (pa_cons (pe_op op_mulW (pv 2) (pv 3)) pa_nil))))))))))))), ?_⟩
    have hb := h1.nz
    have A1 := h1.ba
    have B1 := h1.bb
    have L1 := h1.low
    have e1 := L1.eq
    have ho1 : lowO a b ≠ 0 := by have := L1.pos; omega
    have sN := small_N hb A1
    have sO := small_O (a := a) hb B1
    have sn := small_i N1
    have sm4 : Small (lowN a b) ∧ Small (lowO a b) ∧ Small n ∧ Small 1 := ⟨sN, sO, sn, small_1⟩
    have hoo : lowO a b * 1 ≠ 0 := by omega
    have nm : ∀ H, NumAt C H (.int n) n 1 := fun H => .inr ⟨rfl, rfl⟩
    have eAdd := low_congr (a := lowN a b * 1 + n * lowO a b) (a' := a + n * b) hoo hb (by grind)
    have eSub := low_congr (a := lowN a b * 1 - n * lowO a b) (a' := a - n * b) hoo hb (by grind)
    have eRsb := low_congr (a := -lowN a b * 1 + n * lowO a b) (a' := n * b - a) hoo hb (by grind)
    have eMul := low_congr (a := lowN a b * n) (a' := a * n) hoo hb (by grind)
    -- told
    refine ⟨_, rfl, _, rfl, h1.at_.ins, .inr ⟨n, rfl⟩, p, .int n, _, _, n, 1, rfl, h1.at_, nm H, sm4, hoo, fun r0 H0 S0 q0 => ?_⟩
    have f1 := h1.same S0
    refine ⟨_, rfl, _, rfl, ⟨n, rfl⟩, f1.at_.ins, p, .int n, _, _, n, 1, rfl, f1.at_, nm H0, sm4, hoo, fun r1 H1 S1 q1 => ?_⟩
    have f1 := f1.same S1
    refine ⟨_, rfl, _, rfl, f1.at_.ins, .inr ⟨n, rfl⟩, p, .int n, _, _, n, 1, rfl, f1.at_, nm H1, sm4, hoo, fun r2 H2 S2 q2 => ?_⟩
    have f1 := f1.same S2
    refine ⟨_, rfl, _, rfl, ⟨n, rfl⟩, f1.at_.ins, p, n, _, _, rfl, f1.at_, ⟨sN, sO, sn⟩, low_self L1, fun r3 H3 S3 q3 => ?_⟩
    have f1 := f1.same S3
    refine ⟨_, rfl, _, rfl, f1.at_.ins, .inr ⟨n, rfl⟩, p, .int n, _, _, n, 1, rfl, f1.at_, nm H3, sm4, hoo, fun r4 H4 S4 q4 => ?_⟩
    have f1 := f1.same S4
    refine ⟨_, rfl, _, rfl, ⟨n, rfl⟩, f1.at_.ins, p, .int n, _, _, n, 1, rfl, f1.at_, nm H4, sm4, hoo, fun r5 H5 S5 q5 => ?_⟩
    have w4 := q4.same S5
    have w3 := q3.same (S4.trans S5)
    have w2 := q2.same (S3.trans (S4.trans S5))
    have w1 := q1.same (S2.trans (S3.trans (S4.trans S5)))
    have w0 := q0.same (S1.trans (S2.trans (S3.trans (S4.trans S5))))
    have S := S0.trans (S1.trans (S2.trans (S3.trans (S4.trans S5))))
    refine ⟨(by show 6 ≤ sizeLine; decide), fun tl htl => ?_⟩
    -- due
    have nb := N1.mul B1
    refine ⟨_, rfl, _, rfl, _, rfl, _, _, rfl, rfl, cmB N1 B1, _, _, rfl, rfl, _, rfl, (by show 2 ≤ sizeLine; decide), fun t0 ht0 => ?_⟩
    refine ⟨_, rfl, _, rfl, _, rfl, _, _, rfl, rfl, cmB N1 B1, _, _, rfl, rfl, _, rfl, (by show 2 ≤ sizeLine; decide), fun t1 ht1 => ?_⟩
    refine ⟨_, rfl, _, rfl, _, rfl, _, _, rfl, rfl, cmB N1 B1, _, _, rfl, rfl, _, rfl, (by show 2 ≤ sizeLine; decide), fun t2 ht2 => ?_⟩
    refine ⟨_, rfl, _, rfl, _, _, rfl, rfl, cmB N1 B1, _, rfl, _, _, rfl, rfl, _, rfl, (by show 2 ≤ sizeLine; decide), fun t3 ht3 => ?_⟩
    refine ⟨_, rfl, _, rfl, _, _, rfl, rfl, cmB A1 N1, _, rfl, (by show 2 ≤ sizeLine; decide), fun t4 ht4 => ?_⟩
    refine ⟨_, rfl, _, rfl, _, _, rfl, rfl, cmB A1 N1, _, rfl, (by show 2 ≤ sizeLine; decide), fun t5 ht5 => ?_⟩
    refine ⟨(by show 6 ≤ sizeLine; decide), fun dl hdl => ?_⟩
    -- the heap with told, due and its tuples
    obtain ⟨M, hM⟩ : ∃ M, M = upd H5 tl (.lst [.ref r0, .ref r1, .ref r2, .ref r3, .ref r4, .ref r5]) := ⟨_, rfl⟩
    obtain ⟨M0, hM0⟩ : ∃ M0, M0 = upd M t0 (.tup [.int (a + n * b), .int b]) := ⟨_, rfl⟩
    obtain ⟨M1, hM1⟩ : ∃ M1, M1 = upd M0 t1 (.tup [.int (a + n * b), .int b]) := ⟨_, rfl⟩
    obtain ⟨M2, hM2⟩ : ∃ M2, M2 = upd M1 t2 (.tup [.int (a - n * b), .int b]) := ⟨_, rfl⟩
    obtain ⟨M3, hM3⟩ : ∃ M3, M3 = upd M2 t3 (.tup [.int (n * b - a), .int b]) := ⟨_, rfl⟩
    obtain ⟨M4, hM4⟩ : ∃ M4, M4 = upd M3 t4 (.tup [.int (a * n), .int b]) := ⟨_, rfl⟩
    obtain ⟨M5, hM5⟩ : ∃ M5, M5 = upd M4 t5 (.tup [.int (a * n), .int b]) := ⟨_, rfl⟩
    obtain ⟨M6, hM6⟩ : ∃ M6, M6 = upd M5 dl (.lst [.ref t0, .ref t1, .ref t2, .ref t3, .ref t4, .ref t5]) := ⟨_, rfl⟩
    have c0 : Same H5 M := by rw [hM]; exact same_upd htl
    have c1 : Same M M0 := by rw [hM0]; exact same_upd (by rw [hM]; exact ht0)
    have c2 : Same M0 M1 := by rw [hM1]; exact same_upd (by rw [hM0, hM]; exact ht1)
    have c3 : Same M1 M2 := by rw [hM2]; exact same_upd (by rw [hM1, hM0, hM]; exact ht2)
    have c4 : Same M2 M3 := by rw [hM3]; exact same_upd (by rw [hM2, hM1, hM0, hM]; exact ht3)
    have c5 : Same M3 M4 := by rw [hM4]; exact same_upd (by rw [hM3, hM2, hM1, hM0, hM]; exact ht4)
    have c6 : Same M4 M5 := by rw [hM5]; exact same_upd (by rw [hM4, hM3, hM2, hM1, hM0, hM]; exact ht5)
    have c7 : Same M5 M6 := by rw [hM6]; exact same_upd (by rw [hM5, hM4, hM3, hM2, hM1, hM0, hM]; exact hdl)
    have sM : Same M M6 := c1.trans (c2.trans (c3.trans (c4.trans (c5.trans (c6.trans c7)))))
    have sH : Same H5 M6 := c0.trans sM
    have kT : M6 tl = some (.lst [.ref r0, .ref r1, .ref r2, .ref r3, .ref r4, .ref r5]) := sM _ _ (by rw [hM]; exact upd_same)
    have kD : M6 dl = some (.lst [.ref t0, .ref t1, .ref t2, .ref t3, .ref t4, .ref t5]) := by rw [hM6]; exact upd_same
    have k5 : M6 t5 = some (.tup [.int (a * n), .int b]) := c7 _ _ (by rw [hM5]; exact upd_same)
    have k4 : M6 t4 = some (.tup [.int (a * n), .int b]) := (c6.trans c7) _ _ (by rw [hM4]; exact upd_same)
    have k3 : M6 t3 = some (.tup [.int (n * b - a), .int b]) := (c5.trans (c6.trans c7)) _ _ (by rw [hM3]; exact upd_same)
    have k2 : M6 t2 = some (.tup [.int (a - n * b), .int b]) := (c4.trans (c5.trans (c6.trans c7))) _ _ (by rw [hM2]; exact upd_same)
    have k1 : M6 t1 = some (.tup [.int (a + n * b), .int b]) := (c3.trans (c4.trans (c5.trans (c6.trans c7)))) _ _ (by rw [hM1]; exact upd_same)
    have k0 : M6 t0 = some (.tup [.int (a + n * b), .int b]) := (c2.trans (c3.trans (c4.trans (c5.trans (c6.trans c7))))) _ _ (by rw [hM0]; exact upd_same)
    have item : ∀ i : Nat, i < 6 → ∃ r t x, ([.ref r0, .ref r1, .ref r2, .ref r3, .ref r4, .ref r5] : List V)[i]? = some (.ref r) ∧ ([.ref t0, .ref t1, .ref t2, .ref t3, .ref t4, .ref t5] : List V)[i]? = some (.ref t) ∧
        M6 t = some (.tup [.int x, .int b]) ∧ RatAt C M6 r (lowN x b) (lowO x b) ∧ Mid x := fun i hi => by
      match i, hi with
      | 0, _ => exact ⟨r0, t0, _, rfl, rfl, k0, (w0.same sH).cast eAdd.1 eAdd.2, mid ((A1.mono (by decide : 140 ≤ 220)).add nb)⟩
      | 1, _ => exact ⟨r1, t1, _, rfl, rfl, k1, (w1.same sH).cast eAdd.1 eAdd.2, mid ((A1.mono (by decide : 140 ≤ 220)).add nb)⟩
      | 2, _ => exact ⟨r2, t2, _, rfl, rfl, k2, (w2.same sH).cast eSub.1 eSub.2, mid ((A1.mono (by decide : 140 ≤ 220)).sub nb)⟩
      | 3, _ => exact ⟨r3, t3, _, rfl, rfl, k3, (w3.same sH).cast eRsb.1 eRsb.2, mid (nb.sub (A1.mono (by decide : 140 ≤ 220)))⟩
      | 4, _ => exact ⟨r4, t4, _, rfl, rfl, k4, (w4.same sH).cast eMul.1 eMul.2, mid (A1.mul N1)⟩
      | 5, _ => exact ⟨r5, t5, _, rfl, rfl, k5, (q5.same sH).cast eMul.1 eMul.2, mid (A1.mul N1)⟩
    show tSeq _ _ _ [some (V.ref p), some (V.int a), some (V.int b), some (V.int n), some (V.ref tl), some (V.ref dl), none, none] (upd (upd (upd (upd (upd (upd (upd (upd H5 tl _) t0 _) t1 _) t2 _) t3 _) t4 _) t5 _) dl _)
    rw [← hM, ← hM0, ← hM1, ← hM2, ← hM3, ← hM4, ← hM5, ← hM6]
    have S := S.trans sH
    clear w0 w1 w2 w3 w4 q0 q1 q2 q3 q4 q5 f1 S0 S1 S2 S3 S4 S5 c0 c1 c2 c3 c4 c5 c6 c7 sM sH hM hM0 hM1 hM2 hM3 hM4 hM5 hM6 k0 k1 k2 k3 k4 k5
    refine ⟨6, rfl, by decide, by decide, fun D hD => ?_⟩
    refine lc_range (lo := 0) (n := 6) (fun i H' => Same M6 H' ∧ H' D = some (.lst (List.replicate i (V.bl true)))) ⟨same_upd hD, upd_same⟩ (fun i H' hi ⟨Sx, hDx⟩ => ?_) (fun H' ⟨Sx, hDx⟩ => ?_)
    · obtain ⟨r, t, x, x1, x2, kt, hr, mx⟩ := item i hi
      refine ⟨rfl, ?_⟩
      refine ⟨_, rfl, _, rfl, tl, _, _, _, rfl, rfl, SqL.of (Sx _ _ kT), at_of (j := i) (by omega) x1, ?_⟩
      refine ⟨_, rfl, _, rfl, dl, _, _, _, rfl, rfl, SqL.of (Sx _ _ kD), at_of (j := i) (by omega) x2, t, _, _, _, rfl, rfl, SqT.of (Sx _ _ kt), at_of (j := 0) rfl rfl, ?_⟩
      refine ⟨_, rfl, _, rfl, dl, _, _, _, rfl, rfl, SqL.of (Sx _ _ kD), at_of (j := i) (by omega) x2, t, _, _, _, rfl, rfl, SqT.of (Sx _ _ kt), at_of (j := 1) rfl rfl, ?_⟩
      refine ⟨r, x, b, rfl, hr.same Sx, hb, mx, mid B1, fun H4 S4 => ⟨_, S4 _ _ hDx, small1000 (by rw [List.length_replicate]; omega), fun b' o e => ?_, ?_⟩⟩
      · rw [upd_ne (ne_of_none e hD)]
        exact (Sx.trans S4) _ _ e
      · rw [upd_same, List.replicate_succ']
    have S := S.trans Sx
    refine ⟨D, List.replicate 6 true, rfl, SqL.of hDx, _, rfl, iteF ?_⟩
    clear kT kD item hDx Sx hD
    have f1 := h1.same S
    refine ⟨_, rfl, _, rfl, f1.at_.ins, .inr ⟨n, rfl⟩, p, .int n, _, _, rfl, f1.at_, .inr ⟨n, rfl, _, rfl, iteF ?_⟩⟩
    -- lesser
    refine ⟨_, rfl, _, rfl, _, _, rfl, rfl, cmB A1 B1, _, rfl, _, rfl, _, _, rfl, rfl, cmB N1 B1, _, rfl, _, _, rfl, rfl, cmB (N1.mul B1) B1, _, _, rfl, rfl, ?_⟩
    have hl : lowN a b * 1 < n * lowO a b ↔ a * b < n * b * b := by
      have z := less_ok L1 (low_int n) hb (show (1 : Int) ≠ 0 by decide)
      simpa using z
    obtain ⟨lv, hlv⟩ : ∃ lv, decide (a * b < n * b * b) = lv := ⟨_, rfl⟩
    have hlv2 : lv = true ↔ lowN a b * 1 < n * lowO a b := by rw [← hlv, decide_eq_true_iff]; exact hl.symm
    show tSeq _ _ _ [some (V.ref p), some (V.int a), some (V.int b), some (V.int n), some (V.ref tl), some (V.ref dl), some (V.bl (decide (a * b < n * b * b))), none] _
    rw [hlv]
    obtain ⟨dx1, e1'⟩ := f1.at_
    have kd : (fl (lowN a b) (lowO a b)).lookup ("is_less" : Str) = none := fl_no _ _ (by decide +kernel) (by decide +kernel)
    have kv : (fl (lowN a b) (lowO a b)).lookup ("divided" : Str) = none := fl_no _ _ (by decide +kernel) (by decide +kernel)
    refine ⟨_, rfl, p, dx1, _, rfl, e1', kd, _, rfl, p, .int n, _, _, n, 1, rfl, f1.at_, nm _, sm4, fun k1 H12 hk1 S12 => ?_⟩
    have ek1 : k1 = lv := by rw [Bool.eq_iff_iff, hk1, hlv2]
    subst ek1
    have S := S.trans S12
    have f1 := h1.same S
    obtain ⟨dx2, e2⟩ := f1.at_
    refine ⟨k1, true, rfl, rfl, _, rfl, ?_⟩
    rcases (show k1 = true ∨ k1 = false by cases k1 <;> simp) with rfl | rfl
    refine iteF (iteF ?_)
    refine ⟨_, rfl, p, dx2, _, rfl, e2, kd, _, rfl, p, .int n, _, _, n, 1, rfl, f1.at_, nm _, sm4, fun k2 H13 hk2 S13 => ?_⟩
    have ek2 : k2 = true := by rw [Bool.eq_iff_iff, hk2, ← hlv2]
    subst ek2
    refine ⟨_, _, rfl, rfl, _, rfl, iteT ⟨_, rfl, _, rfl, iteF ?_⟩⟩
    rotate_left
    refine iteT ⟨_, rfl, _, rfl, iteF ?_⟩
    refine ⟨_, rfl, p, dx2, _, rfl, e2, kd, _, rfl, p, .int n, _, _, n, 1, rfl, f1.at_, nm _, sm4, fun k2 H13 hk2 S13 => ?_⟩
    have ek2 : k2 = false := by rw [Bool.eq_iff_iff, hk2, ← hlv2]
    subst ek2
    refine ⟨_, _, rfl, rfl, _, rfl, iteF (iteF ?_)⟩
    all_goals
      have S := S.trans S13
      have f1 := h1.same S
      have hT := hT.ext S
      obtain ⟨dx3, e3⟩ := f1.at_
      refine ⟨_, rfl, rfl, _, rfl, ?_⟩
      refine ite2 (fun hz => ?_) (fun hz => ?_)
      · have hc0 : n = 0 := by injection of_decide_eq_true hz
        refine ⟨hT, fun H14 X14 T14 => ?_⟩
        have g1 := f1.ext X14
        obtain ⟨dx4, e4⟩ := g1.at_
        refine ⟨_, rfl, p, dx4, _, rfl, e4, kv, _, rfl, p, .int n, _, _, n, 1, rfl, g1.at_, nm _, sm4, fun _ H15 S15 => ⟨rfl, rfl, ?_⟩, fun z => absurd (by rw [hc0]; simp) z⟩
        exact k H15 (((LamX.ExtN.of S).trans X14).trans (.of S15)) (T14.ext S15)
      · have hc0 : n ≠ 0 := fun z => hz (by rw [z]; exact decide_eq_true rfl)
        have hon := mul_nz ho1 hc0
        have hbn := mul_nz hb hc0
        have eDiv := low_congr (a := lowN a b * 1) (a' := a) hon hbn (by grind)
        refine ⟨_, rfl, p, dx3, _, rfl, e3, kv, _, rfl, p, .int n, _, _, n, 1, rfl, f1.at_, nm _, sm4, fun z => absurd z hon, fun _ r H14 S14 hr => ?_⟩
        refine ⟨_, rfl, _, rfl, _, rfl, _, _, rfl, rfl, cmB B1 N1, r, _, _, rfl, hr.cast eDiv.1 eDiv.2, hbn, mid A1, mid (B1.mul N1), fun H15 S15 => ?_⟩
        have S2 := (S.trans S14).trans S15
        exact k H15 (.of S2) ((hT.ext S14).ext S15)
end
end Wk

namespace Wk
open PySem L2 NumR
abbrev s_law : Stmt := top 17
theorem sc_law : FnScope ["_law_script", "_law_pen", "_law_turn", "_law_c", "_law_n", "_law_b", "_law_d", "_law_one", "_law_other", "_law_number", "_law_over", "_law_a"] ["_law_script"] (defScope s_law) := ⟨rfl, rfl, rfl, by decide +kernel, rfl, by decide +kernel, by decide +kernel⟩

def spPen (K : PySem.W.Frag) : Sp := fun vs H Q _ => ∃ (a : Addr) (ns : List Int), vs = [.ref a] ∧ SqL K H a (ns.map V.int) ∧ ∀ p c ns' H', Same H H' → PenAt H' p c ns' 0 0 → Q (.ref p) H'
def spLaw (K : PySem.W.Frag) (Tb : List (Addr × Str)) : Sp := fun vs H Q _ => ∃ (a : Addr) (ns : List Int), vs = [.ref a] ∧ SqL K H a (ns.map V.int) ∧ LamX.Tabs Tb H ∧ ∀ H', Q (.bl true) H'
theorem tabs_ps {Tb : List (Addr × Str)} {p : Addr} {H H' : Hp} (t : LamX.Tabs Tb H) (e : PSame p H H') (hp : ∃ l, H p = some (.dK l)) : LamX.Tabs Tb H' := fun q hq => by
  obtain ⟨l, hl⟩ := hp
  obtain ⟨ps, h1, h2, h3⟩ := t q hq
  refine ⟨ps, e _ _ h1 (fun z => ?_), h2, fun pos cv hc => ?_⟩
  · rw [z, hl] at h1
    cases h1
  · obtain ⟨c, e1, e2⟩ := h3 pos cv hc
    refine ⟨c, e1, e _ _ e2 fun z => ?_⟩
    rw [z, hl] at e2
    cases e2
theorem PenAt.ext {H H' : Hp} {p c : Addr} {ns : List Int} {i l : Int} (S : PenAt H p c ns i l) (x : LamX.ExtN H H') : PenAt H' p c ns i l := ⟨x _ _ S.pen (fun _ z => by cases z), x _ _ S.cells (fun _ z => by cases z), S.i0, S.l0, S.i1⟩
theorem sqL_same {K : PySem.W.Frag} {H H' : Hp} {a : Addr} {xs : List V} (h : SqL K H a xs) (e : Same H H') : SqL K H' a xs := by
  rcases h with h | h
  · rcases h with h | ⟨o, h⟩
    · exact .inl (.inl (e _ _ h))
    · exact .inl (.inr ⟨o, e _ _ h⟩)
  · exact .inr h
/-- the law's parts -/
structure Env2 (P : Program) (w : World) (K : PySem.W.Frag) (mg : Str → Option Value) (base : Heap) (C CO : Addr) (fI : Addr) (g : Nat → Addr) (Tb : List (Addr × Str)) : Prop where
  R0 : FnR P w K mg base (L2.CX P w) 1 fI (spInit C CO)
  R1 : FnR P w K mg base (L2.CX P w) 1 fI (fun vs H Q E => spInit C CO (vs ++ [.int 1]) H Q E)
  FStr : FnR P w K mg base CX0 1 (g 12) (spStr C)
  dPen : Dn P w K mg base CX0 1 "_law_pen_of" ["_law_script"] (spPen K)
  dDraw : Dn P w K mg base CX0 1 "_law_draw" ["_law_pen", "_law_many"] spDraw
  dNum : Dn P w K mg base CX0 3 "_law_number_of" ["_law_pen"] spNum
  dLow : Dn P w K mg base CX0 1 "_law_lowest" ["_law_number", "_law_over"] spLow
  dPair : Dn P w K mg base CX0 6 "_law_pair" ["_law_one", "_law_other", "_law_a", "_law_b", "_law_c", "_law_d"] (spPair C Tb)
  dWhole : Dn P w K mg base CX0 6 "_law_whole" ["_law_one", "_law_a", "_law_b", "_law_n"] (spWhole C Tb)
section
variable {P : Program} {w : World} {K : PySem.W.Frag} {mg : Str → Option Value} {base : Heap} {C CO CS fI : Addr} {g : Nat → Addr}
theorem ok_pen {f : Addr} {fd : FuncData} (F : Fun K "_law_pen_of" "_law_pen_of" s_law_pen_of f fd) (flist : mg "list" = none) : FnOk P w K mg base CX0 1 f fd ["_law_script"] (spPen K) := by
  refine F.ok sc_law_pen_of (fun vs H Q E h => ?_) (fun cdv A outer s H vs Q E hr h => ?_)
  · obtain ⟨a, ns, rfl, _⟩ := h
    rfl
  · obtain ⟨a, ns, rfl, hS, k⟩ := h
    refine ⟨_, PSs.nox ((pss_one (ps_ret (pe_disp (pps_cons pe_str (pe_callTy call_list_of rfl flist (by decide +kernel) (pa_cons (pe_slice sl_list (pv 0) po_none (po_some pe_int)) pa_nil)) (pps_cons pe_str pe_int (pps_cons pe_str pe_int pps_nil))) (by rfl) (by rfl) (fun z => by cases z) (by decide))))), ?_⟩
    refine fun p hp => ?_
    have hS := sqL_same hS (same_upd (o := .dK []) hp)
    refine ⟨_, rfl, _, rfl, _, _, rfl, hS, fun q hq => ⟨_, _, rfl, .inl (SqL.of upd_same), fun c hc => ?_⟩⟩
    have hqp : q ≠ p := fun z => by rw [z, upd_same] at hq; cases hq
    have hcq : c ≠ q := fun z => by rw [z, upd_same] at hc; cases hc
    have hcp : c ≠ p := fun z => by rw [z, upd_ne (Ne.symm hqp), upd_same] at hc; cases hc
    obtain ⟨l, ecut⟩ : ∃ l : List Int, cutV (ns.map V.int) none (some 63) = l.map V.int :=
      ⟨(ns.drop (HT.sIx (ns.map V.int).length 0 none)).take (HT.sIx (ns.map V.int).length (ns.map V.int).length (some 63) - HT.sIx (ns.map V.int).length 0 none), by unfold cutV; rw [List.map_take, List.map_drop]⟩
    rw [ecut]
    refine ⟨by rw [upd_ne (Ne.symm hcp), upd_ne (Ne.symm hqp)]; exact upd_same, penL c 0 0, rfl, (by show 3 ≤ 15; decide), ?_⟩
    refine k p c l _ ?_ ⟨?_, ?_, by decide, by decide, by decide⟩
    · intro b o e
      have hb := ne_of_none e hp
      rw [upd_ne hb, upd_ne (ne_of_none (by rw [upd_ne (ne_of_none (by rw [upd_ne hb]; exact e) hq), upd_ne hb]; exact e) hc), upd_ne (ne_of_none (by rw [upd_ne hb]; exact e) hq), upd_ne hb]
      exact e
    · rw [upd_same]
      rfl
    · rw [upd_ne hcp]
      exact upd_same
theorem ok_law {f c Pt : Addr} {Tb : List (Addr × Str)} {oc : Value} {od an : Option Addr} {dV kV doc pm ct : Value} {osl : Array (Option Value)} (V : Env1 P w K mg base C CO CS fI g) (V2 : Env2 P w K mg base C CO fI g Tb)
    (frange : mg "range" = none) (f_str : mg "str" = none)
    (lk : K.lookup f = some ⟨oc, od, .func (PySem.W.fnOf "law" "law" (defArgs s_law) (defBody s_law) (defScope s_law) dV kV doc pm an (.ref c) ct), osl⟩) (hcd : PySem.W.codeIn K (.ref c) "law" = true)
    (TBL : LamX.TabB base mg c Pt) (hmT : (Pt, lamQ "law") ∈ Tb) (hu : ∀ p ∈ Tb, p.1 = Pt → p.2 = lamQ "law") :
    FnOk P w K mg base CX0 7 f (PySem.W.fnOf "law" "law" (defArgs s_law) (defBody s_law) (defScope s_law) dV kV doc pm an (.ref c) ct) ["_law_script"] (spLaw K Tb) := by
  obtain ⟨T, TB, O, FEq, FAbs, FLess, FDiv, dIs, bad⟩ := V
  have OT := O.t
  obtain ⟨R0, R1, FStr, dPen, dDraw, dNum, dLow, dPair, dWhole⟩ := V2
  obtain ⟨fIs, fdIs, G__law_is, g__law_is, kp__law_is, b__law_is⟩ := dIs.ex
  obtain ⟨f1, fd1, G__law_pen_of, g__law_pen_of, kp__law_pen_of, b__law_pen_of⟩ := dPen.ex
  obtain ⟨f2, fd2, G__law_draw, g__law_draw, kp__law_draw, b__law_draw⟩ := dDraw.ex
  obtain ⟨f3, fd3, G__law_number_of, g__law_number_of, kp__law_number_of, b__law_number_of⟩ := dNum.ex
  obtain ⟨f4, fd4, G__law_lowest, g__law_lowest, kp__law_lowest, b__law_lowest⟩ := dLow.ex
  obtain ⟨f5, fd5, G__law_pair, g__law_pair, kp__law_pair, b__law_pair⟩ := dPair.ex
  obtain ⟨f6, fd6, G__law_whole, g__law_whole, kp__law_whole, b__law_whole⟩ := dWhole.ex
  obtain ⟨gBd, ocB, odB, dVB, kVB, docB, pmB, anB, cdvB, ctB, oslB, gB, kB, lkB, hcB, bB⟩ := bad.ex
  refine fn_of lk hcd sc_law (fun vs H Q E h => ?_) (fun A outer s H vs Q E hr h => ?_)
  · obtain ⟨a, ns, rfl, _⟩ := h
    rfl
  · obtain ⟨a, ns, rfl, hS, hT, k⟩ := h
    refine ⟨_, PSs.nox ((pss_cons (ps_set (i := 1) sc_law.nd rfl (Or.inl rfl) (pe_call G__law_pen_of (hr.mono (by decide)) rfl g__law_pen_of kp__law_pen_of b__law_pen_of .nil pass0 (pa_cons (pv 0) pa_nil)))
        (pss_cons (ps_for PassesOwn.never rfl (pi_range1 rfl frange (pa_cons pe_int pa_nil)) (pg_name (i := 2) sc_law.nd rfl (Or.inl rfl)) (pss_cons (ps_asg (pe_tup (pa_cons (pe_call G__law_number_of (hr.mono (by decide)) rfl g__law_number_of kp__law_number_of b__law_number_of .nil pass0 (pa_cons (pv 1) pa_nil)) (pa_cons (pe_call G__law_number_of (hr.mono (by decide)) rfl g__law_number_of kp__law_number_of b__law_number_of .nil pass0 (pa_cons (pv 1) pa_nil)) (pa_cons (pe_call G__law_number_of (hr.mono (by decide)) rfl g__law_number_of kp__law_number_of b__law_number_of .nil pass0 (pa_cons (pv 1) pa_nil)) pa_nil)))) (pg_tup rfl (pgs_cons (pg_name (i := 11) sc_law.nd rfl (Or.inr rfl)) (pgs_cons (pg_name (i := 3) sc_law.nd rfl (Or.inl rfl)) (pgs_cons (pg_name (i := 4) sc_law.nd rfl (Or.inl rfl)) pgs_nil)))))
        (pss_cons (ps_par (i := 5) (j := 6) rfl sc_law.nd rfl rfl (by decide) rfl rfl (pa_cons (pe_op op_add pe_int (pe_call G__law_draw (hr.mono (by decide)) rfl g__law_draw kp__law_draw b__law_draw .nil pass0 (pa_cons (pv 1) (pa_cons pe_int pa_nil)))) (pa_cons (pe_op op_sub (pe_un un_neg pe_int) (pe_op op_mulW (pe_call G__law_draw (hr.mono (by decide)) rfl g__law_draw kp__law_draw b__law_draw .nil pass0 (pa_cons (pv 1) (pa_cons pe_int pa_nil))) (pe_op op_pow pe_int pe_int))) pa_nil)) (by rfl))
        (pss_cons (ps_par (i := 7) (j := 8) rfl sc_law.nd rfl rfl (by decide) rfl rfl (pa_cons (StX.pe_makeR T.mkr R0 (hr.mono (by decide)) rfl T.mgC passL (pa_cons (pv 11) (pa_cons (pv 5) pa_nil))) (pa_cons (StX.pe_makeR T.mkr R0 (hr.mono (by decide)) rfl T.mgC passL (pa_cons (pv 3) (pa_cons (pv 6) pa_nil))) pa_nil)) (by rfl))
        (pss_cons (ps_if (PW.pt (pw_or (pt_not (pt_val (pe_call G__law_pair (hr.mono (by decide)) rfl g__law_pair kp__law_pair b__law_pair .nil pass0 (pa_cons (pv 7) (pa_cons (pv 8) (pa_cons (pv 11) (pa_cons (pv 5) (pa_cons (pv 3) (pa_cons (pv 6) pa_nil))))))))) (pw_or1 (pt_not (pt_val (pe_call G__law_pair (hr.mono (by decide)) rfl g__law_pair kp__law_pair b__law_pair .nil pass0 (pa_cons (pv 8) (pa_cons (pv 7) (pa_cons (pv 3) (pa_cons (pv 6) (pa_cons (pv 11) (pa_cons (pv 5) pa_nil)))))))))))) (pss_one (ps_ret pe_bl)) pss_nil)
        (pss_cons (ps_if (PW.pt (pw_or (pt_not (pt_val (pe_call G__law_whole (hr.mono (by decide)) rfl g__law_whole kp__law_whole b__law_whole .nil pass0 (pa_cons (pv 7) (pa_cons (pv 11) (pa_cons (pv 5) (pa_cons (pv 4) pa_nil))))))) (pw_or1 (pt_not (pt_val (pe_call G__law_whole (hr.mono (by decide)) rfl g__law_whole kp__law_whole b__law_whole .nil pass0 (pa_cons (pv 8) (pa_cons (pv 3) (pa_cons (pv 6) (pa_cons (pv 4) pa_nil)))))))))) (pss_one (ps_ret pe_bl)) pss_nil)
        (pss_cons (ps_asg (pe_call G__law_lowest (hr.mono (by decide)) rfl g__law_lowest kp__law_lowest b__law_lowest .nil pass0 (pa_cons (pv 11) (pa_cons (pv 5) pa_nil))) (pg_tup rfl (pgs_cons (pg_name (i := 9) sc_law.nd rfl (Or.inl rfl)) (pgs_cons (pg_name (i := 10) sc_law.nd rfl (Or.inl rfl)) pgs_nil))))
        (pss_cons (ps_if (pt_cmpR op_ne (pe_callTy (call_strO OT.m12 FStr (hr.mono (by decide)) pass0) rfl T.f_str (by decide +kernel) (pa_cons (pv 7) pa_nil)) (pe_ifExp (pt_cmpR op_eq (pv 10) pe_int (nomark _)) (pe_callTy call_str_int rfl T.f_str (by decide +kernel) (pa_cons (pv 9) pa_nil)) (pe_op op_add_str (pe_op op_add_str (pe_callTy call_str_int rfl T.f_str (by decide +kernel) (pa_cons (pv 9) pa_nil)) pe_str) (pe_callTy call_str_int rfl T.f_str (by decide +kernel) (pa_cons (pv 10) pa_nil)))) (nomark _)) (pss_one (ps_ret pe_bl)) pss_nil)
        (pss_one (ps_if (PW.pt (pw_or (pt_not (pt_val (pe_call G__law_is (hr.mono (by decide)) rfl g__law_is kp__law_is b__law_is .nil pass0 (pa_cons (StX.pe_makeR T.mkr R1 (hr.mono (by decide)) rfl T.mgC passL (pa_cons (pv 4) pa_nil)) (pa_cons (pv 4) (pa_cons pe_int pa_nil)))))) (pw_or1 (pt_not (pt_val (LamX.pe_lamcall (k := 3) (T := Tb) (TT := TTbad CO) (c := c) (P := Pt) (t := fun E => StX.tMakeR C (spInit C CO) E (tCons (tVar 11) (tCons (tC (.int 0)) tNil))) rfl gB kB lkB hcB bB sc_law_bad rfl (Or.inl rfl) (bad_gives TB) TBL rfl hmT hu (hr.mono (by decide)) (LamX.lamS_by (sc := defScope s_law) (by decide +kernel)) rfl (fun _ _ _ _ _ => rfl) (fun A outer s H E f c2 hr2 => StX.pe_makeR T.mkr R0 (hr2.mono (by decide)) rfl T.mgC (passes_call (takes_of rfl rfl rfl rfl) fun _ _ _ _ h => h) (pa_cons (pv 11) (pa_cons pe_int pa_nil))))))))) (pss_one (ps_ret pe_bl)) pss_nil))))))))))
        (pss_one (ps_ret (pe_and (pe_call G__law_is (hr.mono (by decide)) rfl g__law_is kp__law_is b__law_is .nil pass0 (pa_cons (StX.pe_makeR T.mkr R0 (hr.mono (by decide)) rfl T.mgC passL (pa_cons pe_int (pa_cons (pe_un un_neg pe_int) pa_nil))) (pa_cons pe_int (pa_cons pe_int pa_nil)))) (pe_and (pe_cmpR (op_neO OT.m9 OT.ne OT.cm OT.s1 FEq (hr.mono (by decide)) pass0) (StX.pe_makeR T.mkr R1 (hr.mono (by decide)) rfl T.mgC passL (pa_cons pe_int pa_nil)) pe_int (nomark _)) (pe_one (pe_not (pe_cmpR (op_eqO OT.m9 OT.s1 FEq (hr.mono (by decide)) pass0) (StX.pe_makeR T.mkr R1 (hr.mono (by decide)) rfl T.mgC passL (pa_cons pe_int pa_nil)) pe_int (nomark _))))))))))), ?_⟩
    refine ⟨_, rfl, a, ns, rfl, hS, fun p c ns' H0 S0 P0 => ?_⟩
    refine ⟨6, rfl, by decide, by decide, ?_⟩
    refine for_range (lo := 0) (n := 6) (fun i σ H => ∃ (i' l' : Int) (x2 x3 x4 x5 x6 x7 x8 x9 x10 x11 : Option V), σ = [some (.ref a), some (.ref p), x2, x3, x4, x5, x6, x7, x8, x9, x10, x11] ∧ PenAt H p c ns' i' l' ∧ i' ≤ 20 * i ∧ LamX.Tabs Tb H) ?_ ?_ ?_
    · exact ⟨0, 0, none, none, none, none, none, none, none, none, none, none, rfl, P0, by omega, hT.ext S0⟩
    · rintro i σ H hlt ⟨i', l', x2, x3, x4, x5, x6, x7, x8, x9, x10, x11, rfl, P1, hi, hT⟩
      have w9 : ∀ n : Int, 0 ≤ n → n < 2000 → n.natAbs < 2 ^ 9000 := fun n h0 h1 => Nat.lt_of_lt_of_le (show n.natAbs < 2 ^ 11 by omega) (Nat.pow_le_pow_right (by decide) (by decide))
      have c20 : (0 : Int) ≤ 20 ∧ (20 : Int) ≤ 1000000 ∧ (10 : Int).natAbs < 2 ^ 64 := by decide
      have e20 : (10 : Int) ^ (Int.toNat 20) = 100000000000000000000 := by decide
      have m20 : ∀ d : Int, 0 ≤ d → d < 1000 → CMulW d ((10 : Int) ^ (Int.toNat 20)) := fun d h0 h1 => wide_mul (a := 10) (b := 140) (by omega) (by rw [e20]; decide) (by decide) (by decide) (by decide)
      have i0 := P1.i0
      refine ⟨_, rfl, p, c, ns', i', l', rfl, P1, by omega, fun za i1 l1 H1 ba P2 c1 s1 => ?_⟩
      refine ⟨_, rfl, p, c, ns', i1, l1, rfl, P2, by omega, fun zc i2 l2 H2 bc P3 c2 s2 => ?_⟩
      refine ⟨_, rfl, p, c, ns', i2, l2, rfl, P3, by omega, fun zn i3 l3 H3 bn P4 c3 s3 => ?_⟩
      have sP := (s1.trans s2).trans s3
      refine ⟨(by show 3 ≤ sizeLine; decide), fun t ht => ⟨t, _, rfl, SqT.of upd_same, rfl, _, _, rfl, _, _, rfl, _, _, rfl, rfl, ?_⟩⟩
      have P5 := P4.same (same_upd (o := .tup [.int za, .int zc, .int zn]) ht)
      have sP := sP.trans (.of (same_upd (o := .tup [.int za, .int zc, .int zn]) ht))
      have i30 := P4.i0
      refine ⟨_, rfl, p, c, ns', i3, l3, 12, rfl, P5, by omega, by omega, w9 12 (by decide) (by decide), fun d1 i4 l4 a0 a1 b0 b1 c0 => ?_⟩
      have P6 := P5.to (i' := i4) (l' := l4) b0 c0 (by omega)
      have sP := sP.trans (PSame.pen (c := c) (i := i4) (l := l4))
      refine ⟨_, _, rfl, rfl, _, rfl, _, rfl, p, c, ns', i4, l4, 9, rfl, P6, by omega, by omega, w9 9 (by decide) (by decide), fun d2 i5 l5 a2 a3 b2 b3 c4 => ?_⟩
      have P7 := P6.to (i' := i5) (l' := l5) b2 c4 (by omega)
      have sP := sP.trans (PSame.pen (c := c) (i := i5) (l := l5))
      refine ⟨_, _, rfl, rfl, c20, _, _, rfl, rfl, m20 d2 a2 (by omega), _, _, rfl, rfl, _, _, rfl, ?_⟩
      have hT := tabs_ps hT sP ⟨_, P1.pen⟩
      obtain ⟨H4, hH4⟩ : ∃ H4, H4 = penTo (penTo (upd H3 t (.tup [.int za, .int zc, .int zn])) p c i4 l4) p c i5 l5 := ⟨_, rfl⟩
      rw [← hH4] at P7 hT
      obtain ⟨vb, hvb⟩ : ∃ vb : Int, vb = 1 + d1 := ⟨_, rfl⟩
      obtain ⟨vd, hvd⟩ : ∃ vd : Int, vd = -1 - d2 * (10 : Int) ^ (Int.toNat 20) := ⟨_, rfl⟩
      have bb : Bd 80 vb := by rw [hvb]; show (1 + d1).natAbs < 2 ^ 80; omega
      have bd : Bd 80 vd := by rw [hvd, e20]; show (-1 - d2 * 100000000000000000000).natAbs < 2 ^ 80; omega
      have nb : vb ≠ 0 := by omega
      have nd : vd ≠ 0 := by rw [hvd, e20]; omega
      show tSeq _ _ _ [some (V.ref a), some (V.ref p), some (V.int (0 + i)), some (V.int zc), some (V.int zn), some (V.int (1 + d1)), some (V.int (-1 - d2 * (10 : Int) ^ (Int.toNat 20))), x7, x8, x9, x10, some (V.int za)] (penTo (penTo (upd H3 t (.tup [.int za, .int zc, .int zn])) p c i4 l4) p c i5 l5)
      rw [← hH4, ← hvb, ← hvd]
      clear hH4 hvb hvd sP s1 s2 s3 ht P2 P3 P4 P5 P6
      -- the two fractions
      refine ⟨_, rfl, _, rfl, fun x dx nx ndx nex => ⟨x, dx, _, _, rfl, upd_same, Nat.lt_of_lt_of_le bb (Nat.pow_le_pow_right (by decide) (by decide)), fun z => absurd z nb, fun _ => ⟨rfl, ?_⟩⟩⟩
      have sx := made_same (C := C) (fs := fl (lowN za vb) (lowO za vb)) nx ndx
      obtain ⟨H5, hH5⟩ : ∃ H5, H5 = upd (upd (upd H4 dx (.own x)) x (.ins C dx [])) x (.ins C dx (fl (lowN za vb) (lowO za vb))) := ⟨_, rfl⟩
      have r1 : RatAt C H5 x (lowN za vb) (lowO za vb) := ⟨dx, by rw [hH5]; exact upd_same⟩
      rw [← hH5] at sx ⊢
      refine ⟨_, rfl, _, rfl, fun y dy ny ndy ney => ⟨y, dy, _, _, rfl, upd_same, Nat.lt_of_lt_of_le bd (Nat.pow_le_pow_right (by decide) (by decide)), fun z => absurd z nd, fun _ => ⟨rfl, _, _, rfl, ?_⟩⟩⟩
      have sy := made_same (C := C) (fs := fl (lowN zc vd) (lowO zc vd)) ny ndy
      obtain ⟨H6, hH6⟩ : ∃ H6, H6 = upd (upd (upd H5 dy (.own y)) y (.ins C dy [])) y (.ins C dy (fl (lowN zc vd) (lowO zc vd))) := ⟨_, rfl⟩
      have r2 : RatAt C H6 y (lowN zc vd) (lowO zc vd) := ⟨dy, by rw [hH6]; exact upd_same⟩
      rw [← hH6] at sy
      show tSeq _ _ _ [some (V.ref a), some (V.ref p), some (V.int (0 + i)), some (V.int zc), some (V.int zn), some (V.int vb), some (V.int vd), some (V.ref x), some (V.ref y), x9, x10, some (V.int za)] (upd (upd (upd H5 dy (.own y)) y (.ins C dy [])) y (.ins C dy (fl (lowN zc vd) (lowO zc vd))))
      rw [← hH6]
      have F1 : Frc C H6 x za vb := ⟨r1.same sy, nb, ba, bb⟩
      have F2 : Frc C H6 y zc vd := ⟨r2, nd, bc, bd⟩
      have P8 := P7.same (sx.trans sy)
      have hT := hT.ext (sx.trans sy)
      clear hH5 hH6 sx sy r1 r2 nx ndx nex ny ndy ney P7
      -- pairs, wholes
      refine ⟨_, rfl, _, rfl, _, rfl, _, rfl, _, rfl, _, rfl, x, y, za, vb, zc, vd, rfl, F1, F2, hT, fun H7 X7 hT => ⟨_, rfl, iteF ?_⟩⟩
      have F1 := F1.ext X7
      have F2 := F2.ext X7
      have P8 := P8.ext X7
      refine ⟨_, rfl, _, rfl, _, rfl, _, rfl, _, rfl, _, rfl, y, x, zc, vd, za, vb, rfl, F2, F1, hT, fun H8 X8 hT => ⟨_, rfl, iteF ?_⟩⟩
      have F1 := F1.ext X8
      have F2 := F2.ext X8
      have P8 := P8.ext X8
      refine ⟨_, rfl, _, rfl, _, rfl, _, rfl, x, za, vb, zn, rfl, F1, bn, hT, fun H9 X9 hT => ⟨_, rfl, iteF ?_⟩⟩
      have F1 := F1.ext X9
      have F2 := F2.ext X9
      have P8 := P8.ext X9
      refine ⟨_, rfl, _, rfl, _, rfl, _, rfl, y, zc, vd, zn, rfl, F2, bn, hT, fun H10 X10 hT => ⟨_, rfl, iteF ?_⟩⟩
      have F1 := F1.ext X10
      have P8 := P8.ext X10
      -- lowest, str
      refine ⟨_, rfl, _, rfl, za, vb, rfl, nb, mid ba, mid bb, fun t ht => ⟨t, _, rfl, SqT.of upd_same, rfl, _, _, rfl, _, _, rfl, rfl, ?_⟩⟩
      have st := same_upd (o := .tup [.int (lowN za vb), .int (lowO za vb)]) ht
      obtain ⟨H11, hH11⟩ : ∃ H11, H11 = upd H10 t (.tup [.int (lowN za vb), .int (lowO za vb)]) := ⟨_, rfl⟩
      rw [← hH11] at st ⊢
      have F1 := F1.same st
      have P8 := P8.same st
      have hT := hT.ext st
      clear st hH11 ht
      have sN := small_N (a := za) nb ba
      have sO := small_O (a := za) nb bb
      have l1 := tS_len sN
      have l2 := tS_len sO
      have l3 : (Str.ofString "/").length = 1 := by decide +kernel
      have lim : 3000 ≤ sizeLine := by decide
      refine ⟨_, rfl, _, rfl, F1.at_.ins, x, _, _, rfl, F1.at_, ⟨sN, sO⟩, _, rfl, _, rfl, rfl, _, rfl, ?_⟩
      refine ite2 (fun hd => ?_) (fun hd => ?_)
      have e1 : lowO za vb = 1 := by injection of_decide_eq_true hd
      refine ⟨_, rfl, _, rfl, log_small sN, rfl, _, rfl, ?_⟩
      have e2 : ratS (lowN za vb) (lowO za vb) = Str.ofString (toString (lowN za vb)) := if_pos e1
      rw [e2]
      refine ite2 (fun z => absurd z (by simp)) fun _ => ?_
      rotate_left
      have e1 : lowO za vb ≠ 1 := fun z => hd (by rw [z]; exact decide_eq_true rfl)
      have e2 : ratS (lowN za vb) (lowO za vb) = Str.ofString (toString (lowN za vb)) ++ "/" ++ Str.ofString (toString (lowO za vb)) := if_neg e1
      refine ⟨_, rfl, _, rfl, log_small sN, _, _, rfl, rfl, ?_, _, rfl, _, rfl, log_small sO, _, _, rfl, rfl, ?_, rfl, _, rfl, ?_⟩
      · show (tS (lowN za vb)).length + (Str.ofString "/").length ≤ sizeLine
        omega
      · show (tS (lowN za vb) ++ Str.ofString "/").length + (tS (lowO za vb)).length ≤ sizeLine
        rw [app_len]
        omega
      rw [e2]
      refine ite2 (fun z => absurd z (by simp)) fun _ => ?_
      -- an integer's fraction; over 0
      all_goals
        refine ⟨_, rfl, fun x2 dx2 nx ndx ne => ⟨x2, dx2, zn, 1, rfl, upd_same, by decide, fun z => absurd z (by decide), fun _ => ⟨rfl, _, rfl, ?_⟩⟩⟩
        have sx := made_same (C := C) (fs := fl (lowN zn 1) (lowO zn 1)) nx ndx
        have P8 := P8.same sx
        have hT := hT.ext sx
        refine ⟨x2, zn, 1, rfl, ⟨dx2, upd_same⟩, by decide, mid bn, (by show (1 : Int).natAbs < 2 ^ 600; decide), fun H13 S13 => ⟨_, rfl, iteF ?_⟩⟩
        refine ⟨hT.ext S13, fun H14 X14 hT => ?_⟩
        have P8 := (P8.same S13).ext X14
        refine ⟨_, rfl, fun x3 dx3 nx3 nd3 ne3 => ⟨x3, dx3, za, 0, rfl, upd_same, by decide, fun _ => ⟨rfl, rfl, _, rfl, iteF ?_⟩, fun z => absurd rfl z⟩⟩
        have s3 := made0 (C := C) nx3 nd3
        refine ⟨i5, l5, _, _, _, _, _, _, _, _, _, _, rfl, P8.same s3, by omega, hT.ext s3⟩
    · rintro σ H ⟨i', l', x2, x3, x4, x5, x6, x7, x8, x9, x10, x11, rfl, P1, hi, hT⟩
      have e0 := low_congr (a := 0) (b := -7) (a' := 0) (b' := 1) (by decide) (by decide) (by decide)
      have m1 : Mid 1 := by show (1 : Int).natAbs < 2 ^ 600; decide
      have m0 : Mid 0 := by show (0 : Int).natAbs < 2 ^ 600; decide
      refine ⟨_, rfl, fun x dx nx nd ne => ⟨x, dx, 0, -7, rfl, upd_same, by decide, fun z => absurd z (by decide), fun _ => ⟨rfl, x, 0, 1, rfl, RatAt.cast ⟨dx, upd_same⟩ e0.1 e0.2, by decide, m0, m1, fun H1 S1 => ⟨_, rfl, iteT ?_⟩⟩⟩⟩
      refine fun x2 dx2 nx2 nd2 ne2 => ⟨x2, dx2, 2, 1, rfl, upd_same, by decide, fun z => absurd z (by decide), fun _ => ⟨rfl, RatAt.ins ⟨dx2, upd_same⟩, .inr ⟨2, rfl⟩, x2, .int 2, _, _, rfl, ⟨dx2, upd_same⟩, .inr ⟨2, rfl, false, rfl, _, rfl, iteT ?_⟩⟩⟩
      refine fun x3 dx3 nx3 nd3 ne3 => ⟨x3, dx3, 2, 1, rfl, upd_same, by decide, fun z => absurd z (by decide), fun _ => ⟨rfl, RatAt.ins ⟨dx3, upd_same⟩, .inr ⟨2, rfl⟩, x3, .int 2, _, _, rfl, ⟨dx3, upd_same⟩, .inr ⟨2, rfl, false, rfl, ?_⟩⟩⟩
      exact k _
end
end Wk

namespace Wk
open PySem PySem.Spec PyProof.Rows L2 NumR
/-! ### the text's defs -/
def mkD (x : Str) (st : Stmt) : He.DefD := ⟨(x, none), x, x, defArgs st, defBody st, defScope st, [], []⟩
def mkM (C m q : Str) (st : Stmt) (dv : List He.Dv := []) : He.DefD := ⟨(C, some m), m, q, defArgs st, defBody st, defScope st, dv, []⟩
def dIn : He.DefD := mkM "Ratio" "__init__" "Ratio.__init__" s_Ratio_init [.int 1]
def fn : List He.DefD := [dIn, mkM "Ratio" "__add__" "Ratio.__add__" s_Ratio_add, mkM "Ratio" "__sub__" "Ratio.__sub__" s_Ratio_sub, mkM "Ratio" "__mul__" "Ratio.__mul__" s_Ratio_mul,
  mkM "Ratio" "__radd__" "Ratio.__radd__" s_Ratio_radd, mkM "Ratio" "__rsub__" "Ratio.__rsub__" s_Ratio_rsub, mkM "Ratio" "__rmul__" "Ratio.__rmul__" s_Ratio_rmul, mkM "Ratio" "__neg__" "Ratio.__neg__" s_Ratio_neg,
  mkM "Ratio" "__abs__" "Ratio.__abs__" s_Ratio_abs, mkM "Ratio" "__eq__" "Ratio.__eq__" s_Ratio_eq, mkM "Ratio" "is_less" "Ratio.is_less" s_Ratio_is_less, mkM "Ratio" "divided" "Ratio.divided" s_Ratio_divided,
  mkM "Ratio" "__str__" "Ratio.__str__" s_Ratio_str, mkD "parts" s_parts, mkD "_law_pen_of" s_law_pen_of, mkD "_law_draw" s_law_draw, mkD "_law_pick" s_law_pick, mkD "_law_number_of" s_law_number_of,
  mkD "_law_lowest" s_law_lowest, mkD "_law_is" s_law_is, mkD "_law_bad" s_law_bad, mkD "_law_pair" s_law_pair, mkD "_law_whole" s_law_whole, mkD "law" s_law]
def fa : List He.Fa := [.cls "Ratio", .noat "Ratio" "number", .noat "Ratio" "over", .glo "Ratio", .mkr "Ratio", .free "abs", .free "isinstance", .free "str", .glo "BadOver", .exc "BadOver", .glo "SumsError", .exm "BadOver" "BadOver" true,
  .meth "Ratio" "__add__", .meth "Ratio" "__sub__", .meth "Ratio" "__mul__", .meth "Ratio" "__radd__", .meth "Ratio" "__rsub__", .meth "Ratio" "__rmul__", .meth "Ratio" "__neg__", .meth "Ratio" "__abs__", .meth "Ratio" "__eq__",
  .meth "Ratio" "is_less", .meth "Ratio" "divided", .meth "Ratio" "__str__", .glo "parts", .glo "_law_pen_of", .glo "_law_draw", .glo "_law_pick", .glo "_law_number_of", .glo "_law_lowest", .glo "_law_is", .glo "_law_bad", .glo "_law_pair", .glo "_law_whole",
  .glo "law", .free "int", .free "len", .free "all", .free "range", .free "list"]
/-- what else is read off -/
def exL (K : PySem.W.Frag) : List Bool :=
  [decide (PySem.W.nsIn K mainGlobals "gcd" = some (some (.builtin "math.gcd"))),
   decide (PySem.W.findIn K (.ref (He.ga K "Ratio")) "__class__" = some (some (.builtin "object.__class__"))),
   decide (PySem.W.specialIn K (.builtin "object.__class__") "__get__" = some (some (.builtin "getset_descriptor.__get__"))),
   decide (PySem.W.takesIn K (.builtin "object.__class__") = some true),
   decide (PySem.W.mroIn K (He.ga K "Ratio") (.type "object") = some true),
   decide (PySem.W.kitOne K (.ref (He.ga K "Ratio")) (.ref (He.ga K "Ratio")) = some true),
   decide (PySem.W.kitOne K (.type "int") (.ref (He.ga K "Ratio")) = some false),
   PySem.W.selfFirst K (He.ga K "Ratio"),
   (PySem.W.findIn K (.type "int") "__add__").isSome, (PySem.W.findIn K (.type "int") "__sub__").isSome, (PySem.W.findIn K (.type "int") "__mul__").isSome,
   (PySem.W.findIn K (.type "int") "__radd__").isSome, (PySem.W.findIn K (.type "int") "__rsub__").isSome, (PySem.W.findIn K (.type "int") "__rmul__").isSome,
   decide (PySem.W.subIn K (.type "int") (.ref (He.ga K "Ratio")) = some false),
   decide (PySem.W.subIn K (.ref (He.ga K "Ratio")) (.type "int") = some false),
   decide (PySem.W.findIn K (.ref (He.ga K "Ratio")) "__ne__" = some (some (.builtin "object.__ne__"))),
   decide (PySem.W.findIn K (.ref (He.ga K "BadOver")) "__getattribute__" = some (some (.builtin "BaseException.__getattribute__"))),
   decide (PySem.W.findIn K (.ref (He.ga K "BadOver")) "__getattr__" = some none),
   PySem.W.hasDictIn K (He.ga K "BadOver"),
   decide (PySem.W.findIn K (.ref (He.ga K "BadOver")) "__class__" = some (some (.builtin "object.__class__"))),
   decide (PySem.W.mroIn K (He.ga K "BadOver") (.type "object") = some true),
   decide (PySem.W.kitOne K (.ref (He.ga K "BadOver")) (.ref (He.ga K "SumsError")) = some true),
   decide ((He.cT K ("_law_pair", none)).2 ≠ (He.cT K ("_law_whole", none)).2),
   decide ((He.cT K ("_law_pair", none)).2 ≠ (He.cT K ("law", none)).2),
   decide ((He.cT K ("_law_whole", none)).2 ≠ (He.cT K ("law", none)).2)]
def exB (K : PySem.W.Frag) : Bool := (exL K).all id
theorem ex_at {K : PySem.W.Frag} (c : exB K = true) (i : Nat) {b : Bool} (h : (exL K)[i]? = some b := by rfl) : b = true := List.all_eq_true.mp c b (List.mem_of_getElem? h)
def tf : List He.Defn := [("_law_pair", none), ("_law_whole", none), ("law", none)]
abbrev RW19 : PySem.W.OpenRow := PySem.W.OpenLaw.row PySem.Challenge.rw_guardsums_k19_ratios
abbrev hk : PySem.W.Hook := He.hookX 5 fa fn [] tf exB
def ob (s : PySem.W.SharedT) : He.AlX := He.obsX 5 fa fn [] tf exB (HandSHeadRun.getT s)
theorem ob_eq (s : PySem.W.SharedT) : ob s = hk.obs s.abs := He.obsX_eq (HandSHeadRun.getT_eq s)
def names : List Str := ["SumsError", "BadOver", "Ratio", "parts", "_law_pen_of", "_law_draw", "_law_pick", "_law_number_of", "_law_lowest", "_law_is", "_law_bad", "_law_pair", "_law_whole"]
theorem run (w : World) : HandSHeadRun.RunEqI RW19 (PySem.W.view RW19.prog [0, 17]) hk ob 3000 names w := by
  unfold HandSHeadRun.RunEqI
  kernel_rfl
end Wk

namespace Wk
open PySem PySem.Spec PyProof.Rows L2 NumR
theorem fun_at {K : PySem.W.Frag} {x qual : Str} {st : Stmt} {f : Addr} {fd : FuncData} (F : FnM K x qual st f fd) : Fun K x qual st f fd := by
  obtain ⟨oc, od, dV, kV, doc, pm, an, cdv, ct, osl, e, l, c, hd, _⟩ := F.ex
  rcases hd with ⟨_, e2⟩ | ⟨e2, _⟩
  · subst e2
    exact ⟨⟨oc, od, kV, doc, pm, an, cdv, ct, osl, e, l, c⟩, F.kp⟩
  · exact absurd rfl e2
def gA (K : PySem.W.Frag) : Nat → Addr
  | 1 => He.ma K (He.ga K "Ratio") "__add__"
  | 2 => He.ma K (He.ga K "Ratio") "__sub__"
  | 3 => He.ma K (He.ga K "Ratio") "__mul__"
  | 4 => He.ma K (He.ga K "Ratio") "__radd__"
  | 5 => He.ma K (He.ga K "Ratio") "__rsub__"
  | 6 => He.ma K (He.ga K "Ratio") "__rmul__"
  | 7 => He.ma K (He.ga K "Ratio") "__neg__"
  | 8 => He.ma K (He.ga K "Ratio") "__abs__"
  | 9 => He.ma K (He.ga K "Ratio") "__eq__"
  | 10 => He.ma K (He.ga K "Ratio") "is_less"
  | 11 => He.ma K (He.ga K "Ratio") "divided"
  | 12 => He.ma K (He.ga K "Ratio") "__str__"
  | _ => 0
def tb3 (K : PySem.W.Frag) : List (Addr × Str) := [((He.cT K ("_law_pair", none)).2, lamQ "_law_pair"), ((He.cT K ("_law_whole", none)).2, lamQ "_law_whole"), ((He.cT K ("law", none)).2, lamQ "law")]
section
variable {P : Program} {w : World} {K : PySem.W.Frag} {mg : Str → Option Value} {h base : Heap}
abbrev aC (K : PySem.W.Frag) : Addr := He.ga K "Ratio"
abbrev aO (K : PySem.W.Frag) : Addr := He.ga K "BadOver"
abbrev aI (K : PySem.W.Frag) : Addr := He.ma K (He.ga K "Ratio") "__init__"
theorem txt_r (X : K.In h) (G : h.Ns mainGlobals mg) (c : He.SaysX fa fn [] tf exB w h K) : TxtR K mg (aC K) (aO K) (aI K) := by
  have cd := c.t.d
  obtain ⟨x1, x2, x3, x4⟩ := He.exc_ok (cd.fact 9 (f := .exc "BadOver") rfl)
  exact { cl := He.cls_ok (cd.fact 0 (f := .cls "Ratio") rfl), nN := He.noat_ok (cd.fact 1 (f := .noat "Ratio" "number") rfl), nO := He.noat_ok (cd.fact 2 (f := .noat "Ratio" "over") rfl), mgC := (He.glo_ok X G (cd.fact 3 (f := .glo "Ratio") rfl)), mkr := He.mkr_ok (cd.fact 4 (f := .mkr "Ratio") rfl), b_gcd := PySem.W.mg_of X G (of_decide_eq_true (ex_at c.more 0)), f_abs := (He.free_ok X G (cd.fact 5 (f := .free "abs") rfl)), f_isinstance := (He.free_ok X G (cd.fact 6 (f := .free "isinstance") rfl)), f_str := (He.free_ok X G (cd.fact 7 (f := .free "str") rfl)), gO := (He.glo_ok X G (cd.fact 8 (f := .glo "BadOver") rfl)), xO := x1, kO := x2, bO := x3, tO := x4, ca := (of_decide_eq_true (ex_at c.more 1)), cn := (of_decide_eq_true (ex_at c.more 2)), ct := (of_decide_eq_true (ex_at c.more 3)), cm := (of_decide_eq_true (ex_at c.more 4)), k1 := (of_decide_eq_true (ex_at c.more 5)), k2 := (of_decide_eq_true (ex_at c.more 6)) }
theorem op_t (c : He.SaysX fa fn [] tf exB w h K) : OpT K (aC K) (gA K) := by
  have cd := c.t.d
  exact { first := (ex_at c.more 7), m1 := (He.meth_ok (cd.fact 12 (f := .meth "Ratio" "__add__") rfl)), m2 := (He.meth_ok (cd.fact 13 (f := .meth "Ratio" "__sub__") rfl)), m3 := (He.meth_ok (cd.fact 14 (f := .meth "Ratio" "__mul__") rfl)), m4 := (He.meth_ok (cd.fact 15 (f := .meth "Ratio" "__radd__") rfl)), m5 := (He.meth_ok (cd.fact 16 (f := .meth "Ratio" "__rsub__") rfl)), m6 := (He.meth_ok (cd.fact 17 (f := .meth "Ratio" "__rmul__") rfl)), m7 := (He.meth_ok (cd.fact 18 (f := .meth "Ratio" "__neg__") rfl)), m8 := (He.meth_ok (cd.fact 19 (f := .meth "Ratio" "__abs__") rfl)), m9 := (He.meth_ok (cd.fact 20 (f := .meth "Ratio" "__eq__") rfl)), m10 := (He.meth_ok (cd.fact 21 (f := .meth "Ratio" "is_less") rfl)), m11 := (He.meth_ok (cd.fact 22 (f := .meth "Ratio" "divided") rfl)), m12 := (He.meth_ok (cd.fact 23 (f := .meth "Ratio" "__str__") rfl)), i1 := (ex_at c.more 8), i2 := (ex_at c.more 9), i3 := (ex_at c.more 10), i4 := (ex_at c.more 11), i5 := (ex_at c.more 12), i6 := (ex_at c.more 13), s1 := (of_decide_eq_true (ex_at c.more 14)), s2 := (of_decide_eq_true (ex_at c.more 15)), ne := (of_decide_eq_true (ex_at c.more 16)), cm := (of_decide_eq_true (ex_at c.more 4)) }
theorem txt_b (X : K.In h) (G : h.Ns mainGlobals mg) (c : He.SaysX fa fn [] tf exB w h K) : TxtB K mg (aO K) (He.ga K "SumsError") := by
  have cd := c.t.d
  obtain ⟨x1, x2, x3, x4⟩ := He.exc_ok (cd.fact 9 (f := .exc "BadOver") rfl)
  exact { gO := (He.glo_ok X G (cd.fact 8 (f := .glo "BadOver") rfl)), gS := (He.glo_ok X G (cd.fact 10 (f := .glo "SumsError") rfl)), f_isinstance := (He.free_ok X G (cd.fact 6 (f := .free "isinstance") rfl)), ex := { hg := (of_decide_eq_true (ex_at c.more 17)), hk := (of_decide_eq_true (ex_at c.more 18)), hs := x3, hd := (ex_at c.more 19), ha := (of_decide_eq_true (ex_at c.more 20)), hn := (of_decide_eq_true (ex_at c.more 2)), ht := (of_decide_eq_true (ex_at c.more 3)), hm := (of_decide_eq_true (ex_at c.more 21)) }, te := He.exm_ok (cd.fact 11 (f := .exm "BadOver" "BadOver" true) rfl), kS := (of_decide_eq_true (ex_at c.more 22)) }
theorem txt_a (X : K.In h) (G : h.Ns mainGlobals mg) (c : He.SaysX fa fn [] tf exB w h K) : TxtA mg := by
  have cd := c.t.d
  exact ⟨(He.free_ok X G (cd.fact 35 (f := .free "int") rfl)), (He.free_ok X G (cd.fact 36 (f := .free "len") rfl)), (He.free_ok X G (cd.fact 5 (f := .free "abs") rfl))⟩
theorem law_at (X : K.In h) (G : h.Ns mainGlobals mg) {fL : Addr} (hfa : mg "law" = some (.ref fL)) (c : He.SaysX fa fn [] tf exB w h K) : LamX.LawAtS PySem.Challenge.rw_guardsums_k19_ratios w K CX0 7 63 "_law_script" mg fL h := by
  have cd := c.t.d
  have eL := hfa.symm.trans (He.glo_ok X G (cd.fact 34 (f := .glo "law") rfl))
  cases eL
  have T := txt_r X G c
  have OT := op_t c
  have TB := txt_b X G c
  have TA := txt_a X G c
  obtain ⟨dI, FI⟩ := cd.def_ 0 (d := dIn) rfl
  have FI : FunD K "__init__" "Ratio.__init__" (defArgs s_Ratio_init) (defBody s_Ratio_init) (defScope s_Ratio_init) [.int 1] [] (aI K) dI := FI
  obtain ⟨d1, F1⟩ := cd.def_ 1 (d := mkM "Ratio" "__add__" "Ratio.__add__" s_Ratio_add) rfl
  obtain ⟨d2, F2⟩ := cd.def_ 2 (d := mkM "Ratio" "__sub__" "Ratio.__sub__" s_Ratio_sub) rfl
  obtain ⟨d3, F3⟩ := cd.def_ 3 (d := mkM "Ratio" "__mul__" "Ratio.__mul__" s_Ratio_mul) rfl
  obtain ⟨d4, F4⟩ := cd.def_ 4 (d := mkM "Ratio" "__radd__" "Ratio.__radd__" s_Ratio_radd) rfl
  obtain ⟨d5, F5⟩ := cd.def_ 5 (d := mkM "Ratio" "__rsub__" "Ratio.__rsub__" s_Ratio_rsub) rfl
  obtain ⟨d6, F6⟩ := cd.def_ 6 (d := mkM "Ratio" "__rmul__" "Ratio.__rmul__" s_Ratio_rmul) rfl
  obtain ⟨d7, F7⟩ := cd.def_ 7 (d := mkM "Ratio" "__neg__" "Ratio.__neg__" s_Ratio_neg) rfl
  obtain ⟨d8, F8⟩ := cd.def_ 8 (d := mkM "Ratio" "__abs__" "Ratio.__abs__" s_Ratio_abs) rfl
  obtain ⟨d9, F9⟩ := cd.def_ 9 (d := mkM "Ratio" "__eq__" "Ratio.__eq__" s_Ratio_eq) rfl
  obtain ⟨d10, F10⟩ := cd.def_ 10 (d := mkM "Ratio" "is_less" "Ratio.is_less" s_Ratio_is_less) rfl
  obtain ⟨d11, F11⟩ := cd.def_ 11 (d := mkM "Ratio" "divided" "Ratio.divided" s_Ratio_divided) rfl
  obtain ⟨d12, F12⟩ := cd.def_ 12 (d := mkM "Ratio" "__str__" "Ratio.__str__" s_Ratio_str) rfl
  obtain ⟨dP, FP⟩ := cd.def_ 13 (d := mkD "parts" s_parts) rfl
  obtain ⟨dpen, Fpen⟩ := cd.def_ 14 (d := mkD "_law_pen_of" s_law_pen_of) rfl
  obtain ⟨ddraw, Fdraw⟩ := cd.def_ 15 (d := mkD "_law_draw" s_law_draw) rfl
  obtain ⟨dpick, Fpick⟩ := cd.def_ 16 (d := mkD "_law_pick" s_law_pick) rfl
  obtain ⟨dnum, Fnum⟩ := cd.def_ 17 (d := mkD "_law_number_of" s_law_number_of) rfl
  obtain ⟨dlow, Flow⟩ := cd.def_ 18 (d := mkD "_law_lowest" s_law_lowest) rfl
  obtain ⟨dis, Fis⟩ := cd.def_ 19 (d := mkD "_law_is" s_law_is) rfl
  obtain ⟨dbad, Fbad⟩ := cd.def_ 20 (d := mkD "_law_bad" s_law_bad) rfl
  obtain ⟨dpair, Fpair⟩ := cd.def_ 21 (d := mkD "_law_pair" s_law_pair) rfl
  obtain ⟨dwhole, Fwhole⟩ := cd.def_ 22 (d := mkD "_law_whole" s_law_whole) rfl
  obtain ⟨dlaw, Flaw⟩ := cd.def_ 23 (d := mkD "law" s_law) rfl
  have key : ∀ p ∈ tf, PySem.W.codeHdIn K (He.cT K p).1 (He.cT K p).2 = true := c.hd
  refine ⟨dlaw, tf.map (He.cT K), spLaw K (tb3 K), ?_, ?_, ?_, ?_, ?_, ?_⟩
  · intro p hp
    obtain ⟨q, hq, rfl⟩ := List.mem_map.mp hp
    exact c.empty q hq
  · intro p hp
    obtain ⟨q, hq, rfl⟩ := List.mem_map.mp hp
    exact c.out q hq
  · intro p hp
    obtain ⟨q, hq, rfl⟩ := List.mem_map.mp hp
    exact PySem.W.codeHd_of_K X (c.hd q hq)
  · intro s u
    exact (FunD.bindsA (ps := ["_law_script"]) Flaw fun _ _ _ _ _ _ us hl => match us, hl with | [_], _ => rfl) s [u] rfl
  · intro H a ns hl hb hT hS
    refine ⟨a, ns, rfl, hS, fun p hp => ?_, fun _ => rfl⟩
    have hz : ∃ q ∈ tf, p.1 = (He.cT K q).2 := by
      simp only [tb3, List.mem_cons, List.not_mem_nil, or_false] at hp
      rcases hp with rfl | rfl | rfl
      · exact ⟨("_law_pair", none), by simp [tf], rfl⟩
      · exact ⟨("_law_whole", none), by simp [tf], rfl⟩
      · exact ⟨("law", none), by simp [tf], rfl⟩
    obtain ⟨q, hq, e⟩ := hz
    have hn := hT _ (List.mem_map_of_mem (f := He.cT K) hq)
    exact LamX.TabS.nil (by rw [e]; exact hn)
  · intro base Kb Gb hTB
    have GI := ok_init (P := PySem.Challenge.rw_guardsums_k19_ratios.prog) (w := w) (base := base) FI T
    obtain ⟨ds0, r0, b0⟩ := FunD.binds1 (ps := ["self", "number", "over"]) FI 3 1 (by simp) (by simp) (fun T kV doc pm an cdv ct us its h1 h2 => match us, its, h1, h2 with | [_, _, _], [_], _, _ => ⟨_, rfl, rfl⟩)
    have e0 : ds0 = [] := by cases r0; rfl
    subst e0
    obtain ⟨ds1, r1, b1⟩ := FunD.binds1 (ps := ["self", "number", "over"]) FI 2 0 (by simp) (by simp) (fun T kV doc pm an cdv ct us its h1 h2 => match us, its, h1, h2 with | [_, _], [_], _, _ => ⟨_, rfl, rfl⟩)
    have R0 := r0_of GI b0
    have R1 := GI.raw b1 r1
    have GP := ok_parts (P := PySem.Challenge.rw_guardsums_k19_ratios.prog) (w := w) (base := base) FP T
    have gP := (He.glo_ok X G (cd.fact 24 (f := .glo "parts") rfl))
    have bP : Binds K dP ["value"] [] := (FunD.bindsN FP fun _ _ _ _ _ _ us hl => match us, hl with | [_], _ => rfl)
    have O : Ops PySem.Challenge.rw_guardsums_k19_ratios.prog w K mg base (aC K) (gA K) := {
      t := OT
      f1 := r0_of (ok_add T GI b0 GP gP FP.kp bP F1) (FunD.bindsN F1 fun _ _ _ _ _ _ us hl => match us, hl with | [_, _], _ => rfl)
      f2 := r0_of (ok_sub T GI b0 GP gP FP.kp bP F2) (FunD.bindsN F2 fun _ _ _ _ _ _ us hl => match us, hl with | [_, _], _ => rfl)
      f3 := r0_of (ok_mul T GI b0 GP gP FP.kp bP F3) (FunD.bindsN F3 fun _ _ _ _ _ _ us hl => match us, hl with | [_, _], _ => rfl)
      f7 := r0_of (ok_neg T GI b0 F7) (FunD.bindsN F7 fun _ _ _ _ _ _ us hl => match us, hl with | [_], _ => rfl) }
    have OR : OpsR PySem.Challenge.rw_guardsums_k19_ratios.prog w K mg base (aC K) (gA K) := {
      t := OT
      f4 := r0_of (ok_radd F4 O) (FunD.bindsN F4 fun _ _ _ _ _ _ us hl => match us, hl with | [_, _], _ => rfl)
      f5 := r0_of (ok_rsub F5 O) (FunD.bindsN F5 fun _ _ _ _ _ _ us hl => match us, hl with | [_, _], _ => rfl)
      f6 := r0_of (ok_rmul F6 O) (FunD.bindsN F6 fun _ _ _ _ _ _ us hl => match us, hl with | [_, _], _ => rfl) }
    have Glow := ok_low (P := PySem.Challenge.rw_guardsums_k19_ratios.prog) (w := w) (base := base) (fun_at Flow) TA
    have blow : Binds K dlow ["_law_number", "_law_over"] [] := (FunD.bindsN Flow fun _ _ _ _ _ _ us hl => match us, hl with | [_, _], _ => rfl)
    have Gdraw := ok_draw (P := PySem.Challenge.rw_guardsums_k19_ratios.prog) (w := w) (base := base) (fun_at Fdraw) TA
    have bdraw : Binds K ddraw ["_law_pen", "_law_many"] [] := (FunD.bindsN Fdraw fun _ _ _ _ _ _ us hl => match us, hl with | [_, _], _ => rfl)
    have Gpick := ok_pick (fun_at Fpick) TA Gdraw (He.glo_ok X G (cd.fact 26 (f := .glo "_law_draw") rfl)) Fdraw.kp bdraw
    have bpick : Binds K dpick ["_law_pen", "_law_items"] [] := (FunD.bindsN Fpick fun _ _ _ _ _ _ us hl => match us, hl with | [_, _], _ => rfl)
    have V : Env1 PySem.Challenge.rw_guardsums_k19_ratios.prog w K mg base (aC K) (aO K) (He.ga K "SumsError") (aI K) (gA K) := {
      T := T
      TB := TB
      O := O
      FEq := r0_of (ok_eq F9 T) (FunD.bindsN F9 fun _ _ _ _ _ _ us hl => match us, hl with | [_, _], _ => rfl)
      FAbs := r0_of (ok_abs T GI b0 F8) (FunD.bindsN F8 fun _ _ _ _ _ _ us hl => match us, hl with | [_], _ => rfl)
      FLess := r0_of (ok_less T GI b0 GP gP FP.kp bP F10) (FunD.bindsN F10 fun _ _ _ _ _ _ us hl => match us, hl with | [_, _], _ => rfl)
      FDiv := r0_of (ok_div T GI b0 GP gP FP.kp bP F11) (FunD.bindsN F11 fun _ _ _ _ _ _ us hl => match us, hl with | [_, _], _ => rfl)
      dIs := ⟨_, _, ok_is (fun_at Fis) T Glow (He.glo_ok X G (cd.fact 29 (f := .glo "_law_lowest") rfl)) Flow.kp blow, (He.glo_ok X G (cd.fact 30 (f := .glo "_law_is") rfl)), Fis.kp, (FunD.bindsN Fis fun _ _ _ _ _ _ us hl => match us, hl with | [_, _, _], _ => rfl)⟩
      bad := by
        obtain ⟨oc, od, dV, kV, doc, pm, an, cdv, ct, osl, e, lk, hcd, _⟩ := Fbad.ex
        have bb : Binds K dbad ["_law_call"] [] := (FunD.bindsN Fbad fun _ _ _ _ _ _ us hl => match us, hl with | [_], _ => rfl)
        cases e
        exact ⟨_, oc, od, dV, kV, doc, pm, an, cdv, ct, osl, (He.glo_ok X G (cd.fact 31 (f := .glo "_law_bad") rfl)), Fbad.kp, lk, hcd, bb⟩ }
    have n1 : (He.cT K ("_law_pair", none)).2 ≠ (He.cT K ("_law_whole", none)).2 := (of_decide_eq_true (ex_at c.more 23))
    have n2 : (He.cT K ("_law_pair", none)).2 ≠ (He.cT K ("law", none)).2 := (of_decide_eq_true (ex_at c.more 24))
    have n3 : (He.cT K ("_law_whole", none)).2 ≠ (He.cT K ("law", none)).2 := (of_decide_eq_true (ex_at c.more 25))
    have tbl : ∀ (p : He.Defn) (cc : Addr), p ∈ tf → He.codeOf K p = cc → LamX.TabB base mg cc (He.cT K p).2 := fun p cc hp e => by
      have z := hTB _ (List.mem_map_of_mem (f := He.cT K) hp)
      rw [← e]
      exact z
    have dPair : Dn PySem.Challenge.rw_guardsums_k19_ratios.prog w K mg base CX0 6 "_law_pair" ["_law_one", "_law_other", "_law_a", "_law_b", "_law_c", "_law_d"] (spPair (aC K) (tb3 K)) := by
      have bb : Binds K dpair ["_law_one", "_law_other", "_law_a", "_law_b", "_law_c", "_law_d"] [] := (FunD.bindsN Fpair fun _ _ _ _ _ _ us hl => match us, hl with | [_, _, _, _, _, _], _ => rfl)
      have kp := Fpair.kp
      obtain ⟨oc, od, dV, kV, doc, pm, an, cdv, ct, osl, e, lk, hcd, _⟩ := Fpair.ex
      obtain ⟨cc, rfl⟩ := He.codeIn_ref hcd
      cases e
      exact ⟨_, _, ok_pair V lk hcd (tbl ("_law_pair", none) cc (by simp [tf]) (He.codeOf_eq lk rfl)) (by simp [tb3]) (fun p hp e => by
        simp only [tb3, List.mem_cons, List.not_mem_nil, or_false] at hp
        rcases hp with rfl | rfl | rfl
        · rfl
        · exact absurd e.symm n1
        · exact absurd e.symm n2), (He.glo_ok X G (cd.fact 32 (f := .glo "_law_pair") rfl)), kp, bb⟩
    have dWhole : Dn PySem.Challenge.rw_guardsums_k19_ratios.prog w K mg base CX0 6 "_law_whole" ["_law_one", "_law_a", "_law_b", "_law_n"] (spWhole (aC K) (tb3 K)) := by
      have bb : Binds K dwhole ["_law_one", "_law_a", "_law_b", "_law_n"] [] := (FunD.bindsN Fwhole fun _ _ _ _ _ _ us hl => match us, hl with | [_, _, _, _], _ => rfl)
      have kp := Fwhole.kp
      obtain ⟨oc, od, dV, kV, doc, pm, an, cdv, ct, osl, e, lk, hcd, _⟩ := Fwhole.ex
      obtain ⟨cc, rfl⟩ := He.codeIn_ref hcd
      cases e
      exact ⟨_, _, ok_whole V OR (He.free_ok X G (cd.fact 37 (f := .free "all") rfl)) (He.free_ok X G (cd.fact 38 (f := .free "range") rfl)) lk hcd (tbl ("_law_whole", none) cc (by simp [tf]) (He.codeOf_eq lk rfl)) (by simp [tb3]) (fun p hp e => by
        simp only [tb3, List.mem_cons, List.not_mem_nil, or_false] at hp
        rcases hp with rfl | rfl | rfl
        · exact absurd e n1
        · rfl
        · exact absurd e.symm n3), (He.glo_ok X G (cd.fact 33 (f := .glo "_law_whole") rfl)), kp, bb⟩
    have V2 : Env2 PySem.Challenge.rw_guardsums_k19_ratios.prog w K mg base (aC K) (aO K) (aI K) (gA K) (tb3 K) := {
      R0 := R0
      R1 := R1
      FStr := r0_of (ok_str F12 T) (FunD.bindsN F12 fun _ _ _ _ _ _ us hl => match us, hl with | [_], _ => rfl)
      dPen := ⟨_, _, ok_pen (fun_at Fpen) (He.free_ok X G (cd.fact 39 (f := .free "list") rfl)), (He.glo_ok X G (cd.fact 25 (f := .glo "_law_pen_of") rfl)), Fpen.kp, (FunD.bindsN Fpen fun _ _ _ _ _ _ us hl => match us, hl with | [_], _ => rfl)⟩
      dDraw := ⟨_, _, Gdraw, (He.glo_ok X G (cd.fact 26 (f := .glo "_law_draw") rfl)), Fdraw.kp, bdraw⟩
      dNum := ⟨_, _, ok_num (fun_at Fnum) Gdraw (He.glo_ok X G (cd.fact 26 (f := .glo "_law_draw") rfl)) Fdraw.kp bdraw Gpick (He.glo_ok X G (cd.fact 27 (f := .glo "_law_pick") rfl)) Fpick.kp bpick, (He.glo_ok X G (cd.fact 28 (f := .glo "_law_number_of") rfl)), Fnum.kp, (FunD.bindsN Fnum fun _ _ _ _ _ _ us hl => match us, hl with | [_], _ => rfl)⟩
      dLow := ⟨_, _, Glow, (He.glo_ok X G (cd.fact 29 (f := .glo "_law_lowest") rfl)), Flow.kp, blow⟩
      dPair := dPair
      dWhole := dWhole }
    obtain ⟨oc, od, dV, kV, doc, pm, an, cdv, ct, osl, e, lk, hcd, _⟩ := Flaw.ex
    obtain ⟨cc, rfl⟩ := He.codeIn_ref hcd
    cases e
    exact ok_law V V2 (He.free_ok X G (cd.fact 38 (f := .free "range") rfl)) (He.free_ok X G (cd.fact 7 (f := .free "str") rfl)) lk hcd (tbl ("law", none) cc (by simp [tf]) (He.codeOf_eq lk rfl)) (by simp [tb3]) (fun p hp e => by
      simp only [tb3, List.mem_cons, List.not_mem_nil, or_false] at hp
      rcases hp with rfl | rfl | rfl
      · exact absurd e n2
      · exact absurd e n3
      · rfl)
end
end Wk
open PySem PySem.W PySem.Calls PyProof.Rows
theorem PySem.Challenge.cw_guardsums_k19_ratios_holds : PySem.Challenge.rw_guardsums_k19_ratios.Holds := by
  w_on; o_law
  refine HandSHeadRun.head_imp (r := Wk.RW19) (q := view Wk.RW19.prog [0, 17]) (H := Wk.hk) (ob := Wk.ob) (M := 3000) (loose := Wk.names) (d := HandSHeadRun.topDef Wk.RW19.prog 17) (kwd := []) Wk.ob_eq Wk.run
    (by kernel_rfl) (by kernel_rfl) (by kernel_rfl) (by rfl) (by first | assumption | decide +kernel) (by decide +kernel) ⟨rfl, rfl, rfl, rfl, rfl, by decide +kernel⟩ ?hw ?hc
  case hw => w_witness2
  case hc =>
    refine LamX.walk_ofTsE (l := PySem.Challenge.rw_guardsums_k19_ratios) (n := 63) (k := 7) (x := "_law_script") (CX := fun _ => L2.CX0) rfl (by decide) (by kernel_rfl) ⟨rfl, by decide, by decide⟩ ?F (fun _ _ _ _ _ z => z)
    intro w mg fa h Y G hmg0
    obtain ⟨K, KX, c⟩ := Y
    have hmg : mg ("law" : PySem.Str) = some (.ref fa) := by
      have e : (HandSHeadRun.topDef Wk.RW19.prog 17).name = ("law" : PySem.Str) := by kernel_rfl
      rw [← e]
      exact hmg0
    exact ⟨K, KX, Wk.law_at KX G hmg c⟩

