import PyProof.Rows.All
import Wide.All
import OpenK.AllK
import HandS.ForMost
import Wide.FinOn
import PySem.Challenge.RW_guardsums_k21_matrices
import HandS.ForExc
import HandS.Wide
import PyProof.ZipIter
import PyProof.TupleOfGen
import PyProof.CollectWalk
import HandS.Zip0
import KE.KDictZip
import HandS.Star
import HandS.Zip
import HandS.Walk
import HandS.TupMul
import HandS.TupAny
import PyProof.WalksMore
import HandS.Words
import HandS.Style
import HandS.RevRange
import HandS.Conv
import HandS.Iter
import HandS.EndBits
import HandS.EndTab
import HandS.HeadHook4
import HandS.Head0
import HandS.Head1
import HandS.Head2
import HandS.Head3
import HandS.TryOnly
import HandS.IsInst
import HandS.Lambda
import KE.KStateDown
import HandS.HeadEnd
import HandS.HeadHook1
import HandS.HeadHook2
import HandS.HeadHook3
import HandS.HeadWalk
set_option Elab.async false
set_option linter.all false
set_option maxRecDepth 100000
set_option maxHeartbeats 0
namespace NumI
/-- while rest != 0 (of inverse): N modulo M -/
structure EInv (N M last rest lf f : Int) : Prop where
  hl : 1 ≤ last
  hr : 0 ≤ rest
  gcd : Int.gcd last rest = Int.gcd N M
  cl : ∃ k, lf * N = last + M * k
  cf : ∃ k, f * N = rest + M * k
  sg : (0 ≤ lf ∧ f ≤ 0) ∨ (lf ≤ 0 ∧ 0 ≤ f)
  sz : (lf.natAbs : Int) * rest + (f.natAbs : Int) * last = M
theorem EInv.start {N M : Int} (h : 2 ≤ M) : EInv N M M (N % M) 0 1 := by
  refine ⟨by omega, Int.emod_nonneg _ (by omega), ?_, ⟨-1, by grind⟩, ⟨N / M, ?_⟩, .inr ⟨by omega, by omega⟩, by simp⟩
  · have e : N % M = N - (N / M) * M := by
      have := Int.emod_add_ediv_mul N M
      omega
    rw [e, Int.gcd_sub_mul_right_right, Int.gcd_comm]
  · have := Int.emod_add_mul_ediv N M
    omega
theorem EInv.f_le {N M last rest lf f : Int} (h : EInv N M last rest lf f) : (f.natAbs : Int) ≤ M ∧ last ≤ M ∨ f = 0 := by
  have h1 : 0 ≤ (lf.natAbs : Int) * rest := Int.mul_nonneg (by omega) h.hr
  have h2 := h.sz
  have h3 := h.hl
  by_cases e : f = 0
  · exact .inr e
  · refine .inl ⟨?_, ?_⟩
    · have : (f.natAbs : Int) * 1 ≤ (f.natAbs : Int) * last := Int.mul_le_mul_of_nonneg_left h3 (by omega)
      omega
    · have : 1 * last ≤ (f.natAbs : Int) * last := Int.mul_le_mul_of_nonneg_right (by omega) (by omega)
      omega
/-- the step of times -/
theorem EInv.step {N M last rest lf f : Int} (h : EInv N M last rest lf f) (h0 : rest ≠ 0) :
    EInv N M rest (last - last / rest * rest) f (lf - last / rest * f) ∧ last - last / rest * rest < rest ∧ 0 ≤ last - last / rest * rest ∧ 0 ≤ last / rest ∧ last / rest ≤ last := by
  have hr := h.hr
  have hl := h.hl
  have ht : 0 ≤ last / rest := Int.ediv_nonneg (by omega) hr
  have e : last - last / rest * rest = last % rest := by
    have := Int.emod_add_ediv_mul last rest
    omega
  have hlt : last % rest < rest := Int.emod_lt_of_pos _ (by omega)
  have hge : 0 ≤ last % rest := Int.emod_nonneg _ (by omega)
  have htl : last / rest ≤ last := Int.ediv_le_self _ (by omega)
  have hsz := h.sz
  obtain ⟨k1, c1⟩ := h.cl
  obtain ⟨k2, c2⟩ := h.cf
  have hsg := h.sg
  have hg := h.gcd
  have e2 := e
  generalize last / rest = t at *
  have key : ((lf - t * f).natAbs : Int) = lf.natAbs + t * f.natAbs := by
    rcases hsg with ⟨a, b⟩ | ⟨a, b⟩
    · have : t * f ≤ 0 := Int.mul_nonpos_of_nonneg_of_nonpos ht b
      have e1 : ((lf - t * f).natAbs : Int) = lf - t * f := by omega
      have e2 : (lf.natAbs : Int) = lf := by omega
      have e3 : (f.natAbs : Int) = - f := by omega
      rw [e1, e2, e3]; grind
    · have : 0 ≤ t * f := Int.mul_nonneg ht b
      have e1 : ((lf - t * f).natAbs : Int) = - (lf - t * f) := by omega
      have e2 : (lf.natAbs : Int) = - lf := by omega
      have e3 : (f.natAbs : Int) = f := by omega
      rw [e1, e2, e3]; grind
  refine ⟨⟨by omega, by omega, ?_, ⟨k2, c2⟩, ⟨k1 - t * k2, by grind⟩, ?_, ?_⟩, by omega, by omega, ht, htl⟩
  · rw [Int.gcd_sub_mul_right_right, Int.gcd_comm, hg]
  · rcases hsg with ⟨a, b⟩ | ⟨a, b⟩
    · have : t * f ≤ 0 := Int.mul_nonpos_of_nonneg_of_nonpos ht b
      exact .inr ⟨b, by omega⟩
    · have : 0 ≤ t * f := Int.mul_nonneg ht b
      exact .inl ⟨b, by omega⟩
  · rw [key]; grind
/-- what is handed back -/
structure InvOf (N M x : Int) : Prop where
  lo : 1 ≤ x
  hi : x < M
  one : x * N % M = 1
theorem EInv.done1 {N M last lf f : Int} (hM : 2 ≤ M) (h : EInv N M last 0 lf f) (h1 : last = 1) : Int.gcd N M = 1 ∧ InvOf N M (lf % M) := by
  have hg := h.gcd
  subst h1
  obtain ⟨k, c⟩ := h.cl
  have ho : lf % M * N % M = 1 := by
    have e : lf % M = lf - M * (lf / M) := by
      have := Int.emod_add_mul_ediv lf M
      omega
    have e2 : lf % M * N = 1 + M * (k - lf / M * N) := by rw [e]; grind
    rw [e2, Int.add_mul_emod_self_left]
    exact Int.emod_eq_of_lt (by omega) (by omega)
  refine ⟨by rw [← hg]; simp, ?_, Int.emod_lt_of_pos _ (by omega), ho⟩
  have h0 := Int.emod_nonneg lf (show M ≠ 0 by omega)
  by_cases z : lf % M = 0
  · rw [z] at ho
    simp at ho
  · omega
theorem EInv.done2 {N M last lf f : Int} (h : EInv N M last 0 lf f) (h1 : last ≠ 1) : Int.gcd N M ≠ 1 := by
  have hg := h.gcd
  have := h.hl
  rw [← hg]
  simp
  omega
end NumI

/-! rows and matrices of ints as data -/
namespace Wk
open PySem L2
theorem eqvAll_map {α : Type} (f : α → PyData) (g : α → α → Bool) (h : ∀ a b, PyData.eqv (f a) (f b) = g a b) (hg : ∀ a b, g a b = true ↔ a = b) [DecidableEq α] : ∀ (xs ys : List α), PyData.eqvAll (xs.map f) (ys.map f) = decide (xs = ys)
  | [], [] => by simp [PyData.eqvAll]
  | [], _ :: _ => by simp [PyData.eqvAll]
  | _ :: _, [] => by simp [PyData.eqvAll]
  | x :: xs, y :: ys => by
    simp only [List.map_cons, PyData.eqvAll, h, eqvAll_map f g h hg xs ys]
    have e : g x y = decide (x = y) := by
      by_cases z : x = y
      · rw [(hg x y).mpr z, decide_eq_true z]
      · rw [decide_eq_false z]
        cases q : g x y with
        | false => rfl
        | true => exact absurd ((hg x y).mp q) z
    rw [e]
    by_cases z : x = y <;> by_cases z2 : xs = ys <;> simp [z, z2]
/-- a tuple of ints; a tuple of such -/
def dI (ns : List Int) : PyData := .tuple (ns.map PyData.int)
def dM (ms : List (List Int)) : PyData := .tuple (ms.map dI)
theorem dI_eqv (a b : List Int) : PyData.eqv (dI a) (dI b) = decide (a = b) := by
  unfold dI
  rw [PyData.eqv]
  exact eqvAll_map _ (fun i j => i == j) (fun i j => by simp [PyData.eqv]) (fun i j => by simp) a b
theorem dM_eqv (a b : List (List Int)) : PyData.eqv (dM a) (dM b) = decide (a = b) := by
  unfold dM
  rw [PyData.eqv]
  exact eqvAll_map _ (fun i j => decide (i = j)) dI_eqv (fun i j => by simp) a b
theorem canLayAll_map {α : Type} (f : α → PyData) (h : ∀ a, (f a).canLay0 = true) : ∀ xs : List α, PyData.canLayAll0 (xs.map f) = true
  | [] => by simp [PyData.canLayAll0]
  | x :: xs => by simp [PyData.canLayAll0, h x, canLayAll_map f h xs]
theorem depthAll_map {α : Type} (f : α → PyData) (n : Nat) (h : ∀ a, (f a).depth ≤ n) : ∀ xs : List α, PyData.depthAll (xs.map f) ≤ n
  | [] => by simp [PyData.depthAll]
  | x :: xs => by
    have h1 := h x
    have h2 := depthAll_map f n h xs
    simp only [List.map_cons, PyData.depthAll]
    omega
theorem dI_lay (a : List Int) : (dI a).canLay0 = true := by
  unfold dI
  rw [PyData.canLay0]
  exact canLayAll_map _ (fun i => by simp [PyData.canLay0]) a
theorem dI_depth (a : List Int) : (dI a).depth ≤ 1 := by
  unfold dI
  rw [PyData.depth]
  have := depthAll_map PyData.int 0 (fun i => by simp [PyData.depth]) a
  omega
theorem dM_lay (a : List (List Int)) : (dM a).canLay0 = true := by
  unfold dM
  rw [PyData.canLay0]
  exact canLayAll_map _ dI_lay a
theorem dM_depth (a : List (List Int)) : (dM a).depth ≤ 2 := by
  unfold dM
  rw [PyData.depth]
  have := depthAll_map dI 1 dI_depth a
  omega
theorem dI_shaped (a : List Int) : SeqAt.shaped (dI a) = true := by
  have := dI_depth a
  simp only [SeqAt.shaped, dI_lay, Bool.true_and, decide_eq_true_eq]
  omega
theorem dM_shaped (a : List (List Int)) : SeqAt.shaped (dM a) = true := by
  have := dM_depth a
  simp only [SeqAt.shaped, dM_lay, Bool.true_and, decide_eq_true_eq]
  omega
theorem dpAll_ints {K : PySem.W.Frag} {H : Hp} : ∀ ns : List Int, DpAll K H (ns.map V.int) (ns.map PyData.int)
  | [] => .nil
  | n :: ns => .cons (.int n) (dpAll_ints ns)
/-- a tuple of ints at a -/
def RowAt (K : PySem.W.Frag) (H : Hp) (a : Addr) (ns : List Int) : Prop := SqT K H a (ns.map V.int)
theorem RowAt.dp {K : PySem.W.Frag} {H : Hp} {a : Addr} {ns : List Int} (h : RowAt K H a ns) : Dp K H (.ref a) (dI ns) := .tup h (dpAll_ints ns)
/-- values that are tuples of ints -/
inductive RowsAre (K : PySem.W.Frag) (H : Hp) : List V → List (List Int) → Prop
  | nil : RowsAre K H [] []
  | cons {a : Addr} {ns : List Int} {vs : List V} {ms : List (List Int)} : RowAt K H a ns → RowsAre K H vs ms → RowsAre K H (.ref a :: vs) (ns :: ms)
theorem RowsAre.dp {K : PySem.W.Frag} {H : Hp} : ∀ {vs : List V} {ms : List (List Int)}, RowsAre K H vs ms → DpAll K H vs (ms.map dI)
  | _, _, .nil => .nil
  | _, _, .cons h r => .cons h.dp r.dp
theorem RowsAre.length {K : PySem.W.Frag} {H : Hp} : ∀ {vs : List V} {ms : List (List Int)}, RowsAre K H vs ms → vs.length = ms.length
  | _, _, .nil => rfl
  | _, _, .cons _ r => by simp [r.length]
theorem RowsAre.at_ {K : PySem.W.Frag} {H : Hp} : ∀ {vs : List V} {ms : List (List Int)}, RowsAre K H vs ms → ∀ {i : Nat} {v : V}, vs[i]? = some v → ∃ (a : Addr) (ns : List Int), v = .ref a ∧ ms[i]? = some ns ∧ RowAt K H a ns
  | _, _, .nil, i, v, h => by simp at h
  | _, _, .cons h r, 0, v, e => by cases e; exact ⟨_, _, rfl, rfl, h⟩
  | _, _, .cons h r, i + 1, v, e => r.at_ (i := i) (by simpa using e)
theorem RowsAre.snoc {K : PySem.W.Frag} {H : Hp} {a : Addr} {ns : List Int} (h : RowAt K H a ns) : ∀ {vs : List V} {ms : List (List Int)}, RowsAre K H vs ms → RowsAre K H (vs ++ [.ref a]) (ms ++ [ns])
  | _, _, .nil => .cons h .nil
  | _, _, .cons h' r => .cons h' (r.snoc h)
/-- a tuple of tuples of ints at a -/
def MatAt (K : PySem.W.Frag) (H : Hp) (a : Addr) (ms : List (List Int)) : Prop := ∃ vs, SqT K H a vs ∧ RowsAre K H vs ms
theorem MatAt.dp {K : PySem.W.Frag} {H : Hp} {a : Addr} {ms : List (List Int)} (h : MatAt K H a ms) : Dp K H (.ref a) (dM ms) := by
  obtain ⟨vs, h1, h2⟩ := h
  exact .tup h1 h2.dp
theorem SqT.same {K : PySem.W.Frag} {H H' : Hp} {a : Addr} {xs : List V} (h : SqT K H a xs) (e : Same H H') : SqT K H' a xs := by
  rcases h with h | h
  · rcases h with h | ⟨o, h⟩
    · exact .inl (.inl (e _ _ h))
    · exact .inl (.inr ⟨o, e _ _ h⟩)
  · exact .inr h
theorem RowsAre.same {K : PySem.W.Frag} {H H' : Hp} (e : Same H H') : ∀ {vs : List V} {ms : List (List Int)}, RowsAre K H vs ms → RowsAre K H' vs ms
  | _, _, .nil => .nil
  | _, _, .cons h r => .cons (SqT.same h e) (r.same e)
theorem MatAt.same {K : PySem.W.Frag} {H H' : Hp} {a : Addr} {ms : List (List Int)} (h : MatAt K H a ms) (e : Same H H') : MatAt K H' a ms := by
  obtain ⟨vs, h1, h2⟩ := h
  exact ⟨vs, SqT.same h1 e, h2.same e⟩
end Wk

namespace Wk
open PySem L2
def top (i : Nat) : Stmt := PySem.Challenge.pw_guardsums_k21_matrices.main.body.getD i (.Pass ⟨0, 0, 0, 0⟩)
abbrev s_law_pen_of : Stmt := top 15
theorem sc_law_pen_of : FnScope ["_law_script"] ["_law_script"] (defScope s_law_pen_of) := ⟨rfl, rfl, rfl, by decide +kernel, rfl, by decide +kernel, by decide +kernel⟩
abbrev s_law_draw : Stmt := top 16
theorem sc_law_draw : FnScope ["_law_pen", "_law_many", "_law_digit", "_law_index", "_law_size", "_law_cell", "_law_mixed"] ["_law_pen", "_law_many"] (defScope s_law_draw) := ⟨rfl, rfl, rfl, by decide +kernel, rfl, by decide +kernel, by decide +kernel⟩
abbrev s_law_pick : Stmt := top 17
theorem sc_law_pick : FnScope ["_law_pen", "_law_items"] ["_law_pen", "_law_items"] (defScope s_law_pick) := ⟨rfl, rfl, rfl, by decide +kernel, rfl, by decide +kernel, by decide +kernel⟩

local macro_rules | `(tactic| walk_at "rd") => `(tactic| repeat first | refine ⟨_, rfl, ?_⟩ | refine ⟨_, _, rfl, rfl, ?_⟩ | refine ⟨rfl, ?_⟩)
/-! ### the pen -/
def penL (c : Addr) (i l : Int) : List (Key × V) := [(.inr "cells", .ref c), (.inr "next", .int i), (.inr "left", .int l)]
theorem kk1 : ¬ (Sum.inr "cells" : Key) = .inr "next" := by decide +kernel
theorem kk2 : ¬ (Sum.inr "cells" : Key) = .inr "left" := by decide +kernel
theorem kk3 : ¬ (Sum.inr "next" : Key) = .inr "left" := by decide +kernel
theorem kk4 : ¬ (Sum.inr "left" : Key) = .inr "next" := by decide +kernel
theorem ks1 : ¬ Str.ofString "cells" = Str.ofString "next" := by decide +kernel
theorem ks2 : ¬ Str.ofString "cells" = Str.ofString "left" := by decide +kernel
theorem ks3 : ¬ Str.ofString "next" = Str.ofString "left" := by decide +kernel
theorem ks4 : ¬ Str.ofString "left" = Str.ofString "next" := by decide +kernel
theorem pen_cells (c : Addr) (i l : Int) : valV (penL c i l) (.inr "cells") = some (.ref c) := valV_pos rfl
theorem pen_next (c : Addr) (i l : Int) : valV (penL c i l) (.inr "next") = some (.int i) := by
  rw [penL, valV_neg kk1, valV_pos rfl]
theorem pen_left (c : Addr) (i l : Int) : valV (penL c i l) (.inr "left") = some (.int l) := by
  rw [penL, valV_neg kk2, valV_neg kk3, valV_pos rfl]
theorem put_next (c : Addr) (i l j : Int) : putK (penL c i l) (.inr "next") (.int j) = penL c j l := by
  simp [putK, penL, ks1, ks4]
theorem put_left (c : Addr) (i l j : Int) : putK (penL c i l) (.inr "left") (.int j) = penL c i j := by
  simp [putK, penL, ks2, ks3]
structure PenAt (H : Hp) (p c : Addr) (ns : List Int) (i l : Int) : Prop where
  pen : H p = some (.dK (penL c i l))
  cells : H c = some (.lst (ns.map V.int))
  i0 : 0 ≤ i
  l0 : 0 ≤ l
  i1 : i ≤ 100000
theorem PenAt.ne {H : Hp} {p c : Addr} {ns : List Int} {i l : Int} (P : PenAt H p c ns i l) : c ≠ p := ne_of P.cells P.pen (by intro z; cases z)
/-- the pen behind a draw -/
def penTo (H : Hp) (p c : Addr) (i l : Int) : Hp := upd H p (.dK (penL c i l))
theorem PenAt.to {H : Hp} {p c : Addr} {ns : List Int} {i l i' l' : Int} (P : PenAt H p c ns i l) (h0 : 0 ≤ i') (h1 : 0 ≤ l') (h2 : i' ≤ 100000) : PenAt (penTo H p c i' l') p c ns i' l' :=
  ⟨upd_same, by rw [penTo, upd_ne P.ne]; exact P.cells, h0, h1, h2⟩
theorem penTo_to {H : Hp} {p c : Addr} {i l i' l' : Int} : penTo (penTo H p c i l) p c i' l' = penTo H p c i' l' := upd_upd
def spDraw : Sp := fun vs H Q _ => ∃ (p c : Addr) (ns : List Int) (i l m : Int), vs = [.ref p, .int m] ∧ PenAt H p c ns i l ∧ i < 100000 ∧ 1 ≤ m ∧ m.natAbs < 2 ^ 9000 ∧
  ∀ d i' l' : Int, 0 ≤ d → d < m → 0 ≤ i' → i' ≤ i + 1 → 0 ≤ l' → Q (.int d) (penTo H p c i' l')
/-- what the module's names stand for -/
structure TxtA (mg : Str → Option Value) : Prop where
  f_int : mg "int" = none
  f_len : mg "len" = none
  f_abs : mg "abs" = none
section
variable {P : Program} {w : World} {K : PySem.W.Frag} {mg : Str → Option Value} {base : Heap}
theorem small64 {i : Int} (h0 : 0 ≤ i) {n : Int} (h1 : i ≤ n) {k : Nat} (h2 : n.toNat < 2 ^ k) : i.natAbs < 2 ^ k := by omega
theorem fmod_at {a m : Int} (h : 1 ≤ m) : 0 ≤ a.fmod m ∧ a.fmod m < m := by
  rw [Int.fmod_eq_emod_of_nonneg _ (by omega)]
  exact ⟨Int.emod_nonneg _ (by omega), Int.emod_lt_of_pos _ (by omega)⟩
theorem emod_at {a m : Int} (h : 1 ≤ m) : 0 ≤ a % m ∧ a % m < m := ⟨Int.emod_nonneg _ (by omega), Int.emod_lt_of_pos _ (by omega)⟩
/-- a way that two branches share -/
theorem use_tail {B G : Prop} (f : B → G) (b : B) : G := f b
theorem pick2 {c1 : Prop} [Decidable c1] {X A B : Prop} (hB : B) (h1 : c1 → X) : if decide c1 = true then X else if false = true then A else B := by
  by_cases c : c1
  · rw [if_pos (decide_eq_true c)]
    exact h1 c
  · rw [if_neg (by simpa using c)]
    exact iteF hB
theorem mod_word {a b : Int} (hb : 1 ≤ b) (hb2 : b ≤ 4294967296) : ∃ y : Int, a % b = y ∧ 0 ≤ y ∧ y < 4294967296 := ⟨a % b, rfl, Int.emod_nonneg _ (by omega), by
  have := Int.emod_lt_of_pos a (show 0 < b by omega)
  omega⟩
theorem ok_draw {f : Addr} {fd : FuncData} (F : Fun K "_law_draw" "_law_draw" s_law_draw f fd) (T : TxtA mg) : FnOk P w K mg base CX0 1 f fd ["_law_pen", "_law_many"] spDraw := by
  refine F.ok sc_law_draw (fun vs H Q E h => ?_) (fun cdv A outer s H vs Q E hr h => ?_)
  · obtain ⟨p, c, ns, i, l, m, rfl, _⟩ := h
    rfl
  · obtain ⟨p, c, ns, i, l, m, rfl, S, hi, hm, hmw, k⟩ := h
    have hu := hu_of hr
    have hcp := S.ne
    have i0 := S.i0
    have l0 := S.l0
    refine ⟨_, (pss_cons (ps_if (pt_cmpR op_gt (pe_dget hu (pv 0) pe_str (fun _ _ => rfl)) pe_int (nomark _)) (pss_cons (ps_set (i := 2) sc_law_draw.nd rfl (Or.inl rfl) (pe_op op_modN (pe_callTy call_int1 rfl T.f_int (by decide +kernel) (pa_cons (pe_dget hu (pv 0) pe_str (fun _ _ => rfl)) pa_nil)) (pv 1)))
        (pss_cons (ps_dput hu (pv 0) pe_str (pe_op op_fdivW (pe_dget hu (pv 0) pe_str (fun _ _ => rfl)) (pv 1)) rfl)
        (pss_one (ps_ret (pv 2))))) pss_nil)
        (pss_cons (ps_par (i := 3) (j := 4) rfl sc_law_draw.nd rfl rfl (by decide) rfl rfl (pa_cons (pe_dget hu (pv 0) pe_str (fun _ _ => rfl)) (pa_cons (pe_callB call_len_seq rfl T.f_len PySem.boot_len (pa_cons (pe_dget hu (pv 0) pe_str (fun _ _ => rfl)) pa_nil)) pa_nil)) (by rfl))
        (pss_cons (ps_dput hu (pv 0) pe_str (pe_op op_add (pv 3) pe_int) rfl)
        (pss_cons (ps_if (pt_cmpR op_eq (pv 4) pe_int (nomark _)) (pss_one (ps_ret (pe_op op_modN (pe_callTy call_int1 rfl T.f_int (by decide +kernel) (pa_cons (pe_op op_add (pe_op op_mulW pe_int (pv 3)) pe_int) pa_nil)) (pv 1)))) pss_nil)
        (pss_cons (ps_set (i := 5) sc_law_draw.nd rfl (Or.inl rfl) (pe_ix ix_list (pe_dget hu (pv 0) pe_str (fun _ _ => rfl)) (pe_op op_modN (pe_callTy call_int1 rfl T.f_int (by decide +kernel) (pa_cons (pv 3) pa_nil)) (pv 4)) (fun _ _ => rfl)))
        (pss_cons (ps_if (PW.pt (pw_and (pt_cmpR op_lt (pv 3) (pv 4) (nomark _)) (pw_and1 (pt_cmpR op_ge (pe_callB call_abs rfl T.f_abs (by decide +kernel) (pa_cons (pv 5) pa_nil)) (pe_op op_pow pe_int pe_int) (nomark _))))) (pss_cons (ps_dput hu (pv 0) pe_str (pe_op op_fdivW (pe_op op_sub (pe_callB call_abs rfl T.f_abs (by decide +kernel) (pa_cons (pv 5) pa_nil)) (pe_op op_pow pe_int pe_int)) (pv 1)) rfl)
        (pss_one (ps_ret (pe_op op_modN (pe_callTy call_int1 rfl T.f_int (by decide +kernel) (pa_cons (pe_op op_sub (pe_callB call_abs rfl T.f_abs (by decide +kernel) (pa_cons (pv 5) pa_nil)) (pe_op op_pow pe_int pe_int)) pa_nil)) (pv 1))))) pss_nil)
        (pss_cons (ps_set (i := 6) sc_law_draw.nd rfl (Or.inl rfl) (pe_op op_add (pe_op op_mulW (pe_op op_mod (pe_callTy call_int1 rfl T.f_int (by decide +kernel) (pa_cons (pv 5) pa_nil)) pe_int) pe_int) (pe_op op_mulW (pe_op op_mulW pe_int (pv 3)) (pv 3))))
        (pss_cons (ps_set (i := 6) sc_law_draw.nd rfl (Or.inl rfl) (pe_op op_mod (pe_callTy call_int1 rfl T.f_int (by decide +kernel) (pa_cons (pe_op op_add (pe_op op_add (pv 6) (pe_op op_mulW pe_int (pv 3))) pe_int) pa_nil)) pe_int))
        (pss_cons (ps_set (i := 6) sc_law_draw.nd rfl (Or.inl rfl) (pe_op op_mod (pe_callTy call_int1 rfl T.f_int (by decide +kernel) (pa_cons (pe_op op_add (pe_op op_add (pe_op op_add (pe_op op_mulW (pv 6) (pv 6)) (pe_op op_mulW pe_int (pv 6))) (pe_op op_mulW pe_int (pv 3))) pe_int) pa_nil)) pe_int))
        (pss_one (ps_ret (pe_op op_modN (pe_callTy call_int1 rfl T.f_int (by decide +kernel) (pa_cons (pe_op op_fdiv (pe_op op_mod (pe_callTy call_int1 rfl T.f_int (by decide +kernel) (pa_cons (pe_op op_mulW (pv 6) (pe_op op_add (pv 6) pe_int)) pa_nil)) pe_int) pe_int) pa_nil)) (pv 1))))))))))))), ?_⟩
    -- if pen["left"] > 0
    have gL := pen_left c i l ▸ DGet.k (k := .inr "left") S.pen
    have gN := pen_next c i l ▸ DGet.k (k := .inr "next") S.pen
    have gC := pen_cells c i l ▸ DGet.k (k := .inr "cells") S.pen
    have z3 : (penL c i l).length < sizeLine := (by decide : 3 < sizeLine)
    have kR : ∀ (a i' l' : Int) (H' : Hp), 0 ≤ i' → i' ≤ i + 1 → 0 ≤ l' → H' = penTo H p c i' l' → Q (.int (a.fmod m)) H' := fun a i' l' H' h1 h2 h3 e => by
      rw [e]
      exact k _ _ _ (fmod_at hm).1 (fmod_at hm).2 h1 h2 h3
    have dv : ∀ x : Int, 0 ≤ x → 0 ≤ x / m := fun x hx => Int.ediv_nonneg hx (by omega)
    have cdv : ∀ x : Int, CDivW x m := fun x => wide_div (by omega) hmw (by decide) (by decide)
    refine ⟨_, rfl, p, _, rfl, gL, _, _, rfl, rfl, _, rfl, ?_⟩
    refine ite2 (fun hd => ?_) (fun hd => ?_)
    · have hl : 0 < l := of_decide_eq_true hd
      -- digit = int(pen["left"]) % many; pen["left"] = pen["left"] // many; return digit
      refine ⟨_, rfl, p, _, rfl, gL, .inl ⟨_, rfl, ?_⟩⟩
      refine ⟨_, rfl, _, _, rfl, rfl, (by omega), ?_⟩
      refine ⟨_, rfl, p, _, rfl, gL, _, rfl, _, _, rfl, rfl, cdv _, ?_⟩
      refine ⟨_, rfl, p, _, rfl, DPut.k (k := .inr "left") S.pen z3, _, rfl, ?_⟩
      exact kR _ i (l / m) _ i0 (by omega) (dv _ l0) (by rw [put_left]; rfl)
    · -- index, size = pen["next"], len(pen["cells"]); pen["next"] = index + 1
      have S1 : PenAt (penTo H p c (i + 1) l) p c ns (i + 1) l := S.to (by omega) l0 (by omega)
      have gC1 := pen_cells c (i + 1) l ▸ DGet.k (k := .inr "cells") S1.pen
      refine ⟨_, rfl, p, _, rfl, gN, _, rfl, p, _, rfl, gC, _, _, rfl, .inl (SqL.of S.cells), _, _, rfl, ?_⟩
      refine ⟨_, rfl, _, _, rfl, rfl, _, rfl, p, _, rfl, DPut.k (k := .inr "next") S.pen z3, ?_⟩
      rw [put_next]
      show tSeq _ _ _ _ (penTo H p c (i + 1) l)
      have w64 : ∀ {x n : Int}, 0 ≤ x → x ≤ n → n.toNat < 2 ^ 64 → x.natAbs < 2 ^ 64 := fun h0 h1 h2 => small64 h0 h1 h2
      have wi : i.natAbs < 2 ^ 64 := w64 i0 (n := 100000) (by omega) (by decide)
      have wc : ∀ {x y : Int}, x.natAbs < 2 ^ 64 → y.natAbs < 2 ^ 128 → CMulW x y := fun a b => wide_mul a b (by decide) (by decide) (by decide)
      -- if size == 0: return int(7 * index + 3) % many
      refine ⟨_, rfl, rfl, _, rfl, ?_⟩
      refine ite2 (fun he => ?_) (fun he => ?_)
      · refine ⟨_, rfl, _, _, rfl, rfl, wc (by decide) (by omega), _, _, rfl, rfl, .inl ⟨_, rfl, _, rfl, _, _, rfl, rfl, (by omega), ?_⟩⟩
        exact kR _ (i + 1) l _ (by omega) (by omega) l0 rfl
      · have hne : ns.length ≠ 0 := fun z => he (by
          have e : (ns.map V.int).length = 0 := by rw [List.length_map]; exact z
          rw [e]
          exact decide_eq_true rfl)
        have hlen : ((ns.map V.int).length : Int) = ns.length := by rw [List.length_map]
        rw [hlen]
        -- cell = pen["cells"][int(index) % size]
        have hj := fmod_at (a := i) (m := (ns.length : Int)) (by omega)
        obtain ⟨j, hj2⟩ : ∃ j : Nat, i.fmod (ns.length : Int) = j := ⟨(i.fmod (ns.length : Int)).toNat, by omega⟩
        have hjl : j < ns.length := by omega
        have ha : atI (ns.map V.int) (i.fmod (ns.length : Int)) = some (V.int ns[j]) := by
          rw [hj2]
          exact atI_nat (by simp [hjl])
        generalize ns[j] = x at ha
        refine ⟨_, rfl, p, _, rfl, gC1, _, rfl, .inl ⟨_, rfl, _, rfl, _, _, rfl, rfl, (by omega), c, _, _, _, rfl, rfl, SqL.of S1.cells, ha, ?_⟩⟩
        -- if index < size and abs(cell) >= 10 ** 18
        have ten : (0 : Int) ≤ 18 ∧ (18 : Int) ≤ 1000000 ∧ (10 : Int).natAbs < 2 ^ 64 := by decide
        refine ⟨_, rfl, _, rfl, _, _, rfl, rfl, _, rfl, ?_⟩
        refine use_tail (fun hB => pick2 hB fun c1 => ?_) ?tail
        · refine ⟨_, rfl, _, rfl, _, _, rfl, rfl, ten, _, _, rfl, rfl, _, rfl, ?_⟩
          refine ite2 (fun c2 => ?_) (fun _ => hB)
          have c3 := of_decide_eq_true c2
          -- pen["left"] = (abs(cell) - 10 ** 18) // many; return int(abs(cell) - 10 ** 18) % many
          refine ⟨_, rfl, _, rfl, _, _, rfl, rfl, ten, _, _, rfl, rfl, _, rfl, _, _, rfl, rfl, cdv _, ?_⟩
          refine ⟨_, rfl, p, _, rfl, DPut.k (k := .inr "left") S1.pen z3, ?_⟩
          refine ⟨_, rfl, _, rfl, _, _, rfl, rfl, ten, _, _, rfl, rfl, .inl ⟨_, rfl, _, rfl, _, _, rfl, rfl, (by omega), ?_⟩⟩
          rw [put_left]
          exact kR _ (i + 1) _ _ (by omega) (by omega) (dv _ (Int.sub_nonneg_of_le c3)) (by rw [penTo, upd_upd]; rfl)
        · -- mixed = ..
          refine ⟨_, rfl, .inl ⟨_, rfl, _, _, rfl, rfl, (by show (0 : Int) < 4294967197; decide), ?_⟩⟩
          refine ⟨_, _, rfl, rfl, wc (by omega) (by decide), _, rfl, _, _, rfl, rfl, wc (by decide) (by omega), _, rfl, _, _, rfl, rfl, wide_mul (wide_lt (a := 64) (b := 64) (by decide) wi) wi (by decide) (by decide) (by decide), _, _, rfl, rfl, ?_⟩
          refine ⟨_, rfl, _, rfl, _, _, rfl, rfl, wc (by decide) (by omega), _, _, rfl, rfl, _, _, rfl, rfl, .inl ⟨_, rfl, _, _, rfl, rfl, (by show (0 : Int) < 4294967189; decide), ?_⟩⟩
          have q2 := mod_word (a := x % 4294967197 * 52711 + 20353 * i * i + 1531 * i + 11) (b := 4294967189) (by decide) (by decide)
          show tSeq _ _ _ [some (V.ref p), some (V.int m), none, some (V.int i), some (V.int ns.length), some (V.int x), some (V.int ((x % 4294967197 * 52711 + 20353 * i * i + 1531 * i + 11) % 4294967189))] _
          obtain ⟨y2, e2, b3, b4⟩ := q2
          rw [e2]
          refine ⟨_, rfl, _, rfl, _, _, rfl, rfl, wc (by omega) (by omega), _, rfl, _, _, rfl, rfl, wc (by decide) (by omega), _, _, rfl, rfl, _, rfl, _, _, rfl, rfl, wc (by decide) (by omega), _, _, rfl, rfl, _, _, rfl, rfl, .inl ⟨_, rfl, _, _, rfl, rfl, (by show (0 : Int) < 4294967161; decide), ?_⟩⟩
          refine ⟨_, rfl, _, rfl, _, _, rfl, rfl, _, _, rfl, rfl, wc (by omega) (by omega), .inl ⟨_, rfl, _, _, rfl, rfl, (by show (0 : Int) < 4294967143; decide), _, _, rfl, rfl, (by constructor <;> decide), .inl ⟨_, rfl, _, rfl, _, _, rfl, rfl, (by omega), ?_⟩⟩⟩
          exact kR _ (i + 1) l _ (by omega) (by omega) l0 rfl
/-- one of some things: items at a -/
def spPick (K : PySem.W.Frag) : Sp := fun vs H Q _ => ∃ (p c a : Addr) (ns : List Int) (i l : Int) (items : List V), vs = [.ref p, .ref a] ∧ PenAt H p c ns i l ∧ i < 100000 ∧ H a = some (.lst items) ∧ items ≠ [] ∧ items.length ≤ 100000 ∧
  ∀ (v : V) (i' l' : Int), v ∈ items → 0 ≤ i' → i' ≤ i + 1 → 0 ≤ l' → Q v (penTo H p c i' l')
theorem ok_pick {f fD : Addr} {fd fdD : FuncData} (F : Fun K "_law_pick" "_law_pick" s_law_pick f fd) (T : TxtA mg) (G__law_draw : FnOk P w K mg base CX0 1 fD fdD ["_law_pen", "_law_many"] spDraw) (g__law_draw : mg "_law_draw" = some (.ref fD))
    (kp__law_draw : PySem.W.keepIn K (.ref fD) = true) (b__law_draw : Binds K fdD ["_law_pen", "_law_many"] []) : FnOk P w K mg base CX0 2 f fd ["_law_pen", "_law_items"] (spPick K) := by
  refine F.ok sc_law_pick (fun vs H Q E h => ?_) (fun cdv A outer s H vs Q E hr h => ?_)
  · obtain ⟨p, c, a, ns, i, l, items, rfl, _⟩ := h
    rfl
  · obtain ⟨p, c, a, ns, i, l, items, rfl, S, hi, ha, hne, hlen, k⟩ := h
    have hu := hu_of hr
    refine ⟨_, (pss_one (ps_ret (pe_ix ix_list (pv 1) (pe_call G__law_draw (hr.mono (by decide)) rfl g__law_draw kp__law_draw b__law_draw .nil pass0 (pa_cons (pv 0) (pa_cons (pe_callB call_len_seq rfl T.f_len PySem.boot_len (pa_cons (pv 1) pa_nil)) pa_nil))) (fun _ _ => rfl)))), ?_⟩
    have hpos : 0 < items.length := List.length_pos_iff.mpr hne
    refine ⟨_, rfl, _, rfl, _, rfl, _, _, rfl, .inl (SqL.of ha), p, c, ns, i, l, _, rfl, S, hi, by omega, by omega, fun d i' l' d0 d1 h0 h1 h2 => ?_⟩
    obtain ⟨j, rfl⟩ : ∃ j : Nat, d = j := ⟨d.toNat, by omega⟩
    have hj : j < items.length := by omega
    have hap : a ≠ p := ne_of ha S.pen (by intro z; cases z)
    refine ⟨a, items, _, items[j], rfl, rfl, SqL.of (by rw [penTo, upd_ne hap]; exact ha), atI_nat (by simp [hj]), ?_⟩
    exact k _ i' l' (List.getElem_mem hj) h0 h1 h2
end
end Wk

/-! tuple(zip(*rows)), rows a tuple of tuples -/
namespace ZN
open PySem PySem.Spec PyProof.Rows
open PySem.Sem (wp)
abbrev Held := PySem.IsZipHeld
structure Ap (z TI TO : Addr) (its ls : List Addr) : Prop where
  zO : z ≠ TO
  zi : z ∉ its
  Oi : TO ∉ its
  nd : its.Nodup
  Iz : TI ≠ z
  IO : TI ≠ TO
  Ii : TI ∉ its
  lz : ∀ l ∈ ls, l ≠ z ∧ l ≠ TO ∧ l ∉ its
  ln : ls.length = its.length
def KeepBut (W : List Addr) (h h' : Heap) : Prop := ∀ b o, b ∉ W → h.get? b = some o → h'.get? b = some o
def refs (as : List Addr) : List Value := as.map Value.ref
theorem nd_inj {α : Type} : ∀ {l : List α} {i j : Nat} {a : α}, l.Nodup → l[i]? = some a → l[j]? = some a → i = j
  | [], i, j, a, _, h, _ => by simp at h
  | x :: l, 0, 0, a, _, _, _ => rfl
  | x :: l, 0, j + 1, a, n, h1, h2 => by
    cases h1
    have := (List.nodup_cons.mp n).1
    exact absurd (List.mem_of_getElem? (by simpa using h2)) this
  | x :: l, i + 1, 0, a, n, h1, h2 => by
    cases h2
    have := (List.nodup_cons.mp n).1
    exact absurd (List.mem_of_getElem? (by simpa using h1)) this
  | x :: l, i + 1, j + 1, a, n, h1, h2 => by
    have := nd_inj (i := i) (j := j) (List.nodup_cons.mp n).2 (by simpa using h1) (by simpa using h2)
    omega
/-- the iterators stand at i -/
def ItersAt (h : Heap) (its ls : List Addr) (rows : List (Array Value)) (i : Nat → Nat) : Prop :=
  ∀ k a l r, its[k]? = some a → ls[k]? = some l → rows[k]? = some r → h.IsTupleIter a l (i k) ∧ h.IsTuple l r
section
variable {prog : Program} {w : World} {A : Around} {E : Value → Shared → Prop} {s : Shared}
theorem iter_next {h h' : Heap} {its ls : List Addr} {rows : List (Array Value)} {i : Nat → Nat} {j : Nat} {a l : Addr} {r : Array Value} (I : ItersAt h its ls rows i) (nd : its.Nodup) (hl : ∀ l ∈ ls, l ∉ its) (ha : its[j]? = some a) (hll : ls[j]? = some l) (hr : rows[j]? = some r)
    (hs : Heap.SameBut a h h') (hn : h'.IsTupleIter a l (i j + 1)) : ItersAt h' its ls rows (fun k => if k = j then i j + 1 else i k) := by
  intro k a2 l2 r2 h1 h2 h3
  obtain ⟨q1, q2⟩ := I k a2 l2 r2 h1 h2 h3
  have hla : l2 ≠ a := fun e => hl l2 (List.mem_of_getElem? h2) (e ▸ List.mem_of_getElem? ha)
  refine ⟨?_, q2.extBut hs.extBut hla⟩
  by_cases e : k = j
  · subst e
    dsimp only
    rw [if_pos rfl]
    rw [ha] at h1
    rw [hll] at h2
    cases h1
    cases h2
    exact hn
  · dsimp only
    rw [if_neg e]
    have hne : a2 ≠ a := fun z => by
      subst z
      exact e (nd_inj nd h1 ha)
    obtain ⟨o, ho, r⟩ := q1
    exact ⟨o, hs.extBut _ _ hne ho, r⟩
/-- one iterator's turn -/
theorem turn {its ls : List Addr} {rows : List (Array Value)} {i : Nat} {vals : List Value} {j : Nat} {a : Addr} {Q : Option Value → Shared → Prop} (nd : its.Nodup) (hl : ∀ l ∈ ls, l ∉ its) (hln : ls.length = its.length) (hr : rows.length = its.length) (hv : vals.length = its.length)
    (hx : ∀ (k : Nat) (r : Array Value) (v : Value), rows[k]? = some r → vals[k]? = some v → r[i]? = some v) (I : ItersAt s.heap its ls rows (fun k => if k < j then i + 1 else i)) (ha : its[j]? = some a)
    (h : ∀ (v : Value) (h' : Heap), vals[j]? = some v → ItersAt h' its ls rows (fun k => if k < j + 1 then i + 1 else i) → Heap.SameBut a s.heap h' → Q (some v) { s with heap := h' }) :
    wpAny (model prog w) A (Builtin.SmallTypes.nextOf (.ref a) >>= fun v => pure (some v)) Q E s := by
  have hj : j < its.length := (List.getElem?_eq_some_iff.mp ha).1
  have h1 : ls[j]? = some ls[j] := List.getElem?_eq_getElem (by omega)
  have h2 : rows[j]? = some rows[j] := List.getElem?_eq_getElem (by omega)
  have h3 : vals[j]? = some vals[j] := List.getElem?_eq_getElem (by omega)
  obtain ⟨q1, q2⟩ := I j a _ _ ha h1 h2
  have ej : (if j < j then i + 1 else i) = i := if_neg (Nat.lt_irrefl _)
  dsimp only at q1
  rw [ej] at q1
  refine wpAny_bind (RZ.nextOf_tuple_item q1 q2 (hx j _ _ h2 h3) fun h' hn hs => wpAny_pure (h _ h' h3 ?_ hs))
  have hn2 : h'.IsTupleIter a ls[j] ((fun k => if k < j then i + 1 else i) j + 1) := by dsimp only; rw [ej]; exact hn
  have z := iter_next I nd hl ha h1 h2 hs hn2
  intro k a2 l2 r2 e1 e2 e3
  obtain ⟨y1, y2⟩ := z k a2 l2 r2 e1 e2 e3
  refine ⟨?_, y2⟩
  dsimp only at y1 ⊢
  by_cases e : k = j
  · rw [if_pos e, ej] at y1
    rw [if_pos (by omega)]
    exact y1
  · rw [if_neg e] at y1
    by_cases e4 : k < j
    · rw [if_pos e4] at y1
      rw [if_pos (by omega)]
      exact y1
    · rw [if_neg e4] at y1
      rw [if_neg (by omega)]
      exact y1
theorem refs_drop (its : List Addr) (j : Nat) (x : Value) (rest : List Value) (h : x :: rest = (refs its).drop j) : ∃ a, its[j]? = some a ∧ x = .ref a ∧ rest = (refs its).drop (j + 1) := by
  have hj : j < (refs its).length := by
    have := congrArg List.length h
    simp at this
    omega
  rw [List.drop_eq_getElem_cons hj] at h
  injection h with h1 h2
  have hj2 : j < its.length := by simpa [refs] using hj
  exact ⟨its[j], List.getElem?_eq_getElem hj2, by rw [h1]; simp [refs], h2⟩
theorem refs_dropI (its : List Addr) (j : Nat) (x : Value × Nat) (rest : List (Value × Nat)) (h : x :: rest = (refs its).zipIdx.drop j) : ∃ a, its[j]? = some a ∧ x = (.ref a, j) ∧ rest = (refs its).zipIdx.drop (j + 1) := by
  have hj : j < (refs its).zipIdx.length := by
    have := congrArg List.length h
    simp at this
    simp
    omega
  rw [List.drop_eq_getElem_cons hj] at h
  injection h with h1 h2
  have hj2 : j < its.length := by simpa [refs] using hj
  exact ⟨its[j], List.getElem?_eq_getElem hj2, by rw [h1]; simp [refs], h2⟩
/-- the draw behind the first one -/
theorem held_item {z TI TO T : Addr} {f : Bool} {oT : Obj} {its ls : List Addr} {rows : List (Array Value)} {i : Nat} {vals : List Value} {Q : Value → Shared → Prop} (D : Ap z TI TO its ls) (hne : its ≠ [])
    (hz : Held s.heap z TI TO T f) (hT : s.heap.get? T = some oT) (hTI : s.heap.get? TI = some { cls := .type "tuple", data := .seq (refs its).toArray }) (hI : ItersAt s.heap its ls rows (fun _ => i)) (hr : rows.length = its.length)
    (hv : vals.length = its.length) (hx : ∀ (k : Nat) (r : Array Value) (v : Value), rows[k]? = some r → vals[k]? = some v → r[i]? = some v) (hsz : its.length ≤ 1000)
    (hQ : ∀ h', Held h' z TI TO T true → ItersAt h' its ls rows (fun _ => i + 1) → h'.get? s.heap.objs.size = some { cls := .type "tuple", data := .seq vals.toArray } → h'.objs.size = s.heap.objs.size + 1 →
      KeepBut (z :: its) s.heap h' → Q (.ref s.heap.objs.size) { s with heap := h' }) :
    wpAny (model prog w) A (Builtin.«zip.__next__» ⟨[.ref z], []⟩) (fun fin s' => ∃ v, fin = .done (.ret v) ∧ Q v s') E s := by
  show wpAny _ _ (field (.ref z) 2 >>= _) _ _ _
  refine wpAny_bind (wpAny_field hz rfl (x := .bool false) rfl ?_)
  show wpAny _ _ (field (.ref z) 3 >>= _) _ _ _
  refine wpAny_bind (wpAny_field hz rfl (x := .ref TI) rfl ?_)
  refine wpAny_bind (wpAny_seqItems hTI rfl ?_)
  have he : (refs its).toArray.isEmpty = false := by
    cases its with
    | nil => exact absurd rfl hne
    | cons a r => rfl
  dsimp only
  rw [if_neg (by rw [he]; decide)]
  show wpAny _ _ (Builtin.SmallTypes.ownedTupleIsFree (.ref z) >>= _) _ _ _
  refine wpAny_bind (PySem.wpAny_tupleHeld_zip hz hT fun h₁ hz₁ hs₁ => ?_)
  simp only [Bool.false_eq_true, if_false]
  have hI₁ : ItersAt h₁ its ls rows (fun _ => i) := fun k a l r e1 e2 e3 => by
    obtain ⟨⟨o, ho, q⟩, q2⟩ := hI k a l r e1 e2 e3
    exact ⟨⟨o, hs₁.extBut _ _ (fun y => D.zi (y ▸ List.mem_of_getElem? e1)) ho, q⟩, q2.extBut hs₁.extBut (fun y => (D.lz l (List.mem_of_getElem? e2)).1 y)⟩
  refine wpAny_bind (wpAny_forIn_array' _ (fun rest b s' => ∃ (j : Nat) (h' : Heap), b = ⟨none, (vals.take j).toArray⟩ ∧ rest = (refs its).drop j ∧ j ≤ its.length ∧ s' = { s with heap := h' } ∧ ItersAt h' its ls rows (fun k => if k < j then i + 1 else i) ∧
    KeepBut its h₁ h' ∧ h'.objs.size = h₁.objs.size) _ ?_ ?_ _ _ ⟨0, h₁, rfl, rfl, Nat.zero_le _, rfl, fun k a l r e1 e2 e3 => by dsimp only; rw [if_neg (Nat.not_lt_zero _)]; exact hI₁ k a l r e1 e2 e3, fun b o _ e => e, rfl⟩)
  · rintro x rest b s' ⟨j, h', rfl, hrest, hj, rfl, Ij, hk, hsize⟩
    obtain ⟨a, ha, rfl, hrest2⟩ := refs_drop its j x rest hrest
    refine wpAny_bind (wpAny_holding ?_)
    show wpAny _ _ (Builtin.SmallTypes.nextOf (.ref a) >>= fun v => pure (some v)) _ _ _
    refine turn (s := { s with heap := h' }) (vals := vals) D.nd (fun l hl => (D.lz l hl).2.2) D.ln hr hv hx Ij ha fun v h'' ev I2 hs2 => ?_
    refine wpAny_pure ⟨j + 1, h'', ?_, hrest2, (List.getElem?_eq_some_iff.mp ha).1, rfl, I2, fun b o hb e => hs2.extBut _ _ (fun y => hb (y ▸ List.mem_of_getElem? ha)) (hk b o hb e), hs2.1.trans hsize⟩
    have e1 : vals.take (j + 1) = vals.take j ++ [v] := by rw [List.take_add_one, ev]; rfl
    rw [e1]
    simp
  · rintro b s' ⟨j, h', rfl, hrest, hj, rfl, Ij, hk, hsize⟩
    have hjn : j = its.length := by
      have := congrArg List.length hrest
      simp [refs] at this
      omega
    subst hjn
    dsimp only
    rw [← hv, List.take_length]
    refine wpAny_bind (wpAny_newTuple ?_ (by show vals.length ≤ sizeLine; exact Nat.le_trans (show vals.length ≤ 1000 by omega) (by decide)))
    have hsz2 : h'.objs.size = s.heap.objs.size := hsize.trans hs₁.1
    refine wpAny_pure ⟨_, rfl, ?_⟩
    show Q (.ref h'.objs.size) _
    have g1 : (h'.push { cls := .type "tuple", data := .seq vals.toArray }).get? h'.objs.size = some { cls := .type "tuple", data := .seq vals.toArray } := Heap.get?_push_size _ rfl
    have g2 : (h'.push { cls := .type "tuple", data := .seq vals.toArray }).objs.size = h'.objs.size + 1 := Heap.size_push ..
    have k2 : KeepBut (z :: its) s.heap (h'.push { cls := .type "tuple", data := .seq vals.toArray }) := fun b o hb e => by
      have b1 : b ≠ z := fun y => hb (y ▸ List.mem_cons_self)
      have b2 : b ∉ its := fun y => hb (List.mem_cons_of_mem _ y)
      exact Heap.get?_push_of_some _ (hk b o b2 (hs₁.extBut _ _ b1 e))
    have hz2 : Held (h'.push { cls := .type "tuple", data := .seq vals.toArray }) z TI TO T true := Heap.get?_push_of_some _ (hk z _ D.zi hz₁)
    have I2 : ItersAt (h'.push { cls := .type "tuple", data := .seq vals.toArray }) its ls rows (fun _ => i + 1) := fun k a l r e1 e2 e3 => by
      obtain ⟨⟨o, ho, q⟩, q2⟩ := Ij k a l r e1 e2 e3
      dsimp only at q
      rw [if_pos (by have := (List.getElem?_eq_some_iff.mp e1).1; omega)] at q
      exact ⟨⟨o, Heap.get?_push_of_some _ ho, q⟩, q2.push _⟩
    rw [hsz2] at g1 g2 ⊢
    exact hQ _ hz2 I2 g1 g2 k2
/-- the end behind some draws -/
theorem held_end {z TI TO T a l : Addr} {f : Bool} {oT : Obj} {its ls : List Addr} {rows : List (Array Value)} {i : Nat} {r : Array Value} {Q : Fin → Shared → Prop} (hh : A.handled = none) (D : Ap z TI TO its ls)
    (hz : Held s.heap z TI TO T f) (hT : s.heap.get? T = some oT) (hTI : s.heap.get? TI = some { cls := .type "tuple", data := .seq (refs its).toArray }) (hI : ItersAt s.heap its ls rows (fun _ => i))
    (h1 : its[0]? = some a) (h2 : ls[0]? = some l) (h3 : rows[0]? = some r) (hx : r[i]? = none)
    (hE : ∀ h' e, KeepBut (z :: its) s.heap h' → (∃ o, h'.get? e = some o ∧ o.cls = .type "StopIteration") → E (.ref e) { s with heap := h' }) :
    wpAny (model prog w) A (Builtin.«zip.__next__» ⟨[.ref z], []⟩) Q E s := by
  show wpAny _ _ (field (.ref z) 2 >>= _) _ _ _
  refine wpAny_bind (wpAny_field hz rfl (x := .bool false) rfl ?_)
  show wpAny _ _ (field (.ref z) 3 >>= _) _ _ _
  refine wpAny_bind (wpAny_field hz rfl (x := .ref TI) rfl ?_)
  refine wpAny_bind (wpAny_seqItems hTI rfl ?_)
  obtain ⟨its2, rfl⟩ : ∃ its2, its = a :: its2 := by
    cases its with
    | nil => simp at h1
    | cons x y => simp at h1; exact ⟨y, by rw [h1]⟩
  dsimp only
  rw [if_neg (show ¬ ((refs (a :: its2)).toArray.isEmpty = true) from Bool.false_ne_true)]
  show wpAny _ _ (Builtin.SmallTypes.ownedTupleIsFree (.ref z) >>= _) _ _ _
  refine wpAny_bind (PySem.wpAny_tupleHeld_zip hz hT fun h₁ hz₁ hs₁ => ?_)
  simp only [Bool.false_eq_true, if_false]
  refine wpAny_bind ?_
  rw [← Array.forIn_toList]
  show wpAny _ _ (forIn (Value.ref a :: refs its2) _ _) _ _ _
  rw [List.forIn_cons]
  refine wpAny_bind (wpAny_bind (wpAny_holding ?_))
  show wpAny _ _ (Builtin.SmallTypes.nextOf (.ref a) >>= _) _ _ _
  obtain ⟨⟨o, ho, q⟩, q2⟩ := hI 0 a l r h1 h2 h3
  have hza : a ≠ z := fun y => D.zi (y ▸ List.mem_cons_self)
  refine wpAny_bind (RZ.nextOf_tuple_end (s := { s with heap := h₁ }) hh ⟨o, hs₁.extBut _ _ hza ho, q⟩ (q2.extBut hs₁.extBut (D.lz l (List.mem_of_getElem? h2)).1) hx fun h₂ e hs₂ he => ?_)
  exact hE h₂ e (fun b o hb e => hs₂ _ _ (fun y => hb (by rw [y]; simp)) (hs₁.extBut _ _ (fun y => hb (by rw [y]; simp)) e)) he
def Free (h : Heap) (z TI TO : Addr) : Prop := IsZip h z TI TO .none
/-- the first draw -/
theorem free_item {z TI TO : Addr} {its ls : List Addr} {rows : List (Array Value)} {i : Nat} {vals : List Value} {kept : Array Value} {Q : Value → Shared → Prop} (D : Ap z TI TO its ls) (hne : its ≠ [])
    (hz : Free s.heap z TI TO) (hTI : s.heap.get? TI = some { cls := .type "tuple", data := .seq (refs its).toArray }) (hTO : s.heap.get? TO = some { cls := .type "tuple", data := .seq kept }) (hks : kept.size = its.length) (hI : ItersAt s.heap its ls rows (fun _ => i)) (hr : rows.length = its.length)
    (hv : vals.length = its.length) (hx : ∀ (k : Nat) (r : Array Value) (v : Value), rows[k]? = some r → vals[k]? = some v → r[i]? = some v) (hsz : its.length ≤ 1000)
    (hQ : ∀ h', Held h' z TI TO s.heap.objs.size false → ItersAt h' its ls rows (fun _ => i + 1) → h'.get? s.heap.objs.size = some { cls := .type "tuple", data := .seq vals.toArray } → h'.objs.size = s.heap.objs.size + 1 →
      KeepBut (z :: TO :: its) s.heap h' → Q (.ref s.heap.objs.size) { s with heap := h' }) :
    wpAny (model prog w) A (Builtin.«zip.__next__» ⟨[.ref z], []⟩) (fun fin s' => ∃ v, fin = .done (.ret v) ∧ Q v s') E s := by
  show wpAny _ _ (field (.ref z) 2 >>= _) _ _ _
  refine wpAny_bind (wpAny_field hz rfl (x := .bool false) rfl ?_)
  show wpAny _ _ (field (.ref z) 3 >>= _) _ _ _
  refine wpAny_bind (wpAny_field hz rfl (x := .ref TI) rfl ?_)
  refine wpAny_bind (wpAny_seqItems hTI rfl ?_)
  have he : (refs its).toArray.isEmpty = false := by
    cases its with
    | nil => exact absurd rfl hne
    | cons a r => rfl
  dsimp only
  rw [if_neg (by rw [he]; decide)]
  show wpAny _ _ (Builtin.SmallTypes.ownedTupleIsFree (.ref z) >>= _) _ _ _
  refine wpAny_bind ?_
  unfold Builtin.SmallTypes.ownedTupleIsFree
  refine wpAny_bind (wpAny_field hz rfl (x := .none) rfl (wpAny_pure ?_))
  simp only [if_true]
  refine wpAny_bind (wpAny_rule ?_)
  refine wpAny_bind (wpAny_field hz rfl (x := .ref TO) rfl ?_)
  refine wpAny_bind (wpAny_setField_rec hz (by simp) fun h₁ hz₁ hs₁ => ?_)
  replace hz₁ : IsZip h₁ z TI TO .ellipsis := hz₁
  have hI₁ : ItersAt h₁ its ls rows (fun _ => i) := fun k a l r e1 e2 e3 => by
    obtain ⟨⟨o, ho, q⟩, q2⟩ := hI k a l r e1 e2 e3
    exact ⟨⟨o, hs₁.extBut _ _ (fun y => D.zi (y ▸ List.mem_of_getElem? e1)) ho, q⟩, q2.extBut hs₁.extBut (fun y => (D.lz l (List.mem_of_getElem? e2)).1 y)⟩
  have hTO₁ : h₁.get? TO = some { cls := .type "tuple", data := .seq kept } := hs₁.extBut _ _ (Ne.symm D.zO) hTO
  refine wpAny_bind (wpAny_forIn_list _ (fun rest b s' => ∃ (j : Nat) (h' : Heap) (kp : Array Value), b = ⟨none, ()⟩ ∧ rest = (refs its).zipIdx.drop j ∧ j ≤ its.length ∧ s' = { s with heap := h' } ∧ ItersAt h' its ls rows (fun k => if k < j then i + 1 else i) ∧
    h'.get? TO = some { cls := .type "tuple", data := .seq kp } ∧ kp.size = its.length ∧ (∀ k, k < j → kp[k]? = vals[k]?) ∧ KeepBut (TO :: its) h₁ h' ∧ h'.objs.size = h₁.objs.size) _ ?_ ?_ _ _ ⟨0, h₁, kept, rfl, rfl, Nat.zero_le _, rfl, fun k a l r e1 e2 e3 => by dsimp only; rw [if_neg (Nat.not_lt_zero _)]; exact hI₁ k a l r e1 e2 e3, hTO₁, hks, fun k hk => absurd hk (Nat.not_lt_zero _), fun b o _ e => e, rfl⟩)
  · rintro x rest b s' ⟨j, h', kp, rfl, hrest, hj, rfl, Ij, hkp, hkps, hkv, hk, hsize⟩
    obtain ⟨a, ha, rfl, hrest2⟩ := refs_dropI its j x rest hrest
    refine wpAny_bind (wpAny_onRaise ?_)
    show wpAny _ _ (Builtin.SmallTypes.nextOf (.ref a) >>= fun v => pure (some v)) _ _ _
    refine turn (s := { s with heap := h' }) (vals := vals) D.nd (fun l hl => (D.lz l hl).2.2) D.ln hr hv hx Ij ha fun v h'' ev I2 hs2 => ?_
    have haO : TO ≠ a := fun y => D.Oi (y ▸ List.mem_of_getElem? ha)
    have hkp2 : h''.get? TO = some { cls := .type "tuple", data := .seq kp } := hs2.extBut _ _ haO hkp
    refine wpAny_bind (wpAny_seqItems hkp2 rfl ?_)
    refine wpAny_bind (wpAny_updateSeq hkp2 rfl ?_ (by rw [hkps]; exact Nat.le_trans hsz (by decide)) (by rw [Array.size_setIfInBounds, hkps]; exact Nat.le_trans hsz (by decide)))
    refine wpAny_bind (wpAny_letGo (wpAny_pure ?_))
    have hs3 := Heap.SameBut.update h'' TO (Obj.mapSeq (·.setIfInBounds j v))
    have g3 : (h''.update TO (Obj.mapSeq (·.setIfInBounds j v))).get? TO = some { cls := .type "tuple", data := .seq (kp.setIfInBounds j v) } := by
      rw [Heap.get?_update_self _ hkp2 rfl]
      simp [Obj.mapSeq]
    have hjn : j < its.length := (List.getElem?_eq_some_iff.mp ha).1
    refine ⟨j + 1, _, kp.setIfInBounds j v, rfl, hrest2, hjn, rfl, ?_, g3, by rw [Array.size_setIfInBounds, hkps], ?_, ?_, hs3.1.trans (hs2.1.trans hsize)⟩
    · intro k a2 l2 r2 e1 e2 e3
      obtain ⟨⟨o, ho, q⟩, q2⟩ := I2 k a2 l2 r2 e1 e2 e3
      exact ⟨⟨o, hs3.extBut _ _ (fun y => D.Oi (y ▸ List.mem_of_getElem? e1)) ho, q⟩, q2.extBut hs3.extBut (D.lz l2 (List.mem_of_getElem? e2)).2.1⟩
    · intro k hkj
      by_cases e : k = j
      · subst e
        rw [Array.getElem?_setIfInBounds_self_of_lt (by omega), ev]
      · rw [Array.getElem?_setIfInBounds_ne (by omega)]
        exact hkv k (by omega)
    · intro b o hb e
      have b1 : b ≠ TO := fun y => hb (by rw [y]; simp)
      have b2 : b ∉ its := fun y => hb (List.mem_cons_of_mem _ y)
      exact hs3.extBut _ _ b1 (hs2.extBut _ _ (fun y => b2 (y ▸ List.mem_of_getElem? ha)) (hk b o hb e))
  · rintro b s' ⟨j, h', kp, rfl, hrest, hj, rfl, Ij, hkp, hkps, hkv, hk, hsize⟩
    have hjn : j = its.length := by
      have := congrArg List.length hrest
      simp [refs] at this
      omega
    subst hjn
    dsimp only
    have ekp : kp = vals.toArray := by
      apply Array.ext_getElem?
      intro k
      by_cases hk2 : k < its.length
      · rw [hkv k hk2]
        simp
      · rw [Array.getElem?_eq_none (by omega), Array.getElem?_eq_none (by simp; omega)]
    subst ekp
    refine wpAny_bind (wpAny_seqItems hkp rfl ?_)
    refine wpAny_bind (wpAny_newTuple ?_ (by show vals.length ≤ sizeLine; exact Nat.le_trans (show vals.length ≤ 1000 by omega) (by decide)))
    have hsz2 : h'.objs.size = s.heap.objs.size := hsize.trans hs₁.1
    have hz2 : IsZip h' z TI TO .ellipsis := hk z _ (by simp only [List.mem_cons, not_or]; exact ⟨D.zO, D.zi⟩) hz₁
    have hzlt : z < h'.objs.size := Heap.lt_size hz2
    show wpAny _ _ (Builtin.SmallTypes.ownedTupleHandOut (.ref z) (.ref h'.objs.size) >>= _) _ _ _
    refine wpAny_bind ?_
    unfold Builtin.SmallTypes.ownedTupleHandOut
    have hz3 : IsZip (h'.push { cls := .type "tuple", data := .seq vals.toArray }) z TI TO .ellipsis := Heap.get?_push_of_some _ hz2
    refine wpAny_bind (wpAny_setField_rec hz3 (by simp) fun h₇ hz₇ hs₇ => ?_)
    replace hz₇ : IsZip h₇ z TI TO (rawInt h'.objs.size) := hz₇
    refine wpAny_setField_rec hz₇ (by simp) fun h₈ hz₈ hs₈ => ?_
    replace hz₈ : Held h₈ z TI TO h'.objs.size false := hz₈
    have up : ∀ c o, c ≠ z → h'.get? c = some o → h₈.get? c = some o := fun c o c1 e => hs₈.extBut _ _ c1 (hs₇.extBut _ _ c1 (Heap.get?_push_of_some _ e))
    have hT₈ : h₈.get? h'.objs.size = some { cls := .type "tuple", data := .seq vals.toArray } := hs₈.extBut _ _ (Nat.ne_of_gt hzlt) (hs₇.extBut _ _ (Nat.ne_of_gt hzlt) (Heap.get?_push_size _ rfl))
    have h8s : h₈.objs.size = h'.objs.size + 1 := by rw [hs₈.1, hs₇.1, Heap.size_push]
    refine wpAny_pure ⟨_, rfl, ?_⟩
    show Q (.ref h'.objs.size) _
    have I8 : ItersAt h₈ its ls rows (fun _ => i + 1) := fun k a l r e1 e2 e3 => by
      obtain ⟨⟨o, ho, q⟩, ol, hol, q2⟩ := Ij k a l r e1 e2 e3
      dsimp only at q
      rw [if_pos (List.getElem?_eq_some_iff.mp e1).1] at q
      exact ⟨⟨o, up _ _ (fun y => D.zi (y ▸ List.mem_of_getElem? e1)) ho, q⟩, ol, up _ _ (D.lz l (List.mem_of_getElem? e2)).1 hol, q2⟩
    have k8 : KeepBut (z :: TO :: its) s.heap h₈ := fun b o hb e => by
      have b1 : b ≠ z := fun y => hb (by rw [y]; simp)
      exact up _ _ b1 (hk b o (fun y => hb (List.mem_cons_of_mem _ y)) (hs₁.extBut _ _ b1 e))
    rw [hsz2] at hz₈ hT₈ h8s ⊢
    exact hQ h₈ hz₈ I8 hT₈ h8s k8
/-- the zip behind i draws -/
structure ZSt (z TI TO : Addr) (its ls : List Addr) (rows : List (Array Value)) (h : Heap) (i : Nat) : Prop where
  ti : h.get? TI = some { cls := .type "tuple", data := .seq (refs its).toArray }
  it : ItersAt h its ls rows (fun _ => i)
  st : (Free h z TI TO ∧ i = 0 ∧ ∃ kept : Array Value, h.get? TO = some { cls := .type "tuple", data := .seq kept } ∧ kept.size = its.length) ∨ (∃ T f oT, Held h z TI TO T f ∧ h.get? T = some oT ∧ oT.cls = .type "tuple" ∧ T ∉ z :: TO :: its)
theorem ZSt.zip {z TI TO : Addr} {its ls : List Addr} {rows : List (Array Value)} {i : Nat} (Z : ZSt z TI TO its ls rows s.heap i) : s.TypeIs (.ref z) "zip" := by
  rcases Z.st with ⟨hz, _⟩ | ⟨T, f, oT, hz, _⟩
  · exact ⟨_, hz, rfl⟩
  · exact ⟨_, hz, rfl⟩
/-- what is laid beside changes nothing -/
theorem ZSt.keep {z TI TO : Addr} {its ls : List Addr} {rows : List (Array Value)} {h h' : Heap} {i : Nat} {S : Addr} {oS : Obj} (Z : ZSt z TI TO its ls rows h i) (hS : h.get? S = some oS) (hc : oS.cls = .type "list") (k : ∀ b o, b ≠ S → h.get? b = some o → h'.get? b = some o) : ZSt z TI TO its ls rows h' i := by
  have ne : ∀ {b o}, h.get? b = some o → o.cls ≠ .type "list" → b ≠ S := fun e n y => by
    subst y
    rw [hS] at e
    cases e
    exact n hc
  have tl : Value.type "tuple" ≠ Value.type "list" := by decide
  have zl : Value.type "zip" ≠ Value.type "list" := by decide
  refine ⟨k _ _ (ne Z.ti tl) Z.ti, fun q a l r e1 e2 e3 => ?_, ?_⟩
  · obtain ⟨⟨o, ho, q1, q2⟩, ol, hol, q3, q4⟩ := Z.it q a l r e1 e2 e3
    exact ⟨⟨o, k _ _ (ne ho (by rw [q1]; decide)) ho, q1, q2⟩, ol, k _ _ (ne hol (by rw [q3]; decide)) hol, q3, q4⟩
  · rcases Z.st with ⟨hz, h0, kept, hk, hs⟩ | ⟨T, f, oT, hz, hT, hn⟩
    · exact .inl ⟨k _ _ (ne hz zl) hz, h0, kept, k _ _ (ne hk tl) hk, hs⟩
    · exact .inr ⟨T, f, oT, k _ _ (ne hz zl) hz, k _ _ (ne hT (by rw [hn.1]; exact tl)) hT, hn⟩
theorem draw {z TI TO : Addr} {its ls : List Addr} {rows : List (Array Value)} {i : Nat} {vals : List Value} {Q : Option Value → Shared → Prop} (D : Ap z TI TO its ls) (hne : its ≠ []) (Z : ZSt z TI TO its ls rows s.heap i) (hlt : ∀ b ∈ z :: TO :: its, b < s.heap.objs.size) (hr : rows.length = its.length)
    (hv : vals.length = its.length) (hx : ∀ (k : Nat) (r : Array Value) (v : Value), rows[k]? = some r → vals[k]? = some v → r[i]? = some v) (hsz : its.length ≤ 1000)
    (hQ : ∀ h', ZSt z TI TO its ls rows h' (i + 1) → h'.get? s.heap.objs.size = some { cls := .type "tuple", data := .seq vals.toArray } → h'.objs.size = s.heap.objs.size + 1 → KeepBut (z :: TO :: its) s.heap h' → Q (some (.ref s.heap.objs.size)) { s with heap := h' }) :
    wpAny (model prog w) A (pyNext (.ref z)) Q E s := by
  have hTy := Z.zip
  have hIn : TI ∉ z :: TO :: its := by
    simp only [List.mem_cons, not_or]
    exact ⟨D.Iz, D.IO, D.Ii⟩
  unfold pyNext
  refine wpAny_bind (wpAny_attempt (wpAny_callSpecial?_slot (name := Str.ofString "__next__") hTy F.slot_zip_next (wpAny_call_entry F.slot_zip_next hTy F.entry_zip_next ?_ (F.args_zip_next_1 _))))
  rcases Z.st with ⟨hz, h0, kept, hk, hs⟩ | ⟨T, f, oT, hz, hT, hn⟩
  · exact free_item D hne hz Z.ti hk hs Z.it hr hv hx hsz fun h' a1 a2 a3 a4 a5 => wpAny_pure (hQ h' ⟨a5 _ _ hIn Z.ti, a2, .inr ⟨_, _, _, a1, a3, rfl, fun y => Nat.lt_irrefl _ (hlt _ y)⟩⟩ a3 a4 a5)
  · refine held_item D hne hz hT Z.ti Z.it hr hv hx hsz fun h' a1 a2 a3 a4 a5 => wpAny_pure ?_
    have a6 : KeepBut (z :: TO :: its) s.heap h' := fun b o hb e => a5 b o (fun y => hb (by
      rcases List.mem_cons.mp y with y | y
      · rw [y]
        exact List.mem_cons_self
      · exact List.mem_cons_of_mem _ (List.mem_cons_of_mem _ y))) e
    exact hQ h' ⟨a6 _ _ hIn Z.ti, a2, .inr ⟨_, _, _, a1, a6 _ _ hn.2 hT, hn⟩⟩ a3 a4 a6
theorem stop {z TI TO a l : Addr} {its ls : List Addr} {rows : List (Array Value)} {i : Nat} {r : Array Value} {Q : Option Value → Shared → Prop} (hh : A.handled = none) (D : Ap z TI TO its ls) (Z : ZSt z TI TO its ls rows s.heap i) (hi : 1 ≤ i)
    (h1 : its[0]? = some a) (h2 : ls[0]? = some l) (h3 : rows[0]? = some r) (hx : r[i]? = none) (hQ : ∀ h', KeepBut (z :: TO :: its) s.heap h' → Q none { s with heap := h' }) : wpAny (model prog w) A (pyNext (.ref z)) Q E s := by
  have hTy := Z.zip
  unfold pyNext
  rcases Z.st with ⟨_, h0, _⟩ | ⟨T, f, oT, hz, hT, hn⟩
  · omega
  · refine wpAny_bind (wpAny_attempt (wpAny_callSpecial?_slot (name := Str.ofString "__next__") hTy F.slot_zip_next (wpAny_call_entry F.slot_zip_next hTy F.entry_zip_next (held_end hh D hz hT Z.ti Z.it h1 h2 h3 hx fun h' e hk he => ?_) (F.args_zip_next_1 _))))
    obtain ⟨o, ho, hc⟩ := he
    refine wpAny_bind (wpAny_isInstance (T := "StopIteration") (b := true) ⟨o, ho, hc⟩ isSubtype_stop ?_)
    refine wpAny_pure (hQ _ fun b o hb e => hk b o (fun y => hb ?_) e)
    rcases List.mem_cons.mp y with y | y
    · rw [y]
      exact List.mem_cons_self
    · exact List.mem_cons_of_mem _ (List.mem_cons_of_mem _ y)
/-- the items drawn so far stand at as -/
structure Got (h : Heap) (lo : Nat) (cols : Nat → List Value) (as : List Addr) : Prop where
  at_ : ∀ (j : Nat) (a : Addr), as[j]? = some a → h.get? a = some { cls := .type "tuple", data := .seq (cols j).toArray }
  up : as.Pairwise (· < ·)
  lo_ : ∀ a ∈ as, lo ≤ a ∧ a < h.objs.size
theorem Got.lay {h h' : Heap} {lo : Nat} {cols : Nat → List Value} {as : List Addr} (G : Got h lo cols as) (k : ∀ a ∈ as, ∀ o, h.get? a = some o → h'.get? a = some o) (hs : h.objs.size ≤ h'.objs.size) : Got h' lo cols as :=
  ⟨fun j a e => k a (List.mem_of_getElem? e) _ (G.at_ j a e), G.up, fun a m => ⟨(G.lo_ a m).1, Nat.lt_of_lt_of_le (G.lo_ a m).2 hs⟩⟩
theorem Got.snoc {h h' : Heap} {lo : Nat} {cols : Nat → List Value} {as : List Addr} (G : Got h lo cols as) (k : ∀ a ∈ as, ∀ o, h.get? a = some o → h'.get? a = some o) (hs : h'.objs.size = h.objs.size + 1) (hlo : lo ≤ h.objs.size)
    (new : h'.get? h.objs.size = some { cls := .type "tuple", data := .seq (cols as.length).toArray }) : Got h' lo cols (as ++ [h.objs.size]) := by
  refine ⟨fun j a e => ?_, ?_, fun a m => ?_⟩
  · rcases Nat.lt_or_ge j as.length with hj | hj
    · rw [List.getElem?_append_left hj] at e
      exact k a (List.mem_of_getElem? e) _ (G.at_ j a e)
    · rw [List.getElem?_append_right hj] at e
      have e0 : j - as.length = 0 := by
        rcases Nat.eq_zero_or_pos (j - as.length) with z | z
        · exact z
        · rw [List.getElem?_eq_none (by simp; omega)] at e
          cases e
      rw [e0] at e
      cases e
      rw [show j = as.length by omega]
      exact new
  · rw [List.pairwise_append]
    refine ⟨G.up, by simp, fun a ha b hb => ?_⟩
    rw [List.mem_singleton.mp hb]
    exact (G.lo_ a ha).2
  · rcases List.mem_append.mp m with m | m
    · exact ⟨(G.lo_ a m).1, by rw [hs]; exact Nat.lt_succ_of_lt (G.lo_ a m).2⟩
    · rw [List.mem_singleton.mp m]
      exact ⟨hlo, by rw [hs]; exact Nat.lt_succ_self _⟩
theorem extend_loop {z TI TO S : Addr} {its ls : List Addr} {rows : List (Array Value)} {n lo : Nat} {cols : Nat → List Value} {R : Result → Shared → Prop} (hh : A.in1.handled = none) (D : Ap z TI TO its ls) (hne : its ≠ []) (hr : rows.length = its.length) (h1n : 1 ≤ n) (hn : n ≤ 1000) (hsz : its.length ≤ 1000)
    (hw : ∀ r ∈ rows, r.size = n) (hc : ∀ i, i < n → (cols i).length = its.length ∧ ∀ (k : Nat) (r : Array Value) (v : Value), rows[k]? = some r → (cols i)[k]? = some v → r[i]? = some v) (hSW : S ∉ z :: TO :: its) (res : Value) :
    ∀ (k : Nat) (s : Shared) (as : List Addr) (c : Nat), n - as.length = k → as.length ≤ n → ZSt z TI TO its ls rows s.heap as.length → (∀ b ∈ z :: TO :: its, b < s.heap.objs.size ∧ b < lo) → S < lo → lo ≤ s.heap.objs.size →
    s.heap.get? S = some { cls := .type "list", dict := none, data := .seq (refs as).toArray c, slots := #[] } → Got s.heap lo cols as →
    (∀ h' as' c', as'.length = n → KeepBut (S :: z :: TO :: its) s.heap h' → h'.get? S = some { cls := .type "list", dict := none, data := .seq (refs as').toArray c', slots := #[] } → Got h' lo cols as' → R (.ok (.ret res)) { s with heap := h' }) →
    codeAny (model prog w) A (.builtin "list.extend.loop" ⟨[.ref S, .ref z, res], []⟩) R s := by
  intro k
  induction k with
  | zero =>
    intro s as c hk hle Z hlt hSl hlo hS G hR
    have e : as.length = n := by omega
    obtain ⟨a, ha⟩ : ∃ a, its[0]? = some a := by
      cases its with
      | nil => exact absurd rfl hne
      | cons a r => exact ⟨a, rfl⟩
    have hpos : 0 < its.length := (List.getElem?_eq_some_iff.mp ha).1
    have hln := D.ln
    have h2 : ls[0]? = some (ls[0]'(by omega)) := List.getElem?_eq_getElem (by omega)
    have h3 : rows[0]? = some (rows[0]'(by omega)) := List.getElem?_eq_getElem (by omega)
    refine codeAny_builtin F.entry_extend_loop ?_
    rw [Around.under_plainId F.plain_extend_loop _]
    show wpAny _ A.in1 (pyNext (.ref z) >>= _) _ _ s
    refine wpAny_bind (stop hh D Z (by omega) ha h2 h3 (Array.getElem?_eq_none (by rw [hw _ (List.mem_of_getElem? h3)]; omega)) fun h' hk' => ?_)
    have keepG : ∀ a ∈ as, ∀ o, s.heap.get? a = some o → h'.get? a = some o := fun a m o x => hk' a o (fun y => Nat.lt_irrefl _ (Nat.lt_of_lt_of_le (hlt a y).2 (G.lo_ a m).1)) x
    refine wpAny_pure (hR h' as c e (fun b o hb x => hk' b o (fun y => hb (List.mem_cons_of_mem _ y)) x) (hk' _ _ hSW hS) ⟨fun j a x => keepG a (List.mem_of_getElem? x) _ (G.at_ j a x), G.up, fun a m => ⟨(G.lo_ a m).1, ?_⟩⟩)
    obtain ⟨j, hj⟩ := List.mem_iff_getElem?.mp m
    exact Heap.lt_size (keepG a m _ (G.at_ j a hj))
  | succ k ih =>
    intro s as c hk hle Z hlt hSl hlo hS G hR
    have hi : as.length < n := by omega
    obtain ⟨hcl, hcx⟩ := hc as.length hi
    refine codeAny_builtin F.entry_extend_loop ?_
    rw [Around.under_plainId F.plain_extend_loop _]
    show wpAny _ A.in1 (pyNext (.ref z) >>= _) _ _ s
    refine wpAny_bind (draw D hne Z (fun b m => (hlt b m).1) hr hcl hcx hsz fun h' Z' new hsize hk' => ?_)
    have hS' := hk' _ _ hSW hS
    show wpAny _ A.in1 (updateSeq S (·.push (.ref s.heap.objs.size)) >>= _) _ _ _
    refine wpAny_bind (wpAny_updateSeq hS' rfl ?_ (by simp [refs]; exact Nat.le_trans (show as.length ≤ 1000 by omega) (by decide)) (by rw [Array.size_push]; simp [refs]; exact Nat.le_trans (show as.length ≤ 1000 by omega) (by decide)))
    have hs3 := Heap.SameBut.update h' S (Obj.mapSeq (·.push (Value.ref s.heap.objs.size)))
    have keepG : ∀ a ∈ as, ∀ o, s.heap.get? a = some o → h'.get? a = some o := fun a m o x => hk' a o (fun y => Nat.lt_irrefl _ (Nat.lt_of_lt_of_le (hlt a y).2 (G.lo_ a m).1)) x
    have G' := G.snoc keepG hsize hlo new
    have g3 : ∃ c', (h'.update S (Obj.mapSeq (·.push (Value.ref s.heap.objs.size)))).get? S = some { cls := .type "list", dict := none, data := .seq (refs (as ++ [s.heap.objs.size])).toArray c', slots := #[] } := by
      rw [Heap.get?_update_self _ hS' rfl]
      have e : (refs as).toArray.push (Value.ref s.heap.objs.size) = (refs (as ++ [s.heap.objs.size])).toArray := by simp [refs]
      rw [← e]
      exact ⟨_, rfl⟩
    obtain ⟨c', g3⟩ := g3
    have el : (as ++ [s.heap.objs.size]).length = as.length + 1 := by simp
    refine wpAny_pure ⟨plainId_quiet F.plain_extend_loop _, ih { s with heap := h'.update S (Obj.mapSeq (·.push (Value.ref s.heap.objs.size))) } (as ++ [s.heap.objs.size]) c' (by rw [el]; omega) (by rw [el]; omega) ?_ ?_ hSl ?_ g3 ?_ ?_⟩
    · rw [el]
      exact Z'.keep hS' rfl fun b o hb x => hs3.extBut _ _ hb x
    · intro b m
      refine ⟨?_, (hlt b m).2⟩
      show b < (h'.update S _).objs.size
      rw [hs3.1, hsize]
      exact Nat.lt_succ_of_lt (hlt b m).1
    · show lo ≤ (h'.update S _).objs.size
      rw [hs3.1, hsize]
      exact Nat.le_succ_of_le hlo
    · refine G'.lay (fun a m o x => hs3.extBut _ _ (fun y => ?_) x) (by rw [hs3.1]; exact Nat.le_refl _)
      rw [y] at m
      exact Nat.lt_irrefl _ (Nat.lt_of_lt_of_le hSl (G'.lo_ S m).1)
    · intro h'' as' c'' e1 k1 e2 G2
      refine hR h'' as' c'' e1 (fun b o hb x => k1 b o hb (hs3.extBut _ _ (fun y => hb (by rw [y]; exact List.mem_cons_self)) (hk' b o (fun y => hb (List.mem_cons_of_mem _ y)) x))) e2 G2
theorem no_len : typeLookup (.type "zip") "__len__" = pure none := by rw [typeLookup_type, builtinLookup_eq_fast]; kernel_rfl
theorem no_hint : typeLookup (.type "zip") "__length_hint__" = pure none := by rw [typeLookup_type, builtinLookup_eq_fast]; kernel_rfl
/-- list(zip) as the machine collects it -/
theorem collect_zip {z TI TO : Addr} {its ls : List Addr} {rows : List (Array Value)} {n : Nat} {cols : Nat → List Value} {Q : List Value → Shared → Prop} (hh : A.in1.handled = none) (D : Ap z TI TO its ls) (hne : its ≠ []) (hr : rows.length = its.length) (h1n : 1 ≤ n) (hn : n ≤ 1000) (hsz : its.length ≤ 1000)
    (hw : ∀ r ∈ rows, r.size = n) (hc : ∀ i, i < n → (cols i).length = its.length ∧ ∀ (k : Nat) (r : Array Value) (v : Value), rows[k]? = some r → (cols i)[k]? = some v → r[i]? = some v) (Z : ZSt z TI TO its ls rows s.heap 0) (hlt : ∀ b ∈ z :: TO :: its, b < s.heap.objs.size)
    (hQ : ∀ h' as, as.length = n → KeepBut (z :: TO :: its) s.heap h' → Got h' s.heap.objs.size cols as → Q (refs as) { s with heap := h' }) : wpAny (model prog w) A (collect (.ref z)) Q E s := by
  have hSI : s.heap.objs.size ≠ z := Nat.ne_of_gt (hlt z List.mem_cons_self)
  unfold collect
  refine wpAny_bind (wpAny_runValue (codeAny_builtin F.entry_proto_collect ?_))
  rw [Around.under_plainId F.plain_proto_collect _]
  show wpAny _ A.in1 (newList [] >>= fun l => again (.builtin "list.__iadd__" ⟨[l, .ref z], []⟩)) _ _ s
  refine wpAny_bind (wpAny_newObj_type ?_)
  refine wpAny_pure ⟨plainId_quiet F.plain_list_iadd _, codeAny_builtin F.entry_list_iadd ?_⟩
  rw [Around.under_plainId F.plain_list_iadd _]
  have up : ∀ b o, s.heap.get? b = some o → (s.heap.push { cls := .type "list", data := .seq ([] : List Value).toArray }).get? b = some o := fun b o e => Heap.get?_push_of_some _ e
  have Z1 : ZSt z TI TO its ls rows (s.heap.push { cls := .type "list", data := .seq ([] : List Value).toArray }) 0 := by
    refine ⟨up _ _ Z.ti, fun q a l r e1 e2 e3 => ?_, ?_⟩
    · obtain ⟨⟨o, ho, q1⟩, ol, hol, q3⟩ := Z.it q a l r e1 e2 e3
      exact ⟨⟨o, up _ _ ho, q1⟩, ol, up _ _ hol, q3⟩
    · rcases Z.st with ⟨hz, h0, kept, hk, hs⟩ | ⟨T, f, oT, hz, hT, hn⟩
      · exact .inl ⟨up _ _ hz, h0, kept, up _ _ hk, hs⟩
      · exact .inr ⟨T, f, oT, up _ _ hz, up _ _ hT, hn⟩
  show wpAny _ A.in1 (Builtin.List.listExtendWith (.ref s.heap.objs.size) (.ref z) (.ref s.heap.objs.size)) _ _ _
  unfold Builtin.List.listExtendWith
  refine wpAny_bind (wpAny_typeOf (Z1.zip (s := { s with heap := s.heap.push { cls := .type "list", data := .seq ([] : List Value).toArray } })) ?_)
  have h1 : Builtin.List.listSameRef (.ref s.heap.objs.size) (.ref z) = false := by simp [Builtin.List.listSameRef, hSI]
  have h2 : (Value.type "zip" == Value.type "list") = false := by decide
  have h3 : (Value.type "zip" == Value.type "tuple") = false := by decide
  simp only [h1, h2, h3, Bool.or_false, Bool.false_eq_true, if_false]
  refine wpAny_bind ?_
  have zi : wpAny (model prog w) A.in1 (pyIter (.ref z)) (fun v s' => v = .ref z ∧ s' = { s with heap := s.heap.push { cls := .type "list", data := .seq #[] } }) (fun e s' => E e s') { s with heap := s.heap.push { cls := .type "list", data := .seq #[] } } := by
    rcases Z1.st with ⟨hz, _⟩ | ⟨T, f, oT, hz, _⟩
    · have hT : Shared.TypeIs { s with heap := s.heap.push { cls := .type "list", data := .seq #[] } } (.ref z) "zip" := ⟨_, hz, rfl⟩
      refine wpAny_pyIter_slot hT F.slot_zip_iter (wpAny_call_entry F.slot_zip_iter hT F.entry_zip_iter ?_ (F.args_zip_iter_1 _))
      show wpAny _ _ (ret (.ref z)) _ _ _
      exact wpAny_pure ⟨_, rfl, "zip", _, hT, F.slot_zip_next.lookup, rfl, rfl⟩
    · have hT : Shared.TypeIs { s with heap := s.heap.push { cls := .type "list", data := .seq #[] } } (.ref z) "zip" := ⟨_, hz, rfl⟩
      refine wpAny_pyIter_slot hT F.slot_zip_iter (wpAny_call_entry F.slot_zip_iter hT F.entry_zip_iter ?_ (F.args_zip_iter_1 _))
      show wpAny _ _ (ret (.ref z)) _ _ _
      exact wpAny_pure ⟨_, rfl, "zip", _, hT, F.slot_zip_next.lookup, rfl, rfl⟩
  refine wpAny_mono zi (fun v s' hv => ?_) fun _ _ e => e
  obtain ⟨rfl, rfl⟩ := hv
  refine wpAny_bind (wpAny_holding ?_)
  unfold Builtin.List.listLengthHint
  refine wpAny_bind (wpAny_specialOf (Z1.zip (s := { s with heap := s.heap.push { cls := .type "list", data := .seq ([] : List Value).toArray } })) no_len ?_)
  show wpAny _ A.in1 (specialOf (Value.ref z) (Str.ofString "__length_hint__") >>= _) _ _ _
  refine wpAny_bind (wpAny_specialOf (Z1.zip (s := { s with heap := s.heap.push { cls := .type "list", data := .seq ([] : List Value).toArray } })) no_hint ?_)
  refine wpAny_pure ?_
  rw [Bool.true_or, if_pos rfl]
  refine wpAny_bind (wpAny_rule (wpAny_bind ?_))
  have hS1 : (s.heap.push { cls := .type "list", data := .seq (#[] : Array Value) }).get? s.heap.objs.size = some { cls := .type "list", data := .seq (#[] : Array Value) } := Heap.get?_push_size _ rfl
  show wpAny _ A.in1 (updateSeq s.heap.objs.size (·.push .none) >>= fun _ => updateSeq s.heap.objs.size (·.pop)) _ _ _
  refine wpAny_bind (wpAny_updateSeq hS1 rfl ?_)
  have hS2 := Heap.get?_update_self (Obj.mapSeq (·.push Value.none)) hS1 rfl
  refine wpAny_updateSeq hS2 rfl ?_
  have hS3 := Heap.get?_update_self (Obj.mapSeq (·.pop)) hS2 rfl
  have oth : ∀ b o, b ≠ s.heap.objs.size → (s.heap.push { cls := .type "list", data := .seq (#[] : Array Value) }).get? b = some o →
      (((s.heap.push { cls := .type "list", data := .seq (#[] : Array Value) }).update s.heap.objs.size (Obj.mapSeq (·.push Value.none))).update s.heap.objs.size (Obj.mapSeq (·.pop))).get? b = some o :=
    fun b o hb e => (Heap.get?_update_other _ _ (Ne.symm hb)).trans ((Heap.get?_update_other _ _ (Ne.symm hb)).trans e)
  have size3 : (((s.heap.push { cls := .type "list", data := .seq (#[] : Array Value) }).update s.heap.objs.size (Obj.mapSeq (·.push Value.none))).update s.heap.objs.size (Obj.mapSeq (·.pop))).objs.size = s.heap.objs.size + 1 := by
    rw [(Heap.SameBut.update _ _ _).1, (Heap.SameBut.update _ _ _).1, Heap.size_push]
  have hSW : s.heap.objs.size ∉ z :: TO :: its := fun y => Nat.lt_irrefl _ (hlt _ y)
  obtain ⟨H3, hH3⟩ : ∃ H3, H3 = ((s.heap.push { cls := .type "list", data := .seq (#[] : Array Value) }).update s.heap.objs.size (Obj.mapSeq (·.push Value.none))).update s.heap.objs.size (Obj.mapSeq (·.pop)) := ⟨_, rfl⟩
  rw [← hH3] at hS3 size3
  have oth3 : ∀ b o, b ≠ s.heap.objs.size → (s.heap.push { cls := .type "list", data := .seq (#[] : Array Value) }).get? b = some o → H3.get? b = some o := fun b o hb e => by rw [hH3]; exact oth b o hb e
  obtain ⟨c3, e3⟩ : ∃ c3, H3.get? s.heap.objs.size = some { cls := .type "list", dict := none, data := .seq (refs []).toArray c3, slots := #[] } := ⟨_, hS3⟩
  have Z3 : ZSt z TI TO its ls rows H3 0 := Z1.keep hS1 rfl oth3
  refine wpAny_pure ⟨plainId_quiet F.plain_extend_loop _, ?_⟩
  show codeAny _ _ _ _ { s with heap := ((s.heap.push { cls := .type "list", data := .seq (#[] : Array Value) }).update s.heap.objs.size (Obj.mapSeq (·.push Value.none))).update s.heap.objs.size (Obj.mapSeq (·.pop)) }
  rw [← hH3]
  refine extend_loop (lo := s.heap.objs.size + 1) hh D hne hr h1n hn hsz hw hc hSW _ n { s with heap := H3 } [] c3 rfl (Nat.zero_le _) Z3 (fun b m => ⟨?_, Nat.lt_succ_of_lt (hlt b m)⟩) (Nat.lt_succ_self _) (by show _ ≤ H3.objs.size; rw [size3]; exact Nat.le_refl _) e3 ⟨fun j a e => by simp at e, .nil, fun a m => nomatch m⟩ fun h' as c' hl k1 e1 G => ?_
  · show b < H3.objs.size
    rw [size3]
    exact Nat.lt_succ_of_lt (hlt b m)
  · show wpAny _ A (load s.heap.objs.size >>= _) _ _ _
    refine wpAny_bind (wpAny_load e1 ?_)
    refine wpAny_pure ?_
    show Q (refs as).toArray.toList _
    refine hQ h' as hl (fun b o hb e => ?_) ⟨G.at_, G.up, fun a m => ⟨Nat.le_of_succ_le (G.lo_ a m).1, (G.lo_ a m).2⟩⟩
    have hb2 : b ≠ s.heap.objs.size := Nat.ne_of_lt (Heap.lt_size e)
    exact k1 b o (fun y => (List.mem_cons.mp y).elim hb2 hb) (oth3 b o hb2 (up b o e))
theorem code_tuple {z TI TO : Addr} {its ls : List Addr} {rows : List (Array Value)} {n : Nat} {cols : Nat → List Value} {Q₁ : Value → Shared → Prop} (hh : A.in1.in1.handled = none) (D : Ap z TI TO its ls) (hne : its ≠ []) (hr : rows.length = its.length) (h1n : 1 ≤ n) (hn : n ≤ 1000) (hsz : its.length ≤ 1000)
    (hw : ∀ r ∈ rows, r.size = n) (hc : ∀ i, i < n → (cols i).length = its.length ∧ ∀ (k : Nat) (r : Array Value) (v : Value), rows[k]? = some r → (cols i)[k]? = some v → r[i]? = some v) (Z : ZSt z TI TO its ls rows s.heap 0) (hlt : ∀ b ∈ z :: TO :: its, b < s.heap.objs.size)
    (hQ : ∀ h' as, as.length = n → KeepBut (z :: TO :: its) s.heap h' → Got h' s.heap.objs.size cols as → Q₁ (.ref h'.objs.size) { s with heap := h'.push { cls := .type "tuple", data := .seq (refs as).toArray } }) :
    codeAny (model prog w) A (.call (.builtin "tuple.__new__") ⟨[.type "tuple", .ref z], []⟩) (wants Q₁ E) s := by
  refine codeAny_of_tree ?_
  show wpAny _ A.in1 (do checkBuiltinCall "tuple.__new__" ⟨[.type "tuple", .ref z], []⟩; again (.builtin "tuple.__new__" ⟨[.type "tuple", .ref z], []⟩)) _ _ s
  refine wpAny_bind (wpAny_of_eq (F.newCall_tuple_1 _) (wpAny_pure ⟨plainId_quiet F.plain_tuple_new _, codeAny_builtin F.entry_tuple_new ?_⟩))
  rw [Around.under_plainId F.plain_tuple_new _]
  have hsub := sub_tuple_self
  have hinit := init_tuple_lookup
  have hmh := madeHere_tuple
  have hTI := Z.zip
  wp_walk using wpAny_typeOf hTI, collect_zip hh D hne hr h1n hn hsz hw hc Z hlt
  intro h' as hl k G
  show wpAny _ _ (Builtin.Tuple.tupleExact (refs as).toArray >>= fun v => ret v) _ _ _
  unfold Builtin.Tuple.tupleExact
  refine wpAny_bind (wpAny_newObj_type ?_ (by show (refs as).toArray.size ≤ sizeLine; rw [show (refs as).toArray.size = as.length by simp [refs]]; exact Nat.le_trans (show as.length ≤ 1000 by omega) (by decide)))
  exact wpAny_pure (hQ h' as hl k G)
theorem call_tuple {z TI TO : Addr} {its ls : List Addr} {rows : List (Array Value)} {n : Nat} {cols : Nat → List Value} {Q : Value → Shared → Prop} (hh : A.in1.in1.in1.handled = none) (D : Ap z TI TO its ls) (hne : its ≠ []) (hr : rows.length = its.length) (h1n : 1 ≤ n) (hn : n ≤ 1000) (hsz : its.length ≤ 1000)
    (hw : ∀ r ∈ rows, r.size = n) (hc : ∀ i, i < n → (cols i).length = its.length ∧ ∀ (k : Nat) (r : Array Value) (v : Value), rows[k]? = some r → (cols i)[k]? = some v → r[i]? = some v) (Z : ZSt z TI TO its ls rows s.heap 0) (hlt : ∀ b ∈ z :: TO :: its, b < s.heap.objs.size)
    (hQ : ∀ h' as, as.length = n → KeepBut (z :: TO :: its) s.heap h' → Got h' s.heap.objs.size cols as → Q (.ref h'.objs.size) { s with heap := h'.push { cls := .type "tuple", data := .seq (refs as).toArray } }) :
    wpAny (model prog w) A (call (.type "tuple") [.ref z]) Q E s := by
  refine callType_codes (Q₁ := fun obj s₁ => s₁.TypeIs obj "tuple" ∧ Q obj s₁) F.called_tuple (F.typeCall_tuple_1 _) F.entry_object_init
    (code_tuple hh D hne hr h1n hn hsz hw hc Z hlt fun h' as hl k G => ⟨⟨_, Heap.get?_push_size _ rfl, rfl⟩, hQ h' as hl k G⟩) fun obj s₁ h₁ => ?_
  exact ⟨h₁.1, F.args_object_init_2 obj _, object_init_meets F.called_tuple.init.lookup F.called_tuple.made (by decide) prog w A.in1 _ s₁ ⟨h₁.1, rfl, h₁.2⟩⟩
end
end ZN

namespace ZN
open PySem PySem.Spec PyProof.Rows
theorem typeCall (us : List Value) : checkTypeCall "zip" ⟨us, []⟩ = pure () := by kernel_rfl
theorem newCall : ∀ us : List Value, 1 ≤ us.length → us.length ≤ 8 → checkBuiltinCall "zip.__new__" ⟨.type "zip" :: us, []⟩ = pure ()
  | [a], _, _ => by kernel_rfl
  | [a, b], _, _ => by kernel_rfl
  | [a, b, c], _, _ => by kernel_rfl
  | [a, b, c, d], _, _ => by kernel_rfl
  | [a, b, c, d, e], _, _ => by kernel_rfl
  | [a, b, c, d, e, f], _, _ => by kernel_rfl
  | [a, b, c, d, e, f, g], _, _ => by kernel_rfl
  | [a, b, c, d, e, f, g, h], _, _ => by kernel_rfl
  | a :: b :: c :: d :: e :: f :: g :: h :: i :: us, _, z => absurd z (by simp)
theorem args_init (a b : Value) (us : List Value) : argsOk "object.__init__" ⟨a :: b :: us, []⟩ := by
  unfold argsOk; rw [signature?_of (id := "object.__init__") (n := ['_', '_', 't', 'i', 'n', 'i', '_', '_']) (o := ['t', 'c', 'e', 'j', 'b', 'o']) (by kernel_rfl) F.owner_object]; kernel_rfl
/-- where the iterators stand when zip is made -/
def newIts (n0 N : Nat) : List Addr := (List.range N).map (n0 + ·)
theorem meets_new (ls : List Addr) (rows : List (Array Value)) (hr : rows.length = ls.length) (hsz : ls.length ≤ 1000) :
    Meets (Builtin.«zip.__new__» ⟨.type "zip" :: refs ls, []⟩) (fun _ R s => (∀ (k : Nat) (l : Addr) (r : Array Value), ls[k]? = some l → rows[k]? = some r → s.heap.IsTuple l r) ∧
      ∀ h', ZSt (s.heap.objs.size + ls.length + 2) (s.heap.objs.size + ls.length) (s.heap.objs.size + ls.length + 1) (newIts s.heap.objs.size ls.length) ls rows h' 0 → h'.objs.size = s.heap.objs.size + ls.length + 3 → (∀ b o, s.heap.get? b = some o → h'.get? b = some o) →
      R (.ok (.ret (.ref (s.heap.objs.size + ls.length + 2)))) { s with heap := h' }) :=
  .of_wp fun prog w A R s h => by
    obtain ⟨hp, g, d, tk, os⟩ := s
    obtain ⟨hl, h⟩ := h
    have hsub := sub_zip
    unfold Builtin.«zip.__new__»
    wp_walk using wpAny_forIn_list _ (fun rest (b : Array Value) s' => ∃ (j : Nat) (h' : Heap), b = (refs (newIts hp.objs.size j)).toArray ∧ rest = (refs ls).drop j ∧ j ≤ ls.length ∧ s' = ⟨h', g, d, tk, os⟩ ∧
      (∀ (k : Nat) (l : Addr), k < j → ls[k]? = some l → h'.IsTupleIter (hp.objs.size + k) l 0) ∧ h'.objs.size = hp.objs.size + j ∧ ∀ b o, hp.get? b = some o → h'.get? b = some o) _
    · rintro x rest b s' ⟨j, h', rfl, hrest, hj, rfl, hit, hsz2, hk⟩
      obtain ⟨l, hlj, rfl, hrest2⟩ := refs_drop ls j x rest hrest
      have hjl : j < ls.length := (List.getElem?_eq_some_iff.mp hlj).1
      have hrow : rows[j]? = some (rows[j]'(by omega)) := List.getElem?_eq_getElem (by omega)
      obtain ⟨o, ho, q⟩ := hl j l _ hlj hrow
      have hlt2 : h'.IsTuple l (rows[j]'(by omega)) := ⟨o, hk _ _ ho, q⟩
      refine wpAny_bind (wpAny_holding (wpAny_pyIter_tuple hlt2 ?_))
      refine wpAny_pure ⟨j + 1, _, ?_, hrest2, hjl, rfl, fun k l2 hk2 e2 => ?_, ?_, fun b o e => Heap.get?_push_of_some _ (hk b o e)⟩
      · have e1 : newIts hp.objs.size (j + 1) = newIts hp.objs.size j ++ [hp.objs.size + j] := by simp [newIts, List.range_succ]
        rw [e1]
        show _ = (refs _).toArray
        simp [refs, hsz2]
      · by_cases e : k = j
        · subst e
          rw [hlj] at e2
          cases e2
          rw [← hsz2]
          exact ⟨_, Heap.get?_push_size _ rfl, rfl, rfl⟩
        · obtain ⟨o2, ho2, q2⟩ := hit k l2 (by omega) e2
          exact ⟨o2, Heap.get?_push_of_some _ ho2, q2⟩
      · rw [Heap.size_push, hsz2]
        rfl
    · rintro b s' ⟨j, h', rfl, hrest, hj, rfl, hit, hsz2, hk⟩
      have hjn : j = ls.length := by
        have := congrArg List.length hrest
        simp [refs] at this
        omega
      subst hjn
      refine wpAny_pure ?_
      have hN : (refs (newIts hp.objs.size ls.length)).length = ls.length := by simp [refs, newIts]
      have sl : ls.length ≤ sizeLine := Nat.le_trans hsz (by decide)
      refine wpAny_bind (wpAny_newTuple ?_ (by show (refs _).length ≤ _; rw [hN]; exact sl))
      refine wpAny_bind (wpAny_newTuple ?_ (by show (List.map _ (refs _)).length ≤ _; rw [List.length_map, hN]; exact sl))
      refine wpAny_bind ?_
      unfold Builtin.SmallTypes.newRecord
      refine wpAny_newObj_type ?_ (Nat.le_trans (show 5 ≤ 5 from Nat.le_refl _) (by decide) : (5 : Nat) ≤ sizeLine + 2)
      refine wpAny_pure ?_
      have z2 : (h'.push { cls := .type "tuple", data := .seq (refs (newIts hp.objs.size ls.length)).toArray }).objs.size = hp.objs.size + ls.length + 1 := by rw [Heap.size_push, hsz2]
      have z3 : ((h'.push { cls := .type "tuple", data := .seq (refs (newIts hp.objs.size ls.length)).toArray }).push { cls := .type "tuple", data := .seq (List.map (fun _ => Value.none) (refs (newIts hp.objs.size ls.length))).toArray }).objs.size = hp.objs.size + ls.length + 2 := by rw [Heap.size_push, z2]
      refine ⟨_, rfl, ?_⟩
      show R (.ok (.ret (.ref ((h'.push { cls := .type "tuple", data := .seq (refs (newIts hp.objs.size ls.length)).toArray }).push { cls := .type "tuple", data := .seq (List.map (fun _ => Value.none) (refs (newIts hp.objs.size ls.length))).toArray }).objs.size)))
        ⟨((h'.push { cls := .type "tuple", data := .seq (refs (newIts hp.objs.size ls.length)).toArray }).push { cls := .type "tuple", data := .seq (List.map (fun _ => Value.none) (refs (newIts hp.objs.size ls.length))).toArray }).push
          { cls := .type "zip", data := .fields #[.none, .bool false, .bool false, .ref h'.objs.size, .ref (h'.push { cls := .type "tuple", data := .seq (refs (newIts hp.objs.size ls.length)).toArray }).objs.size] }, g, d, tk, os⟩
      have g1 : (h'.push { cls := .type "tuple", data := .seq (refs (newIts hp.objs.size ls.length)).toArray }).get? h'.objs.size = some { cls := .type "tuple", data := .seq (refs (newIts hp.objs.size ls.length)).toArray } := Heap.get?_push_size _ rfl
      have g2 := Heap.get?_push_size (h'.push { cls := .type "tuple", data := .seq (refs (newIts hp.objs.size ls.length)).toArray }) (o := { cls := .type "tuple", data := .seq (List.map (fun _ => Value.none) (refs (newIts hp.objs.size ls.length))).toArray }) rfl
      have g3 := Heap.get?_push_size ((h'.push { cls := .type "tuple", data := .seq (refs (newIts hp.objs.size ls.length)).toArray }).push { cls := .type "tuple", data := .seq (List.map (fun _ => Value.none) (refs (newIts hp.objs.size ls.length))).toArray })
        (o := { cls := .type "zip", data := .fields #[.none, .bool false, .bool false, .ref h'.objs.size, .ref (h'.push { cls := .type "tuple", data := .seq (refs (newIts hp.objs.size ls.length)).toArray }).objs.size] }) rfl
      rw [z3] at g3 ⊢
      rw [z2] at g2
      rw [hsz2] at g1
      refine h _ ⟨?_, fun k a l r e1 e2 e3 => ?_, .inl ⟨?_, rfl, (List.map (fun _ => Value.none) (refs (newIts hp.objs.size ls.length))).toArray, ?_, ?_⟩⟩ ?_ ?_
      · exact Heap.get?_push_of_some _ (Heap.get?_push_of_some _ g1)
      · have hk2 : k < ls.length := (List.getElem?_eq_some_iff.mp e2).1
        have ea : a = hp.objs.size + k := by
          have e4 : (newIts hp.objs.size ls.length)[k]? = some (hp.objs.size + k) := by simp [newIts, hk2]
          have e1' : (newIts hp.objs.size ls.length)[k]? = some a := e1
          rw [e4] at e1'
          cases e1'
          rfl
        subst ea
        obtain ⟨o, ho, q⟩ := hit k l hk2 e2
        obtain ⟨o2, ho2, q2⟩ := hl k l r e2 e3
        exact ⟨⟨o, Heap.get?_push_of_some _ (Heap.get?_push_of_some _ (Heap.get?_push_of_some _ ho)), q⟩, o2, Heap.get?_push_of_some _ (Heap.get?_push_of_some _ (Heap.get?_push_of_some _ (hk _ _ ho2))), q2⟩
      · show IsZip _ (hp.objs.size + ls.length + 2) (hp.objs.size + ls.length) (hp.objs.size + ls.length + 1) .none
        rw [z2, hsz2] at g3
        show Heap.get? _ _ = _
        rw [z2, hsz2]
        exact g3
      · exact Heap.get?_push_of_some _ g2
      · simp [refs]
      · rw [Heap.size_push, z3]
      · exact fun b o e => Heap.get?_push_of_some _ (Heap.get?_push_of_some _ (Heap.get?_push_of_some _ (hk b o e)))
    · exact ⟨0, hp, by simp [newIts, refs], rfl, Nat.zero_le _, rfl, fun k l h => absurd h (Nat.not_lt_zero _), rfl, fun _ _ e => e⟩
theorem newIts_ap {n0 : Nat} {ls : List Addr} (hl : ∀ l ∈ ls, l < n0) : Ap (n0 + ls.length + 2) (n0 + ls.length) (n0 + ls.length + 1) (newIts n0 ls.length) ls := by
  have mem : ∀ a, a ∈ newIts n0 ls.length → n0 ≤ a ∧ a < n0 + ls.length := fun a h => by
    obtain ⟨k, hk, rfl⟩ := List.mem_map.mp h
    have := List.mem_range.mp hk
    exact ⟨Nat.le_add_right _ _, Nat.add_lt_add_left this _⟩
  refine ⟨fun z => ?_, fun z => ?_, fun z => ?_, ?_, fun z => ?_, fun z => ?_, fun z => ?_, fun l h => ⟨fun z => ?_, fun z => ?_, fun z => ?_⟩, by simp [newIts]⟩
  · exact absurd (show n0 + ls.length + 2 = n0 + ls.length + 1 from z) (by omega)
  · exact absurd (show n0 + ls.length + 2 < n0 + ls.length from (mem _ z).2) (by omega)
  · exact absurd (show n0 + ls.length + 1 < n0 + ls.length from (mem _ z).2) (by omega)
  · show List.Pairwise (· ≠ ·) ((List.range ls.length).map (n0 + ·))
    rw [List.pairwise_map]
    exact List.pairwise_lt_range.imp fun h z => absurd (Nat.add_left_cancel z) (Nat.ne_of_lt h)
  · exact absurd (show n0 + ls.length = n0 + ls.length + 2 from z) (by omega)
  · exact absurd (show n0 + ls.length = n0 + ls.length + 1 from z) (by omega)
  · exact absurd (show n0 + ls.length < n0 + ls.length from (mem _ z).2) (Nat.lt_irrefl _)
  · exact absurd (show n0 + ls.length + 2 < n0 from z ▸ hl l h) (by omega)
  · exact absurd (show n0 + ls.length + 1 < n0 from z ▸ hl l h) (by omega)
  · have h1 := hl l h
    have h2 := (mem _ z).1
    exact absurd h1 (Nat.not_lt.mpr h2)
section
variable {prog : Program} {w : World} {A : Around} {E : Value → Shared → Prop} {s : Shared}
theorem call_zip {ls : List Addr} {rows : List (Array Value)} {Q : Value → Shared → Prop} (h1 : 1 ≤ ls.length) (h8 : ls.length ≤ 8) (hr : rows.length = ls.length) (hl : ∀ (k : Nat) (l : Addr) (r : Array Value), ls[k]? = some l → rows[k]? = some r → s.heap.IsTuple l r)
    (h : ∀ h', ZSt (s.heap.objs.size + ls.length + 2) (s.heap.objs.size + ls.length) (s.heap.objs.size + ls.length + 1) (newIts s.heap.objs.size ls.length) ls rows h' 0 → h'.objs.size = s.heap.objs.size + ls.length + 3 → (∀ b o, s.heap.get? b = some o → h'.get? b = some o) →
      Q (.ref (s.heap.objs.size + ls.length + 2)) { s with heap := h' }) : wpAny (model prog w) A (call (.type "zip") (refs ls)) Q E s := by
  have hlen : (refs ls).length = ls.length := by simp [refs]
  obtain ⟨a, us, e⟩ : ∃ a us, refs ls = a :: us := by
    cases q : refs ls with
    | nil => rw [q] at hlen; simp at hlen; omega
    | cons a us => exact ⟨a, us, rfl⟩
  refine callType_new F.called_zip (by decide) (typeCall _) (newCall _ (by omega) (by omega)) (fun obj => by rw [e]; exact args_init obj a us) F.entry_zip_new (meets_new ls rows hr (by omega)) ⟨hl, fun h' Z hs hk => ?_⟩
  exact ⟨Z.zip, h h' Z hs hk⟩
end
end ZN

namespace Wk
open PySem PySem.Spec PyProof.Rows L2
/-- some objects tracked at once -/
def layAll (H : Hp) (ps : List (Addr × HO)) : Hp := fun b => match ps.lookup b with
  | some o => some o
  | none => H b
theorem layAll_none {H : Hp} {ps : List (Addr × HO)} {b : Addr} (h : ps.lookup b = none) : layAll H ps b = H b := by
  unfold layAll
  rw [h]
theorem lookup_none_of {ps : List (Addr × HO)} {b : Addr} (h : ∀ p ∈ ps, p.1 ≠ b) : ps.lookup b = none := by
  induction ps with
  | nil => rfl
  | cons p ps ih =>
    obtain ⟨a, o⟩ := p
    have h1 : (b == a) = false := by
      have := h (a, o) List.mem_cons_self
      simpa using fun e : b = a => this e.symm
    rw [List.lookup_cons, h1]
    exact ih fun q hq => h q (List.mem_cons_of_mem _ hq)
theorem lookup_mem {ps : List (Addr × HO)} {b : Addr} {o : HO} (h : ps.lookup b = some o) : (b, o) ∈ ps := by
  induction ps with
  | nil => cases h
  | cons p ps ih =>
    obtain ⟨a, u⟩ := p
    rw [List.lookup_cons] at h
    cases e : b == a with
    | true =>
      rw [e] at h
      cases h
      rw [eq_of_beq e]
      exact List.mem_cons_self
    | false =>
      rw [e] at h
      exact List.mem_cons_of_mem _ (ih h)
theorem layAll_at {H : Hp} {ps : List (Addr × HO)} {b : Addr} {o : HO} (nd : (ps.map (·.1)).Nodup) (h : (b, o) ∈ ps) : layAll H ps b = some o := by
  have e : ps.lookup b = some o := by
    induction ps with
    | nil => cases h
    | cons p ps ih =>
      obtain ⟨a, u⟩ := p
      rw [List.map_cons, List.nodup_cons] at nd
      rw [List.lookup_cons]
      rcases List.mem_cons.mp h with e | m
      · cases e
        simp
      · have hne : (b == a) = false := by
          simpa using fun e : b = a => nd.1 (by rw [← e]; exact List.mem_map.mpr ⟨_, m, rfl⟩)
        rw [hne]
        exact ih nd.2 m
  unfold layAll
  rw [e]
section
variable {X : Cx} {pins : List (Addr × Obj)} {σ : L2.St} {H : Hp} {s : Shared}
/-- tuples that were laid and are tracked all at once -/
theorem inv_lays {h' : Heap} {t' : Nat} (I : Inv X pins σ H s) (ps : List (Addr × List V)) (k : ∀ b u, s.heap.get? b = some u → h'.get? b = some u) (hp : ∀ p ∈ ps, s.heap.objs.size ≤ p.1)
    (new : ∀ p ∈ ps, p.2.length ≤ sizeLine ∧ ∃ its, Vals p.2 its ∧ IsTup h' p.1 its.toArray) : Inv X pins σ (layAll H (ps.map fun p => (p.1, HO.tup p.2))) { s with heap := h', toks := t' } := by
  have fresh : ∀ {b u}, s.heap.get? b = some u → (ps.map fun p => (p.1, HO.tup p.2)).lookup b = none := fun {b u} e => lookup_none_of fun q hq z => by
    obtain ⟨p, hm, rfl⟩ := List.mem_map.mp hq
    have h1 := hp p hm
    have h2 : b < s.heap.objs.size := Heap.lt_size e
    dsimp only at z
    rw [z] at h1
    exact Nat.lt_irrefl _ (Nat.lt_of_lt_of_le h2 h1)
  have old : ∀ {b o}, H b = some o → layAll H (ps.map fun p => (p.1, HO.tup p.2)) b = some o := fun {b o} e => by
    rw [layAll_none, e]
    have hlt : b < s.heap.objs.size := (I.hok b o e).lt
    refine lookup_none_of fun q hq z => ?_
    obtain ⟨p, hm, rfl⟩ := List.mem_map.mp hq
    dsimp only at z
    have h1 := hp p hm
    rw [z] at h1
    exact Nat.lt_irrefl _ (Nat.lt_of_lt_of_le hlt h1)
  refine I.un (h' := h') (t' := t') ⟨fun b o e _ _ _ => k b o e, fun b o e _ _ _ => ⟨o.slots, k b o e⟩, fun b o e n _ => by rw [layAll_none (fresh e)]; exact n, fun b o e _ => ⟨o, k b o e⟩, fun b xs e => old e, fun b o u e => old e, fun b ps e => ⟨#[], by rw [old e]; simp⟩⟩ ?_
  intro b o e
  cases q : (ps.map fun p => (p.1, HO.tup p.2)).lookup b with
  | none =>
    rw [layAll_none q] at e
    exact (I.hok b o e).stay (fun c u _ z => k c u z) (fun _ z => old z) fun _ _ z => old z
  | some o2 =>
    have e2 : layAll H (ps.map fun p => (p.1, HO.tup p.2)) b = some o2 := by
      unfold layAll
      rw [q]
    rw [e2] at e
    cases e
    obtain ⟨p, hm, ep⟩ := List.mem_map.mp (lookup_mem q)
    cases ep
    exact new p hm
end
theorem same_lays {X : Cx} {pins : List (Addr × Obj)} {σ : L2.St} {H : Hp} {s : Shared} (I : Inv X pins σ H s) (ps : List (Addr × List V)) (hp : ∀ p ∈ ps, s.heap.objs.size ≤ p.1) : Same H (layAll H (ps.map fun p => (p.1, HO.tup p.2))) := fun b o e => by
  rw [layAll_none, e]
  have hlt : b < s.heap.objs.size := (I.hok b o e).lt
  refine lookup_none_of fun q hq z => ?_
  obtain ⟨p, hm, rfl⟩ := List.mem_map.mp hq
  dsimp only at z
  have h1 := hp p hm
  rw [z] at h1
  exact Nat.lt_irrefl _ (Nat.lt_of_lt_of_le hlt h1)
theorem vals_getD : ∀ {r : List V} {v : List Value} (j : Nat), Vals r v → RelV (r.getD j .non) (v.getD j .none)
  | _, _, _, .nil => by simp; rfl
  | _, _, 0, .cons a _ => a
  | _, _, j + 1, .cons _ b => vals_getD j b
theorem vals_col (j : Nat) : ∀ (rows : List (List V)) (rws : List (List Value)), rows.length = rws.length → (∀ (k : Nat) (r : List V) (v : List Value), rows[k]? = some r → rws[k]? = some v → Vals r v) → Vals (rows.map fun r => r.getD j .non) (rws.map fun r => r.getD j .none)
  | [], [], _, _ => .nil
  | [], _ :: _, h, _ => by simp at h
  | _ :: _, [], h, _ => by simp at h
  | r :: rows, v :: rws, h, hv => .cons (vals_getD j (hv 0 r v rfl rfl)) (vals_col j rows rws (by simpa using h) fun k r' v' e1 e2 => hv (k + 1) r' v' (by simpa using e1) (by simpa using e2))
/-- tuple(zip(*e)), e a tuple of tuples of one size -/
def tTrn (K : PySem.W.Frag) (te : TE) : TE := fun σ H Q => te σ H fun x H1 => ∃ (a : Addr) (ls : List Addr) (rows : List (List V)) (n : Nat), x = .ref a ∧ (SqT K H1 a (ls.map V.ref) ∨ SqL K H1 a (ls.map V.ref)) ∧ rows.length = ls.length ∧ 1 ≤ ls.length ∧ ls.length ≤ 8 ∧ 1 ≤ n ∧ n ≤ 1000 ∧
  (∀ (k : Nat) (l : Addr) (r : List V), ls[k]? = some l → rows[k]? = some r → SqT K H1 l r ∧ r.length = n) ∧
  ∀ (as : List Addr) (p : Addr) (H2 : Hp), Same H1 H2 → as.length = n → H2 p = some (.tup (as.map V.ref)) → (∀ (j : Nat) (b : Addr), as[j]? = some b → H2 b = some (.tup (rows.map fun r => r.getD j .non))) → Q (.ref p) H2
theorem vals_refs : ∀ {ls : List Addr} {us : List Value}, Vals (ls.map V.ref) us → us = ZN.refs ls
  | [], _, .nil => rfl
  | l :: ls, _, .cons r rr => by
    obtain rfl : _ = Value.ref l := r
    show _ :: _ = Value.ref l :: ZN.refs ls
    rw [vals_refs rr]
theorem refs_vals : ∀ ls : List Addr, Vals (ls.map V.ref) (ZN.refs ls)
  | [] => .nil
  | l :: ls => .cons rfl (refs_vals ls)
section
variable {X : Cx} {pins : List (Addr × Obj)} {σ : L2.St} {H : Hp} {s : Shared}
theorem rows_read (I : Inv X pins σ H s) : ∀ (ls : List Addr) (rows : List (List V)), rows.length = ls.length → (∀ (k : Nat) (l : Addr) (r : List V), ls[k]? = some l → rows[k]? = some r → SqT X.K H l r) →
    ∃ rws : List (List Value), rws.length = ls.length ∧ ∀ (k : Nat) (l : Addr) (r : List V) (v : List Value), ls[k]? = some l → rows[k]? = some r → rws[k]? = some v → Vals r v ∧ IsTup s.heap l v.toArray
  | [], _, _, _ => ⟨[], rfl, fun k l r v e => by simp at e⟩
  | l :: ls, [], h, _ => by simp at h
  | l :: ls, r :: rows, h, hs => by
    obtain ⟨rws, h1, h2⟩ := rows_read I ls rows (by simpa using h) fun k l' r' e1 e2 => hs (k + 1) l' r' (by simpa using e1) (by simpa using e2)
    obtain ⟨its, rv, pl, _⟩ := I.tuple (hs 0 l r rfl rfl)
    refine ⟨its :: rws, by simp [h1], fun k l' r' v e1 e2 e3 => ?_⟩
    cases k with
    | zero =>
      cases e1
      cases e2
      cases e3
      exact ⟨rv, pl⟩
    | succ k => exact h2 k l' r' v (by simpa using e1) (by simpa using e2) (by simpa using e3)
end
section
variable {X : Cx} {e : Expr} {te : TE} {x y : Str} {p1 p2 p3 pos pos2 : Pos}
theorem pe_trn (hc : X.calm = true) (hgT : Gl X "tuple") (hmT : X.mg "tuple" = none) (hgZ : Gl X "zip") (hmZ : X.mg "zip" = none) (he : PE X e te)
    (hst : starEach [.Starred e p3] X.env = [(true, eval e X.env)] := by rfl)
    (na : starEach [.Call (.Name "zip" p2) [.Starred e p3] [] pos2] X.env = (false, eval (.Call (.Name "zip" p2) [.Starred e p3] [] pos2) X.env) :: starEach [] X.env := by rfl) :
    PE X (.Call (.Name "tuple" p1) [.Call (.Name "zip" p2) [.Starred e p3] [] pos2] [] pos) (tTrn X.K te) := by
  refine ⟨fun pins s σ H Q I h => ?_⟩
  refine wpAny_Call_Name_kw (ld_blt I hgT hmT PyProof.Rows.Boot.«tuple» ?_ (by decide) (by decide))
  refine PyProof.Rows.callWith_type1 (args_cons (Q := fun us s1 => wpAny (model X.prog X.w) X.A (call (.type "tuple") us) (EP X pins σ Q) X.xe s1) ?_ na) na rfl
  refine wpAny_Call_Name_kw (ld_blt I hgZ hmZ PyProof.Rows.Boot.«zip» ?_ (by decide) (by decide))
  rw [hst]
  refine PySem.W.ks_call (P := fun _ => True) rfl (fun _ _ => ⟨.machine, .inr (.inl rfl), PySem.W.Looks.of_pure rfl⟩) (PySem.W.ks_lone (thn (he.run pins s σ H _ I h) fun v s1 ⟨x, H1, I1, r1, a, ls, rows, n, ex, hs, hr, h1, h8, hn1, hn2, hrow, q⟩ => ?_))
  subst ex
  obtain rfl : v = Value.ref a := r1
  refine StX.star_any I1 hs fun us s2 I2 rv => ⟨trivial, ?_⟩
  rw [vals_refs rv]
  obtain ⟨rws, hrl, hrw⟩ := rows_read I2 ls rows hr (fun k l r e1 e2 => (hrow k l r e1 e2).1)
  have hlt : ∀ l ∈ ls, l < s2.heap.objs.size := fun l hl => by
    obtain ⟨k, hk⟩ := List.mem_iff_getElem?.mp hl
    have hkl := (List.getElem?_eq_some_iff.mp hk).1
    obtain ⟨_, o, ho, _⟩ := hrw k l _ _ hk (List.getElem?_eq_getElem (by omega)) (List.getElem?_eq_getElem (by omega))
    exact Heap.lt_size ho
  have hArr : ∀ (k : Nat) (l : Addr) (r : Array Value), ls[k]? = some l → (rws.map List.toArray)[k]? = some r → s2.heap.IsTuple l r := fun k l r e1 e2 => by
    rw [List.getElem?_map] at e2
    cases e3 : rws[k]? with
    | none => rw [e3] at e2; cases e2
    | some v =>
      rw [e3] at e2
      cases e2
      have hkl := (List.getElem?_eq_some_iff.mp e1).1
      exact (hrw k l _ v e1 (List.getElem?_eq_getElem (by omega)) e3).2
  refine ZN.call_zip h1 h8 (by rw [List.length_map]; exact hrl) hArr fun h' Z hsz hk => ?_
  have hh := I.ok.hd hc
  refine args_nil ?_
  have D := ZN.newIts_ap hlt
  have hne : ZN.newIts s2.heap.objs.size ls.length ≠ [] := fun z => by
    have := congrArg List.length z
    rw [show (ZN.newIts s2.heap.objs.size ls.length).length = ls.length by simp [ZN.newIts]] at this
    rw [this] at h1
    exact Nat.not_succ_le_zero _ h1
  have hNl : (ZN.newIts s2.heap.objs.size ls.length).length = ls.length := by simp [ZN.newIts]
  have hwid : ∀ (k : Nat) (v : List Value), rws[k]? = some v → v.length = n := fun k v e3 => by
    have hkr := (List.getElem?_eq_some_iff.mp e3).1
    have e1 : ls[k]? = some (ls[k]'(by omega)) := List.getElem?_eq_getElem (by omega)
    have e2 : rows[k]? = some (rows[k]'(by omega)) := List.getElem?_eq_getElem (by omega)
    rw [← (hrw k _ _ v e1 e2 e3).1.length]
    exact (hrow k _ _ e1 e2).2
  refine ZN.call_tuple (n := n) (cols := fun i => rws.map fun r => r.getD i .none) hh D hne (by rw [List.length_map, hNl]; exact hrl) hn1 hn2 (by rw [hNl]; omega) ?_ ?_ Z ?_ fun h'' as hal hk2 G => ?_
  · intro r hr2
    obtain ⟨v, hv, rfl⟩ := List.mem_map.mp hr2
    obtain ⟨k, hk3⟩ := List.mem_iff_getElem?.mp hv
    rw [List.size_toArray]
    exact hwid k v hk3
  · intro i hi
    refine ⟨by rw [List.length_map, hNl]; exact hrl, fun k r v e1 e2 => ?_⟩
    rw [List.getElem?_map] at e1 e2
    cases e3 : rws[k]? with
    | none => rw [e3] at e1; cases e1
    | some u =>
      rw [e3] at e1 e2
      cases e1
      cases e2
      have hul := hwid k u e3
      show u.toArray[i]? = some (u.getD i .none)
      rw [List.getElem?_toArray, List.getD_eq_getElem?_getD, List.getElem?_eq_getElem (by omega)]
      rfl
  · intro b hb
    show b < h'.objs.size
    rw [hsz]
    simp only [List.mem_cons] at hb
    rcases hb with rfl | rfl | hb
    · exact Nat.lt_succ_self _
    · exact Nat.lt_of_lt_of_le (Nat.lt_succ_self _) (Nat.le_succ _)
    · obtain ⟨k, hk3, rfl⟩ := List.mem_map.mp hb
      have := List.mem_range.mp hk3
      exact Nat.lt_of_lt_of_le (Nat.add_lt_add_left this _) (Nat.le_add_right _ 3)
  · have hall : ∀ b o, s2.heap.get? b = some o → h''.get? b = some o := fun b o e => hk2 b o (fun z => by
      have hbl : b < s2.heap.objs.size := Heap.lt_size e
      simp only [List.mem_cons] at z
      rcases z with rfl | rfl | z
      · exact absurd hbl (Nat.not_lt.mpr (Nat.le_trans (Nat.le_add_right _ _) (Nat.le_add_right _ _)))
      · exact absurd hbl (Nat.not_lt.mpr (Nat.le_trans (Nat.le_add_right _ _) (Nat.le_add_right _ _)))
      · obtain ⟨k, _, rfl⟩ := List.mem_map.mp z
        exact absurd hbl (Nat.not_lt.mpr (Nat.le_add_right _ _))) (hk b o e)
    have hlo : s2.heap.objs.size ≤ h'.objs.size := by
      rw [hsz]
      exact Nat.le_trans (Nat.le_add_right _ _) (Nat.le_add_right _ _)
    have hlo2 : ∀ a ∈ as, s2.heap.objs.size ≤ a ∧ a < h''.objs.size := fun a m => ⟨Nat.le_trans hlo (G.lo_ a m).1, (G.lo_ a m).2⟩
    -- what is tracked from now on
    obtain ⟨col, hcol⟩ : ∃ col : Nat → List V, col = fun j => rows.map fun r => r.getD j .non := ⟨_, rfl⟩
    obtain ⟨ps, hps⟩ : ∃ ps : List (Addr × List V), ps = (h''.objs.size, as.map V.ref) :: as.zipIdx.map fun q => (q.1, col q.2) := ⟨_, rfl⟩
    have hnew : ∀ p ∈ ps, s2.heap.objs.size ≤ p.1 := fun p hp => by
      rw [hps] at hp
      rcases List.mem_cons.mp hp with rfl | hp
      · have h3 : 0 < as.length := by omega
        exact Nat.le_of_lt (Nat.lt_of_le_of_lt (hlo2 _ (List.getElem_mem h3)).1 (hlo2 _ (List.getElem_mem h3)).2)
      · obtain ⟨q2, hq2, rfl⟩ := List.mem_map.mp hp
        exact (hlo2 _ (List.fst_mem_of_mem_zipIdx hq2)).1
    have hmem : ∀ (j : Nat) (b : Addr), as[j]? = some b → (b, col j) ∈ ps := fun j b e => by
      rw [hps]
      refine List.mem_cons_of_mem _ (List.mem_map.mpr ⟨(b, j), ?_, rfl⟩)
      exact List.mem_zipIdx_iff_getElem?.mpr e
    have hnd : (ps.map (·.1)).Nodup := by
      rw [hps, List.map_cons, List.map_map]
      have e : (as.zipIdx.map ((fun p : Addr × List V => p.1) ∘ fun q => (q.1, col q.2))) = as := by
        rw [show ((fun p : Addr × List V => p.1) ∘ fun q : Addr × Nat => (q.1, col q.2)) = Prod.fst from rfl]
        exact List.zipIdx_map_fst 0 as
      rw [e, List.nodup_cons]
      exact ⟨fun z => Nat.lt_irrefl _ (hlo2 _ z).2, G.up.imp fun h => Nat.ne_of_lt h⟩
    have hread : ∀ p ∈ ps, p.2.length ≤ sizeLine ∧ ∃ its, Vals p.2 its ∧ IsTup (h''.push { cls := .type "tuple", data := .seq (ZN.refs as).toArray }) p.1 its.toArray := fun p hp => by
      rw [hps] at hp
      rcases List.mem_cons.mp hp with rfl | hp
      · exact ⟨by show (as.map V.ref).length ≤ _; rw [List.length_map, hal]; exact Nat.le_trans hn2 (by decide), ZN.refs as, refs_vals as, _, Heap.get?_push_size _ rfl, rfl, _, rfl⟩
      · obtain ⟨⟨b, j⟩, hq2, rfl⟩ := List.mem_map.mp hp
        have hj := List.mem_zipIdx_iff_getElem?.mp hq2
        refine ⟨by show (col j).length ≤ _; rw [hcol, List.length_map, hr]; exact Nat.le_trans h8 (by decide), rws.map fun r => r.getD j .none, ?_, _, Heap.get?_push_of_some _ (G.at_ j b hj), rfl, _, rfl⟩
        show Vals (col j) _
        rw [hcol]
        exact vals_col j rows rws (by omega) fun k r v e2 e3 => by
          have hkr := (List.getElem?_eq_some_iff.mp e3).1
          exact (hrw k _ r v (List.getElem?_eq_getElem (by omega)) e2 e3).1
    have hk4 : ∀ b o, s2.heap.get? b = some o → (h''.push { cls := .type "tuple", data := .seq (ZN.refs as).toArray }).get? b = some o := fun b o e => Heap.get?_push_of_some _ (hall b o e)
    have Ifin := inv_lays (t' := s2.toks) I2 ps hk4 hnew hread
    have hnd2 : ((ps.map fun p => (p.1, HO.tup p.2)).map (·.1)).Nodup := by
      rw [List.map_map]
      exact hnd
    refine ⟨.ref h''.objs.size, _, Ifin, rfl, q as h''.objs.size _ (same_lays I2 ps hnew) hal ?_ fun j b e => ?_⟩
    · exact layAll_at hnd2 (List.mem_map.mpr ⟨(h''.objs.size, as.map V.ref), by rw [hps]; exact List.mem_cons_self, rfl⟩)
    · have := layAll_at (H := H1) hnd2 (List.mem_map.mpr ⟨(b, col j), hmem j b e, rfl⟩)
      rw [this, hcol]
end
end Wk

/-! for a, b in zip(xs, ys), each of both a tuple or a list -/
namespace ZM
open PySem PySem.Spec PyProof.Rows L2
open PySem.Sem (wp)
def Pos : Bool → Heap → Addr → Addr → Nat → Prop
  | true, h, a, l, i => h.IsTupleIter a l i
  | false, h, a, l, i => h.IsListIter a l i
def Row : Bool → Heap → Addr → Array Value → Prop
  | true, h, l, r => h.IsTuple l r
  | false, h, l, r => h.IsList l r
theorem Pos.to {k : Bool} {h h' : Heap} {a l : Addr} {i : Nat} (p : Pos k h a l i) (e : ∀ o, h.get? a = some o → h'.get? a = some o) : Pos k h' a l i := by
  cases k
  · obtain ⟨o, ho, r⟩ := p
    exact ⟨o, e _ ho, r⟩
  · obtain ⟨o, ho, r⟩ := p
    exact ⟨o, e _ ho, r⟩
theorem Row.to {k : Bool} {h h' : Heap} {l : Addr} {r : Array Value} (p : Row k h l r) (e : ∀ o, h.get? l = some o → h'.get? l = some o) : Row k h' l r := by
  cases k
  · obtain ⟨o, ho, r⟩ := p
    exact ⟨o, e _ ho, r⟩
  · obtain ⟨o, ho, r⟩ := p
    exact ⟨o, e _ ho, r⟩
theorem Pos.obj {k : Bool} {h : Heap} {a l : Addr} {i : Nat} (p : Pos k h a l i) : ∃ o, h.get? a = some o ∧ ∀ v, o.data ≠ .cell v := by
  cases k <;>
  · obtain ⟨o, ho, _, d⟩ := p
    exact ⟨o, ho, fun v q => by rw [d] at q; cases q⟩
theorem Row.lt {k : Bool} {h : Heap} {l : Addr} {r : Array Value} (p : Row k h l r) : l < h.objs.size := by
  cases k <;>
  · obtain ⟨o, ho, _⟩ := p
    exact Heap.lt_size ho
section
variable {prog : Program} {w : World} {A : Around} {E : Value → Shared → Prop} {s : Shared}
theorem next_item {k : Bool} {a l : Addr} {i : Nat} {r : Array Value} {x : Value} {Q : Value → Shared → Prop} (p : Pos k s.heap a l i) (q : Row k s.heap l r) (hx : r[i]? = some x) (h : ∀ h', Pos k h' a l (i + 1) → Heap.SameBut a s.heap h' → Q x { s with heap := h' }) :
    wpAny (model prog w) A (Builtin.SmallTypes.nextOf (.ref a)) Q E s := by
  cases k
  · exact wpAny_nextOf_list_item p q hx h
  · exact RZ.nextOf_tuple_item p q hx h
theorem next_end {k : Bool} {a l : Addr} {i : Nat} {r : Array Value} {Q : Value → Shared → Prop} (hh : A.handled = none) (p : Pos k s.heap a l i) (q : Row k s.heap l r) (hx : r[i]? = none) (h : ∀ h' e, Heap.ExtBut a s.heap h' → (∃ o, h'.get? e = some o ∧ o.cls = .type "StopIteration") → E (.ref e) { s with heap := h' }) :
    wpAny (model prog w) A (Builtin.SmallTypes.nextOf (.ref a)) Q E s := by
  cases k
  · exact wpAny_nextOf_list_end hh p q hx h
  · exact RZ.nextOf_tuple_end hh p q hx h
/-- a new iterator -/
theorem iter_new {k : Bool} {l : Addr} {r : Array Value} {Q : Value → Shared → Prop} (q : Row k s.heap l r) (h : ∀ h', Pos k h' s.heap.objs.size l 0 → h'.objs.size = s.heap.objs.size + 1 → (∀ b o, s.heap.get? b = some o → h'.get? b = some o) → Q (.ref s.heap.objs.size) { s with heap := h' }) :
    wpAny (model prog w) A (pyIter (.ref l)) Q E s := by
  cases k
  · exact wpAny_pyIter_list q (h _ ⟨_, Heap.get?_push_size _ rfl, rfl, rfl⟩ (Heap.size_push ..) fun b o e => Heap.get?_push_of_some _ e)
  · exact wpAny_pyIter_tuple q (h _ ⟨_, Heap.get?_push_size _ rfl, rfl, rfl⟩ (Heap.size_push ..) fun b o e => Heap.get?_push_of_some _ e)
/-- where a two-armed zip stands -/
structure Two (z TI TO i1 i2 l1 l2 : Addr) (k1 k2 : Bool) (n : Nat) (h : Heap) : Prop where
  hz : IsZip h z TI TO .none
  ti : IsPair h TI (.ref i1) (.ref i2)
  to : ∃ x y, IsPair h TO x y
  p1 : Pos k1 h i1 l1 n
  p2 : Pos k2 h i2 l2 n
theorem Two.keep {z TI TO i1 i2 l1 l2 : Addr} {k1 k2 : Bool} {n : Nat} {h h' : Heap} (t : Two z TI TO i1 i2 l1 l2 k1 k2 n h) (k : ∀ c ∈ [z, TI, TO, i1, i2], ∀ o, h.get? c = some o → h'.get? c = some o) : Two z TI TO i1 i2 l1 l2 k1 k2 n h' := by
  obtain ⟨x, y, e⟩ := t.to
  exact ⟨k z (by simp) _ t.hz, k TI (by simp) _ t.ti, ⟨x, y, k TO (by simp) _ e⟩, t.p1.to (k i1 (by simp)), t.p2.to (k i2 (by simp))⟩
/-- one pair is handed out -/
theorem two_item {z TI TO i1 i2 l1 l2 : Addr} {k1 k2 : Bool} {n : Nat} {xs ys : Array Value} {x y : Value} {Q : Value → Shared → Prop} (D : ZipApart z TI TO i1 i2 l1 l2) (t : Two z TI TO i1 i2 l1 l2 k1 k2 n s.heap)
    (q1 : Row k1 s.heap l1 xs) (q2 : Row k2 s.heap l2 ys) (hx : xs[n]? = some x) (hy : ys[n]? = some y)
    (hQ : ∀ h', IsZip h' z TI TO (rawInt s.heap.objs.size) → IsPair h' TO x y → Pos k1 h' i1 l1 (n + 1) → Pos k2 h' i2 l2 (n + 1) → IsPair h' s.heap.objs.size x y → h'.objs.size = s.heap.objs.size + 1 →
      (∀ c o, c ≠ z → c ≠ TO → c ≠ i1 → c ≠ i2 → s.heap.get? c = some o → h'.get? c = some o) → Q (.ref s.heap.objs.size) { s with heap := h' }) :
    wpAny (model prog w) A (Builtin.«zip.__next__» ⟨[.ref z], []⟩) (fun fin s' => ∃ v, fin = .done (.ret v) ∧ Q v s') E s := by
  obtain ⟨hz, hTI, ⟨a, b, hTO⟩, p1, p2⟩ := t
  show wpAny _ _ (field (.ref z) 2 >>= _) _ _ _
  refine wpAny_bind (wpAny_field hz rfl (x := .bool false) rfl ?_)
  show wpAny _ _ (field (.ref z) 3 >>= _) _ _ _
  refine wpAny_bind (wpAny_field hz rfl (x := .ref TI) rfl (wpAny_bind (wpAny_seqItems hTI rfl ?_)))
  show wpAny _ _ (Builtin.SmallTypes.ownedTupleIsFree (.ref z) >>= _) _ _ _
  refine wpAny_bind ?_
  unfold Builtin.SmallTypes.ownedTupleIsFree
  refine wpAny_bind (wpAny_field hz rfl (x := .none) rfl (wpAny_pure ?_))
  simp only [if_true]
  refine wpAny_bind (wpAny_rule (wpAny_bind (wpAny_field hz rfl (x := .ref TO) rfl ?_)))
  refine wpAny_bind (wpAny_setField_rec hz (by simp) fun hA zA sA => ?_)
  have zA : IsZip hA z TI TO .ellipsis := zA
  simp only [List.zipIdx_cons, List.zipIdx_nil, List.forIn_cons, List.forIn_nil]
  refine wpAny_bind (wpAny_bind (wpAny_bind (wpAny_onRaise ?_)))
  show wpAny _ _ (Builtin.SmallTypes.nextOf (.ref i1) >>= _) _ _ _
  refine wpAny_bind (next_item (s := { s with heap := hA }) (p1.to fun o => sA.extBut _ o D.i1z) (q1.to fun o => sA.extBut _ o D.l1z) hx fun hB pB sB => wpAny_pure ?_)
  have oB : IsPair hB TO a b := sB.extBut _ _ D.TOi1 (sA.extBut _ _ D.TOz hTO)
  refine wpAny_bind (wpAny_seqItems oB rfl (wpAny_bind (wpAny_updateSeq_pair oB fun hC oC sC => ?_)))
  have oC : IsPair hC TO x b := oC
  refine wpAny_bind (wpAny_letGo (wpAny_pure (wpAny_bind (wpAny_bind (wpAny_onRaise ?_)))))
  show wpAny _ _ (Builtin.SmallTypes.nextOf (.ref i2) >>= _) _ _ _
  refine wpAny_bind (next_item (s := { s with heap := hC }) (p2.to fun o e => sC.extBut _ _ D.TOi2.symm (sB.extBut _ _ D.i12.symm (sA.extBut _ _ D.i2z e))) (q2.to fun o e => sC.extBut _ _ D.l2TO (sB.extBut _ _ D.l2i1 (sA.extBut _ _ D.l2z e))) hy fun hD pD sD => wpAny_pure ?_)
  have oD : IsPair hD TO x b := sD.extBut _ _ D.TOi2 oC
  refine wpAny_bind (wpAny_seqItems oD rfl (wpAny_bind (wpAny_updateSeq_pair oD fun hF oF sF => ?_)))
  have oF : IsPair hF TO x y := oF
  refine wpAny_bind (wpAny_letGo (wpAny_pure (wpAny_pure ?_)))
  refine wpAny_bind (wpAny_seqItems oF rfl (wpAny_bind (wpAny_newTuple ?_)))
  have size : hF.objs.size = s.heap.objs.size := by rw [sF.1, sD.1, sC.1, sB.1, sA.1]
  have zF : IsZip hF z TI TO .ellipsis := sF.extBut _ _ D.TOz.symm (sD.extBut _ _ D.i2z.symm (sC.extBut _ _ D.TOz.symm (sB.extBut _ _ D.i1z.symm zA)))
  have kF : ∀ c o, c ≠ z → c ≠ TO → c ≠ i1 → c ≠ i2 → s.heap.get? c = some o → hF.get? c = some o := fun c o n1 n2 n3 n4 e => sF.extBut _ _ n2 (sD.extBut _ _ n4 (sC.extBut _ _ n2 (sB.extBut _ _ n3 (sA.extBut _ _ n1 e))))
  have pF1 : Pos k1 hF i1 l1 (n + 1) := pB.to fun o e => sF.extBut _ _ D.TOi1.symm (sD.extBut _ _ D.i12 (sC.extBut _ _ D.TOi1.symm e))
  have pF2 : Pos k2 hF i2 l2 (n + 1) := pD.to fun o e => sF.extBut _ _ D.TOi2.symm e
  show wpAny _ _ (Builtin.SmallTypes.ownedTupleHandOut (.ref z) (.ref hF.objs.size) >>= _) _ _ _
  refine wpAny_bind ?_
  unfold Builtin.SmallTypes.ownedTupleHandOut
  have zG : IsZip (hF.push { cls := .type "tuple", data := .seq #[x, y] }) z TI TO .ellipsis := Heap.get?_push_of_some _ zF
  refine wpAny_bind (wpAny_setField_rec zG (by simp) fun hI zI sI => ?_)
  have zI : IsZip hI z TI TO (rawInt hF.objs.size) := zI
  refine wpAny_setField_rec zI (by simp) fun hJ zJ sJ => wpAny_pure ⟨_, rfl, ?_⟩
  have zJ : IsZip hJ z TI TO (rawInt hF.objs.size) := zJ
  have zlt : z ≠ hF.objs.size := Nat.ne_of_lt (Heap.lt_size zF)
  have up : ∀ c o, c ≠ z → hF.get? c = some o → hJ.get? c = some o := fun c o n1 e => sJ.extBut _ _ n1 (sI.extBut _ _ n1 (Heap.get?_push_of_some _ e))
  have tJ : IsPair hJ hF.objs.size x y := sJ.extBut _ _ zlt.symm (sI.extBut _ _ zlt.symm (Heap.get?_push_size _ rfl))
  have nJ : hJ.objs.size = hF.objs.size + 1 := by rw [sJ.1, sI.1, Heap.size_push]
  show Q (.ref hF.objs.size) _
  rw [size] at zJ tJ nJ ⊢
  exact hQ hJ zJ (up _ _ D.TOz oF) (pF1.to fun o => up _ o D.i1z) (pF2.to fun o => up _ o D.i2z) tJ nJ fun c o n1 n2 n3 n4 e => up c o n1 (kF c o n1 n2 n3 n4 e)
/-- the shorter one is at its end -/
theorem two_end {z TI TO i1 i2 l1 l2 : Addr} {k1 k2 : Bool} {n : Nat} {xs ys : Array Value} {Q : Fin → Shared → Prop} (hh : A.handled = none) (D : ZipApart z TI TO i1 i2 l1 l2) (t : Two z TI TO i1 i2 l1 l2 k1 k2 n s.heap)
    (q1 : Row k1 s.heap l1 xs) (q2 : Row k2 s.heap l2 ys) (hend : xs[n]? = none ∨ ys[n]? = none)
    (hE : ∀ h' e, (∀ c o, c ≠ z → c ≠ TO → c ≠ i1 → c ≠ i2 → s.heap.get? c = some o → h'.get? c = some o) → (∃ o, h'.get? e = some o ∧ o.cls = .type "StopIteration") → E (.ref e) { s with heap := h' }) :
    wpAny (model prog w) A (Builtin.«zip.__next__» ⟨[.ref z], []⟩) Q E s := by
  obtain ⟨hz, hTI, ⟨a, b, hTO⟩, p1, p2⟩ := t
  show wpAny _ _ (field (.ref z) 2 >>= _) _ _ _
  refine wpAny_bind (wpAny_field hz rfl (x := .bool false) rfl ?_)
  show wpAny _ _ (field (.ref z) 3 >>= _) _ _ _
  refine wpAny_bind (wpAny_field hz rfl (x := .ref TI) rfl (wpAny_bind (wpAny_seqItems hTI rfl ?_)))
  show wpAny _ _ (Builtin.SmallTypes.ownedTupleIsFree (.ref z) >>= _) _ _ _
  refine wpAny_bind ?_
  unfold Builtin.SmallTypes.ownedTupleIsFree
  refine wpAny_bind (wpAny_field hz rfl (x := .none) rfl (wpAny_pure ?_))
  simp only [if_true]
  refine wpAny_bind (wpAny_rule (wpAny_bind (wpAny_field hz rfl (x := .ref TO) rfl ?_)))
  refine wpAny_bind (wpAny_setField_rec hz (by simp) fun hA zA sA => ?_)
  have zA : IsZip hA z TI TO .ellipsis := zA
  simp only [List.zipIdx_cons, List.zipIdx_nil, List.forIn_cons, List.forIn_nil]
  refine wpAny_bind (wpAny_bind (wpAny_bind (wpAny_onRaise ?_)))
  show wpAny _ _ (Builtin.SmallTypes.nextOf (.ref i1) >>= _) _ _ _
  have pA := p1.to fun o => sA.extBut _ o D.i1z
  have rA := q1.to fun o => sA.extBut _ o D.l1z
  cases hx : xs[n]? with
  | none =>
    refine wpAny_bind (next_end (s := { s with heap := hA }) hh pA rA hx fun hB e sB he => ?_)
    obtain ⟨oe, hoe, hce⟩ := he
    have zB : IsZip hB z TI TO .ellipsis := sB _ _ D.i1z.symm zA
    have ne : e ≠ z := fun q => by
      rw [q, zB] at hoe
      cases hoe
      simp at hce
    exact wpAny_setField_rec zB (by simp) fun hC _ sC => hE hC e (fun c o n1 _ n3 _ q => sC.extBut _ _ n1 (sB _ _ n3 (sA.extBut _ _ n1 q))) ⟨oe, sC.extBut _ _ ne hoe, hce⟩
  | some x =>
    have hy : ys[n]? = none := hend.resolve_left fun q => by rw [hx] at q; cases q
    refine wpAny_bind (next_item (s := { s with heap := hA }) pA rA hx fun hB pB sB => wpAny_pure ?_)
    have oB : IsPair hB TO a b := sB.extBut _ _ D.TOi1 (sA.extBut _ _ D.TOz hTO)
    refine wpAny_bind (wpAny_seqItems oB rfl (wpAny_bind (wpAny_updateSeq_pair oB fun hC oC sC => ?_)))
    refine wpAny_bind (wpAny_letGo (wpAny_pure (wpAny_bind (wpAny_bind (wpAny_onRaise ?_)))))
    show wpAny _ _ (Builtin.SmallTypes.nextOf (.ref i2) >>= _) _ _ _
    refine wpAny_bind (next_end (s := { s with heap := hC }) hh (p2.to fun o e => sC.extBut _ _ D.TOi2.symm (sB.extBut _ _ D.i12.symm (sA.extBut _ _ D.i2z e))) (q2.to fun o e => sC.extBut _ _ D.l2TO (sB.extBut _ _ D.l2i1 (sA.extBut _ _ D.l2z e))) hy fun hD e sD he => ?_)
    obtain ⟨oe, hoe, hce⟩ := he
    have zD : IsZip hD z TI TO .ellipsis := sD _ _ D.i2z.symm (sC.extBut _ _ D.TOz.symm (sB.extBut _ _ D.i1z.symm zA))
    have ne : e ≠ z := fun q => by
      rw [q, zD] at hoe
      cases hoe
      simp at hce
    exact wpAny_setField_rec zD (by simp) fun hF _ sF => hE hF e (fun c o n1 n2 n3 n4 q => sF.extBut _ _ n1 (sD _ _ n4 (sC.extBut _ _ n2 (sB.extBut _ _ n3 (sA.extBut _ _ n1 q))))) ⟨oe, sF.extBut _ _ ne hoe, hce⟩
theorem pull_item {z TI TO i1 i2 l1 l2 : Addr} {k1 k2 : Bool} {n : Nat} {xs ys : Array Value} {x y : Value} {Q : Option Value → Shared → Prop} (D : ZipApart z TI TO i1 i2 l1 l2) (t : Two z TI TO i1 i2 l1 l2 k1 k2 n s.heap)
    (q1 : Row k1 s.heap l1 xs) (q2 : Row k2 s.heap l2 ys) (hx : xs[n]? = some x) (hy : ys[n]? = some y)
    (hQ : ∀ h', IsZip h' z TI TO (rawInt s.heap.objs.size) → IsPair h' TO x y → Pos k1 h' i1 l1 (n + 1) → Pos k2 h' i2 l2 (n + 1) → IsPair h' s.heap.objs.size x y → h'.objs.size = s.heap.objs.size + 1 →
      (∀ c o, c ≠ z → c ≠ TO → c ≠ i1 → c ≠ i2 → s.heap.get? c = some o → h'.get? c = some o) → Q (some (.ref s.heap.objs.size)) { s with heap := h' }) : wpAny (model prog w) A (pyNext (.ref z)) Q E s := by
  have ty : s.TypeIs (.ref z) "zip" := ⟨_, t.hz, rfl⟩
  unfold pyNext
  exact wpAny_bind (wpAny_attempt (wpAny_callSpecial?_slot (name := Str.ofString "__next__") ty F.slot_zip_next (wpAny_call_entry F.slot_zip_next ty F.entry_zip_next (two_item D t q1 q2 hx hy fun h' b1 b2 b3 b4 b5 b6 b7 => wpAny_pure (hQ h' b1 b2 b3 b4 b5 b6 b7)) (F.args_zip_next_1 _))))
theorem pull_end {z TI TO i1 i2 l1 l2 : Addr} {k1 k2 : Bool} {n : Nat} {xs ys : Array Value} {Q : Option Value → Shared → Prop} (hh : A.handled = none) (D : ZipApart z TI TO i1 i2 l1 l2) (t : Two z TI TO i1 i2 l1 l2 k1 k2 n s.heap)
    (q1 : Row k1 s.heap l1 xs) (q2 : Row k2 s.heap l2 ys) (hend : xs[n]? = none ∨ ys[n]? = none)
    (hQ : ∀ h', (∀ c o, c ≠ z → c ≠ TO → c ≠ i1 → c ≠ i2 → s.heap.get? c = some o → h'.get? c = some o) → Q none { s with heap := h' }) : wpAny (model prog w) A (pyNext (.ref z)) Q E s := by
  have ty : s.TypeIs (.ref z) "zip" := ⟨_, t.hz, rfl⟩
  unfold pyNext
  refine wpAny_bind (wpAny_attempt (wpAny_callSpecial?_slot (name := Str.ofString "__next__") ty F.slot_zip_next (wpAny_call_entry F.slot_zip_next ty F.entry_zip_next (two_end hh D t q1 q2 hend fun h' e hk he => ?_) (F.args_zip_next_1 _))))
  obtain ⟨o, ho, hc⟩ := he
  exact wpAny_bind (wpAny_isInstance (T := "StopIteration") (b := true) ⟨o, ho, hc⟩ isSubtype_stop (wpAny_pure (hQ _ hk)))
end
end ZM

namespace ZM
open PySem PySem.Spec PyProof.Rows L2
open PySem.Sem (wp)
def itO (k : Bool) (l : Addr) : Obj := { cls := .type (if k then "tuple_iterator" else "list_iterator"), data := .fields #[.ref l, .int 0 0] }
theorem iter_c {prog : Program} {w : World} {A : Around} {E : Value → Shared → Prop} {s : Shared} {k : Bool} {l : Addr} {r : Array Value} {Q : Value → Shared → Prop} (q : Row k s.heap l r) (h : Q (.ref s.heap.objs.size) { s with heap := s.heap.push (itO k l) }) :
    wpAny (model prog w) A (pyIter (.ref l)) Q E s := by
  cases k
  · exact wpAny_pyIter_list q h
  · exact wpAny_pyIter_tuple q h
theorem itO_pos {k : Bool} {l : Addr} {h : Heap} {a : Addr} (e : h.get? a = some (itO k l)) : Pos k h a l 0 := by
  cases k
  · exact ⟨_, e, rfl, rfl⟩
  · exact ⟨_, e, rfl, rfl⟩
abbrev hA (h : Heap) (k1 k2 : Bool) (l1 l2 : Addr) : Heap := (h.push (itO k1 l1)).push (itO k2 l2)
abbrev hB (h : Heap) (k1 k2 : Bool) (l1 l2 : Addr) : Heap := (hA h k1 k2 l1 l2).push { cls := .type "tuple", data := .seq #[.ref h.objs.size, .ref (h.push (itO k1 l1)).objs.size] }
abbrev hC (h : Heap) (k1 k2 : Bool) (l1 l2 : Addr) : Heap := (hB h k1 k2 l1 l2).push { cls := .type "tuple", data := .seq #[.none, .none] }
abbrev hD (h : Heap) (k1 k2 : Bool) (l1 l2 : Addr) : Heap := (hC h k1 k2 l1 l2).push { cls := .type "zip", data := .fields #[.none, .bool false, .bool false, .ref (hA h k1 k2 l1 l2).objs.size, .ref (hB h k1 k2 l1 l2).objs.size] }
theorem meets_two (l1 l2 : Addr) (k1 k2 : Bool) (xs ys : Array Value) :
    Meets (Builtin.«zip.__new__» ⟨[.type "zip", .ref l1, .ref l2], []⟩) (fun _ R s => Row k1 s.heap l1 xs ∧ Row k2 s.heap l2 ys ∧
      R (.ok (.ret (.ref (hC s.heap k1 k2 l1 l2).objs.size))) { s with heap := hD s.heap k1 k2 l1 l2 }) :=
  .of_wp fun prog w A R s h => by
    obtain ⟨hp, g, d, tk, os⟩ := s
    obtain ⟨q1, q2, h⟩ := h
    have hsub := sub_zip
    have r1 : Row k1 (Shared.heap ⟨hp, g, d, tk, os⟩) l1 xs := q1
    have r2 : Row k2 (Shared.heap ⟨hp.push (itO k1 l1), g, d, tk, os⟩) l2 ys := Row.to q2 fun o e => Heap.get?_push_of_some _ e
    wp_walk using iter_c r1, iter_c r2
    exact ⟨_, rfl, h⟩
section
variable {prog : Program} {w : World} {A : Around} {E : Value → Shared → Prop} {s : Shared}
theorem call_two {l1 l2 : Addr} {k1 k2 : Bool} {xs ys : Array Value} {Q : Value → Shared → Prop} (q1 : Row k1 s.heap l1 xs) (q2 : Row k2 s.heap l2 ys)
    (h : ∀ h', Two (s.heap.objs.size + 4) (s.heap.objs.size + 2) (s.heap.objs.size + 3) s.heap.objs.size (s.heap.objs.size + 1) l1 l2 k1 k2 0 h' → (∀ b o, s.heap.get? b = some o → h'.get? b = some o) → Q (.ref (s.heap.objs.size + 4)) { s with heap := h' }) :
    wpAny (model prog w) A (call (.type "zip") [.ref l1, .ref l2]) Q E s := by
  refine callType_new F.called_zip (by decide) (F.typeCall_zip_2 _ _) (F.newCall_zip_2 _ _) (fun obj => F.args_object_init_3 obj _ _) F.entry_zip_new (meets_two l1 l2 k1 k2 xs ys) ⟨q1, q2, ?_⟩
  have e1 : (s.heap.push (itO k1 l1)).objs.size = s.heap.objs.size + 1 := Heap.size_push ..
  have e2 : (hA s.heap k1 k2 l1 l2).objs.size = s.heap.objs.size + 2 := by rw [Heap.size_push, e1]
  have e3 : (hB s.heap k1 k2 l1 l2).objs.size = s.heap.objs.size + 3 := by rw [Heap.size_push, e2]
  have e4 : (hC s.heap k1 k2 l1 l2).objs.size = s.heap.objs.size + 4 := by rw [Heap.size_push, e3]
  have up4 : ∀ {b o}, (hC s.heap k1 k2 l1 l2).get? b = some o → (hD s.heap k1 k2 l1 l2).get? b = some o := fun e => Heap.get?_push_of_some _ e
  have up3 : ∀ {b o}, (hB s.heap k1 k2 l1 l2).get? b = some o → (hD s.heap k1 k2 l1 l2).get? b = some o := fun e => up4 (Heap.get?_push_of_some _ e)
  have up2 : ∀ {b o}, (hA s.heap k1 k2 l1 l2).get? b = some o → (hD s.heap k1 k2 l1 l2).get? b = some o := fun e => up3 (Heap.get?_push_of_some _ e)
  have up1 : ∀ {b o}, (s.heap.push (itO k1 l1)).get? b = some o → (hD s.heap k1 k2 l1 l2).get? b = some o := fun e => up2 (Heap.get?_push_of_some _ e)
  have g5 := Heap.get?_push_size (hC s.heap k1 k2 l1 l2) (o := { cls := .type "zip", data := .fields #[.none, .bool false, .bool false, .ref (hA s.heap k1 k2 l1 l2).objs.size, .ref (hB s.heap k1 k2 l1 l2).objs.size] }) rfl
  have g4 := up4 (Heap.get?_push_size (hB s.heap k1 k2 l1 l2) (o := { cls := .type "tuple", data := .seq #[.none, .none] }) rfl)
  have g3 := up3 (Heap.get?_push_size (hA s.heap k1 k2 l1 l2) (o := { cls := .type "tuple", data := .seq #[.ref s.heap.objs.size, .ref (s.heap.push (itO k1 l1)).objs.size] }) rfl)
  have g2 := up2 (Heap.get?_push_size (s.heap.push (itO k1 l1)) (o := itO k2 l2) rfl)
  have g1 := up1 (Heap.get?_push_size s.heap (o := itO k1 l1) rfl)
  show _ ∧ _
  rw [e4] at g5 ⊢
  rw [e3] at g4
  rw [e2] at g3
  rw [e1] at g2
  refine ⟨⟨_, g5, rfl⟩, h _ ⟨?_, ?_, ⟨_, _, g4⟩, itO_pos g1, itO_pos g2⟩ fun b o e => up1 (Heap.get?_push_of_some _ e)⟩
  · show Heap.get? _ _ = _
    rw [g5, e2, e3]
  · show Heap.get? _ _ = _
    rw [g3, e1]
end
/-- the sequences at a and b, each of its kind -/
def SqK (t : Bool) (K : PySem.W.Frag) (H : Hp) (a : Addr) (xs : List V) : Prop := if t = true then SqT K H a xs else SqL K H a xs
theorem SqK.row {t : Bool} {X : Cx} {pins : List (Addr × Obj)} {σ : L2.St} {H : Hp} {s : Shared} {a : Addr} {xs : List V} (I : Inv X pins σ H s) (q : SqK t X.K H a xs) : ∃ its, Vals xs its ∧ Row t s.heap a its.toArray := by
  cases t
  · obtain ⟨its, rv, p, _⟩ := I.list q
    exact ⟨its, rv, p.isList⟩
  · obtain ⟨its, rv, p, _⟩ := I.tuple q
    exact ⟨its, rv, p⟩
theorem SqK.inj {t : Bool} {X : Cx} {pins : List (Addr × Obj)} {σ : L2.St} {H : Hp} {s : Shared} {a : Addr} {xs ys : List V} (I : Inv X pins σ H s) (q : SqK t X.K H a xs) (r : SqK t X.K H a ys) : xs = ys := by
  cases t
  · exact I.list_inj q r
  · exact I.tuple_inj q r
def It2 (t u : Bool) (K : PySem.W.Frag) (a b : Addr) : It :=
  ⟨fun i H => ∃ (xs ys : List V) (x y : V), SqK t K H a xs ∧ SqK u K H b ys ∧ xs[i]? = some x ∧ ys[i]? = some y,
    fun i H v H' => ∃ T x y, v = .ref T ∧ H T = none ∧ H' = upd H T (.tup [x, y]) ∧ (∀ xs, SqK t K H a xs → xs[i]? = some x) ∧ ∀ ys, SqK u K H b ys → ys[i]? = some y,
    fun i H => ∃ xs ys : List V, SqK t K H a xs ∧ SqK u K H b ys ∧ (xs.length ≤ i ∨ ys.length ≤ i)⟩
theorem turn_two {P : Program} {w : World} {K : PySem.W.Frag} {elts : List Expr} {kk : Nat} {tpos : PySem.Pos} {t u : Bool} {a b z TI TO i1 i2 : Addr} (D : ZipApart z TI TO i1 i2 a b) :
    Turn P w K (.Tuple elts kk tpos) (It2 t u K a b) [z, TI, TO, i1, i2] z (fun i h => Two z TI TO i1 i2 a b t u i h) where
  mem := by simp
  obj := fun i h st c hc => by
    obtain ⟨x, y, hTO⟩ := st.to
    have e' : c = z ∨ c = TI ∨ c = TO ∨ c = i1 ∨ c = i2 := by simpa using hc
    rcases e' with rfl | rfl | rfl | rfl | rfl
    · exact ⟨_, st.hz, fun v q => nomatch q⟩
    · exact ⟨_, st.ti, fun v q => nomatch q⟩
    · exact ⟨_, hTO, fun v q => nomatch q⟩
    · exact st.p1.obj
    · exact st.p2.obj
  keep := fun i h h' st k => st.keep k
  item := by
    intro X hP hw hK hc i pins s σ H E I hf st hg
    subst hP hw hK
    obtain ⟨xs, ys, x, y, hqx, hqy, hx, hy⟩ := hg
    obtain ⟨its, rv, p⟩ := SqK.row I hqx
    obtain ⟨its2, rv2, p2⟩ := SqK.row I hqy
    obtain ⟨v1, hu, ru⟩ := rv.get hx
    obtain ⟨v2, hu2, ru2⟩ := rv2.get hy
    have zlt : z < s.heap.objs.size := Heap.lt_size st.hz
    refine pull_item D st p p2 (x := v1) (y := v2) (by simpa using hu) (by simpa using hu2) fun h' z' TO' h1' h2' hT hsz hk => ?_
    refine ⟨_, rfl, wpAny_letOwnedTupleGo_zip (s := { s with heap := h' }) z' fun h'' z'' sb => ?_⟩
    have hT2 : h''.get? s.heap.objs.size = some { cls := .type "tuple", data := .seq #[v1, v2] } := (sb.2 _ (Nat.ne_of_gt zlt)).trans hT
    have new : ObjOk X.prog X.w (upd H s.heap.objs.size (.tup [x, y])) h'' s.heap.objs.size (.tup [x, y]) :=
      ⟨by show 2 ≤ sizeLine; decide, [v1, v2], .cons ru (.cons ru2 .nil), ⟨_, hT2, rfl, _, rfl⟩⟩
    have I1 : Inv X pins σ (upd H s.heap.objs.size (.tup [x, y])) { s with heap := h'' } :=
      I.turnedNew (t' := s.toks) (ch := [z, TI, TO, i1, i2]) (fun c o hb q => by
        simp only [List.mem_cons, List.not_mem_nil, or_false, not_or] at hb
        exact (sb.2 c hb.1).trans (hk c o hb.1 hb.2.2.1 hb.2.2.2.1 hb.2.2.2.2 q)) hf (Nat.le_refl _) new
    refine ⟨.ref s.heap.objs.size, _, I1, rfl, ⟨_, x, y, rfl, I.hok.fresh (Nat.le_refl _), rfl, fun l hl => by rw [SqK.inj I hl hqx]; exact hx, fun l hl => by rw [SqK.inj I hl hqy]; exact hy⟩, ⟨z'', ?_, ⟨v1, v2, ?_⟩, ?_, ?_⟩, fun c hcm => ?_⟩
    · exact (sb.2 _ D.TIz).trans (hk _ _ D.TIz D.TITO D.TIi1 D.TIi2 st.ti)
    · exact (sb.2 _ D.TOz).trans TO'
    · exact h1'.to fun o q => (sb.2 _ D.i1z).trans q
    · exact h2'.to fun o q => (sb.2 _ D.i2z).trans q
    · have hlt : c < s.heap.objs.size := by
        obtain ⟨x0, y0, hTO⟩ := st.to
        have e' : c = z ∨ c = TI ∨ c = TO ∨ c = i1 ∨ c = i2 := by simpa using hcm
        rcases e' with rfl | rfl | rfl | rfl | rfl
        · exact zlt
        · exact Heap.lt_size st.ti
        · exact Heap.lt_size hTO
        · obtain ⟨_, e1, _⟩ := st.p1.obj
          exact Heap.lt_size e1
        · obtain ⟨_, e2, _⟩ := st.p2.obj
          exact Heap.lt_size e2
      rw [upd_ne (Nat.ne_of_lt hlt)]
      exact (hf c hcm).1
  done := by
    intro X hP hw hK hc i pins s σ H E I hf st hg
    subst hP hw hK
    obtain ⟨xs, ys, hqx, hqy, hend⟩ := hg
    obtain ⟨its, rv, p⟩ := SqK.row I hqx
    obtain ⟨its2, rv2, p2⟩ := SqK.row I hqy
    have n1 := rv.length
    have n2 := rv2.length
    have he : its.toArray[i]? = none ∨ its2.toArray[i]? = none := by
      rcases hend with q | q
      · exact .inl (by simp; omega)
      · exact .inr (by simp; omega)
    exact pull_end (I.ok.hd hc) D st p p2 he fun h' hk => ⟨rfl, I.turnedL (t' := s.toks) (ch := [z, TI, TO, i1, i2]) (fun c o hb q => by
      simp only [List.mem_cons, List.not_mem_nil, or_false, not_or] at hb
      exact hk c o hb.1 hb.2.2.1 hb.2.2.2.1 hb.2.2.2.2 q) hf⟩
  self := fun A i s Q E st h => wpAny_pyIter_zip st.hz h
def iZip2 (t u : Bool) (K : PySem.W.Frag) (ta : TA) : TI := fun σ H R => ta σ H fun vs H1 => ∃ a b xs ys, vs = [.ref a, .ref b] ∧ SqK t K H1 a xs ∧ SqK u K H1 b ys ∧ R (It2 t u K a b) H1
theorem pi_zip2 (t u : Bool) {X : Cx} {e e2 : Expr} {ta : TA} {p pos tpos : PySem.Pos} {elts : List Expr} {kk : Nat} (hg : Gl X "zip") (hm : X.mg "zip" = none) (ha : PA X [e, e2] ta)
    (hs : starEach [e, e2] X.env = (false, eval e X.env) :: starEach [e2] X.env := by rfl) (hpl : (backTo pos (starEach [e2] X.env)).any (·.1) = false := by rfl) :
    PI X (.Tuple elts kk tpos) (.Call (.Name "zip" p) [e, e2] [] pos) (iZip2 t u X.K ta) := by
  refine ⟨fun pins s σ H R I h => ?_⟩
  refine Call_ (ld_blt I hg hm PyProof.Rows.boot_zip (PyProof.Rows.callWith_type1 (thn (ha.run pos pins s σ H _ I h) fun us s1 ⟨vs, H1, I1, r1, q1⟩ => ?_) hs hpl))
  obtain ⟨a, b, xs, ys, rfl, hqx, hqy, q⟩ := q1
  cases r1 with
  | cons r rr =>
    cases rr with
    | cons r' rr =>
      cases rr
      cases r
      cases r'
      obtain ⟨its, rv, p1⟩ := SqK.row I1 hqx
      obtain ⟨its2, rv2, p2⟩ := SqK.row I1 hqy
      refine call_two p1 p2 fun h' st hk => wpAny_pyIter_zip st.hz ?_
      have I2 : Inv X pins σ H1 { s1 with heap := h' } := I1.kept (t' := s1.toks) hk
      refine ⟨s1.heap.objs.size + 4, [s1.heap.objs.size + 4, s1.heap.objs.size + 2, s1.heap.objs.size + 3, s1.heap.objs.size, s1.heap.objs.size + 1], _, _, H1, rfl, I2, turn_two (PySem.W.ktu_apart s1.heap.objs.size a b p1.lt p2.lt), st, fun c hcm => ?_, q⟩
      have hle : s1.heap.objs.size ≤ c := by
        have e' : c = s1.heap.objs.size + 4 ∨ c = s1.heap.objs.size + 2 ∨ c = s1.heap.objs.size + 3 ∨ c = s1.heap.objs.size ∨ c = s1.heap.objs.size + 1 := by simpa using hcm
        rcases e' with z | z | z | z | z <;> rw [z]
        · exact Nat.le_add_right _ _
        · exact Nat.le_add_right _ _
        · exact Nat.le_add_right _ _
        · exact Nat.le_refl _
        · exact Nat.le_add_right _ _
      exact I1.fpOk hle (I1.hok.fresh hle)
theorem walk_two {t u : Bool} {K : PySem.W.Frag} {a b : Addr} {xs ys : List V} {n : Nat} (hn : n = min xs.length ys.length) : Walk (It2 t u K a b) n (fun H => SqK t K H a xs ∧ SqK u K H b ys) (YPair (fun i => xs[i]?) (fun i => ys[i]?)) := by
  subst hn
  refine ⟨fun i _ hi q => ?_, fun _ q => ⟨xs, ys, q.1, q.2, by omega⟩, fun i H v H' _ q y => ?_⟩
  · have g1 : i < xs.length := by omega
    have g2 : i < ys.length := by omega
    exact ⟨xs, ys, xs[i], ys[i], q.1, q.2, by simp [g1], by simp [g2]⟩
  · obtain ⟨T, x, z, e1, e2, e3, e4, e5⟩ := y
    exact ⟨T, x, z, e1, e2, e3, e4 xs q.1, e5 ys q.2⟩
end ZM

/-! for i, x in enumerate(t), t a tuple -/
namespace ZM
open PySem PySem.Spec PyProof.Rows L2
open PySem.Sem (wp)
open AutoSeq1 (wpAny_loadPart')
theorem meets_enuT (l : Addr) (items : Array Value) (n : Nat) (dd : Option Addr) (sl : Array (Option Value)) :
    Meets (Builtin.«enumerate.__new__» ⟨[.type "enumerate", .ref l], []⟩) (fun _ R s => s.heap.get? l = some { cls := .type "tuple", dict := dd, data := .seq items n, slots := sl } ∧
      R (.ok (.ret (.ref (s.heap.push (itO true l)).objs.size))) { s with heap := (s.heap.push (itO true l)).push { cls := .type "enumerate", data := .fields #[.none, .bool false, .ref s.heap.objs.size, rawInt 0, .none, .none] } }) :=
  .of_wp fun prog w A R s h => by
    obtain ⟨hp, g, d, tk, os⟩ := s
    obtain ⟨hl, h⟩ := h
    have hsub := sub_enumerate
    have r1 : Row true (Shared.heap ⟨hp, g, d, tk, os⟩) l items := ⟨_, hl, rfl, n, rfl⟩
    wp_walk using wpAny_loadPart' hl
    refine wpAny_stack_any fun st => wpAny_pure ?_
    split
    · rename_i c _ _ _ _ _
      cases (c == Value.type "enumerate")
      · wp_walk using wpAny_loadPart' hl, iter_c r1
        exact ⟨_, rfl, h⟩
      · wp_walk using wpAny_loadPart' hl, iter_c r1
        exact ⟨_, rfl, h⟩
    · wp_walk using wpAny_loadPart' hl, iter_c r1
      exact ⟨_, rfl, h⟩
section
variable {prog : Program} {w : World} {A : Around} {E : Value → Shared → Prop} {s : Shared}
theorem call_enuT {l : Addr} {items : Array Value} {Q : Value → Shared → Prop} (q : s.heap.IsTuple l items)
    (h : ∀ h', IsEnum h' (s.heap.objs.size + 1) s.heap.objs.size 0 .none → Pos true h' s.heap.objs.size l 0 → (∀ b o, s.heap.get? b = some o → h'.get? b = some o) → Q (.ref (s.heap.objs.size + 1)) { s with heap := h' }) :
    wpAny (model prog w) A (call (.type "enumerate") [.ref l]) Q E s := by
  obtain ⟨⟨cls, dd, data, sl⟩, ho, hc, n, hd⟩ := q
  simp only at hc hd
  subst hc hd
  refine callType_new F.called_enumerate (by decide) (F.typeCall_enumerate_1 _) (F.newCall_enumerate_1 _) (fun obj => F.args_object_init_2 obj _) F.entry_enumerate_new (meets_enuT l items n dd sl) ⟨ho, ?_⟩
  have e1 : (s.heap.push (itO true l)).objs.size = s.heap.objs.size + 1 := Heap.size_push ..
  have g2 := Heap.get?_push_size (s.heap.push (itO true l)) (o := { cls := .type "enumerate", data := .fields #[.none, .bool false, .ref s.heap.objs.size, rawInt 0, .none, .none] }) rfl
  have g1 := Heap.get?_push_of_some ({ cls := .type "enumerate", data := .fields #[.none, .bool false, .ref s.heap.objs.size, rawInt 0, .none, .none] } : Obj) (Heap.get?_push_size s.heap (o := itO true l) rfl)
  show _ ∧ _
  rw [e1] at g2 ⊢
  exact ⟨⟨_, g2, rfl⟩, h _ g2 (itO_pos g1) fun b o e => Heap.get?_push_of_some _ (Heap.get?_push_of_some _ e)⟩
/-- one pair is handed out -/
theorem enu_item {k : Bool} {e it l : Addr} {i : Nat} {items : Array Value} {x old : Value} {Q : Option Value → Shared → Prop}
    (he : IsEnum s.heap e it i old) (p : Pos k s.heap it l i) (q : Row k s.heap l items) (hx : items[i]? = some x) (hne : e ≠ it)
    (hQ : ∀ h', IsEnumOut h' e it ((i : Int) + 1) x s.heap.objs.size → Pos k h' it l (i + 1) →
      h'.get? s.heap.objs.size = some { cls := .type "tuple", data := .seq #[.int i s.toks, x] } → h'.objs.size = s.heap.objs.size + 1 →
      (∀ b o, b ≠ e → b ≠ it → s.heap.get? b = some o → h'.get? b = some o) → Q (some (.ref s.heap.objs.size)) { s with heap := h', toks := s.toks + 1 }) :
    wpAny (model prog w) A (pyNext (.ref e)) Q E s := by
  have ty : s.TypeIs (.ref e) "enumerate" := ⟨_, he, rfl⟩
  unfold pyNext
  refine wpAny_bind (wpAny_attempt (wpAny_callSpecial?_slot (name := Str.ofString "__next__") ty F.slot_enumerate_next (wpAny_call_entry F.slot_enumerate_next ty F.entry_enumerate_next ?_ (F.args_enumerate_next_1 _))))
  obtain ⟨hp, g, d, tk, os⟩ := s
  show wpAny _ _ (field (.ref e) 2 >>= _) _ _ _
  refine wpAny_bind (wpAny_field he rfl (x := .ref it) rfl (wpAny_bind (next_item p q hx fun hA pA sA => ?_)))
  have sA : Heap.SameBut it hp hA := sA
  have eA : IsEnum hA e it i old := (sA.2 e hne).trans he
  show wpAny _ _ (field (.ref e) 3 >>= _) _ _ ⟨hA, g, d, tk, os⟩
  refine wpAny_bind (wpAny_field eA rfl (x := rawInt i) rfl ?_)
  show wpAny _ _ (field (.ref e) 4 >>= _) _ _ ⟨hA, g, d, tk, os⟩
  refine wpAny_bind (wpAny_field eA rfl (x := .none) rfl ?_)
  show wpAny _ _ (mkInt i >>= _) _ _ ⟨hA, g, d, tk, os⟩
  refine wpAny_bind (wpAny_mkInt ?_)
  show wpAny _ _ (setField (.ref e) 3 (rawInt ((i : Int) + 1)) >>= _) _ _ ⟨hA, g, d, tk + 1, os⟩
  refine wpAny_bind (wpAny_setField_rec eA (by simp) fun hB eB sB => ?_)
  have sB : Heap.SameBut e hA hB := sB
  have eB : IsEnum hB e it ((i : Int) + 1) old := eB
  show wpAny _ _ (setField (.ref e) 4 .none >>= _) _ _ ⟨hB, g, d, tk + 1, os⟩
  refine wpAny_bind (wpAny_setField_rec eB (by simp) fun hC eC sC => ?_)
  have sC : Heap.SameBut e hB hC := sC
  have eC : IsEnum hC e it ((i : Int) + 1) old := eC
  show wpAny _ _ (newTuple [.int i tk, x] >>= _) _ _ ⟨hC, g, d, tk + 1, os⟩
  refine wpAny_bind (wpAny_newTuple ?_)
  have size : hC.objs.size = hp.objs.size := by rw [sC.1, sB.1, sA.1]
  have lt : e ≠ hp.objs.size := Nat.ne_of_lt (Heap.lt_size he)
  have eD : IsEnum (hC.push { cls := .type "tuple", data := .seq #[.int i tk, x] }) e it ((i : Int) + 1) old := Heap.get?_push_of_some _ eC
  have tD : (hC.push { cls := .type "tuple", data := .seq #[.int i tk, x] }).get? hp.objs.size = some { cls := .type "tuple", data := .seq #[.int i tk, x] } := by rw [← size]; exact Heap.get?_push_size _ rfl
  have nD : (hC.push { cls := .type "tuple", data := .seq #[.int i tk, x] }).objs.size = hp.objs.size + 1 := by rw [Heap.size_push, size]
  have kD : ∀ b o, b ≠ e → b ≠ it → hp.get? b = some o → (hC.push { cls := .type "tuple", data := .seq #[.int i tk, x] }).get? b = some o := fun b o n1 n2 z => Heap.get?_push_of_some _ (sC.extBut b o n1 (sB.extBut b o n1 (sA.extBut b o n2 z)))
  have pD : Pos k (hC.push { cls := .type "tuple", data := .seq #[.int i tk, x] }) it l (i + 1) := pA.to fun o z => Heap.get?_push_of_some _ (sC.extBut _ _ hne.symm (sB.extBut _ _ hne.symm z))
  rw [size]
  generalize hC.push { cls := .type "tuple", data := .seq #[.int i tk, x] } = hD at eD tD nD kD pD ⊢
  show wpAny _ _ (Builtin.SmallTypes.ownedTupleIsFree (.ref e) >>= _) _ _ ⟨hD, g, d, tk + 1, os⟩
  refine wpAny_bind ?_
  unfold Builtin.SmallTypes.ownedTupleIsFree
  refine wpAny_bind (wpAny_field eD rfl (x := .none) rfl (wpAny_pure ?_))
  simp only [if_true]
  refine wpAny_bind (wpAny_rule (wpAny_bind (wpAny_field eD rfl (x := old) rfl ?_)))
  refine wpAny_bind (wpAny_setField_rec eD (by simp) fun hF eF sF => ?_)
  have sF : Heap.SameBut e hD hF := sF
  have eF : IsEnum hF e it ((i : Int) + 1) x := eF
  show wpAny _ _ (Builtin.SmallTypes.ownedTupleHandOut (.ref e) (.ref hp.objs.size) >>= _) _ _ ⟨hF, g, d, tk + 1, os⟩
  refine wpAny_bind ?_
  unfold Builtin.SmallTypes.ownedTupleHandOut
  refine wpAny_bind (wpAny_setField_rec eF (by simp) fun hG eG sG => ?_)
  have sG : Heap.SameBut e hF hG := sG
  have eG : IsEnumOut hG e it ((i : Int) + 1) x hp.objs.size := eG
  refine wpAny_setField_rec eG (by simp) fun hI eI sI => ?_
  have sI : Heap.SameBut e hG hI := sI
  have eI : IsEnumOut hI e it ((i : Int) + 1) x hp.objs.size := eI
  have up : ∀ b o, b ≠ e → hD.get? b = some o → hI.get? b = some o := fun b o n1 z => sI.extBut _ _ n1 (sG.extBut _ _ n1 (sF.extBut _ _ n1 z))
  refine wpAny_bind (wpAny_letGo (wpAny_pure ⟨_, rfl, wpAny_pure (hQ hI eI (pD.to fun o => up _ o hne.symm) (up _ _ lt.symm tD) ?_ fun b o n1 n2 z => up b o n1 (kD b o n1 n2 z))⟩))
  rw [sI.1, sG.1, sF.1, nD]
theorem enu_end {k : Bool} {e it l : Addr} {i : Nat} {items : Array Value} {old : Value} {Q : Option Value → Shared → Prop} (hh : A.handled = none)
    (he : IsEnum s.heap e it i old) (p : Pos k s.heap it l i) (q : Row k s.heap l items) (hx : items[i]? = none)
    (hQ : ∀ h', Heap.ExtBut it s.heap h' → Q none { s with heap := h' }) : wpAny (model prog w) A (pyNext (.ref e)) Q E s := by
  have ty : s.TypeIs (.ref e) "enumerate" := ⟨_, he, rfl⟩
  unfold pyNext
  refine wpAny_bind (wpAny_attempt (wpAny_callSpecial?_slot (name := Str.ofString "__next__") ty F.slot_enumerate_next (wpAny_call_entry F.slot_enumerate_next ty F.entry_enumerate_next ?_ (F.args_enumerate_next_1 _))))
  show wpAny _ _ (field (.ref e) 2 >>= _) _ _ _
  refine wpAny_bind (wpAny_field he rfl (x := .ref it) rfl (wpAny_bind (next_end hh p q hx fun h' z he' hz' => ?_)))
  obtain ⟨o, ho, hc⟩ := hz'
  exact wpAny_bind (wpAny_isInstance (T := "StopIteration") (b := true) ⟨o, ho, hc⟩ isSubtype_stop (wpAny_pure (hQ _ he')))
end
def ItE (K : PySem.W.Frag) (a : Addr) : It :=
  ⟨fun i H => ∃ (xs : List V) (x : V), SqT K H a xs ∧ xs[i]? = some x, fun i H v H' => ∃ T x, v = .ref T ∧ H T = none ∧ H' = upd H T (.tup [.int (i : Nat), x]) ∧ ∀ xs, SqT K H a xs → xs[i]? = some x, fun i H => ∃ xs : List V, SqT K H a xs ∧ xs.length ≤ i⟩
theorem turn_enuT {P : Program} {w : World} {K : PySem.W.Frag} {elts : List Expr} {kk : Nat} {tpos : PySem.Pos} (a e it : Addr) :
    Turn P w K (.Tuple elts kk tpos) (ItE K a) [e, it] e (fun i h => (∃ old, IsEnum h e it ((i : Nat) : Int) old) ∧ Pos true h it a i ∧ e ≠ it) where
  mem := by simp
  obj := fun i h st b hb => by
    obtain ⟨⟨old, he⟩, p, _⟩ := st
    have e' : b = e ∨ b = it := by simpa using hb
    rcases e' with rfl | rfl
    · exact ⟨_, he, fun v q => nomatch q⟩
    · exact p.obj
  keep := fun i h h' st k => let ⟨⟨old, he⟩, p, hne⟩ := st; ⟨⟨old, k e (by simp) _ he⟩, p.to (k it (by simp)), hne⟩
  item := by
    intro X hP hw hK hc i pins s σ H E I hf st hg
    subst hP hw hK
    obtain ⟨⟨old, he⟩, hit, hne⟩ := st
    obtain ⟨xs, x, hq, hx⟩ := hg
    obtain ⟨its, rv, p, hz⟩ := I.tuple hq
    obtain ⟨u, hu, ru⟩ := rv.get hx
    have elt : e < s.heap.objs.size := Heap.lt_size he
    have ilt : it < s.heap.objs.size := by
      obtain ⟨_, q, _⟩ := hit.obj
      exact Heap.lt_size q
    refine enu_item (k := true) he hit p (x := u) (by simpa using hu) hne fun h' ho hit' hT hsz hk => ?_
    refine ⟨_, rfl, wpAny_letOwnedTupleGo_enum (s := { s with heap := h', toks := s.toks + 1 }) ho fun h'' he' sb => ?_⟩
    have hT2 : h''.get? s.heap.objs.size = some { cls := .type "tuple", data := .seq #[.int i s.toks, u] } := (sb.2 _ (Nat.ne_of_gt elt)).trans hT
    have new : ObjOk X.prog X.w (upd H s.heap.objs.size (.tup [.int (i : Nat), x])) h'' s.heap.objs.size (.tup [.int (i : Nat), x]) :=
      ⟨by show 2 ≤ sizeLine; decide, [.int i s.toks, u], .cons ⟨_, rfl⟩ (.cons ru .nil), ⟨_, hT2, rfl, _, rfl⟩⟩
    have I1 : Inv X pins σ (upd H s.heap.objs.size (.tup [.int (i : Nat), x])) { s with heap := h'', toks := s.toks + 1 } :=
      I.turnedNew (ch := [e, it]) (fun b ob hb q => by
        simp only [List.mem_cons, List.not_mem_nil, or_false, not_or] at hb
        exact (sb.2 b hb.1).trans (hk b ob hb.1 hb.2 q)) hf (Nat.le_refl _) new
    refine ⟨.ref s.heap.objs.size, _, I1, rfl, ⟨_, x, rfl, I.hok.fresh (Nat.le_refl _), rfl, fun ys hy => by rw [I.tuple_inj hy hq]; exact hx⟩, ⟨⟨u, ?_⟩, hit'.to fun o q => (sb.2 it (Ne.symm hne)).trans q, hne⟩, fun b hb => ?_⟩
    · rw [show ((i + 1 : Nat) : Int) = (i : Int) + 1 by omega]
      exact he'
    · have hb' : b < s.heap.objs.size := by
        have e' : b = e ∨ b = it := by simpa using hb
        rcases e' with rfl | rfl
        · exact elt
        · exact ilt
      rw [upd_ne (Nat.ne_of_lt hb')]
      exact (hf b hb).1
  done := by
    intro X hP hw hK hc i pins s σ H E I hf st hg
    subst hP hw hK
    obtain ⟨⟨old, he⟩, hit, hne⟩ := st
    obtain ⟨xs, hq, hx⟩ := hg
    obtain ⟨its, rv, p, hz⟩ := I.tuple hq
    obtain ⟨f0, f1, f2, f3, f4, f5⟩ := hf it (by simp)
    have hl := rv.length
    exact enu_end (k := true) (I.ok.hd hc) he hit p (by simp; omega) fun h' eb => ⟨rfl, I.turned (t' := s.toks) (fun b o hb q => eb b o hb q) f0 f1 f3 f4 f5⟩
  self := fun A i s Q E st h => let ⟨⟨_, he⟩, _⟩ := st; wpAny_pyIter_enum he h
def iEnuT (K : PySem.W.Frag) (ta : TA) : TI := fun σ H R => ta σ H fun vs H1 => ∃ a xs, vs = [.ref a] ∧ SqT K H1 a xs ∧ R (ItE K a) H1
theorem pi_enumT {X : Cx} {e : Expr} {ta : TA} {p pos tpos : PySem.Pos} {elts : List Expr} {kk : Nat} (hg : Gl X "enumerate") (hm : X.mg "enumerate" = none) (ha : PA X [e] ta) (hs : starEach [e] X.env = [(false, eval e X.env)] := by rfl) :
    PI X (.Tuple elts kk tpos) (.Call (.Name "enumerate" p) [e] [] pos) (iEnuT X.K ta) := by
  refine ⟨fun pins s σ H R I h => ?_⟩
  refine Call_ (ld_blt I hg hm boot_enumerate (PyProof.Rows.callWith_type1 (thn (ha.run pos pins s σ H _ I h) fun us s1 ⟨vs, H1, I1, r1, q1⟩ => ?_) hs rfl))
  obtain ⟨a, xs, rfl, hq, q⟩ := q1
  cases r1 with
  | cons r rr =>
    cases rr
    cases r
    obtain ⟨its, rv, p', hz⟩ := I1.tuple hq
    refine call_enuT p' fun h' he hit hk => wpAny_pyIter_enum he ?_
    have I2 : Inv X pins σ H1 { s1 with heap := h' } := I1.kept (t' := s1.toks) hk
    refine ⟨s1.heap.objs.size + 1, [s1.heap.objs.size + 1, s1.heap.objs.size], _, _, H1, rfl, I2, turn_enuT a (s1.heap.objs.size + 1) s1.heap.objs.size, ⟨⟨.none, he⟩, hit, Nat.succ_ne_self _⟩, fun b hb => ?_, q⟩
    have hle : s1.heap.objs.size ≤ b := by
      have e' : b = s1.heap.objs.size + 1 ∨ b = s1.heap.objs.size := by simpa using hb
      rcases e' with z | z <;> rw [z]
      · exact Nat.le_add_right _ _
      · exact Nat.le_refl _
    exact I1.fpOk hle (I1.hok.fresh hle)
theorem walk_enuT {K : PySem.W.Frag} {a : Addr} {xs : List V} : Walk (ItE K a) xs.length (fun H => SqT K H a xs) (YPair (fun i => some (.int (i : Nat))) (fun i => xs[i]?)) := by
  refine ⟨fun i _ hi q => ⟨xs, xs[i], q, by simp [hi]⟩, fun _ q => ⟨xs, q, Nat.le_refl _⟩, fun i H v H' _ q y => ?_⟩
  obtain ⟨T, x, e1, e2, e3, e4⟩ := y
  exact ⟨T, .int (i : Nat), x, e1, e2, e3, rfl, e4 xs q⟩
end ZM

/-! tuple * int, any int up to 1000 -/
namespace Wk
open PySem PySem.Spec PyProof.Rows L2
theorem rep_one (l : Addr) (items : Array Value) (n : Nat) (dd : Option Addr) (sl : Array (Option Value)) (u : Tok) :
    Meets (Builtin.«tuple.__mul__» ⟨[.ref l, .int 1 u], []⟩) (fun _ R s => s.heap.get? l = some { cls := .type "tuple", dict := dd, data := .seq items n, slots := sl } ∧
      R (.ok (.ret (Value.ref l))) { s with toks := s.toks }) :=
  .of_wp fun prog w A R s h => by
    obtain ⟨hp, g, d, tk, os⟩ := s
    obtain ⟨hl, h⟩ := h
    have f1 := AutoSeq1.idx_int
    have e1 : (items.isEmpty || (1 : Int) == 1) = true := by simp
    wp_walk using wpAny_loadPart' hl
    repeat (first
      | (refine wpAny_ite_true (decide_eq_true e1) ?_; wp_walk using wpAny_loadPart' hl)
      | (refine wpAny_ite_false (decide_eq_false (by decide)) ?_; wp_walk using wpAny_loadPart' hl))
    exact ⟨_, rfl, h⟩
theorem rep_none (l : Addr) (items : Array Value) (n : Nat) (dd : Option Addr) (sl : Array (Option Value)) (x : Int) (u : Tok) (c0 : (decide (x < -(2 ^ 63)) || decide (x ≥ 2 ^ 63)) = false) (c1 : (items.isEmpty || x == 1) = false) (c2 : (decide (x ≤ 0) || items.isEmpty) = true) :
    Meets (Builtin.«tuple.__mul__» ⟨[.ref l, .int x u], []⟩) (fun _ R s => s.heap.get? l = some { cls := .type "tuple", dict := dd, data := .seq items n, slots := sl } ∧
      R (.ok (.ret (Value.ref s.heap.objs.size))) { s with heap := s.heap.push { cls := Value.type "tuple", data := Data.seq #[] }, toks := s.toks }) :=
  .of_wp fun prog w A R s h => by
    obtain ⟨hp, g, d, tk, os⟩ := s
    obtain ⟨hl, h⟩ := h
    have f1 := AutoSeq1.idx_int
    wp_walk using wpAny_loadPart' hl
    repeat (first
      | (refine wpAny_ite_false (decide_eq_false (by rw [c0]; exact Bool.false_ne_true)) ?_; wp_walk using wpAny_loadPart' hl)
      | (refine wpAny_ite_false (decide_eq_false (by rw [c1]; exact Bool.false_ne_true)) ?_; wp_walk using wpAny_loadPart' hl)
      | (refine wpAny_ite_true (decide_eq_true (by rw [c2])) ?_; wp_walk using wpAny_loadPart' hl))
    exact ⟨_, rfl, h⟩
def rRepA (K : PySem.W.Frag) : R2 := fun x y H Q => ∃ l k xs, x = .ref l ∧ y = .int k ∧ SqT K H l xs ∧ xs ≠ [] ∧ -(2 ^ 62) ≤ k ∧ k ≤ 1000 ∧ xs.length ≤ 1000 ∧ (k = 1 → Q (.ref l) H) ∧ (k ≠ 1 → ∀ p, H p = none → Q (.ref p) (upd H p (.tup (List.replicate k.toNat xs).flatten)))
theorem op_repA {X : Cx} : OpR X (binaryOp .Mult) (rRepA X.K) := by
  intro pins s σ H x y v u Q I rx ry h
  obtain ⟨l, k, xs, rfl, rfl, hT, hne, h1, h2, hz, q1, q2⟩ := h
  by_cases hk : 2 ≤ k
  · exact op_repT pins s σ H _ _ v u Q I rx ry ⟨l, k, xs, rfl, rfl, hT, hne, hk, h2, hz, q2 (by omega)⟩
  · cases rx
    obtain ⟨t, rfl⟩ := ry
    obtain ⟨its, r, ⟨⟨cls, dd, data, sl⟩, ho, hc, n, hd⟩, hs⟩ := I.tuple hT
    simp only at hc hd
    subst hc hd
    have hn : its ≠ [] := fun e => hne (by
      have hle := r.length
      rw [e] at hle
      exact List.eq_nil_of_length_eq_zero hle)
    have hi : its.toArray.isEmpty = false := by
      cases its with
      | nil => exact absurd rfl hn
      | cons a b => rfl
    by_cases h3 : k = 1
    · subst h3
      refine wpAny_binaryOp_repeat_ref (T := "tuple") (U := "int") (by decide) ⟨_, ho, rfl⟩ (fun s' => typeIs_int s' 1 t) noFill_tuple_mul F.fills_int_mul F.slot_int_rmul repeat_tuple F.slot_int_index.lookup
        (call_meets F.slot_int_rmul (typeIs_int s 1 t) F.entry_int_rmul (F.args_int_rmul_2 _ _) (int_rmul_tuple 1 t l its.toArray n dd sl)
          ⟨ho, rfl, ⟨_, ho, rfl⟩, call_meets F.slot_tuple_mul ⟨_, ho, rfl⟩ F.entry_tuple_mul (F.args_tuple_mul_2 _ _) (rep_one l its.toArray n dd sl t) ⟨ho, ?_⟩⟩)
      exact ⟨.ref l, H, I.tok _, rfl, q1 rfl⟩
    · have c0 : (decide (k < -(2 ^ 63)) || decide (k ≥ 2 ^ 63)) = false := by
        rw [decide_eq_false (by omega), decide_eq_false (by omega)] <;> rfl
      have c1 : (its.toArray.isEmpty || k == 1) = false := by
        rw [hi, Bool.false_or]
        exact beq_eq_false_iff_ne.mpr h3
      have c2 : (decide (k ≤ 0) || its.toArray.isEmpty) = true := by
        rw [decide_eq_true (by omega), Bool.true_or]
      refine wpAny_binaryOp_repeat_ref (T := "tuple") (U := "int") (by decide) ⟨_, ho, rfl⟩ (fun s' => typeIs_int s' k t) noFill_tuple_mul F.fills_int_mul F.slot_int_rmul repeat_tuple F.slot_int_index.lookup
        (call_meets F.slot_int_rmul (typeIs_int s k t) F.entry_int_rmul (F.args_int_rmul_2 _ _) (int_rmul_tuple k t l its.toArray n dd sl)
          ⟨ho, rfl, ⟨_, ho, rfl⟩, call_meets F.slot_tuple_mul ⟨_, ho, rfl⟩ F.entry_tuple_mul (F.args_tuple_mul_2 _ _) (rep_none l its.toArray n dd sl k t c0 c1 c2) ⟨ho, ?_⟩⟩)
      have e0 : (List.replicate k.toNat xs).flatten = [] := by
        rw [show k.toNat = 0 by omega]
        rfl
      have q := q2 h3 _ (I.hok.fresh (Nat.le_refl _))
      rw [e0] at q
      refine ⟨.ref s.heap.objs.size, _, I.laid (t' := s.toks) (o := .tup []) (fun b ob q => Heap.get?_push_of_some _ q) (Nat.le_refl _) ?_, rfl, q⟩
      exact ⟨Nat.zero_le _, [], .nil, IsTup.new _ _⟩
/-! rules of comprehensions within comprehensions: the frame K by name -/
section
variable {X : Cx} {K : PySem.W.Frag}
theorem pg_tupK (hK : X.K = K) {es : List Expr} {k : Nat} {t : TGs} {n : Nat} {pos : PySem.Pos} (hc : X.calm = true) (h : PGs X es t)
    (hn : (assignEach es X.env).length = n := by rfl) (hst : (assignEach es X.env).findIdx? (·.1) = none := by rfl) : PG X (.Tuple es k pos) (gTup K n t) := hK ▸ pg_tup hc h hn hst
theorem pi_listK (hK : X.K = K) {tg l : Expr} {tl : TE} (hl : PE X l tl) : PI X tg l (iList K tl) := hK ▸ pi_list hl
theorem pi_tupK (hK : X.K = K) {tg l : Expr} {tl : TE} (hl : PE X l tl) : PI X tg l (iTup K tl) := hK ▸ pi_tup hl
theorem pi_zip2K (hK : X.K = K) (t u : Bool) {e e2 : Expr} {ta : TA} {p pos tpos : PySem.Pos} {elts : List Expr} {kk : Nat} (hg : Gl X "zip") (hm : X.mg "zip" = none) (ha : PA X [e, e2] ta)
    (hs : starEach [e, e2] X.env = (false, eval e X.env) :: starEach [e2] X.env := by rfl) (hpl : (backTo pos (starEach [e2] X.env)).any (·.1) = false := by rfl) :
    PI X (.Tuple elts kk tpos) (.Call (.Name "zip" p) [e, e2] [] pos) (ZM.iZip2 t u K ta) := hK ▸ ZM.pi_zip2 t u hg hm ha hs hpl
def rTupOf (K : PySem.W.Frag) : List V → Hp → VK → Prop := fun xs H Q => ∃ p ys, xs = [.ref p] ∧ ((SqL K H p ys ∧ ∀ l, H l = none → Q (.ref l) (upd H l (.tup ys))) ∨ (SqT K H p ys ∧ Q (.ref p) H))
theorem call_tupleK (hK : X.K = K) : CallR X (.type "tuple") (rTupOf K) := hK ▸ call_tuple_of
def rLstOf (K : PySem.W.Frag) : List V → Hp → VK → Prop := fun xs H Q => ∃ p ys, xs = [.ref p] ∧ (SqL K H p ys ∨ SqT K H p ys) ∧ ∀ l, H l = none → Q (.ref l) (upd H l (.lst ys))
theorem call_listK (hK : X.K = K) : CallR X (.type "list") (rLstOf K) := hK ▸ call_list_of
theorem cr_minK (hK : X.K = K) (hc : X.calm = true) : CallR X (.builtin "min") (rMin K) := hK ▸ cr_min hc
theorem cr_sumK (hK : X.K = K) (hc : X.calm = true) : CallR X (.builtin "sum") (rSum K) := hK ▸ cr_sum hc
theorem ix_tupK (hK : X.K = K) : IxR X (rIxT K) := hK ▸ ix_tup
theorem ix_listK (hK : X.K = K) : IxR X (rIxL K) := hK ▸ ix_list
end
section
variable {X : Cx} {K : PySem.W.Frag}
theorem op_repAK (hK : X.K = K) : OpR X (binaryOp .Mult) (rRepA K) := hK ▸ op_repA
theorem op_catAK (hK : X.K = K) : OpR X (binaryOp .Add) (rCatA K) := hK ▸ op_catA
theorem sl_tupAK (hK : X.K = K) : SlR X (rSlA K) := hK ▸ sl_tupA
end
/-- all but D stays -/
def But (D : Addr) (H H' : Hp) : Prop := ∀ b o, b ≠ D → H b = some o → H' b = some o
theorem But.same {D : Addr} {H H' H2 : Hp} (h : But D H H') (e : Same H' H2) : But D H H2 := fun b o n q => e b o (h b o n q)
/-- a comprehension whose i-th item stands in R i -/
theorem lc_rel {J : It} {n : Nat} {G : Hp → Prop} {Y : Nat → Hp → V → Hp → Prop} (w : Walk J n G Y) {g : TG} {tt : TT} {te : TE} {vs : List Nat} {σ : L2.St} {H1 : Hp} {D : Addr} {Qd : Hp → Prop} (hD : H1 D = none) (hn : n ≤ 1000000)
    (R : Nat → V → Hp → Prop) (mono : ∀ i v H H', R i v H → But D H H' → R i v H') (hG : ∀ H, Same H1 H → G H)
    (hs : ∀ (i : Nat) (x : V) (H H' : Hp) (Fn : V → Hp → Prop) (Nn : Hp → Prop), (∀ y H4, Same H H4 → R i y H4 → Fn y H4) → i < n → Same H1 H → (∃ acc, H D = some (.lst acc)) → Y i H x H' → g x (wipe σ vs) H' fun σ2 H2 => wipe σ2 vs = wipe σ vs ∧ tt σ2 H2 fun b H3 => if b = true then te σ2 H3 Fn else Nn H3)
    (hd : ∀ (acc : List V) H, acc.length = n → H D = some (.lst acc) → Same H1 H → (∀ j v, acc[j]? = some v → R j v H) → Qd H) :
    ∃ W : Nat → Nat → Hp → Prop, (∃ m, W 0 m (upd H1 D (.lst []))) ∧ ∀ i m H, W i m H →
      (J.stop i H ∧ Qd H) ∨ (J.go i H ∧ ∃ Nx : Hp → Prop, (∀ H', Nx H' → ∃ m', m' < m ∧ W (i + 1) m' H') ∧ ∀ x H', J.yld i H x H' → g x (wipe σ vs) H' fun σ2 H2 => wipe σ2 vs = wipe σ vs ∧ tt σ2 H2 fun b H3 =>
        if b = true then te σ2 H3 fun y H4 => ∃ acc, H4 D = some (.lst acc) ∧ acc.length < sizeLine ∧ Nx (upd H4 D (.lst (acc ++ [y]))) else Nx H3) := by
  refine lc_it w (fun i H => ∃ acc : List V, acc.length = i ∧ H D = some (.lst acc) ∧ Same H1 H ∧ ∀ j v, acc[j]? = some v → R j v H) ⟨[], rfl, upd_same, fun b o e => ?_, fun j v e => by simp at e⟩ (fun i H hi ⟨acc, _, _, h3, _⟩ => hG H h3) ?_ fun H ⟨acc, h1, h2, h3, h4⟩ => hd acc H h1 h2 h3 h4
  · rw [upd_ne (fun z => by rw [z, hD] at e; cases e)]
    exact e
  · intro i x H H' hi ⟨acc, h1, h2, h3, h4⟩ hy
    refine hs i x H H' _ _ (fun y H4 sm hr => ⟨acc, sm _ _ h2, ?_, acc ++ [y], by simp [h1], upd_same, fun b o e => ?_, fun j v e => ?_⟩) hi h3 ⟨acc, h2⟩ hy
    · rw [h1]
      exact Nat.lt_of_lt_of_le hi (Nat.le_trans hn (by decide))
    · rw [upd_ne (fun z => by rw [z, hD] at e; cases e)]
      exact sm _ _ (h3 _ _ e)
    · have b1 : But D H4 (upd H4 D (.lst (acc ++ [y]))) := fun b o n q => by rw [upd_ne n]; exact q
      rcases Nat.lt_trichotomy j acc.length with hj | hj | hj
      · rw [List.getElem?_append_left hj] at e
        exact mono _ _ _ _ (mono _ _ _ _ (h4 j v e) fun b o _ q => sm b o q) b1
      · rw [hj] at e
        simp at e
        rw [hj, h1, ← e]
        exact mono _ _ _ _ hr b1
      · rw [List.getElem?_eq_none (by simp; omega)] at e
        cases e
end Wk

/-! min(t), max(t), t a tuple of ints; a, b, c = a list -/
namespace Wk
open PySem PySem.Spec PyProof.Rows L2
section
variable {prog : Program} {w : World} {A : Around} {E : Value → Shared → Prop} {s : Shared} {l : Addr} {xs : Array (Int × Tok)}
theorem iter_it {Q : Value → Shared → Prop} (hl : s.heap.IsTuple l (intItems xs))
    (h : ∀ s₂ : Shared, s₂ = { s with heap := s.heap.push (ZM.itO true l) } → (s₂.heap.IsTupleIter s.heap.objs.size l 0 ∧ s₂.heap.IsTuple l (intItems xs)) → (∀ b ∈ [s.heap.objs.size, l], b < s₂.heap.objs.size) → l ≠ s.heap.objs.size → Q (.ref s.heap.objs.size) s₂) :
    wpAny (model prog w) A (pyIter (.ref l)) Q E s := by
  have hlt : l < s.heap.objs.size := by
    obtain ⟨_, e, _⟩ := hl
    exact Heap.lt_size e
  refine wpAny_pyIter_tuple hl (h _ rfl ⟨⟨_, Heap.get?_push_size _ rfl, rfl, rfl⟩, hl.push _⟩ (fun b hb => ?_) (Nat.ne_of_lt hlt))
  show b < (s.heap.push _).objs.size
  rw [Heap.size_push]
  simp only [List.mem_cons, List.not_mem_nil, or_false] at hb
  rcases hb with rfl | rfl
  · exact Nat.lt_succ_self _
  · exact Nat.lt_succ_of_lt hlt
theorem old_it {h' : Heap} (hk : ∀ b o, b ∉ [s.heap.objs.size] → (s.heap.push (ZM.itO true l)).get? b = some o → h'.get? b = some o) : ∀ b o, s.heap.get? b = some o → h'.get? b = some o := fun b o e => by
  refine hk b o (fun hm => ?_) (Heap.get?_push_of_some _ e)
  simp only [List.mem_cons, List.not_mem_nil, or_false] at hm
  exact absurd (hm ▸ Heap.lt_size e) (Nat.lt_irrefl _)
theorem min_it {ns : List Int} {its : List Value} {Q : Value → Shared → Prop} (hh : A.handled = none) (hl : s.heap.IsTuple l its.toArray) (hi : IntsAre its ns) (hne : 0 < ns.length)
    (h : ∀ h' tk M t', (∀ b o, s.heap.get? b = some o → h'.get? b = some o) → M ∈ ns → (∀ a, a ∈ ns → M ≤ a) → Q (.int M t') { s with heap := h', toks := tk }) : wpAny (model prog w) A (call (.builtin "min") [.ref l]) Q E s := by
  obtain ⟨xs, e⟩ := hi.allInts.items
  have hn : numsOf (intItems xs).toList = ns := by rw [← e]; exact hi.numsOf
  rw [nums_intItems] at hn
  subst hn
  rw [e] at hl
  have hsz : 0 < xs.size := by simpa using hne
  refine call_min_walk (iter_it hl fun s₂ e st hfp hlI => ?_)
  subst e
  refine ⟨_, _, _, _, _, _, _, rfl, Walks.tuple (A := A.in1) hh _ l hlI (intItems xs), st, hfp, by simpa [intItems] using hsz, CmpOf.ints_lt (numAt xs) (fun _ _ => intItems_at), fun v h' tk hP hk => ?_⟩
  have hv : (intItems xs)[argBest (fun i j => decide (numAt xs i < numAt xs j)) (xs.size - 1)]? = some v := by simpa [intItems] using hP
  obtain ⟨t, rfl⟩ := intItems_at hv
  obtain ⟨h1, h2⟩ := argBest_lt (numAt xs) (xs.size - 1)
  refine h h' tk _ t (old_it hk) ?_ fun a ha => ?_
  · rw [numAt_eq]
    exact PySem.getD_mem (by rw [List.length_map, Array.length_toList]; omega)
  · obtain ⟨j, hj, rfl⟩ := mem_getD ha
    rw [List.length_map, Array.length_toList] at hj
    rw [← numAt_eq]
    exact h2 j (by omega)
theorem max_it {ns : List Int} {its : List Value} {Q : Value → Shared → Prop} (hh : A.handled = none) (hl : s.heap.IsTuple l its.toArray) (hi : IntsAre its ns) (hne : 0 < ns.length)
    (h : ∀ h' tk M t', (∀ b o, s.heap.get? b = some o → h'.get? b = some o) → M ∈ ns → (∀ a, a ∈ ns → a ≤ M) → Q (.int M t') { s with heap := h', toks := tk }) : wpAny (model prog w) A (call (.builtin "max") [.ref l]) Q E s := by
  obtain ⟨xs, e⟩ := hi.allInts.items
  have hn : numsOf (intItems xs).toList = ns := by rw [← e]; exact hi.numsOf
  rw [nums_intItems] at hn
  subst hn
  rw [e] at hl
  have hsz : 0 < xs.size := by simpa using hne
  refine call_max_walk (iter_it hl fun s₂ e st hfp hlI => ?_)
  subst e
  refine ⟨_, _, _, _, _, _, _, rfl, Walks.tuple (A := A.in1) hh _ l hlI (intItems xs), st, hfp, by simpa [intItems] using hsz, CmpOf.ints_gt (numAt xs) (fun _ _ => intItems_at), fun v h' tk hP hk => ?_⟩
  have hv : (intItems xs)[argBest (fun i j => decide (numAt xs i > numAt xs j)) (xs.size - 1)]? = some v := by simpa [intItems] using hP
  obtain ⟨t, rfl⟩ := intItems_at hv
  obtain ⟨h1, h2⟩ := argBest_gt (numAt xs) (xs.size - 1)
  refine h h' tk _ t (old_it hk) ?_ fun a ha => ?_
  · rw [numAt_eq]
    exact PySem.getD_mem (by rw [List.length_map, Array.length_toList]; omega)
  · obtain ⟨j, hj, rfl⟩ := mem_getD ha
    rw [List.length_map, Array.length_toList] at hj
    rw [← numAt_eq]
    exact h2 j (by omega)
end
section
variable {X : Cx} {K : PySem.W.Frag}
def rLenK (K : PySem.W.Frag) : List V → Hp → VK → Prop := fun xs H Q => ∃ p ys, xs = [V.ref p] ∧ (SqL K H p ys ∨ SqT K H p ys) ∧ Q (V.int ys.length) H
theorem call_lenK (hK : X.K = K) : CallR X (.builtin "len") (rLenK K) := hK ▸ call_len_seq
def rMinT (K : PySem.W.Frag) : List V → Hp → VK → Prop := fun vs H Q => ∃ (a : Addr) (ns : List Int), vs = [V.ref a] ∧ SqT K H a (ns.map V.int) ∧ 0 < ns.length ∧ ∀ m, m ∈ ns → Q (.int m) H
theorem cr_minT (hK : X.K = K) (hc : X.calm = true) : CallR X (.builtin "min") (rMinT K) := by
  subst hK
  intro pins s σ H vs us Q I r h
  obtain ⟨a, ns, rfl, hs, hne, q⟩ := h
  obtain ⟨its, rv, hl, _⟩ := I.tuple hs
  rw [Vals.ref1 r]
  exact min_it (I.ok.hd hc) hl rv.ints hne fun h' tk m t' hk h1 h2 => ⟨.int _, H, I.kept hk, ⟨_, rfl⟩, q m h1⟩
theorem cr_maxT (hK : X.K = K) (hc : X.calm = true) : CallR X (.builtin "max") (rMinT K) := by
  subst hK
  intro pins s σ H vs us Q I r h
  obtain ⟨a, ns, rfl, hs, hne, q⟩ := h
  obtain ⟨its, rv, hl, _⟩ := I.tuple hs
  rw [Vals.ref1 r]
  exact max_it (I.ok.hd hc) hl rv.ints hne fun h' tk m t' hk h1 h2 => ⟨.int _, H, I.kept hk, ⟨_, rfl⟩, q m h1⟩
end
end Wk

/-! matrices of ints, their products modulo M -/
namespace Wk
abbrev Mat := List (List Int)
def Wd (n : Int) : Prop := n.natAbs < 2 ^ 200
def RWd (r : List Int) : Prop := ∀ n ∈ r, Wd n
def MWd (A : Mat) : Prop := ∀ r ∈ A, RWd r
def dotZ (a b : List Int) : Int := (List.zipWith (· * ·) a b).sum
def applyM (M : Int) (A : Mat) (r : List Int) : List Int := A.map fun l => dotZ l r % M
def colsOf (n : Nat) (B : Mat) : Mat := (List.range n).map fun j => B.map fun r => r.getD j 0
def prodM (M : Int) (n : Nat) (A B : Mat) : Mat := A.map fun r => applyM M (colsOf n B) r
def unitRow (s p : Nat) : List Int := (List.range s).map fun j => if j = p then 1 else 0
def idM (s : Nat) : Mat := (List.range s).map fun p => unitRow s p
def mpow (M : Int) (n : Nat) (A : Mat) : Nat → Mat
  | 0 => idM n
  | e + 1 => prodM M n (mpow M n A e) A
abbrev Row := List Int
def mulRow (M f : Int) (r : List Int) : List Int := r.map fun x => f * x % M
def comb (M f : Int) (r : List Int) (g : Int) (s : List Int) : List Int := List.zipWith (fun a b => (f * a + g * b) % M) r s
/-- numbers from 0 to M - 1 -/
def RRed (M : Int) (r : Row) : Prop := ∀ x ∈ r, 0 ≤ x ∧ x < M
structure WF (M : Int) (W n : Nat) (S : List (Option Row)) : Prop where
  len : S.length = n
  row : ∀ (i : Nat) (s : Row), S[i]? = some (some s) → s.length = W ∧ RRed M s ∧ (∃ x, s[i]? = some x ∧ 1 ≤ x ∧ x ∣ M) ∧ ∀ j, j < i → s[j]? = some 0
/-- one step of a put -/
def PutStep (M : Int) (p : Nat) (S : List (Option Row)) (r : Row) (N : Int) (S' : List (Option Row)) (r' : Row) : Prop :=
  (S[p]? = some none ∧ ∃ g lf f : Int, g = (Int.gcd M N : Int) ∧ 1 ≤ g ∧ lf * M + f * N = g ∧ S' = S.set p (some (mulRow M f r)) ∧ r' = mulRow M (M / g) r) ∨
  (∃ (s : Row) (P : Int), S[p]? = some (some s) ∧ s[p]? = some P ∧
    ((N % P = 0 ∧ S' = S ∧ r' = comb M 1 r (-(N / P)) s) ∨
     (∃ g lf f : Int, g = (Int.gcd P N : Int) ∧ 1 ≤ g ∧ lf * P + f * N = g ∧ S' = S.set p (some (comb M f r lf s)) ∧ r' = comb M (P / g) r (-(N / g)) s)))
/-- a put, place by place -/
inductive Ch (M : Int) (S0 : List (Option Row)) (r0 : Row) : Nat → List (Option Row) → Row → Prop
  | base : Ch M S0 r0 0 S0 r0
  | skip {i : Nat} {S : List (Option Row)} {r : Row} : Ch M S0 r0 i S r → r[i]? = some 0 → Ch M S0 r0 (i + 1) S r
  | step {i : Nat} {S S' : List (Option Row)} {r r' : Row} {N : Int} : Ch M S0 r0 i S r → r[i]? = some N → 1 ≤ N → PutStep M i S r N S' r' → Ch M S0 r0 (i + 1) S' r'
theorem mod_red {M : Int} (h : 1 ≤ M) (x : Int) : 0 ≤ x % M ∧ x % M < M := ⟨Int.emod_nonneg _ (by omega), Int.emod_lt_of_pos _ (by omega)⟩
theorem mulRow_red {M : Int} (h : 1 ≤ M) (f : Int) (r : Row) : RRed M (mulRow M f r) := fun x hx => by
  obtain ⟨y, _, rfl⟩ := List.mem_map.mp hx
  exact mod_red h _
theorem comb_red {M : Int} (h : 1 ≤ M) (f g : Int) (r s : Row) : RRed M (comb M f r g s) := fun x hx => by
  obtain ⟨k, hk⟩ := List.mem_iff_getElem?.mp hx
  unfold comb at hk
  rw [List.getElem?_zipWith] at hk
  split at hk
  · cases hk
    exact mod_red h _
  · cases hk
theorem mulRow_at {M f : Int} {r : Row} {i : Nat} {x : Int} (h : r[i]? = some x) : (mulRow M f r)[i]? = some (f * x % M) := by
  unfold mulRow
  rw [List.getElem?_map, h]
  rfl
theorem comb_at {M f g : Int} {r s : Row} {i : Nat} {x y : Int} (h : r[i]? = some x) (h2 : s[i]? = some y) : (comb M f r g s)[i]? = some ((f * x + g * y) % M) := by
  unfold comb
  rw [List.getElem?_zipWith, h, h2]
theorem gcd_le_l {a b : Int} (h : 1 ≤ a) : (Int.gcd a b : Int) ≤ a := by
  have : Int.gcd a b ≤ a.natAbs := Nat.gcd_le_left _ (by omega)
  omega
theorem gcd_le_r {a b : Int} (h : 1 ≤ b) : (Int.gcd a b : Int) ≤ b := by
  have : Int.gcd a b ≤ b.natAbs := Nat.gcd_le_right _ (by omega)
  omega
theorem WF.set {M : Int} {W n i : Nat} {S : List (Option Row)} {s : Row} {x : Int} (wf : WF M W n S) (h1 : s.length = W) (h2 : RRed M s) (h3 : s[i]? = some x) (h4 : 1 ≤ x) (h5 : x ∣ M) (h6 : ∀ j, j < i → s[j]? = some 0) : WF M W n (S.set i (some s)) := by
  refine ⟨by rw [List.length_set]; exact wf.len, fun j t e => ?_⟩
  by_cases z : i = j
  · subst z
    by_cases hl : i < S.length
    · rw [List.getElem?_set_self hl] at e
      cases e
      exact ⟨h1, h2, ⟨x, h3, h4, h5⟩, h6⟩
    · rw [List.getElem?_eq_none (by rw [List.length_set]; omega)] at e
      cases e
  · rw [List.getElem?_set_ne z] at e
    exact wf.row j t e
theorem put_wf {M : Int} {W n i : Nat} {S S' : List (Option Row)} {r r' : Row} {N : Int} (hM : 2 ≤ M) (wf : WF M W n S) (hr : r.length = W) (rr : RRed M r) (hz : ∀ j, j < i → r[j]? = some 0) (hN : r[i]? = some N) (h1 : 1 ≤ N) (st : PutStep M i S r N S' r') :
    WF M W n S' ∧ r'.length = W ∧ RRed M r' ∧ ∀ j, j < i + 1 → r'[j]? = some 0 := by
  have hNM : N < M := (rr N (List.mem_of_getElem? hN)).2
  rcases st with ⟨e0, g, lf, f, hg, g1, hbz, rfl, rfl⟩ | ⟨s, P, e0, hP, st⟩
  · have hgM : g ∣ M := hg ▸ Int.gcd_dvd_left ..
    have hgN' : g ∣ N := hg ▸ Int.gcd_dvd_right ..
    have e : f * N = g - lf * M := by omega
    have hgN := gcd_le_r (a := M) (b := N) h1
    have eg : f * N % M = g := by rw [e, Int.sub_mul_emod_self_right, Int.emod_eq_of_lt (by omega) (by omega)]
    refine ⟨wf.set (by simp [mulRow, hr]) (mulRow_red (by omega) _ _) (mulRow_at hN) (by rw [eg]; exact g1) (by rw [eg]; exact hgM) (fun j hj => by rw [mulRow_at (hz j hj)]; simp), by simp [mulRow, hr], mulRow_red (by omega) _ _, fun j hj => ?_⟩
    rcases Nat.lt_or_ge j i with h | h
    · rw [mulRow_at (hz j h)]
      simp
    · have : j = i := by omega
      subst this
      rw [mulRow_at hN]
      obtain ⟨a, rfl⟩ := hgM
      obtain ⟨b, rfl⟩ := hgN'
      rw [Int.mul_ediv_cancel_left _ (by omega), show a * (g * b) = g * a * b by grind, Int.mul_emod_right]
  · obtain ⟨sl, sr, ⟨P', hP', p1, pM⟩, sz⟩ := wf.row i s e0
    rw [hP] at hP'
    cases hP'
    have hPM : P < M := (sr P (List.mem_of_getElem? hP)).2
    have low : ∀ (f g : Int) (j : Nat), j < i → (comb M f r g s)[j]? = some 0 := fun f g j hj => by rw [comb_at (hz j hj) (sz j hj)]; simp
    rcases st with ⟨h0, rfl, rfl⟩ | ⟨g, lf, f, hg, g1, hbz, rfl, rfl⟩
    · refine ⟨wf, by simp [comb, hr, sl], comb_red (by omega) _ _ _ _, fun j hj => ?_⟩
      rcases Nat.lt_or_ge j i with h | h
      · exact low _ _ j h
      · have : j = i := by omega
        subst this
        rw [comb_at hN hP]
        have := Int.emod_add_ediv_mul N P
        rw [show 1 * N + -(N / P) * P = 0 by grind]
        simp
    · have hgP' : g ∣ P := hg ▸ Int.gcd_dvd_left ..
      have hgN' : g ∣ N := hg ▸ Int.gcd_dvd_right ..
      have hgN := gcd_le_l (a := P) (b := N) p1
      have eg : (f * N + lf * P) % M = g := by rw [show f * N + lf * P = g by omega, Int.emod_eq_of_lt (by omega) (by omega)]
      refine ⟨wf.set (by simp [comb, hr, sl]) (comb_red (by omega) _ _ _ _) (comb_at hN hP) (by rw [eg]; exact g1) (by rw [eg]; exact Int.dvd_trans hgP' pM) (low _ _), by simp [comb, hr, sl], comb_red (by omega) _ _ _ _, fun j hj => ?_⟩
      rcases Nat.lt_or_ge j i with h | h
      · exact low _ _ j h
      · have : j = i := by omega
        subst this
        rw [comb_at hN hP]
        obtain ⟨a, rfl⟩ := hgP'
        obtain ⟨b, rfl⟩ := hgN'
        rw [Int.mul_ediv_cancel_left _ (by omega), Int.mul_ediv_cancel_left _ (by omega), show a * (g * b) + -b * (g * a) = 0 by grind]
        simp
theorem Ch.wf {M : Int} {W n i : Nat} {S0 S : List (Option Row)} {r0 r : Row} (c : Ch M S0 r0 i S r) (hM : 2 ≤ M) (wf : WF M W n S0) (hr : r0.length = W) (rr : RRed M r0) : WF M W n S ∧ r.length = W ∧ RRed M r ∧ ∀ j, j < i → r[j]? = some 0 := by
  induction c with
  | base => exact ⟨wf, hr, rr, fun j h => absurd h (Nat.not_lt_zero _)⟩
  | skip c h ih =>
    obtain ⟨a, b, d, e⟩ := ih
    refine ⟨a, b, d, fun j hj => ?_⟩
    rcases Nat.lt_succ_iff_lt_or_eq.mp hj with h2 | h2
    · exact e j h2
    · rw [h2]
      exact h
  | step c h h1 st ih =>
    obtain ⟨a, b, d, e⟩ := ih
    exact put_wf hM a b d e h h1 st
/-- a row of the matrix with its own unit row behind -/
def rowOf (M : Int) (n : Nat) (a : Row) (k : Nat) : Row := a.map (· % M) ++ unitRow n k
inductive Puts (M : Int) (n : Nat) (A : Mat) : Nat → List (Option Row) → Prop
  | zero : Puts M n A 0 (List.replicate n none)
  | succ {k : Nat} {S S' : List (Option Row)} {a r' : Row} : Puts M n A k S → A[k]? = some a → Ch M S (rowOf M n a k) n S' r' → Puts M n A (k + 1) S'
theorem rowOf_ok {M : Int} (hM : 2 ≤ M) {n k : Nat} {a : Row} (h : a.length = n) : (rowOf M n a k).length = 2 * n ∧ RRed M (rowOf M n a k) := by
  refine ⟨by simp [rowOf, unitRow, h]; omega, fun x hx => ?_⟩
  rcases List.mem_append.mp hx with hx | hx
  · obtain ⟨y, _, rfl⟩ := List.mem_map.mp hx
    exact mod_red (by omega) y
  · obtain ⟨j, _, rfl⟩ := List.mem_map.mp hx
    split <;> omega
theorem Puts.wf {M : Int} (hM : 2 ≤ M) {n k : Nat} {A : Mat} {S : List (Option Row)} (hA : ∀ r ∈ A, r.length = n) (p : Puts M n A k S) : WF M (2 * n) n S := by
  induction p with
  | zero => exact ⟨by simp, fun i s e => by
      rw [List.getElem?_replicate] at e
      split at e <;> cases e⟩
  | succ p h c ih =>
    obtain ⟨a, b⟩ := rowOf_ok hM (hA _ (List.mem_of_getElem? h))
    exact (c.wf hM ih a b).1
/-- a row made less by the rows behind it -/
def lessen (M : Int) : Row → List (Nat × Row) → Row
  | r, [] => r
  | r, (q, s) :: L => lessen M (if r.getD q 0 ≥ s.getD q 0 then comb M 1 r (-(r.getD q 0 / s.getD q 0)) s else r) L
/-- the rows made less, from the last place on; i of them looked at -/
def settle (M : Int) (n : Nat) (S : List (Option Row)) : Nat → List (Nat × Row)
  | 0 => []
  | i + 1 => match S.getD (n - 1 - i) none with
    | none => settle M n S i
    | some r => (n - 1 - i, lessen M r (settle M n S i)) :: settle M n S i
/-- what the rows behind must be to make a row less -/
def LOk (M : Int) (W : Nat) (L : List (Nat × Row)) : Prop := ∀ q s, (q, s) ∈ L → s.length = W ∧ RRed M s ∧ q < W ∧ 1 ≤ s.getD q 0
theorem less_step {M : Int} {W : Nat} {r s : Row} {f : Int} (hM : 1 ≤ M) (hr : r.length = W) (hs : s.length = W) : (comb M 1 r f s).length = W ∧ RRed M (comb M 1 r f s) := ⟨by simp [comb, hr, hs], comb_red hM _ _ _ _⟩
theorem lessen_ok {M : Int} {W : Nat} (hM : 1 ≤ M) : ∀ {L : List (Nat × Row)} {r : Row}, LOk M W L → r.length = W → RRed M r → (lessen M r L).length = W ∧ RRed M (lessen M r L) ∧ ∀ (j : Nat) (x : Int), r[j]? = some x → (∀ q s, (q, s) ∈ L → s[j]? = some 0) → (lessen M r L)[j]? = some x
  | [], r, _, h1, h2 => ⟨h1, h2, fun j x h _ => h⟩
  | (q, s) :: L, r, hL, h1, h2 => by
    obtain ⟨a, b, c, e⟩ := hL q s List.mem_cons_self
    have hL2 : LOk M W L := fun q s h => hL q s (List.mem_cons_of_mem _ h)
    unfold lessen
    split
    · obtain ⟨z1, z2⟩ := less_step (f := -(r.getD q 0 / s.getD q 0)) hM h1 a
      obtain ⟨y1, y2, y3⟩ := lessen_ok hM hL2 z1 z2
      refine ⟨y1, y2, fun j x hx hz => y3 j x ?_ fun q s h => hz q s (List.mem_cons_of_mem _ h)⟩
      rw [comb_at hx (hz q s List.mem_cons_self)]
      have := h2 x (List.mem_of_getElem? hx)
      rw [Int.mul_zero, Int.add_zero, Int.one_mul, Int.emod_eq_of_lt this.1 this.2]
    · obtain ⟨y1, y2, y3⟩ := lessen_ok hM hL2 h1 h2
      exact ⟨y1, y2, fun j x hx hz => y3 j x hx fun q s h => hz q s (List.mem_cons_of_mem _ h)⟩
theorem settle_ok {M : Int} {W n : Nat} {S : List (Option Row)} (hM : 2 ≤ M) (wf : WF M W n S) (hn : n ≤ W) : ∀ i, i ≤ n → ∀ q s, (q, s) ∈ settle M n S i → n - i ≤ q ∧ q < n ∧ s.length = W ∧ RRed M s ∧ (∀ j, j < q → s[j]? = some 0) ∧ ∃ r0 x, S[q]? = some (some r0) ∧ r0[q]? = some x ∧ s[q]? = some x ∧ 1 ≤ x
  | 0, _, q, s, h => by simp [settle] at h
  | i + 1, hi, q, s, h => by
    have ih := settle_ok hM wf hn i (by omega)
    have hlt : n - 1 - i < S.length := by rw [wf.len]; omega
    unfold settle at h
    split at h
    · obtain ⟨a, b⟩ := ih q s h
      exact ⟨by omega, b⟩
    · rename_i r e
      have e2 : S[n - 1 - i]? = some (some r) := by
        rw [List.getD_eq_getElem?_getD, List.getElem?_eq_getElem hlt] at e
        rw [List.getElem?_eq_getElem hlt]
        exact congrArg some e
      obtain ⟨a1, a2, ⟨x, a3, a4, a5⟩, a6⟩ := wf.row _ _ e2
      have hL : LOk M W (settle M n S i) := fun q s h => by
        obtain ⟨b1, b2, b3, b4, b5, r0, x, b6, b7, b8, b9⟩ := ih q s h
        refine ⟨b3, b4, by omega, ?_⟩
        rw [List.getD_eq_getElem?_getD, b8]
        exact b9
      have zer : ∀ j, j ≤ n - 1 - i → ∀ q s, (q, s) ∈ settle M n S i → s[j]? = some 0 := fun j hj q s h => by
        obtain ⟨b1, b2, b3, b4, b5, _⟩ := ih q s h
        exact b5 j (by omega)
      obtain ⟨y1, y2, y3⟩ := lessen_ok (show 1 ≤ M by omega) hL a1 a2
      rcases List.mem_cons.mp h with h | h
      · cases h
        exact ⟨by omega, by omega, y1, y2, fun j hj => y3 j 0 (a6 j hj) (zer j (by omega)), r, x, e2, a3, y3 _ x a3 (zer _ (Nat.le_refl _)), a4⟩
      · obtain ⟨a, b⟩ := ih q s h
        exact ⟨by omega, b⟩
theorem settle_len (M : Int) (n : Nat) (S : List (Option Row)) : ∀ i, (settle M n S i).length ≤ i
  | 0 => Nat.le_refl _
  | i + 1 => by
    have := settle_len M n S i
    unfold settle
    split
    · omega
    · simp
      omega
theorem settle_lok {M : Int} {W n : Nat} {S : List (Option Row)} (hM : 2 ≤ M) (wf : WF M W n S) (hn : n ≤ W) {i : Nat} (hi : i ≤ n) : LOk M W (settle M n S i) := fun q s h => by
  obtain ⟨b1, b2, b3, b4, b5, r0, x, b6, b7, b8, b9⟩ := settle_ok hM wf hn i hi q s h
  refine ⟨b3, b4, by omega, ?_⟩
  rw [List.getD_eq_getElem?_getD, b8]
  exact b9
end Wk

/-! sums, products of matrices as functions, modulo M -/
namespace Wk
def sumN : Nat → (Nat → Int) → Int
  | 0, _ => 0
  | n + 1, f => sumN n f + f n
theorem sumN_congr {n : Nat} {f g : Nat → Int} (h : ∀ k, k < n → f k = g k) : sumN n f = sumN n g := by
  induction n with
  | zero => rfl
  | succ n ih => rw [sumN, sumN, ih fun k hk => h k (by omega), h n (by omega)]
theorem sumN_add (n : Nat) (f g : Nat → Int) : sumN n (fun k => f k + g k) = sumN n f + sumN n g := by
  induction n with
  | zero => rfl
  | succ n ih => rw [sumN, sumN, sumN, ih]; omega
theorem sumN_zero (n : Nat) : sumN n (fun _ => 0) = 0 := by
  induction n with
  | zero => rfl
  | succ n ih => rw [sumN, ih]; rfl
theorem sumN_mul (n : Nat) (c : Int) (f : Nat → Int) : sumN n (fun k => c * f k) = c * sumN n f := by
  induction n with
  | zero => simp [sumN]
  | succ n ih => rw [sumN, sumN, ih, Int.mul_add]
theorem sumN_comm (n m : Nat) (f : Nat → Nat → Int) : sumN n (fun i => sumN m fun j => f i j) = sumN m (fun j => sumN n fun i => f i j) := by
  induction n with
  | zero => rw [sumN]; exact (sumN_zero m).symm
  | succ n ih => rw [sumN, ih, ← sumN_add]; rfl
theorem sumN_one {n a : Nat} (h : a < n) (x : Int) : sumN n (fun k => if k = a then x else 0) = x := by
  induction n with
  | zero => omega
  | succ n ih =>
    rw [sumN]
    by_cases e : a = n
    · subst e
      rw [if_pos rfl, sumN_congr (g := fun _ => 0) fun k hk => if_neg (by omega), sumN_zero]
      omega
    · rw [ih (by omega), if_neg (by omega)]
      omega
/-- equal modulo M -/
def Eqm (M a b : Int) : Prop := ∃ k, a = b + M * k
theorem Eqm.refl (M a : Int) : Eqm M a a := ⟨0, by simp⟩
theorem Eqm.symm {M a b : Int} (h : Eqm M a b) : Eqm M b a := by
  obtain ⟨k, e⟩ := h
  exact ⟨-k, by rw [e]; grind⟩
theorem Eqm.trans {M a b c : Int} (h : Eqm M a b) (g : Eqm M b c) : Eqm M a c := by
  obtain ⟨k, e⟩ := h
  obtain ⟨l, f⟩ := g
  exact ⟨k + l, by rw [e, f]; grind⟩
theorem Eqm.add {M a b c d : Int} (h : Eqm M a b) (g : Eqm M c d) : Eqm M (a + c) (b + d) := by
  obtain ⟨k, e⟩ := h
  obtain ⟨l, f⟩ := g
  exact ⟨k + l, by rw [e, f]; grind⟩
theorem Eqm.mul {M a b c d : Int} (h : Eqm M a b) (g : Eqm M c d) : Eqm M (a * c) (b * d) := by
  obtain ⟨k, e⟩ := h
  obtain ⟨l, f⟩ := g
  exact ⟨b * l + k * d + M * k * l, by rw [e, f]; grind⟩
theorem Eqm.mod (M a : Int) : Eqm M (a % M) a := ⟨-(a / M), by have := Int.emod_add_mul_ediv a M; grind⟩
theorem Eqm.eq {M a b : Int} (h : a = b) : Eqm M a b := h ▸ .refl _ _
theorem Eqm.emod {M a b : Int} (h : Eqm M a b) : a % M = b % M := by
  obtain ⟨k, e⟩ := h
  rw [e, Int.add_mul_emod_self_left]
theorem Eqm.of {M a b : Int} (h : a % M = b % M) : Eqm M a b := ((Eqm.mod M a).symm.trans (h ▸ .refl M _)).trans (Eqm.mod M b)
theorem Eqm.red {M a b : Int} (h : Eqm M a b) (ha : 0 ≤ a ∧ a < M) (hb : 0 ≤ b ∧ b < M) : a = b := by
  have := h.emod
  rwa [Int.emod_eq_of_lt ha.1 ha.2, Int.emod_eq_of_lt hb.1 hb.2] at this
theorem Eqm.sum {M : Int} {n : Nat} {f g : Nat → Int} (h : ∀ k, k < n → Eqm M (f k) (g k)) : Eqm M (sumN n f) (sumN n g) := by
  induction n with
  | zero => exact .refl _ _
  | succ n ih => exact (ih fun k hk => h k (by omega)).add (h n (by omega))
abbrev Fm := Nat → Nat → Int
def mulF (n : Nat) (A B : Fm) : Fm := fun i j => sumN n fun k => A i k * B k j
def oneF : Fm := fun i j => if i = j then 1 else 0
/-- equal modulo M on n places -/
def EqF (M : Int) (n : Nat) (A B : Fm) : Prop := ∀ i j, i < n → j < n → Eqm M (A i j) (B i j)
theorem EqF.refl (M : Int) (n : Nat) (A : Fm) : EqF M n A A := fun _ _ _ _ => .refl _ _
theorem EqF.symm {M : Int} {n : Nat} {A B : Fm} (h : EqF M n A B) : EqF M n B A := fun i j a b => (h i j a b).symm
theorem EqF.trans {M : Int} {n : Nat} {A B C : Fm} (h : EqF M n A B) (g : EqF M n B C) : EqF M n A C := fun i j a b => (h i j a b).trans (g i j a b)
theorem EqF.mul {M : Int} {n : Nat} {A B C D : Fm} (h : EqF M n A B) (g : EqF M n C D) : EqF M n (mulF n A C) (mulF n B D) := fun i j a b => Eqm.sum fun k hk => (h i k a hk).mul (g k j hk b)
theorem mulF_assoc (n : Nat) (A B C : Fm) : mulF n (mulF n A B) C = mulF n A (mulF n B C) := by
  funext i j
  show sumN n (fun k => sumN n (fun l => A i l * B l k) * C k j) = sumN n (fun l => A i l * sumN n fun k => B l k * C k j)
  have e1 : ∀ k, sumN n (fun l => A i l * B l k) * C k j = sumN n fun l => A i l * (B l k * C k j) := fun k => by
    rw [Int.mul_comm, ← sumN_mul]
    exact sumN_congr fun l _ => by grind
  have e2 : ∀ l, A i l * sumN n (fun k => B l k * C k j) = sumN n fun k => A i l * (B l k * C k j) := fun l => (sumN_mul n _ _).symm
  rw [sumN_congr fun k _ => e1 k, sumN_comm, sumN_congr fun l _ => (e2 l).symm]
theorem mulF_one {M : Int} (n : Nat) (A : Fm) : EqF M n (mulF n A oneF) A := fun i j hi hj => by
  have : mulF n A oneF i j = A i j := by
    show sumN n (fun k => A i k * oneF k j) = _
    rw [sumN_congr (g := fun k => if k = j then A i j else 0) fun k hk => ?_, sumN_one hj]
    show A i k * (if k = j then 1 else 0) = _
    split
    · rename_i e; rw [e]; simp
    · simp
  rw [this]
  exact .refl _ _
theorem one_mulF {M : Int} (n : Nat) (A : Fm) : EqF M n (mulF n oneF A) A := fun i j hi hj => by
  have : mulF n oneF A i j = A i j := by
    show sumN n (fun k => oneF i k * A k j) = _
    rw [sumN_congr (g := fun k => if k = i then A i j else 0) fun k hk => ?_, sumN_one hi]
    show (if i = k then (1 : Int) else 0) * A k j = _
    by_cases e : k = i
    · subst e; simp
    · rw [if_neg (fun z => e z.symm), if_neg e]; simp
  rw [this]
  exact .refl _ _
def powF (n : Nat) (A : Fm) : Nat → Fm
  | 0 => oneF
  | e + 1 => mulF n (powF n A e) A
theorem powF_add {M : Int} (n : Nat) (A : Fm) (a b : Nat) : EqF M n (powF n A (a + b)) (mulF n (powF n A a) (powF n A b)) := by
  induction b with
  | zero => exact (mulF_one n _).symm
  | succ b ih =>
    show EqF M n (mulF n (powF n A (a + b)) A) (mulF n (powF n A a) (mulF n (powF n A b) A))
    rw [← mulF_assoc]
    exact ih.mul (.refl _ _ _)
theorem powF_sq {M : Int} (n : Nat) (A : Fm) (m : Nat) : EqF M n (powF n (mulF n A A) m) (powF n A (2 * m)) := by
  induction m with
  | zero => exact .refl _ _ _
  | succ m ih =>
    show EqF M n (mulF n (powF n (mulF n A A) m) (mulF n A A)) (powF n A (2 * m + 1 + 1))
    refine (ih.mul (.refl _ _ _)).trans ?_
    rw [← mulF_assoc]
    exact .refl _ _ _
theorem powF_congr {M : Int} {n : Nat} {A B : Fm} (h : EqF M n A B) (m : Nat) : EqF M n (powF n A m) (powF n B m) := by
  induction m with
  | zero => exact .refl _ _ _
  | succ m ih => exact ih.mul h
/-! matrices as lists -/
def ent (A : Mat) : Fm := fun i j => (A.getD i []).getD j 0
def Shp (h w : Nat) (A : Mat) : Prop := A.length = h ∧ ∀ r ∈ A, r.length = w
def MRed (M : Int) (A : Mat) : Prop := ∀ r ∈ A, RRed M r
theorem dot_sum : ∀ (n : Nat) (a b : List Int), a.length = n → b.length = n → dotZ a b = sumN n fun k => a.getD k 0 * b.getD k 0 := by
  intro n
  induction n with
  | zero =>
    intro a b h1 h2
    rw [List.eq_nil_of_length_eq_zero h1]
    rfl
  | succ n ih =>
    intro a b h1 h2
    have ea := List.dropLast_concat_getLast (l := a) (by intro z; rw [z] at h1; simp at h1)
    have eb := List.dropLast_concat_getLast (l := b) (by intro z; rw [z] at h2; simp at h2)
    have la : a.dropLast.length = n := by simp [h1]
    have lb : b.dropLast.length = n := by simp [h2]
    generalize a.getLast _ = x at ea
    generalize b.getLast _ = y at eb
    generalize a.dropLast = a' at *
    generalize b.dropLast = b' at *
    subst ea eb
    unfold dotZ
    rw [List.zipWith_append (by omega), sumN]
    have := ih a' b' la lb
    unfold dotZ at this
    simp only [List.sum_append, this, List.zipWith_cons_cons, List.zipWith_nil_right, List.sum_cons, List.sum_nil, Int.add_zero]
    congr 1
    · refine sumN_congr fun k hk => ?_
      rw [List.getD_eq_getElem?_getD, List.getD_eq_getElem?_getD, List.getD_eq_getElem?_getD, List.getD_eq_getElem?_getD, List.getElem?_append_left (by omega), List.getElem?_append_left (by omega)]
    · simp [List.getD_eq_getElem?_getD, ← la, List.getElem?_append_right]
      rw [show a'.length = b'.length by omega]
      simp
theorem ent_at {A : Mat} {i : Nat} {r : Row} (h : A[i]? = some r) (j : Nat) : ent A i j = r.getD j 0 := by
  have e : A.getD i [] = r := by
    rw [List.getD_eq_getElem?_getD, h]
    rfl
  unfold ent
  rw [e]
theorem shp_at {h w : Nat} {A : Mat} (s : Shp h w A) {i : Nat} (hi : i < h) : ∃ r, A[i]? = some r ∧ r.length = w := ⟨A[i]'(by rw [s.1]; exact hi), List.getElem?_eq_getElem _, s.2 _ (List.getElem_mem _)⟩
theorem mat_ext {h w : Nat} {A B : Mat} (sA : Shp h w A) (sB : Shp h w B) (e : ∀ i j, i < h → j < w → ent A i j = ent B i j) : A = B := by
  apply List.ext_getElem?
  intro i
  by_cases hi : i < h
  · obtain ⟨a, ha, la⟩ := shp_at sA hi
    obtain ⟨b, hb, lb⟩ := shp_at sB hi
    rw [ha, hb]
    congr 1
    apply List.ext_getElem?
    intro j
    by_cases hj : j < w
    · have := e i j hi hj
      rw [ent_at ha, ent_at hb, List.getD_eq_getElem?_getD, List.getD_eq_getElem?_getD, List.getElem?_eq_getElem (by omega), List.getElem?_eq_getElem (by omega)] at this
      rw [List.getElem?_eq_getElem (by omega), List.getElem?_eq_getElem (by omega)]
      exact congrArg some this
    · rw [List.getElem?_eq_none (by omega), List.getElem?_eq_none (by omega)]
  · rw [List.getElem?_eq_none (by rw [sA.1]; omega), List.getElem?_eq_none (by rw [sB.1]; omega)]
theorem prod_shp {M : Int} {h m n : Nat} {A B : Mat} (sA : Shp h m A) : Shp h n (prodM M n A B) := by
  refine ⟨by simp [prodM, sA.1], fun r hr => ?_⟩
  obtain ⟨a, _, rfl⟩ := List.mem_map.mp hr
  simp [applyM, colsOf]
theorem prod_red {M : Int} (hM : 1 ≤ M) {n : Nat} {A B : Mat} : MRed M (prodM M n A B) := fun r hr x hx => by
  obtain ⟨a, _, rfl⟩ := List.mem_map.mp hr
  obtain ⟨c, _, rfl⟩ := List.mem_map.mp hx
  exact mod_red hM _
theorem ent_prod {M : Int} {h m n : Nat} {A B : Mat} (sA : Shp h m A) (sB : Shp m n B) {i j : Nat} (hi : i < h) (hj : j < n) : ent (prodM M n A B) i j = (sumN m fun k => ent A i k * ent B k j) % M := by
  obtain ⟨a, ha, la⟩ := shp_at sA hi
  have e1 : (prodM M n A B)[i]? = some (applyM M (colsOf n B) a) := by simp [prodM, ha]
  rw [ent_at e1]
  have e2 : (applyM M (colsOf n B) a)[j]? = some (dotZ (B.map fun r => r.getD j 0) a % M) := by
    simp [applyM, colsOf, List.getElem?_range hj]
  rw [List.getD_eq_getElem?_getD, e2, Option.getD_some, dot_sum m _ _ (by simp [sB.1]) la]
  congr 1
  refine sumN_congr fun k hk => ?_
  obtain ⟨b, hb, lb⟩ := shp_at sB hk
  rw [ent_at ha, ent_at hb, Int.mul_comm]
  congr 1
  rw [List.getD_eq_getElem?_getD, List.getElem?_map, hb]
  rfl
theorem prod_F {M : Int} {n : Nat} {A B : Mat} (sA : Shp n n A) (sB : Shp n n B) : EqF M n (ent (prodM M n A B)) (mulF n (ent A) (ent B)) := fun i j hi hj => by
  rw [ent_prod sA sB hi hj]
  exact Eqm.mod _ _
theorem one_shp (n : Nat) : Shp n n (idM n) := ⟨by simp [idM], fun r hr => by
  obtain ⟨p, _, rfl⟩ := List.mem_map.mp hr
  simp [unitRow]⟩
theorem one_ent {n i j : Nat} (hi : i < n) (hj : j < n) : ent (idM n) i j = oneF i j := by
  have e : (idM n)[i]? = some (unitRow n i) := by simp [idM, List.getElem?_range hi]
  rw [ent_at e, List.getD_eq_getElem?_getD]
  simp only [unitRow, List.getElem?_map, List.getElem?_range hj, Option.map_some, Option.getD_some]
  show (if j = i then (1 : Int) else 0) = if i = j then 1 else 0
  by_cases e : i = j
  · rw [if_pos e, if_pos e.symm]
  · rw [if_neg e, if_neg (fun z => e z.symm)]
theorem one_red {M : Int} (hM : 2 ≤ M) (n : Nat) : MRed M (idM n) := fun r hr x hx => by
  obtain ⟨p, _, rfl⟩ := List.mem_map.mp hr
  obtain ⟨j, _, rfl⟩ := List.mem_map.mp hx
  split <;> omega
theorem mred_ent {M : Int} {h w : Nat} {A : Mat} (sA : Shp h w A) (r : MRed M A) {i j : Nat} (hi : i < h) (hj : j < w) : 0 ≤ ent A i j ∧ ent A i j < M := by
  obtain ⟨a, ha, la⟩ := shp_at sA hi
  rw [ent_at ha, List.getD_eq_getElem?_getD, List.getElem?_eq_getElem (by omega)]
  exact r a (List.mem_of_getElem? ha) _ (List.getElem_mem _)
theorem mat_eqm {M : Int} {n : Nat} {A B : Mat} (sA : Shp n n A) (sB : Shp n n B) (rA : MRed M A) (rB : MRed M B) (e : EqF M n (ent A) (ent B)) : A = B :=
  mat_ext sA sB fun i j hi hj => (e i j hi hj).red (mred_ent sA rA hi hj) (mred_ent sB rB hi hj)
theorem mpow_ok {M : Int} (hM : 2 ≤ M) {n : Nat} {A : Mat} (sA : Shp n n A) : ∀ e, Shp n n (mpow M n A e) ∧ MRed M (mpow M n A e) ∧ EqF M n (ent (mpow M n A e)) (powF n (ent A) e)
  | 0 => ⟨one_shp n, one_red hM n, fun i j hi hj => by
    show Eqm M (ent (idM n) i j) (oneF i j)
    rw [one_ent hi hj]
    exact .refl _ _⟩
  | e + 1 => by
    obtain ⟨a, b, c⟩ := mpow_ok hM sA e
    exact ⟨prod_shp a, prod_red (by omega), (prod_F a sA).trans (c.mul (.refl _ _ _))⟩
end Wk

/-! what undone finds: spans of rows modulo M -/
namespace Wk
abbrev Vec := Nat → Int
def fn (r : Row) : Vec := fun j => r.getD j 0
inductive InS (M : Int) (n : Nat) (G : Vec → Prop) : Vec → Prop
  | zero {v : Vec} : (∀ j, j < n → Eqm M (v j) 0) → InS M n G v
  | add {s v w : Vec} (c : Int) : G s → InS M n G v → (∀ j, j < n → Eqm M (w j) (v j + c * s j)) → InS M n G w
theorem InS.congr {M : Int} {n : Nat} {G : Vec → Prop} {v w : Vec} (h : InS M n G v) (e : ∀ j, j < n → Eqm M (w j) (v j)) : InS M n G w := by
  cases h with
  | zero h => exact .zero fun j hj => (e j hj).trans (h j hj)
  | add c g h f => exact .add c g h fun j hj => (e j hj).trans (f j hj)
theorem InS.of {M : Int} {n : Nat} {G : Vec → Prop} {s : Vec} (h : G s) : InS M n G s := .add (v := fun _ => 0) 1 h (.zero fun _ _ => .refl _ _) fun j _ => by
  rw [Int.zero_add, Int.one_mul]
  exact .refl _ _
theorem InS.scale {M : Int} {n : Nat} {G : Vec → Prop} {v u : Vec} (a : Int) (h : InS M n G v) (e : ∀ j, j < n → Eqm M (u j) (a * v j)) : InS M n G u := by
  induction h generalizing u with
  | zero h => exact .zero fun j hj => (e j hj).trans (((Eqm.refl M a).mul (h j hj)).trans (.eq (by simp)))
  | add c g h f ih =>
    rename_i s v w
    exact .add (a * c) g (ih (u := fun j => a * v j) fun j _ => .refl _ _) fun j hj => (e j hj).trans (((Eqm.refl M a).mul (f j hj)).trans (.eq (by grind)))
theorem InS.sum {M : Int} {n : Nat} {G : Vec → Prop} {v w u : Vec} (h : InS M n G v) (g : InS M n G w) (e : ∀ j, j < n → Eqm M (u j) (v j + w j)) : InS M n G u := by
  induction h generalizing u with
  | zero h => exact g.congr fun j hj => (e j hj).trans (((h j hj).add (.refl _ _)).trans (.eq (by simp)))
  | add c k h f ih =>
    rename_i s v' w'
    exact .add c k (ih (u := fun j => v' j + w j) fun j _ => .refl _ _) fun j hj => (e j hj).trans (((f j hj).add (.refl _ _)).trans (.eq (by grind)))
theorem InS.comb {M : Int} {n : Nat} {G : Vec → Prop} {v w u : Vec} (a b : Int) (h : InS M n G v) (g : InS M n G w) (e : ∀ j, j < n → Eqm M (u j) (a * v j + b * w j)) : InS M n G u :=
  (h.scale a (u := fun j => a * v j) fun _ _ => .refl _ _).sum (g.scale b (u := fun j => b * w j) fun _ _ => .refl _ _) e
theorem InS.trans {M : Int} {n : Nat} {G G' : Vec → Prop} (t : ∀ s, G s → InS M n G' s) {v : Vec} (h : InS M n G v) : InS M n G' v := by
  induction h with
  | zero h => exact .zero h
  | add c g h f ih => exact ih.comb 1 c (t _ g) fun j hj => (f j hj).trans (.eq (by simp))
theorem InS.mono {M : Int} {n : Nat} {G G' : Vec → Prop} (t : ∀ s, G s → G' s) {v : Vec} (h : InS M n G v) : InS M n G' v := h.trans fun s g => .of (t s g)
theorem InS.sumN {M : Int} {n : Nat} {G : Vec → Prop} {m : Nat} {v : Nat → Vec} (c : Nat → Int) (h : ∀ k, k < m → InS M n G (v k)) {u : Vec} (e : ∀ j, j < n → Eqm M (u j) (sumN m fun k => c k * v k j)) : InS M n G u := by
  induction m generalizing u with
  | zero => exact .zero e
  | succ m ih => exact (ih (fun k hk => h k (by omega)) (u := fun j => Wk.sumN m fun k => c k * v k j) fun _ _ => .refl _ _).comb 1 (c m) (h m (by omega)) fun j hj => (e j hj).trans (.eq (by rw [Wk.sumN]; simp))
/-- the steps from place p on; these and one row more -/
def GS (S : List (Option Row)) (p : Nat) (v : Vec) : Prop := ∃ q s, p ≤ q ∧ S[q]? = some (some s) ∧ v = fn s
def GR (S : List (Option Row)) (p : Nat) (r : Row) (v : Vec) : Prop := GS S p v ∨ v = fn r
theorem mul_fn {M f : Int} {r : Row} (j : Nat) : Eqm M (fn (mulRow M f r) j) (f * fn r j) := by
  unfold fn mulRow
  rw [List.getD_eq_getElem?_getD, List.getD_eq_getElem?_getD, List.getElem?_map]
  cases r[j]? with
  | none => exact .eq (by simp)
  | some x => exact Eqm.mod _ _
theorem comb_fn {M f g : Int} {r s : Row} (h : r.length = s.length) (j : Nat) : Eqm M (fn (Wk.comb M f r g s) j) (f * fn r j + g * fn s j) := by
  unfold fn Wk.comb
  rw [List.getD_eq_getElem?_getD, List.getD_eq_getElem?_getD, List.getD_eq_getElem?_getD, List.getElem?_zipWith]
  by_cases hj : j < r.length
  · rw [List.getElem?_eq_getElem hj, List.getElem?_eq_getElem (by omega)]
    exact Eqm.mod _ _
  · rw [List.getElem?_eq_none (by omega), List.getElem?_eq_none (by omega)]
    exact .eq (by simp)
theorem set_at {S : List (Option Row)} {i q : Nat} {s : Row} (hi : i < S.length) : (S.set i (some s))[q]? = if q = i then some (some s) else S[q]? := by
  by_cases e : q = i
  · subst e
    rw [if_pos rfl, List.getElem?_set_self hi]
  · rw [if_neg e, List.getElem?_set_ne (fun z => e z.symm)]
/-- what a step of a put does: rows of before lie in the span of after -/
theorem swap {M : Int} {W n i : Nat} {S S' : List (Option Row)} {r r' : Row} {N : Int} (wf : WF M W n S) (hi : i < n) (hr : r.length = W) (st : PutStep M i S r N S' r') :
    (∀ p, p ≤ i → ∀ v, GR S p r v → InS M n (GR S' p r') v) ∧ (∀ p, i < p → ∀ v, GS S p v → GS S' p v) ∧
    (∀ q, q ≠ i → S'[q]? = S[q]?) := by
  have hl : i < S.length := by rw [wf.len]; exact hi
  rcases st with ⟨e0, g, lf, f, hg, g1, hbz, rfl, rfl⟩ | ⟨s, P, e0, hP, st⟩
  · have oth : ∀ q, q ≠ i → (S.set i (some (mulRow M f r)))[q]? = S[q]? := fun q hq => by rw [set_at hl, if_neg hq]
    have hgM : g ∣ M := hg ▸ Int.gcd_dvd_left ..
    have hgN : g ∣ N := hg ▸ Int.gcd_dvd_right ..
    refine ⟨fun p hp v hv => ?_, fun p hp v ⟨q, s, h1, h2, h3⟩ => ⟨q, s, h1, by rw [oth q (by omega)]; exact h2, h3⟩, oth⟩
    rcases hv with ⟨q, s, h1, h2, h3⟩ | rfl
    · refine .of (.inl ⟨q, s, h1, ?_, h3⟩)
      rw [oth q (fun z => by rw [z, e0] at h2; cases h2)]
      exact h2
    · have a1 : InS M n (GR (S.set i (some (mulRow M f r))) p (mulRow M (M / g) r)) (fn (mulRow M f r)) := .of (.inl ⟨i, _, hp, by rw [set_at hl, if_pos rfl], rfl⟩)
      have a2 : InS M n (GR (S.set i (some (mulRow M f r))) p (mulRow M (M / g) r)) (fn (mulRow M (M / g) r)) := .of (.inr rfl)
      refine a1.comb (N / g) lf a2 fun j _ => ?_
      obtain ⟨a, rfl⟩ := hgM
      obtain ⟨b, rfl⟩ := hgN
      rw [Int.mul_ediv_cancel_left _ (by omega), Int.mul_ediv_cancel_left _ (by omega)]
      refine Eqm.trans (.eq ?_) (((Eqm.refl _ b).mul (mul_fn j).symm).add ((Eqm.refl _ lf).mul (mul_fn j).symm))
      have e : lf * a + f * b = 1 := by
        have : g * (lf * a + f * b) = g * 1 := by grind
        exact Int.eq_of_mul_eq_mul_left (by omega) this
      have : b * (f * fn r j) + lf * (a * fn r j) = (lf * a + f * b) * fn r j := by grind
      rw [this, e, Int.one_mul]
  · obtain ⟨sl, sr, ⟨P', hP', p1, pM⟩, sz⟩ := wf.row i s e0
    rw [hP] at hP'
    cases hP'
    rcases st with ⟨h0, rfl, rfl⟩ | ⟨g, lf, f, hg, g1, hbz, rfl, rfl⟩
    · refine ⟨fun p hp v hv => ?_, fun p hp v h => h, fun _ _ => rfl⟩
      rcases hv with h | rfl
      · exact .of (.inl h)
      · have a1 : InS M n (GR S' p (Wk.comb M 1 r (-(N / P)) s)) (fn s) := .of (.inl ⟨i, s, hp, e0, rfl⟩)
        have a2 : InS M n (GR S' p (Wk.comb M 1 r (-(N / P)) s)) (fn (Wk.comb M 1 r (-(N / P)) s)) := .of (.inr rfl)
        refine a1.comb (N / P) 1 a2 fun j _ => ?_
        refine Eqm.trans (.eq ?_) ((Eqm.refl _ _).add ((Eqm.refl _ 1).mul (comb_fn (by omega) j).symm))
        grind
    · have oth : ∀ q, q ≠ i → (S.set i (some (Wk.comb M f r lf s)))[q]? = S[q]? := fun q hq => by rw [set_at hl, if_neg hq]
      have hgP : g ∣ P := hg ▸ Int.gcd_dvd_left ..
      have hgN : g ∣ N := hg ▸ Int.gcd_dvd_right ..
      refine ⟨fun p hp v hv => ?_, fun p hp v ⟨q, s, h1, h2, h3⟩ => ⟨q, s, h1, by rw [oth q (by omega)]; exact h2, h3⟩, oth⟩
      have a1 : InS M n (GR (S.set i (some (Wk.comb M f r lf s))) p (Wk.comb M (P / g) r (-(N / g)) s)) (fn (Wk.comb M f r lf s)) := .of (.inl ⟨i, _, hp, by rw [set_at hl, if_pos rfl], rfl⟩)
      have a2 : InS M n (GR (S.set i (some (Wk.comb M f r lf s))) p (Wk.comb M (P / g) r (-(N / g)) s)) (fn (Wk.comb M (P / g) r (-(N / g)) s)) := .of (.inr rfl)
      obtain ⟨a, rfl⟩ := hgP
      obtain ⟨b, rfl⟩ := hgN
      rw [Int.mul_ediv_cancel_left _ (by omega), Int.mul_ediv_cancel_left _ (by omega)] at a1 a2 ⊢
      have e : lf * a + f * b = 1 := by
        have : g * (lf * a + f * b) = g * 1 := by grind
        exact Int.eq_of_mul_eq_mul_left (by omega) this
      rcases hv with ⟨q, t, h1, h2, h3⟩ | rfl
      · by_cases hq : q = i
        · subst hq
          rw [e0] at h2
          cases h2
          subst h3
          refine a1.comb a (-f) a2 fun j _ => ?_
          refine Eqm.trans (.eq ?_) (((Eqm.refl _ a).mul (comb_fn (by omega) j).symm).add ((Eqm.refl _ (-f)).mul (comb_fn (by omega) j).symm))
          have : a * (f * fn r j + lf * fn s j) + -f * (a * fn r j + -b * fn s j) = (lf * a + f * b) * fn s j := by grind
          rw [this, e, Int.one_mul]
        · exact .of (.inl ⟨q, t, h1, by rw [oth q hq]; exact h2, h3⟩)
      · refine a1.comb b lf a2 fun j _ => ?_
        refine Eqm.trans (.eq ?_) (((Eqm.refl _ b).mul (comb_fn (by omega) j).symm).add ((Eqm.refl _ lf).mul (comb_fn (by omega) j).symm))
        have : b * (f * fn r j + lf * fn s j) + lf * (a * fn r j + -b * fn s j) = (lf * a + f * b) * fn r j := by grind
        rw [this, e, Int.one_mul]
/-- each step times the rest of the modulus lies in the span of those behind it -/
def J3 (M : Int) (n i : Nat) (S : List (Option Row)) (r : Row) : Prop := ∀ q s x, S[q]? = some (some s) → s[q]? = some x → (q < i → InS M n (GR S (q + 1) r) fun j => M / x * fn s j) ∧ (i ≤ q → InS M n (GS S (q + 1)) fun j => M / x * fn s j)
theorem J3.step {M : Int} {W n i : Nat} {S S' : List (Option Row)} {r r' : Row} {N : Int} (hM : 2 ≤ M) (wf : WF M W n S) (hi : i < n) (hr : r.length = W) (rr : RRed M r) (hN : r[i]? = some N) (hN1 : 1 ≤ N) (st : PutStep M i S r N S' r') (J : J3 M n i S r) : J3 M n (i + 1) S' r' := by
  obtain ⟨sw, hi2, oth⟩ := swap wf hi hr st
  have hl : i < S.length := by rw [wf.len]; exact hi
  have hNM : N < M := (rr N (List.mem_of_getElem? hN)).2
  intro q t x hq hx
  refine ⟨fun h => ?_, fun h => ?_⟩
  · by_cases e : q = i
    · subst e
      rcases st with ⟨e0, g, lf, f, hg, g1, hbz, rfl, rfl⟩ | ⟨s, P, e0, hP, st⟩
      · rw [set_at hl, if_pos rfl] at hq
        cases hq
        have hgM : g ∣ M := hg ▸ Int.gcd_dvd_left ..
        have hgN := gcd_le_r (a := M) (b := N) hN1
        have ex : x = g := by
          rw [mulRow_at hN] at hx
          cases hx
          rw [show f * N = g - lf * M by omega, Int.sub_mul_emod_self_right, Int.emod_eq_of_lt (by omega) (by omega)]
        subst ex
        have a2 : InS M n (GR (S.set q (some (mulRow M f r))) (q + 1) (mulRow M (M / x) r)) (fn (mulRow M (M / x) r)) := .of (.inr rfl)
        refine a2.scale f fun j _ => ?_
        refine ((Eqm.refl _ _).mul (mul_fn j)).trans (Eqm.trans (.eq ?_) ((Eqm.refl _ f).mul (mul_fn j).symm))
        grind
      · obtain ⟨sl, sr, ⟨P', hP', p1, pM⟩, sz⟩ := wf.row q s e0
        rw [hP] at hP'
        cases hP'
        have hPM : P < M := (sr P (List.mem_of_getElem? hP)).2
        have jq := (J q s P e0 hP).2 (Nat.le_refl _)
        rcases st with ⟨h0, rfl, rfl⟩ | ⟨g, lf, f, hg, g1, hbz, rfl, rfl⟩
        · rw [e0] at hq
          cases hq
          rw [hP] at hx
          cases hx
          exact jq.mono fun v h => .inl h
        · rw [set_at hl, if_pos rfl] at hq
          cases hq
          have hgP := gcd_le_l (a := P) (b := N) p1
          have ex : x = g := by
            rw [comb_at hN hP] at hx
            cases hx
            rw [show f * N + lf * P = g by omega, Int.emod_eq_of_lt (by omega) (by omega)]
          subst ex
          have hgP' : x ∣ P := hg ▸ Int.gcd_dvd_left ..
          have hgN' : x ∣ N := hg ▸ Int.gcd_dvd_right ..
          have a1 : InS M n (GR (S.set q (some (Wk.comb M f r lf s))) (q + 1) (Wk.comb M (P / x) r (-(N / x)) s)) fun j => M / P * fn s j := jq.mono fun v h => .inl (hi2 _ (Nat.lt_succ_self _) v h)
          have a2 : InS M n (GR (S.set q (some (Wk.comb M f r lf s))) (q + 1) (Wk.comb M (P / x) r (-(N / x)) s)) (fn (Wk.comb M (P / x) r (-(N / x)) s)) := .of (.inr rfl)
          refine a1.comb 1 (M / P * f) a2 fun j _ => ?_
          refine ((Eqm.refl _ _).mul (comb_fn (by omega) j)).trans (Eqm.trans (.eq ?_) ((Eqm.refl _ _).add ((Eqm.refl _ (M / P * f)).mul (comb_fn (by omega) j).symm)))
          obtain ⟨a, rfl⟩ := hgP'
          obtain ⟨b, rfl⟩ := hgN'
          obtain ⟨m, rfl⟩ := pM
          rw [Int.mul_ediv_cancel_left _ (by omega), Int.mul_ediv_cancel_left _ (by omega), Int.mul_ediv_cancel_left _ (by omega), Int.mul_assoc x a m, Int.mul_ediv_cancel_left _ (by omega)]
          have e : lf * a + f * b = 1 := by
            have : x * (lf * a + f * b) = x * 1 := by grind
            exact Int.eq_of_mul_eq_mul_left (by omega) this
          have : 1 * (m * fn s j) + m * f * (a * fn r j + -b * fn s j) = m * a * (f * fn r j) + m * (1 - f * b) * fn s j := by grind
          rw [this, show 1 - f * b = lf * a by omega]
          grind
    · rw [oth q e] at hq
      exact ((J q t x hq hx).1 (by omega)).trans (sw (q + 1) (by omega))
  · rw [oth q (by omega)] at hq
    exact ((J q t x hq hx).2 (by omega)).mono (hi2 (q + 1) (by omega))
theorem J3.skip {M : Int} {n i : Nat} {S : List (Option Row)} {r : Row} (J : J3 M n i S r) : J3 M n (i + 1) S r := fun q s x h1 h2 => by
  refine ⟨fun h => ?_, fun h => (J q s x h1 h2).2 (by omega)⟩
  by_cases e : q < i
  · exact (J q s x h1 h2).1 e
  · exact ((J q s x h1 h2).2 (by omega)).mono fun v h => .inl h
theorem Ch.span {M : Int} {W n i : Nat} {S0 S : List (Option Row)} {r0 r : Row} (c : Ch M S0 r0 i S r) (hM : 2 ≤ M) (wf : WF M W n S0) (hr : r0.length = W) (rr : RRed M r0) (hi : i ≤ n) (J : J3 M n 0 S0 r0) :
    (∀ v, GR S0 0 r0 v → InS M n (GR S 0 r) v) ∧ J3 M n i S r := by
  induction c with
  | base => exact ⟨fun v h => .of h, J⟩
  | skip c h ih =>
    obtain ⟨a, b⟩ := ih (by omega)
    exact ⟨a, b.skip⟩
  | step c h h1 st ih =>
    obtain ⟨a, b⟩ := ih (by omega)
    obtain ⟨w1, w2, w3, w4⟩ := c.wf hM wf hr rr
    obtain ⟨sw, _, _⟩ := swap w1 (by omega) w2 st
    exact ⟨fun v hv => (a v hv).trans (sw 0 (Nat.zero_le _)), b.step hM w1 (by omega) w2 w3 h h1 st⟩
/-- behind a put -/
theorem Ch.done {M : Int} {W n : Nat} {S0 S : List (Option Row)} {r0 r : Row} (c : Ch M S0 r0 n S r) (hM : 2 ≤ M) (wf : WF M W n S0) (hr : r0.length = W) (rr : RRed M r0) (J : ∀ q s x, S0[q]? = some (some s) → s[q]? = some x → InS M n (GS S0 (q + 1)) fun j => M / x * fn s j) :
    (∀ v, GR S0 0 r0 v → InS M n (GS S 0) v) ∧ ∀ q s x, S[q]? = some (some s) → s[q]? = some x → InS M n (GS S (q + 1)) fun j => M / x * fn s j := by
  obtain ⟨a, b⟩ := c.span hM wf hr rr (Nat.le_refl _) fun q s x h1 h2 => ⟨fun h => absurd h (Nat.not_lt_zero _), fun _ => J q s x h1 h2⟩
  obtain ⟨w1, w2, w3, w4⟩ := c.wf hM wf hr rr
  have z : ∀ p v, GR S p r v → InS M n (GS S p) v := fun p v h => by
    rcases h with h | rfl
    · exact .of h
    · refine .zero fun j hj => ?_
      unfold fn
      rw [List.getD_eq_getElem?_getD, w4 j hj]
      exact .refl _ _
  refine ⟨fun v h => (a v h).trans (z 0), fun q s x h1 h2 => ?_⟩
  by_cases h : q < n
  · exact ((b q s x h1 h2).1 h).trans (z (q + 1))
  · exact (b q s x h1 h2).2 (by omega)
end Wk

/-! what undone tells -/
namespace Wk
theorem Puts.span {M : Int} (hM : 2 ≤ M) {n k : Nat} {A : Mat} {S : List (Option Row)} (hA : ∀ r ∈ A, r.length = n) (p : Puts M n A k S) :
    (∀ i a, i < k → A[i]? = some a → InS M n (GS S 0) (fn a)) ∧ ∀ q s x, S[q]? = some (some s) → s[q]? = some x → InS M n (GS S (q + 1)) fun j => M / x * fn s j := by
  induction p with
  | zero => exact ⟨fun i a h => absurd h (Nat.not_lt_zero _), fun q s x h => by
      rw [List.getElem?_replicate] at h
      split at h <;> cases h⟩
  | succ p h c ih =>
    rename_i k S S' a r'
    obtain ⟨i1, i2⟩ := ih
    obtain ⟨o1, o2⟩ := rowOf_ok hM (k := k) (hA _ (List.mem_of_getElem? h))
    obtain ⟨d1, d2⟩ := c.done hM (p.wf hM hA) o1 o2 i2
    refine ⟨fun i b hi hb => ?_, d2⟩
    rcases Nat.lt_succ_iff_lt_or_eq.mp hi with z | z
    · exact (i1 i b z hb).trans fun v hv => d1 v (.inl hv)
    · subst z
      rw [h] at hb
      cases hb
      refine (d1 _ (.inr rfl)).congr fun j hj => ?_
      have hal := hA _ (List.mem_of_getElem? h)
      unfold fn rowOf
      rw [List.getD_eq_getElem?_getD, List.getD_eq_getElem?_getD, List.getElem?_append_left (by simp; omega), List.getElem?_map, List.getElem?_eq_getElem (by omega)]
      exact (Eqm.mod _ _).symm
/-- rows of the span that vanish ahead of p lie in the span of the steps from p on -/
theorem InS.split {M : Int} {n p : Nat} {S : List (Option Row)} {v : Vec} (h : InS M n (GS S p) v) : (∃ s c w, S[p]? = some (some s) ∧ InS M n (GS S (p + 1)) w ∧ ∀ j, j < n → Eqm M (v j) (w j + c * fn s j)) ∨ InS M n (GS S (p + 1)) v := by
  induction h with
  | zero h => exact .inr (.zero h)
  | add c g h f ih =>
    rename_i s v w
    obtain ⟨q, t, h1, h2, rfl⟩ := g
    by_cases e : q = p
    · subst e
      rcases ih with ⟨s, d, u, g1, g2, g3⟩ | g2
      · rw [h2] at g1
        cases g1
        exact .inl ⟨t, d + c, u, h2, g2, fun j hj => (f j hj).trans (((g3 j hj).add (.refl _ _)).trans (.eq (by grind)))⟩
      · exact .inl ⟨t, c, v, h2, g2, f⟩
    · have gt : GS S (p + 1) (fn t) := ⟨q, t, by omega, h2, rfl⟩
      rcases ih with ⟨s, d, u, g1, g2, g3⟩ | g2
      · exact .inl ⟨s, d, fun j => u j + c * fn t j, g1, .add c gt g2 fun _ _ => .refl _ _, fun j hj => (f j hj).trans (((g3 j hj).add (.refl _ _)).trans (.eq (by grind)))⟩
      · exact .inr (.add c gt g2 f)
theorem InS.vanish {M : Int} {W n p : Nat} {S : List (Option Row)} (wf : WF M W n S) (hp : p < n) {v : Vec} (h : InS M n (GS S (p + 1)) v) : Eqm M (v p) 0 := by
  induction h with
  | zero h => exact h p hp
  | add c g h f ih =>
    obtain ⟨q, t, h1, h2, rfl⟩ := g
    have hz := (wf.row q t h2).2.2.2 p (by omega)
    have e : fn t p = 0 := by
      unfold fn
      rw [List.getD_eq_getElem?_getD, hz]
      rfl
    refine (f p hp).trans ?_
    rw [e]
    exact (ih.add (.refl _ _)).trans (.eq (by simp))
theorem InS.down {M : Int} {W n p : Nat} {S : List (Option Row)} (wf : WF M W n S) (J : ∀ q s x, S[q]? = some (some s) → s[q]? = some x → InS M n (GS S (q + 1)) fun j => M / x * fn s j) (hp : p < n) {v : Vec} (h : InS M n (GS S p) v) (h0 : Eqm M (v p) 0) : InS M n (GS S (p + 1)) v := by
  rcases h.split with ⟨s, c, w, g1, g2, g3⟩ | g
  · obtain ⟨_, _, ⟨x, hx, x1, xM⟩, _⟩ := wf.row p s g1
    have e1 : fn s p = x := by
      unfold fn
      rw [List.getD_eq_getElem?_getD, hx]
      rfl
    have e2 := ((g3 p hp).symm.trans h0)
    rw [e1] at e2
    have e3 : Eqm M (c * x) 0 := (((g2.vanish wf hp).symm.add (.refl M (c * x))).trans e2 |> fun z => (Eqm.eq (by simp)).trans z)
    obtain ⟨k, e4⟩ := e3
    obtain ⟨m, rfl⟩ := xM
    have e5 : c = m * k := by
      have : x * c = x * (m * k) := by grind
      exact Int.eq_of_mul_eq_mul_left (by omega) this
    have j := J p s x g1 hx
    rw [Int.mul_ediv_cancel_left _ (by omega)] at j
    refine g2.comb 1 k j fun q hq => (g3 q hq).trans (.eq ?_)
    rw [e5]
    grind
  · exact g
theorem und_bad {M : Int} (hM : 2 ≤ M) {n : Nat} {A : Mat} {S : List (Option Row)} (sA : Shp n n A) (p : Puts M n A n S) (bad : ∃ i, i < n ∧ (S[i]? = some none ∨ ∃ s x, S[i]? = some (some s) ∧ s[i]? = some x ∧ x ≠ 1)) (B : Fm) (hB : EqF M n (mulF n B (ent A)) oneF) : False := by
  obtain ⟨i, hi, bad⟩ := bad
  have wf := p.wf hM sA.2
  obtain ⟨s1, J⟩ := p.span hM sA.2
  have e0 : InS M n (GS S 0) (fun j => oneF i j) := by
    refine InS.sumN (m := n) (v := fun k j => ent A k j) (B i) (fun k hk => ?_) fun j hj => (hB i j hi hj).symm
    obtain ⟨a, ha, la⟩ := shp_at sA hk
    exact (s1 k a hk ha).congr fun j _ => .eq (ent_at ha j)
  have ep : ∀ q, q ≤ i → InS M n (GS S q) (fun j => oneF i j) := by
    intro q
    induction q with
    | zero => exact fun _ => e0
    | succ q ih =>
      intro hq
      refine (ih (by omega)).down wf J (by omega) (.eq ?_)
      show (if i = q then (1 : Int) else 0) = 0
      rw [if_neg (by omega)]
  have ei := ep i (Nat.le_refl _)
  have one : oneF i i = 1 := by
    show (if i = i then (1 : Int) else 0) = 1
    rw [if_pos rfl]
  rcases ei.split with ⟨s, c, w, g1, g2, g3⟩ | g
  · obtain ⟨_, _, ⟨x, hx, x1, xM⟩, _⟩ := wf.row i s g1
    have e1 : fn s i = x := by
      unfold fn
      rw [List.getD_eq_getElem?_getD, hx]
      rfl
    have e2 : Eqm M (oneF i i) (w i + c * fn s i) := g3 i hi
    rw [one, e1] at e2
    obtain ⟨k, e3⟩ := (e2.trans ((g2.vanish wf hi).add (.refl M (c * x))))
    have hx1 : x ∣ 1 := by
      obtain ⟨m, rfl⟩ := xM
      exact ⟨c + m * k, by grind⟩
    have hx2 : x = 1 := by
      have := Int.le_of_dvd (by decide) hx1
      omega
    rcases bad with h | ⟨t, y, h1, h2, h3⟩
    · rw [h] at g1
      cases g1
    · rw [h1] at g1
      cases g1
      rw [h2] at hx
      cases hx
      exact h3 hx2
  · have e2 : Eqm M (oneF i i) 0 := g.vanish wf hi
    rw [one] at e2
    obtain ⟨k, e3⟩ := e2
    have : M ∣ 1 := ⟨k, by omega⟩
    have := Int.le_of_dvd (by decide) this
    omega
/-! the rows behind are what the rows ahead are made of -/
def Rel (M : Int) (n : Nat) (A : Mat) (r : Row) : Prop := r.length = 2 * n ∧ ∀ j, j < n → Eqm M (fn r j) (sumN n fun k => fn r (n + k) * ent A k j)
theorem rel_mul {M f : Int} {n : Nat} {A : Mat} {r : Row} (h : Rel M n A r) : Rel M n A (mulRow M f r) := by
  refine ⟨by simp [mulRow, h.1], fun j hj => ?_⟩
  refine (mul_fn j).trans (((Eqm.refl M f).mul (h.2 j hj)).trans ?_)
  rw [← sumN_mul]
  refine Eqm.sum fun k _ => Eqm.trans (.eq (by grind)) ((mul_fn (n + k)).symm.mul (.refl _ _))
theorem rel_comb {M f g : Int} {n : Nat} {A : Mat} {r s : Row} (h : Rel M n A r) (h2 : Rel M n A s) : Rel M n A (comb M f r g s) := by
  have hl : r.length = s.length := by rw [h.1, h2.1]
  refine ⟨by simp [comb, h.1, h2.1], fun j hj => ?_⟩
  refine (comb_fn hl j).trans ((((Eqm.refl M f).mul (h.2 j hj)).add ((Eqm.refl M g).mul (h2.2 j hj))).trans ?_)
  rw [← sumN_mul, ← sumN_mul, ← sumN_add]
  refine Eqm.sum fun k _ => Eqm.trans (.eq (by grind)) ((comb_fn hl (n + k)).symm.mul (.refl _ _))
theorem rel_row {M : Int} {n k : Nat} {A : Mat} (sA : Shp n n A) {a : Row} (hk : k < n) (h : A[k]? = some a) : Rel M n A (rowOf M n a k) := by
  have la := sA.2 a (List.mem_of_getElem? h)
  refine ⟨by simp [rowOf, unitRow, la]; omega, fun j hj => ?_⟩
  have e1 : Eqm M (fn (rowOf M n a k) j) (ent A k j) := by
    rw [ent_at h]
    unfold fn rowOf
    rw [List.getD_eq_getElem?_getD, List.getD_eq_getElem?_getD, List.getElem?_append_left (by simp; omega), List.getElem?_map, List.getElem?_eq_getElem (by omega)]
    exact Eqm.mod _ _
  refine e1.trans (.eq ?_)
  rw [sumN_congr (g := fun q => if q = k then ent A k j else 0) fun q hq => ?_, sumN_one hk]
  have e2 : fn (rowOf M n a k) (n + q) = if q = k then 1 else 0 := by
    unfold fn rowOf
    rw [List.getD_eq_getElem?_getD, List.getElem?_append_right (by simp; omega)]
    simp [unitRow, la, List.getElem?_range hq]
  rw [e2]
  by_cases e : q = k
  · subst e
    simp
  · rw [if_neg e, if_neg e]
    simp
def AllRel (M : Int) (n : Nat) (A : Mat) (S : List (Option Row)) : Prop := ∀ (q : Nat) (s : Row), S[q]? = some (some s) → Rel M n A s
theorem AllRel.set {M : Int} {n : Nat} {A : Mat} {S : List (Option Row)} (h : AllRel M n A S) {s : Row} (hs : Rel M n A s) (i : Nat) : AllRel M n A (S.set i (some s)) := fun q t e => by
  by_cases z : i = q
  · subst z
    by_cases hl : i < S.length
    · rw [List.getElem?_set_self hl] at e
      cases e
      exact hs
    · rw [List.getElem?_eq_none (by rw [List.length_set]; omega)] at e
      cases e
  · rw [List.getElem?_set_ne z] at e
    exact h q t e
theorem Ch.rel {M : Int} {n i : Nat} {A : Mat} {S0 S : List (Option Row)} {r0 r : Row} (c : Ch M S0 r0 i S r) (h0 : AllRel M n A S0) (hr : Rel M n A r0) : AllRel M n A S ∧ Rel M n A r := by
  induction c with
  | base => exact ⟨h0, hr⟩
  | skip c h ih => exact ih
  | step c h h1 st ih =>
    obtain ⟨a, b⟩ := ih
    rcases st with ⟨e0, g, lf, f, hg, g1, hbz, rfl, rfl⟩ | ⟨s, P, e0, hP, st⟩
    · exact ⟨a.set (rel_mul b) _, rel_mul b⟩
    · have hs := a _ _ e0
      rcases st with ⟨_, rfl, rfl⟩ | ⟨g, lf, f, hg, g1, hbz, rfl, rfl⟩
      · exact ⟨a, rel_comb b hs⟩
      · exact ⟨a.set (rel_comb b hs) _, rel_comb b hs⟩
theorem Puts.rel {M : Int} {n k : Nat} {A : Mat} {S : List (Option Row)} (sA : Shp n n A) (p : Puts M n A k S) : AllRel M n A S := by
  induction p with
  | zero =>
    intro q s e
    rw [List.getElem?_replicate] at e
    split at e <;> cases e
  | succ p h c ih =>
    have hk := (List.getElem?_eq_some_iff.mp h).1
    exact (c.rel ih (rel_row sA (by rw [← sA.1]; exact hk) h)).1
theorem lessen_rel {M : Int} {n : Nat} {A : Mat} : ∀ {L : List (Nat × Row)} {r : Row}, (∀ q s, (q, s) ∈ L → Rel M n A s) → Rel M n A r → Rel M n A (lessen M r L)
  | [], r, _, h => h
  | (q, s) :: L, r, hL, h => by
    unfold lessen
    refine lessen_rel (fun q s m => hL q s (List.mem_cons_of_mem _ m)) ?_
    split
    · exact rel_comb h (hL q s List.mem_cons_self)
    · exact h
/-- behind lessen each place of a row behind is less than its pivot -/
theorem lessen_lt {M : Int} {W : Nat} (hM : 1 ≤ M) : ∀ {L : List (Nat × Row)} {r : Row}, LOk M W L → L.Pairwise (fun a b => b.2[a.1]? = some 0) → r.length = W → RRed M r → ∀ q s, (q, s) ∈ L → fn (lessen M r L) q < fn s q
  | [], _, _, _, _, _, q, s, h => by cases h
  | (p, t) :: L, r, hL, hp, h1, h2, q, s, h => by
    obtain ⟨a, b, c, e⟩ := hL p t List.mem_cons_self
    have hL2 : LOk M W L := fun q s h => hL q s (List.mem_cons_of_mem _ h)
    rw [List.pairwise_cons] at hp
    have hg : ∀ {r : Row}, r.length = W → RRed M r → 0 ≤ r.getD p 0 ∧ r.getD p 0 < M ∧ r[p]? = some (r.getD p 0) := fun {r} hl hr => by
      have e1 : r[p]? = some (r.getD p 0) := by rw [List.getD_eq_getElem?_getD, List.getElem?_eq_getElem (by omega)]; rfl
      exact ⟨(hr _ (List.mem_of_getElem? e1)).1, (hr _ (List.mem_of_getElem? e1)).2, e1⟩
    obtain ⟨t0, t1, t2⟩ := hg a b
    obtain ⟨r0, r1, r2⟩ := hg h1 h2
    unfold lessen
    have key : ∃ u : Row, (if r.getD p 0 ≥ t.getD p 0 then comb M 1 r (-(r.getD p 0 / t.getD p 0)) t else r) = u ∧ u.length = W ∧ RRed M u ∧ u.getD p 0 < t.getD p 0 := by
      split
      · obtain ⟨z1, z2⟩ := less_step (f := -(r.getD p 0 / t.getD p 0)) hM h1 a
        refine ⟨_, rfl, z1, z2, ?_⟩
        have e3 := comb_at (M := M) (f := 1) (g := -(r.getD p 0 / t.getD p 0)) r2 t2
        rw [List.getD_eq_getElem?_getD (l := comb M 1 r _ t), e3, Option.getD_some]
        generalize r.getD p 0 = x at *
        generalize t.getD p 0 = y at *
        have m1 := Int.emod_add_mul_ediv x y
        have m2 := Int.emod_lt_of_pos x (show 0 < y by omega)
        have m3 := Int.emod_nonneg x (show y ≠ 0 by omega)
        rw [show 1 * x + -(x / y) * y = x % y by grind, Int.emod_eq_of_lt m3 (by omega)]
        exact m2
      · rename_i hlt
        exact ⟨r, rfl, h1, h2, by omega⟩
    obtain ⟨u, hu, u1, u2, u3⟩ := key
    rw [hu]
    rcases List.mem_cons.mp h with h | h
    · cases h
      obtain ⟨_, _, y3⟩ := lessen_ok hM hL2 u1 u2
      obtain ⟨_, _, v2⟩ := hg u1 u2
      have := y3 p _ v2 fun q s hm => hp.1 (q, s) hm
      unfold fn
      rw [List.getD_eq_getElem?_getD (l := lessen M u L), this]
      exact u3
    · exact lessen_lt hM hL2 hp.2 u1 u2 q s h
theorem settle_full {M : Int} {n : Nat} {S : List (Option Row)} (full : ∀ i, i < n → ∃ s, S[i]? = some (some s)) : ∀ i, i ≤ n → (settle M n S i).map (·.1) = (List.range i).map (n - i + ·)
  | 0, _ => rfl
  | i + 1, hi => by
    obtain ⟨s, hs⟩ := full (n - 1 - i) (by omega)
    have e : S.getD (n - 1 - i) none = some s := by rw [List.getD_eq_getElem?_getD, hs]; rfl
    have ih := settle_full (M := M) full i (by omega)
    have e2 : settle M n S (i + 1) = (n - 1 - i, lessen M s (settle M n S i)) :: settle M n S i := by
      show (match S.getD (n - 1 - i) none with | none => _ | some r => _) = _
      rw [e]
    rw [e2, List.map_cons, ih, List.range_succ_eq_map, List.map_cons, List.map_map]
    congr 1
    · show n - 1 - i = n - (i + 1) + 0
      omega
    · refine List.map_congr_left fun k _ => ?_
      show n - i + k = n - (i + 1) + (k + 1)
      omega
theorem settle_pw {M : Int} {W n : Nat} {S : List (Option Row)} (hM : 2 ≤ M) (wf : WF M W n S) (hn : n ≤ W) : ∀ i, i ≤ n → (settle M n S i).Pairwise (fun a b => b.2[a.1]? = some 0)
  | 0, _ => .nil
  | i + 1, hi => by
    have ih := settle_pw hM wf hn i (by omega)
    unfold settle
    split
    · exact ih
    · rw [List.pairwise_cons]
      refine ⟨fun qs h => ?_, ih⟩
      obtain ⟨b1, _, _, _, b5, _⟩ := settle_ok hM wf hn i (by omega) qs.1 qs.2 h
      exact b5 _ (by show n - 1 - i < qs.1; omega)
theorem settle_rel {M : Int} {n : Nat} {A : Mat} {S : List (Option Row)} (h : AllRel M n A S) : ∀ i q s, (q, s) ∈ settle M n S i → Rel M n A s
  | 0, q, s, m => by simp [settle] at m
  | i + 1, q, s, m => by
    unfold settle at m
    split at m
    · exact settle_rel h i q s m
    · rename_i r e
      rcases List.mem_cons.mp m with m | m
      · cases m
        refine lessen_rel (settle_rel h i) (h (n - 1 - i) r ?_)
        rw [List.getD_eq_getElem?_getD] at e
        cases z : S[n - 1 - i]? with
        | none => rw [z] at e; cases e
        | some o => rw [z] at e; exact congrArg some e
      · exact settle_rel h i q s m
/-- pivots of 1: a settled row is less than 1 at the places of the rows behind -/
theorem settle_one {M : Int} {W n : Nat} {S : List (Option Row)} (hM : 2 ≤ M) (wf : WF M W n S) (hn : n ≤ W) (good : ∀ i, i < n → ∃ s, S[i]? = some (some s) ∧ s[i]? = some 1) : ∀ i, i ≤ n → ∀ q s, (q, s) ∈ settle M n S i → ∀ p, q < p → p < n → fn s p = 0
  | 0, _, q, s, m => by simp [settle] at m
  | i + 1, hi, q, s, m => by
    have ih := settle_one hM wf hn good i (by omega)
    have full : ∀ i, i < n → ∃ s, S[i]? = some (some s) := fun i h => by
      obtain ⟨s, h1, _⟩ := good i h
      exact ⟨s, h1⟩
    have hf := settle_full (M := M) full i (by omega)
    have hL := settle_lok hM wf hn (show i ≤ n by omega)
    have hpw := settle_pw hM wf hn i (by omega)
    have hso := settle_ok hM wf hn i (by omega)
    unfold settle at m
    split at m
    · exact ih q s m
    · rename_i r e
      rcases List.mem_cons.mp m with m | m
      · cases m
        intro p h1 h2
        have e2 : S[n - 1 - i]? = some (some r) := by
          rw [List.getD_eq_getElem?_getD] at e
          cases z : S[n - 1 - i]? with
          | none => rw [z] at e; cases e
          | some o => rw [z] at e; exact congrArg some e
        obtain ⟨a1, a2, _, _⟩ := wf.row _ _ e2
        have hp : p ∈ (settle M n S i).map (·.1) := by
          rw [hf]
          exact List.mem_map.mpr ⟨p - (n - i), List.mem_range.mpr (by omega), by omega⟩
        obtain ⟨⟨p', t⟩, hm, rfl⟩ := List.mem_map.mp hp
        have lt := lessen_lt (show 1 ≤ M by omega) hL hpw a1 a2 _ t hm
        obtain ⟨_, _, _, _, _, r0, x, c1, c2, c3, _⟩ := hso _ t hm
        obtain ⟨s1, d1, d2⟩ := good _ h2
        rw [d1] at c1
        cases c1
        rw [d2] at c2
        cases c2
        have et : fn t p' = 1 := by
          unfold fn
          rw [List.getD_eq_getElem?_getD, c3]
          rfl
        obtain ⟨y1, y2, _⟩ := lessen_ok (show 1 ≤ M by omega) hL a1 a2
        have ge : 0 ≤ fn (lessen M r (settle M n S i)) p' := by
          unfold fn
          rw [List.getD_eq_getElem?_getD, List.getElem?_eq_getElem (by show p' < _; omega)]
          exact (y2 _ (List.getElem_mem _)).1
        have lt' : fn (lessen M r (settle M n S i)) p' < fn t p' := lt
        show fn (lessen M r (settle M n S i)) p' = 0
        omega
      · exact ih q s m
theorem und_good {M : Int} (hM : 2 ≤ M) {n : Nat} {A : Mat} {S : List (Option Row)} (sA : Shp n n A) (p : Puts M n A n S) (good : ∀ i, i < n → ∃ s, S[i]? = some (some s) ∧ s[i]? = some 1) :
    Shp n n ((settle M n S n).map fun qs => qs.2.drop n) ∧ MRed M ((settle M n S n).map fun qs => qs.2.drop n) ∧ EqF M n (mulF n (ent ((settle M n S n).map fun qs => qs.2.drop n)) (ent A)) oneF := by
  have wf := p.wf hM sA.2
  have rel := settle_rel (p.rel sA) n
  have hso := settle_ok hM wf (by omega) n (Nat.le_refl _)
  have h0 := settle_one hM wf (by omega) good n (Nat.le_refl _)
  have full : ∀ i, i < n → ∃ s, S[i]? = some (some s) := fun i h => by
    obtain ⟨s, h1, _⟩ := good i h
    exact ⟨s, h1⟩
  have hf := settle_full (M := M) full n (Nat.le_refl _)
  have hlen : (settle M n S n).length = n := by
    have := congrArg List.length hf
    simpa using this
  refine ⟨⟨by rw [List.length_map, hlen], fun r hr => ?_⟩, fun r hr x hx => ?_, fun i j hi hj => ?_⟩
  · obtain ⟨⟨q, s⟩, hm, rfl⟩ := List.mem_map.mp hr
    obtain ⟨_, _, sl, _⟩ := hso q s hm
    simp [sl]
    omega
  · obtain ⟨⟨q, s⟩, hm, rfl⟩ := List.mem_map.mp hr
    obtain ⟨_, _, _, sr, _⟩ := hso q s hm
    exact sr x (List.mem_of_mem_drop hx)
  · have hi2 : i < (settle M n S n).length := by omega
    have e1 : ((settle M n S n).map (·.1))[i]? = some i := by
      rw [hf, List.getElem?_map, List.getElem?_range hi]
      simp
    rw [List.getElem?_map, List.getElem?_eq_getElem hi2] at e1
    have e2 : ((settle M n S n)[i]).1 = i := by simpa using e1
    have hm := List.getElem_mem hi2
    have hA : ((settle M n S n).map fun qs => qs.2.drop n)[i]? = some (((settle M n S n)[i]).2.drop n) := by
      rw [List.getElem?_map, List.getElem?_eq_getElem hi2]
      rfl
    generalize hqs : (settle M n S n)[i] = qs at *
    obtain ⟨q, s⟩ := qs
    have e2 : q = i := e2
    subst e2
    obtain ⟨_, _, sl, _, sz, r0, x, c1, c2, c3, _⟩ := hso q s hm
    obtain ⟨s1, d1, d2⟩ := good q hi
    rw [d1] at c1
    cases c1
    rw [d2] at c2
    cases c2
    have e3 : fn s j = oneF q j := by
      show _ = if q = j then 1 else 0
      rcases Nat.lt_trichotomy j q with h | h | h
      · rw [if_neg (by omega)]
        unfold fn
        rw [List.getD_eq_getElem?_getD, sz j h]
        rfl
      · subst h
        rw [if_pos rfl]
        unfold fn
        rw [List.getD_eq_getElem?_getD, c3]
        rfl
      · rw [if_neg (by omega)]
        exact h0 q s hm j h hj
    have r1 := (rel q s hm).2 j hj
    rw [e3] at r1
    refine (Eqm.trans (.eq ?_) r1.symm)
    show sumN n (fun k => _) = _
    refine sumN_congr fun k hk => ?_
    rw [ent_at hA]
    congr 1
    unfold fn
    rw [List.getD_eq_getElem?_getD, List.getD_eq_getElem?_getD, List.getElem?_drop]
end Wk

/-! matrices that can be undone, by steps; flat ones -/
namespace Wk
def Inv2 (M : Int) (n : Nat) (A : Fm) : Prop := ∃ C : Fm, EqF M n (mulF n C A) oneF ∧ EqF M n (mulF n A C) oneF
theorem Inv2.congr {M : Int} {n : Nat} {A B : Fm} (h : Inv2 M n A) (e : EqF M n B A) : Inv2 M n B := by
  obtain ⟨C, a, b⟩ := h
  exact ⟨C, ((EqF.refl _ _ _).mul e).trans a, (e.mul (.refl _ _ _)).trans b⟩
theorem Inv2.one (M : Int) (n : Nat) : Inv2 M n oneF := ⟨oneF, one_mulF n _, one_mulF n _⟩
theorem Inv2.mul {M : Int} {n : Nat} {E E' A : Fm} (h : Inv2 M n A) (h1 : EqF M n (mulF n E E') oneF) (h2 : EqF M n (mulF n E' E) oneF) : Inv2 M n (mulF n E A) := by
  obtain ⟨C, a, b⟩ := h
  refine ⟨mulF n C E', ?_, ?_⟩
  · rw [mulF_assoc, ← mulF_assoc n E' E A]
    exact ((EqF.refl _ _ _).mul ((h2.mul (.refl _ _ _)).trans (one_mulF n A))).trans a
  · rw [mulF_assoc, ← mulF_assoc n A C E']
    exact ((EqF.refl _ _ _).mul ((b.mul (.refl _ _ _)).trans (one_mulF n E'))).trans h1
/-- one row plus t times another -/
def addE (x y : Nat) (t : Int) : Fm := fun i j => oneF i j + if i = x then (if j = y then t else 0) else 0
theorem addE_mul {n x y : Nat} {t : Int} (hy : y < n) (A : Fm) (i j : Nat) (hi : i < n) : mulF n (addE x y t) A i j = A i j + if i = x then t * A y j else 0 := by
  show sumN n (fun k => addE x y t i k * A k j) = _
  have e : ∀ k, addE x y t i k * A k j = (if k = i then A i j else 0) + (if k = y then (if i = x then t * A y j else 0) else 0) := fun k => by
    show ((if i = k then (1 : Int) else 0) + if i = x then (if k = y then t else 0) else 0) * A k j = _
    by_cases h1 : k = i
    · subst h1
      rw [if_pos rfl, if_pos rfl]
      by_cases h2 : k = x
      · rw [if_pos h2, if_pos h2]
        by_cases h3 : k = y
        · rw [if_pos h3, if_pos h3, ← h3]; grind
        · rw [if_neg h3, if_neg h3]; grind
      · rw [if_neg h2, if_neg h2]
        split <;> grind
    · rw [if_neg (fun z => h1 z.symm), if_neg h1]
      by_cases h2 : i = x
      · rw [if_pos h2, if_pos h2]
        by_cases h3 : k = y
        · rw [if_pos h3, if_pos h3, ← h3]; grind
        · rw [if_neg h3, if_neg h3]; grind
      · rw [if_neg h2, if_neg h2]
        split <;> grind
  rw [sumN_congr fun k _ => e k, sumN_add, sumN_one hi, sumN_one hy]
theorem addE_inv {M : Int} {n x y : Nat} {t : Int} (hy : y < n) (h : x ≠ y) : EqF M n (mulF n (addE x y t) (addE x y (-t))) oneF := fun i j hi hj => by
  rw [addE_mul hy _ i j hi]
  refine .eq ?_
  show (oneF i j + if i = x then (if j = y then -t else 0) else 0) + (if i = x then t * (oneF y j + if y = x then (if j = y then -t else 0) else 0) else 0) = oneF i j
  rw [if_neg (fun z : y = x => h z.symm)]
  by_cases h1 : i = x
  · rw [if_pos h1, if_pos h1]
    show oneF i j + (if j = y then -t else 0) + t * ((if y = j then (1 : Int) else 0) + 0) = _
    by_cases h2 : j = y
    · rw [if_pos h2, if_pos h2.symm]; grind
    · rw [if_neg h2, if_neg (fun z => h2 z.symm)]; grind
  · rw [if_neg h1, if_neg h1]; grind
/-- one row times u -/
def mulE (x : Nat) (u : Int) : Fm := fun i j => if i = j then (if i = x then u else 1) else 0
theorem mulE_mul {n x : Nat} {u : Int} (A : Fm) (i j : Nat) (hi : i < n) : mulF n (mulE x u) A i j = (if i = x then u else 1) * A i j := by
  show sumN n (fun k => mulE x u i k * A k j) = _
  have e : ∀ k, mulE x u i k * A k j = if k = i then (if i = x then u else 1) * A i j else 0 := fun k => by
    show (if i = k then (if i = x then u else 1) else 0) * A k j = _
    by_cases h1 : k = i
    · subst h1; rw [if_pos rfl, if_pos rfl]
    · rw [if_neg (fun z => h1 z.symm), if_neg h1]; simp
  rw [sumN_congr fun k _ => e k, sumN_one hi]
theorem mulE_inv {M : Int} {n x : Nat} {u v : Int} (h : Eqm M (u * v) 1) : EqF M n (mulF n (mulE x u) (mulE x v)) oneF := fun i j hi hj => by
  rw [mulE_mul _ i j hi]
  show Eqm M ((if i = x then u else 1) * if i = j then (if i = x then v else 1) else 0) (if i = j then 1 else 0)
  by_cases h1 : i = j
  · rw [if_pos h1, if_pos h1]
    by_cases h2 : i = x
    · rw [if_pos h2, if_pos h2]; exact h
    · rw [if_neg h2, if_neg h2]; exact .eq (by simp)
  · rw [if_neg h1, if_neg h1]; exact .eq (by simp)
theorem bez_ex : ∀ (b a : Nat), ∃ x y : Int, x * a + y * b = (Nat.gcd a b : Int) := by
  intro b
  induction b using Nat.strongRecOn with
  | ind b ih =>
    intro a
    by_cases h : b = 0
    · subst h
      exact ⟨1, 0, by simp⟩
    · obtain ⟨x, y, e⟩ := ih (a % b) (Nat.mod_lt _ (by omega)) b
      refine ⟨y, x - y * (a / b : Nat), ?_⟩
      have e2 : Nat.gcd b (a % b) = Nat.gcd a b := by
        rw [Nat.gcd_comm a b, Nat.gcd_rec b a, Nat.gcd_comm]
      rw [e2] at e
      rw [← e]
      have e3 : (a : Int) = b * (a / b : Nat) + (a % b : Nat) := by
        have := Nat.div_add_mod a b
        omega
      generalize ((a / b : Nat) : Int) = q at *
      generalize ((a % b : Nat) : Int) = r at *
      rw [e3]
      grind
theorem unit_inv {M u : Int} (hM : 1 ≤ M) (hu : 0 ≤ u) (h : Int.gcd u M = 1) : ∃ v, Eqm M (u * v) 1 := by
  obtain ⟨x, y, e⟩ := bez_ex M.toNat u.toNat
  have h1 : Nat.gcd u.toNat M.toNat = 1 := by
    rw [← h]
    show _ = Nat.gcd u.natAbs M.natAbs
    congr 1 <;> omega
  rw [h1] at e
  have h2 : ((u.toNat : Nat) : Int) = u := by omega
  have h3 : ((M.toNat : Nat) : Int) = M := by omega
  rw [h2, h3] at e
  exact ⟨x, -y, by grind⟩
/-- a matrix whose row x is made of all rows, itself d times or more: it cannot be undone -/
theorem flat_none {M d : Int} (hM : 2 ≤ M) {n x : Nat} {A A' : Fm} {o : Nat → Int} (hx : x < n) (I : Inv2 M n A) (hd : 2 ≤ d) (hdM : d ∣ M) (ho : d ∣ o x)
    (e : ∀ i j, i < n → j < n → Eqm M (A' i j) (if i = x then sumN n (fun k => o k * A k j) else A i j)) : ¬ ∃ B : Fm, EqF M n (mulF n B A') oneF := by
  rintro ⟨B, hB⟩
  obtain ⟨C, h1, h2⟩ := I
  have eF : EqF M n A' (mulF n (fun i j => if i = x then o j else oneF i j) A) := fun i j hi hj => by
    refine (e i j hi hj).trans (.eq ?_)
    show _ = sumN n (fun k => (if i = x then o k else oneF i k) * A k j)
    by_cases h : i = x
    · rw [if_pos h]
      exact sumN_congr fun k _ => by rw [if_pos h]
    · rw [if_neg h, sumN_congr (g := fun k => if k = i then A i j else 0) fun k _ => ?_, sumN_one hi]
      rw [if_neg h]
      show (if i = k then (1 : Int) else 0) * A k j = _
      by_cases z : k = i
      · subst z; rw [if_pos rfl, if_pos rfl]; simp
      · rw [if_neg (fun y => z y.symm), if_neg z]; simp
  have hBF : EqF M n (mulF n B (fun i j => if i = x then o j else oneF i j)) C := by
    have a1 : EqF M n (mulF n (mulF n B (fun i j => if i = x then o j else oneF i j)) A) oneF := by
      rw [mulF_assoc]
      exact ((EqF.refl _ _ _).mul eF.symm).trans hB
    refine (mulF_one n _).symm.trans (((EqF.refl _ _ _).mul h2.symm).trans ?_)
    rw [← mulF_assoc]
    exact (a1.mul (.refl _ _ _)).trans (one_mulF n C)
  obtain ⟨m, hm⟩ := hdM
  obtain ⟨q, hq⟩ := ho
  have col : ∀ i, i < n → Eqm d (C i x) 0 := fun i hi => by
    have a1 := (hBF i x hi hx).symm
    have a2 : mulF n B (fun i j => if i = x then o j else oneF i j) i x = B i x * o x := by
      show sumN n (fun k => B i k * if k = x then o x else oneF k x) = _
      rw [sumN_congr (g := fun k => if k = x then B i x * o x else 0) fun k _ => ?_, sumN_one hx]
      by_cases z : k = x
      · rw [if_pos z, if_pos z, z]
      · rw [if_neg z, if_neg z]
        show B i k * (if k = x then (1 : Int) else 0) = 0
        rw [if_neg z]; simp
    rw [a2] at a1
    obtain ⟨k, e1⟩ := a1
    exact ⟨B i x * q + m * k, by rw [e1, hq, hm]; grind⟩
  have one := h2 x x hx hx
  have a3 : Eqm d (mulF n A C x x) 0 := by
    have : Eqm d (sumN n fun k => A x k * C k x) (sumN n fun _ => 0) := Eqm.sum fun k hk => ((Eqm.refl d (A x k)).mul (col k hk)).trans (.eq (by simp))
    rw [sumN_zero] at this
    exact this
  have e1 : oneF x x = 1 := by
    show (if x = x then (1 : Int) else 0) = 1
    rw [if_pos rfl]
  rw [e1] at one
  obtain ⟨k, e2⟩ := one
  obtain ⟨l, e3⟩ := a3
  have : d ∣ 1 := ⟨l - m * k, by rw [hm] at e2; grind⟩
  have := Int.le_of_dvd (by decide) this
  omega
theorem zero_none {M : Int} (hM : 2 ≤ M) {n : Nat} (hn : 1 ≤ n) {A : Fm} (e : ∀ i j, i < n → j < n → A i j = 0) : ¬ ∃ B : Fm, EqF M n (mulF n B A) oneF := by
  rintro ⟨B, hB⟩
  have h := hB 0 0 (by omega) (by omega)
  have a : mulF n B A 0 0 = 0 := by
    show sumN n (fun k => B 0 k * A k 0) = 0
    rw [sumN_congr (g := fun _ => 0) fun k hk => by rw [e k 0 hk (by omega)]; simp, sumN_zero]
  rw [a] at h
  obtain ⟨k, h⟩ := h
  have h : 0 = 1 + M * k := h
  have : M ∣ 1 := ⟨-k, by grind⟩
  have := Int.le_of_dvd (by decide) this
  omega
/-- what is left of an inverse is right of it, too, and the only one -/
theorem inv_right {M : Int} {n : Nat} {A B : Fm} (I : Inv2 M n A) (h : EqF M n (mulF n B A) oneF) : EqF M n (mulF n A B) oneF := by
  obtain ⟨C, h1, h2⟩ := I
  have e : EqF M n B C := by
    refine (mulF_one n B).symm.trans (((EqF.refl _ _ _).mul h2.symm).trans ?_)
    rw [← mulF_assoc]
    exact (h.mul (.refl _ _ _)).trans (one_mulF n C)
  exact ((EqF.refl _ _ _).mul e).trans h2
theorem inv_unique {M : Int} {n : Nat} {A B D : Fm} (I : Inv2 M n A) (h : EqF M n (mulF n B A) oneF) (g : EqF M n (mulF n D A) oneF) : EqF M n B D := by
  obtain ⟨C, h1, h2⟩ := I
  have e : ∀ {X : Fm}, EqF M n (mulF n X A) oneF → EqF M n X C := fun {X} hX => by
    refine (mulF_one n X).symm.trans (((EqF.refl _ _ _).mul h2.symm).trans ?_)
    rw [← mulF_assoc]
    exact (hX.mul (.refl _ _ _)).trans (one_mulF n C)
  exact (e h).trans (e g).symm
end Wk

namespace Wk
open PySem L2
abbrev s_product : Stmt := top 7
theorem sc_product : FnScope ["modulus", "one", "other", "columns", "row"] ["modulus", "one", "other"] (defScope s_product) := ⟨rfl, rfl, rfl, by decide +kernel, rfl, by decide +kernel, by decide +kernel⟩
abbrev s_applied : Stmt := top 8
theorem sc_applied : FnScope ["modulus", "matrix", "row", "line", "a", "b"] ["modulus", "matrix", "row"] (defScope s_applied) := ⟨rfl, rfl, rfl, by decide +kernel, rfl, by decide +kernel, by decide +kernel⟩
abbrev s_transposed : Stmt := top 9
theorem sc_transposed : FnScope ["matrix"] ["matrix"] (defScope s_transposed) := ⟨rfl, rfl, rfl, by decide +kernel, rfl, by decide +kernel, by decide +kernel⟩
abbrev s_unit : Stmt := top 10
theorem sc_unit : FnScope ["size", "place"] ["size", "place"] (defScope s_unit) := ⟨rfl, rfl, rfl, by decide +kernel, rfl, by decide +kernel, by decide +kernel⟩
abbrev s_identity : Stmt := top 11
theorem sc_identity : FnScope ["size", "place"] ["size"] (defScope s_identity) := ⟨rfl, rfl, rfl, by decide +kernel, rfl, by decide +kernel, by decide +kernel⟩
abbrev s_power : Stmt := top 12
theorem sc_power : FnScope ["modulus", "matrix", "many", "result", "square"] ["modulus", "matrix", "many"] (defScope s_power) := ⟨rfl, rfl, rfl, by decide +kernel, rfl, by decide +kernel, by decide +kernel⟩

structure TxtM (mg : Str → Option Value) : Prop where
  f_tuple : mg "tuple" = none
  f_zip : mg "zip" = none
  f_sum : mg "sum" = none
  f_range : mg "range" = none
  f_len : mg "len" = none
theorem yesT {σ : L2.St} {H : Hp} {A : Hp → Prop} {B : Hp → Prop} (h : A H) : tYes σ H fun b H3 => if b = true then A H3 else B H3 := by
  show if true = true then A H else B H
  rw [if_pos rfl]
  exact h
/-- a new tuple of ints -/
def NewRow (H : Hp) (r : List Int) (Q : VK) : Prop := ∀ p H', Same H H' → H' p = some (.tup (r.map V.int)) → Q (.ref p) H'
def spApplied (K : PySem.W.Frag) : Sp := fun vs H Q _ => ∃ (M : Int) (a b : Addr) (A : Mat) (r : List Int), vs = [.int M, .ref a, .ref b] ∧ 1 ≤ M ∧ MatAt K H a A ∧ RowAt K H b r ∧ MWd A ∧ RWd r ∧ A.length ≤ 1000 ∧ r.length ≤ 1000 ∧ (∀ l ∈ A, l.length = r.length) ∧ NewRow H (applyM M A r) Q
theorem rows_at {K : PySem.W.Frag} {H : Hp} {vs : List V} {A : Mat} (h : RowsAre K H vs A) {i : Nat} {x : V} (e : vs[i]? = some x) : ∃ (p : Addr) (l : List Int), x = .ref p ∧ A[i]? = some l ∧ RowAt K H p l := h.at_ e
theorem SqK.same {t : Bool} {K : PySem.W.Frag} {H H' : Hp} {a : Addr} {xs : List V} (h : ZM.SqK t K H a xs) (e : Same H H') : ZM.SqK t K H' a xs := by
  cases t
  · rcases h with (h | ⟨o, h⟩) | h
    · exact .inl (.inl (e _ _ h))
    · exact .inl (.inr ⟨o, e _ _ h⟩)
    · exact .inr h
  · exact SqT.same h e
theorem same_upd {H : Hp} {a : Addr} {o : HO} (h : H a = none) : Same H (upd H a o) := fun b u e => by
  rw [upd_ne (ne_of_none e h)]
  exact e
theorem at_ints {xs : List Int} {i : Nat} {v : V} (h : (xs.map V.int)[i]? = some v) : ∃ x, xs[i]? = some x ∧ v = .int x := by
  rw [List.getElem?_map] at h
  cases e : xs[i]? with
  | none => rw [e] at h; cases h
  | some x => rw [e] at h; cases h; exact ⟨x, rfl, rfl⟩
theorem wd_mul {x y : Int} (hx : Wd x) (hy : Wd y) : CMulW x y := wide_mul (a := 200) (b := 200) hx hy (by decide) (by decide) (by decide)
/-- a list whose items are told one by one -/
theorem acc_map {α : Type} {acc : List V} {as : List α} {f : α → V} (hl : acc.length = as.length) (h : ∀ (j : Nat) (v : V), acc[j]? = some v → ∃ a : α, as[j]? = some a ∧ v = f a) : acc = as.map f := by
  apply List.ext_getElem?
  intro j
  rw [List.getElem?_map]
  cases e : acc[j]? with
  | none =>
    rw [List.getElem?_eq_none_iff] at e
    rw [List.getElem?_eq_none (by omega)]
    rfl
  | some v =>
    obtain ⟨a, h1, h2⟩ := h j v e
    rw [h1, h2]
    rfl
theorem dot_read {K : PySem.W.Frag} {t u : Bool} {a b : Addr} {xs ys : List Int} {p q i j : Nat} {σ : L2.St} {H : Hp} {Q : VK} (hp : σ[p]? = some (some (.ref a))) (hq : σ[q]? = some (some (.ref b))) (sa : ZM.SqK t K H a (xs.map V.int)) (sb : ZM.SqK u K H b (ys.map V.int))
    (hl : xs.length = ys.length) (hn : xs.length ≤ 1000) (wx : RWd xs) (wy : RWd ys) (hw : ∀ x y, wipe (((wipe σ [i, j]).set i (some x)).set j (some y)) [i, j] = wipe σ [i, j]) (h1 : ∀ x y, (((wipe σ [i, j]).set i (some x)).set j (some y))[i]? = some (some x)) (h2 : ∀ x y, (((wipe σ [i, j]).set i (some x)).set j (some y))[j]? = some (some y))
    (k : ∀ H', Same H H' → Q (.int (dotZ xs ys)) H') :
    tCB (rSum K) (tCons (tLc (ZM.iZip2 t u K (tCons (tVar p) (tCons (tVar q) tNil))) (gTup K 2 (gCons (gName i) (gCons (gName j) gNil))) tYes (tOp (rI CMulW fun i j => V.int (i * j)) (tVar i) (tVar j)) [i, j]) tNil) σ H Q := by
  refine ⟨_, hp, _, hq, a, b, _, _, rfl, sa, sb, fun D hD => lc_rel (ZM.walk_two (n := xs.length) (by simp [hl])) hD (by omega) (fun m v _ => ∃ z, (List.zipWith (· * ·) xs ys)[m]? = some z ∧ v = .int z) (fun m v H H' h _ => h) (fun H1 e => ⟨SqK.same sa e, SqK.same sb e⟩) ?_ ?_⟩
  · rintro m v H1 H1' Fn Nn fin hm sm hacc ⟨T, x, y, rfl, hT, rfl, hx, hy⟩
    obtain ⟨x, gx, rfl⟩ := at_ints hx
    obtain ⟨y, gy, rfl⟩ := at_ints hy
    refine ⟨T, _, rfl, SqT.of upd_same, rfl, _, _, rfl, _, _, rfl, rfl, hw _ _, yesT ⟨_, h1 _ _, _, h2 _ _, x, y, rfl, rfl, wd_mul (wx _ (List.mem_of_getElem? gx)) (wy _ (List.mem_of_getElem? gy)), fin _ _ (same_upd hT) ⟨x * y, ?_, rfl⟩⟩⟩
    rw [List.getElem?_zipWith, gx, gy]
  · intro acc H1 e1 e2 sm hR
    have e : acc = (List.zipWith (· * ·) xs ys).map V.int := acc_map (by simp [e1, hl]) hR
    subst e
    exact ⟨D, _, rfl, SqL.of e2, k _ sm⟩
section
variable {P : Program} {w : World} {K : PySem.W.Frag} {mg : Str → Option Value} {base : Heap}
theorem ok_applied {f : Addr} {fd : FuncData} (F : Fun K "applied" "applied" s_applied f fd) (T : TxtM mg) : FnOk P w K mg base CX0 1 f fd ["modulus", "matrix", "row"] (spApplied K) := by
  refine F.ok sc_applied (fun vs H Q E h => ?_) (fun cdv A outer s H vs Q E hr h => ?_)
  · obtain ⟨M, a, b, A, r, rfl, _⟩ := h
    rfl
  · obtain ⟨M, a, b, Am, r, rfl, hM, ⟨vs, hA, hR⟩, hr2, wA, wr, lA, lr, lw, k⟩ := h
    refine ⟨_, (pss_one (ps_ret (pe_callTy (call_tupleK (K := K) rfl) rfl T.f_tuple (by decide +kernel) (pa_cons (pe_lc (own := [("line", 3)]) (g := gName 3) rfl sc_applied.nd (pi_tup (pv 1)) (blkOk_by (N := ["modulus", "matrix", "row", "line", "a", "b"]) (sc := defScope s_applied) (by decide +kernel)) (fun _ _ _ _ _ => (pg_name (i := 3) sc_applied.nd rfl (Or.inl rfl))) (fun _ _ _ _ _ => pts_nil) (fun _ _ _ _ _ => (pe_op op_modN (pe_callB (cr_sumK (K := K) rfl rfl) rfl T.f_sum (by decide +kernel) (pa_cons (pe_lc (own := [("a", 4), ("b", 5)]) (g := gTup K 2 (gCons (gName 4) (gCons (gName 5) gNil))) rfl sc_applied.nd (pi_zip2K (K := K) rfl true true rfl T.f_zip (pa_cons (pv 3) (pa_cons (pv 2) pa_nil))) (blkOk_by (N := ["modulus", "matrix", "row", "line", "a", "b"]) (sc := relS _ (defScope s_applied)) (by decide +kernel)) (fun _ _ _ _ _ => (pg_tupK rfl rfl (pgs_cons (pg_name (i := 4) sc_applied.nd rfl (Or.inl rfl)) (pgs_cons (pg_name (i := 5) sc_applied.nd rfl (Or.inl rfl)) pgs_nil)))) (fun _ _ _ _ _ => pts_nil) (fun _ _ _ _ _ => (pe_op op_mulW (pv 4) (pv 5)))) pa_nil)) (pv 0)))) pa_nil)))), ?_⟩
    have hlen := hR.length
    refine ⟨_, rfl, _, rfl, ⟨vs, hA⟩, fun D hD => lc_rel (walk_tup (xs := vs)) hD (by omega) (fun i v _ => ∃ l, Am[i]? = some l ∧ v = .int (dotZ l r % M)) (fun i v H H' h _ => h) (fun H1 e => SqT.same hA e) ?_ ?_⟩
    · intro i x H1 H1' Fn Nn fin hi sm hacc hy
      obtain ⟨rfl, hx⟩ := hy
      obtain ⟨p, l, rfl, hl, hp⟩ := rows_at hR hx
      refine ⟨rfl, yesT ?_⟩
      have hll : l.length = r.length := lw _ (List.mem_of_getElem? hl)
      refine dot_read rfl rfl (t := true) (u := true) (SqT.same hp sm) (SqT.same hr2 sm) hll (by omega) (wA _ (List.mem_of_getElem? hl)) wr (fun _ _ => rfl) (fun _ _ => rfl) (fun _ _ => rfl) fun H2 s2 => ?_
      refine ⟨_, rfl, _, _, rfl, rfl, by omega, ?_⟩
      dsimp only
      rw [Int.fmod_eq_emod_of_nonneg _ (by omega)]
      exact fin _ _ s2 ⟨l, hl, rfl⟩
    · intro acc H1 e1 e2 sm hR2
      have e : acc = Am.map fun l => V.int (dotZ l r % M) := acc_map (by rw [e1, hlen]) hR2
      refine ⟨D, acc, rfl, .inl ⟨SqL.of e2, fun p hp => ?_⟩⟩
      have hpH : H p = none := by
        cases z : H p with
        | none => rfl
        | some o => rw [sm _ _ z] at hp; cases hp
      refine k p _ (fun b o z => ?_) ?_
      · rw [upd_ne (ne_of_none z hpH)]
        exact sm _ _ z
      · rw [upd_same, e]
        simp [applyM, Function.comp_def]
end
end Wk

namespace Wk
open PySem L2
def NewMat (K : PySem.W.Frag) (H : Hp) (A : Mat) (Q : VK) : Prop := ∀ p H', Same H H' → MatAt K H' p A → Q (.ref p) H'
theorem none_back {H H' : Hp} {p : Addr} (e : Same H H') (h : H' p = none) : H p = none := by
  cases z : H p with
  | none => rfl
  | some o => rw [e _ _ z] at h; cases h
theorem same_trans {H H' H2 : Hp} (a : Same H H') (b : Same H' H2) : Same H H2 := fun c o e => b _ _ (a _ _ e)
theorem rows_refs {K : PySem.W.Frag} {H : Hp} : ∀ {vs : List V} {A : Mat}, RowsAre K H vs A → ∃ ls : List Addr, vs = ls.map V.ref ∧ ls.length = A.length ∧ ∀ (k : Nat) (l : Addr) (r : List Int), ls[k]? = some l → A[k]? = some r → RowAt K H l r
  | _, _, .nil => ⟨[], rfl, rfl, fun k l r e => by simp at e⟩
  | _, _, .cons (a := a) h t => by
    obtain ⟨ls, e, hl, hh⟩ := rows_refs t
    refine ⟨a :: ls, by rw [e]; rfl, by simp [hl], fun k l r e1 e2 => ?_⟩
    cases k with
    | zero => cases e1; cases e2; exact h
    | succ k => exact hh k l r (by simpa using e1) (by simpa using e2)
theorem rows_of {K : PySem.W.Frag} {H : Hp} : ∀ {vs : List V} {A : Mat}, vs.length = A.length → (∀ (k : Nat) (v : V) (r : List Int), vs[k]? = some v → A[k]? = some r → ∃ l, v = .ref l ∧ RowAt K H l r) → RowsAre K H vs A
  | [], [], _, _ => .nil
  | [], _ :: _, h, _ => by simp at h
  | _ :: _, [], h, _ => by simp at h
  | v :: vs, r :: A, h, hh => by
    obtain ⟨l, rfl, hl⟩ := hh 0 v r rfl rfl
    exact .cons hl (rows_of (by simpa using h) fun k v' r' e1 e2 => hh (k + 1) v' r' (by simpa using e1) (by simpa using e2))
def spTrn (K : PySem.W.Frag) : Sp := fun vs H Q _ => ∃ (a : Addr) (B : Mat) (n : Nat), vs = [.ref a] ∧ MatAt K H a B ∧ 1 ≤ B.length ∧ B.length ≤ 8 ∧ 1 ≤ n ∧ n ≤ 1000 ∧ (∀ r ∈ B, r.length = n) ∧ NewMat K H (colsOf n B) Q
def spUnit : Sp := fun vs H Q _ => ∃ s p : Nat, vs = [.int (s : Int), .int (p : Int)] ∧ p < s ∧ s ≤ 1000 ∧ NewRow H (unitRow s p) Q
def spIdm (K : PySem.W.Frag) : Sp := fun vs H Q _ => ∃ s : Nat, vs = [.int (s : Int)] ∧ s ≤ 1000 ∧ NewMat K H (idM s) Q
def spProd (K : PySem.W.Frag) : Sp := fun vs H Q _ => ∃ (M : Int) (a b : Addr) (A B : Mat) (n : Nat), vs = [.int M, .ref a, .ref b] ∧ 1 ≤ M ∧ MatAt K H a A ∧ MatAt K H b B ∧ MWd A ∧ MWd B ∧ 1 ≤ B.length ∧ B.length ≤ 8 ∧ 1 ≤ n ∧ n ≤ 1000 ∧ A.length ≤ 1000 ∧ (∀ r ∈ B, r.length = n) ∧ (∀ r ∈ A, r.length = B.length) ∧
  NewMat K H (prodM M n A B) Q
theorem cols_len {n : Nat} {B : Mat} {c : List Int} (h : c ∈ colsOf n B) : c.length = B.length := by
  obtain ⟨j, _, rfl⟩ := List.mem_map.mp h
  simp
theorem cols_wd {n : Nat} {B : Mat} (h : MWd B) : MWd (colsOf n B) := by
  intro c hc x hx
  obtain ⟨j, _, rfl⟩ := List.mem_map.mp hc
  obtain ⟨r, hr, rfl⟩ := List.mem_map.mp hx
  rw [List.getD_eq_getElem?_getD]
  cases e : r[j]? with
  | none => exact (by decide : (0 : Int).natAbs < 2 ^ 200)
  | some y => exact h r hr y (List.mem_of_getElem? e)
/-- tuple * int of a tuple that stands in H -/
theorem rep_read {K : PySem.W.Frag} {H : Hp} {Q : VK} {l : Addr} {x : V} {k : Int} (hl : H l = some (.tup [x])) (h0 : -1000 ≤ k) (h1 : k ≤ 1000) (tail : ∀ q G, Same H G → G q = some (.tup (List.replicate k.toNat x)) → Q (.ref q) G) : rRepA K (.ref l) (.int k) H Q := by
  have e : ∀ n : Nat, (List.replicate n [x]).flatten = List.replicate n x := fun n => by
    induction n with
    | zero => rfl
    | succ n ih => rw [List.replicate_succ, List.flatten_cons, ih]; rfl
  refine ⟨l, k, [x], rfl, rfl, SqT.of hl, by simp, by omega, h1, (by show 1 ≤ 1000; decide), fun z => ?_, fun _ p hp => ?_⟩
  · subst z
    exact tail l H (fun _ _ e => e) hl
  · exact tail p _ (same_upd hp) (by rw [upd_same, e])
theorem cat_read {K : PySem.W.Frag} {H : Hp} {Q : VK} {a b : Addr} {xs ys : List V} (ha : H a = some (.tup xs)) (hb : H b = some (.tup ys)) (hn : xs.length + ys.length ≤ 1000000) (tail : ∀ q G, Same H G → G q = some (.tup (xs ++ ys)) → Q (.ref q) G) : rCatA K (.ref a) (.ref b) H Q := by
  refine ⟨a, b, xs, ys, rfl, rfl, SqT.of ha, SqT.of hb, Nat.le_trans hn (by decide), fun z => ?_, fun _ z => ?_, fun _ _ p hp => ?_⟩
  · subst z
    exact tail b H (fun _ _ e => e) hb
  · subst z
    exact tail a H (fun _ _ e => e) (by rw [ha]; simp)
  · exact tail p _ (same_upd hp) upd_same
theorem unit_eq (s p : Nat) (h : p < s) : (List.replicate p (V.int 0) ++ [V.int 1]) ++ List.replicate (s - p - 1) (V.int 0) = (unitRow s p).map V.int := by
  apply List.ext_getElem
  · simp [unitRow]
    omega
  · intro i h1 h2
    simp only [List.length_append, List.length_replicate, List.length_cons, List.length_nil] at h1
    simp only [unitRow, List.getElem_map, List.getElem_range]
    rcases Nat.lt_trichotomy i p with hi | hi | hi
    · rw [if_neg (by omega), List.getElem_append_left (by simp; omega), List.getElem_append_left (by simpa using hi)]
      simp
    · subst hi
      rw [if_pos rfl, List.getElem_append_left (by simp), List.getElem_append_right (by simp)]
      simp
    · rw [if_neg (by omega), List.getElem_append_right (by simp; omega)]
      simp
/-- tuple(rows), rows a list of new tuples -/
theorem tup_read {K : PySem.W.Frag} {H H' : Hp} {D : Addr} {acc : List V} {A : Mat} {Q : VK} (hD : H' D = some (.lst acc)) (hR : RowsAre K H' acc A) (sm : Same H H') (k : NewMat K H A Q) : rTupOf K [.ref D] H' Q := by
  refine ⟨D, acc, rfl, .inl ⟨SqL.of hD, fun p hp => ?_⟩⟩
  exact k p _ (same_trans sm (same_upd (none_back sm hp |> fun _ => hp))) ⟨acc, SqT.of upd_same, hR.same (same_upd hp)⟩
/-- a comprehension whose items are new rows -/
theorem lc_rows {K : PySem.W.Frag} {J : It} {n : Nat} {G : Hp → Prop} {Y : Nat → Hp → V → Hp → Prop} (w : Walk J n G Y) {g : TG} {tt : TT} {te : TE} {vs : List Nat} {σ : L2.St} {H1 : Hp} {D : Addr} {Qd : Hp → Prop} (hD : H1 D = none) (hn : n ≤ 1000000)
    (A : Mat) (hA : A.length = n) (hG : ∀ H, Same H1 H → G H)
    (hs : ∀ (i : Nat) (r : List Int) (x : V) (H H' : Hp) (Fn : V → Hp → Prop) (Nn : Hp → Prop), i < n → A[i]? = some r → (∀ p H4, Same H H4 → H4 p = some (.tup (r.map V.int)) → Fn (.ref p) H4) → Same H1 H → Y i H x H' → g x (wipe σ vs) H' fun σ2 H2 => wipe σ2 vs = wipe σ vs ∧ tt σ2 H2 fun b H3 => if b = true then te σ2 H3 Fn else Nn H3)
    (hd : ∀ (acc : List V) H, H D = some (.lst acc) → Same H1 H → RowsAre K H acc A → Qd H) :
    ∃ W : Nat → Nat → Hp → Prop, (∃ m, W 0 m (upd H1 D (.lst []))) ∧ ∀ i m H, W i m H →
      (J.stop i H ∧ Qd H) ∨ (J.go i H ∧ ∃ Nx : Hp → Prop, (∀ H', Nx H' → ∃ m', m' < m ∧ W (i + 1) m' H') ∧ ∀ x H', J.yld i H x H' → g x (wipe σ vs) H' fun σ2 H2 => wipe σ2 vs = wipe σ vs ∧ tt σ2 H2 fun b H3 =>
        if b = true then te σ2 H3 fun y H4 => ∃ acc, H4 D = some (.lst acc) ∧ acc.length < sizeLine ∧ Nx (upd H4 D (.lst (acc ++ [y]))) else Nx H3) := by
  refine lc_rel w hD hn (fun i v H => ∃ (p : Addr) (r : List Int), v = .ref p ∧ p ≠ D ∧ A[i]? = some r ∧ H p = some (.tup (r.map V.int))) (fun i v H H' ⟨p, r, h1, h2, h3, h4⟩ e => ⟨p, r, h1, h2, h3, e _ _ h2 h4⟩) hG ?_ ?_
  · intro i x H H' Fn Nn fin hi sm ⟨acc, hacc⟩ hy
    have hr : A[i]? = some (A[i]'(by omega)) := List.getElem?_eq_getElem (by omega)
    refine hs i _ x H H' Fn Nn hi hr (fun p H4 s4 h4 => fin _ _ s4 ⟨p, _, rfl, fun z => ?_, hr, h4⟩) sm hy
    rw [z, s4 _ _ hacc] at h4
    cases h4
  · intro acc H e1 e2 sm hR
    refine hd acc H e2 sm (rows_of (by rw [e1, hA]) fun k v r h1 h2 => ?_)
    obtain ⟨p, r2, rfl, _, h3, h4⟩ := hR k v h1
    rw [h2] at h3
    cases h3
    exact ⟨p, rfl, SqT.of h4⟩
section
variable {P : Program} {w : World} {K : PySem.W.Frag} {mg : Str → Option Value} {base : Heap}
theorem ok_transposed {f : Addr} {fd : FuncData} (F : Fun K "transposed" "transposed" s_transposed f fd) (T : TxtM mg) : FnOk P w K mg base CX0 1 f fd ["matrix"] (spTrn K) := by
  refine F.ok sc_transposed (fun vs H Q E h => ?_) (fun cdv A outer s H vs Q E hr h => ?_)
  · obtain ⟨a, B, n, rfl, _⟩ := h
    rfl
  · obtain ⟨a, B, n, rfl, ⟨vs, hB, hR⟩, h1, h8, n1, n2, hw, k⟩ := h
    refine ⟨_, (pss_one (ps_ret (pe_trn rfl rfl T.f_tuple rfl T.f_zip (pv 0)))), ?_⟩
    obtain ⟨ls, rfl, hl, hh⟩ := rows_refs hR
    refine ⟨_, rfl, a, ls, B.map (fun r => r.map V.int), n, rfl, .inl hB, by simp [hl], by omega, by omega, n1, n2, fun i l r e1 e2 => ?_, fun as p H2 sm has hp hc => ?_⟩
    · rw [List.getElem?_map] at e2
      cases e : B[i]? with
      | none => rw [e] at e2; cases e2
      | some r0 =>
        rw [e] at e2
        cases e2
        exact ⟨hh i l r0 e1 e, by rw [List.length_map]; exact hw _ (List.mem_of_getElem? e)⟩
    · refine k p H2 sm ⟨as.map V.ref, SqT.of hp, rows_of (by simp [colsOf, has]) fun i v r e1 e2 => ?_⟩
      rw [List.getElem?_map] at e1
      cases ea : as[i]? with
      | none => rw [ea] at e1; cases e1
      | some b =>
        rw [ea] at e1
        cases e1
        have hi : i < n := by
          rw [← has]
          exact (List.getElem?_eq_some_iff.mp ea).1
        refine ⟨b, rfl, SqT.of ((hc i b ea).trans ?_)⟩
        have er : r = B.map fun r => r.getD i 0 := by
          simp only [colsOf, List.getElem?_map, List.getElem?_range hi, Option.map_some, Option.some.injEq] at e2
          exact e2.symm
        rw [er, List.map_map, List.map_map]
        congr 2
        refine List.map_congr_left fun q hq => ?_
        have hql := hw q hq
        have hq2 : i < q.length := by omega
        simp [List.getD_eq_getElem?_getD, List.getElem?_eq_getElem hq2]
theorem ok_unit {f : Addr} {fd : FuncData} (F : Fun K "unit" "unit" s_unit f fd) : FnOk P w K mg base CX0 1 f fd ["size", "place"] spUnit := by
  refine F.ok sc_unit (fun vs H Q E h => ?_) (fun cdv A outer s H vs Q E hr h => ?_)
  · obtain ⟨s, p, rfl, _⟩ := h
    rfl
  · obtain ⟨s, p, rfl, hp, hs, k⟩ := h
    refine ⟨_, (pss_one (ps_ret (pe_op (op_catAK (K := K) rfl) (pe_op (op_catAK (K := K) rfl) (pe_op (op_repAK (K := K) rfl) (pe_tup (pa_cons pe_int pa_nil)) (pv 1)) (pe_tup (pa_cons pe_int pa_nil))) (pe_op (op_repAK (K := K) rfl) (pe_tup (pa_cons pe_int pa_nil)) (pe_op op_sub (pe_op op_sub (pv 0) (pv 1)) pe_int))))), ?_⟩
    refine ⟨by decide, fun t1 n1 => ⟨_, rfl, rep_read upd_same (by omega) (by omega) fun q1 G1 s1 g1 => ⟨by decide, fun t2 n2 => cat_read (xs := List.replicate p (V.int 0)) (by rw [upd_ne (ne_of_none g1 n2)]; exact g1) upd_same ?_ fun q2 G2 s2 g2 => ?_⟩⟩⟩
    · simp
      omega
    · refine ⟨by decide, fun t3 n3 => ⟨_, rfl, _, rfl, _, _, rfl, rfl, _, _, rfl, rfl, ?_⟩⟩
      refine rep_read (k := (s : Int) - p - 1) upd_same (by omega) (by omega) fun q3 G3 s3 g3 => cat_read (s3 _ _ (by rw [upd_ne (ne_of_none g2 n3)]; exact g2)) g3 ?_ fun q4 G4 s4 g4 => ?_
      · simp
        omega
      · refine k q4 G4 (same_trans (same_upd n1) (same_trans s1 (same_trans (same_upd n2) (same_trans s2 (same_trans (same_upd n3) (same_trans s3 s4)))))) ?_
        rw [g4, ← unit_eq s p hp, show ((s : Int) - p - 1).toNat = s - p - 1 by omega]
theorem ok_identity {f fU : Addr} {fd fdU : FuncData} (F : Fun K "identity" "identity" s_identity f fd) (T : TxtM mg) (G_unit : FnOk P w K mg base CX0 1 fU fdU ["size", "place"] spUnit) (g_unit : mg "unit" = some (.ref fU)) (kp_unit : PySem.W.keepIn K (.ref fU) = true)
    (b_unit : Binds K fdU ["size", "place"] []) : FnOk P w K mg base CX0 2 f fd ["size"] (spIdm K) := by
  refine F.ok sc_identity (fun vs H Q E h => ?_) (fun cdv A outer s H vs Q E hr h => ?_)
  · obtain ⟨s, rfl, _⟩ := h
    rfl
  · obtain ⟨s, rfl, hs, k⟩ := h
    refine ⟨_, (pss_one (ps_ret (pe_callTy (call_tupleK (K := K) rfl) rfl T.f_tuple (by decide +kernel) (pa_cons (pe_lc (own := [("place", 1)]) (g := gName 1) rfl sc_identity.nd (pi_range1 rfl T.f_range (pa_cons (pv 0) pa_nil)) (blkOk_by (N := ["size", "place"]) (sc := defScope s_identity) (by decide +kernel)) (fun _ _ _ _ _ => (pg_name (i := 1) sc_identity.nd rfl (Or.inl rfl))) (fun _ _ _ _ _ => pts_nil) (fun _ _ _ _ _ => (pe_call G_unit (hr.mono (by decide)) rfl g_unit kp_unit b_unit .nil pass0 (pa_cons (pv 0) (pa_cons (pv 1) pa_nil))))) pa_nil)))), ?_⟩
    refine ⟨_, rfl, (s : Int), rfl, by omega, by omega, fun D hD => lc_rows (K := K) (walk_range (lo := 0) (n := s)) hD (by omega) (idM s) (by simp [idM]) (fun _ _ => trivial) ?_ fun acc H2 e2 sm hR => tup_read e2 hR sm k⟩
    intro i r x H2 H2' Fn Nn hi hr3 fin sm hy
    obtain ⟨rfl, rfl⟩ := hy
    have er : r = unitRow s i := by
      simp only [idM, List.getElem?_map, List.getElem?_range hi, Option.map_some, Option.some.injEq] at hr3
      exact hr3.symm
    refine ⟨rfl, yesT ⟨_, rfl, _, rfl, s, i, by show [V.int (s : Int), V.int (0 + (i : Int))] = _; rw [Int.zero_add], hi, hs, fun p H4 s4 h4 => fin p H4 s4 (by rw [er]; exact h4)⟩⟩
theorem ok_product {f fT fA : Addr} {fd fdT fdA : FuncData} (F : Fun K "product" "product" s_product f fd) (T : TxtM mg) (G_transposed : FnOk P w K mg base CX0 1 fT fdT ["matrix"] (spTrn K)) (g_transposed : mg "transposed" = some (.ref fT)) (kp_transposed : PySem.W.keepIn K (.ref fT) = true)
    (b_transposed : Binds K fdT ["matrix"] []) (G_applied : FnOk P w K mg base CX0 1 fA fdA ["modulus", "matrix", "row"] (spApplied K)) (g_applied : mg "applied" = some (.ref fA)) (kp_applied : PySem.W.keepIn K (.ref fA) = true)
    (b_applied : Binds K fdA ["modulus", "matrix", "row"] []) : FnOk P w K mg base CX0 2 f fd ["modulus", "one", "other"] (spProd K) := by
  refine F.ok sc_product (fun vs H Q E h => ?_) (fun cdv A outer s H vs Q E hr h => ?_)
  · obtain ⟨M, a, b, A, B, n, rfl, _⟩ := h
    rfl
  · obtain ⟨M, a, b, Am, B, n, rfl, hM, hA, hB, wA, wB, h1, h8, n1, n2, lA, hwB, hwA, k⟩ := h
    refine ⟨_, (pss_cons (ps_set (i := 3) sc_product.nd rfl (Or.inr rfl) (pe_call G_transposed (hr.mono (by decide)) rfl g_transposed kp_transposed b_transposed .nil pass0 (pa_cons (pv 2) pa_nil)))
        (pss_one (ps_ret (pe_callTy (call_tupleK (K := K) rfl) rfl T.f_tuple (by decide +kernel) (pa_cons (pe_lc (own := [("row", 4)]) (g := gName 4) rfl sc_product.nd (pi_tup (pv 1)) (blkOk_by (N := ["modulus", "one", "other", "columns", "row"]) (sc := defScope s_product) (by decide +kernel)) (fun _ _ _ _ _ => (pg_name (i := 4) sc_product.nd rfl (Or.inl rfl))) (fun _ _ _ _ _ => pts_nil) (fun _ _ _ _ _ => (pe_call G_applied (hr.mono (by decide)) rfl g_applied kp_applied b_applied .nil pass0 (pa_cons (pv 0) (pa_cons (pv 3) (pa_cons (pv 4) pa_nil)))))) pa_nil))))), ?_⟩
    refine ⟨_, rfl, b, B, n, rfl, hB, h1, h8, n1, n2, hwB, fun p H2 s2 hC => ?_⟩
    obtain ⟨vs, hv, hR⟩ := hA
    have hlen := hR.length
    refine ⟨_, rfl, _, rfl, ⟨vs, SqT.same hv s2⟩, fun D hD => lc_rows (K := K) (walk_tup (xs := vs)) hD (by omega) (prodM M n Am B) (by simp [prodM, hlen]) (fun H3 e => SqT.same hv (same_trans s2 e)) ?_ fun acc H3 e3 s3 hR3 => tup_read e3 hR3 (same_trans s2 s3) k⟩
    intro i r x H3 H3' Fn Nn hi hr3 fin sm hy
    obtain ⟨rfl, hx⟩ := hy
    obtain ⟨q, l, rfl, hl, hq⟩ := rows_at hR hx
    have er : r = applyM M (colsOf n B) l := by
      simp only [prodM, List.getElem?_map, hl, Option.map_some, Option.some.injEq] at hr3
      exact hr3.symm
    have hlm := List.mem_of_getElem? hl
    refine ⟨rfl, yesT ⟨_, rfl, _, rfl, _, rfl, M, p, q, colsOf n B, l, rfl, hM, hC.same sm, SqT.same hq (same_trans s2 sm), ?_, wA _ hlm, by simp [colsOf]; omega, by rw [hwA _ hlm]; omega, ?_, fun p2 H4 s4 h4 => fin p2 H4 s4 (by rw [er]; exact h4)⟩⟩
    · exact cols_wd wB
    · intro c hc
      rw [hwA _ hlm]
      exact cols_len hc
end
end Wk

namespace Wk
open PySem L2
def spPow (K : PySem.W.Frag) : Sp := fun vs H Q _ => ∃ (M : Int) (a : Addr) (A : Mat) (n e : Nat), vs = [.int M, .ref a, .int (e : Int)] ∧ 2 ≤ M ∧ M < 2 ^ 64 ∧ MatAt K H a A ∧ Shp n n A ∧ MWd A ∧ 1 ≤ n ∧ n ≤ 8 ∧ NewMat K H (mpow M n A e) Q
theorem mred_wd {M : Int} {A : Mat} (h : MRed M A) (hM : M < 2 ^ 64) : MWd A := fun r hr x hx => by
  have := h r hr x hx
  show x.natAbs < 2 ^ 200
  omega
theorem pow_odd {M : Int} {n : Nat} {R S : Fm} {m : Nat} (h : m % 2 = 1) : EqF M n (mulF n (mulF n R S) (powF n (mulF n S S) (m / 2))) (mulF n R (powF n S m)) := by
  rw [mulF_assoc]
  refine (EqF.refl _ _ _).mul ?_
  refine ((EqF.refl M n S).mul (powF_sq n S (m / 2))).trans ?_
  have e := powF_add (M := M) n S 1 (2 * (m / 2))
  rw [show 1 + 2 * (m / 2) = m by omega] at e
  exact ((one_mulF n S).symm.mul (.refl _ _ _)).trans e.symm
theorem pow_even {M : Int} {n : Nat} {R S : Fm} {m : Nat} (h : m % 2 = 0) : EqF M n (mulF n R (powF n (mulF n S S) (m / 2))) (mulF n R (powF n S m)) := by
  have e := powF_sq (M := M) n S (m / 2)
  rw [show 2 * (m / 2) = m by omega] at e
  exact (EqF.refl _ _ _).mul e
/-- while many > 0 -/
structure PInv (M : Int) (n : Nat) (T : Fm) (R S : Mat) (m : Nat) : Prop where
  r1 : Shp n n R
  r2 : MRed M R
  s1 : Shp n n S
  s2 : MWd S
  eq : EqF M n (mulF n (ent R) (powF n (ent S) m)) T
def muP (σ : L2.St) : Nat := match σ[2]? with
  | some (some (V.int y)) => y.toNat
  | _ => 0
section
variable {P : Program} {w : World} {K : PySem.W.Frag} {mg : Str → Option Value} {base : Heap}
theorem ok_power {f fI fP : Addr} {fd fdI fdP : FuncData} (F : Fun K "power" "power" s_power f fd) (T : TxtM mg)
    (G_identity : FnOk P w K mg base CX0 2 fI fdI ["size"] (spIdm K)) (g_identity : mg "identity" = some (.ref fI)) (kp_identity : PySem.W.keepIn K (.ref fI) = true) (b_identity : Binds K fdI ["size"] [])
    (G_product : FnOk P w K mg base CX0 2 fP fdP ["modulus", "one", "other"] (spProd K)) (g_product : mg "product" = some (.ref fP)) (kp_product : PySem.W.keepIn K (.ref fP) = true) (b_product : Binds K fdP ["modulus", "one", "other"] []) :
    FnOk P w K mg base CX0 3 f fd ["modulus", "matrix", "many"] (spPow K) := by
  refine F.ok sc_power (fun vs H Q E h => ?_) (fun cdv A outer s H vs Q E hr h => ?_)
  · obtain ⟨M, a, A, n, e, rfl, _⟩ := h
    rfl
  · obtain ⟨M, a, Am, n, e, rfl, hM, hM2, hA, sA, wA, n1, n2, k⟩ := h
    refine ⟨_, (pss_cons (ps_par (i := 3) (j := 4) rfl sc_power.nd rfl rfl (by decide) rfl rfl (pa_cons (pe_call G_identity (hr.mono (by decide)) rfl g_identity kp_identity b_identity .nil pass0 (pa_cons (pe_callB call_len_seq rfl T.f_len PySem.boot_len (pa_cons (pv 1) pa_nil)) pa_nil)) (pa_cons (pv 1) pa_nil)) (by rfl))
        (pss_cons (ps_while PassesOwn.never (pt_cmpR op_gt (pv 2) pe_int (nomark _)) (pss_cons (ps_if (pt_cmpR op_eq (pe_op op_mod (pv 2) pe_int) pe_int (nomark _)) (pss_one (ps_set (i := 3) sc_power.nd rfl (Or.inl rfl) (pe_call G_product (hr.mono (by decide)) rfl g_product kp_product b_product .nil pass0 (pa_cons (pv 0) (pa_cons (pv 3) (pa_cons (pv 4) pa_nil)))))) pss_nil)
        (pss_cons (ps_set (i := 2) sc_power.nd rfl (Or.inl rfl) (pe_op op_fdiv (pv 2) pe_int))
        (pss_one (ps_if (pt_cmpR op_gt (pv 2) pe_int (nomark _)) (pss_one (ps_set (i := 4) sc_power.nd rfl (Or.inl rfl) (pe_call G_product (hr.mono (by decide)) rfl g_product kp_product b_product .nil pass0 (pa_cons (pv 0) (pa_cons (pv 4) (pa_cons (pv 4) pa_nil)))))) pss_nil)))))
        (pss_one (ps_ret (pv 3))))), ?_⟩
    obtain ⟨vs, hv, hR⟩ := id hA
    have hvl : vs.length = n := hR.length.trans sA.1
    refine ⟨_, rfl, _, _, rfl, .inr hv, n, by rw [hvl]; rfl, by omega, fun r H1 s1 hr1 => ⟨_, rfl, _, _, rfl, ?_⟩⟩
    have prod : ∀ {r s : Addr} {R S : Mat} {G : Hp} {Q' : VK}, MatAt K G r R → MatAt K G s S → Shp n n R → MWd R → Shp n n S → MWd S → NewMat K G (prodM M n R S) Q' → spProd K [.int M, .ref r, .ref s] G Q' E0 := fun hr hs sR wR sS wS q =>
      ⟨M, _, _, _, _, n, rfl, by omega, hr, hs, wR, wS, by rw [sS.1]; exact n1, by rw [sS.1]; exact n2, n1, by omega, by rw [sR.1]; omega, sS.2, fun r hr => by rw [sR.2 r hr, sS.1], q⟩
    refine while_by (fun σ H' => ∃ (r s : Addr) (R S : Mat) (m : Nat), σ = [some (.int M), some (.ref a), some (.int (m : Int)), some (.ref r), some (.ref s)] ∧ Same H H' ∧ MatAt K H' r R ∧ MatAt K H' s S ∧ PInv M n (powF n (ent Am) e) R S m)
      (fun σ _ => muP σ) ?_ ?_ (fun σ H Q Q' hq ⟨v, hv, i, j, e1, e2, b, e3, q⟩ => ⟨v, hv, i, j, e1, e2, b, e3, hq _ _ q⟩)
    · refine ⟨r, a, idM n, Am, e, rfl, s1, hr1, hA.same s1, one_shp n, one_red hM n, sA, wA, ?_⟩
      refine (EqF.mul (fun i j hi hj => ?_) (.refl _ _ _)).trans (one_mulF n _)
      rw [one_ent hi hj]
      exact .refl _ _
    · rintro σ H2 ⟨r, s, R, S, m, rfl, s2, hR2, hS2, I⟩
      refine ⟨_, rfl, _, _, rfl, rfl, _, rfl, ?_⟩
      refine ite2 (fun hd => ?_) (fun hd => ?_)
      · have hm : 0 < (m : Int) := of_decide_eq_true hd
        have fin : ∀ (r' s' : Addr) (R' S' : Mat) (H3 : Hp), Same H H3 → MatAt K H3 r' R' → MatAt K H3 s' S' → PInv M n (powF n (ent Am) e) R' S' (m / 2) → (∃ (r s : Addr) (R S : Mat) (m' : Nat), ([some (.int M), some (.ref a), some (.int ((m / 2 : Nat) : Int)), some (.ref r'), some (.ref s')] : L2.St) = [some (.int M), some (.ref a), some (.int (m' : Int)), some (.ref r), some (.ref s)] ∧ Same H H3 ∧ MatAt K H3 r R ∧ MatAt K H3 s S ∧ PInv M n (powF n (ent Am) e) R S m') ∧ muP [some (.int M), some (.ref a), some (.int ((m / 2 : Nat) : Int)), some (.ref r'), some (.ref s')] < m := fun r' s' R' S' H3 a1 a2 a3 a4 => ⟨⟨r', s', R', S', m / 2, rfl, a1, a2, a3, a4⟩, by
          show ((m / 2 : Nat) : Int).toNat < m
          omega⟩
        have ef : (m : Int).fmod 2 = ((m % 2 : Nat) : Int) := by
          rw [Int.fmod_eq_emod_of_nonneg _ (by omega)]
          rfl
        refine ⟨_, rfl, _, _, rfl, rfl, (by show (0 : Int) < 2; decide), rfl, _, rfl, ?_⟩
        have ed : (m : Int) / 2 = ((m / 2 : Nat) : Int) := rfl
        have em : (m : Int) % 2 = ((m % 2 : Nat) : Int) := rfl
        refine ite2 (fun hd0 => ?_) (fun hd0 => ?_)
        · have ho : m % 2 = 1 := by
            have this : V.int ((m : Int) % 2) = V.int 1 := of_decide_eq_true hd0
            injection this with this
            omega
          · refine ⟨_, rfl, _, rfl, _, rfl, prod hR2 hS2 I.r1 (mred_wd I.r2 hM2) I.s1 I.s2 fun q2 H3 s3 hq2 => ?_⟩
            have eqT : EqF M n (mulF n (ent (prodM M n R S)) (powF n (mulF n (ent S) (ent S)) (m / 2))) (powF n (ent Am) e) := (((prod_F I.r1 I.s1).mul (.refl _ _ _)).trans (pow_odd ho)).trans I.eq
            refine ⟨_, rfl, _, _, rfl, rfl, (by constructor <;> decide), ?_⟩
            dsimp only [gName, List.set_cons_succ, List.set_cons_zero]
            rw [ed]
            refine ⟨_, rfl, _, _, rfl, rfl, _, rfl, ?_⟩
            refine ite2 (fun hd2 => ?_) (fun hd2 => ?_)
            · refine ⟨_, rfl, _, rfl, _, rfl, prod (hS2.same s3) (hS2.same s3) I.s1 I.s2 I.s1 I.s2 fun q H4 s4 h4 => fin q2 q (prodM M n R S) _ H4 (same_trans (same_trans s2 s3) s4) (hq2.same s4) h4 ⟨(prod_shp I.r1), (prod_red (by omega)), prod_shp I.s1, mred_wd (prod_red (by omega)) hM2, ?_⟩⟩
              exact ((EqF.refl M n (ent (prodM M n R S))).mul (powF_congr (prod_F I.s1 I.s1) (m / 2))).trans eqT
            · have h0 : m / 2 = 0 := by
                have : ¬ 0 < ((m / 2 : Nat) : Int) := fun z => hd2 (decide_eq_true z)
                omega
              refine fin q2 s (prodM M n R S) S H3 (same_trans s2 s3) hq2 (hS2.same s3) ⟨(prod_shp I.r1), (prod_red (by omega)), I.s1, I.s2, ?_⟩
              rw [h0]
              rw [h0] at eqT
              exact eqT
        · have he : m % 2 = 0 := by
            have : ¬ m % 2 = 1 := fun z => hd0 (by
              show decide (V.int ((m : Int) % 2) = V.int 1) = true
              rw [em, z]
              exact decide_eq_true rfl)
            omega
          · have eqT : EqF M n (mulF n (ent R) (powF n (mulF n (ent S) (ent S)) (m / 2))) (powF n (ent Am) e) := (pow_even he).trans I.eq
            refine ⟨_, rfl, _, _, rfl, rfl, (by constructor <;> decide), ?_⟩
            dsimp only [gName, List.set_cons_succ, List.set_cons_zero]
            rw [ed]
            refine ⟨_, rfl, _, _, rfl, rfl, _, rfl, ?_⟩
            refine ite2 (fun hd2 => ?_) (fun hd2 => ?_)
            · refine ⟨_, rfl, _, rfl, _, rfl, prod hS2 hS2 I.s1 I.s2 I.s1 I.s2 fun q H4 s4 h4 => fin r q R _ H4 (same_trans s2 s4) (hR2.same s4) h4 ⟨I.r1, I.r2, prod_shp I.s1, mred_wd (prod_red (by omega)) hM2, ?_⟩⟩
              exact ((EqF.refl M n (ent R)).mul (powF_congr (prod_F I.s1 I.s1) (m / 2))).trans eqT
            · have h0 : m / 2 = 0 := by
                have : ¬ 0 < ((m / 2 : Nat) : Int) := fun z => hd2 (decide_eq_true z)
                omega
              refine fin r s R S H2 s2 hR2 hS2 ⟨I.r1, I.r2, I.s1, I.s2, ?_⟩
              rw [h0]
              rw [h0] at eqT
              exact eqT
      · have hm : m = 0 := by
          have : ¬ 0 < (m : Int) := fun z => hd (decide_eq_true z)
          omega
        subst hm
        refine ⟨_, rfl, k r H2 s2 ?_⟩
        have : R = mpow M n Am e := by
          obtain ⟨p1, p2, p3⟩ := mpow_ok hM sA e
          exact mat_eqm I.r1 p1 I.r2 p2 (((mulF_one n _).symm.trans I.eq).trans p3.symm)
        rw [← this]
        exact hR2
end
end Wk

namespace Wk
open PySem L2 NumI
abbrev s_bezout : Stmt := top 2
theorem sc_bezout : FnScope ["one", "other", "last", "rest", "last_factor", "factor", "times"] ["one", "other"] (defScope s_bezout) := ⟨rfl, rfl, rfl, by decide +kernel, rfl, by decide +kernel, by decide +kernel⟩
abbrev s_multiple : Stmt := top 3
theorem sc_multiple : FnScope ["modulus", "factor", "row", "number"] ["modulus", "factor", "row"] (defScope s_multiple) := ⟨rfl, rfl, rfl, by decide +kernel, rfl, by decide +kernel, by decide +kernel⟩
abbrev s_combined : Stmt := top 4
theorem sc_combined : FnScope ["modulus", "factor", "row", "other_factor", "other", "a", "b"] ["modulus", "factor", "row", "other_factor", "other"] (defScope s_combined) := ⟨rfl, rfl, rfl, by decide +kernel, rfl, by decide +kernel, by decide +kernel⟩
abbrev s_Stairs_init : Stmt := inClass (top 5) 0
theorem sc_Stairs_init : FnScope ["self", "modulus", "places"] ["self", "modulus", "places"] (defScope s_Stairs_init) := ⟨rfl, rfl, rfl, by decide +kernel, rfl, by decide +kernel, by decide +kernel⟩
abbrev s_Stairs_put : Stmt := inClass (top 5) 1
theorem sc_Stairs_put : FnScope ["self", "row", "place"] ["self", "row"] (defScope s_Stairs_put) := ⟨rfl, rfl, rfl, by decide +kernel, rfl, by decide +kernel, by decide +kernel⟩
abbrev s_Stairs_put_at : Stmt := inClass (top 5) 2
theorem sc_Stairs_put_at : FnScope ["self", "place", "row", "modulus", "step", "number", "common", "_", "factor", "pivot", "step_factor"] ["self", "place", "row"] (defScope s_Stairs_put_at) := ⟨rfl, rfl, rfl, by decide +kernel, rfl, by decide +kernel, by decide +kernel⟩
abbrev s_Stairs_settled : Stmt := inClass (top 5) 4
theorem sc_Stairs_settled : FnScope ["self", "lessened", "place", "row", "lower", "step", "_"] ["self"] (defScope s_Stairs_settled) := ⟨rfl, rfl, rfl, by decide +kernel, rfl, by decide +kernel, by decide +kernel⟩

def spBez : Sp := fun vs H Q _ => ∃ a b : Int, vs = [.int a, .int b] ∧ 1 ≤ a ∧ 1 ≤ b ∧ a < 2 ^ 64 ∧ b < 2 ^ 64 ∧
  ∀ (g lf f : Int) (t : Addr) (H' : Hp), (g = (Int.gcd a b : Int)) → 1 ≤ g → lf * a + f * b = g → Wd lf → Wd f → Same H H' → H' t = some (.tup [.int g, .int lf, .int f]) → Q (.ref t) H'
def NewLst (H : Hp) (r : List Int) (Q : VK) : Prop := ∀ p H', Same H H' → H p = none → H' p = some (.lst (r.map V.int)) → Q (.ref p) H'
def spMul (K : PySem.W.Frag) : Sp := fun vs H Q _ => ∃ (M f : Int) (b : Addr) (r : List Int), vs = [.int M, .int f, .ref b] ∧ 1 ≤ M ∧ Wd f ∧ H b = some (.lst (r.map V.int)) ∧ RWd r ∧ r.length ≤ 1000 ∧ NewLst H (mulRow M f r) Q
def spComb (K : PySem.W.Frag) : Sp := fun vs H Q _ => ∃ (M f g : Int) (b c : Addr) (r s : List Int), vs = [.int M, .int f, .ref b, .int g, .ref c] ∧ 1 ≤ M ∧ Wd f ∧ Wd g ∧ H b = some (.lst (r.map V.int)) ∧ H c = some (.lst (s.map V.int)) ∧ RWd r ∧ RWd s ∧ r.length = s.length ∧ r.length ≤ 1000 ∧ NewLst H (comb M f r g s) Q
def mu3s (σ : L2.St) : Nat := match σ[3]? with
  | some (some (V.int y)) => y.toNat
  | _ => 0
theorem bez_last {a b last lf f : Int} (I : EInv a b last 0 lf f) (ha : 1 ≤ a) (hb : 1 ≤ b) (h1 : (lf.natAbs : Int) ≤ b) : lf * a + (last - lf * a) / b * b = last ∧ (((last - lf * a) / b).natAbs : Int) ≤ 2 * a := by
  obtain ⟨k, hk⟩ := I.cl
  have hg := I.gcd
  have hl := I.hl
  have e1 : last - lf * a = b * (-k) := by grind
  have e2 : (last - lf * a) / b = -k := by
    rw [e1]
    exact Int.mul_ediv_cancel_left _ (by omega)
  rw [e2]
  refine ⟨by grind, ?_⟩
  have hla : last ≤ a := by
    have h2 : Int.gcd last 0 = last.natAbs := Int.gcd_zero_right _
    have h3 : Int.gcd a b ≤ a.natAbs := Nat.gcd_le_left _ (by omega)
    omega
  have h4 : b * (k.natAbs : Int) ≤ last + b * a := by
    have h5 : ((b * (-k)).natAbs : Int) = b * (k.natAbs : Int) := by
      rw [Int.natAbs_mul, Int.natAbs_neg]
      have : (b.natAbs : Int) = b := by omega
      rw [Int.natCast_mul, this]
    rw [← h5, ← e1]
    have h6 : ((lf * a).natAbs : Int) ≤ b * a := by
      rw [Int.natAbs_mul, Int.natCast_mul]
      have : (a.natAbs : Int) = a := by omega
      rw [this]
      exact Int.mul_le_mul_of_nonneg_right h1 (by omega)
    omega
  rw [Int.natAbs_neg]
  have h7 : last ≤ b * last := by
    have : 1 * last ≤ b * last := Int.mul_le_mul_of_nonneg_right hb (by omega)
    omega
  have h8 : b * (k.natAbs : Int) ≤ b * (last + a) := by
    rw [Int.mul_add]
    omega
  have h9 : (k.natAbs : Int) ≤ last + a := Int.le_of_mul_le_mul_left h8 (by omega)
  omega
section
variable {P : Program} {w : World} {K : PySem.W.Frag} {mg : Str → Option Value} {base : Heap}
theorem ok_bezout {f : Addr} {fd : FuncData} (F : Fun K "bezout" "bezout" s_bezout f fd) : FnOk P w K mg base CX0 1 f fd ["one", "other"] spBez := by
  refine F.ok sc_bezout (fun vs H Q E h => ?_) (fun cdv A outer s H vs Q E hr h => ?_)
  · obtain ⟨a, b, rfl, _⟩ := h
    rfl
  · obtain ⟨n, m, rfl, hn, hm, zn, zm, k⟩ := h
    refine ⟨_, (pss_cons (ps_par (i := 2) (j := 3) rfl sc_bezout.nd rfl rfl (by decide) rfl rfl (pa_cons (pv 0) (pa_cons (pv 1) pa_nil)) (by rfl))
        (pss_cons (ps_asg (pe_tup (pa_cons pe_int (pa_cons pe_int pa_nil))) (pg_tup rfl (pgs_cons (pg_name (i := 4) sc_bezout.nd rfl (Or.inl rfl)) (pgs_cons (pg_name (i := 5) sc_bezout.nd rfl (Or.inl rfl)) pgs_nil))))
        (pss_cons (ps_while PassesOwn.never (pt_cmpR op_ne (pv 3) pe_int (nomark _)) (pss_cons (ps_set (i := 6) sc_bezout.nd rfl (Or.inl rfl) (pe_op op_fdivW (pv 2) (pv 3)))
        (pss_cons (ps_par (i := 2) (j := 3) rfl sc_bezout.nd rfl rfl (by decide) rfl rfl (pa_cons (pv 3) (pa_cons (pe_op op_sub (pv 2) (pe_op op_mulW (pv 6) (pv 3))) pa_nil)) (by rfl))
        (pss_one (ps_par (i := 4) (j := 5) rfl sc_bezout.nd rfl rfl (by decide) rfl rfl (pa_cons (pv 5) (pa_cons (pe_op op_sub (pv 4) (pe_op op_mulW (pv 6) (pv 5))) pa_nil)) (by rfl))))))
        (pss_one (ps_ret (pe_tup (pa_cons (pv 2) (pa_cons (pv 4) (pa_cons (pe_op op_fdivW (pe_op op_sub (pv 2) (pe_op op_mulW (pv 4) (pv 0))) (pv 1)) pa_nil))))))))), ?_⟩
    have sm : ∀ {x : Int}, (x.natAbs : Int) ≤ 2 * m → x.natAbs < 2 ^ 200 := fun h => by omega
    have sn : ∀ {x : Int}, (x.natAbs : Int) ≤ 2 * n → x.natAbs < 2 ^ 200 := fun h => by omega
    have wm : ∀ {x y : Int}, x.natAbs < 2 ^ 200 → y.natAbs < 2 ^ 200 → CMulW x y := fun a b => wide_mul a b (by decide) (by decide) (by decide)
    refine ⟨_, rfl, _, rfl, _, _, rfl, (by show 2 ≤ sizeLine; decide), fun t ht => ⟨t, _, rfl, SqT.of upd_same, rfl, _, _, rfl, _, _, rfl, rfl, ?_⟩⟩
    have sH : Same H (upd H t (.tup [.int 1, .int 0])) := same_upd ht
    obtain ⟨G, hG⟩ : ∃ G, G = upd H t (.tup [.int 1, .int 0]) := ⟨_, rfl⟩
    rw [← hG] at sH ⊢
    refine while_by (fun σ H' => ∃ (l r lf f : Int) (t : Option V), σ = [some (.int n), some (.int m), some (.int l), some (.int r), some (.int lf), some (.int f), t] ∧ H' = G ∧ EInv n m l r lf f ∧ (lf.natAbs : Int) ≤ m ∧ (f.natAbs : Int) ≤ m ∧ l ≤ n + m ∧ r ≤ n + m)
      (fun σ _ => mu3s σ) ?_ ?_ (fun σ H Q Q' hq ⟨v, hv, sc, k, e, q⟩ => ⟨v, hv, sc, k, e, hq _ _ q⟩)
    · refine ⟨n, m, 1, 0, none, rfl, rfl, ⟨hn, by omega, rfl, ⟨0, by omega⟩, ⟨-1, by omega⟩, .inl ⟨by omega, by omega⟩, by simp⟩, by show ((1 : Int).natAbs : Int) ≤ m; simp; omega, by show ((0 : Int).natAbs : Int) ≤ m; simp; omega, by omega, by omega⟩
    · rintro σ H' ⟨l, r, lf, f, t2, rfl, rfl, I, b1, b2, b3, b4⟩
      have hl := I.hl
      have hr0 := I.hr
      refine ⟨_, rfl, rfl, _, rfl, ?_⟩
      by_cases hz : r = 0
      · subst hz
        refine iteNS rfl ?_
        obtain ⟨z1, z2⟩ := bez_last I hn hm b1
        refine ⟨_, rfl, _, rfl, _, rfl, _, rfl, _, rfl, _, _, rfl, rfl, wm (sm (by omega)) (sn (by omega)), _, _, rfl, rfl, _, rfl, _, _, rfl, rfl, wide_div (b := 200) (by omega) (sm (by omega)) (by decide) (by decide), (by show 3 ≤ sizeLine; decide), fun p hp => ?_⟩
        refine k l lf _ p _ ?_ hl z1 (sm (by omega)) (sn z2) (same_trans sH (same_upd hp)) upd_same
        have := I.gcd
        rw [← this, Int.gcd_zero_right]
        omega
      · have e3 : (!decide (V.int r = V.int 0)) = true := by
          have : ¬ V.int r = V.int 0 := fun z => hz (by injection z)
          simp [this]
        rw [e3]
        refine iteT ?_
        obtain ⟨I2, c1, c2, c3, c4⟩ := I.step hz
        have g3 := I2.f_le
        have g4 : ((lf - l / r * f).natAbs : Int) ≤ m := by
          rcases g3 with g3 | g3
          · exact g3.1
          · rw [g3]
            simp
            omega
        have b5 : r.natAbs < 2 ^ 200 := by omega
        refine ⟨_, rfl, _, rfl, _, _, rfl, rfl, wide_div (b := 200) (by omega) b5 (by decide) (by decide), ?_⟩
        refine ⟨_, rfl, _, rfl, _, rfl, _, rfl, _, _, rfl, rfl, wm (by omega) b5, _, _, rfl, rfl, _, _, rfl, ?_⟩
        refine ⟨_, rfl, _, rfl, _, rfl, _, rfl, _, _, rfl, rfl, wm (by omega) (sm (by omega)), _, _, rfl, rfl, _, _, rfl, ?_⟩
        refine ⟨⟨r, l - l / r * r, f, lf - l / r * f, _, rfl, rfl, I2, b2, g4, b4, by omega⟩, ?_⟩
        show (l - l / r * r).toNat < r.toNat
        omega
theorem ok_multiple {f : Addr} {fd : FuncData} (F : Fun K "multiple" "multiple" s_multiple f fd) : FnOk P w K mg base CX0 1 f fd ["modulus", "factor", "row"] (spMul K) := by
  refine F.ok sc_multiple (fun vs H Q E h => ?_) (fun cdv A outer s H vs Q E hr h => ?_)
  · obtain ⟨M, f, b, r, rfl, _⟩ := h
    rfl
  · obtain ⟨M, f, b, r, rfl, hM, wf, hb, wr, lr, k⟩ := h
    refine ⟨_, (pss_one (ps_ret (pe_lc (own := [("number", 3)]) (g := gName 3) rfl sc_multiple.nd (pi_list (pv 2)) (blkOk_by (N := ["modulus", "factor", "row", "number"]) (sc := defScope s_multiple) (by decide +kernel)) (fun _ _ _ _ _ => (pg_name (i := 3) sc_multiple.nd rfl (Or.inl rfl))) (fun _ _ _ _ _ => pts_nil) (fun _ _ _ _ _ => (pe_op op_modN (pe_op op_mulW (pv 1) (pv 3)) (pv 0)))))), ?_⟩
    refine ⟨_, rfl, b, rfl, ⟨_, SqL.of hb⟩, fun D hD => lc_rel (walk_list (xs := r.map V.int)) hD (by simp; omega) (fun i v _ => ∃ x, r[i]? = some x ∧ v = .int (f * x % M)) (fun i v H H' h _ => h) (fun H1 e => SqL.of (e _ _ hb)) ?_ ?_⟩
    · intro i x H1 H1' Fn Nn fin hi sm hacc hy
      obtain ⟨rfl, hx⟩ := hy
      obtain ⟨x, gx, rfl⟩ := at_ints hx
      refine ⟨rfl, yesT ⟨_, rfl, _, rfl, _, _, rfl, rfl, wd_mul wf (wr _ (List.mem_of_getElem? gx)), _, rfl, _, _, rfl, rfl, by omega, ?_⟩⟩
      dsimp only
      rw [Int.fmod_eq_emod_of_nonneg _ (by omega)]
      exact fin _ _ (fun _ _ e => e) ⟨x, gx, rfl⟩
    · intro acc H1 e1 e2 sm hR
      have e : acc = r.map fun x => V.int (f * x % M) := acc_map (by simpa using e1) hR
      refine k D H1 sm hD ?_
      rw [e2, e]
      simp [mulRow, Function.comp_def]
theorem ok_combined {f : Addr} {fd : FuncData} (F : Fun K "combined" "combined" s_combined f fd) (T : TxtM mg) : FnOk P w K mg base CX0 1 f fd ["modulus", "factor", "row", "other_factor", "other"] (spComb K) := by
  refine F.ok sc_combined (fun vs H Q E h => ?_) (fun cdv A outer s H vs Q E hr h => ?_)
  · obtain ⟨M, f, g, b, c, r, s, rfl, _⟩ := h
    rfl
  · obtain ⟨M, f, g, b, c, r, s2, rfl, hM, wf, wg, hb, hc, wr, ws, ll, lr, k⟩ := h
    refine ⟨_, (pss_one (ps_ret (pe_lc (own := [("a", 5), ("b", 6)]) (g := gTup K 2 (gCons (gName 5) (gCons (gName 6) gNil))) rfl sc_combined.nd (pi_zip2K (K := K) rfl false false rfl T.f_zip (pa_cons (pv 2) (pa_cons (pv 4) pa_nil))) (blkOk_by (N := ["modulus", "factor", "row", "other_factor", "other", "a", "b"]) (sc := defScope s_combined) (by decide +kernel)) (fun _ _ _ _ _ => (pg_tupK rfl rfl (pgs_cons (pg_name (i := 5) sc_combined.nd rfl (Or.inl rfl)) (pgs_cons (pg_name (i := 6) sc_combined.nd rfl (Or.inl rfl)) pgs_nil)))) (fun _ _ _ _ _ => pts_nil) (fun _ _ _ _ _ => (pe_op op_modN (pe_op op_add (pe_op op_mulW (pv 1) (pv 5)) (pe_op op_mulW (pv 3) (pv 6))) (pv 0)))))), ?_⟩
    refine ⟨_, rfl, _, rfl, b, c, _, _, rfl, SqL.of hb, SqL.of hc, fun D hD => lc_rel (ZM.walk_two (n := r.length) (by simp [ll])) hD (by omega) (fun i v _ => ∃ z, (List.zipWith (fun a b => (f * a + g * b) % M) r s2)[i]? = some z ∧ v = .int z) (fun i v H H' h _ => h) (fun H1 e => ⟨SqL.of (e _ _ hb), SqL.of (e _ _ hc)⟩) ?_ ?_⟩
    · rintro i v H1 H1' Fn Nn fin hi sm hacc ⟨T, x, y, rfl, hT, rfl, hx, hy⟩
      obtain ⟨x, gx, rfl⟩ := at_ints hx
      obtain ⟨y, gy, rfl⟩ := at_ints hy
      refine ⟨T, _, rfl, SqT.of upd_same, rfl, _, _, rfl, _, _, rfl, rfl, rfl, yesT ⟨_, rfl, _, rfl, _, _, rfl, rfl, wd_mul wf (wr _ (List.mem_of_getElem? gx)), _, rfl, _, rfl, _, _, rfl, rfl, wd_mul wg (ws _ (List.mem_of_getElem? gy)), _, _, rfl, rfl, _, rfl, _, _, rfl, rfl, by omega, ?_⟩⟩
      dsimp only
      rw [Int.fmod_eq_emod_of_nonneg _ (by omega)]
      refine fin _ _ (same_upd hT) ⟨_, ?_, rfl⟩
      rw [List.getElem?_zipWith, gx, gy]
    · intro acc H1 e1 e2 sm hR
      have e : acc = (comb M f r g s2).map V.int := acc_map (by simp [comb, e1, ll]) hR
      exact k D H1 sm hD (by rw [e2, e])
end
end Wk

namespace Wk
open PySem L2 NumI
/-! ### the stairs as an object -/
theorem kms : ¬ (Str.ofString "modulus" = Str.ofString "steps") := by decide +kernel
def flS (M : Int) (l : Addr) : List (Str × V) := putF "steps" (.ref l) (putF "modulus" (.int M) [])
theorem flS_m (M : Int) (l : Addr) : (flS M l).lookup ("modulus" : Str) = some (V.int M) := by
  unfold flS
  rw [lookup_putF, if_neg kms, lookup_putF, if_pos rfl]
theorem flS_s (M : Int) (l : Addr) : (flS M l).lookup ("steps" : Str) = some (V.ref l) := by
  unfold flS
  rw [lookup_putF, if_pos rfl]
theorem flS_no (M : Int) (l : Addr) {m : Str} (h1 : ¬ m = "modulus") (h2 : ¬ m = "steps") : (flS M l).lookup m = none := by
  unfold flS
  rw [lookup_putF, if_neg h2, lookup_putF, if_neg h1]
  rfl
structure TxtS (K : PySem.W.Frag) (mg : Str → Option Value) (C fI fP fA fS : Addr) : Prop where
  cl : Cls K C
  nM : NoAttr K C "modulus"
  nS : NoAttr K C "steps"
  mgC : mg "Stairs" = some (.ref C)
  mkr : Mk K C fI
  m_put : Meth K C "put" fP
  m_put_at : Meth K C "put_at" fA
  m_settled : Meth K C "settled" fS
  f_tuple : mg "tuple" = none
  f_range : mg "range" = none
  f_len : mg "len" = none
  f_reversed : mg "reversed" = none
  f_list : mg "list" = none
  f_enumerate : mg "enumerate" = none
/-- the steps' list holds None or a list of ints at each place -/
inductive StepsAre (l : Addr) (H : Hp) : List V → List (Option Row) → Prop
  | nil : StepsAre l H [] []
  | no {vs : List V} {S : List (Option Row)} : StepsAre l H vs S → StepsAre l H (.non :: vs) (none :: S)
  | yes {a : Addr} {r : Row} {vs : List V} {S : List (Option Row)} : a ≠ l → H a = some (.lst (r.map V.int)) → StepsAre l H vs S → StepsAre l H (.ref a :: vs) (some r :: S)
theorem StepsAre.length {l : Addr} {H : Hp} : ∀ {vs : List V} {S : List (Option Row)}, StepsAre l H vs S → vs.length = S.length
  | _, _, .nil => rfl
  | _, _, .no h => by simp [h.length]
  | _, _, .yes _ _ h => by simp [h.length]
theorem StepsAre.mono {l : Addr} {H H' : Hp} (e : But l H H') : ∀ {vs : List V} {S : List (Option Row)}, StepsAre l H vs S → StepsAre l H' vs S
  | _, _, .nil => .nil
  | _, _, .no h => .no (h.mono e)
  | _, _, .yes a b h => .yes a (e _ _ a b) (h.mono e)
theorem StepsAre.at_ {l : Addr} {H : Hp} : ∀ {vs : List V} {S : List (Option Row)}, StepsAre l H vs S → ∀ {i : Nat} {o : Option Row}, S[i]? = some o → (o = none ∧ vs[i]? = some .non) ∨ ∃ a r, o = some r ∧ vs[i]? = some (.ref a) ∧ a ≠ l ∧ H a = some (.lst (r.map V.int))
  | _, _, .nil, i, o, h => by simp at h
  | _, _, .no h, 0, o, e => by cases e; exact .inl ⟨rfl, rfl⟩
  | _, _, .yes a b h, 0, o, e => by cases e; exact .inr ⟨_, _, rfl, rfl, a, b⟩
  | _, _, .no h, i + 1, o, e => h.at_ (i := i) (by simpa using e)
  | _, _, .yes _ _ h, i + 1, o, e => h.at_ (i := i) (by simpa using e)
theorem StepsAre.set {l a : Addr} {H : Hp} {r : Row} (n : a ≠ l) (ha : H a = some (.lst (r.map V.int))) : ∀ {vs : List V} {S : List (Option Row)} (i : Nat), StepsAre l H vs S → StepsAre l H (vs.set i (.ref a)) (S.set i (some r))
  | _, _, _, .nil => .nil
  | _, _, 0, .no h => .yes n ha h
  | _, _, 0, .yes _ _ h => .yes n ha h
  | _, _, i + 1, .no h => .no (h.set n ha i)
  | _, _, i + 1, .yes p q h => .yes p q (h.set n ha i)
theorem StepsAre.nones (l : Addr) (H : Hp) : ∀ n : Nat, StepsAre l H (List.replicate n .non) (List.replicate n none)
  | 0 => .nil
  | n + 1 => .no (StepsAre.nones l H n)
def StAt (C : Addr) (H : Hp) (p l : Addr) (M : Int) (S : List (Option Row)) : Prop := (∃ dx, H p = some (.ins C dx (flS M l))) ∧ ∃ vs, H l = some (.lst vs) ∧ StepsAre l H vs S
theorem StAt.same {C : Addr} {H H' : Hp} {p l : Addr} {M : Int} {S : List (Option Row)} (h : StAt C H p l M S) (e : Same H H') : StAt C H' p l M S := by
  obtain ⟨⟨dx, h1⟩, vs, h2, h3⟩ := h
  exact ⟨⟨dx, e _ _ h1⟩, vs, e _ _ h2, h3.mono fun b o _ q => e b o q⟩
def spPutAt (C : Addr) : Sp := fun vs H Q _ => ∃ (p l b : Addr) (i : Nat) (M N : Int) (W n : Nat) (S : List (Option Row)) (r : Row), vs = [.ref p, .int (i : Int), .ref b] ∧ StAt C H p l M S ∧ 2 ≤ M ∧ M < 2 ^ 64 ∧ W ≤ 1000 ∧ WF M W n S ∧ i < n ∧ r.length = W ∧ RRed M r ∧ r[i]? = some N ∧ 1 ≤ N ∧
  H b = some (.lst (r.map V.int)) ∧ b ≠ l ∧ ∀ (S' : List (Option Row)) (r' : Row) (b' : Addr) (H' : Hp), PutStep M i S r N S' r' → But l H H' → StAt C H' p l M S' → H' b' = some (.lst (r'.map V.int)) → b' ≠ l → Q (.ref b') H'
theorem ix_at {n j : Nat} (h : j < n) : ixN n (j : Int) = some j := by
  unfold ixN
  rw [if_pos (by omega), if_pos (by omega), Int.toNat_natCast]
theorem zdiv_wd {a b : Int} (ha : 0 ≤ a) (hb : 0 ≤ b) (h : a < 2 ^ 64) : Wd (a / b) ∧ Wd (-(a / b)) := by
  have := Int.ediv_le_self b ha
  have := Int.ediv_nonneg ha hb
  constructor <;> (show Int.natAbs _ < 2 ^ 200; omega)
theorem rred_wd {M : Int} {r : Row} (h : RRed M r) (hM : M < 2 ^ 64) : RWd r := fun x hx => by
  have := h x hx
  show x.natAbs < 2 ^ 200
  omega
section
variable {P : Program} {w : World} {K : PySem.W.Frag} {mg : Str → Option Value} {base : Heap} {C fI fP fA fS : Addr}
theorem ok_put_at {f fB fM fC : Addr} {fd fdB fdM fdC : FuncData} (F : Fun K "put_at" "Stairs.put_at" s_Stairs_put_at f fd) (T : TxtS K mg C fI fP fA fS)
    (G_bezout : FnOk P w K mg base CX0 1 fB fdB ["one", "other"] spBez) (g_bezout : mg "bezout" = some (.ref fB)) (kp_bezout : PySem.W.keepIn K (.ref fB) = true) (b_bezout : Binds K fdB ["one", "other"] [])
    (G_multiple : FnOk P w K mg base CX0 1 fM fdM ["modulus", "factor", "row"] (spMul K)) (g_multiple : mg "multiple" = some (.ref fM)) (kp_multiple : PySem.W.keepIn K (.ref fM) = true) (b_multiple : Binds K fdM ["modulus", "factor", "row"] [])
    (G_combined : FnOk P w K mg base CX0 1 fC fdC ["modulus", "factor", "row", "other_factor", "other"] (spComb K)) (g_combined : mg "combined" = some (.ref fC)) (kp_combined : PySem.W.keepIn K (.ref fC) = true) (b_combined : Binds K fdC ["modulus", "factor", "row", "other_factor", "other"] []) :
    FnOk P w K mg base CX0 2 f fd ["self", "place", "row"] (spPutAt C) := by
  refine F.ok sc_Stairs_put_at (fun vs H Q E h => ?_) (fun cdv A outer s H vs Q E hr h => ?_)
  · obtain ⟨p, l, b, i, M, N, W, n, S, r, rfl, _⟩ := h
    rfl
  · obtain ⟨p, l, b, i, M, N, W, n, S, r, rfl, ⟨⟨dx, hp⟩, vs, hl, hS⟩, hM, hM2, hW, wf, hi, hrl, hrr, hN, hN1, hb, hbl, k⟩ := h
    refine ⟨_, (pss_cons (ps_par3 (i := 3) (j := 4) (l := 5) rfl sc_Stairs_put_at.nd rfl rfl rfl (by decide) (by decide) (by decide) rfl rfl rfl (pa_cons (pe_fld (pv 0) rfl) (pa_cons (pe_ix ix_list (pe_fld (pv 0) rfl) (pv 1) (fun _ _ => rfl)) (pa_cons (pe_ix ix_list (pv 2) (pv 1) (fun _ _ => rfl)) pa_nil))) (by rfl))
        (pss_cons (ps_if (pt_cmpR op_isN (pv 4) pe_non (nomark _)) (pss_cons (ps_asg (pe_call G_bezout (hr.mono (by decide)) rfl g_bezout kp_bezout b_bezout .nil pass0 (pa_cons (pv 3) (pa_cons (pv 5) pa_nil))) (pg_tup rfl (pgs_cons (pg_name (i := 6) sc_Stairs_put_at.nd rfl (Or.inl rfl)) (pgs_cons (pg_name (i := 7) sc_Stairs_put_at.nd rfl (Or.inl rfl)) (pgs_cons (pg_name (i := 8) sc_Stairs_put_at.nd rfl (Or.inl rfl)) pgs_nil)))))
        (pss_cons (ps_asg (pe_call G_multiple (hr.mono (by decide)) rfl g_multiple kp_multiple b_multiple .nil pass0 (pa_cons (pv 3) (pa_cons (pv 8) (pa_cons (pv 2) pa_nil)))) (pg_sub (pe_fld (pv 0) rfl) (pv 1) set_list))
        (pss_one (ps_ret (pe_call G_multiple (hr.mono (by decide)) rfl g_multiple kp_multiple b_multiple .nil pass0 (pa_cons (pv 3) (pa_cons (pe_op op_fdivW (pv 3) (pv 6)) (pa_cons (pv 2) pa_nil)))))))) pss_nil)
        (pss_cons (ps_set (i := 9) sc_Stairs_put_at.nd rfl (Or.inl rfl) (pe_ix ix_list (pv 4) (pv 1) (fun _ _ => rfl)))
        (pss_cons (ps_if (pt_cmpR op_eq (pe_op op_modN (pv 5) (pv 9)) pe_int (nomark _)) (pss_one (ps_ret (pe_call G_combined (hr.mono (by decide)) rfl g_combined kp_combined b_combined .nil pass0 (pa_cons (pv 3) (pa_cons pe_int (pa_cons (pv 2) (pa_cons (pe_un un_neg (pe_op op_fdivW (pv 5) (pv 9))) (pa_cons (pv 4) pa_nil)))))))) pss_nil)
        (pss_cons (ps_asg (pe_call G_bezout (hr.mono (by decide)) rfl g_bezout kp_bezout b_bezout .nil pass0 (pa_cons (pv 9) (pa_cons (pv 5) pa_nil))) (pg_tup rfl (pgs_cons (pg_name (i := 6) sc_Stairs_put_at.nd rfl (Or.inl rfl)) (pgs_cons (pg_name (i := 10) sc_Stairs_put_at.nd rfl (Or.inl rfl)) (pgs_cons (pg_name (i := 8) sc_Stairs_put_at.nd rfl (Or.inl rfl)) pgs_nil)))))
        (pss_cons (ps_asg (pe_call G_combined (hr.mono (by decide)) rfl g_combined kp_combined b_combined .nil pass0 (pa_cons (pv 3) (pa_cons (pv 8) (pa_cons (pv 2) (pa_cons (pv 10) (pa_cons (pv 4) pa_nil)))))) (pg_sub (pe_fld (pv 0) rfl) (pv 1) set_list))
        (pss_one (ps_ret (pe_call G_combined (hr.mono (by decide)) rfl g_combined kp_combined b_combined .nil pass0 (pa_cons (pv 3) (pa_cons (pe_op op_fdivW (pv 9) (pv 6)) (pa_cons (pv 2) (pa_cons (pe_un un_neg (pe_op op_fdivW (pv 5) (pv 6))) (pa_cons (pv 4) pa_nil)))))))))))))), ?_⟩
    have hSi : S[i]? = some (S[i]'(by rw [wf.len]; exact hi)) := List.getElem?_eq_getElem (by rw [wf.len]; exact hi)
    have hrN : (r.map V.int)[i]? = some (.int N) := by rw [List.getElem?_map, hN]; rfl
    have wr := rred_wd hrr hM2
    have wM : Wd M := by show M.natAbs < 2 ^ 200; omega
    have hNM : N < M := (hrr N (List.mem_of_getElem? hN)).2
    rcases hS.at_ hSi with ⟨e0, ev⟩ | ⟨a, s2, e0, ev, hal, ha⟩
    · refine ⟨_, rfl, p, C, dx, _, _, rfl, hp, T.cl, T.nM, flS_m M l, ?_⟩
      refine ⟨_, rfl, p, C, dx, _, _, rfl, hp, T.cl, T.nS, flS_s M l, _, rfl, l, vs, _, _, rfl, rfl, SqL.of hl, atI_nat ev, ?_⟩
      refine ⟨_, rfl, _, rfl, b, _, _, _, rfl, rfl, SqL.of hb, atI_nat hrN, _, _, _, rfl, ?_⟩
      refine ⟨_, rfl, rfl, true, congrArg V.bl (decide_eq_true rfl), iteT ?_⟩
      refine ⟨_, rfl, _, rfl, M, N, rfl, by omega, hN1, hM2, by omega, fun g lf f t H1 hg g1 hbz wlf wff sm ht => ?_⟩
      refine ⟨t, _, rfl, SqT.of ht, rfl, _, _, rfl, _, _, rfl, _, _, rfl, rfl, ?_⟩
      refine ⟨_, rfl, _, rfl, _, rfl, M, f, b, r, rfl, by omega, wff, sm _ _ hb, wr, by omega, fun q H2 s2 nq hq => ?_⟩
      refine ⟨_, rfl, p, C, dx, _, _, rfl, s2 _ _ (sm _ _ hp), T.cl, T.nS, flS_s M l, _, rfl, l, vs, _, i, rfl, rfl, s2 _ _ (sm _ _ hl), ix_at (by rw [hS.length, wf.len]; exact hi), ?_⟩
      have hgM : g.natAbs < 2 ^ 200 := by
        have : Int.gcd M N ≤ M.natAbs := Nat.gcd_le_left _ (by omega)
        omega
      have hql : q ≠ l := fun z => by rw [z, sm _ _ hl] at nq; cases nq
      have hpl : p ≠ l := fun z => by rw [z, hl] at hp; cases hp
      have b1 : But l H (upd H2 l (.lst (vs.set i (.ref q)))) := fun c o n e => by
        rw [upd_ne n]
        exact s2 _ _ (sm _ _ e)
      have st : StAt C (upd H2 l (.lst (vs.set i (.ref q)))) p l M (S.set i (some (mulRow M f r))) := ⟨⟨dx, b1 _ _ hpl hp⟩, _, upd_same, (hS.mono b1).set hql (by rw [upd_ne hql]; exact hq) i⟩
      refine ⟨_, rfl, _, rfl, _, rfl, _, _, rfl, rfl, wide_div (b := 200) (by omega) hgM (by decide) (by decide), _, rfl, M, M / g, b, r, rfl, by omega, ?_, b1 _ _ hbl hb, wr, by omega, fun q2 H3 s3 nq2 hq2 => ?_⟩
      · show (M / g).natAbs < 2 ^ 200
        have := Int.ediv_le_self g (show 0 ≤ M by omega)
        have := Int.ediv_nonneg (show 0 ≤ M by omega) (show 0 ≤ g by omega)
        omega
      · refine k _ _ q2 H3 (.inl ⟨by rw [hSi, e0], g, lf, f, hg, g1, hbz, rfl, rfl⟩) (b1.same s3) (st.same s3) hq2 fun z => ?_
        rw [z, upd_same] at nq2
        cases nq2
    · obtain ⟨hsl, hsr, ⟨P, hP, hP1, _⟩, _⟩ := wf.row i s2 (by rw [hSi, e0])
      have hsP : (s2.map V.int)[i]? = some (.int P) := by rw [List.getElem?_map, hP]; rfl
      have ws := rred_wd hsr hM2
      have hPM : P < M := (hsr P (List.mem_of_getElem? hP)).2
      have hPw : P.natAbs < 2 ^ 200 := by omega
      have hpl : p ≠ l := fun z => by rw [z, hl] at hp; cases hp
      refine ⟨_, rfl, p, C, dx, _, _, rfl, hp, T.cl, T.nM, flS_m M l, ?_⟩
      refine ⟨_, rfl, p, C, dx, _, _, rfl, hp, T.cl, T.nS, flS_s M l, _, rfl, l, vs, _, _, rfl, rfl, SqL.of hl, atI_nat ev, ?_⟩
      refine ⟨_, rfl, _, rfl, b, _, _, _, rfl, rfl, SqL.of hb, atI_nat hrN, _, _, _, rfl, ?_⟩
      refine ⟨_, rfl, rfl, false, congrArg V.bl (decide_eq_false (by intro z; cases z)), iteF ?_⟩
      refine ⟨_, rfl, _, rfl, a, _, _, _, rfl, rfl, SqL.of ha, atI_nat hsP, ?_⟩
      refine ⟨_, rfl, _, rfl, _, _, rfl, rfl, by omega, rfl, _, rfl, ?_⟩
      have ef : N.fmod P = N % P := Int.fmod_eq_emod_of_nonneg _ (by omega)
      refine ite2 (fun hd => ?_) (fun hd => ?_)
      · have h0 : N % P = 0 := by
          have this : V.int (N.fmod P) = V.int 0 := of_decide_eq_true hd
          rw [ef] at this
          injection this
        refine ⟨_, rfl, _, rfl, _, rfl, _, rfl, _, _, rfl, rfl, wide_div (b := 200) (by omega) hPw (by decide) (by decide), _, rfl, _, rfl, M, 1, -(N / P), b, a, r, s2, rfl, by omega, (by show (1 : Int).natAbs < 2 ^ 200; decide), (zdiv_wd (by omega) (by omega) (by omega)).2, hb, ha, wr, ws, by omega, by omega, fun q H2 s2' nq hq => ?_⟩
        refine k S _ q H2 (.inr ⟨s2, P, by rw [hSi, e0], hP, .inl ⟨h0, rfl, rfl⟩⟩) (fun c o n e => s2' _ _ e) (StAt.same ⟨⟨dx, hp⟩, vs, hl, hS⟩ s2') hq fun z => ?_
        rw [z, hl] at nq
        cases nq
      · refine ⟨_, rfl, _, rfl, P, N, rfl, hP1, hN1, by omega, by omega, fun g lf f t H1 hg g1 hbz wlf wff sm ht => ?_⟩
        refine ⟨t, _, rfl, SqT.of ht, rfl, _, _, rfl, _, _, rfl, _, _, rfl, rfl, ?_⟩
        refine ⟨_, rfl, _, rfl, _, rfl, _, rfl, _, rfl, M, f, lf, b, a, r, s2, rfl, by omega, wff, wlf, sm _ _ hb, sm _ _ ha, wr, ws, by omega, by omega, fun q H2 s2' nq hq => ?_⟩
        refine ⟨_, rfl, p, C, dx, _, _, rfl, s2' _ _ (sm _ _ hp), T.cl, T.nS, flS_s M l, _, rfl, l, vs, _, i, rfl, rfl, s2' _ _ (sm _ _ hl), ix_at (by rw [hS.length, wf.len]; exact hi), ?_⟩
        have hgM : g.natAbs < 2 ^ 200 := by
          have : Int.gcd P N ≤ P.natAbs := Nat.gcd_le_left _ (by omega)
          omega
        have hql : q ≠ l := fun z => by rw [z, sm _ _ hl] at nq; cases nq
        have b1 : But l H (upd H2 l (.lst (vs.set i (.ref q)))) := fun c o n e => by
          rw [upd_ne n]
          exact s2' _ _ (sm _ _ e)
        have st : StAt C (upd H2 l (.lst (vs.set i (.ref q)))) p l M (S.set i (some (comb M f r lf s2))) := ⟨⟨dx, b1 _ _ hpl hp⟩, _, upd_same, (hS.mono b1).set hql (by rw [upd_ne hql]; exact hq) i⟩
        refine ⟨_, rfl, _, rfl, _, rfl, _, _, rfl, rfl, wide_div (b := 200) (by omega) hgM (by decide) (by decide), _, rfl, _, rfl, _, rfl, _, _, rfl, rfl, wide_div (b := 200) (by omega) hgM (by decide) (by decide), _, rfl, _, rfl, M, P / g, -(N / g), b, a, r, s2, rfl, by omega, (zdiv_wd (by omega) (by omega) (by omega)).1, (zdiv_wd (by omega) (by omega) (by omega)).2, b1 _ _ hbl hb, b1 _ _ hal ha, wr, ws, by omega, by omega, fun q2 H3 s3 nq2 hq2 => ?_⟩
        refine k _ _ q2 H3 (.inr ⟨s2, P, by rw [hSi, e0], hP, .inr ⟨g, lf, f, hg, g1, hbz, rfl, rfl⟩⟩) (b1.same s3) (st.same s3) hq2 fun z => ?_
        rw [z, upd_same] at nq2
        cases nq2
end
end Wk

namespace Wk
open PySem L2 NumI
def spStInit (C : Addr) : Sp := fun vs H Q _ => ∃ (p dx : Addr) (M : Int) (n : Nat), vs = [.ref p, .int M, .int (n : Int)] ∧ H p = some (.ins C dx []) ∧ n ≤ 1000 ∧
  ∀ (l : Addr) (H' : Hp), But p H H' → H l = none → StAt C H' p l M (List.replicate n none) → Q .non H'
def spPut (C : Addr) : Sp := fun vs H Q _ => ∃ (p l b : Addr) (M : Int) (W n : Nat) (S : List (Option Row)) (r : Row), vs = [.ref p, .ref b] ∧ StAt C H p l M S ∧ 2 ≤ M ∧ M < 2 ^ 64 ∧ W ≤ 1000 ∧ n ≤ W ∧ WF M W n S ∧ r.length = W ∧ RRed M r ∧
  H b = some (.lst (r.map V.int)) ∧ b ≠ l ∧ ∀ (S' : List (Option Row)) (r' : Row) (b' : Addr) (H' : Hp), Ch M S r n S' r' → But l H H' → StAt C H' p l M S' → H' b' = some (.lst (r'.map V.int)) → b' ≠ l → Q (.ref b') H'
def spSettled (K : PySem.W.Frag) (C : Addr) : Sp := fun vs H Q _ => ∃ (p l : Addr) (M : Int) (W n : Nat) (S : List (Option Row)), vs = [.ref p] ∧ StAt C H p l M S ∧ 2 ≤ M ∧ M < 2 ^ 64 ∧ W ≤ 1000 ∧ n ≤ W ∧ WF M W n S ∧
  NewMat K H ((settle M n S n).map (·.2)) Q
theorem flat_rep {α : Type} {x : α} (n : Nat) : (List.replicate n [x]).flatten = List.replicate n x := by
  induction n with
  | zero => rfl
  | succ n ih => rw [List.replicate_succ, List.flatten_cons, ih]; rfl
theorem But.trans {l : Addr} {H H' H2 : Hp} (a : But l H H') (b : But l H' H2) : But l H H2 := fun c o n e => b c o n (a c o n e)
section
variable {P : Program} {w : World} {K : PySem.W.Frag} {mg : Str → Option Value} {base : Heap} {C fI fP fA fS : Addr}
theorem ok_st_init {f : Addr} {fd : FuncData} (F : Fun K "__init__" "Stairs.__init__" s_Stairs_init f fd) (T : TxtS K mg C fI fP fA fS) : FnOk P w K mg base CX0 1 f fd ["self", "modulus", "places"] (spStInit C) := by
  refine F.ok sc_Stairs_init (fun vs H Q E h => ?_) (fun cdv A outer s H vs Q E hr h => ?_)
  · obtain ⟨p, dx, M, n, rfl, _⟩ := h
    rfl
  · obtain ⟨p, dx, M, n, rfl, hp, hn, k⟩ := h
    refine ⟨_, (pss_cons (ps_fld (pv 0) (pv 1) rfl)
        (pss_one (ps_fld (pv 0) (pe_op op_rep (pe_lst (pa_cons pe_non pa_nil)) (pv 2)) rfl))), ?_⟩
    refine ⟨_, rfl, _, rfl, p, C, dx, _, rfl, hp, T.cl, T.nM, (by show 0 < 1000; decide), ?_⟩
    refine ⟨(by show 1 ≤ sizeLine; decide), fun q hq => ⟨_, rfl, q, n, [.non], rfl, rfl, upd_same, by omega, by omega, Nat.le_trans (by simp; omega) (show 1000 ≤ sizeLine by decide), fun l hl => ⟨_, rfl, p, C, dx, putF "modulus" (.int M) [], rfl, ?_, T.cl, T.nS, (by show 1 < 1000; decide), ?_⟩⟩⟩
    · rw [upd_ne (fun z => by rw [← z, upd_ne (fun y => by rw [← y, upd_same] at hq; cases hq), upd_same] at hl; cases hl), upd_ne (fun y => by rw [← y, upd_same] at hq; cases hq), upd_same]
    · have hqp : p ≠ q := fun y => by rw [← y, upd_same] at hq; cases hq
      have hlp : p ≠ l := fun y => by rw [← y, upd_ne hqp, upd_same] at hl; cases hl
      have hlq : l ≠ q := fun y => by rw [y, upd_same] at hl; cases hl
      refine k l _ (fun b o n e => ?_) ?_ ⟨⟨dx, upd_same⟩, List.replicate n .non, ?_, .nones l _ n⟩
      · have bq : b ≠ q := fun y => by
          subst y
          rw [upd_ne (Ne.symm hqp), e] at hq
          cases hq
        have bl : b ≠ l := fun y => by rw [← y, upd_ne bq, upd_ne n, e] at hl; cases hl
        rw [upd_ne n, upd_ne bl, upd_ne bq, upd_ne n]
        exact e
      · rw [upd_ne hlq, upd_ne (Ne.symm hlp)] at hl
        exact hl
      · rw [upd_ne (Ne.symm hlp), upd_same]
        congr 2
        rw [Int.toNat_natCast]
        exact flat_rep n
theorem ok_put {f : Addr} {fd fdA : FuncData} (F : Fun K "put" "Stairs.put" s_Stairs_put f fd) (T : TxtS K mg C fI fP fA fS)
    (G_put_at : FnOk P w K mg base CX0 2 fA fdA ["self", "place", "row"] (spPutAt C)) (b_put_at : Binds K fdA ["self", "place", "row"] []) :
    FnOk P w K mg base CX0 3 f fd ["self", "row"] (spPut C) := by
  refine F.ok sc_Stairs_put (fun vs H Q E h => ?_) (fun cdv A outer s H vs Q E hr h => ?_)
  · obtain ⟨p, l, b, M, W, n, S, r, rfl, _⟩ := h
    rfl
  · obtain ⟨p, l, b, M, W, n, S, r, rfl, hSt, hM, hM2, hW, hn, wf, hrl, hrr, hb, hbl, k⟩ := h
    refine ⟨_, (pss_cons (ps_for PassesOwn.never rfl (pi_range1 rfl T.f_range (pa_cons (pe_callB call_len_seq rfl T.f_len PySem.boot_len (pa_cons (pe_fld (pv 0) rfl) pa_nil)) pa_nil)) (pg_name (i := 2) sc_Stairs_put.nd rfl (Or.inl rfl)) (pss_one (ps_if (pt_cmpR op_ne (pe_ix ix_list (pv 1) (pv 2) (fun _ _ => rfl)) pe_int (nomark _)) (pss_one (ps_set (i := 1) sc_Stairs_put.nd rfl (Or.inl rfl) (pe_meth (pv 0) T.cl T.m_put_at G_put_at (hr.mono (by decide)) b_put_at .nil pass0 (pa_cons (pv 2) (pa_cons (pv 1) pa_nil))))) pss_nil)))
        (pss_one (ps_ret (pv 1)))), ?_⟩
    obtain ⟨⟨dx, hp⟩, vs, hl, hS⟩ := id hSt
    have hvl : vs.length = n := hS.length.trans wf.len
    refine ⟨_, rfl, p, C, dx, _, _, rfl, hp, T.cl, T.nS, flS_s M l, _, _, rfl, .inl (SqL.of hl), (n : Int), (by rw [hvl]), by omega, by omega, ?_⟩
    refine for_it (walk_range (lo := 0) (n := n)) (fun i σ H' => ∃ (x : Option V) (b' : Addr) (S' : List (Option Row)) (r' : Row), σ = [some (.ref p), some (.ref b'), x] ∧ Ch M S r i S' r' ∧ But l H H' ∧ StAt C H' p l M S' ∧ H' b' = some (.lst (r'.map V.int)) ∧ b' ≠ l) ⟨none, b, S, r, rfl, .base, fun _ _ _ e => e, hSt, hb, hbl⟩ (fun _ _ _ _ _ => trivial) ?_ ?_
    · rintro i v σ H1 H1' hi ⟨x, b', S', r', rfl, ch, bt, st, hb', hbl'⟩ ⟨rfl, rfl⟩
      obtain ⟨wf', hl', hr', hz'⟩ := ch.wf hM wf hrl hrr
      have hil : i < r'.length := by omega
      have hri : r'[i]? = some r'[i] := List.getElem?_eq_getElem hil
      have hrN : (r'.map V.int)[i]? = some (.int r'[i]) := by rw [List.getElem?_map, hri]; rfl
      obtain ⟨⟨dx', hp'⟩, _⟩ := id st
      show tIfS _ _ _ _ [some (V.ref p), some (V.ref b'), some (V.int (0 + (i : Int)))] H1'
      rw [Int.zero_add]
      refine ⟨_, rfl, _, rfl, b', _, _, _, rfl, rfl, SqL.of hb', atI_nat hrN, rfl, _, rfl, ?_⟩
      by_cases h0 : r'[i] = 0
      · rw [h0]
        refine iteNS rfl ?_
        exact ⟨_, b', S', r', rfl, ch.skip (by rw [hri, h0]), bt, st, hb', hbl'⟩
      · have e3 : (!decide (V.int r'[i] = V.int 0)) = true := by
          have : ¬ V.int r'[i] = V.int 0 := fun z => h0 (by injection z)
          simp [this]
        rw [e3]
        refine iteT ?_
        have hN0 := hr' _ (List.mem_of_getElem? hri)
        refine ⟨_, rfl, p, dx', flS M l, rfl, hp', flS_no M l (by decide +kernel) (by decide +kernel), _, rfl, _, rfl, p, l, b', i, M, r'[i], W, n, S', r', rfl, st, hM, hM2, hW, wf', hi, hl', hr', hri, by omega, hb', hbl', fun S2 r2 b2 H2 ps bt2 st2 hb2 hbl2 => ?_⟩
        exact ⟨_, b2, S2, r2, rfl, ch.step hri (by omega) ps, bt.trans bt2, st2, hb2, hbl2⟩
    · rintro σ H1 ⟨x, b', S', r', rfl, ch, bt, st, hb', hbl'⟩
      exact ⟨_, rfl, k S' r' b' H1 ch bt st hb' hbl'⟩
/-- pairs of a place and a row, in a list at t -/
def PairsAre (t : Addr) (H : Hp) (us : List V) (L : List (Nat × Row)) : Prop := us.length = L.length ∧ ∀ (k q : Nat) (s : Row), L[k]? = some (q, s) → ∃ u a, us[k]? = some (.ref u) ∧ u ≠ t ∧ a ≠ t ∧ H u = some (.tup [.int (q : Int), .ref a]) ∧ H a = some (.lst (s.map V.int))
theorem PairsAre.mono {t : Addr} {H H' : Hp} {us : List V} {L : List (Nat × Row)} (h : PairsAre t H us L) (e : But t H H') : PairsAre t H' us L := ⟨h.1, fun k q s z => by
  obtain ⟨u, a, h1, h2, h3, h4, h5⟩ := h.2 k q s z
  exact ⟨u, a, h1, h2, h3, e _ _ h2 h4, e _ _ h3 h5⟩⟩
theorem PairsAre.snoc {t : Addr} {H : Hp} {us : List V} {L : List (Nat × Row)} {u a : Addr} {q : Nat} {s : Row} (h : PairsAre t H us L) (h2 : u ≠ t) (h3 : a ≠ t) (h4 : H u = some (.tup [.int (q : Int), .ref a])) (h5 : H a = some (.lst (s.map V.int))) : PairsAre t H (us ++ [.ref u]) (L ++ [(q, s)]) := by
  refine ⟨by simp [h.1], fun k q2 s2 e => ?_⟩
  rcases Nat.lt_trichotomy k L.length with hk | hk | hk
  · rw [List.getElem?_append_left hk] at e
    obtain ⟨u2, a2, g1, g2⟩ := h.2 k q2 s2 e
    exact ⟨u2, a2, by rw [List.getElem?_append_left (by rw [h.1]; exact hk)]; exact g1, g2⟩
  · rw [hk] at e
    simp at e
    obtain ⟨rfl, rfl⟩ := e
    exact ⟨u, a, by rw [hk, ← h.1]; simp, h2, h3, h4, h5⟩
  · rw [List.getElem?_eq_none (by simp; omega)] at e
    cases e
theorem PairsAre.rev {t : Addr} {H : Hp} {us : List V} {L : List (Nat × Row)} (h : PairsAre t H us L) : PairsAre t H us.reverse L.reverse := by
  refine ⟨by simp [h.1], fun k q s e => ?_⟩
  have hk : k < L.length := by
    have := (List.getElem?_eq_some_iff.mp e).1
    simpa using this
  rw [List.getElem?_reverse hk] at e
  obtain ⟨u, a, g1, g2⟩ := h.2 _ q s e
  exact ⟨u, a, by rw [List.getElem?_reverse (by rw [h.1]; exact hk), h.1]; exact g1, g2⟩
theorem ok_settled {f fC : Addr} {fd fdC : FuncData} (F : Fun K "settled" "Stairs.settled" s_Stairs_settled f fd) (T : TxtS K mg C fI fP fA fS)
    (G_combined : FnOk P w K mg base CX0 1 fC fdC ["modulus", "factor", "row", "other_factor", "other"] (spComb K)) (g_combined : mg "combined" = some (.ref fC)) (kp_combined : PySem.W.keepIn K (.ref fC) = true) (b_combined : Binds K fdC ["modulus", "factor", "row", "other_factor", "other"] []) :
    FnOk P w K mg base CX0 2 f fd ["self"] (spSettled K C) := by
  refine F.ok sc_Stairs_settled (fun vs H Q E h => ?_) (fun cdv A outer s H vs Q E hr h => ?_)
  · obtain ⟨p, l, M, W, n, S, rfl, _⟩ := h
    rfl
  · obtain ⟨p, l, M, W, n, S, rfl, hSt, hM, hM2, hW, hn, wf, k⟩ := h
    refine ⟨_, (pss_cons (ps_set (i := 1) sc_Stairs_settled.nd rfl (Or.inl rfl) (pe_lst pa_nil))
        (pss_cons (ps_for PassesOwn.never rfl (pi_revR rfl T.f_reversed (prg_1 rfl T.f_range (pe_callB call_len_seq rfl T.f_len PySem.boot_len (pa_cons (pe_fld (pv 0) rfl) pa_nil)))) (pg_name (i := 2) sc_Stairs_settled.nd rfl (Or.inl rfl)) (pss_cons (ps_set (i := 3) sc_Stairs_settled.nd rfl (Or.inl rfl) (pe_ix ix_list (pe_fld (pv 0) rfl) (pv 2) (fun _ _ => rfl)))
        (pss_one (ps_if (pt_cmpR op_notN (pv 3) pe_non (nomark _)) (pss_cons (ps_for PassesOwn.never rfl (pi_list (pe_revL (pv 1))) (pg_tup rfl (pgs_cons (pg_name (i := 4) sc_Stairs_settled.nd rfl (Or.inl rfl)) (pgs_cons (pg_name (i := 5) sc_Stairs_settled.nd rfl (Or.inl rfl)) pgs_nil))) (pss_one (ps_if (pt_cmpR op_ge (pe_ix ix_list (pv 3) (pv 4) (fun _ _ => rfl)) (pe_ix ix_list (pv 5) (pv 4) (fun _ _ => rfl)) (nomark _)) (pss_one (ps_set (i := 3) sc_Stairs_settled.nd rfl (Or.inl rfl) (pe_call G_combined (hr.mono (by decide)) rfl g_combined kp_combined b_combined .nil pass0 (pa_cons (pe_fld (pv 0) rfl) (pa_cons pe_int (pa_cons (pv 3) (pa_cons (pe_un un_neg (pe_op op_fdivW (pe_ix ix_list (pv 3) (pv 4) (fun _ _ => rfl)) (pe_ix ix_list (pv 5) (pv 4) (fun _ _ => rfl)))) (pa_cons (pv 5) pa_nil)))))))) pss_nil)))
        (pss_one (ps_expr (pe_bm PySem.F.plainAttrs_list PySem.F.slot_list_append PySem.F.type_list_append mt_append (pv 1) (pa_cons (pe_tup (pa_cons (pv 2) (pa_cons (pv 3) pa_nil))) pa_nil))))) pss_nil))))
        (pss_one (ps_ret (pe_callTy (call_tupleK (K := K) rfl) rfl T.f_tuple (by decide +kernel) (pa_cons (pe_lc (own := [("_", 6), ("row", 3)]) (g := gTup K 2 (gCons (gName 6) (gCons (gName 3) gNil))) rfl sc_Stairs_settled.nd (pi_list (pe_revL (pv 1))) (blkOk_by (N := ["self", "lessened", "place", "row", "lower", "step", "_"]) (sc := defScope s_Stairs_settled) (by decide +kernel)) (fun _ _ _ _ _ => (pg_tupK rfl rfl (pgs_cons (pg_name (i := 6) sc_Stairs_settled.nd rfl (Or.inl rfl)) (pgs_cons (pg_name (i := 3) sc_Stairs_settled.nd rfl (Or.inl rfl)) pgs_nil)))) (fun _ _ _ _ _ => pts_nil) (fun _ _ _ _ _ => (pe_callTy (call_tupleK (K := K) rfl) rfl T.f_tuple (by decide +kernel) (pa_cons (pv 3) pa_nil)))) pa_nil)))))), ?_⟩
    obtain ⟨⟨dx, hp⟩, vs, hl, hS⟩ := id hSt
    have hvl : vs.length = n := hS.length.trans wf.len
    have hpt : ∀ {t}, H t = none → p ≠ t := fun h z => by rw [← z, hp] at h; cases h
    refine ⟨Nat.zero_le _, fun t ht => ?_⟩
    have sG : Same H (upd H t (.lst [])) := same_upd ht
    have gt : (upd H t (.lst [])) t = some (.lst []) := upd_same
    obtain ⟨G, hG⟩ : ∃ G, G = upd H t (.lst []) := ⟨_, rfl⟩
    rw [← hG] at sG gt
    rw [← hG]
    refine ⟨_, rfl, p, C, dx, _, _, rfl, sG _ _ hp, T.cl, T.nS, flS_s M l, _, _, rfl, .inl (SqL.of (sG _ _ hl)), (n : Int), (by rw [hvl]), by omega, by omega, by omega, by omega, ?_⟩
    refine for_it (walk_rangeC (c := -1) (n := n)) (fun i σ H' => ∃ (x2 x3 x4 x5 : Option V) (us : List V), σ = [some (.ref p), some (.ref t), x2, x3, x4, x5, none] ∧ Same H H' ∧ H' t = some (.lst us) ∧ PairsAre t H' us (settle M n S i).reverse) ⟨none, none, none, none, [], rfl, sG, gt, rfl, fun k q s e => by simp [settle] at e⟩ (fun _ _ _ _ _ => trivial) ?_ ?_
    · rintro i v σ H1 H1' hi ⟨x2, x3, x4, x5, us, rfl, s1, h1t, hPr⟩ ⟨rfl, rfl⟩
      have ep : (0 + (((n : Int) - 0).toNat : Nat) - 1 + (i : Nat) * (-1) : Int) = ((n - 1 - i : Nat) : Int) := by omega
      show tSeq _ _ _ [some (V.ref p), some (V.ref t), some (V.int (0 + (((n : Int) - 0).toNat : Nat) - 1 + (i : Nat) * (-1))), x3, x4, x5, none] H1'
      rw [ep]
      have hlt : n - 1 - i < S.length := by rw [wf.len]; omega
      have hSi : S[n - 1 - i]? = some S[n - 1 - i] := List.getElem?_eq_getElem hlt
      have hgD : S.getD (n - 1 - i) none = S[n - 1 - i] := by rw [List.getD_eq_getElem?_getD, hSi]; rfl
      rcases hS.at_ hSi with ⟨e0, ev⟩ | ⟨a, r, e0, ev, hal, ha⟩
      · refine ⟨_, rfl, p, C, dx, _, _, rfl, s1 _ _ hp, T.cl, T.nS, flS_s M l, _, rfl, l, vs, _, _, rfl, rfl, SqL.of (s1 _ _ hl), atI_nat ev, ?_⟩
        refine ⟨_, rfl, rfl, false, congrArg V.bl (by simp), iteF ?_⟩
        refine ⟨_, _, _, _, us, rfl, s1, h1t, ?_⟩
        have : settle M n S (i + 1) = settle M n S i := by
          show (match S.getD (n - 1 - i) none with | none => _ | some r => _) = _
          rw [hgD, e0]
        rw [this]
        exact hPr
      · refine ⟨_, rfl, p, C, dx, _, _, rfl, s1 _ _ hp, T.cl, T.nS, flS_s M l, _, rfl, l, vs, _, _, rfl, rfl, SqL.of (s1 _ _ hl), atI_nat ev, ?_⟩
        refine ⟨_, rfl, rfl, true, congrArg V.bl (by simp), iteT ?_⟩
        have eS : settle M n S (i + 1) = (n - 1 - i, lessen M r (settle M n S i)) :: settle M n S i := by
          show (match S.getD (n - 1 - i) none with | none => _ | some r => _) = _
          rw [hgD, e0]
        obtain ⟨rl, rr, _, _⟩ := wf.row _ _ (hSi.trans (by rw [e0]))
        have hL := settle_lok hM wf hn (show i ≤ n by omega)
        have hLl := settle_len M n S i
        generalize settle M n S i = L at *
        generalize hFin : lessen M r L = rF at *
        have hat : a ≠ t := fun z => by rw [z, ht] at ha; cases ha
        refine ⟨_, rfl, t, us, rfl, SqL.of h1t, fun p2 np2 => ⟨p2, rfl, ⟨_, SqL.of upd_same⟩, ?_⟩⟩
        have s2' : Same H1' (upd H1' p2 (.lst us.reverse)) := same_upd np2
        have g2 : (upd H1' p2 (.lst us.reverse)) p2 = some (.lst us.reverse) := upd_same
        generalize upd H1' p2 (.lst us.reverse) = H2 at s2' g2 ⊢
        have hPr2 : PairsAre t H2 us.reverse L := by
          have := (hPr.mono (fun b o _ e => s2' b o e)).rev
          rw [List.reverse_reverse] at this
          exact this
        refine for_it (walk_list (xs := us.reverse)) (fun k σ H' => ∃ (y4 y5 : Option V) (b : Addr) (cur : Row), σ = [some (.ref p), some (.ref t), some (.int ((n - 1 - i : Nat) : Int)), some (.ref b), y4, y5, none] ∧ Same H2 H' ∧ H' b = some (.lst (cur.map V.int)) ∧ b ≠ t ∧ cur.length = W ∧ RRed M cur ∧ lessen M cur (L.drop k) = rF) ⟨_, _, a, r, rfl, fun _ _ e => e, s2' _ _ (s1 _ _ ha), hat, rl, rr, hFin⟩ (fun k σ H' _ ⟨_, _, _, _, _, s3, _⟩ => SqL.of (s3 _ _ g2)) ?_ ?_
        · rintro k v σ H3 H3' hk ⟨y4, y5, b, cur, rfl, s3, hb, hbt, cl, cr, ce⟩ ⟨rfl, hv⟩
          have hkL : k < L.length := by rw [← hPr2.1]; exact hk
          have hLk : L[k]? = some (L[k].1, L[k].2) := List.getElem?_eq_getElem hkL
          obtain ⟨u, a2, g1, hut, hat2, hu, ha2⟩ := hPr2.2 k _ _ hLk
          rw [g1] at hv
          cases hv
          obtain ⟨sl, sr, hq, hs1⟩ := hL _ _ (List.mem_of_getElem? hLk)
          generalize hq0 : L[k].1 = q at *
          generalize hs0 : L[k].2 = s2 at *
          have hcq : cur[q]? = some (cur.getD q 0) := by rw [List.getD_eq_getElem?_getD, List.getElem?_eq_getElem (by omega)]; rfl
          have hsq : s2[q]? = some (s2.getD q 0) := by rw [List.getD_eq_getElem?_getD, List.getElem?_eq_getElem (by omega)]; rfl
          have hcq' : (cur.map V.int)[q]? = some (.int (cur.getD q 0)) := by rw [List.getElem?_map, hcq]; rfl
          have hsq' : (s2.map V.int)[q]? = some (.int (s2.getD q 0)) := by rw [List.getElem?_map, hsq]; rfl
          have hdrop : L.drop k = (q, s2) :: L.drop (k + 1) := by
            rw [List.drop_eq_getElem_cons hkL, ← hq0, ← hs0]
          have hx := cr _ (List.mem_of_getElem? hcq)
          have hy := sr _ (List.mem_of_getElem? hsq)
          generalize hxe : cur.getD q 0 = x at *
          generalize hye : s2.getD q 0 = y at *
          rw [hdrop] at ce
          unfold lessen at ce
          rw [hxe, hye] at ce
          refine ⟨u, _, rfl, SqT.of (s3 _ _ hu), rfl, _, _, rfl, _, _, rfl, rfl, ?_⟩
          refine ⟨_, rfl, _, rfl, b, _, _, _, rfl, rfl, SqL.of hb, atI_nat hcq', _, rfl, _, rfl, a2, _, _, _, rfl, rfl, SqL.of (s3 _ _ ha2), atI_nat hsq', x, y, rfl, rfl, _, rfl, ?_⟩
          refine ite2 (fun hd => ?_) (fun hd => ?_)
          · have hxy : x ≥ y := of_decide_eq_true hd
            rw [if_pos hxy] at ce
            have hyw : y.natAbs < 2 ^ 200 := by omega
            refine ⟨_, rfl, p, C, dx, _, _, rfl, s3 _ _ (s2' _ _ (s1 _ _ hp)), T.cl, T.nM, flS_m M l, _, rfl, _, rfl, _, rfl, b, _, _, _, rfl, rfl, SqL.of hb, atI_nat hcq', _, rfl, _, rfl, a2, _, _, _, rfl, rfl, SqL.of (s3 _ _ ha2), atI_nat hsq', _, _, rfl, rfl, wide_div (b := 200) (by omega) hyw (by decide) (by decide), _, rfl, _, rfl, M, 1, -(x / y), b, a2, cur, s2, rfl, by omega, (by show (1 : Int).natAbs < 2 ^ 200; decide), (zdiv_wd (by omega) (by omega) (by omega)).2, hb, s3 _ _ ha2, rred_wd cr hM2, rred_wd sr hM2, by omega, by omega, fun b2 H4 s4 nb2 hb2 => ?_⟩
            refine ⟨_, _, b2, _, rfl, same_trans s3 s4, hb2, fun z => ?_, by simp [comb, cl, sl], comb_red (by omega) _ _ _ _, ce⟩
            rw [z, s3 _ _ (s2' _ _ h1t)] at nb2
            cases nb2
          · have hxy : ¬ x ≥ y := fun z => hd (decide_eq_true z)
            rw [if_neg hxy] at ce
            exact ⟨_, _, b, cur, rfl, s3, hb, hbt, cl, cr, ce⟩
        · rintro σ H3 ⟨y4, y5, b, cur, rfl, s3, hb, hbt, cl, cr, ce⟩
          have hkl : us.reverse.length = L.length := hPr2.1
          rw [hkl, List.drop_length] at ce
          have ce : cur = rF := ce
          have g3 : H3 t = some (.lst us) := s3 _ _ (s2' _ _ h1t)
          have sAll : Same H H3 := same_trans s1 (same_trans s2' s3)
          have hP3 : PairsAre t H3 us L.reverse := hPr.mono fun b o _ e => s3 _ _ (s2' _ _ e)
          have hus : us.length ≤ 1000 := by
            have e1 := hPr2.1
            simp at e1
            omega
          refine ⟨_, rfl, .inl ⟨rfl, _, SqL.of g3⟩, _, rfl, _, rfl, (by show 2 ≤ sizeLine; decide), fun u nu => ⟨t, _, _, rfl, rfl, (by rw [upd_ne (ne_of_none g3 nu)]; exact g3), Nat.le_trans (by simp; omega) (show 1001 ≤ sizeLine by decide), ?_⟩⟩
          have hut : u ≠ t := fun z => by rw [z, g3] at nu; cases nu
          have b4 : But t H3 (upd (upd H3 u (.tup [.int ((n - 1 - i : Nat) : Int), .ref b])) t (.lst (us ++ [.ref u]))) := fun c o hc e => by
            rw [upd_ne hc, upd_ne (ne_of_none e nu)]
            exact e
          refine ⟨_, _, _, _, us ++ [.ref u], rfl, fun c o e => b4 c o (ne_of_none e ht) (sAll _ _ e), upd_same, ?_⟩
          rw [eS, List.reverse_cons, ← ce]
          exact (hP3.mono b4).snoc hut hbt (by rw [upd_ne hut, upd_same]) (b4 _ _ hbt hb)
    · rintro σ H1 ⟨x2, x3, x4, x5, us, rfl, s1, h1t, hPr⟩
      refine ⟨_, rfl, t, us, rfl, SqL.of h1t, fun p2 np2 => ⟨p2, rfl, ⟨_, SqL.of upd_same⟩, fun D hD => ?_⟩⟩
      have s2 : Same H1 (upd H1 p2 (.lst us.reverse)) := same_upd np2
      have g2 : (upd H1 p2 (.lst us.reverse)) p2 = some (.lst us.reverse) := upd_same
      generalize upd H1 p2 (.lst us.reverse) = H2 at s2 g2 hD ⊢
      have hPr2 : PairsAre t H2 us.reverse (settle M n S n) := by
        have := (hPr.mono (fun b o _ e => s2 b o e)).rev
        rw [List.reverse_reverse] at this
        exact this
      have hLl := settle_len M n S n
      refine lc_rows (K := K) (walk_list (xs := us.reverse)) hD (by rw [hPr2.1]; omega) ((settle M n S n).map (·.2)) (by rw [List.length_map, hPr2.1]) (fun H' e => SqL.of (e _ _ g2)) ?_ (fun acc H3 e3 s3 hR => tup_read e3 hR (same_trans s1 (same_trans s2 s3)) k)
      rintro i r x H3 H3' Fn Nn hi hr3 fin s3 ⟨rfl, hv⟩
      rw [List.getElem?_map] at hr3
      cases hLi : (settle M n S n)[i]? with
      | none => rw [hLi] at hr3; cases hr3
      | some qs =>
        rw [hLi] at hr3
        cases hr3
        obtain ⟨u, a, g1, hut, hat, hu, ha⟩ := hPr2.2 i qs.1 qs.2 hLi
        rw [g1] at hv
        cases hv
        exact ⟨u, _, rfl, SqT.of (s3 _ _ hu), rfl, _, _, rfl, _, _, rfl, rfl, rfl, yesT ⟨_, rfl, a, _, rfl, .inl ⟨SqL.of (s3 _ _ ha), fun q nq => fin q _ (same_upd nq) upd_same⟩⟩⟩
end
end Wk

namespace Wk
open PySem L2 NumI
abbrev s_undone : Stmt := top 13
theorem sc_undone : FnScope ["modulus", "matrix", "size", "stairs", "place", "row", "step", "number"] ["modulus", "matrix"] (defScope s_undone) := ⟨rfl, rfl, rfl, by decide +kernel, rfl, by decide +kernel, by decide +kernel⟩

def wUnd (K : PySem.W.Frag) (M : Int) (n : Nat) (A : Mat) (H : Hp) (Q : VK) : Prop :=
  (∀ S H', Puts M n A n S → (∃ i, i < n ∧ (S[i]? = some none ∨ ∃ s x, S[i]? = some (some s) ∧ s[i]? = some x ∧ x ≠ 1)) → Same H H' → Q .non H') ∧
  (∀ S p H', Puts M n A n S → (∀ i, i < n → ∃ s, S[i]? = some (some s) ∧ s[i]? = some 1) → Same H H' → MatAt K H' p ((settle M n S n).map fun qs => qs.2.drop n) → Q (.ref p) H')
def spUndone (K : PySem.W.Frag) : Sp := fun vs H Q _ => ∃ (M : Int) (a : Addr) (A : Mat) (n : Nat), vs = [.int M, .ref a] ∧ 2 ≤ M ∧ M < 2 ^ 64 ∧ MatAt K H a A ∧ A.length = n ∧ (∀ r ∈ A, r.length = n) ∧ 1 ≤ n ∧ n ≤ 400 ∧ wUnd K M n A H Q
section
variable {P : Program} {w : World} {K : PySem.W.Frag} {mg : Str → Option Value} {base : Heap} {C fI fP fA fS : Addr}
theorem ok_undone {f fU : Addr} {fd fdI fdP fdS fdU : FuncData} (F : Fun K "undone" "undone" s_undone f fd) (T : TxtS K mg C fI fP fA fS)
    (G_init : FnOk P w K mg base CX0 1 fI fdI ["self", "modulus", "places"] (spStInit C)) (b_init : Binds K fdI ["self", "modulus", "places"] [])
    (G_put : FnOk P w K mg base CX0 3 fP fdP ["self", "row"] (spPut C)) (b_put : Binds K fdP ["self", "row"] [])
    (G_settled : FnOk P w K mg base CX0 2 fS fdS ["self"] (spSettled K C)) (b_settled : Binds K fdS ["self"] [])
    (G_unit : FnOk P w K mg base CX0 1 fU fdU ["size", "place"] spUnit) (g_unit : mg "unit" = some (.ref fU)) (kp_unit : PySem.W.keepIn K (.ref fU) = true) (b_unit : Binds K fdU ["size", "place"] []) :
    FnOk P w K mg base CX0 4 f fd ["modulus", "matrix"] (spUndone K) := by
  refine F.ok sc_undone (fun vs H Q E h => ?_) (fun cdv A outer s H vs Q E hr h => ?_)
  · obtain ⟨M, a, A, n, rfl, _⟩ := h
    rfl
  · obtain ⟨M, a, Am, n, rfl, hM, hM2, ⟨vs, hA, hR⟩, lA, hrow, n1, n2, kN, kY⟩ := h
    refine ⟨_, (pss_cons (ps_set (i := 2) sc_undone.nd rfl (Or.inr rfl) (pe_callB call_len_seq rfl T.f_len PySem.boot_len (pa_cons (pv 1) pa_nil)))
        (pss_cons (ps_set (i := 3) sc_undone.nd rfl (Or.inl rfl) (pe_make T.mkr G_init (hr.mono (by decide)) rfl T.mgC b_init .nil pass0 (pa_cons (pv 0) (pa_cons (pv 2) pa_nil))))
        (pss_cons (ps_for PassesOwn.never rfl (ZM.pi_enumT rfl T.f_enumerate (pa_cons (pv 1) pa_nil)) (pg_tup rfl (pgs_cons (pg_name (i := 4) sc_undone.nd rfl (Or.inl rfl)) (pgs_cons (pg_name (i := 5) sc_undone.nd rfl (Or.inl rfl)) pgs_nil))) (pss_one (ps_expr (pe_meth (pv 3) T.cl T.m_put G_put (hr.mono (by decide)) b_put .nil pass0 (pa_cons (pe_op op_cat (pe_lc (own := [("number", 7)]) (g := gName 7) rfl sc_undone.nd (pi_tup (pv 5)) (blkOk_by (N := ["modulus", "matrix", "size", "stairs", "place", "row", "step", "number"]) (sc := defScope s_undone) (by decide +kernel)) (fun _ _ _ _ _ => (pg_name (i := 7) sc_undone.nd rfl (Or.inl rfl))) (fun _ _ _ _ _ => pts_nil) (fun _ _ _ _ _ => (pe_op op_modN (pv 7) (pv 0)))) (pe_callTy (call_listK (K := K) rfl) rfl T.f_list (by decide +kernel) (pa_cons (pe_call G_unit (hr.mono (by decide)) rfl g_unit kp_unit b_unit .nil pass0 (pa_cons (pv 2) (pa_cons (pv 4) pa_nil))) pa_nil))) pa_nil)))))
        (pss_cons (ps_for PassesOwn.never rfl (pi_enum rfl T.f_enumerate (pa_cons (pe_fld (pv 3) rfl) pa_nil)) (pg_tup rfl (pgs_cons (pg_name (i := 4) sc_undone.nd rfl (Or.inl rfl)) (pgs_cons (pg_name (i := 6) sc_undone.nd rfl (Or.inl rfl)) pgs_nil))) (pss_one (ps_if (PW.pt (pw_or (pt_cmpR op_isN (pv 6) pe_non (nomark _)) (pw_or1 (pt_cmpR op_ne (pe_ix ix_list (pv 6) (pv 4) (fun _ _ => rfl)) pe_int (nomark _))))) (pss_one (ps_ret pe_non)) pss_nil)))
        (pss_one (ps_ret (pe_callTy (call_tupleK (K := K) rfl) rfl T.f_tuple (by decide +kernel) (pa_cons (pe_lc (own := [("row", 5)]) (g := gName 5) rfl sc_undone.nd (pi_tup (pe_meth0 (pv 3) T.cl T.m_settled G_settled (hr.mono (by decide)) b_settled .nil pass0)) (blkOk_by (N := ["modulus", "matrix", "size", "stairs", "place", "row", "step", "number"]) (sc := defScope s_undone) (by decide +kernel)) (fun _ _ _ _ _ => (pg_name (i := 5) sc_undone.nd rfl (Or.inl rfl))) (fun _ _ _ _ _ => pts_nil) (fun _ _ _ _ _ => (pe_slice (sl_tupAK (K := K) rfl) (pv 5) (po_some (pv 2)) po_none))) pa_nil)))))))), ?_⟩
    have hvl : vs.length = n := hR.length.trans lA
    refine ⟨_, rfl, _, _, rfl, .inr hA, ?_⟩
    rw [hvl]
    refine ⟨_, rfl, _, rfl, fun x dx nx nd ne => ⟨x, dx, M, n, rfl, upd_same, by omega, fun l H1 b1 nl st => ⟨rfl, ?_⟩⟩⟩
    have sI : Same H H1 := fun b o e => by
      have hbx : b ≠ x := ne_of_none e nx
      refine b1 b o hbx ?_
      rw [upd_ne hbx, upd_ne (ne_of_none e nd)]
      exact e
    have hHl : H l = none := by
      cases z : H l with
      | none => rfl
      | some o =>
        rw [upd_ne (ne_of_none z nx), upd_ne (ne_of_none z nd), z] at nl
        cases nl
    refine ⟨_, rfl, a, vs, rfl, SqT.same hA sI, ?_⟩
    refine for_it (ZM.walk_enuT (xs := vs)) (fun k σ H' => ∃ (x4 x5 : Option V) (S : List (Option Row)), σ = [some (.int M), some (.ref a), some (.int (n : Int)), some (.ref x), x4, x5, none, none] ∧ Puts M n Am k S ∧ Same H H' ∧ StAt C H' x l M S) ⟨none, none, _, rfl, .zero, sI, st⟩ (fun k σ H' _ ⟨_, _, _, _, _, s1, _⟩ => SqT.same hA s1) ?_ ?_
    · rintro k v σ H2 H2' hk ⟨x4, x5, S, rfl, hp, s1, st1⟩ ⟨T0, v1, v2, rfl, hT, rfl, e1, e2⟩
      cases e1
      obtain ⟨q, r, rfl, hr2, hq⟩ := rows_at hR e2
      have hrl : r.length = n := hrow _ (List.mem_of_getElem? hr2)
      have hkn : k < n := by omega
      have sT : Same H2 (upd H2 T0 (.tup [.int (k : Int), .ref q])) := same_upd hT
      have gT : (upd H2 T0 (.tup [.int (k : Int), .ref q])) T0 = some (.tup [.int (k : Int), .ref q]) := upd_same
      generalize upd H2 T0 (.tup [.int (k : Int), .ref q]) = H3 at sT gT ⊢
      have st3 := st1.same sT
      obtain ⟨⟨dx3, hx3⟩, vs3, hl3, hS3⟩ := id st3
      refine ⟨T0, _, rfl, SqT.of gT, rfl, _, _, rfl, _, _, rfl, rfl, ?_⟩
      have hq3 : RowAt K H3 q r := SqT.same hq (same_trans s1 sT)
      refine ⟨_, rfl, x, dx3, flS M l, rfl, hx3, flS_no M l (by decide +kernel) (by decide +kernel), ?_⟩
      refine ⟨_, rfl, q, rfl, ⟨_, hq3⟩, fun D hD => lc_rel (walk_tup (xs := r.map V.int)) hD (by simp; omega) (fun i v _ => ∃ z, r[i]? = some z ∧ v = .int (z % M)) (fun i v H H' h _ => h) (fun H1 e => SqT.same hq3 e) ?_ ?_⟩
      · intro i v H4 H4' Fn Nn fin hi sm hacc hy
        obtain ⟨rfl, hx⟩ := hy
        obtain ⟨z, gz, rfl⟩ := at_ints hx
        refine ⟨rfl, yesT ⟨_, rfl, _, rfl, _, _, rfl, rfl, by omega, ?_⟩⟩
        dsimp only
        rw [Int.fmod_eq_emod_of_nonneg _ (by omega)]
        exact fin _ _ (fun _ _ e => e) ⟨z, gz, rfl⟩
      · intro acc H4 a1 a2 s4 hR4
        have ea : acc = (r.map (· % M)).map V.int := by
          rw [acc_map (f := fun z => V.int (z % M)) (by simpa using a1) hR4, List.map_map]
          rfl
        have hDl : D ≠ l := fun z => by rw [z, hl3] at hD; cases hD
        refine ⟨_, rfl, _, rfl, n, k, rfl, hkn, by omega, fun p2 H5 s5 h5 => ⟨p2, _, rfl, .inr (SqT.of h5), fun l2 nl2 => ⟨D, l2, acc, _, rfl, rfl, ?_, upd_same, ?_, fun p3 np3 => ?_⟩⟩⟩
        · rw [upd_ne (ne_of_none (s5 _ _ a2) nl2)]
          exact s5 _ _ a2
        · rw [a1]
          simp [unitRow]
          exact Nat.le_trans (by omega) (show 800 ≤ sizeLine by decide)
        · have s6 : Same H3 (upd (upd H5 l2 (.lst ((unitRow n k).map V.int))) p3 (.lst (acc ++ (unitRow n k).map V.int))) := same_trans s4 (same_trans s5 (same_trans (same_upd nl2) (same_upd np3)))
          have g6 : (upd (upd H5 l2 (.lst ((unitRow n k).map V.int))) p3 (.lst (acc ++ (unitRow n k).map V.int))) p3 = some (.lst ((rowOf M n r k).map V.int)) := by
            rw [upd_same, ea]
            simp [rowOf]
          have hpl : p3 ≠ l := fun z => by
            rw [z, upd_ne (ne_of_none (s5 _ _ (s4 _ _ hl3)) nl2), s5 _ _ (s4 _ _ hl3)] at np3
            cases np3
          generalize upd (upd H5 l2 (.lst ((unitRow n k).map V.int))) p3 (.lst (acc ++ (unitRow n k).map V.int)) = H6 at s6 g6 ⊢
          obtain ⟨w1, w2⟩ := rowOf_ok hM (k := k) hrl
          refine ⟨x, l, p3, M, 2 * n, n, S, rowOf M n r k, rfl, st3.same s6, hM, hM2, by omega, by omega, hp.wf hM hrow, w1, w2, g6, hpl, fun S' r' b' H7 ch bt st7 _ _ => ?_⟩
          exact ⟨_, _, S', rfl, .succ hp hr2 ch, fun b o e => bt b o (ne_of_none e hHl) (s6 _ _ (sT _ _ (s1 _ _ e))), st7⟩
    · rintro σ H2 ⟨x4, x5, S, rfl, hp, s1, st1⟩
      rw [hvl] at hp
      have wf := hp.wf hM hrow
      obtain ⟨⟨dx2, hx2⟩, vs2, hl2, hS2⟩ := id st1
      have hvl2 : vs2.length = n := hS2.length.trans wf.len
      refine ⟨_, rfl, x, C, dx2, _, _, rfl, hx2, T.cl, T.nS, flS_s M l, l, vs2, rfl, SqL.of hl2, ?_⟩
      refine for_it (walk_enum (xs := vs2)) (fun k σ H' => ∃ (x4 x5 x6 : Option V), σ = [some (.int M), some (.ref a), some (.int (n : Int)), some (.ref x), x4, x5, x6, none] ∧ Same H2 H' ∧ ∀ i, i < k → ∃ s, S[i]? = some (some s) ∧ s[i]? = some 1) ⟨_, _, _, rfl, fun _ _ e => e, fun i h => absurd h (Nat.not_lt_zero _)⟩ (fun k σ H' _ ⟨_, _, _, _, s2, _⟩ => SqL.of (s2 _ _ hl2)) ?_ ?_
      · rintro k v σ H3 H3' hk ⟨x4, x5, x6, rfl, s2, good⟩ ⟨T0, v1, v2, rfl, hT, rfl, e1, e2⟩
        cases e1
        have hkn : k < n := by omega
        have sT : Same H3 (upd H3 T0 (.tup [.int (k : Int), v2])) := same_upd hT
        have gT : (upd H3 T0 (.tup [.int (k : Int), v2])) T0 = some (.tup [.int (k : Int), v2]) := upd_same
        generalize upd H3 T0 (.tup [.int (k : Int), v2]) = H4 at sT gT ⊢
        have s4 : Same H H4 := same_trans s1 (same_trans s2 sT)
        have hSk : S[k]? = some (S[k]'(by rw [wf.len]; exact hkn)) := List.getElem?_eq_getElem (by rw [wf.len]; exact hkn)
        refine ⟨T0, _, rfl, SqT.of gT, rfl, _, _, rfl, _, _, rfl, rfl, ?_⟩
        rcases hS2.at_ hSk with ⟨e0, ev⟩ | ⟨b, r, e0, ev, hbl, hb⟩
        · have e3 : vs2[k]? = some v2 := e2
          rw [e3] at ev
          cases ev
          exact ⟨_, rfl, rfl, true, congrArg V.bl (decide_eq_true rfl), iteT (iteT (kN S H4 hp ⟨k, hkn, .inl (by rw [hSk, e0])⟩ s4))⟩
        · have e3 : vs2[k]? = some v2 := e2
          rw [e3] at ev
          cases ev
          obtain ⟨rl, rr, ⟨y, hy, y1, _⟩, _⟩ := wf.row _ _ (hSk.trans (by rw [e0]))
          have hyV : (r.map V.int)[k]? = some (.int y) := by rw [List.getElem?_map, hy]; rfl
          refine ⟨_, rfl, rfl, false, congrArg V.bl (decide_eq_false (by intro z; cases z)), iteF ?_⟩
          refine ⟨_, rfl, _, rfl, b, _, _, _, rfl, rfl, SqL.of (sT _ _ (s2 _ _ hb)), atI_nat hyV, rfl, _, rfl, ?_⟩
          by_cases h1 : y = 1
          · rw [h1]
            refine iteNS rfl ?_
            refine ⟨_, _, _, rfl, same_trans s2 sT, fun i hi => ?_⟩
            rcases Nat.lt_succ_iff_lt_or_eq.mp hi with z | z
            · exact good i z
            · rw [z]
              exact ⟨r, by rw [hSk, e0], by rw [hy, h1]⟩
          · have e5 : (!decide (V.int y = V.int 1)) = true := by
              have : ¬ V.int y = V.int 1 := fun z => h1 (by injection z)
              simp [this]
            rw [e5]
            exact iteT (kN S H4 hp ⟨k, hkn, .inr ⟨r, y, by rw [hSk, e0], hy, h1⟩⟩ s4)
      · rintro σ H3 ⟨x4, x5, x6, rfl, s2, good⟩
        rw [hvl2] at good
        have hLl := settle_len M n S n
        refine ⟨_, rfl, x, dx2, flS M l, rfl, s2 _ _ hx2, flS_no M l (by decide +kernel) (by decide +kernel), x, l, M, 2 * n, n, S, rfl, st1.same s2, hM, hM2, by omega, by omega, wf, fun p5 H5 s5 hm => ?_⟩
        obtain ⟨ws, hw, hRw⟩ := hm
        have hwl := hRw.length
        rw [List.length_map] at hwl
        refine ⟨p5, rfl, ⟨ws, hw⟩, fun D hD => lc_rows (K := K) (walk_tup (xs := ws)) hD (by omega) ((settle M n S n).map fun qs => qs.2.drop n) (by rw [List.length_map, hwl]) (fun H' e => SqT.same hw e) ?_ (fun acc H6 e6 s6 hR6 => tup_read e6 hR6 (same_trans s1 (same_trans s2 (same_trans s5 s6))) fun p7 H7 s7 h7 => kY S p7 H7 hp good s7 h7)⟩
        rintro i r v H6 H6' Fn Nn hi hr3 fin s6 ⟨rfl, hv⟩
        obtain ⟨u, rr, rfl, hrr, hu⟩ := rows_at hRw hv
        rw [List.getElem?_map] at hr3 hrr
        cases hLi : (settle M n S n)[i]? with
        | none => rw [hLi] at hr3; cases hr3
        | some qs =>
          rw [hLi] at hr3 hrr
          cases hr3
          cases hrr
          obtain ⟨_, _, sl, _⟩ := settle_ok hM wf (by omega) n (Nat.le_refl _) qs.1 qs.2 (List.mem_of_getElem? hLi)
          have hix : HT.sIx (qs.2.map V.int).length 0 (some (n : Int)) = n := by
            rw [HT.sIx_nat]
            simp [sl]
            omega
          refine ⟨rfl, yesT ⟨_, rfl, _, rfl, n, rfl, u, _, rfl, SqT.same hu s6, fun hwh => ?_, fun _ q nq => fin q _ (same_upd nq) ?_⟩⟩
          · rw [hix] at hwh
            omega
          · rw [upd_same]
            congr 2
            unfold cutV
            rw [hix, HT.sIx_none, List.map_drop, List.take_of_length_le (by simp)]
end
end Wk

namespace Wk
open PySem L2
abbrev s_law_matrix_of : Stmt := top 18
theorem sc_law_matrix_of : FnScope ["_law_pen", "_law_modulus", "_law_height", "_law_width", "_law_found", "_law_k", "_law_at"] ["_law_pen", "_law_modulus", "_law_height", "_law_width"] (defScope s_law_matrix_of) := ⟨rfl, rfl, rfl, by decide +kernel, rfl, by decide +kernel, by decide +kernel⟩
abbrev s_law_common : Stmt := top 19
theorem sc_law_common : FnScope ["_law_one", "_law_other"] ["_law_one", "_law_other"] (defScope s_law_common) := ⟨rfl, rfl, rfl, by decide +kernel, rfl, by decide +kernel, by decide +kernel⟩
abbrev s_law_identity : Stmt := top 20
theorem sc_law_identity : FnScope ["_law_size", "_law_at", "_law_place"] ["_law_size"] (defScope s_law_identity) := ⟨rfl, rfl, rfl, by decide +kernel, rfl, by decide +kernel, by decide +kernel⟩
abbrev s_law_undone_of : Stmt := top 21
theorem sc_law_undone_of : FnScope ["_law_pen", "_law_modulus", "_law_size", "_law_rows", "_law_turn", "_law_at", "_law_other", "_law_often", "_law_row", "_law_one", "_law_two", "_law_number"] ["_law_pen", "_law_modulus", "_law_size"] (defScope s_law_undone_of) := ⟨rfl, rfl, rfl, by decide +kernel, rfl, by decide +kernel, by decide +kernel⟩
abbrev s_law_applied : Stmt := top 22
theorem sc_law_applied : FnScope ["_law_modulus", "_law_matrix", "_law_row", "_law_line", "_law_one", "_law_two"] ["_law_modulus", "_law_matrix", "_law_row"] (defScope s_law_applied) := ⟨rfl, rfl, rfl, by decide +kernel, rfl, by decide +kernel, by decide +kernel⟩
abbrev s_law_product : Stmt := top 23
theorem sc_law_product : FnScope ["_law_modulus", "_law_one", "_law_other", "_law_row", "_law_columns", "_law_found", "_law_at", "_law_column", "_law_a", "_law_b"] ["_law_modulus", "_law_one", "_law_other"] (defScope s_law_product) := ⟨rfl, rfl, rfl, by decide +kernel, rfl, by decide +kernel, by decide +kernel⟩
abbrev s_law_power : Stmt := top 24
theorem sc_law_power : FnScope ["_law_modulus", "_law_matrix", "_law_many", "_law_found", "_law_turn"] ["_law_modulus", "_law_matrix", "_law_many"] (defScope s_law_power) := ⟨rfl, rfl, rfl, by decide +kernel, rfl, by decide +kernel, by decide +kernel⟩
abbrev s_law_moved : Stmt := top 25
theorem sc_law_moved : FnScope ["_law_pen", "_law_modulus", "_law_matrix", "_law_row", "_law_number"] ["_law_pen", "_law_modulus", "_law_matrix"] (defScope s_law_moved) := ⟨rfl, rfl, rfl, by decide +kernel, rfl, by decide +kernel, by decide +kernel⟩
abbrev s_law_flat_of : Stmt := top 26
theorem sc_law_flat_of : FnScope ["_law_pen", "_law_modulus", "_law_size", "_law_rows", "_law_shared", "_law_at", "_law_often", "_law_divisor", "_law_row", "_law_number", "_law_k", "_law_place"] ["_law_pen", "_law_modulus", "_law_size"] (defScope s_law_flat_of) := ⟨rfl, rfl, rfl, by decide +kernel, rfl, by decide +kernel, by decide +kernel⟩

structure TxtL (mg : Str → Option Value) : Prop where
  f_tuple : mg "tuple" = none
  f_list : mg "list" = none
  f_int : mg "int" = none
  f_zip : mg "zip" = none
  f_sum : mg "sum" = none
  f_range : mg "range" = none
  f_len : mg "len" = none
  f_min : mg "min" = none
  f_max : mg "max" = none
  f_all : mg "all" = none
  f_abs : mg "abs" = none
  f_isinstance : mg "isinstance" = none
theorem dot_comm (a b : List Int) : dotZ a b = dotZ b a := by
  unfold dotZ
  rw [List.zipWith_comm]
  congr 2
  funext x y
  exact Int.mul_comm _ _
end Wk

namespace Wk
open PySem L2
section
variable {P : Program} {w : World} {K : PySem.W.Frag} {mg : Str → Option Value} {base : Heap}
theorem ok_law_identity {f : Addr} {fd : FuncData} (F : Fun K "_law_identity" "_law_identity" s_law_identity f fd) (T : TxtL mg) : FnOk P w K mg base CX0 1 f fd ["_law_size"] (spIdm K) := by
  refine F.ok sc_law_identity (fun vs H Q E h => ?_) (fun cdv A outer s H vs Q E hr h => ?_)
  · obtain ⟨s, rfl, _⟩ := h
    rfl
  · obtain ⟨n, rfl, hn, k⟩ := h
    refine ⟨_, (pss_one (ps_ret (pe_callTy (call_tupleK (K := K) rfl) rfl T.f_tuple (by decide +kernel) (pa_cons (pe_lc (own := [("_law_at", 1)]) (g := gName 1) rfl sc_law_identity.nd (pi_range1 rfl T.f_range (pa_cons (pv 0) pa_nil)) (blkOk_by (N := ["_law_size", "_law_at", "_law_place"]) (sc := defScope s_law_identity) (by decide +kernel)) (fun _ _ _ _ _ => (pg_name (i := 1) sc_law_identity.nd rfl (Or.inr rfl))) (fun _ _ _ _ _ => pts_nil) (fun _ _ _ _ _ => (pe_callTy (call_tupleK (K := K) rfl) rfl T.f_tuple (by decide +kernel) (pa_cons (pe_lc (own := [("_law_place", 2)]) (g := gName 2) rfl sc_law_identity.nd (pi_range1 rfl T.f_range (pa_cons (pv 0) pa_nil)) (blkOk_by (N := ["_law_size", "_law_at", "_law_place"]) (sc := relS _ (defScope s_law_identity)) (by decide +kernel)) (fun _ _ _ _ _ => (pg_name (i := 2) sc_law_identity.nd rfl (Or.inl rfl))) (fun _ _ _ _ _ => pts_nil) (fun _ _ _ _ _ => (pe_callTy call_int1 rfl T.f_int (by decide +kernel) (pa_cons (pe_cmpR op_eq (pv 1) (pv 2) (nomark _)) pa_nil)))) pa_nil)))) pa_nil)))), ?_⟩
    refine ⟨_, rfl, (n : Int), rfl, by omega, by omega, fun D hD => lc_rows (K := K) (walk_range (lo := 0) (n := n)) hD (by omega) (idM n) (by simp [idM]) (fun _ _ => trivial) ?_ fun acc H2 e2 sm hR => tup_read e2 hR sm k⟩
    rintro i r x H1 H1' Fn Nn hi hr3 fin sm ⟨rfl, rfl⟩
    have er : r = unitRow n i := by
      simp only [idM, List.getElem?_map, List.getElem?_range hi, Option.map_some, Option.some.injEq] at hr3
      exact hr3.symm
    refine ⟨rfl, yesT ⟨_, rfl, (n : Int), rfl, by omega, by omega, fun D2 hD2 => lc_rel (walk_range (lo := 0) (n := n)) hD2 (by omega) (fun j v _ => v = .int (if j = i then 1 else 0)) (fun j v H H' h _ => h) (fun _ _ => trivial) ?_ ?_⟩⟩
    · rintro j v H2 H2' Fn2 Nn2 fin2 hj s2 hacc ⟨rfl, rfl⟩
      refine ⟨rfl, yesT ⟨_, rfl, _, rfl, rfl, .inr ⟨_, rfl, ?_⟩⟩⟩
      refine fin2 _ _ (fun _ _ e => e) ?_
      congr 1
      by_cases e : j = i
      · subst e
        rw [if_pos rfl, if_pos (decide_eq_true rfl)]
      · rw [if_neg e, if_neg]
        intro z
        have z := of_decide_eq_true z
        injection z with z
        omega
    · intro acc H2 a1 a2 s2 hR
      have ea : acc = (unitRow n i).map V.int := by
        unfold unitRow
        rw [List.map_map]
        refine acc_map (as := List.range n) (f := fun j => V.int (if j = i then 1 else 0)) (by simpa using a1) fun j v e => ⟨j, ?_, hR j v e⟩
        have : j < n := by
          rw [← a1]
          exact (List.getElem?_eq_some_iff.mp e).1
        exact List.getElem?_range this
      exact ⟨D2, acc, rfl, .inl ⟨SqL.of a2, fun q nq => fin q _ (same_trans s2 (same_upd nq)) (by rw [upd_same, er, ea])⟩⟩
theorem ok_law_applied {f : Addr} {fd : FuncData} (F : Fun K "_law_applied" "_law_applied" s_law_applied f fd) (T : TxtL mg) : FnOk P w K mg base CX0 1 f fd ["_law_modulus", "_law_matrix", "_law_row"] (spApplied K) := by
  refine F.ok sc_law_applied (fun vs H Q E h => ?_) (fun cdv A outer s H vs Q E hr h => ?_)
  · obtain ⟨M, a, b, A, r, rfl, _⟩ := h
    rfl
  · obtain ⟨M, a, b, Am, r, rfl, hM, ⟨vs, hA, hR⟩, hr2, wA, wr, lA, lr, lw, k⟩ := h
    refine ⟨_, (pss_one (ps_ret (pe_callTy (call_tupleK (K := K) rfl) rfl T.f_tuple (by decide +kernel) (pa_cons (pe_lc (own := [("_law_line", 3)]) (g := gName 3) rfl sc_law_applied.nd (pi_tup (pv 1)) (blkOk_by (N := ["_law_modulus", "_law_matrix", "_law_row", "_law_line", "_law_one", "_law_two"]) (sc := defScope s_law_applied) (by decide +kernel)) (fun _ _ _ _ _ => (pg_name (i := 3) sc_law_applied.nd rfl (Or.inl rfl))) (fun _ _ _ _ _ => pts_nil) (fun _ _ _ _ _ => (pe_op op_modN (pe_callTy call_int1 rfl T.f_int (by decide +kernel) (pa_cons (pe_callB (cr_sumK (K := K) rfl rfl) rfl T.f_sum (by decide +kernel) (pa_cons (pe_lc (own := [("_law_one", 4), ("_law_two", 5)]) (g := gTup K 2 (gCons (gName 4) (gCons (gName 5) gNil))) rfl sc_law_applied.nd (pi_zip2K (K := K) rfl true true rfl T.f_zip (pa_cons (pv 3) (pa_cons (pv 2) pa_nil))) (blkOk_by (N := ["_law_modulus", "_law_matrix", "_law_row", "_law_line", "_law_one", "_law_two"]) (sc := relS _ (defScope s_law_applied)) (by decide +kernel)) (fun _ _ _ _ _ => (pg_tupK rfl rfl (pgs_cons (pg_name (i := 4) sc_law_applied.nd rfl (Or.inl rfl)) (pgs_cons (pg_name (i := 5) sc_law_applied.nd rfl (Or.inl rfl)) pgs_nil)))) (fun _ _ _ _ _ => pts_nil) (fun _ _ _ _ _ => (pe_op op_mulW (pv 4) (pv 5)))) pa_nil)) pa_nil)) (pv 0)))) pa_nil)))), ?_⟩
    have hlen := hR.length
    refine ⟨_, rfl, _, rfl, ⟨vs, hA⟩, fun D hD => lc_rel (walk_tup (xs := vs)) hD (by omega) (fun i v _ => ∃ l, Am[i]? = some l ∧ v = .int (dotZ l r % M)) (fun i v H H' h _ => h) (fun H1 e => SqT.same hA e) ?_ ?_⟩
    · intro i x H1 H1' Fn Nn fin hi sm hacc hy
      obtain ⟨rfl, hx⟩ := hy
      obtain ⟨p, l, rfl, hl, hp⟩ := rows_at hR hx
      refine ⟨rfl, yesT ?_⟩
      have hll : l.length = r.length := lw _ (List.mem_of_getElem? hl)
      refine dot_read rfl rfl (t := true) (u := true) (SqT.same hp sm) (SqT.same hr2 sm) hll (by omega) (wA _ (List.mem_of_getElem? hl)) wr (fun _ _ => rfl) (fun _ _ => rfl) (fun _ _ => rfl) fun H2 s2 => ?_
      refine .inl ⟨_, rfl, _, rfl, _, _, rfl, rfl, by omega, ?_⟩
      dsimp only
      rw [Int.fmod_eq_emod_of_nonneg _ (by omega)]
      exact fin _ _ s2 ⟨l, hl, rfl⟩
    · intro acc H1 e1 e2 sm hR2
      have e : acc = Am.map fun l => V.int (dotZ l r % M) := acc_map (by rw [e1, hlen]) hR2
      exact ⟨D, acc, rfl, .inl ⟨SqL.of e2, fun p hp => k p _ (same_trans sm (same_upd hp)) (by rw [upd_same, e]; simp [applyM, Function.comp_def])⟩⟩
end
end Wk

namespace Wk
open PySem L2
/-- objects of ints, in a list at F -/
def ObsAre (mk : List V → HO) (F : Addr) (H : Hp) (us : List V) (A : Mat) : Prop := us.length = A.length ∧ ∀ (k : Nat) (r : List Int), A[k]? = some r → ∃ p, us[k]? = some (.ref p) ∧ p ≠ F ∧ H p = some (mk (r.map V.int))
theorem ObsAre.mono {mk : List V → HO} {F : Addr} {H H' : Hp} {us : List V} {A : Mat} (h : ObsAre mk F H us A) (e : But F H H') : ObsAre mk F H' us A := ⟨h.1, fun k r z => by
  obtain ⟨p, a, b, c⟩ := h.2 k r z
  exact ⟨p, a, b, e _ _ b c⟩⟩
theorem ObsAre.nil {mk : List V → HO} {F : Addr} {H : Hp} : ObsAre mk F H [] [] := ⟨rfl, fun k r z => by simp at z⟩
theorem ObsAre.snoc {mk : List V → HO} {F : Addr} {H : Hp} {us : List V} {A : Mat} {p : Addr} {r : List Int} (h : ObsAre mk F H us A) (h1 : p ≠ F) (h2 : H p = some (mk (r.map V.int))) : ObsAre mk F H (us ++ [.ref p]) (A ++ [r]) := by
  refine ⟨by simp [h.1], fun k s z => ?_⟩
  rcases Nat.lt_trichotomy k A.length with hk | hk | hk
  · rw [List.getElem?_append_left hk] at z
    obtain ⟨q, a, b⟩ := h.2 k s z
    exact ⟨q, by rw [List.getElem?_append_left (by rw [h.1]; exact hk)]; exact a, b⟩
  · rw [hk] at z
    simp at z
    subst z
    exact ⟨p, by rw [hk, ← h.1]; simp, h1, h2⟩
  · rw [List.getElem?_eq_none (by simp; omega)] at z
    cases z
theorem ObsAre.set {mk : List V → HO} {F : Addr} {H : Hp} {us : List V} {A : Mat} {p : Addr} {r : List Int} (h : ObsAre mk F H us A) (h1 : p ≠ F) (h2 : H p = some (mk (r.map V.int))) (i : Nat) : ObsAre mk F H (us.set i (.ref p)) (A.set i r) := by
  refine ⟨by simp [h.1], fun k s z => ?_⟩
  by_cases e : i = k
  · subst e
    by_cases hl : i < A.length
    · rw [List.getElem?_set_self hl] at z
      cases z
      exact ⟨p, by rw [List.getElem?_set_self (by rw [h.1]; exact hl)], h1, h2⟩
    · rw [List.getElem?_eq_none (by rw [List.length_set]; omega)] at z
      cases z
  · rw [List.getElem?_set_ne e] at z
    obtain ⟨q, a, b⟩ := h.2 k s z
    exact ⟨q, by rw [List.getElem?_set_ne e]; exact a, b⟩
theorem ObsAre.rows {K : PySem.W.Frag} {F : Addr} {H : Hp} {us : List V} {A : Mat} (h : ObsAre .tup F H us A) : RowsAre K H us A := rows_of h.1 fun k v r h1 h2 => by
  obtain ⟨p, a, b, c⟩ := h.2 k r h2
  rw [a] at h1
  cases h1
  exact ⟨p, rfl, SqT.of c⟩
/-- a comprehension whose items are new lists -/
theorem lc_lists {J : It} {n : Nat} {G : Hp → Prop} {Y : Nat → Hp → V → Hp → Prop} (w : Walk J n G Y) {g : TG} {tt : TT} {te : TE} {vs : List Nat} {σ : L2.St} {H1 : Hp} {D : Addr} {Qd : Hp → Prop} (hD : H1 D = none) (hn : n ≤ 1000000)
    (A : Mat) (hA : A.length = n) (hG : ∀ H, Same H1 H → G H)
    (hs : ∀ (i : Nat) (r : List Int) (x : V) (H H' : Hp) (Fn : V → Hp → Prop) (Nn : Hp → Prop), i < n → A[i]? = some r → (∀ p H4, Same H H4 → H p = none → H4 p = some (.lst (r.map V.int)) → Fn (.ref p) H4) → Same H1 H → Y i H x H' → g x (wipe σ vs) H' fun σ2 H2 => wipe σ2 vs = wipe σ vs ∧ tt σ2 H2 fun b H3 => if b = true then te σ2 H3 Fn else Nn H3)
    (hd : ∀ (acc : List V) H, H D = some (.lst acc) → Same H1 H → ObsAre .lst D H acc A → Qd H) :
    ∃ W : Nat → Nat → Hp → Prop, (∃ m, W 0 m (upd H1 D (.lst []))) ∧ ∀ i m H, W i m H →
      (J.stop i H ∧ Qd H) ∨ (J.go i H ∧ ∃ Nx : Hp → Prop, (∀ H', Nx H' → ∃ m', m' < m ∧ W (i + 1) m' H') ∧ ∀ x H', J.yld i H x H' → g x (wipe σ vs) H' fun σ2 H2 => wipe σ2 vs = wipe σ vs ∧ tt σ2 H2 fun b H3 =>
        if b = true then te σ2 H3 fun y H4 => ∃ acc, H4 D = some (.lst acc) ∧ acc.length < sizeLine ∧ Nx (upd H4 D (.lst (acc ++ [y]))) else Nx H3) := by
  refine lc_rel w hD hn (fun i v H => ∃ (p : Addr) (r : List Int), v = .ref p ∧ p ≠ D ∧ A[i]? = some r ∧ H p = some (.lst (r.map V.int))) (fun i v H H' ⟨p, r, h1, h2, h3, h4⟩ e => ⟨p, r, h1, h2, h3, e _ _ h2 h4⟩) hG ?_ ?_
  · intro i x H H' Fn Nn fin hi sm ⟨acc, hacc⟩ hy
    have hr : A[i]? = some (A[i]'(by omega)) := List.getElem?_eq_getElem (by omega)
    refine hs i _ x H H' Fn Nn hi hr (fun p H4 s4 hp h4 => fin _ _ s4 ⟨p, _, rfl, fun z => ?_, hr, h4⟩) sm hy
    rw [z, hacc] at hp
    cases hp
  · intro acc H e1 e2 sm hR
    refine hd acc H e2 sm ⟨by rw [e1, hA], fun k r h2 => ?_⟩
    have hk : k < acc.length := by
      rw [e1, ← hA]
      exact (List.getElem?_eq_some_iff.mp h2).1
    obtain ⟨p, r2, h1, hD2, h3, h4⟩ := hR k _ (List.getElem?_eq_getElem hk)
    rw [h2] at h3
    cases h3
    exact ⟨p, by rw [List.getElem?_eq_getElem hk, h1], hD2, h4⟩
def spPowL (K : PySem.W.Frag) : Sp := fun vs H Q _ => ∃ (M : Int) (a : Addr) (A : Mat) (n e : Nat), vs = [.int M, .ref a, .int (e : Int)] ∧ 2 ≤ M ∧ M < 2 ^ 64 ∧ MatAt K H a A ∧ Shp n n A ∧ MWd A ∧ 1 ≤ n ∧ n ≤ 8 ∧ e ≤ 1000 ∧ NewMat K H (mpow M n A e) Q
section
variable {P : Program} {w : World} {K : PySem.W.Frag} {mg : Str → Option Value} {base : Heap}
theorem ok_law_product {f : Addr} {fd : FuncData} (F : Fun K "_law_product" "_law_product" s_law_product f fd) (T : TxtL mg) : FnOk P w K mg base CX0 1 f fd ["_law_modulus", "_law_one", "_law_other"] (spProd K) := by
  refine F.ok sc_law_product (fun vs H Q E h => ?_) (fun cdv A outer s H vs Q E hr h => ?_)
  · obtain ⟨M, a, b, A, B, n, rfl, _⟩ := h
    rfl
  · obtain ⟨M, a, b, Am, B, n, rfl, hM, hA, hB, wA, wB, h1, h8, n1, n2, lA, hwB, hwA, k⟩ := h
    refine ⟨_, (pss_cons (ps_par (i := 4) (j := 5) rfl sc_law_product.nd rfl rfl (by decide) rfl rfl (pa_cons (pe_lc (own := [("_law_at", 6)]) (g := gName 6) rfl sc_law_product.nd (pi_range1 rfl T.f_range (pa_cons (pe_callB call_len_seq rfl T.f_len PySem.boot_len (pa_cons (pe_ix ix_tup (pv 2) pe_int (fun _ _ => rfl)) pa_nil)) pa_nil)) (blkOk_by (N := ["_law_modulus", "_law_one", "_law_other", "_law_row", "_law_columns", "_law_found", "_law_at", "_law_column", "_law_a", "_law_b"]) (sc := defScope s_law_product) (by decide +kernel)) (fun _ _ _ _ _ => (pg_name (i := 6) sc_law_product.nd rfl (Or.inr rfl))) (fun _ _ _ _ _ => pts_nil) (fun _ _ _ _ _ => (pe_lc (own := [("_law_row", 3)]) (g := gName 3) rfl sc_law_product.nd (pi_tupK (K := K) rfl (pv 2)) (blkOk_by (N := ["_law_modulus", "_law_one", "_law_other", "_law_row", "_law_columns", "_law_found", "_law_at", "_law_column", "_law_a", "_law_b"]) (sc := relS _ (defScope s_law_product)) (by decide +kernel)) (fun _ _ _ _ _ => (pg_name (i := 3) sc_law_product.nd rfl (Or.inl rfl))) (fun _ _ _ _ _ => pts_nil) (fun _ _ _ _ _ => (pe_ix (ix_tupK (K := K) rfl) (pv 3) (pv 6) (fun _ _ => rfl)))))) (pa_cons (pe_lst pa_nil) pa_nil)) (by rfl))
        (pss_cons (ps_for PassesOwn.never rfl (pi_tup (pv 1)) (pg_name (i := 3) sc_law_product.nd rfl (Or.inr rfl)) (pss_one (ps_expr (pe_bm PySem.F.plainAttrs_list PySem.F.slot_list_append PySem.F.type_list_append mt_append (pv 5) (pa_cons (pe_callTy (call_tupleK (K := K) rfl) rfl T.f_tuple (by decide +kernel) (pa_cons (pe_lc (own := [("_law_column", 7)]) (g := gName 7) rfl sc_law_product.nd (pi_list (pv 4)) (blkOk_by (N := ["_law_modulus", "_law_one", "_law_other", "_law_row", "_law_columns", "_law_found", "_law_at", "_law_column", "_law_a", "_law_b"]) (sc := defScope s_law_product) (by decide +kernel)) (fun _ _ _ _ _ => (pg_name (i := 7) sc_law_product.nd rfl (Or.inl rfl))) (fun _ _ _ _ _ => pts_nil) (fun _ _ _ _ _ => (pe_op op_modN (pe_callTy call_int1 rfl T.f_int (by decide +kernel) (pa_cons (pe_callB (cr_sumK (K := K) rfl rfl) rfl T.f_sum (by decide +kernel) (pa_cons (pe_lc (own := [("_law_a", 8), ("_law_b", 9)]) (g := gTup K 2 (gCons (gName 8) (gCons (gName 9) gNil))) rfl sc_law_product.nd (pi_zip2K (K := K) rfl true false rfl T.f_zip (pa_cons (pv 3) (pa_cons (pv 7) pa_nil))) (blkOk_by (N := ["_law_modulus", "_law_one", "_law_other", "_law_row", "_law_columns", "_law_found", "_law_at", "_law_column", "_law_a", "_law_b"]) (sc := relS _ (defScope s_law_product)) (by decide +kernel)) (fun _ _ _ _ _ => (pg_tupK rfl rfl (pgs_cons (pg_name (i := 8) sc_law_product.nd rfl (Or.inl rfl)) (pgs_cons (pg_name (i := 9) sc_law_product.nd rfl (Or.inl rfl)) pgs_nil)))) (fun _ _ _ _ _ => pts_nil) (fun _ _ _ _ _ => (pe_op op_mulW (pv 8) (pv 9)))) pa_nil)) pa_nil)) (pv 0)))) pa_nil)) pa_nil)))))
        (pss_one (ps_ret (pe_callTy (call_tupleK (K := K) rfl) rfl T.f_tuple (by decide +kernel) (pa_cons (pv 5) pa_nil)))))), ?_⟩
    obtain ⟨vA, hvA, hRA⟩ := hA
    obtain ⟨vB, hvB, hRB⟩ := hB
    have lB := hRB.length
    have lAA := hRA.length
    obtain ⟨v0, hv0⟩ : ∃ v, vB[0]? = some v := ⟨_, List.getElem?_eq_getElem (by omega)⟩
    obtain ⟨q0, r0, rfl, hr0, hq0⟩ := rows_at hRB hv0
    have hr0n := hwB _ (List.mem_of_getElem? hr0)
    refine ⟨_, rfl, b, vB, 0, _, rfl, rfl, hvB, atI_nat (j := 0) hv0, _, _, rfl, .inr hq0, (n : Int), (by simp [hr0n]), by omega, by omega, fun D hD => lc_lists (walk_range (lo := 0) (n := n)) hD (by omega) (colsOf n B) (by simp [colsOf]) (fun _ _ => trivial) ?_ ?_⟩
    · rintro i r x H1 H1' Fn Nn hi hr3 fin sm ⟨rfl, rfl⟩
      have er : r = B.map fun r => r.getD i 0 := by
        simp only [colsOf, List.getElem?_map, List.getElem?_range hi, Option.map_some, Option.some.injEq] at hr3
        exact hr3.symm
      refine ⟨rfl, yesT ⟨_, rfl, b, rfl, ⟨_, SqT.same hvB sm⟩, fun D2 hD2 => lc_rel (walk_tup (xs := vB)) hD2 (by omega) (fun j v _ => ∃ l, B[j]? = some l ∧ v = .int (l.getD i 0)) (fun j v H H' h _ => h) (fun H2 e => SqT.same hvB (same_trans sm e)) ?_ ?_⟩⟩
      · rintro j v H2 H2' Fn2 Nn2 fin2 hj s2 hacc ⟨rfl, hv⟩
        obtain ⟨p, l, rfl, hl, hp⟩ := rows_at hRB hv
        have hln := hwB _ (List.mem_of_getElem? hl)
        have hli : (l.map V.int)[i]? = some (.int (l.getD i 0)) := by
          rw [List.getElem?_map, List.getElem?_eq_getElem (by omega), List.getD_eq_getElem?_getD, List.getElem?_eq_getElem (by omega)]
          rfl
        refine ⟨rfl, yesT ⟨_, rfl, _, rfl, p, _, _, _, rfl, rfl, SqT.same hp (same_trans sm s2), ?_, fin2 _ _ (fun _ _ e => e) ⟨l, hl, rfl⟩⟩⟩
        rw [Int.zero_add]
        exact atI_nat hli
      · intro acc H2 a1 a2 s2 hR
        have ea : acc = r.map V.int := by
          rw [er, List.map_map]
          exact acc_map (f := fun l : List Int => V.int (l.getD i 0)) (by rw [a1, lB]) hR
        exact fin D2 H2 s2 hD2 (by rw [a2, ea])
    · intro acc H1 hD1 s1 hC
      refine ⟨Nat.zero_le _, fun F0 nF => ⟨_, _, rfl, ?_⟩⟩
      have sF : Same H1 (upd H1 F0 (.lst [])) := same_upd nF
      have gF : (upd H1 F0 (.lst [])) F0 = some (.lst []) := upd_same
      generalize upd H1 F0 (.lst []) = H2 at sF gF ⊢
      have nFH : H F0 = none := none_back s1 nF
      have hC2 : ObsAre .lst D H2 acc (colsOf n B) := hC.mono fun c o _ e => sF _ _ e
      have hD2 := sF _ _ hD1
      have hDF : D ≠ F0 := fun z => by rw [z, nF] at hD1; cases hD1
      have s2 := same_trans s1 sF
      refine ⟨_, rfl, a, rfl, ⟨_, SqT.same hvA s2⟩, ?_⟩
      have s1F : Same H1 H2 := sF
      have lP : (prodM M n Am B).length = vA.length := by simp [prodM, lAA]
      refine for_it (walk_tup (xs := vA)) (fun k σ H3 => ∃ (x3 : Option V) (us : List V), σ = [some (.int M), some (.ref a), some (.ref b), x3, some (.ref D), some (.ref F0), none, none, none, none] ∧ Same H1 H3 ∧ H3 F0 = some (.lst us) ∧ ObsAre .tup F0 H3 us ((prodM M n Am B).take k)) ⟨none, [], rfl, sF, gF, .nil⟩ (fun k σ H3 _ ⟨_, _, _, s3, _⟩ => SqT.same hvA (same_trans s1 s3)) ?_ ?_
      · rintro i v σ H3 H3' hi ⟨x3, us, rfl, s3, g3, hU⟩ ⟨rfl, hv⟩
        obtain ⟨q, l, rfl, hl, hq⟩ := rows_at hRA hv
        have hlm := List.mem_of_getElem? hl
        have hll := hwA _ hlm
        have hC3 : ObsAre .lst D H3' acc (colsOf n B) := hC.mono fun c o _ e => s3 _ _ e
        have hPi : (prodM M n Am B)[i]? = some (applyM M (colsOf n B) l) := by simp [prodM, hl]
        refine ⟨_, rfl, .inl ⟨rfl, _, SqL.of g3⟩, _, rfl, D, rfl, ⟨_, SqL.of (s3 _ _ hD1)⟩, fun D2 hD2' => lc_rel (walk_list (xs := acc)) hD2' (by rw [hC.1]; simp [colsOf]; omega) (fun j v _ => ∃ c, (colsOf n B)[j]? = some c ∧ v = .int (dotZ c l % M)) (fun j v H H' h _ => h) (fun H4 e => SqL.of (e _ _ (s3 _ _ hD1))) ?_ ?_⟩
        · rintro j v H4 H4' Fn Nn fin hj s4 hacc ⟨rfl, hv4⟩
          have hjc : j < (colsOf n B).length := by rw [← hC.1]; exact hj
          have hcj : (colsOf n B)[j]? = some (colsOf n B)[j] := List.getElem?_eq_getElem hjc
          obtain ⟨p, e1, e2, e3⟩ := hC3.2 j _ hcj
          rw [e1] at hv4
          cases hv4
          have hcm := List.getElem_mem hjc
          refine ⟨rfl, yesT ?_⟩
          refine dot_read rfl rfl (t := true) (u := false) (SqT.same hq (same_trans s1 (same_trans s3 s4))) (SqL.of (s4 _ _ e3)) (by rw [hll, cols_len hcm]) (by omega) (wA _ hlm) (cols_wd wB _ hcm) (fun _ _ => rfl) (fun _ _ => rfl) (fun _ _ => rfl) fun H5 s5 => ?_
          refine .inl ⟨_, rfl, _, rfl, _, _, rfl, rfl, by omega, ?_⟩
          dsimp only
          rw [Int.fmod_eq_emod_of_nonneg _ (by omega), dot_comm]
          exact fin _ _ s5 ⟨_, hcj, rfl⟩
        · intro acc2 H4 a1 a2 s4 hR
          have ea : acc2 = (applyM M (colsOf n B) l).map V.int := by
            unfold applyM
            rw [List.map_map]
            exact acc_map (f := fun c => V.int (dotZ c l % M)) (by rw [a1, hC.1]) hR
          refine ⟨D2, acc2, rfl, .inl ⟨SqL.of a2, fun p5 np5 => ⟨F0, _, _, rfl, rfl, (by rw [upd_ne (ne_of_none (s4 _ _ g3) np5)]; exact s4 _ _ g3), Nat.le_trans (show us.length.succ ≤ 1001 by rw [hU.1, List.length_take, lP]; omega) (show 1001 ≤ sizeLine by decide), ?_⟩⟩⟩
          have hpF : p5 ≠ F0 := fun z => by rw [z, s4 _ _ g3] at np5; cases np5
          have b6 : But F0 H3' (upd (upd H4 p5 (.tup acc2)) F0 (.lst (us ++ [.ref p5]))) := fun c o hc e => by
            rw [upd_ne hc, upd_ne (ne_of_none (s4 _ _ e) np5)]
            exact s4 _ _ e
          refine ⟨_, us ++ [.ref p5], rfl, fun c o e => b6 c o (ne_of_none e nF) (s3 _ _ e), upd_same, ?_⟩
          rw [List.take_add_one, hPi]
          exact (hU.mono b6).snoc hpF (by rw [upd_ne hpF, upd_same, ea])
      · rintro σ H3 ⟨x3, us, rfl, s3, g3, hU⟩
        rw [← lP, List.take_length] at hU
        exact ⟨_, rfl, tup_read g3 hU.rows (same_trans s1 s3) k⟩
theorem ok_law_power {f fI fP : Addr} {fd fdI fdP : FuncData} (F : Fun K "_law_power" "_law_power" s_law_power f fd) (T : TxtL mg)
    (G__law_identity : FnOk P w K mg base CX0 1 fI fdI ["_law_size"] (spIdm K)) (g__law_identity : mg "_law_identity" = some (.ref fI)) (kp__law_identity : PySem.W.keepIn K (.ref fI) = true) (b__law_identity : Binds K fdI ["_law_size"] [])
    (G__law_product : FnOk P w K mg base CX0 1 fP fdP ["_law_modulus", "_law_one", "_law_other"] (spProd K)) (g__law_product : mg "_law_product" = some (.ref fP)) (kp__law_product : PySem.W.keepIn K (.ref fP) = true) (b__law_product : Binds K fdP ["_law_modulus", "_law_one", "_law_other"] []) :
    FnOk P w K mg base CX0 2 f fd ["_law_modulus", "_law_matrix", "_law_many"] (spPowL K) := by
  refine F.ok sc_law_power (fun vs H Q E h => ?_) (fun cdv A outer s H vs Q E hr h => ?_)
  · obtain ⟨M, a, A, n, e, rfl, _⟩ := h
    rfl
  · obtain ⟨M, a, Am, n, e, rfl, hM, hM2, hA, sA, wA, n1, n2, he, k⟩ := h
    refine ⟨_, (pss_cons (ps_set (i := 3) sc_law_power.nd rfl (Or.inl rfl) (pe_call G__law_product (hr.mono (by decide)) rfl g__law_product kp__law_product b__law_product .nil pass0 (pa_cons (pv 0) (pa_cons (pe_call G__law_identity (hr.mono (by decide)) rfl g__law_identity kp__law_identity b__law_identity .nil pass0 (pa_cons (pe_callB call_len_seq rfl T.f_len PySem.boot_len (pa_cons (pv 1) pa_nil)) pa_nil)) (pa_cons (pe_call G__law_identity (hr.mono (by decide)) rfl g__law_identity kp__law_identity b__law_identity .nil pass0 (pa_cons (pe_callB call_len_seq rfl T.f_len PySem.boot_len (pa_cons (pv 1) pa_nil)) pa_nil)) pa_nil)))))
        (pss_cons (ps_for PassesOwn.never rfl (pi_range1 rfl T.f_range (pa_cons (pv 2) pa_nil)) (pg_name (i := 4) sc_law_power.nd rfl (Or.inl rfl)) (pss_one (ps_set (i := 3) sc_law_power.nd rfl (Or.inl rfl) (pe_call G__law_product (hr.mono (by decide)) rfl g__law_product kp__law_product b__law_product .nil pass0 (pa_cons (pv 0) (pa_cons (pv 3) (pa_cons (pv 1) pa_nil)))))))
        (pss_one (ps_ret (pv 3))))), ?_⟩
    obtain ⟨vs, hv, hR⟩ := id hA
    have hvl : vs.length = n := hR.length.trans sA.1
    have prod : ∀ {r s : Addr} {R S : Mat} {G : Hp} {Q' : VK}, MatAt K G r R → MatAt K G s S → Shp n n R → MWd R → Shp n n S → MWd S → NewMat K G (prodM M n R S) Q' → spProd K [.int M, .ref r, .ref s] G Q' E0 := fun hr hs sR wR sS wS q =>
      ⟨M, _, _, _, _, n, rfl, by omega, hr, hs, wR, wS, by rw [sS.1]; exact n1, by rw [sS.1]; exact n2, n1, by omega, by rw [sR.1]; omega, sS.2, fun r hr => by rw [sR.2 r hr, sS.1], q⟩
    have w1 := mred_wd (one_red hM n) hM2
    refine ⟨_, rfl, _, rfl, _, _, rfl, .inr hv, n, by rw [hvl]; rfl, by omega, fun i1 H1 s1 h1 => ⟨_, rfl, _, _, rfl, .inr (SqT.same hv s1), n, by rw [hvl]; rfl, by omega, fun i2 H2 s2 h2 => prod (h1.same s2) h2 (one_shp n) w1 (one_shp n) w1 fun r H3 s3 h3 => ?_⟩⟩
    have e0 : prodM M n (idM n) (idM n) = mpow M n Am 0 := mat_eqm (prod_shp (one_shp n)) (one_shp n) (prod_red (by omega)) (one_red hM n) ((prod_F (one_shp n) (one_shp n)).trans ((EqF.mul (fun i j hi hj => .eq (one_ent hi hj)) (.refl _ _ _)).trans (one_mulF n _)))
    rw [e0] at h3
    have sAll := same_trans s1 (same_trans s2 s3)
    refine ⟨_, rfl, (e : Int), rfl, by omega, by omega, ?_⟩
    refine for_it (walk_range (lo := 0) (n := e)) (fun i σ H' => ∃ (x4 : Option V) (r : Addr), σ = [some (.int M), some (.ref a), some (.int (e : Int)), some (.ref r), x4] ∧ Same H H' ∧ MatAt K H' r (mpow M n Am i)) ⟨none, r, rfl, sAll, h3⟩ (fun _ _ _ _ _ => trivial) ?_ ?_
    · rintro i v σ H4 H4' hi ⟨x4, r, rfl, s4, h4⟩ ⟨rfl, rfl⟩
      obtain ⟨p1, p2, _⟩ := mpow_ok hM sA i
      refine ⟨_, rfl, _, rfl, _, rfl, prod h4 (hA.same s4) p1 (mred_wd p2 hM2) sA wA fun q H5 s5 h5 => ⟨_, q, rfl, same_trans s4 s5, h5⟩⟩
    · rintro σ H4 ⟨x4, r, rfl, s4, h4⟩
      exact ⟨_, rfl, k r H4 s4 h4⟩
end
end Wk

namespace Wk
open PySem L2
/-- the pen with at most n draws done -/
def Pen (H : Hp) (p c : Addr) (ns : List Int) (n : Nat) : Prop := ∃ i l, PenAt H p c ns i l ∧ i ≤ n
theorem Pen.le {H : Hp} {p c : Addr} {ns : List Int} {n m : Nat} (h : Pen H p c ns n) (e : n ≤ m) : Pen H p c ns m := by
  obtain ⟨i, l, a, b⟩ := h
  exact ⟨i, l, a, by omega⟩
theorem Pen.some {H : Hp} {p c : Addr} {ns : List Int} {n : Nat} (h : Pen H p c ns n) : ∃ o, H p = some o := by
  obtain ⟨i, l, a, b⟩ := h
  exact ⟨_, a.pen⟩
theorem Pen.same {H H' : Hp} {p c : Addr} {ns : List Int} {n : Nat} (h : Pen H p c ns n) (e : Same H H') : Pen H' p c ns n := by
  obtain ⟨i, l, a, b⟩ := h
  exact ⟨i, l, ⟨e _ _ a.pen, e _ _ a.cells, a.i0, a.l0, a.i1⟩, b⟩
theorem drwP {H : Hp} {p c : Addr} {ns : List Int} {n : Nat} {i l i' l' : Int} (a : PenAt H p c ns i l) (b : i ≤ n) (hn : n < 90000) (h0 : 0 ≤ i') (h1 : i' ≤ i + 1) (h2 : 0 ≤ l') : Pen (penTo H p c i' l') p c ns (n + 1) ∧ But p H (penTo H p c i' l') :=
  ⟨⟨i', l', a.to h0 h2 (by omega), by omega⟩, fun b o hb e => by rw [penTo, upd_ne hb]; exact e⟩
theorem w64 {m : Int} (h0 : 1 ≤ m) (h : m < 2 ^ 64) : m.natAbs < 2 ^ 9000 := Nat.lt_trans (show m.natAbs < 2 ^ 64 by omega) (by decide)
theorem MatAt.but {K : PySem.W.Frag} {p : Addr} {H H' : Hp} {a : Addr} {A : Mat} (h : MatAt K H a A) (e : But p H H') (hp : ∃ c i l, H p = some (.dK (penL c i l))) : MatAt K H' a A := by
  obtain ⟨c, i, l, hp⟩ := hp
  have sq : ∀ {b : Addr} {xs : List V}, SqT K H b xs → SqT K H' b xs := fun {b xs} h => by
    rcases h with (h | ⟨o, h⟩) | h
    · exact .inl (.inl (e _ _ (ne_of h hp (by intro z; cases z)) h))
    · exact .inl (.inr ⟨o, e _ _ (ne_of h hp (by intro z; cases z)) h⟩)
    · exact .inr h
  obtain ⟨vs, h1, h2⟩ := h
  refine ⟨vs, sq h1, ?_⟩
  clear h1
  induction h2 with
  | nil => exact .nil
  | cons a _ ih => exact .cons (sq a) ih
theorem Pen.dk {H : Hp} {p c : Addr} {ns : List Int} {n : Nat} (h : Pen H p c ns n) : ∃ c i l, H p = Option.some (.dK (penL c i l)) := by
  obtain ⟨i, l, a, b⟩ := h
  exact ⟨c, i, l, a.pen⟩
theorem MatAt.pen {K : PySem.W.Frag} {p c : Addr} {ns : List Int} {n : Nat} {H H' : Hp} {a : Addr} {A : Mat} (h : MatAt K H a A) (e : But p H H') (hp : Pen H p c ns n) : MatAt K H' a A := h.but e hp.dk
theorem SqT.pen {K : PySem.W.Frag} {p c : Addr} {ns : List Int} {n : Nat} {H H' : Hp} {b : Addr} {xs : List V} (h : SqT K H b xs) (e : But p H H') (hp : Pen H p c ns n) : SqT K H' b xs := by
  obtain ⟨c, i, l, hp⟩ := hp.dk
  rcases h with (h | ⟨o, h⟩) | h
  · exact .inl (.inl (e _ _ (ne_of h hp (by intro z; cases z)) h))
  · exact .inl (.inr ⟨o, e _ _ (ne_of h hp (by intro z; cases z)) h⟩)
  · exact .inr h
/-- a comprehension with draws -/
theorem lc_pen {J : It} {n : Nat} {G : Hp → Prop} {Y : Nat → Hp → V → Hp → Prop} (w : Walk J n G Y) {g : TG} {tt : TT} {te : TE} {vs : List Nat} {σ : L2.St} {H1 : Hp} {D : Addr} {Qd : Hp → Prop} {p c : Addr} {ns : List Int} {m : Nat} (k : Nat) (hP : Pen H1 p c ns m) (hD : H1 D = none) (hn : n ≤ 1000)
    (R : Nat → V → Hp → Prop) (mono : ∀ i v H H', R i v H → (∀ b o, b ≠ D → b ≠ p → H b = some o → H' b = some o) → R i v H') (hG : ∀ H, But p H1 H → G H)
    (hs : ∀ (i : Nat) (x : V) (H H' : Hp) (Fn : V → Hp → Prop) (Nn : Hp → Prop), (∀ y H4, But p H H4 → Pen H4 p c ns (m + k * (i + 1)) → R i y H4 → Fn y H4) → i < n → But p H1 H → Pen H p c ns (m + k * i) → (∃ acc, H D = some (.lst acc)) → Y i H x H' → g x (wipe σ vs) H' fun σ2 H2 => wipe σ2 vs = wipe σ vs ∧ tt σ2 H2 fun b H3 => if b = true then te σ2 H3 Fn else Nn H3)
    (hd : ∀ (acc : List V) H, acc.length = n → H D = some (.lst acc) → But p H1 H → Pen H p c ns (m + k * n) → (∀ j v, acc[j]? = some v → R j v H) → Qd H) :
    ∃ W : Nat → Nat → Hp → Prop, (∃ m, W 0 m (upd H1 D (.lst []))) ∧ ∀ i m H, W i m H →
      (J.stop i H ∧ Qd H) ∨ (J.go i H ∧ ∃ Nx : Hp → Prop, (∀ H', Nx H' → ∃ m', m' < m ∧ W (i + 1) m' H') ∧ ∀ x H', J.yld i H x H' → g x (wipe σ vs) H' fun σ2 H2 => wipe σ2 vs = wipe σ vs ∧ tt σ2 H2 fun b H3 =>
        if b = true then te σ2 H3 fun y H4 => ∃ acc, H4 D = some (.lst acc) ∧ acc.length < sizeLine ∧ Nx (upd H4 D (.lst (acc ++ [y]))) else Nx H3) := by
  have hDp : D ≠ p := fun z => by
    obtain ⟨o, ho⟩ := hP.some
    rw [z, ho] at hD
    cases hD
  have penD : ∀ {H q xs}, Pen H p c ns q → (∃ acc : List V, H D = Option.some (.lst acc)) ∨ H D = none → H1 D = none → (∀ b o, H1 b = Option.some o → b ≠ p → H b = Option.some o) → Pen (upd H D (.lst xs)) p c ns q := fun {H q xs} h _ _ hk => by
    obtain ⟨i, l, a, b⟩ := h
    obtain ⟨_, _, a1, _⟩ := hP
    have hcD : c ≠ D := fun z => by
      have := a1.cells
      rw [z, hD] at this
      cases this
    exact ⟨i, l, ⟨by rw [upd_ne hDp.symm]; exact a.pen, by rw [upd_ne hcD]; exact a.cells, a.i0, a.l0, a.i1⟩, b⟩
  refine lc_it w (fun i H => ∃ acc : List V, acc.length = i ∧ H D = some (.lst acc) ∧ But p H1 H ∧ Pen H p c ns (m + k * i) ∧ ∀ j v, acc[j]? = some v → R j v H) ⟨[], rfl, upd_same, fun b o _ e => ?_, ?_, fun j v e => by simp at e⟩ (fun i H hi ⟨acc, _, _, h3, _⟩ => hG H h3) ?_ fun H ⟨acc, h1, h2, h3, h4, h5⟩ => hd acc H h1 h2 h3 h4 h5
  · rw [upd_ne (fun z => by rw [z, hD] at e; cases e)]
    exact e
  · exact penD (hP.le (by omega)) (.inr hD) hD fun b o e _ => e
  · intro i x H H' hi ⟨acc, h1, h2, h3, h4, h5⟩ hy
    refine hs i x H H' _ _ (fun y H4 sm hp4 hr => ⟨acc, sm _ _ hDp h2, ?_, acc ++ [y], by simp [h1], upd_same, fun b o hb e => ?_, penD hp4 (.inl ⟨acc, sm _ _ hDp h2⟩) hD fun b o e hb => sm _ _ hb (h3 _ _ hb e), fun j v e => ?_⟩) hi h3 h4 ⟨acc, h2⟩ hy
    · rw [h1]
      exact Nat.lt_of_lt_of_le hi (Nat.le_trans hn (by decide))
    · rw [upd_ne (fun z => by rw [z, hD] at e; cases e)]
      exact sm _ _ hb (h3 _ _ hb e)
    · have b1 : ∀ b o, b ≠ D → b ≠ p → H4 b = some o → (upd H4 D (.lst (acc ++ [y]))) b = some o := fun b o n _ q => by rw [upd_ne n]; exact q
      rcases Nat.lt_trichotomy j acc.length with hj | hj | hj
      · rw [List.getElem?_append_left hj] at e
        exact mono _ _ _ _ (mono _ _ _ _ (h5 j v e) fun b o _ hb q => sm b o hb q) b1
      · rw [hj] at e
        simp at e
        rw [hj, h1, ← e]
        exact mono _ _ _ _ hr b1
      · rw [List.getElem?_eq_none (by simp; omega)] at e
        cases e
end Wk

namespace Wk
open PySem L2
def spMat (K : PySem.W.Frag) : Sp := fun vs H Q _ => ∃ (p c : Addr) (ns : List Int) (m h w : Nat) (M : Int), vs = [.ref p, .int M, .int (h : Int), .int (w : Int)] ∧ Pen H p c ns m ∧ m < 80000 ∧ 1 ≤ M ∧ M < 2 ^ 64 ∧ h ≤ 10 ∧ w ≤ 10 ∧
  ∀ q H' A, But p H H' → Pen H' p c ns (m + 200) → MatAt K H' q A → Shp h w A → MRed M A → Q (.ref q) H'
def MEq (M : Int) (A A' : Mat) : Prop := A'.length = A.length ∧ ∀ (i : Nat) (r : List Int), A[i]? = some r → ∃ r' : List Int, A'[i]? = some r' ∧ r'.length = r.length ∧ ∀ (j : Nat) (x : Int), r[j]? = some x → ∃ y, r'[j]? = some y ∧ Eqm M y x
def spMoved (K : PySem.W.Frag) : Sp := fun vs H Q _ => ∃ (p c : Addr) (ns : List Int) (m : Nat) (M : Int) (a : Addr) (A : Mat), vs = [.ref p, .int M, .ref a] ∧ Pen H p c ns m ∧ m < 80000 ∧ 1 ≤ M ∧ M < 2 ^ 64 ∧ MatAt K H a A ∧ A.length ≤ 10 ∧ (∀ r ∈ A, r.length ≤ 10) ∧ MRed M A ∧
  ∀ q H' A', But p H H' → Pen H' p c ns (m + 100) → MatAt K H' q A' → MEq M A A' → MWd A' → Q (.ref q) H'
theorem But.of_same {p : Addr} {H H' : Hp} (h : Same H H') : But p H H' := fun b o _ e => h b o e
theorem But.new {p D : Addr} {H H' : Hp} {o : HO} (h : But p H H') (hD : H' D = none) : But p H (upd H' D o) := h.same (same_upd hD)
section
variable {P : Program} {w : World} {K : PySem.W.Frag} {mg : Str → Option Value} {base : Heap}
theorem ok_matrix_of {f fD : Addr} {fd fdD : FuncData} (F : Fun K "_law_matrix_of" "_law_matrix_of" s_law_matrix_of f fd) (T : TxtL mg)
    (G__law_draw : FnOk P w K mg base CX0 1 fD fdD ["_law_pen", "_law_many"] spDraw) (g__law_draw : mg "_law_draw" = some (.ref fD)) (kp__law_draw : PySem.W.keepIn K (.ref fD) = true) (b__law_draw : Binds K fdD ["_law_pen", "_law_many"] []) :
    FnOk P w K mg base CX0 2 f fd ["_law_pen", "_law_modulus", "_law_height", "_law_width"] (spMat K) := by
  refine F.ok sc_law_matrix_of (fun vs H Q E h => ?_) (fun cdv A outer s H vs Q E hr h => ?_)
  · obtain ⟨p, c, ns, m, h, w, M, rfl, _⟩ := h
    rfl
  · obtain ⟨p, c, ns, m, h, w, M, rfl, hP, hm, hM, hM2, hh, hw, k⟩ := h
    refine ⟨_, (pss_cons (ps_set (i := 4) sc_law_matrix_of.nd rfl (Or.inl rfl) (pe_lst pa_nil))
        (pss_cons (ps_for PassesOwn.never rfl (pi_range1 rfl T.f_range (pa_cons (pv 2) pa_nil)) (pg_name (i := 5) sc_law_matrix_of.nd rfl (Or.inl rfl)) (pss_one (ps_expr (pe_bm PySem.F.plainAttrs_list PySem.F.slot_list_append PySem.F.type_list_append mt_append (pv 4) (pa_cons (pe_callTy (call_tupleK (K := K) rfl) rfl T.f_tuple (by decide +kernel) (pa_cons (pe_lc (own := [("_law_at", 6)]) (g := gName 6) rfl sc_law_matrix_of.nd (pi_range1 rfl T.f_range (pa_cons (pv 3) pa_nil)) (blkOk_by (N := ["_law_pen", "_law_modulus", "_law_height", "_law_width", "_law_found", "_law_k", "_law_at"]) (sc := defScope s_law_matrix_of) (by decide +kernel)) (fun _ _ _ _ _ => (pg_name (i := 6) sc_law_matrix_of.nd rfl (Or.inl rfl))) (fun _ _ _ _ _ => pts_nil) (fun _ _ _ _ _ => (pe_op op_mulW (pe_call G__law_draw (hr.mono (by decide)) rfl g__law_draw kp__law_draw b__law_draw .nil pass0 (pa_cons (pv 0) (pa_cons (pv 1) pa_nil))) (pe_callTy call_int1 rfl T.f_int (by decide +kernel) (pa_cons (pe_cmpR op_gt (pe_call G__law_draw (hr.mono (by decide)) rfl g__law_draw kp__law_draw b__law_draw .nil pass0 (pa_cons (pv 0) (pa_cons pe_int pa_nil))) pe_int (nomark _)) pa_nil))))) pa_nil)) pa_nil)))))
        (pss_one (ps_ret (pe_callTy (call_tupleK (K := K) rfl) rfl T.f_tuple (by decide +kernel) (pa_cons (pv 4) pa_nil)))))), ?_⟩
    refine ⟨Nat.zero_le _, fun F0 nF => ⟨_, rfl, (h : Int), rfl, by omega, by omega, ?_⟩⟩
    have sF : Same H (upd H F0 (.lst [])) := same_upd nF
    have gF : (upd H F0 (.lst [])) F0 = some (.lst []) := upd_same
    generalize upd H F0 (.lst []) = H1 at sF gF ⊢
    have hFp : F0 ≠ p := fun z => by
      obtain ⟨o, ho⟩ := hP.some
      rw [z, ho] at nF
      cases nF
    refine for_it (walk_range (lo := 0) (n := h)) (fun i σ H' => ∃ (x5 : Option V) (us : List V) (A : Mat), σ = [some (.ref p), some (.int M), some (.int (h : Int)), some (.int (w : Int)), some (.ref F0), x5, none] ∧ But p H H' ∧ Pen H' p c ns (m + 20 * i) ∧ H' F0 = some (.lst us) ∧ ObsAre .tup F0 H' us A ∧ Shp i w A ∧ MRed M A ∧ ∀ q, (∃ r ∈ us, r = V.ref q) → q ≠ p) ⟨none, [], [], rfl, .of_same sF, (hP.same sF).le (by omega), gF, .nil, ⟨rfl, fun r hr => nomatch hr⟩, (fun r hr => nomatch hr), fun q ⟨r, hr, _⟩ => nomatch hr⟩ (fun _ _ _ _ _ => trivial) ?_ ?_
    · rintro i v σ H2 H2' hi ⟨x5, us, A, rfl, b2, P2, g2, hU, sA, rA, hne⟩ ⟨rfl, rfl⟩
      refine ⟨_, rfl, .inl ⟨rfl, _, SqL.of g2⟩, _, rfl, (w : Int), rfl, by omega, by omega, fun D hD => lc_pen (walk_range (lo := 0) (n := w)) 2 P2 hD (by omega) (fun j v _ => ∃ x : Int, v = .int x ∧ 0 ≤ x ∧ x < M) (fun j v H H' h _ => h) (fun _ _ => trivial) ?_ ?_⟩
      · rintro j v H3 H3' Fn Nn fin hj b3 P3 hacc ⟨rfl, rfl⟩
        refine ⟨rfl, yesT ⟨_, rfl, _, rfl, ?_⟩⟩
        obtain ⟨i3, l3, a3, n3⟩ := P3
        refine ⟨p, c, ns, i3, l3, M, rfl, a3, by omega, hM, w64 hM hM2, fun d i4 l4 d0 d1 z0 z1 z2 => ?_⟩
        obtain ⟨P4, b4⟩ := drwP a3 n3 (by omega) z0 z1 z2
        generalize penTo H3' p c i4 l4 = H4 at P4 b4 ⊢
        obtain ⟨i5, l5, a5, n5⟩ := P4
        refine ⟨_, rfl, p, c, ns, i5, l5, 4, rfl, a5, by omega, by decide, w64 (by decide) (by decide), fun e i6 l6 e0 e1 y0 y1 y2 => ?_⟩
        obtain ⟨P5, b5⟩ := drwP a5 n5 (by omega) y0 y1 y2
        generalize penTo H4 p c i6 l6 = H5 at P5 b5 ⊢
        refine ⟨_, _, rfl, rfl, .inr ⟨_, rfl, ?_⟩⟩
        refine ⟨_, _, rfl, rfl, ?_, ?_⟩
        · refine wide_mul (a := 64) (b := 64) (by omega) ?_ (by decide) (by decide) (by decide)
          split <;> decide
        · refine fin _ _ (b4.trans b5) (P5.le (by omega)) ⟨_, rfl, ?_⟩
          split <;> omega
      · intro acc H3 a1 a2 b3 P3 hR
        obtain ⟨r, hr, hrl, hrr⟩ : ∃ r : List Int, acc = r.map V.int ∧ r.length = w ∧ RRed M r := by
          refine ⟨acc.map fun v => match v with | .int x => x | _ => 0, ?_, by simpa using a1, ?_⟩
          · apply List.ext_getElem?
            intro j
            rw [List.getElem?_map, List.getElem?_map]
            cases e : acc[j]? with
            | none => rfl
            | some v =>
              obtain ⟨x, rfl, _⟩ := hR j v e
              rfl
          · intro x hx
            obtain ⟨v, hv, rfl⟩ := List.mem_map.mp hx
            obtain ⟨j, e⟩ := List.mem_iff_getElem?.mp hv
            obtain ⟨y, rfl, h0⟩ := hR j v e
            exact h0
        have g3 : H3 F0 = some (.lst us) := b3 _ _ hFp g2
        refine ⟨D, acc, rfl, .inl ⟨SqL.of a2, fun u nu => ⟨F0, _, _, rfl, rfl, (by rw [upd_ne (ne_of_none g3 nu)]; exact g3), Nat.le_trans (show us.length.succ ≤ 1001 by rw [hU.1, sA.1]; omega) (show 1001 ≤ sizeLine by decide), ?_⟩⟩⟩
        have huF : u ≠ F0 := fun z => by rw [z, g3] at nu; cases nu
        have hup : u ≠ p := fun z => by
          obtain ⟨o, ho⟩ := P3.some
          rw [z, ho] at nu
          cases nu
        have s4 : ∀ b o, b ≠ F0 → H3 b = some o → (upd (upd H3 u (.tup acc)) F0 (.lst (us ++ [.ref u]))) b = some o := fun b o hb e => by
          rw [upd_ne hb, upd_ne (ne_of_none e nu)]
          exact e
        have hcF : c ≠ F0 := fun z => by
          obtain ⟨i', l', a, _⟩ := hP
          have := a.cells
          rw [z, nF] at this
          cases this
        refine ⟨_, us ++ [.ref u], A ++ [r], rfl, fun b o hb e => s4 b o (ne_of_none e nF) (b3 _ _ hb (b2 _ _ hb e)), ?_, upd_same, ?_, ⟨by simp [sA.1], fun t ht => ?_⟩, fun t ht => ?_, fun q ⟨t, ht, e⟩ => ?_⟩
        · obtain ⟨i', l', a, ha⟩ := P3
          exact ⟨i', l', ⟨s4 _ _ hFp.symm a.pen, s4 _ _ hcF a.cells, a.i0, a.l0, a.i1⟩, by omega⟩
        · refine ObsAre.snoc ⟨hU.1, fun kk rr z => ?_⟩ huF (by rw [upd_ne huF, upd_same, hr])
          obtain ⟨q, e1, e2, e3⟩ := hU.2 kk rr z
          exact ⟨q, e1, e2, s4 _ _ e2 (b3 _ _ (hne q ⟨_, List.mem_of_getElem? e1, rfl⟩) e3)⟩
        · rcases List.mem_append.mp ht with ht | ht
          · exact sA.2 t ht
          · rw [List.mem_singleton.mp ht]
            exact hrl
        · rcases List.mem_append.mp ht with ht | ht
          · exact rA t ht
          · rw [List.mem_singleton.mp ht]
            exact hrr
        · rcases List.mem_append.mp ht with ht | ht
          · exact hne q ⟨t, ht, e⟩
          · rw [List.mem_singleton.mp ht] at e
            cases e
            exact hup
    · rintro σ H2 ⟨x5, us, A, rfl, b2, P2, g2, hU, sA, rA, hne⟩
      refine ⟨_, rfl, tup_read g2 hU.rows (fun _ _ e => e) fun q H3 s3 h3 => k q H3 A (b2.same s3) ((P2.same s3).le (by omega)) h3 sA rA⟩
theorem ok_moved {f fD : Addr} {fd fdD : FuncData} (F : Fun K "_law_moved" "_law_moved" s_law_moved f fd) (T : TxtL mg)
    (G__law_draw : FnOk P w K mg base CX0 1 fD fdD ["_law_pen", "_law_many"] spDraw) (g__law_draw : mg "_law_draw" = some (.ref fD)) (kp__law_draw : PySem.W.keepIn K (.ref fD) = true) (b__law_draw : Binds K fdD ["_law_pen", "_law_many"] []) :
    FnOk P w K mg base CX0 2 f fd ["_law_pen", "_law_modulus", "_law_matrix"] (spMoved K) := by
  refine F.ok sc_law_moved (fun vs H Q E h => ?_) (fun cdv A outer s H vs Q E hr h => ?_)
  · obtain ⟨p, c, ns, m, M, a, A, rfl, _⟩ := h
    rfl
  · obtain ⟨p, c, ns, m, M, a, Am, rfl, hP, hm, hM, hM2, hA, lA, lr, rA, k⟩ := h
    refine ⟨_, (pss_one (ps_ret (pe_callTy (call_tupleK (K := K) rfl) rfl T.f_tuple (by decide +kernel) (pa_cons (pe_lc (own := [("_law_row", 3)]) (g := gName 3) rfl sc_law_moved.nd (pi_tup (pv 2)) (blkOk_by (N := ["_law_pen", "_law_modulus", "_law_matrix", "_law_row", "_law_number"]) (sc := defScope s_law_moved) (by decide +kernel)) (fun _ _ _ _ _ => (pg_name (i := 3) sc_law_moved.nd rfl (Or.inl rfl))) (fun _ _ _ _ _ => pts_nil) (fun _ _ _ _ _ => (pe_callTy (call_tupleK (K := K) rfl) rfl T.f_tuple (by decide +kernel) (pa_cons (pe_lc (own := [("_law_number", 4)]) (g := gName 4) rfl sc_law_moved.nd (pi_tupK (K := K) rfl (pv 3)) (blkOk_by (N := ["_law_pen", "_law_modulus", "_law_matrix", "_law_row", "_law_number"]) (sc := relS _ (defScope s_law_moved)) (by decide +kernel)) (fun _ _ _ _ _ => (pg_name (i := 4) sc_law_moved.nd rfl (Or.inl rfl))) (fun _ _ _ _ _ => pts_nil) (fun _ _ _ _ _ => (pe_op op_add (pv 4) (pe_op op_mulW (pv 1) (pe_op op_sub (pe_call G__law_draw (hr.mono (by decide)) rfl g__law_draw kp__law_draw b__law_draw .nil pass0 (pa_cons (pv 0) (pa_cons pe_int pa_nil))) pe_int))))) pa_nil)))) pa_nil)))), ?_⟩
    obtain ⟨vs, hv, hR⟩ := id hA
    have hvl : vs.length = Am.length := hR.length
    refine ⟨_, rfl, a, rfl, ⟨vs, hv⟩, fun D hD => lc_pen (walk_tup (xs := vs)) 10 hP hD (by omega) (fun i v H' => ∃ (q : Addr) (r r' : List Int), v = .ref q ∧ q ≠ D ∧ q ≠ p ∧ Am[i]? = some r ∧ H' q = some (.tup (r'.map V.int)) ∧ r'.length = r.length ∧ RWd r' ∧ ∀ (j : Nat) (x : Int), r[j]? = some x → ∃ y, r'[j]? = some y ∧ Eqm M y x) (fun i v H1 H2 ⟨q, r, r', e1, e2, e3, e4, e5, e6⟩ b => ⟨q, r, r', e1, e2, e3, e4, b _ _ e2 e3 e5, e6⟩) (fun H' b => SqT.pen hv b hP) ?_ ?_⟩
    · rintro i v H1 H1' Fn Nn fin hi b1 P1 ⟨acc0, hacc⟩ ⟨rfl, hx⟩
      obtain ⟨q, r, rfl, hr, hq⟩ := rows_at hR hx
      have hq1 : SqT K H1' q (r.map V.int) := SqT.pen hq b1 hP
      have hrm := List.mem_of_getElem? hr
      have hrl := lr _ hrm
      refine ⟨rfl, yesT ⟨_, rfl, q, rfl, ⟨_, hq1⟩, fun D2 hD2 => lc_pen (walk_tup (xs := r.map V.int)) 1 P1 hD2 (by simp; omega) (fun j v _ => ∃ x y : Int, r[j]? = some x ∧ v = .int y ∧ Wd y ∧ Eqm M y x) (fun j v H H' h _ => h) (fun H' b => SqT.pen hq1 b P1) ?_ ?_⟩⟩
      · rintro j v H2 H2' Fn2 Nn2 fin2 hj b2 P2 hacc2 ⟨rfl, hy⟩
        obtain ⟨x, gx, rfl⟩ := at_ints hy
        have hx0 := rA r hrm x (List.mem_of_getElem? gx)
        refine ⟨rfl, yesT ⟨_, rfl, _, rfl, _, rfl, ?_⟩⟩
        obtain ⟨i3, l3, a3, n3⟩ := P2
        have hj10 : j < 10 := by
          have : (r.map V.int).length ≤ 10 := by simpa using hrl
          omega
        refine ⟨p, c, ns, i3, l3, 3, rfl, a3, by omega, by decide, w64 (by decide) (by decide), fun d i4 l4 d0 d1 z0 z1 z2 => ?_⟩
        obtain ⟨P4, b4⟩ := drwP a3 n3 (by omega) z0 z1 z2
        generalize penTo H2' p c i4 l4 = H4 at P4 b4 ⊢
        have hmw : (M * (d - 1)).natAbs < 2 ^ 66 := by
          rw [Int.natAbs_mul]
          have h1 : M.natAbs < 2 ^ 64 := by omega
          have h2 : (d - 1).natAbs ≤ 1 := by omega
          calc M.natAbs * (d - 1).natAbs ≤ M.natAbs * 1 := Nat.mul_le_mul_left _ h2
            _ < 2 ^ 66 := by omega
        refine ⟨_, _, rfl, rfl, _, _, rfl, rfl, wide_mul (a := 64) (b := 64) (by omega) (by omega) (by decide) (by decide) (by decide), _, _, rfl, rfl, fin2 _ _ b4 (P4.le (by omega)) ⟨x, _, gx, rfl, ?_, ⟨d - 1, rfl⟩⟩⟩
        show (x + M * (d - 1)).natAbs < 2 ^ 200
        omega
      · intro acc H2 a1 a2 b2 P2 hR2
        obtain ⟨r', hr', hrl', hrw, hre⟩ : ∃ r' : List Int, acc = r'.map V.int ∧ r'.length = r.length ∧ RWd r' ∧ ∀ (j : Nat) (x : Int), r[j]? = some x → ∃ y, r'[j]? = some y ∧ Eqm M y x := by
          refine ⟨acc.map fun v => match v with | .int x => x | _ => 0, ?_, by simpa using a1, ?_, ?_⟩
          · apply List.ext_getElem?
            intro j
            rw [List.getElem?_map, List.getElem?_map]
            cases e : acc[j]? with
            | none => rfl
            | some v =>
              obtain ⟨x, y, _, rfl, _⟩ := hR2 j v e
              rfl
          · intro x hx
            obtain ⟨v, hv, rfl⟩ := List.mem_map.mp hx
            obtain ⟨j, e⟩ := List.mem_iff_getElem?.mp hv
            obtain ⟨x, y, _, rfl, h0, _⟩ := hR2 j v e
            exact h0
          · intro j x hj
            have hja : j < acc.length := by
              rw [a1, List.length_map]
              exact (List.getElem?_eq_some_iff.mp hj).1
            obtain ⟨x', y, g1, g2, _, g3⟩ := hR2 j _ (List.getElem?_eq_getElem hja)
            rw [hj] at g1
            cases g1
            exact ⟨y, by rw [List.getElem?_map, List.getElem?_eq_getElem hja, g2]; rfl, g3⟩
        refine ⟨D2, acc, rfl, .inl ⟨SqL.of a2, fun u nu => fin _ _ (b2.new nu) ((P2.same (same_upd nu)).le ?_) ⟨u, r, r', rfl, fun z => ?_, fun z => ?_, hr, by rw [upd_same, hr'], hrl', hrw, hre⟩⟩⟩
        · have : (r.map V.int).length ≤ 10 := by simpa using hrl
          omega
        · have hDp : D ≠ p := fun y => by
            obtain ⟨o, ho⟩ := hP.some
            rw [y, ho] at hD
            cases hD
          rw [z, b2 _ _ hDp hacc] at nu
          cases nu
        · obtain ⟨o, ho⟩ := P2.some
          rw [z, ho] at nu
          cases nu
    · intro acc H1 a1 a2 b1 P1 hR1
      have hget : ∀ (i : Nat) (r : List Int), Am[i]? = some r → ∃ (q : Addr) (r' : List Int), acc[i]? = some (.ref q) ∧ H1 q = some (.tup (r'.map V.int)) ∧ r'.length = r.length ∧ RWd r' ∧ ∀ (j : Nat) (x : Int), r[j]? = some x → ∃ y, r'[j]? = some y ∧ Eqm M y x := fun i r hr => by
        have hi : i < acc.length := by
          rw [a1, hvl]
          exact (List.getElem?_eq_some_iff.mp hr).1
        obtain ⟨q, r0, r', e1, _, _, e4, e5, e6, e7, e8⟩ := hR1 i _ (List.getElem?_eq_getElem hi)
        rw [hr] at e4
        cases e4
        exact ⟨q, r', by rw [List.getElem?_eq_getElem hi, e1], e5, e6, e7, e8⟩
      obtain ⟨A', hA'⟩ : ∃ A' : Mat, A'.length = Am.length ∧ ∀ (i : Nat) (r : List Int), Am[i]? = some r → ∃ (q : Addr) (r' : List Int), A'[i]? = some r' ∧ acc[i]? = some (.ref q) ∧ H1 q = some (.tup (r'.map V.int)) ∧ r'.length = r.length ∧ RWd r' ∧ ∀ (j : Nat) (x : Int), r[j]? = some x → ∃ y, r'[j]? = some y ∧ Eqm M y x := by
        clear k a1 hR1
        have : ∀ n, n ≤ Am.length → ∃ A' : Mat, A'.length = n ∧ ∀ (i : Nat) (r : List Int), i < n → Am[i]? = some r → ∃ (q : Addr) (r' : List Int), A'[i]? = some r' ∧ acc[i]? = some (.ref q) ∧ H1 q = some (.tup (r'.map V.int)) ∧ r'.length = r.length ∧ RWd r' ∧ ∀ (j : Nat) (x : Int), r[j]? = some x → ∃ y, r'[j]? = some y ∧ Eqm M y x := by
          intro n
          induction n with
          | zero => exact fun _ => ⟨[], rfl, fun i r h => absurd h (Nat.not_lt_zero _)⟩
          | succ n ih =>
            intro hn
            obtain ⟨A', l', h'⟩ := ih (by omega)
            obtain ⟨q, r', g1, g2⟩ := hget n _ (List.getElem?_eq_getElem (by omega))
            refine ⟨A' ++ [r'], by simp [l'], fun i r hi hr => ?_⟩
            rcases Nat.lt_succ_iff_lt_or_eq.mp hi with z | z
            · obtain ⟨q2, r2, y1, y2⟩ := h' i r z hr
              exact ⟨q2, r2, by rw [List.getElem?_append_left (by omega)]; exact y1, y2⟩
            · subst z
              rw [List.getElem?_eq_getElem (by omega)] at hr
              cases hr
              exact ⟨q, r', by rw [← l']; simp, g1, g2⟩
        obtain ⟨A', l', h'⟩ := this _ (Nat.le_refl _)
        exact ⟨A', l', fun i r hr => h' i r (List.getElem?_eq_some_iff.mp hr).1 hr⟩
      obtain ⟨lA', hA'⟩ := hA'
      refine tup_read a2 (rows_of (A := A') (by rw [a1, hvl, lA']) fun i v r' e1 e2 => ?_) (fun _ _ e => e) fun q H2 s2 h2 => k q H2 A' (b1.same s2) ((P1.same s2).le (by omega)) h2 ⟨lA', fun i r hr => ?_⟩ fun r' hr' => ?_
      · have hi : i < Am.length := by
          rw [← lA']
          exact (List.getElem?_eq_some_iff.mp e2).1
        obtain ⟨q, r2, y1, y2, y3, _⟩ := hA' i _ (List.getElem?_eq_getElem hi)
        rw [y1] at e2
        cases e2
        rw [y2] at e1
        cases e1
        exact ⟨q, rfl, SqT.of y3⟩
      · obtain ⟨q, r2, y1, y2, y3, y4, y5, y6⟩ := hA' i r hr
        exact ⟨r2, y1, y4, y6⟩
      · obtain ⟨i, e⟩ := List.mem_iff_getElem?.mp hr'
        have hi : i < Am.length := by
          rw [← lA']
          exact (List.getElem?_eq_some_iff.mp e).1
        obtain ⟨q, r2, y1, _, _, _, y5, _⟩ := hA' i _ (List.getElem?_eq_getElem hi)
        rw [y1] at e
        cases e
        exact y5
end
end Wk

namespace Wk
open PySem L2
def spGcd : Sp := fun vs H Q _ => ∃ a b : Int, vs = [.int a, .int b] ∧ Q (.int (Int.gcd a b : Int)) H
def mu1 (σ : St) : Nat := match σ[1]? with
  | some (some (V.int y)) => y.toNat
  | _ => 0
theorem gcd_turn {x y : Int} (hx : 0 ≤ x) (hy : 0 < y) : Int.gcd y (x % y) = Int.gcd x y := by
  have e : x % y = x - (x / y) * y := by
    have := Int.emod_add_ediv_mul x y
    omega
  rw [e, Int.gcd_sub_mul_right_right, Int.gcd_comm]
theorem ObsAre.pen {mk : List V → HO} {F p c : Addr} {ns : List Int} {n : Nat} {H H' : Hp} {us : List V} {A : Mat} (h : ObsAre mk F H us A) (e : But p H H') (hp : Pen H p c ns n) (hm : ∀ xs kvs, mk xs ≠ .dK kvs) : ObsAre mk F H' us A := ⟨h.1, fun k r z => by
  obtain ⟨q, a, b, d⟩ := h.2 k r z
  obtain ⟨c, i, l, hp⟩ := hp.dk
  exact ⟨q, a, b, e _ _ (ne_of d hp (hm _ _)) d⟩⟩
def spUndOf (K : PySem.W.Frag) : Sp := fun vs H Q _ => ∃ (p c : Addr) (ns : List Int) (m n : Nat) (M : Int), vs = [.ref p, .int M, .int (n : Int)] ∧ Pen H p c ns m ∧ m < 80000 ∧ 2 ≤ M ∧ M < 2 ^ 64 ∧ 1 ≤ n ∧ n ≤ 8 ∧
  ∀ q H' A, But p H H' → Pen H' p c ns (m + 100) → MatAt K H' q A → Shp n n A → MRed M A → Inv2 M n (ent A) → Q (.ref q) H'
theorem set_shp {n : Nat} {A : Mat} {r : Row} (s : Shp n n A) (i : Nat) (h : r.length = n) : Shp n n (A.set i r) := ⟨by rw [List.length_set]; exact s.1, fun t ht => by
  rcases List.mem_or_eq_of_mem_set ht with h1 | h1
  · exact s.2 t h1
  · rw [h1]; exact h⟩
theorem set_red {M : Int} {A : Mat} {r : Row} (s : MRed M A) (i : Nat) (h : RRed M r) : MRed M (A.set i r) := fun t ht => by
  rcases List.mem_or_eq_of_mem_set ht with h1 | h1
  · exact s t h1
  · rw [h1]; exact h
theorem set_ent {n : Nat} {A : Mat} {r : Row} (s : Shp n n A) {x : Nat} (hx : x < n) (i j : Nat) : ent (A.set x r) i j = if i = x then r.getD j 0 else ent A i j := by
  by_cases h : i = x
  · subst h
    rw [if_pos rfl, ent_at (List.getElem?_set_self (by rw [s.1]; exact hx))]
  · rw [if_neg h]
    unfold ent
    rw [List.getD_eq_getElem?_getD (l := A.set x r), List.getElem?_set_ne (fun z => h z.symm), ← List.getD_eq_getElem?_getD]
/-- one row plus t times another -/
theorem inv_add {M : Int} {n : Nat} {A : Mat} {x y : Nat} {a b : Row} {t : Int} (s : Shp n n A) (I : Inv2 M n (ent A)) (hx : x < n) (hy : y < n) (hne : x ≠ y) (ha : A[x]? = some a) (hb : A[y]? = some b) : Inv2 M n (ent (A.set x (comb M 1 a t b))) := by
  have la := s.2 a (List.mem_of_getElem? ha)
  have lb := s.2 b (List.mem_of_getElem? hb)
  have h2 := addE_inv (M := M) (t := -t) hy hne
  rw [Int.neg_neg] at h2
  refine (I.mul (addE_inv (M := M) (t := t) hy hne) h2).congr fun i j hi hj => ?_
  rw [addE_mul hy _ i j hi, set_ent s hx]
  by_cases h : i = x
  · subst h
    rw [if_pos rfl, if_pos rfl]
    refine (comb_fn (by omega) j).trans (.eq ?_)
    rw [ent_at ha, ent_at hb]
    show 1 * a.getD j 0 + t * b.getD j 0 = _
    omega
  · rw [if_neg h, if_neg h]
    exact .eq (by simp)
theorem inv_mul {M : Int} (hM : 2 ≤ M) {n : Nat} {A : Mat} {x : Nat} {a : Row} {u : Int} (s : Shp n n A) (I : Inv2 M n (ent A)) (hx : x < n) (ha : A[x]? = some a) (hu : 0 ≤ u) (hg : Int.gcd u M = 1) : Inv2 M n (ent (A.set x (mulRow M u a))) := by
  obtain ⟨v, hv⟩ := unit_inv (by omega) hu hg
  refine (I.mul (mulE_inv (x := x) hv) (mulE_inv (x := x) (by rw [Int.mul_comm]; exact hv))).congr fun i j hi hj => ?_
  rw [mulE_mul _ i j hi, set_ent s hx]
  by_cases h : i = x
  · subst h
    rw [if_pos rfl, if_pos rfl, ent_at ha]
    exact mul_fn j
  · rw [if_neg h, if_neg h]
    exact .eq (by simp)
section
variable {P : Program} {w : World} {K : PySem.W.Frag} {mg : Str → Option Value} {base : Heap}
theorem ok_gcd {f : Addr} {fd : FuncData} (F : Fun K "_law_common" "_law_common" s_law_common f fd) (T : TxtL mg) : FnOk P w K mg base CX0 1 f fd ["_law_one", "_law_other"] spGcd := by
  refine F.ok sc_law_common (fun vs H Q E h => ?_) (fun cdv A outer s H vs Q E hr h => ?_)
  · obtain ⟨a, b, rfl, _⟩ := h
    rfl
  · obtain ⟨a, b, rfl, k⟩ := h
    refine ⟨_, (pss_cons (ps_par (i := 0) (j := 1) rfl sc_law_common.nd rfl rfl (by decide) rfl rfl (pa_cons (pe_callB call_abs rfl T.f_abs (by decide +kernel) (pa_cons (pv 0) pa_nil)) (pa_cons (pe_callB call_abs rfl T.f_abs (by decide +kernel) (pa_cons (pv 1) pa_nil)) pa_nil)) (by rfl))
        (pss_cons (ps_while PassesOwn.never (pt_cmpR op_gt (pv 1) pe_int (nomark _)) (pss_one (ps_par (i := 0) (j := 1) rfl sc_law_common.nd rfl rfl (by decide) rfl rfl (pa_cons (pv 1) (pa_cons (pe_op op_modN (pe_callTy call_int1 rfl T.f_int (by decide +kernel) (pa_cons (pv 0) pa_nil)) (pv 1)) pa_nil)) (by rfl))))
        (pss_one (ps_ret (pv 0))))), ?_⟩
    refine ⟨_, rfl, _, rfl, _, rfl, _, rfl, _, _, rfl, ?_⟩
    refine while_by (fun σ H' => ∃ x y : Int, σ = [some (.int x), some (.int y)] ∧ H' = H ∧ 0 ≤ x ∧ 0 ≤ y ∧ Int.gcd x y = Int.gcd a b)
      (fun σ _ => mu1 σ) ?_ ?_ (fun σ H Q Q' hq ⟨v, hv, i, j, e1, e2, k, e3, q⟩ => ⟨v, hv, i, j, e1, e2, k, e3, hq _ _ q⟩)
    · refine ⟨(a.natAbs : Int), (b.natAbs : Int), ?_, rfl, by omega, by omega, ?_⟩
      · have e1 : ∀ z : Int, (if z < 0 then -z else z) = (z.natAbs : Int) := fun z => by split <;> omega
        rw [← e1 a, ← e1 b]
        rfl
      · show Nat.gcd _ _ = Nat.gcd _ _
        rw [Int.natAbs_natCast, Int.natAbs_natCast]
    · rintro σ H' ⟨x, y, rfl, rfl, hx, hy, hg⟩
      refine ⟨_, rfl, _, _, rfl, rfl, _, rfl, ?_⟩
      refine ite2 (fun hd => ?_) (fun hd => ?_)
      · have hy0 : 0 < y := of_decide_eq_true hd
        have he : x.fmod y = x % y := Int.fmod_eq_emod_of_nonneg _ (by omega)
        refine ⟨_, rfl, _, rfl, .inl ⟨_, rfl, _, rfl, _, _, rfl, rfl, (by omega), _, _, rfl, ⟨y, x.fmod y, rfl, rfl, hy, by rw [he]; exact Int.emod_nonneg _ (by omega), ?_⟩, ?_⟩⟩
        · rw [he, gcd_turn hx hy0, hg]
        · show (x.fmod y).toNat < y.toNat
          rw [he]
          have := Int.emod_lt_of_pos x hy0
          have := Int.emod_nonneg x (show y ≠ 0 by omega)
          omega
      · have hy0 : y = 0 := by
          have : ¬ 0 < y := fun z => hd (decide_eq_true z)
          omega
        subst hy0
        have hxg : x = (Int.gcd a b : Int) := by
          rw [← hg]
          simp
          omega
        rw [hxg]
        exact ⟨_, rfl, k⟩
theorem ok_undone_of {f fI fD fC : Addr} {fd fdI fdD fdC : FuncData} (F : Fun K "_law_undone_of" "_law_undone_of" s_law_undone_of f fd) (T : TxtL mg)
    (G__law_identity : FnOk P w K mg base CX0 1 fI fdI ["_law_size"] (spIdm K)) (g__law_identity : mg "_law_identity" = some (.ref fI)) (kp__law_identity : PySem.W.keepIn K (.ref fI) = true) (b__law_identity : Binds K fdI ["_law_size"] [])
    (G__law_draw : FnOk P w K mg base CX0 1 fD fdD ["_law_pen", "_law_many"] spDraw) (g__law_draw : mg "_law_draw" = some (.ref fD)) (kp__law_draw : PySem.W.keepIn K (.ref fD) = true) (b__law_draw : Binds K fdD ["_law_pen", "_law_many"] [])
    (G__law_common : FnOk P w K mg base CX0 1 fC fdC ["_law_one", "_law_other"] spGcd) (g__law_common : mg "_law_common" = some (.ref fC)) (kp__law_common : PySem.W.keepIn K (.ref fC) = true) (b__law_common : Binds K fdC ["_law_one", "_law_other"] []) :
    FnOk P w K mg base CX0 2 f fd ["_law_pen", "_law_modulus", "_law_size"] (spUndOf K) := by
  refine F.ok sc_law_undone_of (fun vs H Q E h => ?_) (fun cdv A outer s H vs Q E hr h => ?_)
  · obtain ⟨p, c, ns, m, n, M, rfl, _⟩ := h
    rfl
  · obtain ⟨p, c, ns, m, n, M, rfl, hP, hm, hM, hM2, n1, n2, k⟩ := h
    refine ⟨_, (pss_cons (ps_setLc (i := 3) (own := [("_law_row", 8)]) (g := gName 8) rfl sc_law_undone_of.nd rfl rfl (sw_true rfl rfl rfl (by decide +kernel)) (pi_tup (pe_call G__law_identity (hr.mono (by decide)) rfl g__law_identity kp__law_identity b__law_identity .nil pass0 (pa_cons (pv 2) pa_nil))) (blkOk_by (N := ["_law_pen", "_law_modulus", "_law_size", "_law_rows", "_law_turn", "_law_at", "_law_other", "_law_often", "_law_row", "_law_one", "_law_two", "_law_number"]) (sc := defScope s_law_undone_of) (by decide +kernel)) (fun _ _ _ _ _ => (pg_name (i := 8) sc_law_undone_of.nd rfl (Or.inl rfl))) (fun _ _ _ _ _ => pts_nil) (fun _ _ _ _ _ => (pe_callTy (call_listK (K := K) rfl) rfl T.f_list (by decide +kernel) (pa_cons (pv 8) pa_nil))))
        (pss_cons (ps_for PassesOwn.never rfl (pi_range1 rfl T.f_range (pa_cons (pe_op op_mulW pe_int (pv 2)) pa_nil)) (pg_name (i := 4) sc_law_undone_of.nd rfl (Or.inl rfl)) (pss_cons (ps_asg (pe_tup (pa_cons (pe_call G__law_draw (hr.mono (by decide)) rfl g__law_draw kp__law_draw b__law_draw .nil pass0 (pa_cons (pv 0) (pa_cons (pv 2) pa_nil))) (pa_cons (pe_call G__law_draw (hr.mono (by decide)) rfl g__law_draw kp__law_draw b__law_draw .nil pass0 (pa_cons (pv 0) (pa_cons (pv 2) pa_nil))) (pa_cons (pe_call G__law_draw (hr.mono (by decide)) rfl g__law_draw kp__law_draw b__law_draw .nil pass0 (pa_cons (pv 0) (pa_cons (pv 1) pa_nil))) pa_nil)))) (pg_tup rfl (pgs_cons (pg_name (i := 5) sc_law_undone_of.nd rfl (Or.inl rfl)) (pgs_cons (pg_name (i := 6) sc_law_undone_of.nd rfl (Or.inl rfl)) (pgs_cons (pg_name (i := 7) sc_law_undone_of.nd rfl (Or.inr rfl)) pgs_nil)))))
        (pss_one (ps_if (pt_cmpR op_ne (pv 5) (pv 6) (nomark _)) (pss_one (ps_asg (pe_lc (own := [("_law_one", 9), ("_law_two", 10)]) (g := gTup K 2 (gCons (gName 9) (gCons (gName 10) gNil))) rfl sc_law_undone_of.nd (pi_zip2K (K := K) rfl false false rfl T.f_zip (pa_cons (pe_ix ix_list (pv 3) (pv 5) (fun _ _ => rfl)) (pa_cons (pe_ix ix_list (pv 3) (pv 6) (fun _ _ => rfl)) pa_nil))) (blkOk_by (N := ["_law_pen", "_law_modulus", "_law_size", "_law_rows", "_law_turn", "_law_at", "_law_other", "_law_often", "_law_row", "_law_one", "_law_two", "_law_number"]) (sc := defScope s_law_undone_of) (by decide +kernel)) (fun _ _ _ _ _ => (pg_tupK rfl rfl (pgs_cons (pg_name (i := 9) sc_law_undone_of.nd rfl (Or.inl rfl)) (pgs_cons (pg_name (i := 10) sc_law_undone_of.nd rfl (Or.inl rfl)) pgs_nil)))) (fun _ _ _ _ _ => pts_nil) (fun _ _ _ _ _ => (pe_op op_modN (pe_callTy call_int1 rfl T.f_int (by decide +kernel) (pa_cons (pe_op op_add (pv 9) (pe_op op_mulW (pv 7) (pv 10))) pa_nil)) (pv 1)))) (pg_sub (pv 3) (pv 5) set_list))) (pss_one (ps_if (pt_cmpR op_eq (pe_call G__law_common (hr.mono (by decide)) rfl g__law_common kp__law_common b__law_common .nil pass0 (pa_cons (pv 7) (pa_cons (pv 1) pa_nil))) pe_int (nomark _)) (pss_one (ps_asg (pe_lc (own := [("_law_number", 11)]) (g := gName 11) rfl sc_law_undone_of.nd (pi_list (pe_ix ix_list (pv 3) (pv 5) (fun _ _ => rfl))) (blkOk_by (N := ["_law_pen", "_law_modulus", "_law_size", "_law_rows", "_law_turn", "_law_at", "_law_other", "_law_often", "_law_row", "_law_one", "_law_two", "_law_number"]) (sc := defScope s_law_undone_of) (by decide +kernel)) (fun _ _ _ _ _ => (pg_name (i := 11) sc_law_undone_of.nd rfl (Or.inl rfl))) (fun _ _ _ _ _ => pts_nil) (fun _ _ _ _ _ => (pe_op op_modN (pe_callTy call_int1 rfl T.f_int (by decide +kernel) (pa_cons (pe_op op_mulW (pv 7) (pv 11)) pa_nil)) (pv 1)))) (pg_sub (pv 3) (pv 5) set_list))) pss_nil))))))
        (pss_one (ps_ret (pe_callTy (call_tupleK (K := K) rfl) rfl T.f_tuple (by decide +kernel) (pa_cons (pe_lc (own := [("_law_row", 8)]) (g := gName 8) rfl sc_law_undone_of.nd (pi_list (pv 3)) (blkOk_by (N := ["_law_pen", "_law_modulus", "_law_size", "_law_rows", "_law_turn", "_law_at", "_law_other", "_law_often", "_law_row", "_law_one", "_law_two", "_law_number"]) (sc := defScope s_law_undone_of) (by decide +kernel)) (fun _ _ _ _ _ => (pg_name (i := 8) sc_law_undone_of.nd rfl (Or.inl rfl))) (fun _ _ _ _ _ => pts_nil) (fun _ _ _ _ _ => (pe_callTy (call_tupleK (K := K) rfl) rfl T.f_tuple (by decide +kernel) (pa_cons (pv 8) pa_nil)))) pa_nil)))))), ?_⟩
    refine ⟨_, rfl, n, rfl, by omega, fun a H1 s1 ⟨vs, hv, hR⟩ => ⟨a, rfl, ⟨vs, hv⟩, fun L hL => lc_lists (walk_tup (xs := vs)) hL (by rw [hR.length]; simp [idM]; omega) (idM n) hR.length.symm (fun H' e => SqT.same hv e) ?_ ?_⟩⟩
    · rintro i r x H2 H2' Fn Nn hi hr3 fin s2 ⟨rfl, hx⟩
      obtain ⟨q, l, rfl, hl, hq⟩ := rows_at hR hx
      rw [hr3] at hl
      cases hl
      exact ⟨rfl, yesT ⟨_, rfl, q, _, rfl, .inr (SqT.same hq s2), fun l nl => fin l _ (same_upd nl) nl upd_same⟩⟩
    · intro us H2 g2 s2 hU
      have sA := same_trans s1 s2
      have P2 := hP.same sA
      have hLp : L ≠ p := fun z => by
        obtain ⟨o, ho⟩ := (hP.same s1).some
        rw [z, ho] at hL
        cases hL
      have hLH : H L = none := none_back s1 hL
      refine ⟨_, rfl, _, _, rfl, rfl, wide_mul (a := 64) (b := 64) (by decide) (by omega) (by decide) (by decide) (by decide), ((3 * n : Nat) : Int), (by simp), by omega, by omega, ?_⟩
      refine for_it (walk_range (lo := 0) (n := 3 * n)) (fun i σ H' => ∃ (x4 x5 x6 x7 : Option V) (us : List V) (A : Mat), σ = [some (.ref p), some (.int M), some (.int (n : Int)), some (.ref L), x4, x5, x6, x7, none, none, none, none] ∧ But p H H' ∧ Pen H' p c ns (m + 3 * i) ∧ H' L = some (.lst us) ∧ ObsAre .lst L H' us A ∧ Shp n n A ∧ MRed M A ∧ Inv2 M n (ent A)) ⟨none, none, none, none, us, idM n, rfl, .of_same sA, P2.le (by omega), g2, hU, one_shp n, one_red hM n, (Inv2.one M n).congr fun i j hi hj => .eq (one_ent hi hj)⟩ (fun _ _ _ _ _ => trivial) ?_ ?_
      · rintro i v σ H3 H3' hi ⟨x4, x5, x6, x7, us, A, rfl, b3, P3, g3, hU3, sA3, rA3, I3⟩ ⟨rfl, rfl⟩
        obtain ⟨i3, l3, a3, n3⟩ := P3
        refine ⟨_, rfl, _, rfl, p, c, ns, i3, l3, n, rfl, a3, by omega, by omega, w64 (by omega) (by omega), fun d1 i4 l4 d10 d1n z0 z1 z2 => ?_⟩
        obtain ⟨P4, b4⟩ := drwP a3 n3 (by omega) z0 z1 z2
        have P3 : Pen H3' p c ns (m + 3 * i) := ⟨i3, l3, a3, n3⟩
        generalize penTo H3' p c i4 l4 = H4 at P4 b4 ⊢
        obtain ⟨i5, l5, a5, n5⟩ := P4
        refine ⟨_, rfl, _, rfl, p, c, ns, i5, l5, n, rfl, a5, by omega, by omega, w64 (by omega) (by omega), fun d2 i6 l6 d20 d2n y0 y1 y2 => ?_⟩
        obtain ⟨P5, b5⟩ := drwP a5 n5 (by omega) y0 y1 y2
        have P4 : Pen H4 p c ns (m + 3 * i + 1) := ⟨i5, l5, a5, n5⟩
        generalize penTo H4 p c i6 l6 = H5 at P5 b5 ⊢
        obtain ⟨i7, l7, a7, n7⟩ := P5
        refine ⟨_, rfl, _, rfl, p, c, ns, i7, l7, M, rfl, a7, by omega, by omega, w64 (by omega) (by omega), fun t i8 l8 t0 tM w0 w1 w2 => ?_⟩
        obtain ⟨P6, b6⟩ := drwP a7 n7 (by omega) w0 w1 w2
        have P5 : Pen H5 p c ns (m + 3 * i + 1 + 1) := ⟨i7, l7, a7, n7⟩
        generalize penTo H5 p c i8 l8 = H6 at P6 b6 ⊢
        have bA : But p H3' H6 := b4.trans (b5.trans b6)
        have hU6 := hU3.pen bA P3 (fun _ _ z => by cases z)
        have g6 := bA _ _ hLp g3
        refine ⟨(by show 3 ≤ sizeLine; decide), fun T0 nT => ⟨T0, _, rfl, SqT.of upd_same, rfl, _, _, rfl, _, _, rfl, _, _, rfl, rfl, ?_⟩⟩
        have sT : Same H6 (upd H6 T0 (.tup [.int d1, .int d2, .int t])) := same_upd nT
        generalize upd H6 T0 (.tup [.int d1, .int d2, .int t]) = H7 at sT ⊢
        have P7 := P6.same sT
        have g7 := sT _ _ g6
        have hU7 : ObsAre .lst L H7 us A := hU6.mono fun b o _ e => sT b o e
        have b7 : But p H H7 := b3.trans (bA.same sT)
        obtain ⟨x, rfl⟩ : ∃ x : Nat, d1 = x := ⟨d1.toNat, by omega⟩
        obtain ⟨y, rfl⟩ : ∃ y : Nat, d2 = y := ⟨d2.toNat, by omega⟩
        have hx : x < n := by omega
        have hy : y < n := by omega
        obtain ⟨ra, hra, lra⟩ := shp_at sA3 hx
        obtain ⟨rb, hrb, lrb⟩ := shp_at sA3 hy
        obtain ⟨qa, ua, nqa, ha⟩ := hU7.2 x ra hra
        obtain ⟨qb, ub, nqb, hb⟩ := hU7.2 y rb hrb
        have wd : ∀ {r : Row} {z : Int}, r ∈ A → z ∈ r → 0 ≤ z ∧ z < M := fun hr hz => rA3 _ hr _ hz
        have hlenus : us.length = n := by rw [hU7.1, sA3.1]
        have redA : RRed M ra := rA3 ra (List.mem_of_getElem? hra)
        have redB : RRed M rb := rA3 rb (List.mem_of_getElem? hrb)
        have fin : ∀ (r' : Row) (D : Addr) (H8 : Hp), Same H7 H8 → H7 D = none → H8 D = some (.lst (r'.map V.int)) → r'.length = n → RRed M r' → Inv2 M n (ent (A.set x r')) →
            ∃ (x4 x5 x6 x7 : Option V) (us' : List V) (A' : Mat), ([some (.ref p), some (.int M), some (.int (n : Int)), some (.ref L), some (.int (0 + (i : Int))), some (.int (x : Int)), some (.int (y : Int)), some (.int t), none, none, none, none] : L2.St) = [some (.ref p), some (.int M), some (.int (n : Int)), some (.ref L), x4, x5, x6, x7, none, none, none, none] ∧ But p H (upd H8 L (.lst (us.set x (.ref D)))) ∧ Pen (upd H8 L (.lst (us.set x (.ref D)))) p c ns (m + 3 * (i + 1)) ∧ (upd H8 L (.lst (us.set x (.ref D)))) L = some (.lst us') ∧ ObsAre .lst L (upd H8 L (.lst (us.set x (.ref D)))) us' A' ∧ Shp n n A' ∧ MRed M A' ∧ Inv2 M n (ent A') := fun r' D H8 s8 nD gD hl hr hI => by
          have hDL : D ≠ L := fun z => by rw [z, g7] at nD; cases nD
          have b9 : But L H8 (upd H8 L (.lst (us.set x (.ref D)))) := fun b o hb e => by rw [upd_ne hb]; exact e
          refine ⟨_, _, _, _, us.set x (.ref D), A.set x r', rfl, fun b o hb e => b9 _ _ (ne_of_none e hLH) (s8 _ _ (b7 _ _ hb e)), ?_, upd_same, ((hU7.mono fun b o _ e => s8 b o e).mono b9).set hDL (by rw [upd_ne hDL]; exact gD) x, set_shp sA3 x hl, set_red rA3 x hr, hI⟩
          obtain ⟨i9, l9, a9, n9⟩ := P7.same s8
          have hcL : c ≠ L := fun z => by
            have := a9.cells
            obtain ⟨_, _, aH, _⟩ := hP
            have := aH.cells
            rw [z, hLH] at this
            cases this
          exact ⟨i9, l9, ⟨by rw [upd_ne hLp.symm]; exact a9.pen, by rw [upd_ne hcL]; exact a9.cells, a9.i0, a9.l0, a9.i1⟩, by omega⟩
        have e0 : ((0 : Int) + (i : Nat)) = (i : Int) := by omega
        refine ⟨_, rfl, _, rfl, rfl, _, rfl, ?_⟩
        by_cases hxy : x = y
        · subst hxy
          refine iteNS rfl ?_
          refine ⟨_, rfl, _, rfl, t, M, rfl, rfl, _, rfl, ?_⟩
          refine ite2 (fun hd => ?_) (fun hd => ?_)
          · have hg : Int.gcd t M = 1 := by
              have this : V.int (Int.gcd t M : Int) = V.int 1 := of_decide_eq_true hd
              injection this with this
              omega
            refine ⟨_, rfl, _, rfl, L, us, _, _, rfl, rfl, SqL.of g7, atI_nat ua, qa, rfl, ⟨_, SqL.of ha⟩, fun D hD => lc_rel (walk_list (xs := ra.map V.int)) hD (by simp; omega) (fun j v _ => ∃ z, ra[j]? = some z ∧ v = .int (t * z % M)) (fun j v H H' h _ => h) (fun H' e => SqL.of (e _ _ ha)) ?_ ?_⟩
            · rintro j v H8 H8' Fn Nn fin2 hj s8 hacc ⟨rfl, hv⟩
              obtain ⟨z, gz, rfl⟩ := at_ints hv
              have hz := redA z (List.mem_of_getElem? gz)
              refine ⟨rfl, yesT ⟨_, rfl, _, rfl, _, _, rfl, rfl, wide_mul (a := 64) (b := 64) (by omega) (by omega) (by decide) (by decide) (by decide), .inl ⟨_, rfl, _, rfl, _, _, rfl, rfl, by omega, ?_⟩⟩⟩
              dsimp only
              rw [Int.fmod_eq_emod_of_nonneg _ (by omega)]
              exact fin2 _ _ (fun _ _ e => e) ⟨z, gz, rfl⟩
            · intro acc H8 a1 a2 s8 hR8
              have ea : acc = (mulRow M t ra).map V.int := by
                unfold mulRow
                rw [List.map_map]
                exact acc_map (f := fun z => V.int (t * z % M)) (by simpa using a1) hR8
              refine ⟨_, rfl, _, rfl, L, us, _, x, rfl, rfl, s8 _ _ g7, ix_at (by rw [hlenus]; exact hx), ?_⟩
              exact fin _ D H8 s8 hD (by rw [a2, ea]) (by simp [mulRow, lra]) (mulRow_red (by omega) _ _) (inv_mul hM sA3 I3 hx hra t0 hg)
          · exact ⟨_, _, _, _, us, A, rfl, b7, P7.le (by omega), g7, hU7, sA3, rA3, I3⟩
        · have e3 : (!decide (V.int (x : Int) = V.int (y : Int))) = true := by
            have : ¬ V.int (x : Int) = V.int (y : Int) := fun z => hxy (by injection z with z; omega)
            simp [this]
          rw [e3]
          refine iteT ?_
          refine ⟨_, rfl, _, rfl, L, us, _, _, rfl, rfl, SqL.of g7, atI_nat ua, _, rfl, _, rfl, L, us, _, _, rfl, rfl, SqL.of g7, atI_nat ub, qa, qb, _, _, rfl, SqL.of ha, SqL.of hb, fun D hD => lc_rel (ZM.walk_two (n := n) (by simp [lra, lrb])) hD (by omega) (fun j v _ => ∃ z, (comb M 1 ra t rb)[j]? = some z ∧ v = .int z) (fun j v H H' h _ => h) (fun H' e => ⟨SqL.of (e _ _ ha), SqL.of (e _ _ hb)⟩) ?_ ?_⟩
          · rintro j v H8 H8' Fn Nn fin2 hj s8 hacc ⟨T2, v1, v2, rfl, hT2, rfl, hv1, hv2⟩
            obtain ⟨z1, gz1, rfl⟩ := at_ints hv1
            obtain ⟨z2, gz2, rfl⟩ := at_ints hv2
            have h1 := redA z1 (List.mem_of_getElem? gz1)
            have h2 := redB z2 (List.mem_of_getElem? gz2)
            refine ⟨T2, _, rfl, SqT.of upd_same, rfl, _, _, rfl, _, _, rfl, rfl, rfl, yesT ⟨_, rfl, _, rfl, _, rfl, _, _, rfl, rfl, wide_mul (a := 64) (b := 64) (by omega) (by omega) (by decide) (by decide) (by decide), _, _, rfl, rfl, .inl ⟨_, rfl, _, rfl, _, _, rfl, rfl, by omega, ?_⟩⟩⟩
            dsimp only
            rw [Int.fmod_eq_emod_of_nonneg _ (by omega)]
            refine fin2 _ _ (same_upd hT2) ⟨_, comb_at gz1 gz2, ?_⟩
            rw [Int.one_mul]
          · intro acc H8 a1 a2 s8 hR8
            have ea : acc = (comb M 1 ra t rb).map V.int := acc_map (by rw [a1]; simp [comb, lra, lrb]) hR8
            refine ⟨_, rfl, _, rfl, L, us, _, x, rfl, rfl, s8 _ _ g7, ix_at (by rw [hlenus]; exact hx), ?_⟩
            exact fin _ D H8 s8 hD (by rw [a2, ea]) (by simp [comb, lra, lrb]) (comb_red (by omega) _ _ _ _) (inv_add sA3 I3 hx hy hxy hra hrb)
      · rintro σ H3 ⟨x4, x5, x6, x7, us, A, rfl, b3, P3, g3, hU3, sA3, rA3, I3⟩
        refine ⟨_, rfl, L, rfl, ⟨_, SqL.of g3⟩, fun D hD => lc_rows (K := K) (walk_list (xs := us)) hD (by rw [hU3.1, sA3.1]; omega) A hU3.1.symm (fun H' e => SqL.of (e _ _ g3)) ?_ (fun acc H4 e4 s4 hR4 => tup_read e4 hR4 (fun _ _ e => e) fun q H5 s5 h5 => k q H5 A (b3.same (same_trans s4 s5)) ((P3.same (same_trans s4 s5)).le (by omega)) h5 sA3 rA3 I3)⟩
        rintro i r x H4 H4' Fn Nn hi hr3 fin s4 ⟨rfl, hx⟩
        obtain ⟨q, e1, _, e3⟩ := hU3.2 i r hr3
        rw [e1] at hx
        cases hx
        exact ⟨rfl, yesT ⟨_, rfl, q, _, rfl, .inl ⟨SqL.of (s4 _ _ e3), fun u nu => fin u _ (same_upd nu) upd_same⟩⟩⟩
end
end Wk

namespace Wk
open PySem L2
theorem share1 {α : Type} {B : α → Prop} {G : Prop} (f : (∀ a, B a) → G) (b : ∀ a, B a) : G := f b
theorem dLi_lay (a : List Int) : (PyData.list (a.map PyData.int)).canLay0 = true := by
  rw [PyData.canLay0]
  exact canLayAll_map _ (fun i => by simp [PyData.canLay0]) a
theorem dLi_shaped (a : List Int) : SeqAt.shaped (.list (a.map PyData.int)) = true := by
  have h : (PyData.list (a.map PyData.int)).depth ≤ 1 := by
    rw [PyData.depth]
    have := depthAll_map PyData.int 0 (fun i => by simp [PyData.depth]) a
    omega
  simp only [SeqAt.shaped, dLi_lay, Bool.true_and, decide_eq_true_eq]
  omega
def spFlat (K : PySem.W.Frag) : Sp := fun vs H Q _ => ∃ (p c : Addr) (ns : List Int) (m n : Nat) (M : Int), vs = [.ref p, .int M, .int (n : Int)] ∧ Pen H p c ns m ∧ m < 70000 ∧ 2 ≤ M ∧ M < 2 ^ 64 ∧ 1 ≤ n ∧ n ≤ 8 ∧
  ∀ q H' A, But p H H' → Pen H' p c ns (m + 200) → MatAt K H' q A → Shp n n A → (¬ ∃ B : Fm, EqF M n (mulF n B (ent A)) oneF) → Q (.ref q) H'
theorem sum_map (n : Nat) (f : Nat → Int) : ((List.range n).map f).sum = sumN n f := by
  induction n with
  | zero => rfl
  | succ n ih => rw [List.range_succ, List.map_append, List.sum_append, ih, sumN]; simp
theorem ints_of {acc : List V} {n : Nat} {R : Nat → Int → Prop} (hl : acc.length = n) (h : ∀ (j : Nat) (v : V), acc[j]? = some v → ∃ x : Int, v = .int x ∧ R j x) : ∃ r : List Int, acc = r.map V.int ∧ r.length = n ∧ ∀ (j : Nat) (x : Int), r[j]? = some x → R j x := by
  refine ⟨acc.map fun v => match v with | .int x => x | _ => 0, ?_, by simpa using hl, ?_⟩
  · apply List.ext_getElem?
    intro j
    rw [List.getElem?_map, List.getElem?_map]
    cases e : acc[j]? with
    | none => rfl
    | some v =>
      obtain ⟨x, rfl, _⟩ := h j v e
      rfl
  · intro j x e
    rw [List.getElem?_map] at e
    cases e2 : acc[j]? with
    | none => rw [e2] at e; cases e
    | some v =>
      obtain ⟨y, rfl, hy⟩ := h j v e2
      rw [e2] at e
      cases e
      exact hy
section
variable {P : Program} {w : World} {K : PySem.W.Frag} {mg : Str → Option Value} {base : Heap}
theorem ok_flat_of {f fU fD fP : Addr} {fd fdU fdD fdP : FuncData} (F : Fun K "_law_flat_of" "_law_flat_of" s_law_flat_of f fd) (T : TxtL mg)
    (G__law_undone_of : FnOk P w K mg base CX0 2 fU fdU ["_law_pen", "_law_modulus", "_law_size"] (spUndOf K)) (g__law_undone_of : mg "_law_undone_of" = some (.ref fU)) (kp__law_undone_of : PySem.W.keepIn K (.ref fU) = true) (b__law_undone_of : Binds K fdU ["_law_pen", "_law_modulus", "_law_size"] [])
    (G__law_draw : FnOk P w K mg base CX0 1 fD fdD ["_law_pen", "_law_many"] spDraw) (g__law_draw : mg "_law_draw" = some (.ref fD)) (kp__law_draw : PySem.W.keepIn K (.ref fD) = true) (b__law_draw : Binds K fdD ["_law_pen", "_law_many"] [])
    (G__law_pick : FnOk P w K mg base CX0 2 fP fdP ["_law_pen", "_law_items"] (spPick K)) (g__law_pick : mg "_law_pick" = some (.ref fP)) (kp__law_pick : PySem.W.keepIn K (.ref fP) = true) (b__law_pick : Binds K fdP ["_law_pen", "_law_items"] []) :
    FnOk P w K mg base CX0 3 f fd ["_law_pen", "_law_modulus", "_law_size"] (spFlat K) := by
  refine F.ok sc_law_flat_of (fun vs H Q E h => ?_) (fun cdv A outer s H vs Q E hr h => ?_)
  · obtain ⟨p, c, ns, m, n, M, rfl, _⟩ := h
    rfl
  · obtain ⟨p, c, ns, m, n, M, rfl, hP, hm, hM, hM2, n1, n2, k⟩ := h
    refine ⟨_, (pss_cons (ps_set (i := 3) sc_law_flat_of.nd rfl (Or.inr rfl) (pe_lc (own := [("_law_row", 8)]) (g := gName 8) rfl sc_law_flat_of.nd (pi_tup (pe_call G__law_undone_of (hr.mono (by decide)) rfl g__law_undone_of kp__law_undone_of b__law_undone_of .nil pass0 (pa_cons (pv 0) (pa_cons (pv 1) (pa_cons (pv 2) pa_nil))))) (blkOk_by (N := ["_law_pen", "_law_modulus", "_law_size", "_law_rows", "_law_shared", "_law_at", "_law_often", "_law_divisor", "_law_row", "_law_number", "_law_k", "_law_place"]) (sc := defScope s_law_flat_of) (by decide +kernel)) (fun _ _ _ _ _ => (pg_name (i := 8) sc_law_flat_of.nd rfl (Or.inl rfl))) (fun _ _ _ _ _ => pts_nil) (fun _ _ _ _ _ => (pe_callTy (call_listK (K := K) rfl) rfl T.f_list (by decide +kernel) (pa_cons (pv 8) pa_nil)))))
        (pss_cons (ps_setLc (i := 4) (own := [("_law_number", 9)]) (g := gName 9) rfl sc_law_flat_of.nd rfl rfl (sw_true rfl rfl rfl (by decide +kernel)) (pi_range2 rfl T.f_range (pa_cons pe_int (pa_cons (pe_op op_add (pe_callB (call_min2 rfl) rfl T.f_min (by decide +kernel) (pa_cons (pv 1) (pa_cons pe_int pa_nil))) pe_int) pa_nil))) (blkOk_by (N := ["_law_pen", "_law_modulus", "_law_size", "_law_rows", "_law_shared", "_law_at", "_law_often", "_law_divisor", "_law_row", "_law_number", "_law_k", "_law_place"]) (sc := defScope s_law_flat_of) (by decide +kernel)) (fun _ _ _ _ _ => (pg_name (i := 9) sc_law_flat_of.nd rfl (Or.inl rfl))) (fun _ _ _ _ _ => (pts_one (pt_cmpR op_eq (pe_op op_modN (pe_callTy call_int1 rfl T.f_int (by decide +kernel) (pa_cons (pv 1) pa_nil)) (pv 9)) pe_int (nomark _)))) (fun _ _ _ _ _ => (pv 9)))
        (pss_cons (ps_if (PW.pt (pw_and (pt_cmpR op_gt (pv 2) pe_int (nomark _)) (pw_and1 (pt_cmpR op_eq (pe_call G__law_draw (hr.mono (by decide)) rfl g__law_draw kp__law_draw b__law_draw .nil pass0 (pa_cons (pv 0) (pa_cons pe_int pa_nil))) pe_int (nomark _))))) (pss_cons (ps_set (i := 5) sc_law_flat_of.nd rfl (Or.inr rfl) (pe_call G__law_draw (hr.mono (by decide)) rfl g__law_draw kp__law_draw b__law_draw .nil pass0 (pa_cons (pv 0) (pa_cons (pv 2) pa_nil))))
        (pss_cons (ps_set (i := 6) sc_law_flat_of.nd rfl (Or.inr rfl) (pe_lc (own := [("_law_k", 10)]) (g := gName 10) rfl sc_law_flat_of.nd (pi_range1 rfl T.f_range (pa_cons (pv 2) pa_nil)) (blkOk_by (N := ["_law_pen", "_law_modulus", "_law_size", "_law_rows", "_law_shared", "_law_at", "_law_often", "_law_divisor", "_law_row", "_law_number", "_law_k", "_law_place"]) (sc := defScope s_law_flat_of) (by decide +kernel)) (fun _ _ _ _ _ => (pg_name (i := 10) sc_law_flat_of.nd rfl (Or.inl rfl))) (fun _ _ _ _ _ => pts_nil) (fun _ _ _ _ _ => (pe_op op_mulW (pe_call G__law_draw (hr.mono (by decide)) rfl g__law_draw kp__law_draw b__law_draw .nil pass0 (pa_cons (pv 0) (pa_cons (pv 1) pa_nil))) (pe_callTy call_int1 rfl T.f_int (by decide +kernel) (pa_cons (pe_cmpR op_ne (pv 10) (pv 5) (nomark _)) pa_nil))))))
        (pss_cons (ps_asg (pe_lc (own := [("_law_place", 11)]) (g := gName 11) rfl sc_law_flat_of.nd (pi_range1 rfl T.f_range (pa_cons (pv 2) pa_nil)) (blkOk_by (N := ["_law_pen", "_law_modulus", "_law_size", "_law_rows", "_law_shared", "_law_at", "_law_often", "_law_divisor", "_law_row", "_law_number", "_law_k", "_law_place"]) (sc := defScope s_law_flat_of) (by decide +kernel)) (fun _ _ _ _ _ => (pg_name (i := 11) sc_law_flat_of.nd rfl (Or.inr rfl))) (fun _ _ _ _ _ => pts_nil) (fun _ _ _ _ _ => (pe_callB (cr_sumK (K := K) rfl rfl) rfl T.f_sum (by decide +kernel) (pa_cons (pe_lc (own := [("_law_k", 10)]) (g := gName 10) rfl sc_law_flat_of.nd (pi_range1 rfl T.f_range (pa_cons (pv 2) pa_nil)) (blkOk_by (N := ["_law_pen", "_law_modulus", "_law_size", "_law_rows", "_law_shared", "_law_at", "_law_often", "_law_divisor", "_law_row", "_law_number", "_law_k", "_law_place"]) (sc := relS _ (defScope s_law_flat_of)) (by decide +kernel)) (fun _ _ _ _ _ => (pg_name (i := 10) sc_law_flat_of.nd rfl (Or.inl rfl))) (fun _ _ _ _ _ => pts_nil) (fun _ _ _ _ _ => (pe_op op_mulW (pe_ix (ix_listK (K := K) rfl) (pv 6) (pv 10) (fun _ _ => rfl)) (pe_ix (ix_listK (K := K) rfl) (pe_ix (ix_listK (K := K) rfl) (pv 3) (pv 10) (fun _ _ => rfl)) (pv 11) (fun _ _ => rfl))))) pa_nil)))) (pg_sub (pv 3) (pv 5) set_list))
        (pss_one (ps_ret (pe_callTy (call_tupleK (K := K) rfl) rfl T.f_tuple (by decide +kernel) (pa_cons (pe_lc (own := [("_law_row", 8)]) (g := gName 8) rfl sc_law_flat_of.nd (pi_list (pv 3)) (blkOk_by (N := ["_law_pen", "_law_modulus", "_law_size", "_law_rows", "_law_shared", "_law_at", "_law_often", "_law_divisor", "_law_row", "_law_number", "_law_k", "_law_place"]) (sc := defScope s_law_flat_of) (by decide +kernel)) (fun _ _ _ _ _ => (pg_name (i := 8) sc_law_flat_of.nd rfl (Or.inl rfl))) (fun _ _ _ _ _ => pts_nil) (fun _ _ _ _ _ => (pe_callTy (call_tupleK (K := K) rfl) rfl T.f_tuple (by decide +kernel) (pa_cons (pv 8) pa_nil)))) pa_nil))))))) pss_nil)
        (pss_cons (ps_if (pt_cmpR (op_eqD hr.units) (pv 4) (pe_lst pa_nil) (nomark _)) (pss_one (ps_ret (pe_callTy (call_tupleK (K := K) rfl) rfl T.f_tuple (by decide +kernel) (pa_cons (pe_lc (own := [("_law_k", 10)]) (g := gName 10) rfl sc_law_flat_of.nd (pi_range1 rfl T.f_range (pa_cons (pv 2) pa_nil)) (blkOk_by (N := ["_law_pen", "_law_modulus", "_law_size", "_law_rows", "_law_shared", "_law_at", "_law_often", "_law_divisor", "_law_row", "_law_number", "_law_k", "_law_place"]) (sc := defScope s_law_flat_of) (by decide +kernel)) (fun _ _ _ _ _ => (pg_name (i := 10) sc_law_flat_of.nd rfl (Or.inl rfl))) (fun _ _ _ _ _ => pts_nil) (fun _ _ _ _ _ => (pe_op (op_repAK (K := K) rfl) (pe_tup (pa_cons pe_int pa_nil)) (pv 2)))) pa_nil)))) pss_nil)
        (pss_cons (ps_asg (pe_tup (pa_cons (pe_call G__law_draw (hr.mono (by decide)) rfl g__law_draw kp__law_draw b__law_draw .nil pass0 (pa_cons (pv 0) (pa_cons (pv 2) pa_nil))) (pa_cons (pe_call G__law_pick (hr.mono (by decide)) rfl g__law_pick kp__law_pick b__law_pick .nil pass0 (pa_cons (pv 0) (pa_cons (pv 4) pa_nil))) pa_nil))) (pg_tup rfl (pgs_cons (pg_name (i := 5) sc_law_flat_of.nd rfl (Or.inr rfl)) (pgs_cons (pg_name (i := 7) sc_law_flat_of.nd rfl (Or.inr rfl)) pgs_nil))))
        (pss_cons (ps_asg (pe_lc (own := [("_law_number", 9)]) (g := gName 9) rfl sc_law_flat_of.nd (pi_list (pe_ix ix_list (pv 3) (pv 5) (fun _ _ => rfl))) (blkOk_by (N := ["_law_pen", "_law_modulus", "_law_size", "_law_rows", "_law_shared", "_law_at", "_law_often", "_law_divisor", "_law_row", "_law_number", "_law_k", "_law_place"]) (sc := defScope s_law_flat_of) (by decide +kernel)) (fun _ _ _ _ _ => (pg_name (i := 9) sc_law_flat_of.nd rfl (Or.inl rfl))) (fun _ _ _ _ _ => pts_nil) (fun _ _ _ _ _ => (pe_op op_mulW (pv 9) (pv 7)))) (pg_sub (pv 3) (pv 5) set_list))
        (pss_one (ps_ret (pe_callTy (call_tupleK (K := K) rfl) rfl T.f_tuple (by decide +kernel) (pa_cons (pe_lc (own := [("_law_row", 8)]) (g := gName 8) rfl sc_law_flat_of.nd (pi_list (pv 3)) (blkOk_by (N := ["_law_pen", "_law_modulus", "_law_size", "_law_rows", "_law_shared", "_law_at", "_law_often", "_law_divisor", "_law_row", "_law_number", "_law_k", "_law_place"]) (sc := defScope s_law_flat_of) (by decide +kernel)) (fun _ _ _ _ _ => (pg_name (i := 8) sc_law_flat_of.nd rfl (Or.inl rfl))) (fun _ _ _ _ _ => pts_nil) (fun _ _ _ _ _ => (pe_callTy (call_tupleK (K := K) rfl) rfl T.f_tuple (by decide +kernel) (pa_cons (pv 8) pa_nil)))) pa_nil)))))))))), ?_⟩
    refine ⟨_, rfl, _, rfl, _, rfl, p, c, ns, m, n, M, rfl, hP, by omega, hM, hM2, n1, n2, fun a H1 A b1 P1 ⟨vs, hv, hR⟩ sA rA IA => ⟨a, rfl, ⟨vs, hv⟩, fun L hL => lc_lists (walk_tup (xs := vs)) hL (by rw [hR.length, sA.1]; omega) A hR.length.symm (fun H' e => SqT.same hv e) ?_ ?_⟩⟩
    · rintro i r x H2 H2' Fn Nn hi hr3 fin s2 ⟨rfl, hx⟩
      obtain ⟨q, l, rfl, hl, hq⟩ := rows_at hR hx
      rw [hr3] at hl
      cases hl
      exact ⟨rfl, yesT ⟨_, rfl, q, _, rfl, .inr (SqT.same hq s2), fun l nl => fin l _ (same_upd nl) nl upd_same⟩⟩
    · intro us H2 g2 s2 hU
      have P2 := P1.same s2
      have b2 : But p H H2 := b1.same s2
      have hLp : L ≠ p := fun z => by
        obtain ⟨o, ho⟩ := P1.some
        rw [z, ho] at hL
        cases hL
      have hLH : H L = none := by
        cases z : H L with
        | none => rfl
        | some o => rw [b1 _ _ hLp z] at hL; cases hL
      have hcL : c ≠ L := fun z => by
        obtain ⟨_, _, aH, _⟩ := hP
        have := aH.cells
        rw [z, hLH] at this
        cases this
      have hus : us.length = n := by rw [hU.1, sA.1]
      -- the rows are handed back
      have back : ∀ (o : Nat → Int) (d : Int) (x : Nat) (r' : Row) (D : Addr) (H8 : Hp), But p H2 H8 → Pen H8 p c ns (m + 150) → H8 D = some (.lst (r'.map V.int)) → D ≠ L → r'.length = n → x < n → 2 ≤ d → d ∣ M → d ∣ o x → (∀ j, j < n → r'.getD j 0 = sumN n fun k => o k * ent A k j) →
          But p H (upd H8 L (.lst (us.set x (.ref D)))) ∧ Pen (upd H8 L (.lst (us.set x (.ref D)))) p c ns (m + 150) ∧ (upd H8 L (.lst (us.set x (.ref D)))) L = some (.lst (us.set x (.ref D))) ∧ ObsAre .lst L (upd H8 L (.lst (us.set x (.ref D)))) (us.set x (.ref D)) (A.set x r') ∧ Shp n n (A.set x r') ∧ ¬ ∃ B : Fm, EqF M n (mulF n B (ent (A.set x r'))) oneF := fun o d x r' D H8 b8 P8 gD hDL hl hx hd hdM hdo ho => by
        have b9 : But L H8 (upd H8 L (.lst (us.set x (.ref D)))) := fun b o hb e => by rw [upd_ne hb]; exact e
        refine ⟨fun b o hb e => b9 _ _ (ne_of_none e hLH) (b8 _ _ hb (b2 _ _ hb e)), ?_, upd_same, ((hU.pen b8 P2 (fun _ _ z => by cases z)).mono b9).set hDL (by rw [upd_ne hDL]; exact gD) x, set_shp sA x hl, ?_⟩
        · obtain ⟨i9, l9, a9, n9⟩ := P8
          exact ⟨i9, l9, ⟨by rw [upd_ne hLp.symm]; exact a9.pen, by rw [upd_ne hcL]; exact a9.cells, a9.i0, a9.l0, a9.i1⟩, n9⟩
        · refine flat_none hM (o := o) hx IA hd hdM hdo fun i j hi hj => .eq ?_
          rw [set_ent sA hx]
          by_cases h : i = x
          · rw [if_pos h, if_pos h, ho j hj]
          · rw [if_neg h, if_neg h]
      obtain ⟨mm, hmm⟩ : ∃ mm : Int, mm = if (40 : Int) < M then 40 else M := ⟨_, rfl⟩
      have mm1 : 2 ≤ mm ∧ mm ≤ 40 := by rw [hmm]; split <;> omega
      refine ⟨_, rfl, M, 40, rfl, _, _, rfl, rfl, 2, mm + 1, (by rw [hmm]), ⟨by omega, by omega, by omega, by omega⟩, fun S0 hS0 => ?_⟩
      have hSp : S0 ≠ p := fun z => by
        obtain ⟨o, ho⟩ := P2.some
        rw [z, ho] at hS0
        cases hS0
      have hSL : S0 ≠ L := fun z => by rw [z, g2] at hS0; cases hS0
      refine lc_it (walk_range (lo := 2) (n := (mm + 1 - 2).toNat)) (fun i H' => Same H2 H' ∧ ∃ xs : List Int, xs.length ≤ i ∧ H' S0 = some (.lst (xs.map V.int)) ∧ ∀ x, x ∈ xs → 2 ≤ x ∧ x ≤ 40 ∧ x ∣ M) ⟨same_upd hS0, [], Nat.le_refl _, upd_same, fun x hx => nomatch hx⟩ (fun _ _ _ _ => trivial) ?_ ?_
      · rintro i v H3 H3' hi ⟨s3, xs, hxl, hx, hxs⟩ ⟨rfl, rfl⟩
        refine ⟨rfl, ⟨_, rfl, .inl ⟨_, rfl, _, rfl, _, _, rfl, rfl, (by show (2 : Int) + (i : Nat) ≠ 0; omega), rfl, _, rfl, ?_⟩⟩⟩
        refine ite2 (fun hd => ?_) (fun hd => ?_)
        · have h0 : M % (2 + (i : Int)) = 0 := by
            have this : V.int (M.fmod (2 + (i : Int))) = V.int 0 := of_decide_eq_true hd
            rw [Int.fmod_eq_emod_of_nonneg _ (by omega)] at this
            injection this
          refine ⟨_, rfl, _, hx, Nat.lt_of_le_of_lt (show (xs.map V.int).length ≤ 100 by simp; omega) (by decide), fun b o e => ?_, xs ++ [2 + (i : Int)], by simp; omega, by rw [upd_same]; simp, fun x hm => ?_⟩
          · rw [upd_ne (ne_of_none e hS0)]
            exact s3 _ _ e
          · rcases List.mem_append.mp hm with h | h
            · exact hxs x h
            · rw [List.mem_singleton.mp h]
              exact ⟨by omega, by omega, Int.dvd_of_emod_eq_zero h0⟩
        · exact ⟨s3, xs, by omega, hx, hxs⟩
      · rintro H3 ⟨s3, xs, hxl, hx3, hxs⟩
        have P3 := P2.same s3
        have b3 : But p H2 H3 := .of_same s3
        refine ⟨_, rfl, _, _, rfl, rfl, _, rfl, ?_⟩
        refine' share1 (α := Hp) (fun tail => ?_) ?_
        rotate_left
        · refine ite2 (fun hd => ?_) (fun hd => ?_)
          · obtain ⟨i3, l3, a3, n3⟩ := id P3
            refine ⟨_, rfl, p, c, ns, i3, l3, 2, rfl, a3, by omega, by decide, w64 (by decide) (by decide), fun d i4 l4 d0 d1 z0 z1 z2 => ?_⟩
            obtain ⟨P4, b4⟩ := drwP a3 n3 (by omega) z0 z1 z2
            generalize penTo H3 p c i4 l4 = H4 at P4 b4 ⊢
            refine ⟨rfl, _, rfl, ?_⟩
            refine ite2 (fun hd2 => ?_) (fun hd2 => ?_)
            · obtain ⟨i5, l5, a5, n5⟩ := P4
              refine ⟨_, rfl, _, rfl, p, c, ns, i5, l5, n, rfl, a5, by omega, by omega, w64 (by omega) (by omega), fun d1' i6 l6 e0 e1 y0 y1 y2 => ?_⟩
              obtain ⟨P6, b6⟩ := drwP a5 n5 (by omega) y0 y1 y2
              generalize penTo H4 p c i6 l6 = H6 at P6 b6 ⊢
              obtain ⟨x, rfl⟩ : ∃ x : Nat, d1' = x := ⟨d1'.toNat, by omega⟩
              have hx : x < n := by omega
              have b36 : But p H3 H6 := b4.trans b6
              refine ⟨_, rfl, (n : Int), rfl, by omega, by omega, fun D hD => lc_pen (walk_range (lo := 0) (n := n)) 1 P6 hD (by omega) (fun j v _ => ∃ z : Int, v = .int z ∧ (0 ≤ z ∧ z < M) ∧ (j = x → z = 0)) (fun j v H H' h _ => h) (fun _ _ => trivial) ?_ ?_⟩
              · rintro j v H7 H7' Fn Nn fin hj b7 P7 hacc ⟨rfl, rfl⟩
                refine ⟨rfl, yesT ⟨_, rfl, _, rfl, ?_⟩⟩
                obtain ⟨i7, l7, a7, n7⟩ := P7
                refine ⟨p, c, ns, i7, l7, M, rfl, a7, by omega, by omega, w64 (by omega) hM2, fun e i8 l8 f0 f1 w0 w1 w2 => ?_⟩
                obtain ⟨P8, b8⟩ := drwP a7 n7 (by omega) w0 w1 w2
                generalize penTo H7' p c i8 l8 = H8 at P8 b8 ⊢
                refine ⟨_, rfl, _, rfl, rfl, .inr ⟨_, rfl, _, _, rfl, rfl, ?_, ?_⟩⟩
                · refine wide_mul (a := 64) (b := 64) (by omega) ?_ (by decide) (by decide) (by decide)
                  split <;> decide
                · refine fin _ _ b8 (P8.le (by omega)) ⟨_, rfl, ?_, fun hjx => ?_⟩
                  · split <;> omega
                  · subst hjx
                    rw [if_neg]
                    · simp
                    · show ¬ (!decide (V.int (0 + (j : Int)) = V.int (j : Int))) = true
                      rw [Int.zero_add]
                      simp
              · intro acc H7 a1 a2 b7 P7 hR7
                obtain ⟨o, ho, hol, hoR⟩ := ints_of a1 hR7
                have hDp : D ≠ p := fun z => by
                  obtain ⟨o, ho⟩ := P6.some
                  rw [z, ho] at hD
                  cases hD
                have b37 : But p H3 H7 := b36.trans b7
                have b27 : But p H2 H7 := b3.trans b37
                have hU7 := hU.pen b27 P2 (fun _ _ z => by cases z)
                have g7 := b27 _ _ hLp g2
                refine ⟨_, rfl, (n : Int), rfl, by omega, by omega, fun D3 hD3 => lc_rel (walk_range (lo := 0) (n := n)) hD3 (by omega) (fun j v _ => v = .int (sumN n fun k => o.getD k 0 * ent A k j)) (fun j v H H' h _ => h) (fun _ _ => trivial) ?_ ?_⟩
                · rintro j v H8 H8' Fn Nn fin hj s8 hacc ⟨rfl, rfl⟩
                  refine ⟨rfl, yesT ⟨_, rfl, (n : Int), rfl, by omega, by omega, fun D4 hD4 => lc_rel (walk_range (lo := 0) (n := n)) hD4 (by omega) (fun q v _ => v = .int (o.getD q 0 * ent A q j)) (fun j v H H' h _ => h) (fun _ _ => trivial) ?_ ?_⟩⟩
                  · rintro q v H9 H9' Fn2 Nn2 fin2 hq s9 hacc2 ⟨rfl, rfl⟩
                    obtain ⟨rq, hrq, lrq⟩ := shp_at sA hq
                    obtain ⟨aq, u1, u2, u3⟩ := hU7.2 q rq hrq
                    have hoq : o[q]? = some (o.getD q 0) := by rw [List.getD_eq_getElem?_getD, List.getElem?_eq_getElem (by omega)]; rfl
                    have hoV : (o.map V.int)[q]? = some (.int (o.getD q 0)) := by rw [List.getElem?_map, hoq]; rfl
                    have hrj : rq[j]? = some (rq.getD j 0) := by rw [List.getD_eq_getElem?_getD, List.getElem?_eq_getElem (by omega)]; rfl
                    have hrV : (rq.map V.int)[j]? = some (.int (rq.getD j 0)) := by rw [List.getElem?_map, hrj]; rfl
                    have h1 := (hoR q _ hoq).1
                    have h2 := rA rq (List.mem_of_getElem? hrq) _ (List.mem_of_getElem? hrj)
                    have s79 := same_trans s8 s9
                    refine ⟨rfl, yesT ?_⟩
                    refine ⟨_, rfl, _, rfl, D, acc, _, .int (o.getD q 0), rfl, rfl, SqL.of (s79 _ _ a2), ?_, _, rfl, _, rfl, L, us, _, .ref aq, rfl, rfl, SqL.of (s79 _ _ g7), ?_, _, rfl, aq, _, _, .int (rq.getD j 0), rfl, rfl, SqL.of (s79 _ _ u3), ?_, _, _, rfl, rfl, wide_mul (a := 64) (b := 64) (by omega) (by omega) (by decide) (by decide) (by decide), ?_⟩
                    · rw [Int.zero_add, ho]
                      exact atI_nat hoV
                    · rw [Int.zero_add]
                      exact atI_nat u1
                    · rw [Int.zero_add]
                      exact atI_nat hrV
                    · exact fin2 _ _ (fun _ _ e => e) (by rw [ent_at hrq])
                  · intro acc2 H9 c1 c2 s9 hR9
                    have ea : acc2 = ((List.range n).map fun q => o.getD q 0 * ent A q j).map V.int := by
                      rw [List.map_map]
                      refine acc_map (as := List.range n) (f := fun q => V.int (o.getD q 0 * ent A q j)) (by simpa using c1) fun q v e => ⟨q, ?_, hR9 q v e⟩
                      exact List.getElem?_range (by rw [← c1]; exact (List.getElem?_eq_some_iff.mp e).1)
                    refine ⟨D4, _, rfl, SqL.of (by rw [c2, ea]), ?_⟩
                    rw [sum_map]
                    exact fin _ _ s9 rfl
                · intro acc2 H8 c1 c2 s8 hR8
                  obtain ⟨r', hr', hrl, hrR⟩ := ints_of (R := fun j z => z = sumN n fun k => o.getD k 0 * ent A k j) c1 fun j v e => ⟨_, hR8 j v e, rfl⟩
                  have hDL3 : D3 ≠ L := fun z => by rw [z, g7] at hD3; cases hD3
                  obtain ⟨bk1, bk2, bk3, bk4, bk5, bk6⟩ := back (fun k => o.getD k 0) M x r' D3 H8 (b27.same s8) ((P7.same s8).le (by omega)) (by rw [c2, hr']) hDL3 hrl hx hM (Int.dvd_refl M) (by
                    have : o.getD x 0 = 0 := by
                      have e1 : o[x]? = some (o.getD x 0) := by rw [List.getD_eq_getElem?_getD, List.getElem?_eq_getElem (by omega)]; rfl
                      exact (hoR x _ e1).2 rfl
                    rw [this]
                    exact Int.dvd_zero M) (fun j hj => by
                    have e1 : r'[j]? = some (r'.getD j 0) := by rw [List.getD_eq_getElem?_getD, List.getElem?_eq_getElem (by omega)]; rfl
                    exact hrR j _ e1)
                  refine ⟨_, rfl, _, rfl, L, us, _, x, rfl, rfl, s8 _ _ g7, ix_at (by rw [hus]; exact hx), ?_⟩
                  generalize upd H8 L (.lst (us.set x (.ref D3))) = H9 at bk1 bk2 bk3 bk4 ⊢
                  refine ⟨_, rfl, L, rfl, ⟨_, SqL.of bk3⟩, fun D5 hD5 => lc_rows (K := K) (walk_list (xs := us.set x (.ref D3))) hD5 (by rw [List.length_set, hus]; omega) (A.set x r') bk4.1.symm (fun H' e => SqL.of (e _ _ bk3)) ?_ (fun acc H4 e4 s4 hR4 => tup_read e4 hR4 (fun _ _ e => e) fun q H5 s5 h5 => k q H5 _ (bk1.same (same_trans s4 s5)) ((bk2.same (same_trans s4 s5)).le (by omega)) h5 bk5 bk6)⟩
                  rintro i r v H4 H4' Fn Nn hi hr3 fin s4 ⟨rfl, hx4⟩
                  obtain ⟨q, e1, _, e3⟩ := bk4.2 i r hr3
                  rw [e1] at hx4
                  cases hx4
                  exact ⟨rfl, yesT ⟨_, rfl, q, _, rfl, .inl ⟨SqL.of (s4 _ _ e3), fun u nu => fin u _ (same_upd nu) upd_same⟩⟩⟩
            · have f5 : Pen H4 p c ns (m + 101) ∧ But p H3 H4 := ⟨P4.le (by omega), b4⟩
              revert f5
              exact tail H4
          · have f5 : Pen H3 p c ns (m + 101) ∧ But p H3 H3 := ⟨P3.le (by omega), fun _ _ _ e => e⟩
            revert f5
            exact tail H3
        · rintro H4 ⟨P4, b4⟩
          have hx4 : H4 S0 = some (.lst (xs.map V.int)) := b4 _ _ hSp hx3
          have b24 : But p H2 H4 := b3.trans b4
          have b04 : But p H H4 := b2.trans b24
          have g4 := b24 _ _ hLp g2
          have hU4 := hU.pen b24 P2 (fun _ _ z => by cases z)
          refine ⟨_, rfl, Nat.zero_le _, fun e0 ne0 => ⟨.list (xs.map PyData.int), .list [], .lst (SqL.of (by rw [upd_ne (ne_of_none hx4 ne0)]; exact hx4)) (dpAll_ints xs), .lst (SqL.of upd_same) .nil, dLi_shaped xs, dLi_shaped [], ?_⟩⟩
          have s5 : Same H4 (upd H4 e0 (.lst [])) := same_upd ne0
          generalize upd H4 e0 (.lst []) = H5 at s5 ⊢
          have P5 := P4.same s5
          by_cases hxs0 : xs = []
          · subst hxs0
            refine ⟨true, congrArg V.bl (by simp [PyData.eqv, PyData.eqvAll]), iteT ?_⟩
            have lz : ∀ (r : List Int), r ∈ List.replicate n (List.replicate n (0 : Int)) → r = List.replicate n 0 := fun r h => List.eq_of_mem_replicate h
            refine ⟨_, rfl, (n : Int), rfl, by omega, by omega, fun D hD => lc_rows (K := K) (walk_range (lo := 0) (n := n)) hD (by omega) (List.replicate n (List.replicate n 0)) (by simp) (fun _ _ => trivial) ?_ (fun acc H6 e6 s6 hR6 => tup_read e6 hR6 s6 fun q H7 s7 h7 => k q H7 _ (b04.same (same_trans s5 s7)) ((P5.same s7).le (by omega)) h7 ⟨by simp, fun r hr => by rw [lz r hr]; simp⟩ (zero_none hM n1 fun i j hi hj => ?_))⟩
            · rintro i r v H6 H6' Fn Nn hi hr3 fin s6 ⟨rfl, rfl⟩
              have er := lz r (List.mem_of_getElem? hr3)
              refine ⟨rfl, yesT ⟨(by show 1 ≤ sizeLine; decide), fun t nt => ⟨_, rfl, rep_read upd_same (by omega) (by omega) fun q G sG gq => fin q G (same_trans (same_upd nt) sG) (by rw [gq, er]; simp)⟩⟩⟩
            · have e1 : (List.replicate n (List.replicate n (0 : Int)))[i]? = some (List.replicate n 0) := by
                rw [List.getElem?_replicate, if_pos hi]
              rw [ent_at e1, List.getD_eq_getElem?_getD, List.getElem?_replicate, if_pos hj]
              rfl
          · refine ⟨false, congrArg V.bl (by
              cases xs with
              | nil => exact absurd rfl hxs0
              | cons a b => simp [PyData.eqv, PyData.eqvAll]), iteF ?_⟩
            obtain ⟨i5, l5, a5, n5⟩ := P5
            refine ⟨_, rfl, _, rfl, p, c, ns, i5, l5, n, rfl, a5, by omega, by omega, w64 (by omega) (by omega), fun d1' i6 l6 f0 f1 y0 y1 y2 => ?_⟩
            obtain ⟨P6, b6⟩ := drwP a5 n5 (by omega) y0 y1 y2
            generalize penTo H5 p c i6 l6 = H6 at P6 b6 ⊢
            obtain ⟨x, rfl⟩ : ∃ x : Nat, d1' = x := ⟨d1'.toNat, by omega⟩
            have hx : x < n := by omega
            obtain ⟨i7, l7, a7, n7⟩ := P6
            have hx6 : H6 S0 = some (.lst (xs.map V.int)) := b6 _ _ hSp (s5 _ _ hx4)
            refine ⟨_, rfl, _, rfl, p, c, S0, ns, i7, l7, xs.map V.int, rfl, a7, by omega, hx6, by simpa using hxs0, by simp; omega, fun dv i8 l8 hdv w0 w1 w2 => ?_⟩
            obtain ⟨d, hdm, rfl⟩ := List.mem_map.mp hdv
            obtain ⟨d2, d40, dM⟩ := hxs d hdm
            obtain ⟨P8, b8⟩ := drwP a7 n7 (by omega) w0 w1 w2
            generalize penTo H6 p c i8 l8 = H8 at P8 b8 ⊢
            refine ⟨(by show 2 ≤ sizeLine; decide), fun T0 nT => ⟨T0, _, rfl, SqT.of upd_same, rfl, _, _, rfl, _, _, rfl, rfl, ?_⟩⟩
            have sT : Same H8 (upd H8 T0 (.tup [.int (x : Int), .int d])) := same_upd nT
            generalize upd H8 T0 (.tup [.int (x : Int), .int d]) = H9 at sT ⊢
            have P9 := P8.same sT
            have b29 : But p H2 H9 := (b24.same s5).trans (b6.trans (b8.same sT))
            have hU9 := hU.pen b29 P2 (fun _ _ z => by cases z)
            have g9 := b29 _ _ hLp g2
            obtain ⟨ra, hra, lra⟩ := shp_at sA hx
            obtain ⟨qa, ua, nqa, ha⟩ := hU9.2 x ra hra
            refine ⟨_, rfl, _, rfl, L, us, _, _, rfl, rfl, SqL.of g9, atI_nat ua, qa, rfl, ⟨_, SqL.of ha⟩, fun D hD => lc_rel (walk_list (xs := ra.map V.int)) hD (by simp; omega) (fun j v _ => ∃ z, ra[j]? = some z ∧ v = .int (z * d)) (fun j v H H' h _ => h) (fun H' e => SqL.of (e _ _ ha)) ?_ ?_⟩
            · rintro j v H10 H10' Fn Nn fin hj s10 hacc ⟨rfl, hv⟩
              obtain ⟨z, gz, rfl⟩ := at_ints hv
              have hz := rA ra (List.mem_of_getElem? hra) z (List.mem_of_getElem? gz)
              exact ⟨rfl, yesT ⟨_, rfl, _, rfl, _, _, rfl, rfl, wide_mul (a := 64) (b := 64) (by omega) (by omega) (by decide) (by decide) (by decide), fin _ _ (fun _ _ e => e) ⟨z, gz, rfl⟩⟩⟩
            · intro acc H10 c1 c2 s10 hR10
              have ea : acc = (ra.map (· * d)).map V.int := by
                rw [List.map_map]
                exact acc_map (f := fun z => V.int (z * d)) (by simpa using c1) hR10
              have hDL : D ≠ L := fun z => by rw [z, g9] at hD; cases hD
              obtain ⟨bk1, bk2, bk3, bk4, bk5, bk6⟩ := back (fun k => if k = x then d else 0) d x (ra.map (· * d)) D H10 (b29.same s10) ((P9.same s10).le (by omega)) (by rw [c2, ea]) hDL (by simp [lra]) hx d2 dM (by
                show d ∣ if x = x then d else 0
                rw [if_pos rfl]
                exact Int.dvd_refl d) (fun j hj => by
                rw [sumN_congr (g := fun k => if k = x then d * ent A x j else 0) fun q _ => ?_, sumN_one hx, ent_at hra]
                · rw [List.getD_eq_getElem?_getD, List.getD_eq_getElem?_getD, List.getElem?_map, List.getElem?_eq_getElem (by omega)]
                  exact Int.mul_comm _ _
                · by_cases h : q = x
                  · rw [if_pos h, if_pos h, h]
                  · rw [if_neg h, if_neg h]
                    simp)
              refine ⟨_, rfl, _, rfl, L, us, _, x, rfl, rfl, s10 _ _ g9, ix_at (by rw [hus]; exact hx), ?_⟩
              generalize upd H10 L (.lst (us.set x (.ref D))) = H11 at bk1 bk2 bk3 bk4 ⊢
              refine ⟨_, rfl, L, rfl, ⟨_, SqL.of bk3⟩, fun D5 hD5 => lc_rows (K := K) (walk_list (xs := us.set x (.ref D))) hD5 (by rw [List.length_set, hus]; omega) (A.set x (ra.map (· * d))) bk4.1.symm (fun H' e => SqL.of (e _ _ bk3)) ?_ (fun acc H4 e4 s4 hR4 => tup_read e4 hR4 (fun _ _ e => e) fun q H5 s5 h5 => k q H5 _ (bk1.same (same_trans s4 s5)) ((bk2.same (same_trans s4 s5)).le (by omega)) h5 bk5 bk6)⟩
              rintro i r v H4 H4' Fn Nn hi hr3 fin s4 ⟨rfl, hx4⟩
              obtain ⟨q, e1, _, e3⟩ := bk4.2 i r hr3
              rw [e1] at hx4
              cases hx4
              exact ⟨rfl, yesT ⟨_, rfl, q, _, rfl, .inl ⟨SqL.of (s4 _ _ e3), fun u nu => fin u _ (same_upd nu) upd_same⟩⟩⟩
end
end Wk

namespace Wk
open PySem L2
abbrev s_law : Stmt := top 27
theorem sc_law : FnScope ["_law_script", "_law_pen", "_law_turn", "_law_modulus", "_law_size", "_law_height", "_law_width", "_law_one", "_law_other", "_law_due", "_law_row", "_law_square", "_law_many", "_law_great", "_law_both", "_law_back", "_law_flat", "_law_k"] ["_law_script"] (defScope s_law) := ⟨rfl, rfl, rfl, by decide +kernel, rfl, by decide +kernel, by decide +kernel⟩

end Wk

/-! the end of a law whose own def wants to know the caller -/
namespace Wk
open PySem PySem.Spec PyProof.Rows L2
/-- the law's def is run where the claim's caller stands -/
theorem call_here {P : Program} {w : World} {K : PySem.W.Frag} {mg mb : Str → Option Value} {fa a : Addr} {s : Shared} {vs : List Value} {ns : List Int} (KX : K.In s.heap) (hG : s.heap.Ns mainGlobals mg) (hB : s.heap.Ns builtinsNs mb) (hb : ∀ x : Str, x ≠ "__name__" → mb x = bootBuiltins x)
    (hL : s.heap.NoLimit) (hg : s.gens = #[]) (ha : s.heap.get? a = some { cls := .type "list", data := .seq vs.toArray }) (hi : IntsAre vs ns) (hl : ns.length ≤ sizeLine)
    (F : ∀ (base : Heap) (H : Hp), K.In base → base.Ns mainGlobals mg → (∀ b o, s.heap.get? b = some o → (∀ us m, o.data ≠ .seq us m) → base.get? b = some o) → Env0 P w K mg base callerA [] s H → SqL K H a (ns.map V.int) → codeAny (model P w) callerA (.call (.ref fa) ⟨[.ref a], []⟩) (CR CX0 [] P w H s (fun v _ => v = .bl true) E0) s) :
    codeAny (model P w) callerA (.call (.ref fa) ⟨[.ref a], []⟩) (fun r s' => r = .ok (.ret (.bool true)) ∧ OldK s.heap s'.heap ∧ s'.os = s.os ∧ AllBare s'.gens) s := by
  have rel := vals_ints hi
  have main : ∀ H : Hp, (∀ b, H b = none ∨ (b = a ∧ ∃ o xs, H b = some (.frz o (.lst xs)))) → SqL K H a (ns.map V.int) → HOk P w H s.heap → (H a ≠ none → K.lookup a = none) →
      codeAny (model P w) callerA (.call (.ref fa) ⟨[.ref a], []⟩) (fun r s' => r = .ok (.ret (.bool true)) ∧ OldK s.heap s'.heap ∧ s'.os = s.os ∧ AllBare s'.gens) s := by
    intro H hO hS hok hK
    -- what is no list is not tracked
    have un0 : ∀ b o, s.heap.get? b = some o → (∀ us m, o.data ≠ .seq us m) → H b = none := fun b o e nd => (hO b).elim id fun ⟨eb, _⟩ => by
      subst eb
      rw [ha] at e
      cases e
      exact absurd rfl (nd _ _)
    have bas : ∀ b o, s.heap.get? b = some o → (∀ us m, o.data ≠ .seq us m) → (hidT s.heap H).get? b = some o := fun b o e nd => hidT_get e (un0 b o e nd)
    have spaces : ∀ {b : Addr} {m : Str → Option Value}, s.heap.Ns b m → (hidT s.heap H).Ns b m := fun {b m} ⟨o, es, ep, e, d, r⟩ => ⟨o, es, ep, bas b o e (fun us m z => by rw [d] at z; cases z), d, r⟩
    have frag : K.In (hidT s.heap H) := fun b o e => hidT_get (KX b o e) (by
      rcases hO b with z | ⟨eb, z⟩
      · exact z
      · subst eb
        cases q : H b with
        | none => rfl
        | some u =>
          rw [hK (by rw [q]; exact fun y => nomatch y)] at e
          cases e)
    obtain ⟨mc, l1, l2⟩ := hL
    have env : Env0 P w K mg (hidT s.heap H) callerA [] s H :=
      ⟨rfl, ⟨frag, spaces hG, ⟨mb, spaces hB, hb⟩, ⟨mc, spaces l1, l2⟩⟩, fun b o e => of_hidT e, Nat.le_of_eq (hidT_size s.heap H), trivial, fun b z => absurd (show b ∈ ([] : List Addr) from z) List.not_mem_nil, hok, .of_eq hg⟩
    refine codeAny_mono (F _ H frag (spaces hG) bas env hS) fun r s' z => ?_
    match r, z with
    | .ok (.ret u), z =>
      obtain ⟨v, H', os, bare, U, hok', ru, q⟩ := z
      subst q
      obtain rfl : u = Value.bool true := ru
      have keep : ∀ b o, s.heap.get? b = some o → s'.heap.get? b = some o := fun b o e => by
        rcases hO b with z | ⟨eb, ob, xs, z⟩
        · exact U.keep b o e z (fun y => absurd (show b ∈ ([] : List Addr) from y) List.not_mem_nil) List.not_mem_nil
        · obtain ⟨e2, _⟩ := hok' b _ (U.frzs b ob _ z)
          obtain ⟨e1, _⟩ := hok b _ z
          exact (e2.trans e1.symm).trans e
      exact ⟨rfl, .of_keep keep, os, bare⟩
    | .ok .next, z => exact False.elim z
    | .ok .brk, z => exact False.elim z
    | .ok .cont, z => exact False.elim z
    | .error e, z => exact False.elim z
  cases hk : K.lookup a with
  | some o =>
    have e := KX a o hk
    rw [ha] at e
    cases e
    refine main (fun _ => none) (fun _ => .inl rfl) (.inr ⟨_, vs.toArray, _, hk, rfl, rfl, rfl, ?_, by simpa using rel⟩) (fun b u z => nomatch z) fun z => absurd rfl z
    rw [List.size_toArray, hi.length]
    exact hl
  | none =>
    refine main (fun b => if b = a then some (.frz { cls := .type "list", data := .seq vs.toArray } (.lst (ns.map V.int))) else none) (fun b => ?_) (.inl (.inr ⟨_, if_pos rfl⟩)) (fun b u z => ?_) fun _ => hk
    · by_cases h : b = a
      · exact .inr ⟨h, _, _, if_pos h⟩
      · exact .inl (if_neg h)
    · by_cases h : b = a
      · have z2 := (if_pos h).symm.trans z
        cases z2
        rw [h]
        exact ⟨ha, by rw [List.length_map]; exact hl, vs, _, rel, ha⟩
      · cases (if_neg h).symm.trans z
/-- the walk of such a law -/
theorem walk_here {l : PySem.W.OpenLaw} {n : Nat} {q : Program} {loose : List Str} {XP : (Str → Option Value) → Heap → Prop} {YP : World → Heap → Prop} {d : DefRec} (hn : l.most = some n) (hn2 : n ≤ sizeLine) (hdf : d.params.defaults = [])
    (F : ∀ (w : World) (mg : Str → Option Value) (fa : Addr) (h : Heap), YP w h → h.Ns mainGlobals mg → mg d.name = some (.ref fa) → ∃ K : PySem.W.Frag, K.In h ∧ ∀ (base : Heap) (s : Shared) (H : Hp) (a : Addr) (ns : List Int), s.heap = h → K.In base → base.Ns mainGlobals mg →
      (∀ b o, h.get? b = some o → (∀ us m, o.data ≠ .seq us m) → base.get? b = some o) → Env0 l.prog w K mg base callerA [] s H → SqL K H a (ns.map V.int) → codeAny (model l.prog w) callerA (.call (.ref fa) ⟨[.ref a], []⟩) (CR CX0 [] l.prog w H s (fun v _ => v = .bl true) E0) s) :
    PySem.W.WalkO q loose XP YP l.row.toRowW d [] (fun f vs => PySem.call f vs) := by
  refine Att.attach_callB hn hdf fun w s₀ s₁ mg mb fa o pm cd doc a vs ns G Y ho hd hcd hmg hobj hints hlen hbits hg => ?_
  obtain ⟨K, KX, hF⟩ := F w mg fa _ Y G.T.g hmg
  exact call_here KX G.T.g G.T.b G.T.builtins G.T.nolimit hg hobj hints (Nat.le_trans hlen hn2) fun base H kb gb bb e0 hS => hF base s₁ H a ns rfl kb gb bb e0 hS
/-! ### the hook, with one more look: the table of modules is there -/
def modsB (g : Addr → Option Obj) : Bool := match g sysModules with
  | some ⟨_, _, .dict _ _, _⟩ => true
  | _ => false
theorem modsB_ok {g : Addr → Option Obj} (h : modsB g = true) : ∃ o es m, g sysModules = some o ∧ o.data = .dict es m := by
  unfold modsB at h
  split at h
  · rename_i e
    exact ⟨_, _, _, e, rfl⟩
  · cases h
def hookS (n : Nat) (fa : List He.Fa) (fn : List He.DefD) (ex : PySem.W.Frag → Bool) : PySem.W.Hook where
  α := He.AlX × Bool
  obs := fun s => (He.obsX n fa fn [] [] ex s.heap.get?, modsB s.heap.get?)
  val := fun w => (He.valX fn [] w, true)
  says := fun w h => (∃ K : PySem.W.Frag, K.In h ∧ He.SaysX fa fn [] [] ex w h K) ∧ ∃ o es m, h.get? sysModules = some o ∧ o.data = .dict es m
  of := fun w s e => ⟨⟨_, He.frT_in, He.saysX_of (congrArg (fun z : He.AlX × Bool => z.1) e)⟩, modsB_ok (congrArg (fun z : He.AlX × Bool => z.2) e)⟩
  keeps := fun w h h' z k => by
    obtain ⟨⟨K, hK, c⟩, o, es, m, e, d⟩ := z
    exact ⟨⟨K, PySem.W.Frag.In.keeps hK k, ⟨c.t, c.more, c.hd, c.out, fun p hp => k _ _ (c.empty p hp)⟩⟩, o, es, m, k _ _ e, d⟩
def obS (n : Nat) (fa : List He.Fa) (fn : List He.DefD) (ex : PySem.W.Frag → Bool) (s : PySem.W.SharedT) : He.AlX × Bool := (He.obsX n fa fn [] [] ex (HandSHeadRun.getT s), modsB (HandSHeadRun.getT s))
theorem obS_eq {n : Nat} {fa : List He.Fa} {fn : List He.DefD} {ex : PySem.W.Frag → Bool} (s : PySem.W.SharedT) : obS n fa fn ex s = (hookS n fa fn ex).obs s.abs := by
  have e : HandSHeadRun.getT s = s.abs.heap.get? := funext (HandSHeadRun.getT_eq s)
  unfold obS
  rw [e]
  rfl
end Wk

namespace Wk
open PySem L2
theorem call_isiK {X : Cx} {K : PySem.W.Frag} (hK : X.K = K) : CallR X (.builtin "isinstance") (rIsi K) := hK ▸ call_isi
theorem tyx {K : PySem.W.Frag} {H : Hp} {a : Addr} {xs : List V} (h : SqT K H a xs) : TyX K H (.ref a) (.type "tuple") := by
  rcases h with (h | ⟨o, h⟩) | ⟨o, its, n, e, c, _⟩
  · exact .base (.tup h)
  · exact .fTuple h
  · exact .kTuple e c
def spPen (K : PySem.W.Frag) : Sp := fun vs H Q _ => ∃ (a : Addr) (ns : List Int), vs = [.ref a] ∧ SqL K H a (ns.map V.int) ∧ ∀ p c ns' H', Same H H' → PenAt H' p c ns' 0 0 → Q (.ref p) H'
theorem sqL_same {K : PySem.W.Frag} {H H' : Hp} {a : Addr} {xs : List V} (h : SqL K H a xs) (e : Same H H') : SqL K H' a xs := by
  rcases h with h | h
  · rcases h with h | ⟨o, h⟩
    · exact .inl (.inl (e _ _ h))
    · exact .inl (.inr ⟨o, e _ _ h⟩)
  · exact .inr h
structure Dn (P : Program) (w : World) (K : PySem.W.Frag) (mg : Str → Option Value) (base : Heap) (CX : CXT) (k : Nat) (x : Str) (ps : List Str) (sp : Sp) : Prop where
  ex : ∃ (f : Addr) (fd : FuncData), FnOk P w K mg base CX k f fd ps sp ∧ mg x = some (.ref f) ∧ PySem.W.keepIn K (.ref f) = true ∧ Binds K fd ps []
theorem prod_moved {M : Int} {h m n : Nat} {A A' B : Mat} (sA : Shp h m A) (sB : Shp m n B) (e : MEq M A A') : prodM M n A' B = prodM M n A B := by
  have sA' : Shp h m A' := ⟨by rw [e.1, sA.1], fun r hr => by
    obtain ⟨i, hi⟩ := List.mem_iff_getElem?.mp hr
    have hil : i < A.length := by
      rw [← e.1]
      exact (List.getElem?_eq_some_iff.mp hi).1
    obtain ⟨r', h1, h2, _⟩ := e.2 i _ (List.getElem?_eq_getElem hil)
    rw [hi] at h1
    cases h1
    rw [h2]
    exact sA.2 _ (List.getElem_mem hil)⟩
  refine mat_ext (prod_shp sA') (prod_shp sA) fun i j hi hj => ?_
  rw [ent_prod sA' sB hi hj, ent_prod sA sB hi hj]
  refine Eqm.emod (Eqm.sum fun k hk => Eqm.mul ?_ (.refl _ _))
  obtain ⟨r, hr, lr⟩ := shp_at sA hi
  obtain ⟨r', h1, h2, h3⟩ := e.2 i r hr
  have e1 : r[k]? = some (r.getD k 0) := by rw [List.getD_eq_getElem?_getD, List.getElem?_eq_getElem (by omega)]; rfl
  obtain ⟨y, hy, hyx⟩ := h3 k _ e1
  rw [ent_at h1, ent_at hr, List.getD_eq_getElem?_getD, hy]
  exact hyx
theorem ent_moved {M : Int} {n : Nat} {A A' : Mat} (sA : Shp n n A) (e : MEq M A A') : Shp n n A' ∧ EqF M n (ent A') (ent A) := by
  refine ⟨⟨by rw [e.1, sA.1], fun r hr => ?_⟩, fun i j hi hj => ?_⟩
  · obtain ⟨i, hi⟩ := List.mem_iff_getElem?.mp hr
    have hil : i < A.length := by
      rw [← e.1]
      exact (List.getElem?_eq_some_iff.mp hi).1
    obtain ⟨r', h1, h2, _⟩ := e.2 i _ (List.getElem?_eq_getElem hil)
    rw [hi] at h1
    cases h1
    rw [h2]
    exact sA.2 _ (List.getElem_mem hil)
  · obtain ⟨r, hr, lr⟩ := shp_at sA hi
    obtain ⟨r', h1, h2, h3⟩ := e.2 i r hr
    have e1 : r[j]? = some (r.getD j 0) := by rw [List.getD_eq_getElem?_getD, List.getElem?_eq_getElem (by omega)]; rfl
    obtain ⟨y, hy, hyx⟩ := h3 j _ e1
    rw [ent_at h1, ent_at hr, List.getD_eq_getElem?_getD, hy]
    exact hyx
theorem meq_shp {M : Int} {h m : Nat} {A A' : Mat} (sA : Shp h m A) (e : MEq M A A') : Shp h m A' := ⟨by rw [e.1, sA.1], fun r hr => by
    obtain ⟨i, hi⟩ := List.mem_iff_getElem?.mp hr
    have hil : i < A.length := by
      rw [← e.1]
      exact (List.getElem?_eq_some_iff.mp hi).1
    obtain ⟨r', h1, h2, _⟩ := e.2 i _ (List.getElem?_eq_getElem hil)
    rw [hi] at h1
    cases h1
    rw [h2]
    exact sA.2 _ (List.getElem_mem hil)⟩
theorem same_rows {K : PySem.W.Frag} {H : Hp} {a b : Addr} {r s : List Int} (ha : RowAt K H a r) (hb : RowAt K H b s) (e : r = s) {Q : VK} (q : Q (.bl false) H) : rNeD K (.ref a) (.ref b) H Q := by
  subst e
  refine ⟨_, _, ha.dp, hb.dp, dI_shaped _, dI_shaped _, ?_⟩
  rw [dI_eqv, decide_eq_true rfl]
  exact q
theorem same_mats {K : PySem.W.Frag} {H : Hp} {a b : Addr} {A B : Mat} (ha : MatAt K H a A) (hb : MatAt K H b B) (e : A = B) {Q : VK} (q : Q (.bl false) H) : rNeD K (.ref a) (.ref b) H Q := by
  subst e
  refine ⟨_, _, ha.dp, hb.dp, dM_shaped _, dM_shaped _, ?_⟩
  rw [dM_eqv, decide_eq_true rfl]
  exact q
theorem moduli {v : V} (h : v ∈ [V.int 2, V.int 3, V.int 4, V.int 6, V.int 8, V.int 9, V.int 10, V.int 12, V.int 65536, V.int 65521, V.int (10 ^ (18 : Int).toNat)]) : ∃ M : Int, v = .int M ∧ 2 ≤ M ∧ M < 2 ^ 64 := by
  simp only [List.mem_cons, List.not_mem_nil, or_false] at h
  rcases h with rfl | rfl | rfl | rfl | rfl | rfl | rfl | rfl | rfl | rfl | rfl <;> exact ⟨_, rfl, by decide, by decide⟩
section
variable {P : Program} {w : World} {K : PySem.W.Frag} {mg : Str → Option Value} {base : Heap}
theorem ok_pen {f : Addr} {fd : FuncData} (F : Fun K "_law_pen_of" "_law_pen_of" s_law_pen_of f fd) (flist : mg "list" = none) : FnOk P w K mg base CX0 1 f fd ["_law_script"] (spPen K) := by
  refine F.ok sc_law_pen_of (fun vs H Q E h => ?_) (fun cdv A outer s H vs Q E hr h => ?_)
  · obtain ⟨a, ns, rfl, _⟩ := h
    rfl
  · obtain ⟨a, ns, rfl, hS, k⟩ := h
    refine ⟨_, PSs.nox ((pss_one (ps_ret (pe_disp (pps_cons pe_str (pe_callTy (call_listK (K := K) rfl) rfl flist (by decide +kernel) (pa_cons (pe_slice sl_list (pv 0) po_none (po_some pe_int)) pa_nil)) (pps_cons pe_str pe_int (pps_cons pe_str pe_int pps_nil))) (by rfl) (by rfl) (fun z => by cases z) (by decide))))), ?_⟩
    refine fun p hp => ?_
    have hS := sqL_same hS (same_upd (o := .dK []) hp)
    refine ⟨_, rfl, _, rfl, _, _, rfl, hS, fun q hq => ⟨_, _, rfl, .inl (SqL.of upd_same), fun c hc => ?_⟩⟩
    have hqp : q ≠ p := fun z => by rw [z, upd_same] at hq; cases hq
    have hcq : c ≠ q := fun z => by rw [z, upd_same] at hc; cases hc
    have hcp : c ≠ p := fun z => by rw [z, upd_ne (Ne.symm hqp), upd_same] at hc; cases hc
    obtain ⟨l, ecut⟩ : ∃ l : List Int, cutV (ns.map V.int) none (some 63) = l.map V.int :=
      ⟨(ns.drop (HT.sIx (ns.map V.int).length 0 none)).take (HT.sIx (ns.map V.int).length (ns.map V.int).length (some 63) - HT.sIx (ns.map V.int).length 0 none), by unfold cutV; rw [List.map_take, List.map_drop]⟩
    rw [ecut]
    refine ⟨by rw [upd_ne (Ne.symm hcp), upd_ne (Ne.symm hqp)]; exact upd_same, penL c 0 0, rfl, (by show 3 ≤ 15; decide), ?_⟩
    refine k p c l _ ?_ ⟨?_, ?_, by decide, by decide, by decide⟩
    · intro b o e
      have hb := ne_of_none e hp
      rw [upd_ne hb, upd_ne (ne_of_none (by rw [upd_ne (ne_of_none (by rw [upd_ne hb]; exact e) hq), upd_ne hb]; exact e) hc), upd_ne (ne_of_none (by rw [upd_ne hb]; exact e) hq), upd_ne hb]
      exact e
    · rw [upd_same]
      rfl
    · rw [upd_ne hcp]
      exact upd_same
theorem law_run {f : Addr} {fd : FuncData} (F : Fun K "law" "law" s_law f fd) (hb : ∀ (s : Shared) (u : Value), BindsTo s fd ⟨[u], []⟩ [("_law_script", u)]) (T : TxtL mg)
    (d1 : Dn P w K mg base CX0 1 "_law_pen_of" ["_law_script"] (spPen K)) (d2 : Dn P w K mg base CX0 1 "_law_draw" ["_law_pen", "_law_many"] spDraw) (d3 : Dn P w K mg base CX0 2 "_law_pick" ["_law_pen", "_law_items"] (spPick K))
    (d4 : Dn P w K mg base CX0 2 "_law_matrix_of" ["_law_pen", "_law_modulus", "_law_height", "_law_width"] (spMat K)) (d5 : Dn P w K mg base CX0 1 "_law_product" ["_law_modulus", "_law_one", "_law_other"] (spProd K)) (d6 : Dn P w K mg base CX0 2 "product" ["modulus", "one", "other"] (spProd K))
    (d7 : Dn P w K mg base CX0 2 "_law_moved" ["_law_pen", "_law_modulus", "_law_matrix"] (spMoved K)) (d8 : Dn P w K mg base CX0 1 "applied" ["modulus", "matrix", "row"] (spApplied K)) (d9 : Dn P w K mg base CX0 1 "_law_applied" ["_law_modulus", "_law_matrix", "_law_row"] (spApplied K))
    (d10 : Dn P w K mg base CX0 2 "_law_undone_of" ["_law_pen", "_law_modulus", "_law_size"] (spUndOf K)) (d11 : Dn P w K mg base CX0 2 "identity" ["size"] (spIdm K)) (d12 : Dn P w K mg base CX0 1 "_law_identity" ["_law_size"] (spIdm K))
    (d13 : Dn P w K mg base CX0 3 "power" ["modulus", "matrix", "many"] (spPow K)) (d14 : Dn P w K mg base CX0 2 "_law_power" ["_law_modulus", "_law_matrix", "_law_many"] (spPowL K)) (d15 : Dn P w K mg base CX0 4 "undone" ["modulus", "matrix"] (spUndone K)) (d16 : Dn P w K mg base CX0 3 "_law_flat_of" ["_law_pen", "_law_modulus", "_law_size"] (spFlat K))
    {s : Shared} {H : Hp} {a : Addr} {ns : List Int} (e0 : Env0 P w K mg base callerA [] s H) (hL : SqL K H a (ns.map V.int)) : codeAny (model P w) callerA (.call (.ref f) ⟨[.ref a], []⟩) (CR CX0 [] P w H s (fun v _ => v = .bl true) E0) s := by
  obtain ⟨f1, fd1, G__law_pen_of, g__law_pen_of, kp__law_pen_of, b__law_pen_of⟩ := d1.ex
  obtain ⟨f2, fd2, G__law_draw, g__law_draw, kp__law_draw, b__law_draw⟩ := d2.ex
  obtain ⟨f3, fd3, G__law_pick, g__law_pick, kp__law_pick, b__law_pick⟩ := d3.ex
  obtain ⟨f4, fd4, G__law_matrix_of, g__law_matrix_of, kp__law_matrix_of, b__law_matrix_of⟩ := d4.ex
  obtain ⟨f5, fd5, G__law_product, g__law_product, kp__law_product, b__law_product⟩ := d5.ex
  obtain ⟨f6, fd6, G_product, g_product, kp_product, b_product⟩ := d6.ex
  obtain ⟨f7, fd7, G__law_moved, g__law_moved, kp__law_moved, b__law_moved⟩ := d7.ex
  obtain ⟨f8, fd8, G_applied, g_applied, kp_applied, b_applied⟩ := d8.ex
  obtain ⟨f9, fd9, G__law_applied, g__law_applied, kp__law_applied, b__law_applied⟩ := d9.ex
  obtain ⟨f10, fd10, G__law_undone_of, g__law_undone_of, kp__law_undone_of, b__law_undone_of⟩ := d10.ex
  obtain ⟨f11, fd11, G_identity, g_identity, kp_identity, b_identity⟩ := d11.ex
  obtain ⟨f12, fd12, G__law_identity, g__law_identity, kp__law_identity, b__law_identity⟩ := d12.ex
  obtain ⟨f13, fd13, G_power, g_power, kp_power, b_power⟩ := d13.ex
  obtain ⟨f14, fd14, G__law_power, g__law_power, kp__law_power, b__law_power⟩ := d14.ex
  obtain ⟨f15, fd15, G_undone, g_undone, kp_undone, b_undone⟩ := d15.ex
  obtain ⟨f16, fd16, G__law_flat_of, g__law_flat_of, kp__law_flat_of, b__law_flat_of⟩ := d16.ex
  obtain ⟨oc, od, kV, doc, pm, an, cdv, ct, osl, rfl, lk, hcd⟩ := F.ex
  refine LamX.run_ofS (k := 6) (us := [.ref a]) (vs := [.ref a]) lk hcd sc_law ⟨rfl, by decide, by decide⟩ e0 (hb s (.ref a)) (.cons rfl .nil) rfl fun hr => ⟨_, PSs.nox ((pss_cons (ps_set (i := 1) sc_law.nd rfl (Or.inr rfl) (pe_call G__law_pen_of (hr.mono (by decide)) rfl g__law_pen_of kp__law_pen_of b__law_pen_of .nil pass0 (pa_cons (pv 0) pa_nil)))
        (pss_cons (ps_for PassesOwn.never rfl (pi_range1 rfl T.f_range (pa_cons pe_int pa_nil)) (pg_name (i := 2) sc_law.nd rfl (Or.inl rfl)) (pss_cons (ps_set (i := 3) sc_law.nd rfl (Or.inr rfl) (pe_call G__law_pick (hr.mono (by decide)) rfl g__law_pick kp__law_pick b__law_pick .nil pass0 (pa_cons (pv 1) (pa_cons (pe_lst (pa_cons pe_int (pa_cons pe_int (pa_cons pe_int (pa_cons pe_int (pa_cons pe_int (pa_cons pe_int (pa_cons pe_int (pa_cons pe_int (pa_cons pe_int (pa_cons pe_int (pa_cons (pe_op op_pow pe_int pe_int) pa_nil)))))))))))) pa_nil))))
        (pss_cons (ps_asg (pe_lc (own := [("_law_k", 17)]) (g := gName 17) rfl sc_law.nd (pi_range1 rfl T.f_range (pa_cons pe_int pa_nil)) (blkOk_by (N := ["_law_script", "_law_pen", "_law_turn", "_law_modulus", "_law_size", "_law_height", "_law_width", "_law_one", "_law_other", "_law_due", "_law_row", "_law_square", "_law_many", "_law_great", "_law_both", "_law_back", "_law_flat", "_law_k"]) (sc := defScope s_law) (by decide +kernel)) (fun _ _ _ _ _ => (pg_name (i := 17) sc_law.nd rfl (Or.inl rfl))) (fun _ _ _ _ _ => pts_nil) (fun _ _ _ _ _ => (pe_op op_add pe_int (pe_call G__law_draw (hr.mono (by decide)) rfl g__law_draw kp__law_draw b__law_draw .nil pass0 (pa_cons (pv 1) (pa_cons pe_int pa_nil)))))) (pg_lst rfl (pgs_cons (pg_name (i := 4) sc_law.nd rfl (Or.inr rfl)) (pgs_cons (pg_name (i := 5) sc_law.nd rfl (Or.inl rfl)) (pgs_cons (pg_name (i := 6) sc_law.nd rfl (Or.inl rfl)) pgs_nil)))))
        (pss_cons (ps_par (i := 7) (j := 8) rfl sc_law.nd rfl rfl (by decide) rfl rfl (pa_cons (pe_call G__law_matrix_of (hr.mono (by decide)) rfl g__law_matrix_of kp__law_matrix_of b__law_matrix_of .nil pass0 (pa_cons (pv 1) (pa_cons (pv 3) (pa_cons (pv 5) (pa_cons (pv 4) pa_nil))))) (pa_cons (pe_call G__law_matrix_of (hr.mono (by decide)) rfl g__law_matrix_of kp__law_matrix_of b__law_matrix_of .nil pass0 (pa_cons (pv 1) (pa_cons (pv 3) (pa_cons (pv 4) (pa_cons (pv 6) pa_nil))))) pa_nil)) (by rfl))
        (pss_cons (ps_set (i := 9) sc_law.nd rfl (Or.inl rfl) (pe_call G__law_product (hr.mono (by decide)) rfl g__law_product kp__law_product b__law_product .nil pass0 (pa_cons (pv 3) (pa_cons (pv 7) (pa_cons (pv 8) pa_nil)))))
        (pss_cons (ps_if (PW.pt (pw_or (pt_cmpR (op_neD hr.units) (pe_call G_product (hr.mono (by decide)) rfl g_product kp_product b_product .nil pass0 (pa_cons (pv 3) (pa_cons (pv 7) (pa_cons (pv 8) pa_nil)))) (pv 9) (nomark _)) (pw_or1 (pt_cmpR (op_neD hr.units) (pe_call G_product (hr.mono (by decide)) rfl g_product kp_product b_product .nil pass0 (pa_cons (pv 3) (pa_cons (pe_call G__law_moved (hr.mono (by decide)) rfl g__law_moved kp__law_moved b__law_moved .nil pass0 (pa_cons (pv 1) (pa_cons (pv 3) (pa_cons (pv 7) pa_nil)))) (pa_cons (pv 8) pa_nil)))) (pv 9) (nomark _))))) (pss_one (ps_ret pe_bl)) pss_nil)
        (pss_cons (ps_set (i := 10) sc_law.nd rfl (Or.inl rfl) (pe_callTy (call_tupleK (K := K) rfl) rfl T.f_tuple (by decide +kernel) (pa_cons (pe_lc (own := [("_law_k", 17)]) (g := gName 17) rfl sc_law.nd (pi_range1 rfl T.f_range (pa_cons (pv 4) pa_nil)) (blkOk_by (N := ["_law_script", "_law_pen", "_law_turn", "_law_modulus", "_law_size", "_law_height", "_law_width", "_law_one", "_law_other", "_law_due", "_law_row", "_law_square", "_law_many", "_law_great", "_law_both", "_law_back", "_law_flat", "_law_k"]) (sc := defScope s_law) (by decide +kernel)) (fun _ _ _ _ _ => (pg_name (i := 17) sc_law.nd rfl (Or.inl rfl))) (fun _ _ _ _ _ => pts_nil) (fun _ _ _ _ _ => (pe_op op_sub (pe_call G__law_draw (hr.mono (by decide)) rfl g__law_draw kp__law_draw b__law_draw .nil pass0 (pa_cons (pv 1) (pa_cons (pv 3) pa_nil))) (pv 3)))) pa_nil)))
        (pss_cons (ps_if (pt_cmpR (op_neD hr.units) (pe_call G_applied (hr.mono (by decide)) rfl g_applied kp_applied b_applied .nil pass0 (pa_cons (pv 3) (pa_cons (pv 7) (pa_cons (pv 10) pa_nil)))) (pe_call G__law_applied (hr.mono (by decide)) rfl g__law_applied kp__law_applied b__law_applied .nil pass0 (pa_cons (pv 3) (pa_cons (pv 7) (pa_cons (pv 10) pa_nil)))) (nomark _)) (pss_one (ps_ret pe_bl)) pss_nil)
        (pss_cons (ps_par (i := 11) (j := 12) rfl sc_law.nd rfl rfl (by decide) rfl rfl (pa_cons (pe_call G__law_undone_of (hr.mono (by decide)) rfl g__law_undone_of kp__law_undone_of b__law_undone_of .nil pass0 (pa_cons (pv 1) (pa_cons (pv 3) (pa_cons (pv 4) pa_nil)))) (pa_cons (pe_call G__law_draw (hr.mono (by decide)) rfl g__law_draw kp__law_draw b__law_draw .nil pass0 (pa_cons (pv 1) (pa_cons pe_int pa_nil))) pa_nil)) (by rfl))
        (pss_cons (ps_if (PW.pt (pw_or (pt_cmpR (op_neD hr.units) (pe_call G_identity (hr.mono (by decide)) rfl g_identity kp_identity b_identity .nil pass0 (pa_cons (pv 4) pa_nil)) (pe_call G__law_identity (hr.mono (by decide)) rfl g__law_identity kp__law_identity b__law_identity .nil pass0 (pa_cons (pv 4) pa_nil)) (nomark _)) (pw_or1 (pt_cmpR (op_neD hr.units) (pe_call G_power (hr.mono (by decide)) rfl g_power kp_power b_power .nil pass0 (pa_cons (pv 3) (pa_cons (pv 11) (pa_cons (pv 12) pa_nil)))) (pe_call G__law_power (hr.mono (by decide)) rfl g__law_power kp__law_power b__law_power .nil pass0 (pa_cons (pv 3) (pa_cons (pv 11) (pa_cons (pv 12) pa_nil)))) (nomark _))))) (pss_one (ps_ret pe_bl)) pss_nil)
        (pss_cons (ps_set (i := 13) sc_law.nd rfl (Or.inl rfl) (pe_op op_add (pe_op op_pow pe_int pe_int) (pe_call G__law_draw (hr.mono (by decide)) rfl g__law_draw kp__law_draw b__law_draw .nil pass0 (pa_cons (pv 1) (pa_cons (pe_op op_pow pe_int pe_int) pa_nil)))))
        (pss_cons (ps_set (i := 14) sc_law.nd rfl (Or.inl rfl) (pe_call G__law_product (hr.mono (by decide)) rfl g__law_product kp__law_product b__law_product .nil pass0 (pa_cons (pv 3) (pa_cons (pe_call G_power (hr.mono (by decide)) rfl g_power kp_power b_power .nil pass0 (pa_cons (pv 3) (pa_cons (pv 11) (pa_cons (pv 13) pa_nil)))) (pa_cons (pe_call G_power (hr.mono (by decide)) rfl g_power kp_power b_power .nil pass0 (pa_cons (pv 3) (pa_cons (pv 11) (pa_cons (pv 12) pa_nil)))) pa_nil)))))
        (pss_cons (ps_if (pt_cmpR (op_neD hr.units) (pe_call G_power (hr.mono (by decide)) rfl g_power kp_power b_power .nil pass0 (pa_cons (pv 3) (pa_cons (pv 11) (pa_cons (pe_op op_add (pv 13) (pv 12)) pa_nil)))) (pv 14) (nomark _)) (pss_one (ps_ret pe_bl)) pss_nil)
        (pss_cons (ps_set (i := 15) sc_law.nd rfl (Or.inl rfl) (pe_call G_undone (hr.mono (by decide)) rfl g_undone kp_undone b_undone .nil pass0 (pa_cons (pv 3) (pa_cons (pe_call G__law_moved (hr.mono (by decide)) rfl g__law_moved kp__law_moved b__law_moved .nil pass0 (pa_cons (pv 1) (pa_cons (pv 3) (pa_cons (pv 11) pa_nil)))) pa_nil))))
        (pss_cons (ps_if (PW.pt (pw_or (pt_not (pt_val (pe_callB (call_isiK (K := K) rfl) rfl T.f_isinstance (by decide +kernel) (pa_cons (pv 15) (pa_cons (pe_bltn (v := .ty "tuple") rfl T.f_tuple (by decide +kernel) rfl) pa_nil))))) (pw_or1 (pt_not (pt_val (pe_callB (cr_all rfl) rfl T.f_all (by decide +kernel) (pa_cons (pe_lc (own := [("_law_row", 10)]) (g := gName 10) rfl sc_law.nd (pi_tup (pv 15)) (blkOk_by (N := ["_law_script", "_law_pen", "_law_turn", "_law_modulus", "_law_size", "_law_height", "_law_width", "_law_one", "_law_other", "_law_due", "_law_row", "_law_square", "_law_many", "_law_great", "_law_both", "_law_back", "_law_flat", "_law_k"]) (sc := defScope s_law) (by decide +kernel)) (fun _ _ _ _ _ => (pg_name (i := 10) sc_law.nd rfl (Or.inl rfl))) (fun _ _ _ _ _ => pts_nil) (fun _ _ _ _ _ => (pe_and (pe_callB (call_isiK (K := K) rfl) rfl T.f_isinstance (by decide +kernel) (pa_cons (pv 10) (pa_cons (pe_bltn (v := .ty "tuple") rfl T.f_tuple (by decide +kernel) rfl) pa_nil))) (pe_one (pe_cmpR op_eq (pe_callB (call_lenK (K := K) rfl) rfl T.f_len PySem.boot_len (pa_cons (pv 10) pa_nil)) (pv 4) (nomark _)))))) pa_nil))))))) (pss_one (ps_ret pe_bl)) pss_nil)
        (pss_cons (ps_if (pt_cmpR (op_neD hr.units) (pe_call G__law_product (hr.mono (by decide)) rfl g__law_product kp__law_product b__law_product .nil pass0 (pa_cons (pv 3) (pa_cons (pv 11) (pa_cons (pv 15) pa_nil)))) (pe_call G__law_power (hr.mono (by decide)) rfl g__law_power kp__law_power b__law_power .nil pass0 (pa_cons (pv 3) (pa_cons (pv 11) (pa_cons pe_int pa_nil)))) (nomark _)) (pss_one (ps_ret pe_bl)) pss_nil)
        (pss_cons (ps_if (PW.pt (pw_or (pt_cmpR (op_neD hr.units) (pe_call G__law_product (hr.mono (by decide)) rfl g__law_product kp__law_product b__law_product .nil pass0 (pa_cons (pv 3) (pa_cons (pv 15) (pa_cons (pv 11) pa_nil)))) (pe_call G__law_identity (hr.mono (by decide)) rfl g__law_identity kp__law_identity b__law_identity .nil pass0 (pa_cons (pv 4) pa_nil)) (nomark _)) (pw_or1 (pt_cmpR (op_neD hr.units) (pv 15) (pe_call G_undone (hr.mono (by decide)) rfl g_undone kp_undone b_undone .nil pass0 (pa_cons (pv 3) (pa_cons (pv 11) pa_nil))) (nomark _))))) (pss_one (ps_ret pe_bl)) pss_nil)
        (pss_cons (ps_if (pt_not (pt_val (pe_callB (cr_all rfl) rfl T.f_all (by decide +kernel) (pa_cons (pe_lc (own := [("_law_row", 10)]) (g := gName 10) rfl sc_law.nd (pi_tup (pv 15)) (blkOk_by (N := ["_law_script", "_law_pen", "_law_turn", "_law_modulus", "_law_size", "_law_height", "_law_width", "_law_one", "_law_other", "_law_due", "_law_row", "_law_square", "_law_many", "_law_great", "_law_both", "_law_back", "_law_flat", "_law_k"]) (sc := defScope s_law) (by decide +kernel)) (fun _ _ _ _ _ => (pg_name (i := 10) sc_law.nd rfl (Or.inl rfl))) (fun _ _ _ _ _ => pts_nil) (fun _ _ _ _ _ => (pe_and (pe_cmpR op_ge (pe_callB (cr_minT (K := K) rfl rfl) rfl T.f_min (by decide +kernel) (pa_cons (pv 10) pa_nil)) pe_int (nomark _)) (pe_one (pe_cmpR op_lt (pe_callB (cr_maxT (K := K) rfl rfl) rfl T.f_max (by decide +kernel) (pa_cons (pv 10) pa_nil)) (pv 3) (nomark _)))))) pa_nil)))) (pss_one (ps_ret pe_bl)) pss_nil)
        (pss_cons (ps_set (i := 16) sc_law.nd rfl (Or.inl rfl) (pe_call G__law_flat_of (hr.mono (by decide)) rfl g__law_flat_of kp__law_flat_of b__law_flat_of .nil pass0 (pa_cons (pv 1) (pa_cons (pv 3) (pa_cons (pv 4) pa_nil)))))
        (pss_one (ps_if (pt_cmpR op_notN (pe_call G_undone (hr.mono (by decide)) rfl g_undone kp_undone b_undone .nil pass0 (pa_cons (pv 3) (pa_cons (pv 16) pa_nil))) pe_non (nomark _)) (pss_one (ps_ret pe_bl)) pss_nil)))))))))))))))))))))
        (pss_one (ps_ret pe_bl))))), ?_⟩
  -- the pen
  refine ⟨_, rfl, a, ns, rfl, hL, fun p c ns' H1 s1 P1 => ?_⟩
  refine ⟨(6 : Int), rfl, by decide, by decide, ?_⟩
  refine for_it (walk_range (lo := 0) (n := 6)) (fun i σ H' => ∃ (x2 x3 x4 x5 x6 x7 x8 x9 x10 x11 x12 x13 x14 x15 x16 : Option V), σ = [some (.ref a), some (.ref p), x2, x3, x4, x5, x6, x7, x8, x9, x10, x11, x12, x13, x14, x15, x16, none] ∧ Pen H' p c ns' (2000 * i)) ⟨none, none, none, none, none, none, none, none, none, none, none, none, none, none, none, rfl, ⟨0, 0, P1, by decide⟩⟩ (fun _ _ _ _ _ => trivial) ?_ ?_
  · rintro i v σ H2 H2' hi ⟨x2, x3, x4, x5, x6, x7, x8, x9, x10, x11, x12, x13, x14, x15, x16, rfl, P2⟩ ⟨rfl, rfl⟩
    refine ⟨_, rfl, _, _, rfl, rfl, ⟨by decide, by decide, by decide⟩, Nat.le_trans (show 11 ≤ 1000 by decide) (by decide), fun lM nM => ?_⟩
    have sM : Same H2' (upd H2' lM (.lst [V.int 2, V.int 3, V.int 4, V.int 6, V.int 8, V.int 9, V.int 10, V.int 12, V.int 65536, V.int 65521, V.int (10 ^ (18 : Int).toNat)])) := same_upd nM
    obtain ⟨i3, l3, a3, n3⟩ := P2.same sM
    refine ⟨p, c, lM, ns', i3, l3, _, rfl, a3, by omega, upd_same, by simp, by simp, fun v i4 l4 hv z0 z1 z2 => ?_⟩
    obtain ⟨M, rfl, hM, hM2⟩ := moduli hv
    obtain ⟨P4, b4⟩ := drwP a3 n3 (by omega) z0 z1 z2
    show gName 3 (V.int M) _ (penTo (upd H2' lM (.lst [V.int 2, V.int 3, V.int 4, V.int 6, V.int 8, V.int 9, V.int 10, V.int 12, V.int 65536, V.int 65521, V.int (10 ^ (18 : Int).toNat)])) p c i4 l4) _
    generalize penTo (upd H2' lM (.lst [V.int 2, V.int 3, V.int 4, V.int 6, V.int 8, V.int 9, V.int 10, V.int 12, V.int 65536, V.int 65521, V.int (10 ^ (18 : Int).toNat)])) p c i4 l4 = H4 at P4 b4 ⊢
    have P4 : Pen H4 p c ns' (2000 * i + 1) := P4
    -- the sizes
    refine ⟨(3 : Int), rfl, by decide, by decide, fun D hD => lc_pen (walk_range (lo := 0) (n := 3)) 1 P4 hD (by decide) (fun j v _ => ∃ z : Int, v = .int z ∧ 1 ≤ z ∧ z ≤ 4) (fun j v H H' h _ => h) (fun _ _ => trivial) ?_ ?_⟩
    · rintro j v H5 H5' Fn Nn fin hj b5 P5 hacc ⟨rfl, rfl⟩
      refine ⟨rfl, yesT ⟨_, rfl, ?_⟩⟩
      obtain ⟨i5, l5, a5, n5⟩ := P5
      refine ⟨p, c, ns', i5, l5, 4, rfl, a5, by omega, by decide, w64 (by decide) (by decide), fun d i6 l6 d0 d1 y0 y1 y2 => ?_⟩
      obtain ⟨P6, b6⟩ := drwP a5 n5 (by omega) y0 y1 y2
      exact ⟨_, _, rfl, rfl, fin _ _ b6 (P6.le (by omega)) ⟨1 + d, rfl, by omega, by omega⟩⟩
    · intro acc H5 c1 c2 b5 P5 hR5
      obtain ⟨zs, rfl, zl, zR⟩ := ints_of c1 hR5
      obtain ⟨z1, z2, z3, rfl⟩ : ∃ z1 z2 z3, zs = [z1, z2, z3] := by
        match zs, zl with
        | [z1, z2, z3], _ => exact ⟨z1, z2, z3, rfl⟩
      obtain ⟨n, rfl⟩ : ∃ n : Nat, z1 = n := ⟨z1.toNat, by have := zR 0 z1 rfl; omega⟩
      obtain ⟨hh, rfl⟩ : ∃ n : Nat, z2 = n := ⟨z2.toNat, by have := zR 1 z2 rfl; omega⟩
      obtain ⟨ww, rfl⟩ : ∃ n : Nat, z3 = n := ⟨z3.toNat, by have := zR 2 z3 rfl; omega⟩
      have hn := zR 0 n rfl
      have hhh := zR 1 hh rfl
      have hww := zR 2 ww rfl
      refine ⟨D, _, rfl, SqL.of c2, rfl, _, _, rfl, _, _, rfl, _, _, rfl, rfl, ?_⟩
      -- two matrices
      refine ⟨_, rfl, _, rfl, _, rfl, _, rfl, p, c, ns', _, hh, n, M, rfl, P5, by omega, by omega, hM2, by omega, by omega, fun qA H6 A b6 P6 hA sA rA => ?_⟩
      refine ⟨_, rfl, _, rfl, _, rfl, _, rfl, p, c, ns', _, n, ww, M, rfl, P6, by omega, by omega, hM2, by omega, by omega, fun qB H7 B b7 P7 hB sB rB => ?_⟩
      have hA7 := hA.pen b7 P6
      refine ⟨_, _, rfl, ?_⟩
      have wA := mred_wd rA hM2
      have wB := mred_wd rB hM2
      have prodR : ∀ {G : Hp} {a1 b1 : Addr} {X Y : Mat} {h w : Nat} {Q' : VK}, MatAt K G a1 X → MatAt K G b1 Y → Shp h n X → Shp n w Y → MWd X → MWd Y → h ≤ 10 → 1 ≤ w → w ≤ 10 → NewMat K G (prodM M w X Y) Q' → spProd K [.int M, .ref a1, .ref b1] G Q' E0 := fun {G a1 b1 X Y h w Q'} h1 h2 s1 s2 w1 w2 l1 l2 l3 q =>
        ⟨M, a1, b1, X, Y, w, rfl, by omega, h1, h2, w1, w2, by rw [s2.1]; omega, by rw [s2.1]; omega, l2, by omega, by rw [s1.1]; omega, s2.2, fun r hr => by rw [s1.2 r hr, s2.1], q⟩
      refine ⟨_, rfl, _, rfl, _, rfl, prodR hA7 hB sA sB wA wB (by omega) (by omega) (by omega) fun qD H8 s8 hD8 => ?_⟩
      have P8 := P7.same s8
      have hA8 := hA7.same s8
      have hB8 := hB.same s8
      -- the products
      refine ⟨_, rfl, _, rfl, _, rfl, prodR hA8 hB8 sA sB wA wB (by omega) (by omega) (by omega) fun q1 H9 s9 h9 => ⟨_, rfl, same_mats h9 (hD8.same s9) rfl ⟨_, rfl, iteF ?_⟩⟩⟩
      have P9 := P8.same s9
      refine ⟨_, rfl, _, rfl, _, rfl, _, rfl, ⟨p, c, ns', _, M, qA, A, rfl, P9, by omega, by omega, hM2, hA8.same s9, by rw [sA.1]; omega, fun r hr => by rw [sA.2 r hr]; omega, rA, fun qM H10 A' b10 P10 hA' eA' wA' => ?_⟩⟩
      have sA' := meq_shp sA eA'
      have hA10 := (hA8.same s9).pen b10 P9
      have hB10 := (hB8.same s9).pen b10 P9
      have hD10 := (hD8.same s9).pen b10 P9
      refine ⟨_, rfl, prodR hA' hB10 sA' sB wA' wB (by omega) (by omega) (by omega) fun q2 H11 s11 h11 => ⟨_, rfl, same_mats h11 (hD10.same s11) (prod_moved sA sB eA') ⟨_, rfl, iteF ?_⟩⟩⟩
      have P11 := P10.same s11
      have hA11 := hA10.same s11
      -- a row
      refine ⟨_, rfl, (n : Int), rfl, by omega, by omega, fun D2 hD2 => lc_pen (walk_range (lo := 0) (n := n)) 1 P11 hD2 (by omega) (fun j v _ => ∃ z : Int, v = .int z ∧ Wd z) (fun j v H H' h _ => h) (fun _ _ => trivial) ?_ ?_⟩
      · rintro j v H12 H12' Fn Nn fin hj b12 P12 hacc ⟨rfl, rfl⟩
        refine ⟨rfl, yesT ⟨_, rfl, _, rfl, ?_⟩⟩
        obtain ⟨i5, l5, a5, n5⟩ := P12
        refine ⟨p, c, ns', i5, l5, M, rfl, a5, by omega, by omega, w64 (by omega) hM2, fun d i6 l6 d0 d1 y0 y1 y2 => ?_⟩
        obtain ⟨P13, b13⟩ := drwP a5 n5 (by omega) y0 y1 y2
        refine ⟨_, rfl, _, _, rfl, rfl, fin _ _ b13 (P13.le (by omega)) ⟨d - M, rfl, ?_⟩⟩
        show (d - M).natAbs < 2 ^ 200
        omega
      · intro acc H12 c1 c2 b12 P12 hR12
        obtain ⟨r, rfl, lr, rR⟩ := ints_of c1 hR12
        have wr : RWd r := fun x hx => by
          obtain ⟨j, hj⟩ := List.mem_iff_getElem?.mp hx
          exact rR j x hj
        have hA12 := hA11.pen b12 P11
        refine ⟨D2, _, rfl, .inl ⟨SqL.of c2, fun qr nqr => ?_⟩⟩
        have s13 : Same H12 (upd H12 qr (.tup (r.map V.int))) := same_upd nqr
        have g13 : (upd H12 qr (.tup (r.map V.int))) qr = some (.tup (r.map V.int)) := upd_same
        generalize upd H12 qr (.tup (r.map V.int)) = H13 at s13 g13 ⊢
        have P13 := P12.same s13
        have hA13 := hA12.same s13
        have appR : ∀ {G : Hp} {Q' : VK}, MatAt K G qA A → RowAt K G qr r → NewRow G (applyM M A r) Q' → spApplied K [.int M, .ref qA, .ref qr] G Q' E0 := fun {G Q'} h1 h2 q => ⟨M, qA, qr, A, r, rfl, by omega, h1, h2, wA, wr, by rw [sA.1]; omega, by omega, fun l hl => by rw [sA.2 l hl, lr], q⟩
        refine ⟨_, rfl, _, rfl, _, rfl, appR hA13 (SqT.of g13) fun q3 H14 s14 h14 => ⟨_, rfl, _, rfl, _, rfl, appR (hA13.same s14) (SqT.of (s14 _ _ g13)) fun q4 H15 s15 h15 => same_rows (SqT.of (s15 _ _ h14)) (SqT.of h15) rfl ⟨_, rfl, iteF ?_⟩⟩⟩
        have P15 := P13.same (same_trans s14 s15)
        -- a matrix that can be undone
        refine ⟨_, rfl, _, rfl, _, rfl, p, c, ns', _, n, M, rfl, P15, by omega, hM, hM2, by omega, by omega, fun qS H16 S b16 P16 hS sS rS IS => ?_⟩
        obtain ⟨i7, l7, a7, n7⟩ := id P16
        refine ⟨_, rfl, p, c, ns', i7, l7, 9, rfl, a7, by omega, by decide, w64 (by decide) (by decide), fun mn i8 l8 m0 m1 w0 w1 w2 => ?_⟩
        obtain ⟨P17, b17⟩ := drwP a7 n7 (by omega) w0 w1 w2
        generalize penTo H16 p c i8 l8 = H17 at P17 b17 ⊢
        obtain ⟨many, rfl⟩ : ∃ k : Nat, mn = k := ⟨mn.toNat, by omega⟩
        have hS17 := hS.pen b17 P16
        have wS := mred_wd rS hM2
        refine ⟨_, _, rfl, ?_⟩
        have powR : ∀ {G : Hp} {e : Nat} {Q' : VK}, MatAt K G qS S → NewMat K G (mpow M n S e) Q' → spPow K [.int M, .ref qS, .int (e : Int)] G Q' E0 := fun {G e Q'} h q => ⟨M, qS, S, n, e, rfl, hM, hM2, h, sS, wS, by omega, by omega, q⟩
        have powL : ∀ {G : Hp} {e : Nat} {Q' : VK}, MatAt K G qS S → e ≤ 1000 → NewMat K G (mpow M n S e) Q' → spPowL K [.int M, .ref qS, .int (e : Int)] G Q' E0 := fun {G e Q'} h he q => ⟨M, qS, S, n, e, rfl, hM, hM2, h, sS, wS, by omega, by omega, he, q⟩
        -- identity, power
        refine ⟨_, rfl, ⟨n, rfl, by omega, fun q5 H18 s18 h18 => ⟨_, rfl, ⟨n, rfl, by omega, fun q6 H19 s19 h19 => same_mats (h18.same s19) h19 rfl ⟨_, rfl, iteF ?_⟩⟩⟩⟩⟩
        have hS19 := hS17.same (same_trans s18 s19)
        have P19 := P17.same (same_trans s18 s19)
        refine ⟨_, rfl, _, rfl, _, rfl, powR hS19 fun q7 H20 s20 h20 => ⟨_, rfl, _, rfl, _, rfl, powL (hS19.same s20) (by omega) fun q8 H21 s21 h21 => same_mats (h20.same s21) h21 rfl ⟨_, rfl, iteF ?_⟩⟩⟩
        have hS21 := hS19.same (same_trans s20 s21)
        have P21 := P19.same (same_trans s20 s21)
        -- a great exponent
        refine ⟨_, _, rfl, rfl, ⟨by decide, by decide, by decide⟩, _, rfl, _, _, rfl, rfl, ⟨by decide, by decide, by decide⟩, ?_⟩
        obtain ⟨i9, l9, a9, n9⟩ := id P21
        refine ⟨p, c, ns', i9, l9, 10 ^ (6 : Int).toNat, rfl, a9, by omega, by decide, w64 (by decide) (by decide), fun gd j0 k0 g0 g1 v0 v1 v2 => ?_⟩
        obtain ⟨P22, b22⟩ := drwP a9 n9 (by omega) v0 v1 v2
        generalize penTo H21 p c j0 k0 = H22 at P22 b22 ⊢
        have hS22 := hS21.pen b22 P21
        obtain ⟨g, hg⟩ : ∃ g : Nat, (10 ^ (30 : Int).toNat + gd : Int) = g := ⟨(10 ^ (30 : Int).toNat + gd : Int).toNat, by
          have : (0 : Int) ≤ 10 ^ (30 : Int).toNat := by decide
          omega⟩
        refine ⟨_, _, rfl, rfl, ?_⟩
        show gName 13 (V.int (10 ^ (30 : Int).toNat + gd)) _ _ _
        rw [hg]
        obtain ⟨pg1, pg2, pg3⟩ := mpow_ok hM sS g
        obtain ⟨pm1, pm2, pm3⟩ := mpow_ok hM sS many
        obtain ⟨pa1, pa2, pa3⟩ := mpow_ok hM sS (g + many)
        refine ⟨_, rfl, _, rfl, _, rfl, _, rfl, powR hS22 fun q9 H23 s23 h23 => ⟨_, rfl, _, rfl, _, rfl, powR (hS22.same s23) fun q10 H24 s24 h24 => ?_⟩⟩
        refine prodR (h23.same s24) h24 pg1 pm1 (mred_wd pg2 hM2) (mred_wd pm2 hM2) (by omega) (by omega) (by omega) fun q11 H25 s25 h25 => ?_
        have hS25 := hS22.same (same_trans s23 (same_trans s24 s25))
        have P25 := P22.same (same_trans s23 (same_trans s24 s25))
        have ePow : mpow M n S (g + many) = prodM M n (mpow M n S g) (mpow M n S many) := mat_eqm pa1 (prod_shp pg1) pa2 (prod_red (by omega)) (pa3.trans ((powF_add n _ g many).trans ((pg3.mul pm3).symm.trans (prod_F pg1 pm1).symm)))
        refine ⟨_, rfl, _, rfl, _, rfl, _, rfl, _, _, rfl, rfl, powR (e := g + many) hS25 fun q12 H26 s26 h26 => ⟨_, rfl, same_mats h26 (h25.same s26) ePow ⟨_, rfl, iteF ?_⟩⟩⟩
        have hS26 := hS25.same s26
        have P26 := P25.same s26
        -- undone
        refine ⟨_, rfl, _, rfl, _, rfl, _, rfl, p, c, ns', _, M, qS, S, rfl, P26, by omega, by omega, hM2, hS26, by rw [sS.1]; omega, fun r hr => by rw [sS.2 r hr]; omega, rS, fun qV H27 Vm b27 P27 hV eV wV => ?_⟩
        obtain ⟨sV, fV⟩ := ent_moved sS eV
        have hS27 := hS26.pen b27 P26
        have IV := IS.congr fV
        have undR : ∀ {G : Hp} {b1 : Addr} {X : Mat} {Q' : VK}, MatAt K G b1 X → Shp n n X → Inv2 M n (ent X) → (∀ q H' Y, Same G H' → MatAt K H' q Y → Shp n n Y → MRed M Y → EqF M n (mulF n (ent Y) (ent X)) oneF → Q' (.ref q) H') → spUndone K [.int M, .ref b1] G Q' E0 := fun {G b1 X Q'} h sX IX q =>
          ⟨M, b1, X, n, rfl, hM, hM2, h, sX.1, sX.2, by omega, by omega, fun S' H' pu bad sm => by
            obtain ⟨C, hC, _⟩ := IX
            exact (und_bad hM sX pu bad C hC).elim, fun S' q' H' pu good sm hm => by
            obtain ⟨y1, y2, y3⟩ := und_good hM sX pu good
            exact q q' H' _ sm hm y1 y2 y3⟩
        refine undR hV sV IV fun qK H28 Y s28 hK sK rK eK => ?_
        have hS28 := hS27.same s28
        have P28 := P27.same s28
        have wK := mred_wd rK hM2
        have eKS : EqF M n (mulF n (ent Y) (ent S)) oneF := ((EqF.refl _ _ _).mul fV.symm).trans eK
        obtain ⟨vK, hvK, hRK⟩ := id hK
        have lvK : vK.length = n := hRK.length.trans sK.1
        -- its form
        refine ⟨_, rfl, _, _, _, _, true, rfl, .ty _, tyx hvK, kit_ty (by decide +kernel), true, rfl, iteF ?_⟩
        refine ⟨_, rfl, qK, rfl, ⟨vK, hvK⟩, fun D3 hD3 => lc_rel (walk_tup (xs := vK)) hD3 (by omega) (fun j v _ => v = .bl true) (fun j v H H' h _ => h) (fun H' e => SqT.same hvK e) ?_ ?_⟩
        · rintro j v H29 H29' Fn Nn fin hj s29 hacc ⟨rfl, hx⟩
          obtain ⟨u, l, rfl, hl, hu⟩ := rows_at hRK hx
          have hll := sK.2 l (List.mem_of_getElem? hl)
          refine ⟨rfl, yesT ⟨_, rfl, _, _, _, _, true, rfl, .ty _, tyx (SqT.same hu s29), kit_ty (by decide +kernel), true, rfl, iteT ?_⟩⟩
          refine ⟨_, rfl, u, _, rfl, .inr (SqT.same hu s29), _, rfl, rfl, ?_⟩
          exact fin _ _ (fun _ _ e => e) (congrArg V.bl (decide_eq_true (by simp [hll])))
        · intro acc H29 c1' c2' s29 hR29
          have ea : acc = (List.replicate n true).map V.bl := by
            apply List.ext_getElem?
            intro j
            by_cases hj : j < acc.length
            · have e1 := hR29 j _ (List.getElem?_eq_getElem hj)
              rw [List.getElem?_eq_getElem hj, e1, List.getElem?_map, List.getElem?_replicate, if_pos (by omega)]
              rfl
            · rw [List.getElem?_eq_none (by omega), List.getElem?_eq_none (by simp; omega)]
          refine ⟨D3, List.replicate n true, rfl, SqL.of (by rw [c2', ea]), true, congrArg V.bl (by simp), iteF ?_⟩
          have hS29 := hS28.same s29
          have hK29 := hK.same s29
          have P29 := P28.same s29
          have e0 : prodM M n S Y = mpow M n S 0 := mat_eqm (prod_shp sS) (one_shp n) (prod_red (by omega)) (one_red hM n) ((prod_F sS sK).trans ((inv_right IS eKS).trans fun i j hi hj => (Eqm.eq (one_ent hi hj)).symm))
          have e1 : prodM M n Y S = idM n := mat_eqm (prod_shp sK) (one_shp n) (prod_red (by omega)) (one_red hM n) ((prod_F sK sS).trans (eKS.trans fun i j hi hj => (Eqm.eq (one_ent hi hj)).symm))
          refine ⟨_, rfl, _, rfl, _, rfl, prodR hS29 hK29 sS sK wS wK (by omega) (by omega) (by omega) fun q13 H30 s30 h30 => ⟨_, rfl, _, rfl, powL (e := 0) (hS29.same s30) (by omega) fun q14 H31 s31 h31 => same_mats (h30.same s31) h31 e0 ⟨_, rfl, iteF ?_⟩⟩⟩
          have hS31 := hS29.same (same_trans s30 s31)
          have hK31 := hK29.same (same_trans s30 s31)
          have P31 := P29.same (same_trans s30 s31)
          refine ⟨_, rfl, _, rfl, _, rfl, prodR hK31 hS31 sK sS wK wS (by omega) (by omega) (by omega) fun q15 H32 s32 h32 => ⟨_, rfl, ⟨n, rfl, by omega, fun q16 H33 s33 h33 => same_mats (h32.same s33) h33 e1 ⟨_, rfl, iteF ?_⟩⟩⟩⟩
          have hS33 := hS31.same (same_trans s32 s33)
          have hK33 := hK31.same (same_trans s32 s33)
          have P33 := P31.same (same_trans s32 s33)
          refine ⟨_, rfl, _, rfl, _, rfl, undR hS33 sS IS fun q17 H34 Z s34 hZ sZ rZ eZ => same_mats (hK33.same s34) hZ (mat_eqm sK sZ rK rZ (inv_unique IS eKS eZ)) ⟨_, rfl, iteF ?_⟩⟩
          have hS34 := hS33.same s34
          have hK34 := hK33.same s34
          have P34 := P33.same s34
          -- all numbers from 0 to the modulus less 1
          refine ⟨_, rfl, qK, rfl, ⟨vK, SqT.same hvK (same_trans s29 (same_trans (same_trans s30 s31) (same_trans (same_trans s32 s33) s34)))⟩, fun D4 hD4 => lc_rel (walk_tup (xs := vK)) hD4 (by omega) (fun j v _ => v = .bl true) (fun j v H H' h _ => h) (fun H' e => SqT.same hvK (same_trans (same_trans s29 (same_trans (same_trans s30 s31) (same_trans (same_trans s32 s33) s34))) e)) ?_ ?_⟩
          · rintro j v H35 H35' Fn Nn fin hj s35 hacc ⟨rfl, hx⟩
            obtain ⟨u, l, rfl, hl, hu⟩ := rows_at hRK hx
            have hlm := List.mem_of_getElem? hl
            have hll := sK.2 l hlm
            have hu35 := SqT.same hu (same_trans (same_trans s29 (same_trans (same_trans s30 s31) (same_trans (same_trans s32 s33) s34))) s35)
            refine ⟨rfl, yesT ⟨_, rfl, u, l, rfl, hu35, by omega, fun mi hmi => ⟨_, _, rfl, rfl, true, congrArg V.bl (decide_eq_true (rK l hlm mi hmi).1), iteT ?_⟩⟩⟩
            exact ⟨_, rfl, u, l, rfl, hu35, by omega, fun ma hma => ⟨_, rfl, _, _, rfl, rfl, fin _ _ (fun _ _ e => e) (congrArg V.bl (decide_eq_true (rK l hlm ma hma).2))⟩⟩
          · intro acc2 H35 c3 c4 s35 hR35
            have ea2 : acc2 = (List.replicate n true).map V.bl := by
              apply List.ext_getElem?
              intro j
              by_cases hj : j < acc2.length
              · have e1 := hR35 j _ (List.getElem?_eq_getElem hj)
                rw [List.getElem?_eq_getElem hj, e1, List.getElem?_map, List.getElem?_replicate, if_pos (by omega)]
                rfl
              · rw [List.getElem?_eq_none (by omega), List.getElem?_eq_none (by simp; omega)]
            refine ⟨D4, List.replicate n true, rfl, SqL.of (by rw [c4, ea2]), true, congrArg V.bl (by simp), iteF ?_⟩
            have P35 := P34.same s35
            -- flat ones
            refine ⟨_, rfl, _, rfl, _, rfl, p, c, ns', _, n, M, rfl, P35, by omega, hM, hM2, by omega, by omega, fun qF H36 Fm' b36 P36 hF sF noF => ?_⟩
            refine ⟨_, rfl, _, rfl, M, qF, Fm', n, rfl, hM, hM2, hF, sF.1, sF.2, by omega, by omega, fun S' H37 pu bad sm => ?_, fun S' q18 H37 pu good sm hm => ?_⟩
            · exact ⟨rfl, false, congrArg V.bl (by simp), iteF ⟨_, _, _, _, _, _, _, _, _, _, _, _, _, _, _, rfl, (P36.same sm).le (by omega)⟩⟩
            · exact (noF ⟨_, (und_good hM sF pu good).2.2⟩).elim
  · rintro σ H2 ⟨x2, x3, x4, x5, x6, x7, x8, x9, x10, x11, x12, x13, x14, x15, x16, rfl, P2⟩
    exact rfl
end
end Wk

namespace Wk
open PySem PySem.Spec PyProof.Rows L2
def mkD (x : Str) (st : Stmt) : He.DefD := ⟨(x, none), x, x, defArgs st, defBody st, defScope st, [], []⟩
def mkM (C m q : Str) (st : Stmt) (dv : List He.Dv := []) : He.DefD := ⟨(C, some m), m, q, defArgs st, defBody st, defScope st, dv, []⟩
def fns : List He.DefD := [mkM "Stairs" "__init__" "Stairs.__init__" s_Stairs_init, mkM "Stairs" "put" "Stairs.put" s_Stairs_put, mkM "Stairs" "put_at" "Stairs.put_at" s_Stairs_put_at, mkM "Stairs" "settled" "Stairs.settled" s_Stairs_settled, mkD "bezout" s_bezout, mkD "multiple" s_multiple, mkD "combined" s_combined, mkD "product" s_product, mkD "applied" s_applied, mkD "transposed" s_transposed, mkD "unit" s_unit, mkD "identity" s_identity, mkD "power" s_power, mkD "undone" s_undone, mkD "_law_pen_of" s_law_pen_of, mkD "_law_draw" s_law_draw, mkD "_law_pick" s_law_pick, mkD "_law_matrix_of" s_law_matrix_of, mkD "_law_common" s_law_common, mkD "_law_identity" s_law_identity, mkD "_law_undone_of" s_law_undone_of, mkD "_law_applied" s_law_applied, mkD "_law_product" s_law_product, mkD "_law_power" s_law_power, mkD "_law_moved" s_law_moved, mkD "_law_flat_of" s_law_flat_of, mkD "law" s_law]
def fas : List He.Fa := [.cls "Stairs", .noat "Stairs" "modulus", .noat "Stairs" "steps", .mkr "Stairs", .meth "Stairs" "put", .meth "Stairs" "put_at", .meth "Stairs" "settled", .glo "Stairs", .glo "bezout", .glo "multiple", .glo "combined", .glo "product", .glo "applied", .glo "transposed", .glo "unit", .glo "identity", .glo "power", .glo "undone", .glo "_law_pen_of", .glo "_law_draw", .glo "_law_pick", .glo "_law_matrix_of", .glo "_law_common", .glo "_law_identity", .glo "_law_undone_of", .glo "_law_applied", .glo "_law_product", .glo "_law_power", .glo "_law_moved", .glo "_law_flat_of", .glo "law", .free "isinstance", .free "int", .free "range", .free "min", .free "max", .free "all", .free "tuple", .free "list", .free "len", .free "abs", .free "sum", .free "zip", .free "enumerate", .free "reversed"]
def exB (K : PySem.W.Frag) : Bool := true
abbrev RW21 : PySem.W.OpenRow := PySem.W.OpenLaw.row PySem.Challenge.rw_guardsums_k21_matrices
abbrev hk : PySem.W.Hook := hookS 5 fas fns exB
def names : List Str := ["_wall", "bezout", "multiple", "combined", "Stairs", "product", "applied", "transposed", "unit", "identity", "power", "undone", "_law_pen_of", "_law_draw", "_law_pick", "_law_matrix_of", "_law_common", "_law_identity", "_law_undone_of", "_law_applied", "_law_product", "_law_power", "_law_moved", "_law_flat_of"]
theorem run (w : World) : HandSHeadRun.RunEqI RW21 (PySem.W.view RW21.prog [27]) hk (obS 5 fas fns exB) 20000 names w := by
  unfold HandSHeadRun.RunEqI
  kernel_rfl
end Wk

namespace Wk
open PySem PySem.Spec PyProof.Rows L2
theorem fun_at {K : PySem.W.Frag} {x qual : Str} {st : Stmt} {f : Addr} {fd : FuncData} (F : FunD K x qual (defArgs st) (defBody st) (defScope st) [] [] f fd) : Fun K x qual st f fd := by
  obtain ⟨oc, od, dV, kV, doc, pm, an, cdv, ct, osl, e, l, c, hd, _⟩ := F.ex
  rcases hd with ⟨_, e2⟩ | ⟨e2, _⟩
  · subst e2
    exact ⟨⟨oc, od, kV, doc, pm, an, cdv, ct, osl, e, l, c⟩, F.kp⟩
  · exact absurd rfl e2
section
variable {w : World} {K : PySem.W.Frag} {mg : Str → Option Value} {h : Heap}
theorem law_at (X : K.In h) (G : h.Ns mainGlobals mg) {fL : Addr} (hfa : mg "law" = some (.ref fL)) (c : He.SaysX fas fns [] [] exB w h K) {base : Heap} {s : Shared} {H : Hp} {a : Addr} {ns : List Int}
    (e0 : Env0 PySem.Challenge.rw_guardsums_k21_matrices.prog w K mg base callerA [] s H) (hL : SqL K H a (ns.map V.int)) :
    codeAny (model PySem.Challenge.rw_guardsums_k21_matrices.prog w) callerA (.call (.ref fL) ⟨[.ref a], []⟩) (CR CX0 [] PySem.Challenge.rw_guardsums_k21_matrices.prog w H s (fun v _ => v = .bl true) E0) s := by
  have cd := c.t.d
  have eL := hfa.symm.trans (He.glo_ok X G (cd.fact 30 (f := .glo "law") rfl))
  cases eL
  obtain ⟨d_Stairs_init, F_Stairs_init⟩ := cd.def_ 0 (d := mkM "Stairs" "__init__" "Stairs.__init__" s_Stairs_init) rfl
  obtain ⟨d_Stairs_put, F_Stairs_put⟩ := cd.def_ 1 (d := mkM "Stairs" "put" "Stairs.put" s_Stairs_put) rfl
  obtain ⟨d_Stairs_put_at, F_Stairs_put_at⟩ := cd.def_ 2 (d := mkM "Stairs" "put_at" "Stairs.put_at" s_Stairs_put_at) rfl
  obtain ⟨d_Stairs_settled, F_Stairs_settled⟩ := cd.def_ 3 (d := mkM "Stairs" "settled" "Stairs.settled" s_Stairs_settled) rfl
  obtain ⟨d_bezout, F_bezout⟩ := cd.def_ 4 (d := mkD "bezout" s_bezout) rfl
  obtain ⟨d_multiple, F_multiple⟩ := cd.def_ 5 (d := mkD "multiple" s_multiple) rfl
  obtain ⟨d_combined, F_combined⟩ := cd.def_ 6 (d := mkD "combined" s_combined) rfl
  obtain ⟨d_product, F_product⟩ := cd.def_ 7 (d := mkD "product" s_product) rfl
  obtain ⟨d_applied, F_applied⟩ := cd.def_ 8 (d := mkD "applied" s_applied) rfl
  obtain ⟨d_transposed, F_transposed⟩ := cd.def_ 9 (d := mkD "transposed" s_transposed) rfl
  obtain ⟨d_unit, F_unit⟩ := cd.def_ 10 (d := mkD "unit" s_unit) rfl
  obtain ⟨d_identity, F_identity⟩ := cd.def_ 11 (d := mkD "identity" s_identity) rfl
  obtain ⟨d_power, F_power⟩ := cd.def_ 12 (d := mkD "power" s_power) rfl
  obtain ⟨d_undone, F_undone⟩ := cd.def_ 13 (d := mkD "undone" s_undone) rfl
  obtain ⟨d_law_pen_of, F_law_pen_of⟩ := cd.def_ 14 (d := mkD "_law_pen_of" s_law_pen_of) rfl
  obtain ⟨d_law_draw, F_law_draw⟩ := cd.def_ 15 (d := mkD "_law_draw" s_law_draw) rfl
  obtain ⟨d_law_pick, F_law_pick⟩ := cd.def_ 16 (d := mkD "_law_pick" s_law_pick) rfl
  obtain ⟨d_law_matrix_of, F_law_matrix_of⟩ := cd.def_ 17 (d := mkD "_law_matrix_of" s_law_matrix_of) rfl
  obtain ⟨d_law_common, F_law_common⟩ := cd.def_ 18 (d := mkD "_law_common" s_law_common) rfl
  obtain ⟨d_law_identity, F_law_identity⟩ := cd.def_ 19 (d := mkD "_law_identity" s_law_identity) rfl
  obtain ⟨d_law_undone_of, F_law_undone_of⟩ := cd.def_ 20 (d := mkD "_law_undone_of" s_law_undone_of) rfl
  obtain ⟨d_law_applied, F_law_applied⟩ := cd.def_ 21 (d := mkD "_law_applied" s_law_applied) rfl
  obtain ⟨d_law_product, F_law_product⟩ := cd.def_ 22 (d := mkD "_law_product" s_law_product) rfl
  obtain ⟨d_law_power, F_law_power⟩ := cd.def_ 23 (d := mkD "_law_power" s_law_power) rfl
  obtain ⟨d_law_moved, F_law_moved⟩ := cd.def_ 24 (d := mkD "_law_moved" s_law_moved) rfl
  obtain ⟨d_law_flat_of, F_law_flat_of⟩ := cd.def_ 25 (d := mkD "_law_flat_of" s_law_flat_of) rfl
  obtain ⟨d_law, F_law⟩ := cd.def_ 26 (d := mkD "law" s_law) rfl
  have b_Stairs_init : Binds K d_Stairs_init ["self", "modulus", "places"] [] := (FunD.bindsN F_Stairs_init fun _ _ _ _ _ _ us hl => match us, hl with | [_, _, _], _ => rfl)
  have b_Stairs_put : Binds K d_Stairs_put ["self", "row"] [] := (FunD.bindsN F_Stairs_put fun _ _ _ _ _ _ us hl => match us, hl with | [_, _], _ => rfl)
  have b_Stairs_put_at : Binds K d_Stairs_put_at ["self", "place", "row"] [] := (FunD.bindsN F_Stairs_put_at fun _ _ _ _ _ _ us hl => match us, hl with | [_, _, _], _ => rfl)
  have b_Stairs_settled : Binds K d_Stairs_settled ["self"] [] := (FunD.bindsN F_Stairs_settled fun _ _ _ _ _ _ us hl => match us, hl with | [_], _ => rfl)
  have b_bezout : Binds K d_bezout ["one", "other"] [] := (FunD.bindsN F_bezout fun _ _ _ _ _ _ us hl => match us, hl with | [_, _], _ => rfl)
  have b_multiple : Binds K d_multiple ["modulus", "factor", "row"] [] := (FunD.bindsN F_multiple fun _ _ _ _ _ _ us hl => match us, hl with | [_, _, _], _ => rfl)
  have b_combined : Binds K d_combined ["modulus", "factor", "row", "other_factor", "other"] [] := (FunD.bindsN F_combined fun _ _ _ _ _ _ us hl => match us, hl with | [_, _, _, _, _], _ => rfl)
  have b_product : Binds K d_product ["modulus", "one", "other"] [] := (FunD.bindsN F_product fun _ _ _ _ _ _ us hl => match us, hl with | [_, _, _], _ => rfl)
  have b_applied : Binds K d_applied ["modulus", "matrix", "row"] [] := (FunD.bindsN F_applied fun _ _ _ _ _ _ us hl => match us, hl with | [_, _, _], _ => rfl)
  have b_transposed : Binds K d_transposed ["matrix"] [] := (FunD.bindsN F_transposed fun _ _ _ _ _ _ us hl => match us, hl with | [_], _ => rfl)
  have b_unit : Binds K d_unit ["size", "place"] [] := (FunD.bindsN F_unit fun _ _ _ _ _ _ us hl => match us, hl with | [_, _], _ => rfl)
  have b_identity : Binds K d_identity ["size"] [] := (FunD.bindsN F_identity fun _ _ _ _ _ _ us hl => match us, hl with | [_], _ => rfl)
  have b_power : Binds K d_power ["modulus", "matrix", "many"] [] := (FunD.bindsN F_power fun _ _ _ _ _ _ us hl => match us, hl with | [_, _, _], _ => rfl)
  have b_undone : Binds K d_undone ["modulus", "matrix"] [] := (FunD.bindsN F_undone fun _ _ _ _ _ _ us hl => match us, hl with | [_, _], _ => rfl)
  have b_law_pen_of : Binds K d_law_pen_of ["_law_script"] [] := (FunD.bindsN F_law_pen_of fun _ _ _ _ _ _ us hl => match us, hl with | [_], _ => rfl)
  have b_law_draw : Binds K d_law_draw ["_law_pen", "_law_many"] [] := (FunD.bindsN F_law_draw fun _ _ _ _ _ _ us hl => match us, hl with | [_, _], _ => rfl)
  have b_law_pick : Binds K d_law_pick ["_law_pen", "_law_items"] [] := (FunD.bindsN F_law_pick fun _ _ _ _ _ _ us hl => match us, hl with | [_, _], _ => rfl)
  have b_law_matrix_of : Binds K d_law_matrix_of ["_law_pen", "_law_modulus", "_law_height", "_law_width"] [] := (FunD.bindsN F_law_matrix_of fun _ _ _ _ _ _ us hl => match us, hl with | [_, _, _, _], _ => rfl)
  have b_law_common : Binds K d_law_common ["_law_one", "_law_other"] [] := (FunD.bindsN F_law_common fun _ _ _ _ _ _ us hl => match us, hl with | [_, _], _ => rfl)
  have b_law_identity : Binds K d_law_identity ["_law_size"] [] := (FunD.bindsN F_law_identity fun _ _ _ _ _ _ us hl => match us, hl with | [_], _ => rfl)
  have b_law_undone_of : Binds K d_law_undone_of ["_law_pen", "_law_modulus", "_law_size"] [] := (FunD.bindsN F_law_undone_of fun _ _ _ _ _ _ us hl => match us, hl with | [_, _, _], _ => rfl)
  have b_law_applied : Binds K d_law_applied ["_law_modulus", "_law_matrix", "_law_row"] [] := (FunD.bindsN F_law_applied fun _ _ _ _ _ _ us hl => match us, hl with | [_, _, _], _ => rfl)
  have b_law_product : Binds K d_law_product ["_law_modulus", "_law_one", "_law_other"] [] := (FunD.bindsN F_law_product fun _ _ _ _ _ _ us hl => match us, hl with | [_, _, _], _ => rfl)
  have b_law_power : Binds K d_law_power ["_law_modulus", "_law_matrix", "_law_many"] [] := (FunD.bindsN F_law_power fun _ _ _ _ _ _ us hl => match us, hl with | [_, _, _], _ => rfl)
  have b_law_moved : Binds K d_law_moved ["_law_pen", "_law_modulus", "_law_matrix"] [] := (FunD.bindsN F_law_moved fun _ _ _ _ _ _ us hl => match us, hl with | [_, _, _], _ => rfl)
  have b_law_flat_of : Binds K d_law_flat_of ["_law_pen", "_law_modulus", "_law_size"] [] := (FunD.bindsN F_law_flat_of fun _ _ _ _ _ _ us hl => match us, hl with | [_, _, _], _ => rfl)
  have TM : TxtM mg := ⟨(He.free_ok X G (cd.fact 37 (f := .free "tuple") rfl)), (He.free_ok X G (cd.fact 42 (f := .free "zip") rfl)), (He.free_ok X G (cd.fact 41 (f := .free "sum") rfl)), (He.free_ok X G (cd.fact 33 (f := .free "range") rfl)), (He.free_ok X G (cd.fact 39 (f := .free "len") rfl))⟩
  have TA : TxtA mg := ⟨(He.free_ok X G (cd.fact 32 (f := .free "int") rfl)), (He.free_ok X G (cd.fact 39 (f := .free "len") rfl)), (He.free_ok X G (cd.fact 40 (f := .free "abs") rfl))⟩
  have TL : TxtL mg := ⟨(He.free_ok X G (cd.fact 37 (f := .free "tuple") rfl)), (He.free_ok X G (cd.fact 38 (f := .free "list") rfl)), (He.free_ok X G (cd.fact 32 (f := .free "int") rfl)), (He.free_ok X G (cd.fact 42 (f := .free "zip") rfl)), (He.free_ok X G (cd.fact 41 (f := .free "sum") rfl)), (He.free_ok X G (cd.fact 33 (f := .free "range") rfl)), (He.free_ok X G (cd.fact 39 (f := .free "len") rfl)), (He.free_ok X G (cd.fact 34 (f := .free "min") rfl)), (He.free_ok X G (cd.fact 35 (f := .free "max") rfl)), (He.free_ok X G (cd.fact 36 (f := .free "all") rfl)), (He.free_ok X G (cd.fact 40 (f := .free "abs") rfl)), (He.free_ok X G (cd.fact 31 (f := .free "isinstance") rfl))⟩
  have TS : TxtS K mg (He.ga K "Stairs") (He.ma K (He.ga K "Stairs") "__init__") (He.ma K (He.ga K "Stairs") "put") (He.ma K (He.ga K "Stairs") "put_at") (He.ma K (He.ga K "Stairs") "settled") := { cl := He.cls_ok (cd.fact 0 (f := .cls "Stairs") rfl), nM := He.noat_ok (cd.fact 1 (f := .noat "Stairs" "modulus") rfl), nS := He.noat_ok (cd.fact 2 (f := .noat "Stairs" "steps") rfl), mgC := (He.glo_ok X G (cd.fact 7 (f := .glo "Stairs") rfl)), mkr := He.mkr_ok (cd.fact 3 (f := .mkr "Stairs") rfl), m_put := (He.meth_ok (cd.fact 4 (f := .meth "Stairs" "put") rfl)), m_put_at := (He.meth_ok (cd.fact 5 (f := .meth "Stairs" "put_at") rfl)), m_settled := (He.meth_ok (cd.fact 6 (f := .meth "Stairs" "settled") rfl)), f_tuple := (He.free_ok X G (cd.fact 37 (f := .free "tuple") rfl)), f_range := (He.free_ok X G (cd.fact 33 (f := .free "range") rfl)), f_len := (He.free_ok X G (cd.fact 39 (f := .free "len") rfl)), f_reversed := (He.free_ok X G (cd.fact 44 (f := .free "reversed") rfl)), f_list := (He.free_ok X G (cd.fact 38 (f := .free "list") rfl)), f_enumerate := (He.free_ok X G (cd.fact 43 (f := .free "enumerate") rfl)) }
  have G_law_pen_of := ok_pen (P := PySem.Challenge.rw_guardsums_k21_matrices.prog) (w := w) (base := base) (fun_at F_law_pen_of) (He.free_ok X G (cd.fact 38 (f := .free "list") rfl))
  have G_law_draw := ok_draw (P := PySem.Challenge.rw_guardsums_k21_matrices.prog) (w := w) (base := base) (fun_at F_law_draw) TA
  have G_law_pick := ok_pick (fun_at F_law_pick) TA G_law_draw (He.glo_ok X G (cd.fact 19 (f := .glo "_law_draw") rfl)) F_law_draw.kp b_law_draw
  have G_applied := ok_applied (P := PySem.Challenge.rw_guardsums_k21_matrices.prog) (w := w) (base := base) (fun_at F_applied) TM
  have G_transposed := ok_transposed (P := PySem.Challenge.rw_guardsums_k21_matrices.prog) (w := w) (base := base) (fun_at F_transposed) TM
  have G_unit := ok_unit (P := PySem.Challenge.rw_guardsums_k21_matrices.prog) (w := w) (base := base) (mg := mg) (fun_at F_unit)
  have G_identity := ok_identity (fun_at F_identity) TM G_unit (He.glo_ok X G (cd.fact 14 (f := .glo "unit") rfl)) F_unit.kp b_unit
  have G_product := ok_product (fun_at F_product) TM G_transposed (He.glo_ok X G (cd.fact 13 (f := .glo "transposed") rfl)) F_transposed.kp b_transposed G_applied (He.glo_ok X G (cd.fact 12 (f := .glo "applied") rfl)) F_applied.kp b_applied
  have G_power := ok_power (fun_at F_power) TM G_identity (He.glo_ok X G (cd.fact 15 (f := .glo "identity") rfl)) F_identity.kp b_identity G_product (He.glo_ok X G (cd.fact 11 (f := .glo "product") rfl)) F_product.kp b_product
  have G_bezout := ok_bezout (P := PySem.Challenge.rw_guardsums_k21_matrices.prog) (w := w) (base := base) (mg := mg) (fun_at F_bezout)
  have G_multiple := ok_multiple (P := PySem.Challenge.rw_guardsums_k21_matrices.prog) (w := w) (base := base) (mg := mg) (fun_at F_multiple)
  have G_combined := ok_combined (P := PySem.Challenge.rw_guardsums_k21_matrices.prog) (w := w) (base := base) (fun_at F_combined) TM
  have G_put_at := ok_put_at (fun_at F_Stairs_put_at) TS G_bezout (He.glo_ok X G (cd.fact 8 (f := .glo "bezout") rfl)) F_bezout.kp b_bezout G_multiple (He.glo_ok X G (cd.fact 9 (f := .glo "multiple") rfl)) F_multiple.kp b_multiple G_combined (He.glo_ok X G (cd.fact 10 (f := .glo "combined") rfl)) F_combined.kp b_combined
  have G_init := ok_st_init (P := PySem.Challenge.rw_guardsums_k21_matrices.prog) (w := w) (base := base) (fun_at F_Stairs_init) TS
  have G_put := ok_put (fun_at F_Stairs_put) TS G_put_at b_Stairs_put_at
  have G_settled := ok_settled (fun_at F_Stairs_settled) TS G_combined (He.glo_ok X G (cd.fact 10 (f := .glo "combined") rfl)) F_combined.kp b_combined
  have G_undone := ok_undone (fun_at F_undone) TS G_init b_Stairs_init G_put b_Stairs_put G_settled b_Stairs_settled G_unit (He.glo_ok X G (cd.fact 14 (f := .glo "unit") rfl)) F_unit.kp b_unit
  have G_law_matrix_of := ok_matrix_of (fun_at F_law_matrix_of) TL G_law_draw (He.glo_ok X G (cd.fact 19 (f := .glo "_law_draw") rfl)) F_law_draw.kp b_law_draw
  have G_law_moved := ok_moved (fun_at F_law_moved) TL G_law_draw (He.glo_ok X G (cd.fact 19 (f := .glo "_law_draw") rfl)) F_law_draw.kp b_law_draw
  have G_law_common := ok_gcd (P := PySem.Challenge.rw_guardsums_k21_matrices.prog) (w := w) (base := base) (fun_at F_law_common) TL
  have G_law_identity := ok_law_identity (P := PySem.Challenge.rw_guardsums_k21_matrices.prog) (w := w) (base := base) (fun_at F_law_identity) TL
  have G_law_undone_of := ok_undone_of (fun_at F_law_undone_of) TL G_law_identity (He.glo_ok X G (cd.fact 23 (f := .glo "_law_identity") rfl)) F_law_identity.kp b_law_identity G_law_draw (He.glo_ok X G (cd.fact 19 (f := .glo "_law_draw") rfl)) F_law_draw.kp b_law_draw G_law_common (He.glo_ok X G (cd.fact 22 (f := .glo "_law_common") rfl)) F_law_common.kp b_law_common
  have G_law_applied := ok_law_applied (P := PySem.Challenge.rw_guardsums_k21_matrices.prog) (w := w) (base := base) (fun_at F_law_applied) TL
  have G_law_product := ok_law_product (P := PySem.Challenge.rw_guardsums_k21_matrices.prog) (w := w) (base := base) (fun_at F_law_product) TL
  have G_law_power := ok_law_power (fun_at F_law_power) TL G_law_identity (He.glo_ok X G (cd.fact 23 (f := .glo "_law_identity") rfl)) F_law_identity.kp b_law_identity G_law_product (He.glo_ok X G (cd.fact 26 (f := .glo "_law_product") rfl)) F_law_product.kp b_law_product
  have G_law_flat_of := ok_flat_of (fun_at F_law_flat_of) TL G_law_undone_of (He.glo_ok X G (cd.fact 24 (f := .glo "_law_undone_of") rfl)) F_law_undone_of.kp b_law_undone_of G_law_draw (He.glo_ok X G (cd.fact 19 (f := .glo "_law_draw") rfl)) F_law_draw.kp b_law_draw G_law_pick (He.glo_ok X G (cd.fact 20 (f := .glo "_law_pick") rfl)) F_law_pick.kp b_law_pick
  have bl : ∀ (s : Shared) (u : Value), BindsTo s d_law ⟨[u], []⟩ [("_law_script", u)] := fun s u => (FunD.bindsA (ps := ["_law_script"]) F_law fun _ _ _ _ _ _ us hl => match us, hl with | [_], _ => rfl) s [u] rfl
  exact law_run (fun_at F_law) bl TL ⟨⟨_, _, G_law_pen_of, (He.glo_ok X G (cd.fact 18 (f := .glo "_law_pen_of") rfl)), F_law_pen_of.kp, b_law_pen_of⟩⟩ ⟨⟨_, _, G_law_draw, (He.glo_ok X G (cd.fact 19 (f := .glo "_law_draw") rfl)), F_law_draw.kp, b_law_draw⟩⟩ ⟨⟨_, _, G_law_pick, (He.glo_ok X G (cd.fact 20 (f := .glo "_law_pick") rfl)), F_law_pick.kp, b_law_pick⟩⟩ ⟨⟨_, _, G_law_matrix_of, (He.glo_ok X G (cd.fact 21 (f := .glo "_law_matrix_of") rfl)), F_law_matrix_of.kp, b_law_matrix_of⟩⟩ ⟨⟨_, _, G_law_product, (He.glo_ok X G (cd.fact 26 (f := .glo "_law_product") rfl)), F_law_product.kp, b_law_product⟩⟩ ⟨⟨_, _, G_product, (He.glo_ok X G (cd.fact 11 (f := .glo "product") rfl)), F_product.kp, b_product⟩⟩ ⟨⟨_, _, G_law_moved, (He.glo_ok X G (cd.fact 28 (f := .glo "_law_moved") rfl)), F_law_moved.kp, b_law_moved⟩⟩ ⟨⟨_, _, G_applied, (He.glo_ok X G (cd.fact 12 (f := .glo "applied") rfl)), F_applied.kp, b_applied⟩⟩ ⟨⟨_, _, G_law_applied, (He.glo_ok X G (cd.fact 25 (f := .glo "_law_applied") rfl)), F_law_applied.kp, b_law_applied⟩⟩ ⟨⟨_, _, G_law_undone_of, (He.glo_ok X G (cd.fact 24 (f := .glo "_law_undone_of") rfl)), F_law_undone_of.kp, b_law_undone_of⟩⟩ ⟨⟨_, _, G_identity, (He.glo_ok X G (cd.fact 15 (f := .glo "identity") rfl)), F_identity.kp, b_identity⟩⟩ ⟨⟨_, _, G_law_identity, (He.glo_ok X G (cd.fact 23 (f := .glo "_law_identity") rfl)), F_law_identity.kp, b_law_identity⟩⟩ ⟨⟨_, _, G_power, (He.glo_ok X G (cd.fact 16 (f := .glo "power") rfl)), F_power.kp, b_power⟩⟩ ⟨⟨_, _, G_law_power, (He.glo_ok X G (cd.fact 27 (f := .glo "_law_power") rfl)), F_law_power.kp, b_law_power⟩⟩ ⟨⟨_, _, G_undone, (He.glo_ok X G (cd.fact 17 (f := .glo "undone") rfl)), F_undone.kp, b_undone⟩⟩ ⟨⟨_, _, G_law_flat_of, (He.glo_ok X G (cd.fact 29 (f := .glo "_law_flat_of") rfl)), F_law_flat_of.kp, b_law_flat_of⟩⟩ e0 hL
end
end Wk
open PySem PySem.W PySem.Calls PyProof.Rows
theorem PySem.Challenge.cw_guardsums_k21_matrices_holds : PySem.Challenge.rw_guardsums_k21_matrices.Holds := by
  w_on; o_law
  refine HandSHeadRun.head_imp (r := Wk.RW21) (q := view Wk.RW21.prog [27]) (H := Wk.hk) (ob := Wk.obS 5 Wk.fas Wk.fns Wk.exB) (M := 20000) (loose := Wk.names) (d := HandSHeadRun.topDef Wk.RW21.prog 27) (kwd := []) Wk.obS_eq Wk.run
    (by kernel_rfl) (by kernel_rfl) (by kernel_rfl) (by rfl) (by first | assumption | decide +kernel) (by decide +kernel) ⟨rfl, rfl, rfl, rfl, rfl, by decide +kernel⟩ ?hw ?hc
  case hw => w_witness2
  case hc =>
    refine Wk.walk_here (l := PySem.Challenge.rw_guardsums_k21_matrices) (n := 63) rfl (by decide) (by kernel_rfl) ?F
    intro w mg fa h Y G hmg0
    obtain ⟨⟨K, KX, c⟩, hm⟩ := Y
    have hmg : mg ("law" : PySem.Str) = some (.ref fa) := by
      have e : (HandSHeadRun.topDef Wk.RW21.prog 27).name = ("law" : PySem.Str) := by kernel_rfl
      rw [← e]
      exact hmg0
    exact ⟨K, KX, fun base s H a ns _ _ _ bb e0 hL => Wk.law_at KX G hmg c e0 hL⟩

