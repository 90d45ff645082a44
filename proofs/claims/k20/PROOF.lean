import PyProof.Rows.All
import Wide.All
import OpenK.AllK
import Wide.FinOn
import PySem.Challenge.RW_guardsums_k20_residues
import HandS.ForMost
import HandS.ForExc
import HandS.Wide
import HandS.Words
import HandS.WordsList
import HandS.Comp
import PyProof.ReprRoads
import PyProof.CallFns
import HandS.More
import HandS.List
import HandS.Dict
import HandS.EndBits
import HandS.EndTab
import HandS.HeadHook4
import HandS.Head0
import HandS.Head1
import HandS.Head2
import HandS.Head3
import HandS.ExcOwn
import HandS.ExcField
import HandS.ExcInit
import HandS.ExcIs
import HandS.Lambda
import KE.KExcIs
import HandS.Gcd
import HandS.Iter
import HandS.IsInst
import KE.KMathG
import HandS.Set
import HandS.SetFor
import HandS.Strs
import HandS.TupSets
import KE.KStateDown
import HandS.HeadEnd
import HandS.HeadHook1
import HandS.HeadHook2
import HandS.HeadHook3
import HandS.HeadWalk
set_option Elab.async false
set_option linter.all false
set_option maxRecDepth 100000
set_option maxHeartbeats 0
namespace Wk
open PySem L2
def top (i : Nat) : Stmt := PySem.Challenge.pw_guardsums_k20_residues.main.body.getD i (.Pass ⟨0, 0, 0, 0⟩)
abbrev s_law_pen_of : Stmt := top 20
theorem sc_law_pen_of : FnScope ["_law_script"] ["_law_script"] (defScope s_law_pen_of) := ⟨rfl, rfl, rfl, by decide +kernel, rfl, by decide +kernel, by decide +kernel⟩
abbrev s_law_draw : Stmt := top 21
theorem sc_law_draw : FnScope ["_law_pen", "_law_many", "_law_digit", "_law_index", "_law_size", "_law_cell", "_law_mixed"] ["_law_pen", "_law_many"] (defScope s_law_draw) := ⟨rfl, rfl, rfl, by decide +kernel, rfl, by decide +kernel, by decide +kernel⟩
abbrev s_law_pick : Stmt := top 22
theorem sc_law_pick : FnScope ["_law_pen", "_law_items"] ["_law_pen", "_law_items"] (defScope s_law_pick) := ⟨rfl, rfl, rfl, by decide +kernel, rfl, by decide +kernel, by decide +kernel⟩

local macro_rules | `(tactic| walk_at "rd") => `(tactic| repeat first | refine ⟨_, rfl, ?_⟩ | refine ⟨_, _, rfl, rfl, ?_⟩ | refine ⟨rfl, ?_⟩)
/-! ### the pen -/
def penL (c : Addr) (i l : Int) : List (Key × V) := [(.inr "cells", .ref c), (.inr "next", .int i), (.inr "left", .int l)]
theorem kk1 : ¬ (Sum.inr "cells" : Key) = .inr "next" := by decide +kernel
theorem kk2 : ¬ (Sum.inr "cells" : Key) = .inr "left" := by decide +kernel
theorem kk3 : ¬ (Sum.inr "next" : Key) = .inr "left" := by decide +kernel
theorem kk4 : ¬ (Sum.inr "left" : Key) = .inr "next" := by decide +kernel
theorem ks1 : ¬ Str.ofString "cells" = Str.ofString "next" := by decide +kernel
theorem ks2 : ¬ Str.ofString "cells" = Str.ofString "left" := by decide +kernel
theorem ks3 : ¬ Str.ofString "next" = Str.ofString "left" := by decide +kernel
theorem ks4 : ¬ Str.ofString "left" = Str.ofString "next" := by decide +kernel
theorem pen_cells (c : Addr) (i l : Int) : valV (penL c i l) (.inr "cells") = some (.ref c) := valV_pos rfl
theorem pen_next (c : Addr) (i l : Int) : valV (penL c i l) (.inr "next") = some (.int i) := by
  rw [penL, valV_neg kk1, valV_pos rfl]
theorem pen_left (c : Addr) (i l : Int) : valV (penL c i l) (.inr "left") = some (.int l) := by
  rw [penL, valV_neg kk2, valV_neg kk3, valV_pos rfl]
theorem put_next (c : Addr) (i l j : Int) : putK (penL c i l) (.inr "next") (.int j) = penL c j l := by
  simp [putK, penL, ks1, ks4]
theorem put_left (c : Addr) (i l j : Int) : putK (penL c i l) (.inr "left") (.int j) = penL c i j := by
  simp [putK, penL, ks2, ks3]
structure PenAt (H : Hp) (p c : Addr) (ns : List Int) (i l : Int) : Prop where
  pen : H p = some (.dK (penL c i l))
  cells : H c = some (.lst (ns.map V.int))
  i0 : 0 ≤ i
  l0 : 0 ≤ l
  i1 : i ≤ 100000
theorem PenAt.ne {H : Hp} {p c : Addr} {ns : List Int} {i l : Int} (P : PenAt H p c ns i l) : c ≠ p := ne_of P.cells P.pen (by intro z; cases z)
/-- the pen behind a draw -/
def penTo (H : Hp) (p c : Addr) (i l : Int) : Hp := upd H p (.dK (penL c i l))
theorem PenAt.to {H : Hp} {p c : Addr} {ns : List Int} {i l i' l' : Int} (P : PenAt H p c ns i l) (h0 : 0 ≤ i') (h1 : 0 ≤ l') (h2 : i' ≤ 100000) : PenAt (penTo H p c i' l') p c ns i' l' :=
  ⟨upd_same, by rw [penTo, upd_ne P.ne]; exact P.cells, h0, h1, h2⟩
theorem penTo_to {H : Hp} {p c : Addr} {i l i' l' : Int} : penTo (penTo H p c i l) p c i' l' = penTo H p c i' l' := upd_upd
def spDraw : Sp := fun vs H Q _ => ∃ (p c : Addr) (ns : List Int) (i l m : Int), vs = [.ref p, .int m] ∧ PenAt H p c ns i l ∧ i < 100000 ∧ 1 ≤ m ∧ m.natAbs < 2 ^ 9000 ∧
  ∀ d i' l' : Int, 0 ≤ d → d < m → 0 ≤ i' → i' ≤ i + 1 → 0 ≤ l' → Q (.int d) (penTo H p c i' l')
/-- what the module's names stand for -/
structure TxtA (mg : Str → Option Value) : Prop where
  f_int : mg "int" = none
  f_len : mg "len" = none
  f_abs : mg "abs" = none
section
variable {P : Program} {w : World} {K : PySem.W.Frag} {mg : Str → Option Value} {base : Heap}
theorem small64 {i : Int} (h0 : 0 ≤ i) {n : Int} (h1 : i ≤ n) {k : Nat} (h2 : n.toNat < 2 ^ k) : i.natAbs < 2 ^ k := by omega
theorem fmod_at {a m : Int} (h : 1 ≤ m) : 0 ≤ a.fmod m ∧ a.fmod m < m := by
  rw [Int.fmod_eq_emod_of_nonneg _ (by omega)]
  exact ⟨Int.emod_nonneg _ (by omega), Int.emod_lt_of_pos _ (by omega)⟩
theorem emod_at {a m : Int} (h : 1 ≤ m) : 0 ≤ a % m ∧ a % m < m := ⟨Int.emod_nonneg _ (by omega), Int.emod_lt_of_pos _ (by omega)⟩
/-- a way that two branches share -/
theorem use_tail {B G : Prop} (f : B → G) (b : B) : G := f b
theorem pick2 {c1 : Prop} [Decidable c1] {X A B : Prop} (hB : B) (h1 : c1 → X) : if decide c1 = true then X else if false = true then A else B := by
  by_cases c : c1
  · rw [if_pos (decide_eq_true c)]
    exact h1 c
  · rw [if_neg (by simpa using c)]
    exact iteF hB
theorem mod_word {a b : Int} (hb : 1 ≤ b) (hb2 : b ≤ 4294967296) : ∃ y : Int, a % b = y ∧ 0 ≤ y ∧ y < 4294967296 := ⟨a % b, rfl, Int.emod_nonneg _ (by omega), by
  have := Int.emod_lt_of_pos a (show 0 < b by omega)
  omega⟩
theorem ok_draw {f : Addr} {fd : FuncData} (F : Fun K "_law_draw" "_law_draw" s_law_draw f fd) (T : TxtA mg) : FnOk P w K mg base CX0 1 f fd ["_law_pen", "_law_many"] spDraw := by
  refine F.ok sc_law_draw (fun vs H Q E h => ?_) (fun cdv A outer s H vs Q E hr h => ?_)
  · obtain ⟨p, c, ns, i, l, m, rfl, _⟩ := h
    rfl
  · obtain ⟨p, c, ns, i, l, m, rfl, S, hi, hm, hmw, k⟩ := h
    have hu := hu_of hr
    have hcp := S.ne
    have i0 := S.i0
    have l0 := S.l0
    refine ⟨_, (pss_cons (ps_if (pt_cmpR op_gt (pe_dget hu (pv 0) pe_str (fun _ _ => rfl)) pe_int (nomark _)) (pss_cons (ps_set (i := 2) sc_law_draw.nd rfl (Or.inl rfl) (pe_op op_modN (pe_callTy call_int1 rfl T.f_int (by decide +kernel) (pa_cons (pe_dget hu (pv 0) pe_str (fun _ _ => rfl)) pa_nil)) (pv 1)))
        (pss_cons (ps_dput hu (pv 0) pe_str (pe_op op_fdivW (pe_dget hu (pv 0) pe_str (fun _ _ => rfl)) (pv 1)) rfl)
        (pss_one (ps_ret (pv 2))))) pss_nil)
        (pss_cons (ps_par (i := 3) (j := 4) rfl sc_law_draw.nd rfl rfl (by decide) rfl rfl (pa_cons (pe_dget hu (pv 0) pe_str (fun _ _ => rfl)) (pa_cons (pe_callB call_len_seq rfl T.f_len PySem.boot_len (pa_cons (pe_dget hu (pv 0) pe_str (fun _ _ => rfl)) pa_nil)) pa_nil)) (by rfl))
        (pss_cons (ps_dput hu (pv 0) pe_str (pe_op op_add (pv 3) pe_int) rfl)
        (pss_cons (ps_if (pt_cmpR op_eq (pv 4) pe_int (nomark _)) (pss_one (ps_ret (pe_op op_modN (pe_callTy call_int1 rfl T.f_int (by decide +kernel) (pa_cons (pe_op op_add (pe_op op_mulW pe_int (pv 3)) pe_int) pa_nil)) (pv 1)))) pss_nil)
        (pss_cons (ps_set (i := 5) sc_law_draw.nd rfl (Or.inl rfl) (pe_ix ix_list (pe_dget hu (pv 0) pe_str (fun _ _ => rfl)) (pe_op op_modN (pe_callTy call_int1 rfl T.f_int (by decide +kernel) (pa_cons (pv 3) pa_nil)) (pv 4)) (fun _ _ => rfl)))
        (pss_cons (ps_if (PW.pt (pw_and (pt_cmpR op_lt (pv 3) (pv 4) (nomark _)) (pw_and1 (pt_cmpR op_ge (pe_callB call_abs rfl T.f_abs (by decide +kernel) (pa_cons (pv 5) pa_nil)) (pe_op op_pow pe_int pe_int) (nomark _))))) (pss_cons (ps_dput hu (pv 0) pe_str (pe_op op_fdivW (pe_op op_sub (pe_callB call_abs rfl T.f_abs (by decide +kernel) (pa_cons (pv 5) pa_nil)) (pe_op op_pow pe_int pe_int)) (pv 1)) rfl)
        (pss_one (ps_ret (pe_op op_modN (pe_callTy call_int1 rfl T.f_int (by decide +kernel) (pa_cons (pe_op op_sub (pe_callB call_abs rfl T.f_abs (by decide +kernel) (pa_cons (pv 5) pa_nil)) (pe_op op_pow pe_int pe_int)) pa_nil)) (pv 1))))) pss_nil)
        (pss_cons (ps_set (i := 6) sc_law_draw.nd rfl (Or.inl rfl) (pe_op op_add (pe_op op_mulW (pe_op op_mod (pe_callTy call_int1 rfl T.f_int (by decide +kernel) (pa_cons (pv 5) pa_nil)) pe_int) pe_int) (pe_op op_mulW (pe_op op_mulW pe_int (pv 3)) (pv 3))))
        (pss_cons (ps_set (i := 6) sc_law_draw.nd rfl (Or.inl rfl) (pe_op op_mod (pe_callTy call_int1 rfl T.f_int (by decide +kernel) (pa_cons (pe_op op_add (pe_op op_add (pv 6) (pe_op op_mulW pe_int (pv 3))) pe_int) pa_nil)) pe_int))
        (pss_cons (ps_set (i := 6) sc_law_draw.nd rfl (Or.inl rfl) (pe_op op_mod (pe_callTy call_int1 rfl T.f_int (by decide +kernel) (pa_cons (pe_op op_add (pe_op op_add (pe_op op_add (pe_op op_mulW (pv 6) (pv 6)) (pe_op op_mulW pe_int (pv 6))) (pe_op op_mulW pe_int (pv 3))) pe_int) pa_nil)) pe_int))
        (pss_one (ps_ret (pe_op op_modN (pe_callTy call_int1 rfl T.f_int (by decide +kernel) (pa_cons (pe_op op_fdiv (pe_op op_mod (pe_callTy call_int1 rfl T.f_int (by decide +kernel) (pa_cons (pe_op op_mulW (pv 6) (pe_op op_add (pv 6) pe_int)) pa_nil)) pe_int) pe_int) pa_nil)) (pv 1))))))))))))), ?_⟩
    -- if pen["left"] > 0
    have gL := pen_left c i l ▸ DGet.k (k := .inr "left") S.pen
    have gN := pen_next c i l ▸ DGet.k (k := .inr "next") S.pen
    have gC := pen_cells c i l ▸ DGet.k (k := .inr "cells") S.pen
    have z3 : (penL c i l).length < sizeLine := (by decide : 3 < sizeLine)
    have kR : ∀ (a i' l' : Int) (H' : Hp), 0 ≤ i' → i' ≤ i + 1 → 0 ≤ l' → H' = penTo H p c i' l' → Q (.int (a.fmod m)) H' := fun a i' l' H' h1 h2 h3 e => by
      rw [e]
      exact k _ _ _ (fmod_at hm).1 (fmod_at hm).2 h1 h2 h3
    have dv : ∀ x : Int, 0 ≤ x → 0 ≤ x / m := fun x hx => Int.ediv_nonneg hx (by omega)
    have cdv : ∀ x : Int, CDivW x m := fun x => wide_div (by omega) hmw (by decide) (by decide)
    refine ⟨_, rfl, p, _, rfl, gL, _, _, rfl, rfl, _, rfl, ?_⟩
    refine ite2 (fun hd => ?_) (fun hd => ?_)
    · have hl : 0 < l := of_decide_eq_true hd
      -- digit = int(pen["left"]) % many; pen["left"] = pen["left"] // many; return digit
      refine ⟨_, rfl, p, _, rfl, gL, .inl ⟨_, rfl, ?_⟩⟩
      refine ⟨_, rfl, _, _, rfl, rfl, (by omega), ?_⟩
      refine ⟨_, rfl, p, _, rfl, gL, _, rfl, _, _, rfl, rfl, cdv _, ?_⟩
      refine ⟨_, rfl, p, _, rfl, DPut.k (k := .inr "left") S.pen z3, _, rfl, ?_⟩
      exact kR _ i (l / m) _ i0 (by omega) (dv _ l0) (by rw [put_left]; rfl)
    · -- index, size = pen["next"], len(pen["cells"]); pen["next"] = index + 1
      have S1 : PenAt (penTo H p c (i + 1) l) p c ns (i + 1) l := S.to (by omega) l0 (by omega)
      have gC1 := pen_cells c (i + 1) l ▸ DGet.k (k := .inr "cells") S1.pen
      refine ⟨_, rfl, p, _, rfl, gN, _, rfl, p, _, rfl, gC, _, _, rfl, .inl (SqL.of S.cells), _, _, rfl, ?_⟩
      refine ⟨_, rfl, _, _, rfl, rfl, _, rfl, p, _, rfl, DPut.k (k := .inr "next") S.pen z3, ?_⟩
      rw [put_next]
      show tSeq _ _ _ _ (penTo H p c (i + 1) l)
      have w64 : ∀ {x n : Int}, 0 ≤ x → x ≤ n → n.toNat < 2 ^ 64 → x.natAbs < 2 ^ 64 := fun h0 h1 h2 => small64 h0 h1 h2
      have wi : i.natAbs < 2 ^ 64 := w64 i0 (n := 100000) (by omega) (by decide)
      have wc : ∀ {x y : Int}, x.natAbs < 2 ^ 64 → y.natAbs < 2 ^ 128 → CMulW x y := fun a b => wide_mul a b (by decide) (by decide) (by decide)
      -- if size == 0: return int(7 * index + 3) % many
      refine ⟨_, rfl, rfl, _, rfl, ?_⟩
      refine ite2 (fun he => ?_) (fun he => ?_)
      · refine ⟨_, rfl, _, _, rfl, rfl, wc (by decide) (by omega), _, _, rfl, rfl, .inl ⟨_, rfl, _, rfl, _, _, rfl, rfl, (by omega), ?_⟩⟩
        exact kR _ (i + 1) l _ (by omega) (by omega) l0 rfl
      · have hne : ns.length ≠ 0 := fun z => he (by
          have e : (ns.map V.int).length = 0 := by rw [List.length_map]; exact z
          rw [e]
          exact decide_eq_true rfl)
        have hlen : ((ns.map V.int).length : Int) = ns.length := by rw [List.length_map]
        rw [hlen]
        -- cell = pen["cells"][int(index) % size]
        have hj := fmod_at (a := i) (m := (ns.length : Int)) (by omega)
        obtain ⟨j, hj2⟩ : ∃ j : Nat, i.fmod (ns.length : Int) = j := ⟨(i.fmod (ns.length : Int)).toNat, by omega⟩
        have hjl : j < ns.length := by omega
        have ha : atI (ns.map V.int) (i.fmod (ns.length : Int)) = some (V.int ns[j]) := by
          rw [hj2]
          exact atI_nat (by simp [hjl])
        generalize ns[j] = x at ha
        refine ⟨_, rfl, p, _, rfl, gC1, _, rfl, .inl ⟨_, rfl, _, rfl, _, _, rfl, rfl, (by omega), c, _, _, _, rfl, rfl, SqL.of S1.cells, ha, ?_⟩⟩
        -- if index < size and abs(cell) >= 10 ** 18
        have ten : (0 : Int) ≤ 18 ∧ (18 : Int) ≤ 1000000 ∧ (10 : Int).natAbs < 2 ^ 64 := by decide
        refine ⟨_, rfl, _, rfl, _, _, rfl, rfl, _, rfl, ?_⟩
        refine use_tail (fun hB => pick2 hB fun c1 => ?_) ?tail
        · refine ⟨_, rfl, _, rfl, _, _, rfl, rfl, ten, _, _, rfl, rfl, _, rfl, ?_⟩
          refine ite2 (fun c2 => ?_) (fun _ => hB)
          have c3 := of_decide_eq_true c2
          -- pen["left"] = (abs(cell) - 10 ** 18) // many; return int(abs(cell) - 10 ** 18) % many
          refine ⟨_, rfl, _, rfl, _, _, rfl, rfl, ten, _, _, rfl, rfl, _, rfl, _, _, rfl, rfl, cdv _, ?_⟩
          refine ⟨_, rfl, p, _, rfl, DPut.k (k := .inr "left") S1.pen z3, ?_⟩
          refine ⟨_, rfl, _, rfl, _, _, rfl, rfl, ten, _, _, rfl, rfl, .inl ⟨_, rfl, _, rfl, _, _, rfl, rfl, (by omega), ?_⟩⟩
          rw [put_left]
          exact kR _ (i + 1) _ _ (by omega) (by omega) (dv _ (Int.sub_nonneg_of_le c3)) (by rw [penTo, upd_upd]; rfl)
        · -- mixed = ..
          refine ⟨_, rfl, .inl ⟨_, rfl, _, _, rfl, rfl, (by show (0 : Int) < 4294967197; decide), ?_⟩⟩
          refine ⟨_, _, rfl, rfl, wc (by omega) (by decide), _, rfl, _, _, rfl, rfl, wc (by decide) (by omega), _, rfl, _, _, rfl, rfl, wide_mul (wide_lt (a := 64) (b := 64) (by decide) wi) wi (by decide) (by decide) (by decide), _, _, rfl, rfl, ?_⟩
          refine ⟨_, rfl, _, rfl, _, _, rfl, rfl, wc (by decide) (by omega), _, _, rfl, rfl, _, _, rfl, rfl, .inl ⟨_, rfl, _, _, rfl, rfl, (by show (0 : Int) < 4294967189; decide), ?_⟩⟩
          have q2 := mod_word (a := x % 4294967197 * 52711 + 20353 * i * i + 1531 * i + 11) (b := 4294967189) (by decide) (by decide)
          show tSeq _ _ _ [some (V.ref p), some (V.int m), none, some (V.int i), some (V.int ns.length), some (V.int x), some (V.int ((x % 4294967197 * 52711 + 20353 * i * i + 1531 * i + 11) % 4294967189))] _
          obtain ⟨y2, e2, b3, b4⟩ := q2
          rw [e2]
          refine ⟨_, rfl, _, rfl, _, _, rfl, rfl, wc (by omega) (by omega), _, rfl, _, _, rfl, rfl, wc (by decide) (by omega), _, _, rfl, rfl, _, rfl, _, _, rfl, rfl, wc (by decide) (by omega), _, _, rfl, rfl, _, _, rfl, rfl, .inl ⟨_, rfl, _, _, rfl, rfl, (by show (0 : Int) < 4294967161; decide), ?_⟩⟩
          refine ⟨_, rfl, _, rfl, _, _, rfl, rfl, _, _, rfl, rfl, wc (by omega) (by omega), .inl ⟨_, rfl, _, _, rfl, rfl, (by show (0 : Int) < 4294967143; decide), _, _, rfl, rfl, (by constructor <;> decide), .inl ⟨_, rfl, _, rfl, _, _, rfl, rfl, (by omega), ?_⟩⟩⟩
          exact kR _ (i + 1) l _ (by omega) (by omega) l0 rfl
/-- one of some things: items at a -/
def spPick (K : PySem.W.Frag) : Sp := fun vs H Q _ => ∃ (p c a : Addr) (ns : List Int) (i l : Int) (items : List V), vs = [.ref p, .ref a] ∧ PenAt H p c ns i l ∧ i < 100000 ∧ H a = some (.lst items) ∧ items ≠ [] ∧ items.length ≤ 100000 ∧
  ∀ (v : V) (i' l' : Int), v ∈ items → 0 ≤ i' → i' ≤ i + 1 → 0 ≤ l' → Q v (penTo H p c i' l')
theorem ok_pick {f fD : Addr} {fd fdD : FuncData} (F : Fun K "_law_pick" "_law_pick" s_law_pick f fd) (T : TxtA mg) (G__law_draw : FnOk P w K mg base CX0 1 fD fdD ["_law_pen", "_law_many"] spDraw) (g__law_draw : mg "_law_draw" = some (.ref fD))
    (kp__law_draw : PySem.W.keepIn K (.ref fD) = true) (b__law_draw : Binds K fdD ["_law_pen", "_law_many"] []) : FnOk P w K mg base CX0 2 f fd ["_law_pen", "_law_items"] (spPick K) := by
  refine F.ok sc_law_pick (fun vs H Q E h => ?_) (fun cdv A outer s H vs Q E hr h => ?_)
  · obtain ⟨p, c, a, ns, i, l, items, rfl, _⟩ := h
    rfl
  · obtain ⟨p, c, a, ns, i, l, items, rfl, S, hi, ha, hne, hlen, k⟩ := h
    have hu := hu_of hr
    refine ⟨_, (pss_one (ps_ret (pe_ix ix_list (pv 1) (pe_call G__law_draw (hr.mono (by decide)) rfl g__law_draw kp__law_draw b__law_draw .nil pass0 (pa_cons (pv 0) (pa_cons (pe_callB call_len_seq rfl T.f_len PySem.boot_len (pa_cons (pv 1) pa_nil)) pa_nil))) (fun _ _ => rfl)))), ?_⟩
    have hpos : 0 < items.length := List.length_pos_iff.mpr hne
    refine ⟨_, rfl, _, rfl, _, rfl, _, _, rfl, .inl (SqL.of ha), p, c, ns, i, l, _, rfl, S, hi, by omega, by omega, fun d i' l' d0 d1 h0 h1 h2 => ?_⟩
    obtain ⟨j, rfl⟩ : ∃ j : Nat, d = j := ⟨d.toNat, by omega⟩
    have hj : j < items.length := by omega
    have hap : a ≠ p := ne_of ha S.pen (by intro z; cases z)
    refine ⟨a, items, _, items[j], rfl, rfl, SqL.of (by rw [penTo, upd_ne hap]; exact ha), atI_nat (by simp [hj]), ?_⟩
    exact k _ i' l' (List.getElem_mem hj) h0 h1 h2
end
end Wk

namespace NumI
/-- while rest != 0 (of inverse): N modulo M -/
structure EInv (N M last rest lf f : Int) : Prop where
  hl : 1 ≤ last
  hr : 0 ≤ rest
  gcd : Int.gcd last rest = Int.gcd N M
  cl : ∃ k, lf * N = last + M * k
  cf : ∃ k, f * N = rest + M * k
  sg : (0 ≤ lf ∧ f ≤ 0) ∨ (lf ≤ 0 ∧ 0 ≤ f)
  sz : (lf.natAbs : Int) * rest + (f.natAbs : Int) * last = M
theorem EInv.start {N M : Int} (h : 2 ≤ M) : EInv N M M (N % M) 0 1 := by
  refine ⟨by omega, Int.emod_nonneg _ (by omega), ?_, ⟨-1, by grind⟩, ⟨N / M, ?_⟩, .inr ⟨by omega, by omega⟩, by simp⟩
  · have e : N % M = N - (N / M) * M := by
      have := Int.emod_add_ediv_mul N M
      omega
    rw [e, Int.gcd_sub_mul_right_right, Int.gcd_comm]
  · have := Int.emod_add_mul_ediv N M
    omega
theorem EInv.f_le {N M last rest lf f : Int} (h : EInv N M last rest lf f) : (f.natAbs : Int) ≤ M ∧ last ≤ M ∨ f = 0 := by
  have h1 : 0 ≤ (lf.natAbs : Int) * rest := Int.mul_nonneg (by omega) h.hr
  have h2 := h.sz
  have h3 := h.hl
  by_cases e : f = 0
  · exact .inr e
  · refine .inl ⟨?_, ?_⟩
    · have : (f.natAbs : Int) * 1 ≤ (f.natAbs : Int) * last := Int.mul_le_mul_of_nonneg_left h3 (by omega)
      omega
    · have : 1 * last ≤ (f.natAbs : Int) * last := Int.mul_le_mul_of_nonneg_right (by omega) (by omega)
      omega
/-- the step of times -/
theorem EInv.step {N M last rest lf f : Int} (h : EInv N M last rest lf f) (h0 : rest ≠ 0) :
    EInv N M rest (last - last / rest * rest) f (lf - last / rest * f) ∧ last - last / rest * rest < rest ∧ 0 ≤ last - last / rest * rest ∧ 0 ≤ last / rest ∧ last / rest ≤ last := by
  have hr := h.hr
  have hl := h.hl
  have ht : 0 ≤ last / rest := Int.ediv_nonneg (by omega) hr
  have e : last - last / rest * rest = last % rest := by
    have := Int.emod_add_ediv_mul last rest
    omega
  have hlt : last % rest < rest := Int.emod_lt_of_pos _ (by omega)
  have hge : 0 ≤ last % rest := Int.emod_nonneg _ (by omega)
  have htl : last / rest ≤ last := Int.ediv_le_self _ (by omega)
  have hsz := h.sz
  obtain ⟨k1, c1⟩ := h.cl
  obtain ⟨k2, c2⟩ := h.cf
  have hsg := h.sg
  have hg := h.gcd
  have e2 := e
  generalize last / rest = t at *
  have key : ((lf - t * f).natAbs : Int) = lf.natAbs + t * f.natAbs := by
    rcases hsg with ⟨a, b⟩ | ⟨a, b⟩
    · have : t * f ≤ 0 := Int.mul_nonpos_of_nonneg_of_nonpos ht b
      have e1 : ((lf - t * f).natAbs : Int) = lf - t * f := by omega
      have e2 : (lf.natAbs : Int) = lf := by omega
      have e3 : (f.natAbs : Int) = - f := by omega
      rw [e1, e2, e3]; grind
    · have : 0 ≤ t * f := Int.mul_nonneg ht b
      have e1 : ((lf - t * f).natAbs : Int) = - (lf - t * f) := by omega
      have e2 : (lf.natAbs : Int) = - lf := by omega
      have e3 : (f.natAbs : Int) = f := by omega
      rw [e1, e2, e3]; grind
  refine ⟨⟨by omega, by omega, ?_, ⟨k2, c2⟩, ⟨k1 - t * k2, by grind⟩, ?_, ?_⟩, by omega, by omega, ht, htl⟩
  · rw [Int.gcd_sub_mul_right_right, Int.gcd_comm, hg]
  · rcases hsg with ⟨a, b⟩ | ⟨a, b⟩
    · have : t * f ≤ 0 := Int.mul_nonpos_of_nonneg_of_nonpos ht b
      exact .inr ⟨b, by omega⟩
    · have : 0 ≤ t * f := Int.mul_nonneg ht b
      exact .inl ⟨b, by omega⟩
  · rw [key]; grind
/-- what is handed back -/
structure InvOf (N M x : Int) : Prop where
  lo : 1 ≤ x
  hi : x < M
  one : x * N % M = 1
theorem EInv.done1 {N M last lf f : Int} (hM : 2 ≤ M) (h : EInv N M last 0 lf f) (h1 : last = 1) : Int.gcd N M = 1 ∧ InvOf N M (lf % M) := by
  have hg := h.gcd
  subst h1
  obtain ⟨k, c⟩ := h.cl
  have ho : lf % M * N % M = 1 := by
    have e : lf % M = lf - M * (lf / M) := by
      have := Int.emod_add_mul_ediv lf M
      omega
    have e2 : lf % M * N = 1 + M * (k - lf / M * N) := by rw [e]; grind
    rw [e2, Int.add_mul_emod_self_left]
    exact Int.emod_eq_of_lt (by omega) (by omega)
  refine ⟨by rw [← hg]; simp, ?_, Int.emod_lt_of_pos _ (by omega), ho⟩
  have h0 := Int.emod_nonneg lf (show M ≠ 0 by omega)
  by_cases z : lf % M = 0
  · rw [z] at ho
    simp at ho
  · omega
theorem EInv.done2 {N M last lf f : Int} (h : EInv N M last 0 lf f) (h1 : last ≠ 1) : Int.gcd N M ≠ 1 := by
  have hg := h.gcd
  have := h.hl
  rw [← hg]
  simp
  omega
end NumI

namespace Wk
open PySem L2 NumI
abbrev s_inverse : Stmt := top 11
theorem sc_inverse : FnScope ["number", "modulus", "last", "rest", "last_factor", "factor", "times"] ["number", "modulus"] (defScope s_inverse) := ⟨rfl, rfl, rfl, by decide +kernel, rfl, by decide +kernel, by decide +kernel⟩
abbrev s_law_common : Stmt := top 23
theorem sc_law_common : FnScope ["_law_one", "_law_other"] ["_law_one", "_law_other"] (defScope s_law_common) := ⟨rfl, rfl, rfl, by decide +kernel, rfl, by decide +kernel, by decide +kernel⟩

def mu3 (σ : St) : Nat := match σ[3]? with
  | some (some (V.int y)) => y.toNat
  | _ => 0
def mu1 (σ : St) : Nat := match σ[1]? with
  | some (some (V.int y)) => y.toNat
  | _ => 0
def Sz (x : Int) : Prop := x.natAbs < 2 ^ 200
def wInv (n m : Int) (H : Hp) (Q : VK) : Prop := (Int.gcd n m ≠ 1 → ∀ H', Same H H' → Q .non H') ∧ (∀ x H', Int.gcd n m = 1 → InvOf n m x → Same H H' → Q (.int x) H')
def spInv : Sp := fun vs H Q _ => ∃ n m : Int, vs = [.int n, .int m] ∧ 2 ≤ m ∧ Sz n ∧ Sz m ∧ wInv n m H Q
def spGcd : Sp := fun vs H Q _ => ∃ a b : Int, vs = [.int a, .int b] ∧ Q (.int (Int.gcd a b : Int)) H
theorem gcd_turn {x y : Int} (hx : 0 ≤ x) (hy : 0 < y) : Int.gcd y (x % y) = Int.gcd x y := by
  have e : x % y = x - (x / y) * y := by
    have := Int.emod_add_ediv_mul x y
    omega
  rw [e, Int.gcd_sub_mul_right_right, Int.gcd_comm]
section
variable {P : Program} {w : World} {K : PySem.W.Frag} {mg : Str → Option Value} {base : Heap}
theorem ok_inv {f : Addr} {fd : FuncData} (F : Fun K "inverse" "inverse" s_inverse f fd) : FnOk P w K mg base CX0 1 f fd ["number", "modulus"] spInv := by
  refine F.ok sc_inverse (fun vs H Q E h => ?_) (fun cdv A outer s H vs Q E hr h => ?_)
  · obtain ⟨n, m, rfl, _⟩ := h
    rfl
  · obtain ⟨n, m, rfl, hm, zn, zm, kN, kI⟩ := h
    refine ⟨_, (pss_cons (ps_par (i := 2) (j := 3) rfl sc_inverse.nd rfl rfl (by decide) rfl rfl (pa_cons (pv 1) (pa_cons (pe_op op_modN (pv 0) (pv 1)) pa_nil)) (by rfl))
        (pss_cons (ps_asg (pe_tup (pa_cons pe_int (pa_cons pe_int pa_nil))) (pg_tup rfl (pgs_cons (pg_name (i := 4) sc_inverse.nd rfl (Or.inl rfl)) (pgs_cons (pg_name (i := 5) sc_inverse.nd rfl (Or.inl rfl)) pgs_nil))))
        (pss_cons (ps_while PassesOwn.never (pt_cmpR op_ne (pv 3) pe_int (nomark _)) (pss_cons (ps_set (i := 6) sc_inverse.nd rfl (Or.inl rfl) (pe_op op_fdivW (pv 2) (pv 3)))
        (pss_cons (ps_par (i := 2) (j := 3) rfl sc_inverse.nd rfl rfl (by decide) rfl rfl (pa_cons (pv 3) (pa_cons (pe_op op_sub (pv 2) (pe_op op_mulW (pv 6) (pv 3))) pa_nil)) (by rfl))
        (pss_one (ps_par (i := 4) (j := 5) rfl sc_inverse.nd rfl rfl (by decide) rfl rfl (pa_cons (pv 5) (pa_cons (pe_op op_sub (pv 4) (pe_op op_mulW (pv 6) (pv 5))) pa_nil)) (by rfl))))))
        (pss_cons (ps_if (pt_cmpR op_ne (pv 2) pe_int (nomark _)) (pss_one (ps_ret pe_non)) pss_nil)
        (pss_one (ps_ret (pe_op op_modN (pv 4) (pv 1)))))))), ?_⟩
    have sm : ∀ {x : Int}, (x.natAbs : Int) ≤ m → x.natAbs < 2 ^ 200 := fun h => by
      have : m.natAbs < 2 ^ 200 := zm
      omega
    have wm : ∀ {x y : Int}, (x.natAbs : Int) ≤ m → (y.natAbs : Int) ≤ m → CMulW x y := fun a b => wide_mul (sm a) (sm b) (by decide) (by decide) (by decide)
    have e0 : n.fmod m = n % m := Int.fmod_eq_emod_of_nonneg _ (by omega)
    have h0 := Int.emod_nonneg n (show m ≠ 0 by omega)
    have h1 := Int.emod_lt_of_pos n (show 0 < m by omega)
    refine ⟨_, rfl, _, rfl, _, rfl, _, _, rfl, rfl, (by omega), _, _, rfl, (by show 2 ≤ sizeLine; decide), fun t ht => ⟨t, _, rfl, SqT.of upd_same, rfl, _, _, rfl, _, _, rfl, rfl, ?_⟩⟩
    have sH : Same H (upd H t (.tup [.int 0, .int 1])) := fun b u e => by rw [upd_ne (ne_of_none e ht)]; exact e
    obtain ⟨G, hG⟩ : ∃ G, G = upd H t (.tup [.int 0, .int 1]) := ⟨_, rfl⟩
    rw [← hG] at sH ⊢
    refine while_by (fun σ H' => ∃ (l r lf f : Int) (t : Option V), σ = [some (.int n), some (.int m), some (.int l), some (.int r), some (.int lf), some (.int f), t] ∧ H' = G ∧ EInv n m l r lf f ∧ l ≤ m ∧ r ≤ m ∧ (lf.natAbs : Int) ≤ m ∧ (f.natAbs : Int) ≤ m)
      (fun σ _ => mu3 σ) ?_ ?_ (fun σ H Q Q' hq ⟨v, hv, sc, k, e, q⟩ => ⟨v, hv, sc, k, e, hq _ _ q⟩)
    · refine ⟨m, n.fmod m, 0, 1, none, rfl, rfl, by rw [e0]; exact EInv.start hm, by omega, by omega, by show ((0 : Int).natAbs : Int) ≤ m; simp; omega, by show ((1 : Int).natAbs : Int) ≤ m; simp; omega⟩
    · rintro σ H' ⟨l, r, lf, f, t2, rfl, rfl, I, b1, b2, b3, b4⟩
      have hl := I.hl
      have hr0 := I.hr
      refine ⟨_, rfl, rfl, _, rfl, ?_⟩
      by_cases hz : r = 0
      · subst hz
        refine iteNS rfl ?_
        refine ⟨_, rfl, rfl, _, rfl, ?_⟩
        by_cases h1 : l = 1
        · subst h1
          refine iteNS rfl ?_
          have z := I.done1 hm rfl
          have e2 : lf.fmod m = lf % m := Int.fmod_eq_emod_of_nonneg _ (by omega)
          refine ⟨_, rfl, _, rfl, _, _, rfl, rfl, (by omega), ?_⟩
          show Q (.int (lf.fmod m)) H'
          rw [e2]
          exact kI _ _ z.1 z.2 sH
        · have e3 : (!decide (V.int l = V.int 1)) = true := by
            have : ¬ V.int l = V.int 1 := fun z => h1 (by injection z)
            simp [this]
          rw [e3]
          exact iteT (kN (I.done2 h1) _ sH)
      · have e3 : (!decide (V.int r = V.int 0)) = true := by
          have : ¬ V.int r = V.int 0 := fun z => hz (by injection z)
          simp [this]
        rw [e3]
        refine iteT ?_
        obtain ⟨I2, c1, c2, c3, c4⟩ := I.step hz
        have g1 : (r.natAbs : Int) ≤ m := by omega
        have g2 : ((l / r).natAbs : Int) ≤ m := by omega
        have g3 := I2.f_le
        have g4 : ((lf - l / r * f).natAbs : Int) ≤ m := by
          rcases g3 with g3 | g3
          · exact g3.1
          · rw [g3]
            simp
            omega
        refine ⟨_, rfl, _, rfl, _, _, rfl, rfl, wide_div (b := 200) (by omega) (sm g1) (by decide) (by decide), ?_⟩
        refine ⟨_, rfl, _, rfl, _, rfl, _, rfl, _, _, rfl, rfl, wm g2 g1, _, _, rfl, rfl, _, _, rfl, ?_⟩
        refine ⟨_, rfl, _, rfl, _, rfl, _, rfl, _, _, rfl, rfl, wm g2 b4, _, _, rfl, rfl, _, _, rfl, ?_⟩
        refine ⟨⟨r, l - l / r * r, f, lf - l / r * f, _, rfl, rfl, I2, b2, by omega, b4, g4⟩, ?_⟩
        show (l - l / r * r).toNat < r.toNat
        omega
theorem ok_gcd {f : Addr} {fd : FuncData} (F : Fun K "_law_common" "_law_common" s_law_common f fd) (T : TxtA mg) : FnOk P w K mg base CX0 1 f fd ["_law_one", "_law_other"] spGcd := by
  refine F.ok sc_law_common (fun vs H Q E h => ?_) (fun cdv A outer s H vs Q E hr h => ?_)
  · obtain ⟨a, b, rfl, _⟩ := h
    rfl
  · obtain ⟨a, b, rfl, k⟩ := h
    refine ⟨_, (pss_cons (ps_par (i := 0) (j := 1) rfl sc_law_common.nd rfl rfl (by decide) rfl rfl (pa_cons (pe_callB call_abs rfl T.f_abs (by decide +kernel) (pa_cons (pv 0) pa_nil)) (pa_cons (pe_callB call_abs rfl T.f_abs (by decide +kernel) (pa_cons (pv 1) pa_nil)) pa_nil)) (by rfl))
        (pss_cons (ps_while PassesOwn.never (pt_cmpR op_gt (pv 1) pe_int (nomark _)) (pss_one (ps_par (i := 0) (j := 1) rfl sc_law_common.nd rfl rfl (by decide) rfl rfl (pa_cons (pv 1) (pa_cons (pe_op op_modN (pe_callTy call_int1 rfl T.f_int (by decide +kernel) (pa_cons (pv 0) pa_nil)) (pv 1)) pa_nil)) (by rfl))))
        (pss_one (ps_ret (pv 0))))), ?_⟩
    refine ⟨_, rfl, _, rfl, _, rfl, _, rfl, _, _, rfl, ?_⟩
    refine while_by (fun σ H' => ∃ x y : Int, σ = [some (.int x), some (.int y)] ∧ H' = H ∧ 0 ≤ x ∧ 0 ≤ y ∧ Int.gcd x y = Int.gcd a b)
      (fun σ _ => mu1 σ) ?_ ?_ (fun σ H Q Q' hq ⟨v, hv, i, j, e1, e2, k, e3, q⟩ => ⟨v, hv, i, j, e1, e2, k, e3, hq _ _ q⟩)
    · refine ⟨(a.natAbs : Int), (b.natAbs : Int), ?_, rfl, by omega, by omega, ?_⟩
      · have e1 : ∀ z : Int, (if z < 0 then -z else z) = (z.natAbs : Int) := fun z => by split <;> omega
        rw [← e1 a, ← e1 b]
        rfl
      · show Nat.gcd _ _ = Nat.gcd _ _
        rw [Int.natAbs_natCast, Int.natAbs_natCast]
    · rintro σ H' ⟨x, y, rfl, rfl, hx, hy, hg⟩
      refine ⟨_, rfl, _, _, rfl, rfl, _, rfl, ?_⟩
      refine ite2 (fun hd => ?_) (fun hd => ?_)
      · have hy0 : 0 < y := of_decide_eq_true hd
        have he : x.fmod y = x % y := Int.fmod_eq_emod_of_nonneg _ (by omega)
        refine ⟨_, rfl, _, rfl, .inl ⟨_, rfl, _, rfl, _, _, rfl, rfl, (by omega), _, _, rfl, ⟨y, x.fmod y, rfl, rfl, hy, by rw [he]; exact Int.emod_nonneg _ (by omega), ?_⟩, ?_⟩⟩
        · rw [he, gcd_turn hx hy0, hg]
        · show (x.fmod y).toNat < y.toNat
          rw [he]
          have := Int.emod_lt_of_pos x hy0
          have := Int.emod_nonneg x (show y ≠ 0 by omega)
          omega
      · have hy0 : y = 0 := by
          have : ¬ 0 < y := fun z => hd (decide_eq_true z)
          omega
        subst hy0
        have hxg : x = (Int.gcd a b : Int) := by
          rw [← hg]
          simp
          omega
        rw [hxg]
        exact ⟨_, rfl, k⟩
end
end Wk

namespace NumP
def IsP (p : Nat) : Prop := 2 ≤ p ∧ ∀ d, 2 ≤ d → d ∣ p → d = p
def Least (p n : Nat) : Prop := 2 ≤ p ∧ p ∣ n ∧ ∀ d, 2 ≤ d → d ∣ n → p ≤ d
def NoDiv (n k : Nat) : Prop := ∀ d, 2 ≤ d → d < k → ¬ d ∣ n
theorem Least.isP {p n : Nat} (h : Least p n) : IsP p := by
  refine ⟨h.1, fun d hd hdp => ?_⟩
  have h1 := h.2.2 d hd (Nat.dvd_trans hdp h.2.1)
  have h2 := Nat.le_of_dvd (by have := h.1; omega) hdp
  omega
theorem NoDiv.two {n : Nat} : NoDiv n 2 := fun d h1 h2 => by omega
theorem NoDiv.step {n k : Nat} (h : NoDiv n k) (hk : ¬ k ∣ n) : NoDiv n (k + 1) := fun d h1 h2 => by
  by_cases e : d = k
  · rw [e]; exact hk
  · exact h d h1 (by omega)
theorem NoDiv.step2 {n k : Nat} (h2 : ¬ 2 ∣ n) (hk : k % 2 = 1) (h : NoDiv n k) (hd : ¬ k ∣ n) : NoDiv n (k + 2) := by
  refine (h.step hd).step fun z => h2 (Nat.dvd_trans ?_ z)
  exact Nat.dvd_of_mod_eq_zero (by omega)
theorem NoDiv.least {n k : Nat} (h : NoDiv n k) (h2 : 2 ≤ k) (hd : k ∣ n) : Least k n := ⟨h2, hd, fun d hd2 hdn => by
  by_cases e : d < k
  · exact absurd hdn (h d hd2 e)
  · omega⟩
theorem NoDiv.self {n k : Nat} (hn : 2 ≤ n) (h : NoDiv n k) (hk : n < k * k) : Least n n := ⟨hn, Nat.dvd_refl n, fun d hd hdn => by
  obtain ⟨e, he⟩ := hdn
  by_cases hlt : n ≤ d
  · exact hlt
  · exfalso
    have he2 : 2 ≤ e := by
      rcases e with _ | _ | e
      · simp at he; omega
      · simp at he; omega
      · omega
    have hdk : k ≤ d := by
      by_cases z : d < k
      · exact absurd ⟨e, he⟩ (h d hd z)
      · omega
    have hek : k ≤ e := by
      by_cases z : e < k
      · exact absurd ⟨d, by rw [he, Nat.mul_comm]⟩ (h e he2 z)
      · omega
    have := Nat.mul_le_mul hdk hek
    omega⟩
theorem least_ex (n : Nat) (hn : 2 ≤ n) : ∃ p, Least p n := by
  have key : ∀ j k, k + j = n → 2 ≤ k → NoDiv n k → ∃ p, Least p n := by
    intro j
    induction j with
    | zero => intro k e h2 h; exact ⟨n, by have e' : k = n := by omega
                                           subst e'; exact h.least h2 (Nat.dvd_refl _)⟩
    | succ j ih =>
      intro k e h2 h
      by_cases hd : k ∣ n
      · exact ⟨k, h.least h2 hd⟩
      · exact ih (k + 1) (by omega) (by omega) (h.step hd)
  exact key (n - 2) 2 (by omega) (Nat.le_refl _) .two
theorem prime_ex (n : Nat) (hn : 2 ≤ n) : ∃ p, IsP p ∧ p ∣ n := by
  obtain ⟨p, h⟩ := least_ex n hn
  exact ⟨p, h.isP, h.2.1⟩
theorem IsP.coprime {p q : Nat} (hp : IsP p) (hq : IsP q) (h : p ≠ q) : Nat.Coprime p q := by
  have h1 := Nat.gcd_dvd_left p q
  have h2 := Nat.gcd_dvd_right p q
  by_cases z : 2 ≤ Nat.gcd p q
  · have e1 := hp.2 _ z h1
    have e2 := hq.2 _ z h2
    omega
  · have h3 : 0 < Nat.gcd p q := Nat.gcd_pos_of_pos_left _ (by have := hp.1; omega)
    show Nat.gcd p q = 1
    omega
theorem IsP.dvd_mul {q a b : Nat} (hq : IsP q) (h : q ∣ a * b) : q ∣ a ∨ q ∣ b := by
  by_cases z : 2 ≤ Nat.gcd q a
  · have e := hq.2 _ z (Nat.gcd_dvd_left q a)
    exact .inl (by have := Nat.gcd_dvd_right q a; rwa [e] at this)
  · have h3 : 0 < Nat.gcd q a := Nat.gcd_pos_of_pos_left _ (by have := hq.1; omega)
    have c : Nat.Coprime q a := by show Nat.gcd q a = 1; omega
    exact .inr (Nat.Coprime.dvd_of_dvd_mul_left c h)
theorem IsP.dvd_prime {p q : Nat} (hq : IsP q) (hp : IsP p) (h : q ∣ p) : q = p := hp.2 q hq.1 h
/-- the primes of n, ascending -/
structure PrimesOf (n : Nat) (fs : List Nat) : Prop where
  asc : fs.Pairwise (· < ·)
  mem : ∀ q, q ∈ fs ↔ IsP q ∧ q ∣ n
theorem asc_unique : ∀ {a b : List Nat}, a.Pairwise (· < ·) → b.Pairwise (· < ·) → (∀ q, q ∈ a ↔ q ∈ b) → a = b
  | [], [], _, _, _ => rfl
  | [], y :: b, _, _, h => by have := (h y).mpr (by simp); simp at this
  | x :: a, [], _, _, h => by have := (h x).mp (by simp); simp at this
  | x :: a, y :: b, ha, hb, h => by
    obtain ⟨ha1, ha2⟩ := List.pairwise_cons.mp ha
    obtain ⟨hb1, hb2⟩ := List.pairwise_cons.mp hb
    have hx := (h x).mp (by simp)
    have hy := (h y).mpr (by simp)
    have e : x = y := by
      rcases List.mem_cons.mp hx with e | m
      · exact e
      · rcases List.mem_cons.mp hy with e | m'
        · exact e.symm
        · have h1 := hb1 _ m
          have h2 := ha1 _ m'
          omega
    subst e
    congr 1
    refine asc_unique ha2 hb2 fun q => ⟨fun m => ?_, fun m => ?_⟩
    · have hq := ha1 _ m
      rcases List.mem_cons.mp ((h q).mp (List.mem_cons_of_mem _ m)) with e | m'
      · omega
      · exact m'
    · have hq := hb1 _ m
      rcases List.mem_cons.mp ((h q).mpr (List.mem_cons_of_mem _ m)) with e | m'
      · omega
      · exact m'
theorem PrimesOf.unique {n : Nat} {a b : List Nat} (ha : PrimesOf n a) (hb : PrimesOf n b) : a = b :=
  asc_unique ha.asc hb.asc fun q => (ha.mem q).trans (hb.mem q).symm
/-- while rest > 1 -/
structure PInv (n : Nat) (fs : List Nat) (r : Nat) : Prop where
  asc : fs.Pairwise (· < ·)
  pr : ∀ f ∈ fs, IsP f
  mem : ∀ q, IsP q → (q ∣ n ↔ q ∈ fs ∨ q ∣ r)
  lt : ∀ f ∈ fs, ∀ q, IsP q → q ∣ r → f < q
  pos : 1 ≤ r
theorem PInv.start {n : Nat} (hn : 1 ≤ n) : PInv n [] n := ⟨.nil, by simp, by simp, by simp, hn⟩
/-- while rest % prime == 0 -/
structure QInv (p r0 r : Nat) : Prop where
  pos : 1 ≤ r
  le : r ≤ r0
  same : ∀ q, IsP q → q ≠ p → (q ∣ r ↔ q ∣ r0)
  dv : r = r0 ∨ r < r0
theorem QInv.start {p r : Nat} (h : 1 ≤ r) : QInv p r r := ⟨h, Nat.le_refl _, fun _ _ _ => Iff.rfl, .inl rfl⟩
theorem QInv.step {p r0 r : Nat} (hp : IsP p) (h : QInv p r0 r) (hd : p ∣ r) : QInv p r0 (r / p) ∧ r / p < r := by
  obtain ⟨c, rfl⟩ := hd
  have h2 := hp.1
  have e : p * c / p = c := Nat.mul_div_cancel_left c (by omega)
  have hc : 1 ≤ c := by
    rcases c with _ | c
    · have := h.pos; simp at this
    · omega
  have hlt : c < p * c := by
    have := Nat.mul_le_mul_right c h2
    omega
  rw [e]
  refine ⟨⟨hc, by have := h.le; omega, fun q hq hne => ?_, .inr (by have := h.le; omega)⟩, hlt⟩
  rw [← h.same q hq hne]
  refine ⟨fun z => Nat.dvd_trans z (Nat.dvd_mul_left c p), fun z => ?_⟩
  rcases hq.dvd_mul z with z | z
  · exact absurd (hq.dvd_prime hp z) hne
  · exact z
theorem PInv.step {n : Nat} {fs : List Nat} {r0 r p : Nat} (h : PInv n fs r0) (hp : Least p r0) (q : QInv p r0 r) (hd : ¬ p ∣ r) : PInv n (fs ++ [p]) r ∧ r < r0 := by
  have hP := hp.isP
  have hlt : r < r0 := by
    rcases q.dv with e | e
    · rw [e] at hd; exact absurd hp.2.1 hd
    · exact e
  refine ⟨⟨?_, ?_, ?_, ?_, q.pos⟩, hlt⟩
  · rw [List.pairwise_append]
    refine ⟨h.asc, by simp, fun a ha b hb => ?_⟩
    have e : b = p := by simpa using hb
    rw [e]
    exact h.lt a ha p hP hp.2.1
  · intro f hf
    rcases List.mem_append.mp hf with m | m
    · exact h.pr f m
    · have e : f = p := by simpa using m
      rw [e]; exact hP
  · intro x hx
    rw [h.mem x hx, List.mem_append]
    by_cases e : x = p
    · subst e
      simp [hp.2.1]
    · rw [q.same x hx e]
      simp [e]
  · intro f hf x hx hxr
    have hne : x ≠ p := fun e => hd (e ▸ hxr)
    have hxr0 := (q.same x hx hne).mp hxr
    rcases List.mem_append.mp hf with m | m
    · exact h.lt f m x hx hxr0
    · have e : f = p := by simpa using m
      rw [e]
      have := hp.2.2 x hx.1 hxr0
      omega
theorem PInv.done {n : Nat} {fs : List Nat} {r : Nat} (h : PInv n fs r) (hr : r ≤ 1) : PrimesOf n fs := by
  refine ⟨h.asc, fun q => ⟨fun m => ⟨h.pr q m, (h.mem q (h.pr q m)).mpr (.inl m)⟩, fun ⟨hq, hd⟩ => ?_⟩⟩
  rcases (h.mem q hq).mp hd with m | m
  · exact m
  · have := Nat.le_of_dvd (by have := h.pos; omega) m
    have := hq.1
    omega
theorem PInv.len {n : Nat} {fs : List Nat} {r : Nat} (h : PInv n fs r) : ∀ f ∈ fs, 2 ≤ f := fun f m => (h.pr f m).1
/-- the law's own -/
structure SInv (n k : Nat) (fs : List Nat) : Prop where
  asc : fs.Pairwise (· < ·)
  mem : ∀ q, q ∈ fs ↔ IsP q ∧ q ∣ n ∧ q < k
theorem SInv.start {n : Nat} : SInv n 2 [] := ⟨.nil, fun q => by
  simp only [List.not_mem_nil, false_iff]
  rintro ⟨h, _, h2⟩
  have := h.1
  omega⟩
theorem SInv.yes {n k : Nat} {fs : List Nat} (h : SInv n k fs) (h2 : 2 ≤ k) (hd : k ∣ n) (hno : ∀ f ∈ fs, ¬ f ∣ k) : SInv n (k + 1) (fs ++ [k]) := by
  have hP : IsP k := by
    obtain ⟨p, hp, hpk⟩ := prime_ex k h2
    have hle := Nat.le_of_dvd (by omega) hpk
    by_cases e : p = k
    · rw [← e]; exact hp
    · have m := (h.mem p).mpr ⟨hp, Nat.dvd_trans hpk hd, by omega⟩
      exact absurd hpk (hno p m)
  refine ⟨?_, fun q => ?_⟩
  · rw [List.pairwise_append]
    refine ⟨h.asc, by simp, fun a ha b hb => ?_⟩
    have e : b = k := by simpa using hb
    rw [e]
    exact ((h.mem a).mp ha).2.2
  · rw [List.mem_append, h.mem q]
    simp only [List.mem_singleton]
    refine ⟨fun z => ?_, fun ⟨z1, z2, z3⟩ => ?_⟩
    · rcases z with ⟨z1, z2, z3⟩ | rfl
      · exact ⟨z1, z2, by omega⟩
      · exact ⟨hP, hd, by omega⟩
    · by_cases e : q = k
      · exact .inr e
      · exact .inl ⟨z1, z2, by omega⟩
theorem SInv.no {n k : Nat} {fs : List Nat} (h : SInv n k fs) (hno : ¬ k ∣ n ∨ ∃ f ∈ fs, f ∣ k) : SInv n (k + 1) fs := by
  refine ⟨h.asc, fun q => ?_⟩
  rw [h.mem q]
  refine ⟨fun ⟨z1, z2, z3⟩ => ⟨z1, z2, by omega⟩, fun ⟨z1, z2, z3⟩ => ⟨z1, z2, ?_⟩⟩
  by_cases e : q = k
  · exfalso
    subst e
    rcases hno with hno | ⟨f, m, hf⟩
    · exact hno z2
    · have hfm := (h.mem f).mp m
      have := z1.2 f hfm.1.1 hf
      omega
  · omega
theorem SInv.done {n : Nat} {fs : List Nat} (hn : 1 ≤ n) (h : SInv n (n + 1) fs) : PrimesOf n fs := ⟨h.asc, fun q => by
  rw [h.mem q]
  refine ⟨fun ⟨a, b, _⟩ => ⟨a, b⟩, fun ⟨a, b⟩ => ⟨a, b, ?_⟩⟩
  have := Nat.le_of_dvd (by omega) b
  omega⟩
theorem SInv.len {n k : Nat} {fs : List Nat} (h : SInv n k fs) : ∀ f ∈ fs, 2 ≤ f ∧ f < k := fun f m => ⟨((h.mem f).mp m).1.1, ((h.mem f).mp m).2.2⟩
/-- an ascending list below k is short -/
theorem asc_len : ∀ {l : List Nat} {a b : Nat}, l.Pairwise (· < ·) → (∀ f ∈ l, a ≤ f ∧ f < b) → l.length ≤ b - a
  | [], _, _, _, _ => Nat.zero_le _
  | x :: l, a, b, h, hb => by
    obtain ⟨h1, h2⟩ := List.pairwise_cons.mp h
    have hx := hb x (by simp)
    have ih := asc_len (l := l) (a := x + 1) (b := b) h2 fun f m => ⟨h1 f m, (hb f (by simp [m])).2⟩
    simp only [List.length_cons]
    omega
/-! ### known primes -/
def noDivB (n : Nat) : Nat → Bool
  | 0 => true
  | k + 1 => noDivB n k && (decide (k < 2) || n % k != 0)
theorem noDivB_ok {n : Nat} : ∀ {k : Nat}, noDivB n k = true → NoDiv n k
  | 0, _ => fun d _ h => by omega
  | k + 1, h => by
    simp only [noDivB, Bool.and_eq_true, Bool.or_eq_true, decide_eq_true_eq, bne_iff_ne] at h
    obtain ⟨h1, h2⟩ := h
    intro d hd hlt hdn
    by_cases e : d = k
    · subst e
      rcases h2 with h2 | h2
      · omega
      · exact h2 (Nat.mod_eq_zero_of_dvd hdn)
    · exact noDivB_ok h1 d hd (by omega) hdn
theorem isP_by {n : Nat} (k : Nat) (hn : 2 ≤ n) (h : noDivB n k = true) (hk : n < k * k) : IsP n := ((noDivB_ok h).self hn hk).isP
theorem p2 : IsP 2 := isP_by 2 (by decide) (by decide +kernel) (by decide)
theorem p3 : IsP 3 := isP_by 2 (by decide) (by decide +kernel) (by decide)
theorem p5 : IsP 5 := isP_by 3 (by decide) (by decide +kernel) (by decide)
theorem p7 : IsP 7 := isP_by 3 (by decide) (by decide +kernel) (by decide)
theorem p17 : IsP 17 := isP_by 5 (by decide) (by decide +kernel) (by decide)
theorem p101 : IsP 101 := isP_by 11 (by decide) (by decide +kernel) (by decide)
theorem p257 : IsP 257 := isP_by 17 (by decide) (by decide +kernel) (by decide)
theorem p65537 : IsP 65537 := isP_by 257 (by decide) (by decide +kernel) (by decide)
theorem p999983 : IsP 999983 := isP_by 1000 (by decide) (by decide +kernel) (by decide)
theorem p999979 : IsP 999979 := isP_by 1000 (by decide) (by decide +kernel) (by decide)
/-- a ^ i * b ^ j -/
theorem mem_of_prod {a b n : Nat} (ha : IsP a) (hb : IsP b) (h1 : a ∣ n) (h2 : b ∣ n) (h : ∀ q, IsP q → q ∣ n → q ∣ a ∨ q ∣ b) : ∀ q, IsP q ∧ q ∣ n ↔ q = a ∨ q = b := fun q => by
  refine ⟨fun ⟨hq, hd⟩ => ?_, fun z => ?_⟩
  · rcases h q hq hd with z | z
    · exact .inl (hq.dvd_prime ha z)
    · exact .inr (hq.dvd_prime hb z)
  · rcases z with rfl | rfl
    · exact ⟨ha, h1⟩
    · exact ⟨hb, h2⟩
theorem dvd2 {q a b : Nat} (hq : IsP q) (h : q ∣ a * b) : q ∣ a ∨ q ∣ b := hq.dvd_mul h
theorem dvd3 {q a b c : Nat} (hq : IsP q) (h : q ∣ a * b * c) : q ∣ a ∨ q ∣ b ∨ q ∣ c := by
  rcases hq.dvd_mul h with h | h
  · rcases hq.dvd_mul h with h | h
    · exact .inl h
    · exact .inr (.inl h)
  · exact .inr (.inr h)
theorem dvd_pow {q a : Nat} (hq : IsP q) : ∀ {k : Nat}, q ∣ a ^ k → q ∣ a
  | 0, h => by
    have h1 : q ∣ 1 := by simpa using h
    have := Nat.le_of_dvd (by decide) h1
    have := hq.1
    omega
  | k + 1, h => by
    rw [Nat.pow_succ] at h
    rcases hq.dvd_mul h with h | h
    · exact dvd_pow hq h
    · exact h
theorem primes_big : PrimesOf (999983 * 999979) [999979, 999983] := by
  refine ⟨by decide, fun q => ?_⟩
  rw [mem_of_prod p999979 p999983 ⟨999983, by decide⟩ ⟨999979, by decide⟩ fun q hq h => (dvd2 hq h).symm]
  simp
theorem primes_tera : PrimesOf (10 ^ 12) [2, 5] := by
  refine ⟨by decide, fun q => ?_⟩
  rw [mem_of_prod p2 p5 ⟨5 * 10 ^ 11, by decide⟩ ⟨2 * 10 ^ 11, by decide⟩ fun q hq h => dvd2 hq (show q ∣ 2 * 5 from dvd_pow hq h)]
  simp
theorem primes_two : PrimesOf (2 ^ 39) [2] := by
  refine ⟨by decide, fun q => ?_⟩
  refine ⟨fun m => ?_, fun ⟨hq, h⟩ => ?_⟩
  · have e : q = 2 := by simpa using m
    rw [e]
    exact ⟨p2, ⟨2 ^ 38, by decide⟩⟩
  · have := hq.dvd_prime p2 (dvd_pow hq h)
    simp [this]
end NumP

namespace Wk
open PySem L2 NumP
def rTupOf (K : PySem.W.Frag) : List V → Hp → VK → Prop := fun xs H Q => ∃ p ys, xs = [.ref p] ∧ ((SqL K H p ys ∧ ∀ l, H l = none → Q (.ref l) (upd H l (.tup ys))) ∨ (SqT K H p ys ∧ Q (.ref p) H))
theorem call_tupleK {X : Cx} {K : PySem.W.Frag} (hK : X.K = K) : CallR X (.type "tuple") (rTupOf K) := hK ▸ call_tuple_of
def rLstOf (K : PySem.W.Frag) : List V → Hp → VK → Prop := fun xs H Q => ∃ p ys, xs = [.ref p] ∧ (SqL K H p ys ∨ SqT K H p ys) ∧ ∀ l, H l = none → Q (.ref l) (upd H l (.lst ys))
theorem call_listK {X : Cx} {K : PySem.W.Frag} (hK : X.K = K) : CallR X (.type "list") (rLstOf K) := hK ▸ call_list_of
abbrev s_law_primes : Stmt := top 25
theorem sc_law_primes : FnScope ["_law_number", "_law_found", "_law_divisor", "_law_prime"] ["_law_number"] (defScope s_law_primes) := ⟨rfl, rfl, rfl, by decide +kernel, rfl, by decide +kernel, by decide +kernel⟩

def nats (fs : List Nat) : List V := fs.map fun (f : Nat) => V.int (f : Int)
def spSieve : Sp := fun vs H Q _ => ∃ n : Nat, vs = [.int (n : Int)] ∧ 2 ≤ n ∧ n ≤ 1000 ∧ ∀ (fs : List Nat) (t : Addr) (H' : Hp), PrimesOf n fs → Same H H' → H' t = some (.tup (nats fs)) → Q (.ref t) H'
structure TxtS (mg : Str → Option Value) : Prop where
  f_range : mg "range" = none
  f_int : mg "int" = none
  f_any : mg "any" = none
  f_tuple : mg "tuple" = none
section
variable {P : Program} {w : World} {K : PySem.W.Frag} {mg : Str → Option Value} {base : Heap}
theorem ok_sieve {f : Addr} {fd : FuncData} (F : Fun K "_law_primes" "_law_primes" s_law_primes f fd) (T : TxtS mg) : FnOk P w K mg base CX0 1 f fd ["_law_number"] spSieve := by
  refine F.ok sc_law_primes (fun vs H Q E h => ?_) (fun cdv A outer s H vs Q E hr h => ?_)
  · obtain ⟨n, rfl, _⟩ := h
    rfl
  · obtain ⟨n, rfl, h2, h3, k⟩ := h
    refine ⟨_, (pss_cons (ps_set (i := 1) sc_law_primes.nd rfl (Or.inl rfl) (pe_lst pa_nil))
        (pss_cons (ps_for PassesOwn.never rfl (pi_range2 rfl T.f_range (pa_cons pe_int (pa_cons (pe_op op_add (pv 0) pe_int) pa_nil))) (pg_name (i := 2) sc_law_primes.nd rfl (Or.inr rfl)) (pss_one (ps_if (PW.pt (pw_and (pt_cmpR op_eq (pe_op op_modN (pe_callTy call_int1 rfl T.f_int (by decide +kernel) (pa_cons (pv 0) pa_nil)) (pv 2)) pe_int (nomark _)) (pw_and1 (pt_not (pt_val (pe_callB (cr_any rfl) rfl T.f_any (by decide +kernel) (pa_cons (pe_lc (own := [("_law_prime", 3)]) (g := gName 3) rfl sc_law_primes.nd (pi_list (pv 1)) (blkOk_by (N := ["_law_number", "_law_found", "_law_divisor", "_law_prime"]) (sc := defScope s_law_primes) (by decide +kernel)) (fun _ _ _ _ _ => (pg_name (i := 3) sc_law_primes.nd rfl (Or.inl rfl))) (fun _ _ _ _ _ => pts_nil) (fun _ _ _ _ _ => (pe_cmpR op_eq (pe_op op_modN (pe_callTy call_int1 rfl T.f_int (by decide +kernel) (pa_cons (pv 2) pa_nil)) (pv 3)) pe_int (nomark _)))) pa_nil))))))) (pss_one (ps_expr (pe_bm PySem.F.plainAttrs_list PySem.F.slot_list_append PySem.F.type_list_append mt_append (pv 1) (pa_cons (pv 2) pa_nil)))) pss_nil)))
        (pss_one (ps_ret (pe_callTy (call_tupleK (K := K) rfl) rfl T.f_tuple (by decide +kernel) (pa_cons (pv 1) pa_nil)))))), ?_⟩
    refine ⟨(by show 0 ≤ sizeLine; decide), fun r hr0 => ?_⟩
    refine ⟨_, rfl, _, _, rfl, rfl, 2, (n : Int) + 1, rfl, ⟨by decide, by decide, by omega, by omega⟩, ?_⟩
    have en : ((n : Int) + 1 - 2).toNat = n - 1 := by omega
    rw [en]
    refine for_range (lo := 2) (n := n - 1) (fun i σ H' => ∃ (fs : List Nat) (d x : Option V), σ = [some (.int (n : Int)), some (.ref r), d, x] ∧ Same H H' ∧ H' r = some (.lst (nats fs)) ∧ SInv n (2 + i) fs) ?_ ?_ ?_
    · exact ⟨[], none, none, rfl, fun b u e => by rw [upd_ne (ne_of_none e hr0)]; exact e, upd_same, .start⟩
    · rintro i σ H' hlt ⟨fs, d, x, rfl, sH, hL, I⟩
      have ek : ((2 + i : Nat) : Int) = 2 + (i : Int) := by omega
      have hfs := I.len
      have hlen : fs.length ≤ 1000 := by
        have := asc_len (a := 2) I.asc hfs
        omega
      have em : ∀ a b : Nat, 0 < b → (V.int ((a : Int).fmod (b : Int)) = V.int 0 ↔ b ∣ a) := fun a b hb => by
        rw [Int.fmod_eq_emod_of_nonneg _ (by omega)]
        refine ⟨fun z => ?_, fun z => ?_⟩
        · injection z with z
          exact Int.natCast_dvd_natCast.mp (Int.dvd_of_emod_eq_zero z)
        · rw [Int.emod_eq_zero_of_dvd (Int.natCast_dvd_natCast.mpr z)]
      refine ⟨_, rfl, .inl ⟨_, rfl, _, rfl, _, _, rfl, rfl, (by omega), rfl, _, rfl, ?_⟩⟩
      rw [← ek]
      refine ite2 (fun hd => ?_) (fun hd => ?_)
      · have hd := (em n (2 + i) (by omega)).mp (of_decide_eq_true hd)
        obtain ⟨bs, hbs⟩ : ∃ bs : List Bool, bs = fs.map fun f => decide (f ∣ 2 + i) := ⟨_, rfl⟩
        refine ⟨_, rfl, r, rfl, ⟨_, SqL.of hL⟩, fun D hD => ?_⟩
        refine lc_list (a := r) (xs := nats fs) (fun j H2 => Same H' H2 ∧ H2 D = some (.lst ((bs.take j).map V.bl))) ⟨fun b u e => by rw [upd_ne (ne_of_none e hD)]; exact e, upd_same⟩ (fun j H2 _ ⟨s2, _⟩ => SqL.of (s2 _ _ hL)) (fun j x H2 hx ⟨s2, hDx⟩ => ?_) (fun H2 ⟨s2, hDx⟩ => ?_)
        · have hj : ∃ q, fs[j]? = some q ∧ x = V.int (q : Int) := by
            unfold nats at hx
            rw [List.getElem?_map] at hx
            cases e : fs[j]? with
            | none => rw [e] at hx; cases hx
            | some q => rw [e] at hx; cases hx; exact ⟨q, rfl, rfl⟩
          obtain ⟨q, hq, rfl⟩ := hj
          have hq2 := (hfs q (List.mem_of_getElem? hq)).1
          have hbj : bs[j]? = some (decide (q ∣ 2 + i)) := by rw [hbs, List.getElem?_map, hq]; rfl
          have hjl : j < bs.length := (List.getElem?_eq_some_iff.mp hbj).1
          refine ⟨rfl, ?_⟩
          refine ⟨_, rfl, .inl ⟨_, rfl, _, rfl, _, _, rfl, rfl, (by omega), rfl, _, hDx, small1000 (by rw [List.length_map, List.length_take, hbs, List.length_map]; omega), fun b u e => ?_, ?_⟩⟩
          · rw [upd_ne (ne_of_none e hD)]
            exact s2 _ _ e
          · rw [upd_same]
            have e1 : decide (V.int (((2 + i : Nat) : Int).fmod (q : Int)) = V.int 0) = decide (q ∣ 2 + i) := decide_eq_decide.mpr (em (2 + i) q (by omega))
            rw [List.take_add_one, hbj, e1]
            simp
        · have hall : (nats fs).length = bs.length := by rw [hbs]; simp [nats]
          rw [hall, List.take_length] at hDx
          refine ⟨D, bs, rfl, SqL.of hDx, _, rfl, ?_⟩
          have hL2 := s2 _ _ hL
          cases hb : bs.any id with
          | true =>
            refine iteF ⟨fs, _, _, rfl, sH.trans s2, hL2, ?_⟩
            rw [show 2 + (i + 1) = 2 + i + 1 by omega]
            refine I.no (.inr ?_)
            obtain ⟨b, hbm, hb2⟩ := List.any_eq_true.mp hb
            rw [hbs] at hbm
            obtain ⟨q, hq, rfl⟩ := List.mem_map.mp hbm
            exact ⟨q, hq, by simpa using hb2⟩
          | false =>
            refine iteT ?_
            refine ⟨_, rfl, .inl ⟨rfl, _, SqL.of hL2⟩, _, rfl, r, _, _, rfl, rfl, hL2, small1000 (by simp [nats]; omega), fs ++ [2 + i], _, _, rfl, fun b u e => ?_, ?_, ?_⟩
            · have hbr : b ≠ r := ne_of_none e hr0
              rw [upd_ne hbr]
              exact s2 _ _ (sH _ _ e)
            · rw [upd_same]
              show some (HO.lst (nats fs ++ [V.int ((2 + i : Nat) : Int)])) = _
              simp [nats]
            · rw [show 2 + (i + 1) = 2 + i + 1 by omega]
              refine I.yes (by omega) hd fun q hq hqd => ?_
              have : bs.any id = true := List.any_eq_true.mpr ⟨true, by rw [hbs]; exact List.mem_map.mpr ⟨q, hq, decide_eq_true hqd⟩, rfl⟩
              rw [hb] at this
              cases this
      · have hd : ¬ (2 + i) ∣ n := fun z => hd (decide_eq_true ((em n (2 + i) (by omega)).mpr z))
        refine iteF ⟨fs, _, _, rfl, sH, hL, ?_⟩
        rw [show 2 + (i + 1) = 2 + i + 1 by omega]
        exact I.no (.inl hd)
    · rintro σ H' ⟨fs, d, x, rfl, sH, hL, I⟩
      have I2 : PrimesOf n fs := (show SInv n (n + 1) fs by rw [show n + 1 = 2 + (n - 1) by omega]; exact I).done (by omega)
      refine ⟨_, rfl, _, _, rfl, .inl ⟨SqL.of hL, fun t ht => k fs t _ I2 (fun b u e => ?_) upd_same⟩⟩
      rw [upd_ne (ne_of_none (sH _ _ e) ht)]
      exact sH _ _ e
end
end Wk

namespace NumP
/-- what has no divisor below 20001 and divides n is small, or the one great product -/
def Good (n : Nat) : Prop := ∀ r, r ∣ n → NoDiv r 20001 → r < 400000000 ∨ r = 999962000357
/-- what is left of a number: nothing, a prime, or the one great product -/
def Left (r : Nat) : Prop := r = 1 ∨ (IsP r ∧ r < 400000000) ∨ r = 999962000357
theorem left_break {r k : Nat} (h1 : 1 ≤ r) (h : NoDiv r k) (hk : r < k * k) (hk2 : k ≤ 20000) : Left r := by
  by_cases e : r = 1
  · exact .inl e
  · refine .inr (.inl ⟨(h.self (by omega) hk).isP, ?_⟩)
    have : k * k ≤ 20000 * 20000 := Nat.mul_le_mul hk2 hk2
    omega
theorem left_end {n r : Nat} (h1 : 1 ≤ r) (g : Good n) (hd : r ∣ n) (h : NoDiv r 20001) : Left r := by
  rcases g r hd h with e | e
  · by_cases e1 : r = 1
    · exact .inl e1
    · exact .inr (.inl ⟨(h.self (by omega) (by omega)).isP, e⟩)
  · exact .inr (.inr e)
theorem PInv.join {n : Nat} {fs gs : List Nat} {r : Nat} (h : PInv n fs r) (g : PrimesOf r gs) : PrimesOf n (fs ++ gs) := by
  refine ⟨?_, fun q => ?_⟩
  · rw [List.pairwise_append]
    exact ⟨h.asc, g.asc, fun a ha b hb => h.lt a ha b ((g.mem b).mp hb).1 ((g.mem b).mp hb).2⟩
  · rw [List.mem_append, g.mem q]
    refine ⟨fun z => ?_, fun ⟨z1, z2⟩ => ?_⟩
    · rcases z with z | ⟨z1, z2⟩
      · exact ⟨h.pr q z, (h.mem q (h.pr q z)).mpr (.inl z)⟩
      · exact ⟨z1, (h.mem q z1).mpr (.inr z2)⟩
    · rcases (h.mem q z1).mp z2 with z | z
      · exact .inl z
      · exact .inr ⟨z1, z⟩
theorem primes_one : PrimesOf 1 [] := ⟨.nil, fun q => by
  simp only [List.not_mem_nil, false_iff]
  rintro ⟨h, h2⟩
  have := Nat.le_of_dvd (by decide) h2
  have := h.1
  omega⟩
theorem primes_self {p : Nat} (h : IsP p) : PrimesOf p [p] := ⟨by simp, fun q => by
  simp only [List.mem_singleton]
  refine ⟨fun e => by rw [e]; exact ⟨h, Nat.dvd_refl _⟩, fun ⟨h1, h2⟩ => h1.dvd_prime h h2⟩⟩
theorem good_small {n : Nat} (h0 : 1 ≤ n) (h : n < 400000000) : Good n := fun r hd _ => .inl (Nat.lt_of_le_of_lt (Nat.le_of_dvd h0 hd) h)
theorem drop_small {p r m : Nat} (hp : IsP p) (hs : p < 20001) (h : NoDiv r 20001) (hd : r ∣ p * m) : r ∣ m := by
  have hg : Nat.gcd r p = 1 := by
    have h1 := Nat.gcd_dvd_left r p
    have h2 := Nat.gcd_dvd_right r p
    have h3 : 0 < Nat.gcd r p := Nat.gcd_pos_of_pos_right _ (by have := hp.1; omega)
    by_cases z : 2 ≤ Nat.gcd r p
    · have e := hp.2 _ z h2
      rw [e] at h1
      exact absurd h1 (h p hp.1 hs)
    · omega
  exact Nat.Coprime.dvd_of_dvd_mul_left hg hd
theorem drop_pow {p r m : Nat} (hp : IsP p) (hs : p < 20001) (h : NoDiv r 20001) : ∀ k, r ∣ p ^ k * m → r ∣ m
  | 0, hd => by simpa using hd
  | k + 1, hd => by
    rw [Nat.pow_succ, Nat.mul_comm (p ^ k) p, Nat.mul_assoc] at hd
    exact drop_pow hp hs h k (drop_small hp hs h hd)
theorem good_times {p n : Nat} (hp : IsP p) (hs : p < 20001) (g : Good n) : Good (p * n) := fun r hd h => g r (drop_small hp hs h hd) h
theorem good_tera : Good (10 ^ 12) := fun r hd h => by
  have h1 : r ∣ 5 ^ 12 := drop_pow p2 (by decide) h 12 (by rw [show 2 ^ 12 * 5 ^ 12 = 10 ^ 12 by decide]; exact hd)
  have h2 : r ∣ 1 := drop_pow p5 (by decide) h 12 (by simpa using h1)
  have := Nat.le_of_dvd (by decide) h2
  omega
theorem good_two : Good (2 ^ 39) := fun r hd h => by
  have h2 : r ∣ 1 := drop_pow p2 (by decide) h 39 (by simpa using hd)
  have := Nat.le_of_dvd (by decide) h2
  omega
theorem good_big : Good (999983 * 999979) := fun r hd h => by
  by_cases z : 999983 ∣ r
  · obtain ⟨s, rfl⟩ := z
    have hs : s ∣ 999979 := Nat.dvd_of_mul_dvd_mul_left (by decide) hd
    by_cases e : 2 ≤ s
    · have e2 := p999979.2 s e hs
      subst e2
      exact .inr (by decide)
    · have : s ≤ 1 := by omega
      have := Nat.mul_le_mul_left 999983 this
      omega
  · have hg : Nat.gcd r 999983 = 1 := by
      have h1 := Nat.gcd_dvd_left r 999983
      have h2 := Nat.gcd_dvd_right r 999983
      have h3 : 0 < Nat.gcd r 999983 := Nat.gcd_pos_of_pos_right _ (by decide)
      by_cases y : 2 ≤ Nat.gcd r 999983
      · have e := p999983.2 _ y h2
        rw [e] at h1
        exact absurd h1 z
      · omega
    have h1 : r ∣ 999979 := Nat.Coprime.dvd_of_dvd_mul_left hg hd
    have := Nat.le_of_dvd (by decide) h1
    omega
/-! ### the great product's own way -/
def pw : Nat → Nat → Nat → Nat → Nat
  | 0, p, _, _ => p
  | k + 1, p, b, o => if o = 0 then p else pw k (if o % 2 = 1 then p * b % 999962000357 else p) (b * b % 999962000357) (o / 2)
theorem pw_zero {k p b : Nat} : pw k p b 0 = p := by
  cases k <;> simp [pw]
theorem pw_step {k p b o : Nat} (h : o ≠ 0) : pw (k + 1) p b o = pw k (if o % 2 = 1 then p * b % 999962000357 else p) (b * b % 999962000357) (o / 2) := by
  simp [pw, h]
def PWn : Nat := pw 40 1 2 249990500089
theorem pw_a : PWn ≠ 1 ∧ PWn ≠ 999962000356 ∧ PWn * PWn % 999962000357 ≠ 999962000356 := by decide +kernel
theorem pw_lt : PWn < 999962000357 := by decide +kernel
end NumP

/-! repr of data -/
namespace Wk
open PySem PySem.Spec PyProof.Rows L2
mutual
/-- data that one can look at: of none, bools, ints, texts, lists, tuples, the empty dict -/
inductive Dq (H : Hp) : V → PyData → Prop
  | non : Dq H .non .none
  | bl (b : Bool) : Dq H (.bl b) (.bool b)
  | int (i : Int) : Dq H (.int i) (.int i)
  | str (x : Str) : Dq H (.str x) (.str x)
  | lst {a : Addr} {xs : List V} {ds : List PyData} : H a = some (.lst xs) → DqAll H xs ds → Dq H (.ref a) (.list ds)
  | tup {a : Addr} {xs : List V} {ds : List PyData} : H a = some (.tup xs) → DqAll H xs ds → Dq H (.ref a) (.tuple ds)
  | dic {a : Addr} : H a = some (.dK []) → Dq H (.ref a) (.dict [])
inductive DqAll (H : Hp) : List V → List PyData → Prop
  | nil : DqAll H [] []
  | cons {v : V} {vs : List V} {d : PyData} {ds : List PyData} : Dq H v d → DqAll H vs ds → DqAll H (v :: vs) (d :: ds)
end
mutual
theorem Dq.same {H H' : Hp} (e : ∀ b o, H b = some o → H' b = some o) : ∀ {v : V} {d : PyData}, Dq H v d → Dq H' v d
  | _, _, .non => .non
  | _, _, .bl b => .bl b
  | _, _, .int i => .int i
  | _, _, .str x => .str x
  | _, _, .lst h a => .lst (e _ _ h) (DqAll.same e a)
  | _, _, .tup h a => .tup (e _ _ h) (DqAll.same e a)
  | _, _, .dic h => .dic (e _ _ h)
theorem DqAll.same {H H' : Hp} (e : ∀ b o, H b = some o → H' b = some o) : ∀ {v : List V} {d : List PyData}, DqAll H v d → DqAll H' v d
  | _, _, .nil => .nil
  | _, _, .cons a b => .cons (Dq.same e a) (DqAll.same e b)
end
section
variable {X : Cx} {pins : List (Addr × Obj)} {σ : L2.St} {H : Hp} {s : Shared}
mutual
theorem Dq.reads (I : Inv X pins σ H s) (hs : ∃ o es m, X.base.get? sysModules = some o ∧ o.data = .dict es m) : ∀ (d : PyData) (v : V) (u : Value), Dq H v d → RelV v u → ∃ as, Reads s.heap u d as ∧ sysModules ∉ as
  | .none, _, _, h, r => by
    cases h
    cases r
    exact ⟨_, .none, List.not_mem_nil⟩
  | .bool b, _, _, h, r => by
    cases h
    cases r
    exact ⟨_, .bool b, List.not_mem_nil⟩
  | .int i, _, _, h, r => by
    cases h
    obtain ⟨t, rfl⟩ := r
    exact ⟨_, .int i t, List.not_mem_nil⟩
  | .str x, _, _, h, r => by
    cases h
    obtain ⟨t, rfl⟩ := r
    exact ⟨_, .str x t, List.not_mem_nil⟩
  | .list ds, _, _, h, r => by
    cases h with
    | lst hh ha =>
      cases r
      obtain ⟨its, rv, ⟨o, n, ho, hc, _, hd⟩, _⟩ := I.list (SqL.of hh)
      obtain ⟨as, hr, nm⟩ := Dq.readsAll I hs ds _ its ha rv
      refine ⟨_, .list ho hc hd hr, fun z => ?_⟩
      rcases List.mem_cons.mp z with z | z
      · obtain ⟨o2, es, m, e2, d2⟩ := hs
        have e3 := I.bk _ _ e2
        rw [z, ho] at e3
        cases e3
        rw [hd] at d2
        cases d2
      · exact nm z
  | .tuple ds, _, _, h, r => by
    cases h with
    | tup hh ha =>
      cases r
      obtain ⟨its, rv, ⟨o, ho, hc, n, hd⟩, _⟩ := I.tuple (SqT.of hh)
      obtain ⟨as, hr, nm⟩ := Dq.readsAll I hs ds _ its ha rv
      exact ⟨_, .tuple ho hc hd hr, nm⟩
  | .dict kvs, _, _, h, r => by
    cases h with
    | dic hh =>
      cases r
      have ob := I.hok _ _ hh
      obtain ⟨_, ns, vs, rv, o, es, ep, ho, ex, hd, _, hp, _⟩ := ob
      unfold KV at rv
      cases rv
      have e0 : es.toList = [] := by
        cases q : es.toList with
        | nil => rfl
        | cons z r => rw [q] at hp; cases hp
      refine ⟨_, .dict ho ex.1 hd (by rw [e0]; exact .nil) (by rw [e0]; exact .nil), fun z => ?_⟩
      simp at z
      rw [z] at ns
      simp at ns
theorem Dq.readsAll (I : Inv X pins σ H s) (hs : ∃ o es m, X.base.get? sysModules = some o ∧ o.data = .dict es m) : ∀ (ds : List PyData) (vs : List V) (us : List Value), DqAll H vs ds → Vals vs us → ∃ as, ReadsAll s.heap us ds as ∧ sysModules ∉ as
  | [], _, _, h, r => by
    cases h
    cases r
    exact ⟨_, .nil, List.not_mem_nil⟩
  | d :: ds, _, _, h, r => by
    cases h with
    | cons h1 h2 =>
      cases r with
      | cons r1 r2 =>
        obtain ⟨as, q1, n1⟩ := Dq.reads I hs d _ _ h1 r1
        obtain ⟨bs, q2, n2⟩ := Dq.readsAll I hs ds _ _ h2 r2
        exact ⟨_, .cons q1 q2, fun z => (List.mem_append.mp z).elim n1 n2⟩
end
/-- repr(x), x data -/
theorem call_reprD (hg : X.A.guards = some []) (hu : X.A.units + 64 < cLine) (hs : ∃ o es m, X.base.get? sysModules = some o ∧ o.data = .dict es m) : CallR X (.builtin "repr") (fun xs H Q => ∃ x d, xs = [x] ∧ Dq H x d ∧ d.showable = true ∧ d.depth ≤ 60 ∧ d.shown.length ≤ sizeLine ∧ Q (.str d.shown) H) := by
  intro pins s σ H xs us Q I r h
  obtain ⟨x, d, rfl, hd, sh, dp, sz, q⟩ := h
  obtain ⟨u, rfl, ru⟩ := vals1 r
  obtain ⟨as, rd, nm⟩ := Dq.reads I hs d x u hd ru
  cases hd with
  | non =>
    cases ru
    exact PySem.P.repr_of_none ⟨.str _, H, I.tok _, ⟨_, rfl⟩, by simpa [PyData.shown] using q⟩
  | bl b =>
    cases ru
    exact PySem.P.repr_of_bool ⟨.str _, H, I.tok _, ⟨_, rfl⟩, by simpa [PyData.shown] using q⟩
  | int i =>
    obtain ⟨t, rfl⟩ := ru
    exact PySem.P.repr_of_int (by simpa [PyData.showable] using sh) ⟨.str _, H, I.tok _, ⟨_, rfl⟩, by simpa [PyData.shown] using q⟩
  | str y =>
    obtain ⟨t, rfl⟩ := ru
    exact PySem.P.repr_of_str ⟨.str _, H, I.tok _, ⟨_, rfl⟩, by simpa [PyData.shown] using q⟩ (by simpa [PyData.shown] using sz)
  | lst _ _ | tup _ _ | dic _ =>
    cases ru
    exact repr_of_reads' (h₀ := s.heap) rd sh (fun _ => nm) hg (by omega) (fun _ _ e => e) (fun h' u tk k => ⟨.str _, H, I.kept (t' := tk) k, ⟨u, rfl⟩, q⟩) sz
end
end Wk

/-! the end of a law whose own def wants to know the caller -/
namespace Wk
open PySem PySem.Spec PyProof.Rows L2
/-- the law's def is run where the claim's caller stands -/
theorem call_here {P : Program} {w : World} {K : PySem.W.Frag} {mg mb : Str → Option Value} {fa a : Addr} {s : Shared} {vs : List Value} {ns : List Int} (KX : K.In s.heap) (hG : s.heap.Ns mainGlobals mg) (hB : s.heap.Ns builtinsNs mb) (hb : ∀ x : Str, x ≠ "__name__" → mb x = bootBuiltins x)
    (hL : s.heap.NoLimit) (hg : s.gens = #[]) (ha : s.heap.get? a = some { cls := .type "list", data := .seq vs.toArray }) (hi : IntsAre vs ns) (hl : ns.length ≤ sizeLine)
    (F : ∀ (base : Heap) (H : Hp), K.In base → base.Ns mainGlobals mg → (∀ b o, s.heap.get? b = some o → (∀ us m, o.data ≠ .seq us m) → base.get? b = some o) → Env0 P w K mg base callerA [] s H → SqL K H a (ns.map V.int) → codeAny (model P w) callerA (.call (.ref fa) ⟨[.ref a], []⟩) (CR CX0 [] P w H s (fun v _ => v = .bl true) E0) s) :
    codeAny (model P w) callerA (.call (.ref fa) ⟨[.ref a], []⟩) (fun r s' => r = .ok (.ret (.bool true)) ∧ OldK s.heap s'.heap ∧ s'.os = s.os ∧ AllBare s'.gens) s := by
  have rel := vals_ints hi
  have main : ∀ H : Hp, (∀ b, H b = none ∨ (b = a ∧ ∃ o xs, H b = some (.frz o (.lst xs)))) → SqL K H a (ns.map V.int) → HOk P w H s.heap → (H a ≠ none → K.lookup a = none) →
      codeAny (model P w) callerA (.call (.ref fa) ⟨[.ref a], []⟩) (fun r s' => r = .ok (.ret (.bool true)) ∧ OldK s.heap s'.heap ∧ s'.os = s.os ∧ AllBare s'.gens) s := by
    intro H hO hS hok hK
    -- what is no list is not tracked
    have un0 : ∀ b o, s.heap.get? b = some o → (∀ us m, o.data ≠ .seq us m) → H b = none := fun b o e nd => (hO b).elim id fun ⟨eb, _⟩ => by
      subst eb
      rw [ha] at e
      cases e
      exact absurd rfl (nd _ _)
    have bas : ∀ b o, s.heap.get? b = some o → (∀ us m, o.data ≠ .seq us m) → (hidT s.heap H).get? b = some o := fun b o e nd => hidT_get e (un0 b o e nd)
    have spaces : ∀ {b : Addr} {m : Str → Option Value}, s.heap.Ns b m → (hidT s.heap H).Ns b m := fun {b m} ⟨o, es, ep, e, d, r⟩ => ⟨o, es, ep, bas b o e (fun us m z => by rw [d] at z; cases z), d, r⟩
    have frag : K.In (hidT s.heap H) := fun b o e => hidT_get (KX b o e) (by
      rcases hO b with z | ⟨eb, z⟩
      · exact z
      · subst eb
        cases q : H b with
        | none => rfl
        | some u =>
          rw [hK (by rw [q]; exact fun y => nomatch y)] at e
          cases e)
    obtain ⟨mc, l1, l2⟩ := hL
    have env : Env0 P w K mg (hidT s.heap H) callerA [] s H :=
      ⟨rfl, ⟨frag, spaces hG, ⟨mb, spaces hB, hb⟩, ⟨mc, spaces l1, l2⟩⟩, fun b o e => of_hidT e, Nat.le_of_eq (hidT_size s.heap H), trivial, fun b z => absurd (show b ∈ ([] : List Addr) from z) List.not_mem_nil, hok, .of_eq hg⟩
    refine codeAny_mono (F _ H frag (spaces hG) bas env hS) fun r s' z => ?_
    match r, z with
    | .ok (.ret u), z =>
      obtain ⟨v, H', os, bare, U, hok', ru, q⟩ := z
      subst q
      obtain rfl : u = Value.bool true := ru
      have keep : ∀ b o, s.heap.get? b = some o → s'.heap.get? b = some o := fun b o e => by
        rcases hO b with z | ⟨eb, ob, xs, z⟩
        · exact U.keep b o e z (fun y => absurd (show b ∈ ([] : List Addr) from y) List.not_mem_nil) List.not_mem_nil
        · obtain ⟨e2, _⟩ := hok' b _ (U.frzs b ob _ z)
          obtain ⟨e1, _⟩ := hok b _ z
          exact (e2.trans e1.symm).trans e
      exact ⟨rfl, .of_keep keep, os, bare⟩
    | .ok .next, z => exact False.elim z
    | .ok .brk, z => exact False.elim z
    | .ok .cont, z => exact False.elim z
    | .error e, z => exact False.elim z
  cases hk : K.lookup a with
  | some o =>
    have e := KX a o hk
    rw [ha] at e
    cases e
    refine main (fun _ => none) (fun _ => .inl rfl) (.inr ⟨_, vs.toArray, _, hk, rfl, rfl, rfl, ?_, by simpa using rel⟩) (fun b u z => nomatch z) fun z => absurd rfl z
    rw [List.size_toArray, hi.length]
    exact hl
  | none =>
    refine main (fun b => if b = a then some (.frz { cls := .type "list", data := .seq vs.toArray } (.lst (ns.map V.int))) else none) (fun b => ?_) (.inl (.inr ⟨_, if_pos rfl⟩)) (fun b u z => ?_) fun _ => hk
    · by_cases h : b = a
      · exact .inr ⟨h, _, _, if_pos h⟩
      · exact .inl (if_neg h)
    · by_cases h : b = a
      · have z2 := (if_pos h).symm.trans z
        cases z2
        rw [h]
        exact ⟨ha, by rw [List.length_map]; exact hl, vs, _, rel, ha⟩
      · cases (if_neg h).symm.trans z
/-- the walk of such a law -/
theorem walk_here {l : PySem.W.OpenLaw} {n : Nat} {q : Program} {loose : List Str} {XP : (Str → Option Value) → Heap → Prop} {YP : World → Heap → Prop} {d : DefRec} (hn : l.most = some n) (hn2 : n ≤ sizeLine) (hdf : d.params.defaults = [])
    (F : ∀ (w : World) (mg : Str → Option Value) (fa : Addr) (h : Heap), YP w h → h.Ns mainGlobals mg → mg d.name = some (.ref fa) → ∃ K : PySem.W.Frag, K.In h ∧ ∀ (base : Heap) (s : Shared) (H : Hp) (a : Addr) (ns : List Int), s.heap = h → K.In base → base.Ns mainGlobals mg →
      (∀ b o, h.get? b = some o → (∀ us m, o.data ≠ .seq us m) → base.get? b = some o) → Env0 l.prog w K mg base callerA [] s H → SqL K H a (ns.map V.int) → codeAny (model l.prog w) callerA (.call (.ref fa) ⟨[.ref a], []⟩) (CR CX0 [] l.prog w H s (fun v _ => v = .bl true) E0) s) :
    PySem.W.WalkO q loose XP YP l.row.toRowW d [] (fun f vs => PySem.call f vs) := by
  refine Att.attach_callB hn hdf fun w s₀ s₁ mg mb fa o pm cd doc a vs ns G Y ho hd hcd hmg hobj hints hlen hbits hg => ?_
  obtain ⟨K, KX, hF⟩ := F w mg fa _ Y G.T.g hmg
  exact call_here KX G.T.g G.T.b G.T.builtins G.T.nolimit hg hobj hints (Nat.le_trans hlen hn2) fun base H kb gb bb e0 hS => hF base s₁ H a ns rfl kb gb bb e0 hS
/-! ### the hook, with one more look: the table of modules is there -/
def modsB (g : Addr → Option Obj) : Bool := match g sysModules with
  | some ⟨_, _, .dict _ _, _⟩ => true
  | _ => false
theorem modsB_ok {g : Addr → Option Obj} (h : modsB g = true) : ∃ o es m, g sysModules = some o ∧ o.data = .dict es m := by
  unfold modsB at h
  split at h
  · rename_i e
    exact ⟨_, _, _, e, rfl⟩
  · cases h
def hookS (n : Nat) (fa : List He.Fa) (fn : List He.DefD) (ex : PySem.W.Frag → Bool) : PySem.W.Hook where
  α := He.AlX × Bool
  obs := fun s => (He.obsX n fa fn [] [] ex s.heap.get?, modsB s.heap.get?)
  val := fun w => (He.valX fn [] w, true)
  says := fun w h => (∃ K : PySem.W.Frag, K.In h ∧ He.SaysX fa fn [] [] ex w h K) ∧ ∃ o es m, h.get? sysModules = some o ∧ o.data = .dict es m
  of := fun w s e => ⟨⟨_, He.frT_in, He.saysX_of (congrArg (fun z : He.AlX × Bool => z.1) e)⟩, modsB_ok (congrArg (fun z : He.AlX × Bool => z.2) e)⟩
  keeps := fun w h h' z k => by
    obtain ⟨⟨K, hK, c⟩, o, es, m, e, d⟩ := z
    exact ⟨⟨K, PySem.W.Frag.In.keeps hK k, ⟨c.t, c.more, c.hd, c.out, fun p hp => k _ _ (c.empty p hp)⟩⟩, o, es, m, k _ _ e, d⟩
def obS (n : Nat) (fa : List He.Fa) (fn : List He.DefD) (ex : PySem.W.Frag → Bool) (s : PySem.W.SharedT) : He.AlX × Bool := (He.obsX n fa fn [] [] ex (HandSHeadRun.getT s), modsB (HandSHeadRun.getT s))
theorem obS_eq {n : Nat} {fa : List He.Fa} {fn : List He.DefD} {ex : PySem.W.Frag → Bool} (s : PySem.W.SharedT) : obS n fa fn ex s = (hookS n fa fn ex).obs s.abs := by
  have e : HandSHeadRun.getT s = s.abs.heap.get? := funext (HandSHeadRun.getT_eq s)
  unfold obS
  rw [e]
  rfl
end Wk

namespace Wk
open PySem L2 NumP
abbrev s_law_refused : Stmt := top 24
theorem sc_law_refused : FnScope ["_law_value", "_law_told", "e"] ["_law_value"] (defScope s_law_refused) := ⟨rfl, rfl, rfl, by decide +kernel, rfl, by decide +kernel, by decide +kernel⟩

/-! ### defs that want to know that no repr is under way -/
structure FnG (P : Program) (w : World) (K : PySem.W.Frag) (mg : Str → Option Value) (base : Heap) (k : Nat) (f : Addr) (fd : FuncData) (ps : List Str) (sp : Sp) : Prop where
  len : ∀ vs H Q E, sp vs H Q E → vs.length = ps.length
  run : ∀ (A : Around) (outer : List Env) (s : Shared) (H : Hp) (us : List Value) (vs : List V) (Q : VK), Room k A → A.guards = some [] → Env0 P w K mg base A outer s H → BindsTo s fd ⟨us, []⟩ (ps.zip us) → Vals vs us → sp vs H Q E0 → codeAny (model P w) A (.call (.ref f) ⟨us, []⟩) (CR CX0 outer P w H s Q E0) s
section
variable {P : Program} {w : World} {K : PySem.W.Frag} {mg : Str → Option Value} {base : Heap}
theorem fun_okG {x qual : Str} {st : Stmt} {f : Addr} {fd : FuncData} {N ps : List Str} {k : Nat} {sp : Sp} (F : Fun K x qual st f fd) (S : FnScope N ps (defScope st)) (len : ∀ vs H Q E, sp vs H Q E → vs.length = ps.length)
    (hbody : ∀ (cdv : Value) (A : Around) (outer : List Env) (s : Shared) (H : Hp) (vs : List V) (Q : VK), Room k (A.deeper (PyProof.Rows.envOfC qual (defScope st) s.heap.objs.size f cdv)) → A.guards = some [] → sp vs H Q E0 →
      ∃ t, PSs (cxOf CX0 P w K mg base N qual (defScope st) f cdv A outer s H E0).nox (defBody st) t ∧ t { nx := fun _ H' => Q .non H', rt := Q } (start N vs) H) : FnG P w K mg base (k + 1) f fd ps sp := by
  obtain ⟨oc, od, kV, doc, pm, an, cdv, ct, osl, rfl, lk, hcd⟩ := F.ex
  refine ⟨len, fun A outer s H us vs Q hr hg e0 hb r h => LamX.run_ofS lk hcd S hr e0 hb r (len _ _ _ _ h) fun hr2 => ?_⟩
  obtain ⟨t, h1, h2⟩ := hbody cdv A outer s H vs Q hr2 hg h
  exact ⟨t, h1.nox, h2⟩
end
section
variable {X : Cx} {k : Nat} {f : Addr} {fd : FuncData} {ps : List Str} {sp : Sp} {x : Str} {e : Expr} {es : List Expr} {t : TA} {p pos : Pos}
theorem pe_callG (F : FnG X.prog X.w X.K X.mg X.base k f fd ps sp) (hr : Room k X.A) (hG : X.A.guards = some []) (hg : Gl X x) (hm : X.mg x = some (.ref f)) (hk : PySem.W.keepIn X.K (.ref f) = true) (hb : Binds X.K fd ps []) (ha : PA X (e :: es) t)
    (hdb : (x == ("__debug__" : Str)) = false := by decide) (he : starEach (e :: es) X.env = (false, eval e X.env) :: starEach es X.env := by rfl) (hpl : (backTo pos (starEach es X.env)).any (·.1) = false := by rfl) :
    PE X (.Call (.Name x p) (e :: es) [] pos) (fun σ H Q => t σ H fun vs H1 => sp vs H1 Q E0) := by
  refine ⟨fun pins s σ H Q I h => wpAny_Call_Name_kw (ld_glob I hg hm (PySem.W.callWith_K (h₀ := X.base) I.ok.mod.kin hk (thn (ha.run pos pins s σ H _ I h) fun us s1 ⟨vs, H1, I1, r, q⟩ => ⟨I1.kIn, ?_⟩) he hpl) hdb)⟩
  have hl : us.length = ps.length := r.length.symm.trans (F.len _ _ _ _ q)
  have b := hb s1 us I1.kIn (by rw [List.append_nil]; exact hl)
  rw [List.append_nil] at b
  refine wpAny_call (codeAny_mono (F.run X.A X.stack s1 H1 us vs Q hr hG I1.env0 b r q) fun r s' z => ?_)
  rcases r with er | (_ | _ | _ | u)
  · exact z.elim
  · exact False.elim z
  · exact False.elim z
  · exact False.elim z
  · exact I1.after z
end
/-- isinstance(e, c), e the caught error, with its dict -/
def rIsD (K : PySem.W.Frag) (a : Addr) (cls : Value) (d : Option Addr) : List V → Hp → VK → Prop := fun xs H Q => ∃ (D : Addr) (c : V) (cv : Value) (b : Bool), xs = [.ref a, c] ∧ cls = .ref D ∧ ExcC K D ∧ (∀ x, d = some x → ∃ fs, H x = some (.xd fs)) ∧ (∀ u, RelV c u → u = cv) ∧ PySem.W.kitOne K (.ref D) cv = some b ∧ Q (.bl b) H
theorem call_isD {X : Cx} {a : Addr} {oe : Obj} {cls : Value} {d : Option Addr} {pn : List (Addr × Obj)} (hz : Zc cls d oe) (hf : ∃ vs, oe.data = .fields vs) : CallR (X.suite a ((a, oe) :: pn)) (.builtin "isinstance") (rIsD X.K a cls d) := by
  intro pins s σ H xs us Q I r h
  obtain ⟨D, c, cv, b, rfl, rfl, T, hd, hcv, e, q⟩ := h
  cases r with
  | cons rx rr =>
    cases rr with
    | cons rt rr =>
      cases rr
      cases rx
      have ec := hcv _ rt
      subst ec
      obtain ⟨hget, _⟩ := I.pin (a, oe) (List.mem_append.mpr (.inl List.mem_cons_self))
      obtain ⟨vs, hv⟩ := hf
      have J : ∃ od, PySem.W.InstAt s.heap a oe D od := by
        obtain ⟨oc, od, oda, osl⟩ := oe
        obtain ⟨h1, h2⟩ := hz
        dsimp only at h1 h2 hv
        subst h1 h2 hv
        cases od with
        | none => exact ⟨none, hget, rfl, rfl, trivial⟩
        | some dx =>
          obtain ⟨fs, ef⟩ := hd dx rfl
          have ob : ObjOk X.prog X.w H s.heap dx (.xd fs) := I.hok _ _ ef
          obtain ⟨mA, hns, _⟩ := ob
          obtain ⟨od, hod, _⟩ := lookIn_ns hns
          exact ⟨some od, hget, rfl, rfl, hod⟩
      obtain ⟨od, J⟩ := J
      have hc : (PySem.W.clsIn X.K D).isSome = true := by
        have z := T.hd
        unfold PySem.W.hasDictIn at z
        cases q : PySem.W.clsIn X.K D with
        | none => rw [q] at z; cases z
        | some _ => rfl
      exact PySem.W.kia_one (PySem.W.kitx_exc hc T.hg T.hk T.hs T.ha T.hn T.ht T.hm) I.kIn J e (fun z => nomatch z) fun tk => ⟨.bl b, H, I.kept (t' := tk) fun _ _ z => z, rfl, q⟩
/-! ### primes, and what it refuses -/
/-- no integer from 2 to 10 ** 12 -/
def Odd (H : Hp) : V → Prop
  | .int i => i < 2 ∨ 1000000000000 < i
  | .bl _ => True
  | .non => True
  | .str _ => True
  | .ref a => ∃ xs, H a = some (.lst xs)
  | _ => False
def spPrimes (CM : Addr) : Sp := fun vs H Q E => ∃ v : V, vs = [v] ∧ ((∃ n : Nat, v = .int (n : Int) ∧ 2 ≤ n ∧ n ≤ 1000000000000 ∧ Good n ∧ ∀ (fs : List Nat) (t : Addr) (H' : Hp), PrimesOf n fs → Same H H' → H' t = some (.tup (nats fs)) → Q (.ref t) H') ∨
  (Odd H v ∧ ∀ (d : Addr) (H' : Hp), Same H H' → H' d = some (.xd [("number", v)]) → E (.ref CM) (some d) H'))
def spRefused : Sp := fun vs H Q _ => ∃ (v : V) (d : PyData), vs = [v] ∧ Odd H v ∧ Dq H v d ∧ d.showable = true ∧ d.depth ≤ 60 ∧ d.shown.length ≤ sizeLine ∧ ∀ H', Same H H' → Q (.str d.shown) H'
structure TxtE (K : PySem.W.Frag) (mg : Str → Option Value) (CM CS : Addr) : Prop where
  gM : mg "BadModulus" = some (.ref CM)
  gS : mg "SumsError" = some (.ref CS)
  f_isinstance : mg "isinstance" = none
  f_repr : mg "repr" = none
  te : PySem.W.exmOne K (.ref CM) (.ref CM) = some true
  kS : PySem.W.kitOne K (.ref CM) (.ref CS) = some true
  ec : ExcC K CM
  xf : XfC K CM
  no : PySem.W.findIn K (.ref CM) "number" = some none
section
variable {P : Program} {w : World} {K : PySem.W.Frag} {mg : Str → Option Value} {base : Heap} {CM CS : Addr}
theorem ok_refused {f fP : Addr} {fd fdP : FuncData} {k : Nat} (F : Fun K "_law_refused" "_law_refused" s_law_refused f fd) (T : TxtE K mg CM CS) (GP : FnOk P w K mg base (L2.CX P w) k fP fdP ["number"] (spPrimes CM)) (gP : mg "primes" = some (.ref fP)) (kP : PySem.W.keepIn K (.ref fP) = true)
    (bP : Binds K fdP ["number"] []) (hS : ∃ o es m, base.get? sysModules = some o ∧ o.data = .dict es m) : FnG P w K mg base (k + 1) f fd ["_law_value"] spRefused := by
  refine fun_okG F sc_law_refused (fun vs H Q E h => ?_) (fun cdv A outer s H vs Q hr hG h => ?_)
  · obtain ⟨v, d, rfl, _⟩ := h
    rfl
  · obtain ⟨v, d, rfl, ho, hq, h1, h2, h3, q⟩ := h
    refine ⟨_, pss_cons (ps_set (i := 1) sc_law_refused.nd rfl (Or.inl rfl) pe_non) (pss_cons (ps_try_as (i := 2) (c := .ref CM) (tb := fun W => tDrop (tCallS (spPrimes CM) (WE W) (tCons (tVar 0) tNil)))
      (ts := fun a cls d => tAsg (tIf (tB (tCB (rIsD K a cls d) (tCons (tVar 2) (tCons (tC (.ref CS)) tNil)))) (tCB (fun xs H Q => ∃ x d, xs = [x] ∧ Dq H x d ∧ d.showable = true ∧ d.depth ≤ 60 ∧ d.shown.length ≤ sizeLine ∧ Q (.str d.shown) H) (tCons (tXf a cls d CM "number" (tVar 2)) tNil)) (tC .non)) (gName 1))
      (Wout := fun _ _ _ _ => False) rfl rfl sc_law_refused.nd rfl rfl ⟨rfl, by decide, .inl T.gM⟩ takes0
      (fun W pn xe tk _ => pss_one (ps_expr (by exact (pe_callS GP hr rfl gP kP bP (fun σ => passAt tk σ) (by exact (pa_cons (pv 0) pa_nil))))))
      (fun a oe cls d pn hz hf => pss_one (ps_set (i := 1) sc_law_refused.nd rfl (Or.inl rfl) (pe_ifExp (pt_val (pe_callB (call_isD hz hf) rfl T.f_isinstance (by decide +kernel) (pa_cons (pv 2) (pa_cons (pe_glob (v := .ref CS) rfl T.gS rfl) pa_nil))))
        (pe_callB (call_reprD hG hr.units hS) rfl T.f_repr (by decide +kernel) (by exact (pa_cons (pe_xf T.xf T.no hz hf (pv 2)) pa_nil))) pe_non)))) (pss_one (ps_ret (pv 1)))), ?_⟩
    refine ⟨_, rfl, v, rfl, .inr ⟨ho, fun dx H' sH hd => ⟨true, T.te, fun _ a ha => ?_, fun z => Bool.noConfusion z⟩⟩⟩
    refine ⟨_, rfl, CM, .ref CS, .ref CS, true, rfl, rfl, T.ec, fun x z => by cases z; exact ⟨_, hd⟩, fun u z => z, T.kS, _, rfl, iteT ?_⟩
    refine ⟨_, rfl, rfl, rfl, dx, _, v, rfl, hd, by rw [lookup_put, if_pos rfl], v, d, rfl, hq.same sH, h1, h2, h3, ?_⟩
    exact ⟨_, rfl, q H' sH⟩
end
end Wk

namespace Wk
open PySem L2 NumP
theorem call_isiK {X : Cx} {K : PySem.W.Frag} (hK : X.K = K) : CallR X (.builtin "isinstance") (rIsi K) := hK ▸ call_isi
abbrev s_BadModulus_init : Stmt := inClass (top 3) 0
theorem sc_BadModulus_init : FnScope ["self", "number"] ["self", "number"] (defScope s_BadModulus_init) := ⟨rfl, rfl, rfl, by decide +kernel, rfl, by decide +kernel, by decide +kernel⟩
abbrev s_is_integer : Stmt := top 5
theorem sc_is_integer : FnScope ["value"] ["value"] (defScope s_is_integer) := ⟨rfl, rfl, rfl, by decide +kernel, rfl, by decide +kernel, by decide +kernel⟩
abbrev s_without : Stmt := top 14
theorem sc_without : FnScope ["number", "prime", "found"] ["number", "prime", "found"] (defScope s_without) := ⟨rfl, rfl, rfl, by decide +kernel, rfl, by decide +kernel, by decide +kernel⟩
abbrev s_passes : Stmt := top 17
theorem sc_passes : FnScope ["number", "base", "odd", "halvings", "power", "_"] ["number", "base", "odd", "halvings"] (defScope s_passes) := ⟨rfl, rfl, rfl, by decide +kernel, rfl, by decide +kernel, by decide +kernel⟩
abbrev s_is_great_prime : Stmt := top 16
theorem sc_is_great_prime : FnScope ["number", "odd", "halvings", "base"] ["number"] (defScope s_is_great_prime) := ⟨rfl, rfl, rfl, by decide +kernel, rfl, by decide +kernel, by decide +kernel⟩
abbrev s_least_of_two : Stmt := top 18
theorem sc_least_of_two : FnScope ["number", "most", "multiple", "fourfold", "first", "last", "step", "root", "square", "other", "prime"] ["number"] (defScope s_least_of_two) := ⟨rfl, rfl, rfl, by decide +kernel, rfl, by decide +kernel, by decide +kernel⟩
abbrev s_great_primes : Stmt := top 15
theorem sc_great_primes : FnScope ["number", "least"] ["number"] (defScope s_great_primes) := ⟨rfl, rfl, rfl, by decide +kernel, rfl, by decide +kernel, by decide +kernel⟩

/-! math.isqrt -/
def rIsq : List V → Hp → VK → Prop := fun vs H Q => ∃ a c : Int, vs = [.int a] ∧ 0 ≤ a ∧ a < 2 ^ 64 ∧ ((Float64.isqrt a.toNat : Nat) : Int) = c ∧ Q (.int c) H
theorem cr_isqrt {X : Cx} : CallR X (.builtin "math.isqrt") rIsq := by
  intro pins s σ H vs us Q I r h
  obtain ⟨a, c, rfl, h0, h1, e, q⟩ := h
  obtain ⟨t, rfl⟩ : ∃ t, us = [.int a t] := by
    cases r with
    | cons r rr =>
      cases rr
      obtain ⟨t, rfl⟩ := r
      exact ⟨t, rfl⟩
  exact PySem.W.mg_isqrt_v h0 h1 e ⟨.int _, H, I.tok _, ⟨_, rfl⟩, q⟩
/-- the names of residues.py -/
structure TxtP (K : PySem.W.Frag) (mg : Str → Option Value) (aB : Addr) : Prop where
  gMOST : ∃ t, mg "MOST" = some (.int 1000000000000 t)
  gTRIED : ∃ t, mg "TRIED" = some (.int 20000 t)
  gBASES : mg "BASES" = some (.ref aB)
  sB : ∀ H : Hp, SqT K H aB [.int 2, .int 3, .int 5, .int 7, .int 11]
  b_gcd : mg "gcd" = some (.builtin "math.gcd")
  b_isqrt : mg "isqrt" = some (.builtin "math.isqrt")
  f_isinstance : mg "isinstance" = none
  f_int : mg "int" = none
  f_bool : mg "bool" = none
  f_range : mg "range" = none
  f_min : mg "min" = none
  f_tuple : mg "tuple" = none
def NoInt (H : Hp) : V → Prop
  | .bl _ => True
  | .non => True
  | .str _ => True
  | .ref a => ∃ xs, H a = some (.lst xs)
  | _ => False
def spInt : Sp := fun vs H Q _ => ∃ v : V, vs = [v] ∧ ((∃ i : Int, v = .int i ∧ Q (.bl true) H) ∨ (NoInt H v ∧ Q (.bl false) H))
def wWays (n p : Nat) (l : Addr) (fs : List Nat) (H : Hp) (Q : VK) : Prop := (∀ r : Nat, p ∣ n → QInv p n r → ¬ p ∣ r → r ∣ n → Q (.int (r : Int)) (upd H l (.lst (nats (fs ++ [p]))))) ∧ (¬ p ∣ n → Q (.int (n : Int)) H)
def spWithout : Sp := fun vs H Q _ => ∃ (n p : Nat) (l : Addr) (fs : List Nat), vs = [.int (n : Int), .int (p : Int), .ref l] ∧ 1 ≤ n ∧ n ≤ 1000000000000 ∧ IsP p ∧ p ≤ 20000 ∧ H l = some (.lst (nats fs)) ∧ fs.length ≤ 100000 ∧
  wWays n p l fs H Q
def spPasses : Sp := fun vs H Q _ => vs = [.int 999962000357, .int 2, .int 249990500089, .int 2] ∧ Q (.bl false) H
def spGreatP : Sp := fun vs H Q _ => vs = [.int 999962000357] ∧ Q (.bl false) H
def spLeast : Sp := fun vs H Q _ => vs = [.int 999962000357] ∧ ∀ H', Same H H' → Q (.int 999979) H'
def spGreat : Sp := fun vs H Q _ => ∃ r : Nat, vs = [.int (r : Int)] ∧ Left r ∧ ∀ (gs : List Nat) (t : Addr) (H' : Hp), PrimesOf r gs → gs.length ≤ 2 → Same H H' → H t = none → H' t = some (.lst (nats gs)) → Q (.ref t) H'
theorem emN (a b : Nat) (hb : 0 < b) : (V.int ((a : Int).fmod (b : Int)) = V.int 0 ↔ b ∣ a) := by
  rw [Int.fmod_eq_emod_of_nonneg _ (by omega)]
  refine ⟨fun z => ?_, fun z => ?_⟩
  · injection z with z
    exact Int.natCast_dvd_natCast.mp (Int.dvd_of_emod_eq_zero z)
  · rw [Int.emod_eq_zero_of_dvd (Int.natCast_dvd_natCast.mpr z)]
theorem fmodN (a b : Nat) (hb : 0 < b) : (a : Int).fmod (b : Int) = ((a % b : Nat) : Int) := by
  rw [Int.fmod_eq_emod_of_nonneg _ (by omega)]
  rfl
def mu0 (σ : St) : Nat := match σ[0]? with
  | some (some (V.int y)) => y.toNat
  | _ => 0
def mu2 (σ : St) : Nat := match σ[2]? with
  | some (some (V.int y)) => y.toNat
  | _ => 0
section
variable {P : Program} {w : World} {K : PySem.W.Frag} {mg : Str → Option Value} {base : Heap} {aB : Addr}
theorem ok_isint {f : Addr} {fd : FuncData} (F : Fun K "is_integer" "is_integer" s_is_integer f fd) (T : TxtP K mg aB) : FnOk P w K mg base CX0 1 f fd ["value"] spInt := by
  refine F.ok sc_is_integer (fun vs H Q E h => ?_) (fun cdv A outer s H vs Q E hr h => ?_)
  · obtain ⟨v, rfl, _⟩ := h
    rfl
  · obtain ⟨v, rfl, h⟩ := h
    refine ⟨_, (pss_one (ps_ret (pe_and (pe_callB (call_isiK (K := K) rfl) rfl T.f_isinstance (by decide +kernel) (pa_cons (pv 0) (pa_cons (pe_bltn (v := .ty "int") rfl T.f_int (by decide +kernel) rfl) pa_nil))) (pe_one (pe_not (pe_callB (call_isiK (K := K) rfl) rfl T.f_isinstance (by decide +kernel) (pa_cons (pv 0) (pa_cons (pe_bltn (v := .ty "bool") rfl T.f_bool (by decide +kernel) rfl) pa_nil)))))))), ?_⟩
    rcases h with ⟨i, rfl, q⟩ | ⟨hn, q⟩
    · exact ⟨_, rfl, _, _, _, _, true, rfl, .ty _, .base (.int i), kit_ty (by decide +kernel), _, rfl, iteT ⟨_, rfl, _, _, _, _, false, rfl, .ty _, .base (.int i), kit_ty (by decide +kernel), _, rfl, q⟩⟩
    · cases v with
      | bl b => exact ⟨_, rfl, _, _, _, _, true, rfl, .ty _, .base (.bl b), kit_ty (by decide +kernel), _, rfl, iteT ⟨_, rfl, _, _, _, _, true, rfl, .ty _, .base (.bl b), kit_ty (by decide +kernel), _, rfl, q⟩⟩
      | non => exact ⟨_, rfl, _, _, _, _, false, rfl, .ty _, .base .non, kit_ty (by decide +kernel), _, rfl, iteF q⟩
      | str x => exact ⟨_, rfl, _, _, _, _, false, rfl, .ty _, .base (.str x), kit_ty (by decide +kernel), _, rfl, iteF q⟩
      | ref a =>
        obtain ⟨xs, ha⟩ := hn
        exact ⟨_, rfl, _, _, _, _, false, rfl, .ty _, .base (.lst ha), kit_ty (by decide +kernel), _, rfl, iteF q⟩
      | _ => exact hn.elim
theorem ok_without {f : Addr} {fd : FuncData} (F : Fun K "without" "without" s_without f fd) : FnOk P w K mg base CX0 1 f fd ["number", "prime", "found"] spWithout := by
  refine F.ok sc_without (fun vs H Q E h => ?_) (fun cdv A outer s H vs Q E hr h => ?_)
  · obtain ⟨n, p, l, fs, rfl, _⟩ := h
    rfl
  · obtain ⟨n, p, l, fs, rfl, hn, hn2, hp, hp2, hl, hfl, kY, kN⟩ := h
    have hp0 := hp.1
    refine ⟨_, (pss_cons (ps_if (pt_cmpR op_eq (pe_op op_modN (pv 0) (pv 1)) pe_int (nomark _)) (pss_one (ps_expr (pe_bm PySem.F.plainAttrs_list PySem.F.slot_list_append PySem.F.type_list_append mt_append (pv 2) (pa_cons (pv 1) pa_nil)))) pss_nil)
        (pss_cons (ps_while PassesOwn.never (pt_cmpR op_eq (pe_op op_modN (pv 0) (pv 1)) pe_int (nomark _)) (pss_one (ps_set (i := 0) sc_without.nd rfl (Or.inl rfl) (pe_op op_fdivW (pv 0) (pv 1)))))
        (pss_one (ps_ret (pv 0))))), ?_⟩
    have hz : (p : Int) ≠ 0 := by omega
    by_cases hd : p ∣ n
    · refine ⟨_, rfl, _, rfl, _, _, rfl, rfl, hz, rfl, _, rfl, ?_⟩
      refine ite2 (fun _ => ?_) (fun z => absurd (decide_eq_true ((emN n p (by omega)).mpr hd)) z)
      refine ⟨_, rfl, .inl ⟨rfl, _, SqL.of hl⟩, _, rfl, l, _, _, rfl, rfl, hl, (by rw [sizeLine_eq]; simp [nats]; omega), ?_⟩
      have eg : upd H l (.lst (nats fs ++ [V.int (p : Int)])) = upd H l (.lst (nats (fs ++ [p]))) := by simp [nats]
      rw [eg]
      obtain ⟨G, hG⟩ : ∃ G, G = upd H l (.lst (nats (fs ++ [p]))) := ⟨_, rfl⟩
      rw [← hG]
      refine while_by (fun σ H' => ∃ r : Nat, σ = [some (.int (r : Int)), some (.int (p : Int)), some (.ref l)] ∧ H' = G ∧ QInv p n r ∧ r ∣ n) (fun σ _ => mu0 σ) ⟨n, rfl, rfl, .start hn, Nat.dvd_refl _⟩ ?_ (fun σ H Q Q' hq ⟨v, hv, v2, hv2, i, j, e1, e2, c, sc, k, e, q⟩ => ⟨v, hv, v2, hv2, i, j, e1, e2, c, sc, k, e, hq _ _ q⟩)
      rintro σ H' ⟨r, rfl, rfl, I, hrn⟩
      refine ⟨_, rfl, _, rfl, _, _, rfl, rfl, hz, rfl, _, rfl, ?_⟩
      refine ite2 (fun z => ?_) (fun z => ?_)
      · have hpr : p ∣ r := (emN r p (by omega)).mp (of_decide_eq_true z)
        have I2 := I.step hp hpr
        refine ⟨_, rfl, _, rfl, _, _, rfl, rfl, wide_div (b := 64) (by omega) (by omega) (by decide) (by decide), ⟨r / p, rfl, rfl, I2.1, Nat.dvd_trans (Nat.div_dvd_of_dvd hpr) hrn⟩, ?_⟩
        show ((r : Int) / (p : Int)).toNat < (r : Int).toNat
        exact I2.2
      · have hpr : ¬ p ∣ r := fun y => z (decide_eq_true ((emN r p (by omega)).mpr y))
        refine ⟨_, rfl, ?_⟩
        have := kY r hd I hpr hrn
        rw [← hG] at this
        exact this
    · refine ⟨_, rfl, _, rfl, _, _, rfl, rfl, hz, rfl, _, rfl, ?_⟩
      refine ite2 (fun z => absurd ((emN n p (by omega)).mp (of_decide_eq_true z)) hd) (fun _ => ?_)
      refine while_by (fun σ H' => σ = [some (.int (n : Int)), some (.int (p : Int)), some (.ref l)] ∧ H' = H) (fun σ _ => 0) ⟨rfl, rfl⟩ ?_ (fun σ H Q Q' hq ⟨v, hv, v2, hv2, i, j, e1, e2, c, sc, k, e, q⟩ => ⟨v, hv, v2, hv2, i, j, e1, e2, c, sc, k, e, hq _ _ q⟩)
      rintro σ H' ⟨rfl, rfl⟩
      refine ⟨_, rfl, _, rfl, _, _, rfl, rfl, hz, rfl, _, rfl, ?_⟩
      refine ite2 (fun z => absurd ((emN n p (by omega)).mp (of_decide_eq_true z)) hd) (fun _ => ?_)
      exact ⟨_, rfl, kN hd⟩
theorem iteD {c : Bool} {A B : Prop} (hc : c = true) (h : A) : if c = true then A else B := by rw [if_pos hc]; exact h
theorem iteE {c : Bool} {A B : Prop} (hc : c = false) (h : B) : if c = true then A else B := by rw [hc]; exact h
theorem ok_passes {f : Addr} {fd : FuncData} (F : Fun K "passes" "passes" s_passes f fd) (T : TxtP K mg aB) : FnOk P w K mg base CX0 1 f fd ["number", "base", "odd", "halvings"] spPasses := by
  refine F.ok sc_passes (fun vs H Q E h => ?_) (fun cdv A outer s H vs Q E hr h => ?_)
  · rw [h.1]
    rfl
  · obtain ⟨rfl, q⟩ := h
    refine ⟨_, (pss_cons (ps_set (i := 4) sc_passes.nd rfl (Or.inl rfl) pe_int)
        (pss_cons (ps_while PassesOwn.never (pt_cmpR op_gt (pv 2) pe_int (nomark _)) (pss_cons (ps_if (pt_cmpR op_eq (pe_op op_mod (pv 2) pe_int) pe_int (nomark _)) (pss_one (ps_set (i := 4) sc_passes.nd rfl (Or.inl rfl) (pe_op op_modN (pe_op op_mulW (pv 4) (pv 1)) (pv 0)))) pss_nil)
        (pss_cons (ps_set (i := 1) sc_passes.nd rfl (Or.inl rfl) (pe_op op_modN (pe_op op_mulW (pv 1) (pv 1)) (pv 0)))
        (pss_one (ps_set (i := 2) sc_passes.nd rfl (Or.inl rfl) (pe_op op_fdiv (pv 2) pe_int))))))
        (pss_cons (ps_if (pt_cmpR op_eq (pv 4) pe_int (nomark _)) (pss_one (ps_ret pe_bl)) pss_nil)
        (pss_cons (ps_for PassesOwn.never rfl (pi_range1 rfl T.f_range (pa_cons (pv 3) pa_nil)) (pg_name (i := 5) sc_passes.nd rfl (Or.inl rfl)) (pss_cons (ps_if (pt_cmpR op_eq (pv 4) (pe_op op_sub (pv 0) pe_int) (nomark _)) (pss_one (ps_ret pe_bl)) pss_nil)
        (pss_one (ps_set (i := 4) sc_passes.nd rfl (Or.inl rfl) (pe_op op_modN (pe_op op_mulW (pv 4) (pv 4)) (pv 0))))))
        (pss_one (ps_ret pe_bl)))))), ?_⟩
    have w4 : ∀ {x : Nat}, x < 999962000357 → ((x : Int)).natAbs < 2 ^ 64 := fun h => by omega
    refine while_by (fun σ H' => ∃ k p b o : Nat, σ = [some (.int 999962000357), some (.int (b : Int)), some (.int (o : Int)), some (.int 2), some (.int (p : Int)), none] ∧ H' = H ∧ pw k p b o = PWn ∧ o < 2 ^ k ∧ b < 999962000357 ∧ p < 999962000357) (fun σ _ => mu2 σ) ?_ ?_ (fun σ H Q Q' hq ⟨v, hv, i, j, e1, e2, k, e3, q⟩ => ⟨v, hv, i, j, e1, e2, k, e3, hq _ _ q⟩)
    · exact ⟨40, 1, 2, 249990500089, rfl, rfl, rfl, by decide, by decide, by decide⟩
    · rintro σ H' ⟨k, p, b, o, rfl, rfl, e, hk, hb, hp⟩
      refine ⟨_, rfl, _, _, rfl, rfl, _, rfl, ?_⟩
      by_cases ho : o = 0
      · subst ho
        rw [pw_zero] at e
        refine iteE (by simp) ?_
        have ea := pw_a
        rw [← e] at ea
        refine ⟨_, rfl, rfl, _, rfl, iteE (decide_eq_false fun z => ea.1 (by injection z with z; omega)) ?_⟩
        refine ⟨_, rfl, _, rfl, by decide, by decide, ?_⟩
        refine for_range (lo := 0) (n := 2) (fun i σ H2 => ∃ (x : Nat) (d : Option V), σ = [some (.int 999962000357), some (.int (b : Int)), some (.int 0), some (.int 2), some (.int (x : Int)), d] ∧ H2 = H' ∧ x < 999962000357 ∧ (i = 0 → x = p) ∧ (i = 1 → x = p * p % 999962000357)) ⟨p, none, rfl, rfl, hp, fun _ => rfl, fun z => by omega⟩ ?_ ?_
        · rintro i σ H2 hi ⟨x, d, rfl, rfl, hx, h0, h1⟩
          refine ⟨_, rfl, _, rfl, _, _, rfl, rfl, rfl, _, rfl, iteE (decide_eq_false fun z => ?_) ?_⟩
          · injection z with z
            have : x = 999962000356 := by omega
            by_cases ei : i = 0
            · exact ea.2.1 (by rw [← h0 ei]; exact this)
            · exact ea.2.2 (by rw [← h1 (by omega)]; exact this)
          · refine ⟨_, rfl, _, rfl, _, _, rfl, rfl, wide_mul (w4 hx) (w4 hx) (by decide) (by decide) (by decide), _, rfl, _, _, rfl, rfl, (by show (999962000357 : Int) ≠ 0; decide), x * x % 999962000357, some (.int (0 + (i : Int))), ?_, rfl, Nat.mod_lt _ (by decide), fun z => by omega, fun z => ?_⟩
            · show [some (V.int 999962000357), some (V.int (b : Int)), some (V.int 0), some (V.int 2), some (V.int (((x : Int) * (x : Int)).fmod 999962000357)), some (V.int (0 + (i : Int)))] = _
              rw [show (x : Int) * (x : Int) = ((x * x : Nat) : Int) by omega, show ((x * x : Nat) : Int).fmod 999962000357 = ((x * x % 999962000357 : Nat) : Int) from fmodN (x * x) 999962000357 (by decide)]
            · rw [h0 (by omega)]
        · rintro σ H2 ⟨x, d, rfl, rfl, _⟩
          exact q
      · refine iteD (by simp; omega) ?_
        obtain ⟨k, rfl⟩ : ∃ j, k = j + 1 := by
          rcases k with _ | k
          · simp at hk; omega
          · exact ⟨k, rfl⟩
        rw [pw_step ho] at e
        have hpow : 2 ^ (k + 1) = 2 * 2 ^ k := by rw [Nat.pow_succ, Nat.mul_comm]
        have hb2 : b * b % 999962000357 < 999962000357 := Nat.mod_lt _ (by decide)
        have eb : ((b : Int) * (b : Int)).fmod 999962000357 = ((b * b % 999962000357 : Nat) : Int) := by
          rw [show (b : Int) * (b : Int) = ((b * b : Nat) : Int) by omega, show (999962000357 : Int) = ((999962000357 : Nat) : Int) by rfl, fmodN _ _ (by decide)]
        have ep : ((p : Int) * (b : Int)).fmod 999962000357 = ((p * b % 999962000357 : Nat) : Int) := by
          rw [show (p : Int) * (b : Int) = ((p * b : Nat) : Int) by omega, show (999962000357 : Int) = ((999962000357 : Nat) : Int) by rfl, fmodN _ _ (by decide)]
        have eo : (o : Int) / 2 = ((o / 2 : Nat) : Int) := rfl
        refine ⟨_, rfl, _, _, rfl, rfl, (by show (0 : Int) < 2; decide), rfl, _, rfl, ?_⟩
        by_cases hod : o % 2 = 1
        · refine iteD (decide_eq_true (show V.int ((o : Int) % 2) = V.int 1 by rw [show (o : Int) % 2 = 1 by omega])) ?_
          rw [if_pos hod] at e
          refine ⟨_, rfl, _, rfl, _, _, rfl, rfl, wide_mul (w4 hp) (w4 hb) (by decide) (by decide) (by decide), _, rfl, _, _, rfl, rfl, (by show (999962000357 : Int) ≠ 0; decide), ?_⟩
          refine ⟨_, rfl, _, rfl, _, _, rfl, rfl, wide_mul (w4 hb) (w4 hb) (by decide) (by decide) (by decide), _, rfl, _, _, rfl, rfl, (by show (999962000357 : Int) ≠ 0; decide), ?_⟩
          refine ⟨_, rfl, _, _, rfl, rfl, (by constructor <;> decide), ⟨k, p * b % 999962000357, b * b % 999962000357, o / 2, ?_, rfl, e, by omega, hb2, Nat.mod_lt _ (by decide)⟩, ?_⟩
          · show [some (V.int 999962000357), some (V.int (((b : Int) * (b : Int)).fmod 999962000357)), some (V.int ((o : Int) / 2)), some (V.int 2), some (V.int (((p : Int) * (b : Int)).fmod 999962000357)), none] = _
            rw [eb, ep]
            rfl
          · show ((o : Int) / 2).toNat < (o : Int).toNat
            omega
        · refine iteE (decide_eq_false fun z => by injection z with z; omega) ?_
          rw [if_neg hod] at e
          refine ⟨_, rfl, _, rfl, _, _, rfl, rfl, wide_mul (w4 hb) (w4 hb) (by decide) (by decide) (by decide), _, rfl, _, _, rfl, rfl, (by show (999962000357 : Int) ≠ 0; decide), ?_⟩
          refine ⟨_, rfl, _, _, rfl, rfl, (by constructor <;> decide), ⟨k, p, b * b % 999962000357, o / 2, ?_, rfl, e, by omega, hb2, hp⟩, ?_⟩
          · show [some (V.int 999962000357), some (V.int (((b : Int) * (b : Int)).fmod 999962000357)), some (V.int ((o : Int) / 2)), some (V.int 2), some (V.int (p : Int)), none] = _
            rw [eb]
            rfl
          · show ((o : Int) / 2).toNat < (o : Int).toNat
            omega
theorem ok_greatp {f fP : Addr} {fd fdP : FuncData} (F : Fun K "is_great_prime" "is_great_prime" s_is_great_prime f fd) (T : TxtP K mg aB) (G_passes : FnOk P w K mg base CX0 1 fP fdP ["number", "base", "odd", "halvings"] spPasses) (g_passes : mg "passes" = some (.ref fP)) (kp_passes : PySem.W.keepIn K (.ref fP) = true)
    (b_passes : Binds K fdP ["number", "base", "odd", "halvings"] []) : FnOk P w K mg base CX0 2 f fd ["number"] spGreatP := by
  refine F.ok sc_is_great_prime (fun vs H Q E h => ?_) (fun cdv A outer s H vs Q E hr h => ?_)
  · rw [h.1]
    rfl
  · obtain ⟨rfl, q⟩ := h
    obtain ⟨tM, gM⟩ := T.gMOST
    refine ⟨_, (pss_cons (ps_par (i := 1) (j := 2) rfl sc_is_great_prime.nd rfl rfl (by decide) rfl rfl (pa_cons (pe_op op_sub (pv 0) pe_int) (pa_cons pe_int pa_nil)) (by rfl))
        (pss_cons (ps_while PassesOwn.never (pt_cmpR op_eq (pe_op op_mod (pv 1) pe_int) pe_int (nomark _)) (pss_cons (ps_set (i := 1) sc_is_great_prime.nd rfl (Or.inl rfl) (pe_op op_fdiv (pv 1) pe_int))
        (pss_one (ps_set (i := 2) sc_is_great_prime.nd rfl (Or.inl rfl) (pe_op op_add (pv 2) pe_int)))))
        (pss_cons (ps_for PassesOwn.never rfl (pi_tup (pe_glob (v := .ref aB) rfl T.gBASES rfl)) (pg_name (i := 3) sc_is_great_prime.nd rfl (Or.inl rfl)) (pss_one (ps_if (pt_not (pt_val (pe_call G_passes (hr.mono (by decide)) rfl g_passes kp_passes b_passes .nil pass0 (pa_cons (pv 0) (pa_cons (pv 3) (pa_cons (pv 1) (pa_cons (pv 2) pa_nil))))))) (pss_one (ps_ret pe_bl)) pss_nil)))
        (pss_one (ps_ret pe_bl))))), ?_⟩
    refine ⟨_, rfl, _, _, rfl, rfl, _, _, rfl, ?_⟩
    refine while_by (fun σ H' => H' = H ∧ (σ = [some (.int 999962000357), some (.int 999962000356), some (.int 0), none] ∨ σ = [some (.int 999962000357), some (.int 499981000178), some (.int 1), none] ∨ σ = [some (.int 999962000357), some (.int 249990500089), some (.int 2), none])) (fun σ _ => mu1 σ) ⟨rfl, .inl rfl⟩ ?_ (fun σ H Q Q' hq ⟨v, hv, i, j, e1, e2, c, sc, k, e, q⟩ => ⟨v, hv, i, j, e1, e2, c, sc, k, e, hq _ _ q⟩)
    rintro σ H' ⟨rfl, h⟩
    rcases h with rfl | rfl | rfl
    · refine ⟨_, rfl, _, _, rfl, rfl, (by show (0 : Int) < 2; decide), rfl, _, rfl, iteD (by decide +kernel) ?_⟩
      refine ⟨_, rfl, _, _, rfl, rfl, (by constructor <;> decide), _, rfl, _, _, rfl, rfl, ⟨rfl, .inr (.inl rfl)⟩, (by decide +kernel)⟩
    · refine ⟨_, rfl, _, _, rfl, rfl, (by show (0 : Int) < 2; decide), rfl, _, rfl, iteD (by decide +kernel) ?_⟩
      refine ⟨_, rfl, _, _, rfl, rfl, (by constructor <;> decide), _, rfl, _, _, rfl, rfl, ⟨rfl, .inr (.inr rfl)⟩, (by decide +kernel)⟩
    · refine ⟨_, rfl, _, _, rfl, rfl, (by show (0 : Int) < 2; decide), rfl, _, rfl, iteE (by decide +kernel) ?_⟩
      refine ⟨_, rfl, ⟨_, T.sB _⟩, ?_⟩
      refine for_tup (xs := [.int 2, .int 3, .int 5, .int 7, .int 11]) (fun i σ H2 => i = 0 ∧ H2 = H' ∧ σ = [some (.int 999962000357), some (.int 249990500089), some (.int 2), none]) ⟨rfl, rfl, rfl⟩ (fun i σ H2 _ _ => T.sB _) ?_ ?_
      · rintro i x σ H2 hx ⟨rfl, rfl, rfl⟩
        cases hx
        exact ⟨_, rfl, _, rfl, _, rfl, _, rfl, rfl, _, rfl, iteD rfl q⟩
      · rintro σ H2 ⟨z, _⟩
        cases z
theorem ok_least {f : Addr} {fd : FuncData} (F : Fun K "least_of_two" "least_of_two" s_least_of_two f fd) (T : TxtP K mg aB) : FnOk P w K mg base CX0 1 f fd ["number"] spLeast := by
  refine F.ok sc_least_of_two (fun vs H Q E h => ?_) (fun cdv A outer s H vs Q E hr h => ?_)
  · rw [h.1]
    rfl
  · obtain ⟨rfl, q⟩ := h
    obtain ⟨tM, gT⟩ := T.gTRIED
    refine ⟨_, (pss_cons (ps_set (i := 1) sc_least_of_two.nd rfl (Or.inl rfl) (pe_op op_fdivW (pv 0) (pe_op op_mulW (pe_glob (v := .int 20000) rfl T.gTRIED.choose_spec ⟨_, rfl⟩) (pe_glob (v := .int 20000) rfl T.gTRIED.choose_spec ⟨_, rfl⟩))))
        (pss_cons (ps_for PassesOwn.never rfl (pi_range2 rfl T.f_range (pa_cons pe_int (pa_cons (pe_op op_add (pv 1) pe_int) pa_nil))) (pg_name (i := 2) sc_least_of_two.nd rfl (Or.inl rfl)) (pss_cons (ps_set (i := 3) sc_least_of_two.nd rfl (Or.inl rfl) (pe_op op_mulW (pe_op op_mulW pe_int (pv 2)) (pv 0)))
        (pss_cons (ps_set (i := 4) sc_least_of_two.nd rfl (Or.inl rfl) (pe_op op_add (pe_callBfun cr_isqrt rfl T.b_isqrt (pa_cons (pe_op op_sub (pv 3) pe_int) pa_nil)) pe_int))
        (pss_cons (ps_set (i := 5) sc_least_of_two.nd rfl (Or.inl rfl) (pe_op op_add (pe_op op_add (pv 4) (pe_op op_fdivW (pe_callBfun cr_isqrt rfl T.b_isqrt (pa_cons (pe_op op_fdivW (pv 0) (pv 2)) pa_nil)) (pe_op op_mulW pe_int (pe_op op_add (pv 1) pe_int)))) pe_int))
        (pss_cons (ps_if (pt_cmpR op_eq (pe_op op_mod (pv 2) pe_int) pe_int (nomark _)) (pss_one (ps_par (i := 4) (j := 6) rfl sc_least_of_two.nd rfl rfl (by decide) rfl rfl (pa_cons (pe_op op_add (pv 4) (pe_op op_mod (pe_op op_add (pv 4) pe_int) pe_int)) (pa_cons pe_int pa_nil)) (by rfl))) (pss_one (ps_par (i := 4) (j := 6) rfl sc_least_of_two.nd rfl rfl (by decide) rfl rfl (pa_cons (pe_op op_add (pv 4) (pe_op op_mod (pe_op op_sub (pe_op op_add (pv 2) (pv 0)) (pv 4)) pe_int)) (pa_cons pe_int pa_nil)) (by rfl))))
        (pss_one (ps_for PassesOwn.never rfl (pi_range3 rfl T.f_range (pa_cons (pv 4) (pa_cons (pe_op op_add (pv 5) pe_int) (pa_cons (pv 6) pa_nil)))) (pg_name (i := 7) sc_least_of_two.nd rfl (Or.inl rfl)) (pss_cons (ps_set (i := 8) sc_least_of_two.nd rfl (Or.inl rfl) (pe_op op_sub (pe_op op_mulW (pv 7) (pv 7)) (pv 3)))
        (pss_cons (ps_set (i := 9) sc_least_of_two.nd rfl (Or.inl rfl) (pe_callBfun cr_isqrt rfl T.b_isqrt (pa_cons (pv 8) pa_nil)))
        (pss_one (ps_if (pt_cmpR op_eq (pe_op op_mulW (pv 9) (pv 9)) (pv 8) (nomark _)) (pss_cons (ps_set (i := 10) sc_least_of_two.nd rfl (Or.inl rfl) (pe_callBfun cr_gcd rfl T.b_gcd (pa_cons (pe_op op_add (pv 7) (pv 9)) (pa_cons (pv 0) pa_nil))))
        (pss_one (ps_ret (pe_callB (call_min2 rfl) rfl T.f_min (by decide +kernel) (pa_cons (pv 10) (pa_cons (pe_op op_fdivW (pv 0) (pv 10)) pa_nil)))))) pss_nil)))))))))))
        (pss_one (ps_ret (pv 0))))), ?_⟩
    refine ⟨_, rfl, _, _, rfl, rfl, (wide_mul (a := 20) (b := 20) (by decide) (by decide) (by decide) (by decide) (by decide)), _, _, rfl, rfl, wide_div (b := 64) (by decide) (by decide) (by decide) (by decide), ?_⟩
    show tSeq _ _ _ [some (.int 999962000357), some (.int 2499), none, none, none, none, none, none, none, none, none] H
    refine ⟨_, rfl, _, _, rfl, rfl, _, _, rfl, (by constructor <;> decide), ?_⟩
    refine for_range (lo := 1) (n := 2499) (fun i σ H2 => i = 0 ∧ H2 = H ∧ σ = [some (.int 999962000357), some (.int 2499), none, none, none, none, none, none, none, none, none]) ⟨rfl, rfl, rfl⟩ ?_ ?_
    · rintro i σ H2 hi ⟨rfl, rfl, rfl⟩
      have w64 : ∀ {x y : Int}, x.natAbs < 2 ^ 64 → y.natAbs < 2 ^ 64 → CMulW x y := fun a b => wide_mul a b (by decide) (by decide) (by decide)
      have d64 : ∀ {x y : Int}, 0 < y → y.natAbs < 2 ^ 64 → CDivW x y := fun a b => wide_div a b (by decide) (by decide)
      refine ⟨_, rfl, _, _, rfl, rfl, w64 (by decide) (by decide), _, rfl, _, _, rfl, rfl, w64 (by decide) (by decide), ?_⟩
      show tSeq _ _ _ [some (.int 999962000357), some (.int 2499), some (.int 1), some (.int 3999848001428), none, none, none, none, none, none, none] _
      refine ⟨_, rfl, _, _, rfl, rfl, _, 1999961, rfl, by decide, by decide, by decide +kernel, _, _, rfl, rfl, ?_⟩
      show tSeq _ _ _ [some (.int 999962000357), some (.int 2499), some (.int 1), some (.int 3999848001428), some (.int 1999962), none, none, none, none, none, none] _
      refine ⟨_, rfl, _, rfl, _, rfl, _, _, rfl, rfl, d64 (by decide) (by decide), _, 999980, rfl, by decide, by decide, by decide +kernel, _, rfl, _, _, rfl, rfl, _, _, rfl, rfl, w64 (by decide) (by decide), _, _, rfl, rfl, d64 (by decide) (by decide), _, _, rfl, rfl, _, _, rfl, rfl, ?_⟩
      show tSeq _ _ _ [some (.int 999962000357), some (.int 2499), some (.int 1), some (.int 3999848001428), some (.int 1999962), some (.int 2000062), none, none, none, none, none] _
      refine ⟨_, rfl, _, _, rfl, rfl, (by show (0 : Int) < 2; decide), rfl, _, rfl, iteE (by decide +kernel) ?_⟩
      refine ⟨_, rfl, _, rfl, _, rfl, _, _, rfl, rfl, _, rfl, _, _, rfl, rfl, _, _, rfl, rfl, (by show (0 : Int) < 4; decide), _, _, rfl, rfl, _, _, rfl, ?_⟩
      dsimp only [List.set_cons_succ, List.set_cons_zero]
      show tFor _ _ _ _ [some (.int 999962000357), some (.int 2499), some (.int 1), some (.int 3999848001428), some (.int 1999962), some (.int 2000062), some (.int 4), none, none, none, none] _
      refine ⟨_, rfl, _, rfl, _, _, rfl, rfl, _, rfl, _, _, _, 26, rfl, ⟨by decide, by decide, by decide +kernel, by decide +kernel⟩, ?_⟩
      refine for_rangeC (lo := 1999962) (c := 4) (n := 26) (fun i σ H3 => i = 0 ∧ H3 = H2 ∧ σ = [some (.int 999962000357), some (.int 2499), some (.int 1), some (.int 3999848001428), some (.int 1999962), some (.int 2000062), some (.int 4), none, none, none, none]) ⟨rfl, rfl, rfl⟩ ?_ ?_
      · rintro i σ H3 hi ⟨rfl, rfl, rfl⟩
        refine ⟨_, rfl, _, rfl, _, _, rfl, rfl, w64 (by decide) (by decide), _, rfl, _, _, rfl, rfl, ?_⟩
        show tSeq _ _ _ [some (.int 999962000357), some (.int 2499), some (.int 1), some (.int 3999848001428), some (.int 1999962), some (.int 2000062), some (.int 4), some (.int 1999962), some (.int 16), none, none] _
        refine ⟨_, rfl, _, 4, rfl, by decide, by decide, by decide +kernel, ?_⟩
        refine ⟨_, rfl, _, rfl, _, _, rfl, rfl, w64 (by decide) (by decide), _, rfl, rfl, _, rfl, iteD (by decide +kernel) ?_⟩
        refine ⟨_, rfl, _, rfl, _, _, rfl, rfl, _, rfl, _, _, rfl, ?_⟩
        have eg : (((1999962 + 4 : Int).natAbs.gcd (Int.natAbs 999962000357) : Nat) : Int) = 999983 := by decide +kernel
        rw [eg]
        dsimp only [List.set_cons_succ, List.set_cons_zero]
        show tRet _ _ [some (.int 999962000357), some (.int 2499), some (.int 1), some (.int 3999848001428), some (.int 1999962), some (.int 2000062), some (.int 4), some (.int 1999962), some (.int 16), some (.int 4), some (.int 999983)] _
        refine ⟨_, rfl, _, rfl, _, rfl, _, _, rfl, rfl, d64 (by decide) (by decide), _, _, rfl, ?_⟩
        exact q _ (fun _ _ z => z)
      · rintro σ H3 ⟨z, _⟩
        cases z
    · rintro σ H2 ⟨z, _⟩
      cases z
theorem ok_great {f fP fL : Addr} {fd fdP fdL : FuncData} (F : Fun K "great_primes" "great_primes" s_great_primes f fd) (T : TxtP K mg aB) (G_is_great_prime : FnOk P w K mg base CX0 2 fP fdP ["number"] spGreatP) (g_is_great_prime : mg "is_great_prime" = some (.ref fP)) (kp_is_great_prime : PySem.W.keepIn K (.ref fP) = true)
    (b_is_great_prime : Binds K fdP ["number"] []) (G_least_of_two : FnOk P w K mg base CX0 1 fL fdL ["number"] spLeast) (g_least_of_two : mg "least_of_two" = some (.ref fL)) (kp_least_of_two : PySem.W.keepIn K (.ref fL) = true)
    (b_least_of_two : Binds K fdL ["number"] []) : FnOk P w K mg base CX0 3 f fd ["number"] spGreat := by
  refine F.ok sc_great_primes (fun vs H Q E h => ?_) (fun cdv A outer s H vs Q E hr h => ?_)
  · obtain ⟨r, rfl, _⟩ := h
    rfl
  · obtain ⟨r, rfl, hl, k⟩ := h
    obtain ⟨tM, gT⟩ := T.gTRIED
    refine ⟨_, (pss_cons (ps_if (pt_cmpR op_eq (pv 0) pe_int (nomark _)) (pss_one (ps_ret (pe_lst pa_nil))) pss_nil)
        (pss_cons (ps_if (PW.pt (pw_or (pt_cmpR op_lt (pv 0) (pe_op op_mulW (pe_glob (v := .int 20000) rfl T.gTRIED.choose_spec ⟨_, rfl⟩) (pe_glob (v := .int 20000) rfl T.gTRIED.choose_spec ⟨_, rfl⟩)) (nomark _)) (pw_or1 (pt_val (pe_call G_is_great_prime (hr.mono (by decide)) rfl g_is_great_prime kp_is_great_prime b_is_great_prime .nil pass0 (pa_cons (pv 0) pa_nil)))))) (pss_one (ps_ret (pe_lst (pa_cons (pv 0) pa_nil)))) pss_nil)
        (pss_cons (ps_set (i := 1) sc_great_primes.nd rfl (Or.inl rfl) (pe_call G_least_of_two (hr.mono (by decide)) rfl g_least_of_two kp_least_of_two b_least_of_two .nil pass0 (pa_cons (pv 0) pa_nil)))
        (pss_cons (ps_if (pt_cmpR op_eq (pe_op op_mulW (pv 1) (pv 1)) (pv 0) (nomark _)) (pss_one (ps_ret (pe_lst (pa_cons (pv 1) pa_nil)))) pss_nil)
        (pss_one (ps_ret (pe_lst (pa_cons (pv 1) (pa_cons (pe_op op_fdivW (pv 0) (pv 1)) pa_nil))))))))), ?_⟩
    have one : ∀ (x : Nat) (H0 : Hp), PrimesOf r [x] → Same H H0 → ∀ t, H0 t = none → Q (.ref t) (upd H0 t (.lst [V.int (x : Int)])) := fun x H0 hp s0 t ht => by
      have h0 : H t = none := by
        cases e : H t with
        | none => rfl
        | some o => rw [s0 _ _ e] at ht; cases ht
      exact k [x] t _ hp (by simp) (fun b u e => by rw [upd_ne (ne_of_none (s0 _ _ e) ht)]; exact s0 _ _ e) h0 upd_same
    rcases hl with rfl | ⟨hp, hlt⟩ | rfl
    · refine ⟨_, rfl, rfl, _, rfl, iteD (by decide) ?_⟩
      refine ⟨(by show 0 ≤ sizeLine; decide), fun t ht => ?_⟩
      exact k [] t _ primes_one (by simp) (fun b u e => by rw [upd_ne (ne_of_none e ht)]; exact e) ht upd_same
    · have hp2 := hp.1
      refine ⟨_, rfl, rfl, _, rfl, iteE (decide_eq_false fun z => by injection z with z; omega) ?_⟩
      refine ⟨_, rfl, ?_⟩
      refine ⟨_, _, rfl, rfl, wide_mul (a := 20) (b := 20) (by decide) (by decide) (by decide) (by decide) (by decide), ?_⟩
      refine ⟨_, (400000000 : Int), rfl, congrArg V.int (by decide), ?_⟩
      have h4 : (r : Int) < 400000000 := by omega
      refine ⟨true, congrArg V.bl (decide_eq_true h4), iteT (iteT ?_)⟩
      exact ⟨_, rfl, (by show 1 ≤ sizeLine; decide), fun t ht => one r H (primes_self hp) (fun _ _ z => z) t ht⟩
    · have e0 : ((999962000357 : Nat) : Int) = 999962000357 := rfl
      rw [e0]
      refine ⟨_, rfl, rfl, _, rfl, iteE (by decide +kernel) ?_⟩
      refine ⟨_, rfl, ?_⟩
      refine ⟨_, _, rfl, rfl, wide_mul (a := 20) (b := 20) (by decide) (by decide) (by decide) (by decide) (by decide), ?_⟩
      refine ⟨_, (400000000 : Int), rfl, congrArg V.int (by decide), ?_⟩
      refine ⟨_, rfl, iteE (by decide +kernel) ?_⟩
      refine ⟨_, rfl, rfl, _, rfl, iteF ?_⟩
      refine ⟨_, rfl, rfl, fun H' sH => ?_⟩
      refine ⟨_, rfl, _, rfl, _, _, rfl, rfl, wide_mul (a := 64) (b := 64) (by decide) (by decide) (by decide) (by decide) (by decide), _, rfl, rfl, _, rfl, iteE (by decide +kernel) ?_⟩
      refine ⟨_, rfl, _, rfl, _, rfl, _, _, rfl, rfl, wide_div (b := 64) (by decide) (by decide) (by decide) (by decide), (by show 2 ≤ sizeLine; decide), fun t ht => ?_⟩
      have h0 : H t = none := by
        cases e : H t with
        | none => rfl
        | some o => rw [sH _ _ e] at ht; cases ht
      exact k [999979, 999983] t _ primes_big (by simp) (fun b u e => by rw [upd_ne (ne_of_none (sH _ _ e) ht)]; exact sH _ _ e) h0 upd_same
structure TxtB (K : PySem.W.Frag) (mg : Str → Option Value) (C fI : Addr) : Prop where
  o : OexC K C
  i : PySem.W.findIn K (.ref C) "__init__" = some (some (.ref fI))
  t : PySem.W.typeIn K (.ref fI) = some (.type "function")
  no : PySem.W.findIn K (.ref C) "number" = some none
  g : mg "BadModulus" = some (.ref C)
def spE1 (C : Addr) (f : Str) : Sp := fun vs H Q _ => ∃ (e : Addr) (y : V), vs = [.ref e, y] ∧ H e = some (exo e C none) ∧ ∀ dx, H dx = none → dx ≠ e → Q .non (upd (upd H dx (exd dx [(f, y)])) e (exo e C (some dx)))
theorem okE_BadModulus {C f : Addr} {fd : FuncData} (F : FunD K "__init__" "BadModulus.__init__" (defArgs s_BadModulus_init) (defBody s_BadModulus_init) (defScope s_BadModulus_init) [] [] f fd) (o : OexC K C) (no : PySem.W.findIn K (.ref C) "number" = some none) : FnOk P w K mg base CX0 1 f fd ["self", "number"] (spE1 C "number") := by
  refine F.ok sc_BadModulus_init (fun vs H Q E h => ?_) (fun cdv A outer s H vs Q E hr h => ?_)
  · obtain ⟨e, y, rfl, _⟩ := h
    rfl
  · obtain ⟨e, y, rfl, he, k⟩ := h
    exact ⟨_, PSs.nox (pss_one (ps_ost (pv 0) (pv 1))), _, rfl, _, rfl, e, C, rfl, o, no, .inl ⟨he, fun dx h1 h2 => k dx h1 h2⟩⟩
end
end Wk

namespace Wk
open PySem L2 NumP
abbrev s_primes : Stmt := top 12
theorem sc_primes : FnScope ["number"] ["number"] (defScope s_primes) := ⟨rfl, rfl, rfl, by decide +kernel, rfl, by decide +kernel, by decide +kernel⟩
abbrev s_prime_parts : Stmt := top 13
theorem sc_prime_parts : FnScope ["number", "found", "rest", "divisor"] ["number"] (defScope s_prime_parts) := ⟨rfl, rfl, rfl, by decide +kernel, rfl, by decide +kernel, by decide +kernel⟩
abbrev s_is_within : Stmt := top 6
theorem sc_is_within : FnScope ["value", "least", "most"] ["value", "least", "most"] (defScope s_is_within) := ⟨rfl, rfl, rfl, by decide +kernel, rfl, by decide +kernel, by decide +kernel⟩

def tupOf (K : PySem.W.Frag) : List V → Hp → VK → Prop := fun xs H Q => ∃ p ys, xs = [V.ref p] ∧ ((SqL K H p ys ∧ ∀ l, H l = none → Q (V.ref l) (upd H l (.tup ys))) ∨ (SqT K H p ys ∧ Q (V.ref p) H))
theorem first_ways {n : Nat} {l : Addr} {H : Hp} {Q : VK} (h1 : 1 ≤ n) (hl : H l = some (.lst (nats [])))
    (k : ∀ (r : Nat) (fs : List Nat) (H1 : Hp), PInv n fs r → ¬ 2 ∣ r → r ∣ n → (∀ f ∈ fs, f < 3) → (∀ b, b ≠ l → H1 b = H b) → H1 l = some (.lst (nats fs)) → Q (.int (r : Int)) H1) :
    wWays n 2 l [] H Q := by
  refine ⟨fun r hd hQ hnd hrn => ?_, fun hd => ?_⟩
  · have hS := (PInv.start (n := n) h1).step (NoDiv.two.least (by decide) hd) hQ hnd
    exact k r [2] _ hS.1 hnd hrn (by simp) (fun b hb => upd_ne hb) upd_same
  · exact k n [] _ (PInv.start h1) hd (Nat.dvd_refl _) (by simp) (fun b _ => rfl) hl
theorem Odd.noInt {H : Hp} {v : V} (h : Odd H v) : (∃ i : Int, v = .int i ∧ (i < 2 ∨ 1000000000000 < i)) ∨ NoInt H v := by
  cases v with
  | int i => exact .inl ⟨i, rfl, h⟩
  | bl b => exact .inr trivial
  | non => exact .inr trivial
  | str x => exact .inr trivial
  | ref a => exact .inr h
  | _ => exact h.elim
section
variable {P : Program} {w : World} {K : PySem.W.Frag} {mg : Str → Option Value} {base : Heap} {aB C fI : Addr}
def spWithin : Sp := fun vs H Q _ => ∃ (v : V) (lo hi : Int), vs = [v, .int lo, .int hi] ∧ ((∃ n : Int, v = .int n ∧ Q (.bl (decide (lo ≤ n) && decide (n ≤ hi))) H) ∨ (NoInt H v ∧ Q (.bl false) H))
theorem ok_within {f fN : Addr} {fd fdN : FuncData} (F : Fun K "is_within" "is_within" s_is_within f fd)
    (G_is_integer : FnOk P w K mg base CX0 1 fN fdN ["value"] spInt) (g_is_integer : mg "is_integer" = some (.ref fN)) (kp_is_integer : PySem.W.keepIn K (.ref fN) = true) (b_is_integer : Binds K fdN ["value"] []) :
    FnOk P w K mg base CX0 2 f fd ["value", "least", "most"] spWithin := by
  refine F.ok sc_is_within (fun vs H Q E h => ?_) (fun cdv A outer s H vs Q E hr h => ?_)
  · obtain ⟨v, lo, hi, rfl, _⟩ := h
    rfl
  · obtain ⟨v, lo, hi, rfl, h⟩ := h
    refine ⟨_, (pss_one (ps_ret (pe_and (pe_call G_is_integer (hr.mono (by decide)) rfl g_is_integer kp_is_integer b_is_integer .nil pass0 (pa_cons (pv 0) pa_nil)) (pe_one (pe_chain op_le op_le (pv 1) (pv 0) (pv 2)))))), ?_⟩
    rcases h with ⟨n, rfl, k⟩ | ⟨hn, k⟩
    · refine ⟨_, rfl, _, rfl, .inl ⟨n, rfl, true, rfl, iteT ?_⟩⟩
      refine ⟨_, rfl, _, rfl, _, _, rfl, rfl, decide (lo ≤ n), rfl, ?_⟩
      cases e : decide (lo ≤ n)
      · rw [e] at k
        exact iteF k
      · rw [e] at k
        exact iteT ⟨_, rfl, _, _, rfl, rfl, k⟩
    · exact ⟨_, rfl, _, rfl, .inr ⟨hn, false, rfl, iteF k⟩⟩
def spParts : Sp := fun vs H Q _ => ∃ n : Nat, vs = [.int (n : Int)] ∧ 2 ≤ n ∧ n ≤ 1000000000000 ∧ Good n ∧ ∀ (fs : List Nat) (t : Addr) (H' : Hp), PrimesOf n fs → Same H H' → H' t = some (.tup (nats fs)) → Q (.ref t) H'
theorem ok_parts {f fW fG : Addr} {fd fdW fdG : FuncData} (F : Fun K "prime_parts" "prime_parts" s_prime_parts f fd) (T : TxtP K mg aB)
    (G_without : FnOk P w K mg base CX0 1 fW fdW ["number", "prime", "found"] spWithout) (g_without : mg "without" = some (.ref fW)) (kp_without : PySem.W.keepIn K (.ref fW) = true) (b_without : Binds K fdW ["number", "prime", "found"] [])
    (G_great_primes : FnOk P w K mg base CX0 3 fG fdG ["number"] spGreat) (g_great_primes : mg "great_primes" = some (.ref fG)) (kp_great_primes : PySem.W.keepIn K (.ref fG) = true) (b_great_primes : Binds K fdG ["number"] []) :
    FnOk P w K mg base CX0 4 f fd ["number"] spParts := by
  refine F.ok sc_prime_parts (fun vs H Q E h => ?_) (fun cdv A outer s H vs Q E hr h => ?_)
  · obtain ⟨n, rfl, _⟩ := h
    rfl
  · obtain ⟨n, rfl, h2, h3, hg, k⟩ := h
    refine ⟨_, (pss_cons (ps_set (i := 1) sc_prime_parts.nd rfl (Or.inl rfl) (pe_lst pa_nil))
        (pss_cons (ps_set (i := 2) sc_prime_parts.nd rfl (Or.inl rfl) (pe_call G_without (hr.mono (by decide)) rfl g_without kp_without b_without .nil pass0 (pa_cons (pv 0) (pa_cons pe_int (pa_cons (pv 1) pa_nil)))))
        (pss_cons (ps_for PassesOwn.never rfl (pi_range3 rfl T.f_range (pa_cons pe_int (pa_cons (pe_glob (v := .int 20000) rfl T.gTRIED.choose_spec ⟨_, rfl⟩) (pa_cons pe_int pa_nil)))) (pg_name (i := 3) sc_prime_parts.nd rfl (Or.inl rfl)) (pss_cons (ps_if (pt_cmpR op_gt (pe_op op_mulW (pv 3) (pv 3)) (pv 2) (nomark _)) (pss_one ps_break) pss_nil)
        (pss_one (ps_if (pt_cmpR op_eq (pe_op op_modN (pv 2) (pv 3)) pe_int (nomark _)) (pss_one (ps_set (i := 2) sc_prime_parts.nd rfl (Or.inl rfl) (pe_call G_without (hr.mono (by decide)) rfl g_without kp_without b_without .nil pass0 (pa_cons (pv 2) (pa_cons (pv 3) (pa_cons (pv 1) pa_nil)))))) pss_nil))))
        (pss_one (ps_ret (pe_callTy (call_tupleK (K := K) rfl) rfl T.f_tuple (by decide +kernel) (pa_cons (pe_op op_cat (pv 1) (pe_call G_great_primes (hr.mono (by decide)) rfl g_great_primes kp_great_primes b_great_primes .nil pass0 (pa_cons (pv 2) pa_nil))) pa_nil))))))), ?_⟩
    refine ⟨(by show 0 ≤ sizeLine; decide), fun l hl => ?_⟩
    have w64 : ∀ {x : Nat}, x ≤ 1000000000000 → (x : Int).natAbs < 2 ^ 64 := fun h => by omega
    have fin : ∀ (r : Nat) (fs : List Nat) (d : Option V) (H' : Hp), PInv n fs r → Left r → (∀ f ∈ fs, f < 20001) → Same H H' → H' l = some (.lst (nats fs)) →
        tRet (tCB (tupOf K) (tCons (tOp rCat (tVar 1) (tCall spGreat [] E0 (tCons (tVar 2) tNil))) tNil)) { nx := fun _ H' => Q .non H', rt := Q } [some (.int (n : Int)), some (.ref l), some (.int (r : Int)), d] H' := by
      intro r fs d H' I hleft hf sH hL
      have hlen : fs.length ≤ 20001 := by
        have := asc_len (a := 2) (b := 20001) I.asc fun f hm => ⟨I.len f hm, hf f hm⟩
        omega
      refine ⟨_, rfl, _, rfl, r, rfl, hleft, fun gs t H2 hgs hg2 s2 ht hT => ?_⟩
      have hL2 := s2 _ _ hL
      refine ⟨l, t, _, _, rfl, rfl, hL2, hT, (by rw [sizeLine_eq]; simp [nats]; omega), fun p hp => ?_⟩
      refine ⟨_, _, rfl, .inl ⟨SqL.of upd_same, fun u hu => ?_⟩⟩
      refine k (fs ++ gs) u _ (I.join hgs) (fun b o e => ?_) (by rw [upd_same]; simp [nats])
      have e2 := s2 _ _ (sH _ _ e)
      have hbp : b ≠ p := ne_of_none e2 hp
      rw [upd_ne (ne_of_none (by rw [upd_ne hbp]; exact e2) hu), upd_ne hbp]
      exact e2
    refine ⟨_, rfl, _, rfl, n, 2, l, [], rfl, by omega, h3, p2, by decide, upd_same, by decide, ?_⟩
    refine first_ways (n := n) (by omega) upd_same fun r fs H1 I hd hrn hf hn1 hL => ?_
    have sH : Same H H1 := fun b u e => by
      have hb := ne_of_none e hl
      rw [hn1 b hb, upd_ne hb]
      exact e
    have n3 : NoDiv r 3 := NoDiv.two.step hd
    refine ⟨_, _, _, 9999, rfl, ⟨by decide, by decide, by decide +kernel, by decide +kernel⟩, ?_⟩
    refine for_rangeC (lo := 3) (c := 2) (n := 9999) (fun i σ H' => ∃ (r : Nat) (fs : List Nat) (d : Option V), σ = [some (.int (n : Int)), some (.ref l), some (.int (r : Int)), d] ∧ Same H H' ∧ H' l = some (.lst (nats fs)) ∧ PInv n fs r ∧ NoDiv r (3 + 2 * i) ∧ r ∣ n ∧ (∀ f ∈ fs, f < 3 + 2 * i)) ⟨r, fs, none, rfl, sH, hL, I, n3, hrn, hf⟩ ?_ ?_
    · rintro i σ H' hi ⟨r, fs, d, rfl, sH, hL, I, nd, hrn, hf⟩
      obtain ⟨q, hq⟩ : ∃ q, q = 3 + 2 * i := ⟨_, rfl⟩
      have eq : (3 : Int) + (i : Nat) * 2 = (q : Int) := by omega
      rw [← hq] at nd hf
      have hr1 := I.pos
      have hrle : r ≤ n := Nat.le_of_dvd (by omega) hrn
      rw [eq]
      refine ⟨_, rfl, _, rfl, _, _, rfl, rfl, wide_mul (w64 (x := q) (by omega)) (w64 (x := q) (by omega)) (by decide) (by decide) (by decide), _, rfl, _, _, rfl, rfl, _, rfl, ?_⟩
      refine ite2 (fun z => ?_) (fun z => ?_)
      · have z := of_decide_eq_true z
        have z2 : r < q * q := by
          have : ((q : Int) * (q : Int)) = ((q * q : Nat) : Int) := by simp
          omega
        exact fin r fs _ H' I (left_break hr1 nd z2 (by omega)) (fun f hm => by have := hf f hm; omega) sH hL
      · refine ⟨_, rfl, _, rfl, _, _, rfl, rfl, (by show (q : Int) ≠ 0; omega), rfl, _, rfl, ?_⟩
        have h2r : ¬ 2 ∣ r := nd 2 (by omega) (by omega)
        have e3 : 3 + 2 * (i + 1) = q + 2 := by omega
        have hlen : fs.length ≤ 100000 := by
          have := asc_len (a := 2) (b := q) I.asc fun f hm => ⟨I.len f hm, hf f hm⟩
          omega
        refine ite2 (fun z => ?_) (fun z => ?_)
        · have hqr : q ∣ r := (emN r q (by omega)).mp (of_decide_eq_true z)
          have hL1 := nd.least (by omega) hqr
          refine ⟨_, rfl, _, rfl, _, rfl, r, q, l, fs, rfl, hr1, by omega, hL1.isP, by omega, hL, hlen, fun r2 _ hQ hnd hr2 => ?_, fun z => absurd hqr z⟩
          have hS := I.step hL1 hQ hnd
          refine ⟨r2, fs ++ [q], _, rfl, fun b u e => ?_, upd_same, hS.1, ?_, Nat.dvd_trans hr2 hrn, ?_⟩
          · rw [upd_ne (ne_of_none e hl)]
            exact sH _ _ e
          · rw [e3]
            refine NoDiv.step2 (fun y => h2r (Nat.dvd_trans y hr2)) (by omega) (fun x h1 h2 h3 => nd x h1 h2 (Nat.dvd_trans h3 hr2)) hnd
          · rw [e3]
            intro f hm
            rcases List.mem_append.mp hm with hm | hm
            · have := hf f hm
              omega
            · have : f = q := by simpa using hm
              omega
        · have hqr : ¬ q ∣ r := fun y => z (decide_eq_true ((emN r q (by omega)).mpr y))
          refine ⟨r, fs, _, rfl, sH, hL, I, ?_, hrn, fun f hm => by have := hf f hm; omega⟩
          rw [e3]
          exact NoDiv.step2 h2r (by omega) nd hqr
    · rintro σ H' ⟨r, fs, d, rfl, sH, hL, I, nd, hrn, hf⟩
      exact fin r fs _ H' I (left_end I.pos hg hrn nd) hf sH hL
theorem ok_primes {f fN fW : Addr} {fd fdI fdN fdW : FuncData} (F : Fun K "primes" "primes" s_primes f fd) (T : TxtP K mg aB) (TB : TxtB K mg C fI) (GE : FnOk P w K mg base CX0 1 fI fdI ["self", "number"] (spE1 C "number")) (bE : Binds K fdI ["self", "number"] [])
    (G_is_within : FnOk P w K mg base CX0 2 fN fdN ["value", "least", "most"] spWithin) (g_is_within : mg "is_within" = some (.ref fN)) (kp_is_within : PySem.W.keepIn K (.ref fN) = true) (b_is_within : Binds K fdN ["value", "least", "most"] [])
    (G_prime_parts : FnOk P w K mg base CX0 4 fW fdW ["number"] spParts) (g_prime_parts : mg "prime_parts" = some (.ref fW)) (kp_prime_parts : PySem.W.keepIn K (.ref fW) = true) (b_prime_parts : Binds K fdW ["number"] []) :
    FnOk P w K mg base (L2.CX P w) 5 f fd ["number"] (spPrimes C) := by
  refine F.okX sc_primes (fun vs H Q E h => ?_) (fun cdv A outer s H vs Q E hr h => ?_)
  · obtain ⟨v, rfl, _⟩ := h
    rfl
  · obtain ⟨v, rfl, h⟩ := h
    refine ⟨_, (pss_cons (ps_if (pt_not (pt_val (pe_call G_is_within (hr.mono (by decide)) rfl g_is_within kp_is_within b_is_within .nil pass0 (pa_cons (pv 0) (pa_cons pe_int (pa_cons (pe_glob (v := .int 1000000000000) rfl T.gMOST.choose_spec ⟨_, rfl⟩) pa_nil)))))) (pss_one (ps_raise rfl (takes_of rfl rfl rfl rfl) (pmk_oex TB.o TB.i TB.t GE (hr.mono (by decide)) bE .nil pass0 rfl TB.g (pa_cons (pv 0) pa_nil)))) pss_nil)
        (pss_one (ps_ret (pe_call G_prime_parts (hr.mono (by decide)) rfl g_prime_parts kp_prime_parts b_prime_parts .nil pass0 (pa_cons (pv 0) pa_nil))))), ?_⟩
    rcases h with ⟨n, rfl, h2, h3, hg, k⟩ | ⟨ho, k⟩
    · refine ⟨_, rfl, _, 2, 1000000000000, rfl, .inl ⟨n, rfl, true, congrArg V.bl ?_, iteF ?_⟩⟩
      · rw [decide_eq_true (by omega), decide_eq_true (by omega)]
        rfl
      · exact ⟨_, rfl, n, rfl, h2, h3, hg, k⟩
    · have hr0 : ∀ (a d : Addr) (fs : List (Str × V)), H a = none → upd H a (exo a C none) d = none → d ≠ a → Same H (upd (del (upd (upd (upd H a (exo a C none)) d (exd d fs)) a (exo a C (some d))) a) d (.xd fs)) := fun a d fs ha hd hda b o e => by
        have hb : b ≠ a := ne_of_none e ha
        have h1 : H d = none := by rw [upd_ne hda] at hd; exact hd
        have hbd : b ≠ d := ne_of_none e h1
        rw [upd_ne hbd, del_ne hb, upd_ne hb, upd_ne hbd, upd_ne hb]
        exact e
      rcases ho.noInt with ⟨i, rfl, hi⟩ | hn
      · refine ⟨_, rfl, _, 2, 1000000000000, rfl, .inl ⟨i, rfl, false, congrArg V.bl ?_, iteT ?_⟩⟩
        · by_cases h1 : 2 ≤ i
          · rw [decide_eq_true h1, decide_eq_false (by omega)]
            rfl
          · rw [decide_eq_false h1]
            rfl
        · exact ⟨_, rfl, (by show 1 ≤ 1000; decide), fun a ha => ⟨a, _, rfl, upd_same, fun d hd hda => ⟨rfl, d, _, upd_same, (by rw [upd_ne hda]; exact upd_same), (by rw [upd_ne hda] at hd; exact hd), k d _ (hr0 a d _ ha hd hda) upd_same⟩⟩⟩
      · refine ⟨_, rfl, _, 2, 1000000000000, rfl, .inr ⟨hn, false, rfl, iteT ?_⟩⟩
        exact ⟨_, rfl, (by show 1 ≤ 1000; decide), fun a ha => ⟨a, _, rfl, upd_same, fun d hd hda => ⟨rfl, d, _, upd_same, (by rw [upd_ne hda]; exact upd_same), (by rw [upd_ne hda] at hd; exact hd), k d _ (hr0 a d _ ha hd hda) upd_same⟩⟩⟩
end
end Wk

/-! set(a list of ints) -/
namespace L2
open PySem PySem.Spec PyProof.Rows
abbrev so (w : World) : Obj := { cls := .type "set", dict := none, data := .set #[] 0 (.fresh 0 0 (!w.params.followText "set-order")) }
section
variable {P : Program} {w : World} {A : Around} {E : Value → Shared → Prop} {s : Shared}
theorem set_ints {l : Addr} {its : Array Value} (ns : List Int) {Q : Value → Shared → Prop} (hh : A.handled = none) (hl : s.heap.IsList l its) (hi : IntsAre its.toList ns) (hb : ns.length + 1 < scanBound)
    (k : ∀ (g : Heap) (tk c : Nat), SetR w g s.heap.objs.size (fun j => decide (j ∈ ns)) c → c ≤ ns.length → (∀ b o, s.heap.get? b = some o → g.get? b = some o) → Q (.ref s.heap.objs.size) { s with heap := g, toks := tk }) : wpAny (model P w) A (call (.type "set") [.ref l]) Q E s := by
  have sz : its.size = ns.length := (Array.length_toList (xs := its)).symm.trans hi.length
  obtain ⟨c, tl, m1⟩ := F.called_set.mro
  have m2 := F.called_set.made
  have m3 := F.called_set.sub
  refine wpAny_call (codeAny_of_tree (show wpAny _ _ (callAny (.type "set") _) _ _ _ from wpAny_pure ⟨Code.quiet_builtin _ (by decide +kernel), codeAny_builtin F.entry_type_call ?_⟩))
  rw [Around.under_plain (weight_type_call_type "set" [.ref l] []) rfl]
  have m4 := F.called_set.notType
  have m5 := F.called_set.canCreate
  have m6 := F.typeCall_set_1 (.ref l)
  repeat (any_goals (first | wp_step | assumption))
  refine codeAny_mono (code_set_led1 (.ref l) (E := E) (Q₁ := fun z t => z = .ref s.heap.objs.size ∧ t = { s with heap := s.heap.push (so w) }) ⟨rfl, rfl⟩) fun r t hr => ?_
  match r, hr with
  | .error e, hr => exact hr
  | .ok .next, hr => exact hr.elim
  | .ok .brk, hr => exact hr.elim
  | .ok .cont, hr => exact hr.elim
  | .ok (.ret z), hr =>
    obtain ⟨rfl, rfl⟩ := hr
    have g0 : (s.heap.push (so w)).get? s.heap.objs.size = some (so w) := Heap.get?_push_size _ rfl
    have ty : Shared.TypeIs { s with heap := s.heap.push (so w) } (.ref s.heap.objs.size) "set" := ⟨_, g0, rfl⟩
    have i1 := F.called_set.init.lookup
    have i2 := F.called_set.init.bind (.ref s.heap.objs.size)
    repeat (any_goals (first | wp_step | assumption))
    refine codeAny_mono (codeAny_call_builtin (R := wants (fun r t => r = .none ∧ ∃ g tk c, t = { s with heap := g, toks := tk } ∧ SetR w g s.heap.objs.size (fun j => decide (j ∈ ns)) c ∧ c ≤ ns.length ∧ (∀ b o, s.heap.get? b = some o → g.get? b = some o)) E)
      F.called_set.init.plain F.entry_set_init (check_set_init_1 ty ?_)) fun r t hr => ?_
    · obtain ⟨⟨oc, od, oda, osl⟩, ol, cl, n, dl⟩ := hl
      dsimp only at cl dl
      subst cl dl
      have ol2 : (s.heap.push (so w)).get? l = some ⟨.type "list", od, .seq its n, osl⟩ := Heap.get?_push_of_some _ ol
      have s1 := F.sub_list_set
      have s2 := F.sub_list_frozenset
      have nd : (Value.type "list" == Value.type "dict") = false := by decide
      have il : (s.heap.push (so w)).IsList l its := ⟨_, ol2, rfl, n, rfl⟩
      unfold Builtin.«set.__init__» Builtin.Frozenset.updateFrom noKeywords
      generalize hI : pyIter = pI
      wp_walk
      subst hI
      refine wpAny_pyIter_list il (wpAny_bind (wpAny_runValue ?_))
      have lt : l < s.heap.objs.size := Heap.lt_size ol
      have hh3 : A.in1.in1.in1.handled = none := by simp [hh]
      have nI : l ≠ (s.heap.push (so w)).objs.size := by rw [Heap.size_push]; exact Nat.ne_of_lt (Nat.lt_succ_of_lt lt)
      have nS : s.heap.objs.size ∉ [(s.heap.push (so w)).objs.size, l] := by
        rw [Heap.size_push]
        intro z
        rcases List.mem_cons.mp z with z | z
        · exact Nat.ne_of_lt (Nat.lt_succ_self _) z
        · exact Nat.ne_of_gt lt (List.mem_singleton.mp z)
      have val : ∀ (i : Nat) (v : Value), its[i]? = some v → ∃ j t, ns[i]? = some j ∧ v = .int j t := fun i v hv => by
        have hlt : i < ns.length := sz ▸ (Array.getElem?_eq_some_iff.mp hv).1
        obtain ⟨t, e⟩ := PyProof.Rows.IntsAre.int_at hi i v (by rw [Array.getElem?_toList]; exact hv)
        exact ⟨ns[i], t, List.getElem?_eq_getElem hlt, by rw [e, List.getD_eq_getElem?_getD, List.getElem?_eq_getElem hlt]; rfl⟩
      refine set_update_ints ((Walks.list hh3 _ l nI its).toS) s.heap.objs.size nS ns sz hb val (its.size - 0) 0 _ (by omega) (Nat.zero_le _) ⟨⟨_, Heap.get?_push_size _ rfl, rfl, rfl⟩, il.push _⟩ ?_ ?_
      · exact ⟨0, Nat.le_refl 0, setR_new_at (Heap.get?_push_of_some _ g0)⟩
      · rintro ⟨g, gn, dn, tk, os⟩ c' mv cc hS
        have q1 : gn = s.gens := mv.gens
        have q2 : dn = s.drawn := mv.drawn
        have q3 : os = s.os := mv.os
        subst q1 q2 q3
        refine (show wpAny _ _ _ _ _ _ from wpAny_pure (show wpAny _ _ (ret Value.none) _ _ _ from ?_))
        refine wpAny_pure ⟨rfl, g, tk, c', rfl, hS, sz ▸ cc, fun b o e => ?_⟩
        have b1 : b < s.heap.objs.size := Heap.lt_size e
        refine mv.heap b o ?_ (Heap.get?_push_of_some _ (Heap.get?_push_of_some _ e))
        rw [Heap.size_push]
        intro z
        rcases List.mem_cons.mp z with z | z
        · exact Nat.ne_of_lt b1 z
        · exact Nat.ne_of_lt (Nat.lt_succ_of_lt b1) (List.mem_singleton.mp z)
    · match r, hr with
      | .error e, hr => exact hr
      | .ok .next, hr => exact hr.elim
      | .ok .brk, hr => exact hr.elim
      | .ok .cont, hr => exact hr.elim
      | .ok (.ret z), hr =>
        obtain ⟨rfl, g, tk, c', rfl, hS, cc, kp⟩ := hr
        repeat (any_goals (first | wp_step | assumption))
        exact k _ _ _ hS cc kp
end
end L2
namespace Wk
open PySem PySem.Spec PyProof.Rows L2
/-- set(xs), xs a list of ints -/
def rSetI (K : PySem.W.Frag) (w : World) : List V → Hp → VK → Prop := fun xs H Q => ∃ (l : Addr) (ns : List Int), xs = [.ref l] ∧ SqL K H l (ns.map V.int) ∧ ns.length ≤ 60 ∧ ∀ (a : Addr) (c : Nat), H a = none → c ≤ ns.length → Q (.ref a) (upd H a (SetO w a (fun j => decide (j ∈ ns)) c))
theorem cr_setI {X : Cx} (hc : X.calm = true) : CallR X (.type "set") (rSetI X.K X.w) := by
  intro pins s σ H xs us Q I r h
  obtain ⟨l, ns, rfl, hl, hn, q⟩ := h
  rw [Vals.ref1 r]
  obtain ⟨its, rv, pl, hz⟩ := I.list hl
  have hf : H s.heap.objs.size = none := I.hok.fresh (Nat.le_refl _)
  have hi : IntsAre its.toArray.toList ns := ints_of_vals rv
  refine set_ints ns (I.ok.hd hc) pl.isList hi (by unfold scanBound; omega) fun g tk c R cc kp => ?_
  exact ⟨.ref s.heap.objs.size, upd H s.heap.objs.size (SetO X.w s.heap.objs.size (fun j => decide (j ∈ ns)) c), I.laid (t' := tk) kp (Nat.le_refl _) (setO_new R), rfl, q _ c hf cc⟩
end Wk

/-! rows and matrices of ints as data -/
namespace Wk
open PySem L2
theorem eqvAll_map {α : Type} (f : α → PyData) (g : α → α → Bool) (h : ∀ a b, PyData.eqv (f a) (f b) = g a b) (hg : ∀ a b, g a b = true ↔ a = b) [DecidableEq α] : ∀ (xs ys : List α), PyData.eqvAll (xs.map f) (ys.map f) = decide (xs = ys)
  | [], [] => by simp [PyData.eqvAll]
  | [], _ :: _ => by simp [PyData.eqvAll]
  | _ :: _, [] => by simp [PyData.eqvAll]
  | x :: xs, y :: ys => by
    simp only [List.map_cons, PyData.eqvAll, h, eqvAll_map f g h hg xs ys]
    have e : g x y = decide (x = y) := by
      by_cases z : x = y
      · rw [(hg x y).mpr z, decide_eq_true z]
      · rw [decide_eq_false z]
        cases q : g x y with
        | false => rfl
        | true => exact absurd ((hg x y).mp q) z
    rw [e]
    by_cases z : x = y <;> by_cases z2 : xs = ys <;> simp [z, z2]
/-- a tuple of ints; a tuple of such -/
def dI (ns : List Int) : PyData := .tuple (ns.map PyData.int)
def dM (ms : List (List Int)) : PyData := .tuple (ms.map dI)
theorem dI_eqv (a b : List Int) : PyData.eqv (dI a) (dI b) = decide (a = b) := by
  unfold dI
  rw [PyData.eqv]
  exact eqvAll_map _ (fun i j => i == j) (fun i j => by simp [PyData.eqv]) (fun i j => by simp) a b
theorem dM_eqv (a b : List (List Int)) : PyData.eqv (dM a) (dM b) = decide (a = b) := by
  unfold dM
  rw [PyData.eqv]
  exact eqvAll_map _ (fun i j => decide (i = j)) dI_eqv (fun i j => by simp) a b
theorem canLayAll_map {α : Type} (f : α → PyData) (h : ∀ a, (f a).canLay0 = true) : ∀ xs : List α, PyData.canLayAll0 (xs.map f) = true
  | [] => by simp [PyData.canLayAll0]
  | x :: xs => by simp [PyData.canLayAll0, h x, canLayAll_map f h xs]
theorem depthAll_map {α : Type} (f : α → PyData) (n : Nat) (h : ∀ a, (f a).depth ≤ n) : ∀ xs : List α, PyData.depthAll (xs.map f) ≤ n
  | [] => by simp [PyData.depthAll]
  | x :: xs => by
    have h1 := h x
    have h2 := depthAll_map f n h xs
    simp only [List.map_cons, PyData.depthAll]
    omega
theorem dI_lay (a : List Int) : (dI a).canLay0 = true := by
  unfold dI
  rw [PyData.canLay0]
  exact canLayAll_map _ (fun i => by simp [PyData.canLay0]) a
theorem dI_depth (a : List Int) : (dI a).depth ≤ 1 := by
  unfold dI
  rw [PyData.depth]
  have := depthAll_map PyData.int 0 (fun i => by simp [PyData.depth]) a
  omega
theorem dM_lay (a : List (List Int)) : (dM a).canLay0 = true := by
  unfold dM
  rw [PyData.canLay0]
  exact canLayAll_map _ dI_lay a
theorem dM_depth (a : List (List Int)) : (dM a).depth ≤ 2 := by
  unfold dM
  rw [PyData.depth]
  have := depthAll_map dI 1 dI_depth a
  omega
theorem dI_shaped (a : List Int) : SeqAt.shaped (dI a) = true := by
  have := dI_depth a
  simp only [SeqAt.shaped, dI_lay, Bool.true_and, decide_eq_true_eq]
  omega
theorem dM_shaped (a : List (List Int)) : SeqAt.shaped (dM a) = true := by
  have := dM_depth a
  simp only [SeqAt.shaped, dM_lay, Bool.true_and, decide_eq_true_eq]
  omega
theorem dpAll_ints {K : PySem.W.Frag} {H : Hp} : ∀ ns : List Int, DpAll K H (ns.map V.int) (ns.map PyData.int)
  | [] => .nil
  | n :: ns => .cons (.int n) (dpAll_ints ns)
/-- a tuple of ints at a -/
def RowAt (K : PySem.W.Frag) (H : Hp) (a : Addr) (ns : List Int) : Prop := SqT K H a (ns.map V.int)
theorem RowAt.dp {K : PySem.W.Frag} {H : Hp} {a : Addr} {ns : List Int} (h : RowAt K H a ns) : Dp K H (.ref a) (dI ns) := .tup h (dpAll_ints ns)
/-- values that are tuples of ints -/
inductive RowsAre (K : PySem.W.Frag) (H : Hp) : List V → List (List Int) → Prop
  | nil : RowsAre K H [] []
  | cons {a : Addr} {ns : List Int} {vs : List V} {ms : List (List Int)} : RowAt K H a ns → RowsAre K H vs ms → RowsAre K H (.ref a :: vs) (ns :: ms)
theorem RowsAre.dp {K : PySem.W.Frag} {H : Hp} : ∀ {vs : List V} {ms : List (List Int)}, RowsAre K H vs ms → DpAll K H vs (ms.map dI)
  | _, _, .nil => .nil
  | _, _, .cons h r => .cons h.dp r.dp
theorem RowsAre.length {K : PySem.W.Frag} {H : Hp} : ∀ {vs : List V} {ms : List (List Int)}, RowsAre K H vs ms → vs.length = ms.length
  | _, _, .nil => rfl
  | _, _, .cons _ r => by simp [r.length]
theorem RowsAre.at_ {K : PySem.W.Frag} {H : Hp} : ∀ {vs : List V} {ms : List (List Int)}, RowsAre K H vs ms → ∀ {i : Nat} {v : V}, vs[i]? = some v → ∃ (a : Addr) (ns : List Int), v = .ref a ∧ ms[i]? = some ns ∧ RowAt K H a ns
  | _, _, .nil, i, v, h => by simp at h
  | _, _, .cons h r, 0, v, e => by cases e; exact ⟨_, _, rfl, rfl, h⟩
  | _, _, .cons h r, i + 1, v, e => r.at_ (i := i) (by simpa using e)
theorem RowsAre.snoc {K : PySem.W.Frag} {H : Hp} {a : Addr} {ns : List Int} (h : RowAt K H a ns) : ∀ {vs : List V} {ms : List (List Int)}, RowsAre K H vs ms → RowsAre K H (vs ++ [.ref a]) (ms ++ [ns])
  | _, _, .nil => .cons h .nil
  | _, _, .cons h' r => .cons h' (r.snoc h)
/-- a tuple of tuples of ints at a -/
def MatAt (K : PySem.W.Frag) (H : Hp) (a : Addr) (ms : List (List Int)) : Prop := ∃ vs, SqT K H a vs ∧ RowsAre K H vs ms
theorem MatAt.dp {K : PySem.W.Frag} {H : Hp} {a : Addr} {ms : List (List Int)} (h : MatAt K H a ms) : Dp K H (.ref a) (dM ms) := by
  obtain ⟨vs, h1, h2⟩ := h
  exact .tup h1 h2.dp
theorem SqT.same {K : PySem.W.Frag} {H H' : Hp} {a : Addr} {xs : List V} (h : SqT K H a xs) (e : Same H H') : SqT K H' a xs := by
  rcases h with h | h
  · rcases h with h | ⟨o, h⟩
    · exact .inl (.inl (e _ _ h))
    · exact .inl (.inr ⟨o, e _ _ h⟩)
  · exact .inr h
theorem RowsAre.same {K : PySem.W.Frag} {H H' : Hp} (e : Same H H') : ∀ {vs : List V} {ms : List (List Int)}, RowsAre K H vs ms → RowsAre K H' vs ms
  | _, _, .nil => .nil
  | _, _, .cons h r => .cons (SqT.same h e) (r.same e)
theorem MatAt.same {K : PySem.W.Frag} {H H' : Hp} {a : Addr} {ms : List (List Int)} (h : MatAt K H a ms) (e : Same H H') : MatAt K H' a ms := by
  obtain ⟨vs, h1, h2⟩ := h
  exact ⟨vs, SqT.same h1 e, h2.same e⟩
end Wk

namespace Wk
open PySem L2 NumP NumI
abbrev s_law : Stmt := top 26
theorem sc_law : FnScope ["_law_script", "_law_pen", "_law_turn", "_law_small", "_law_great", "_law_modulus", "_law_number", "_law_found", "_law_shared", "_law_one", "_law_other", "_law_many", "_law_odd"] ["_law_script"] (defScope s_law) := ⟨rfl, rfl, rfl, by decide +kernel, rfl, by decide +kernel, by decide +kernel⟩

def spPen (K : PySem.W.Frag) : Sp := fun vs H Q _ => ∃ (a : Addr) (ns : List Int), vs = [.ref a] ∧ SqL K H a (ns.map V.int) ∧ ∀ p c ns' H', Same H H' → PenAt H' p c ns' 0 0 → Q (.ref p) H'
theorem sqL_same {K : PySem.W.Frag} {H H' : Hp} {a : Addr} {xs : List V} (h : SqL K H a xs) (e : Same H H') : SqL K H' a xs := by
  rcases h with h | h
  · rcases h with h | ⟨o, h⟩
    · exact .inl (.inl (e _ _ h))
    · exact .inl (.inr ⟨o, e _ _ h⟩)
  · exact .inr h
theorem same_upd {H : Hp} {p : Addr} {o : HO} (h : H p = none) : Same H (upd H p o) := fun b u e => by
  rw [upd_ne (ne_of_none e h)]
  exact e
theorem PenAt.same {H H' : Hp} {p c : Addr} {ns : List Int} {i l : Int} (P : PenAt H p c ns i l) (s : Same H H') : PenAt H' p c ns i l := ⟨s _ _ P.pen, s _ _ P.cells, P.i0, P.l0, P.i1⟩
theorem asc_int_unique : ∀ {a b : List Int}, a.Pairwise (· < ·) → b.Pairwise (· < ·) → (∀ q, q ∈ a ↔ q ∈ b) → a = b
  | [], [], _, _, _ => rfl
  | [], y :: b, _, _, h => by have := (h y).mpr (by simp); simp at this
  | x :: a, [], _, _, h => by have := (h x).mp (by simp); simp at this
  | x :: a, y :: b, ha, hb, h => by
    obtain ⟨ha1, ha2⟩ := List.pairwise_cons.mp ha
    obtain ⟨hb1, hb2⟩ := List.pairwise_cons.mp hb
    have hx := (h x).mp (by simp)
    have hy := (h y).mpr (by simp)
    have e : x = y := by
      rcases List.mem_cons.mp hx with e | m
      · exact e
      · rcases List.mem_cons.mp hy with e | m'
        · exact e.symm
        · have h1 := hb1 _ m
          have h2 := ha1 _ m'
          omega
    subst e
    congr 1
    refine asc_int_unique ha2 hb2 fun q => ⟨fun m => ?_, fun m => ?_⟩
    · have hq := ha1 _ m
      rcases List.mem_cons.mp ((h q).mp (List.mem_cons_of_mem _ m)) with e | m'
      · omega
      · exact m'
    · have hq := hb1 _ m
      rcases List.mem_cons.mp ((h q).mpr (List.mem_cons_of_mem _ m)) with e | m'
      · omega
      · exact m'
def toI (fs : List Nat) : List Int := fs.map fun (f : Nat) => (f : Int)
theorem nats_eq (fs : List Nat) : nats fs = (toI fs).map V.int := by simp [nats, toI]
theorem row_nats {K : PySem.W.Frag} {H : Hp} {t : Addr} {fs : List Nat} (h : H t = some (.tup (nats fs))) : RowAt K H t (toI fs) := SqT.of (by rw [← nats_eq]; exact h)
/-- the set of some of them, sorted -/
theorem sorted_primes {N : Nat} {fs : List Nat} {ms ns : List Int} (h : PrimesOf N fs) (h1 : ms.Pairwise (· < ·)) (h2 : ∀ k : Int, k ∈ ms ↔ decide (k ∈ ns) = true) (h3 : ∀ k : Int, k ∈ ns ↔ ∃ q : Nat, k = q ∧ IsP q ∧ q ∣ N) : ms = toI fs := by
  refine asc_int_unique h1 ?_ fun k => ?_
  · unfold toI
    rw [List.pairwise_map]
    exact h.asc.imp fun h => by omega
  · rw [h2, decide_eq_true_iff, h3]
    unfold toI
    rw [List.mem_map]
    refine ⟨fun ⟨q, e, a, b⟩ => ⟨q, (h.mem q).mpr ⟨a, b⟩, e.symm⟩, fun ⟨q, m, e⟩ => ⟨q, e.symm, (h.mem q).mp m⟩⟩
/-- the number that the law picks -/
theorem share1 {α : Type} {P : α → Prop} {G : Prop} (f : (∀ a, P a) → G) (b : ∀ a, P a) : G := f b
structure Chosen (a b : Nat) (d : Int) (N : Nat) : Prop where
  at_ : atI [V.int ((a : Int) * b), V.int ((a : Int) * a * b), V.int ((a : Int) * a), V.int ((a : Int) * a * a)] d = some (V.int (N : Int))
  good : Good N
  lo : 2 ≤ N
  hi : N ≤ 1000000000000
  mem : ∀ k : Int, k ∈ (if d < 2 then [(a : Int), (b : Int)] else [(a : Int)]) ↔ ∃ q : Nat, k = q ∧ IsP q ∧ q ∣ N
theorem chosen {a b : Nat} (ha : IsP a) (hb : IsP b) (la : a ≤ 257) (lb : b ≤ 999983) {d : Int} (h0 : 0 ≤ d) (h1 : d < 4) : ∃ N, Chosen a b d N := by
  have a2 := ha.1
  have b2 := hb.1
  have gb : Good b := good_small (by omega) (by omega)
  have ga : Good a := good_small (by omega) (by omega)
  have la2 : a < 20001 := by omega
  have mem2 : ∀ n : Nat, a ∣ n → b ∣ n → (∀ q, IsP q → q ∣ n → q ∣ a ∨ q ∣ b) → ∀ k : Int, k ∈ [(a : Int), (b : Int)] ↔ ∃ q : Nat, k = q ∧ IsP q ∧ q ∣ n := fun n h1 h2 h k => by
    have z := mem_of_prod ha hb h1 h2 h
    simp only [List.mem_cons, List.not_mem_nil, or_false]
    refine ⟨fun y => ?_, fun ⟨q, e, y⟩ => ?_⟩
    · rcases y with e | e
      · exact ⟨a, e, (z a).mpr (.inl rfl)⟩
      · exact ⟨b, e, (z b).mpr (.inr rfl)⟩
    · rcases (z q).mp y with w | w
      · exact .inl (by rw [e, w])
      · exact .inr (by rw [e, w])
  have mem1 : ∀ n : Nat, a ∣ n → (∀ q, IsP q → q ∣ n → q ∣ a) → ∀ k : Int, k ∈ [(a : Int)] ↔ ∃ q : Nat, k = q ∧ IsP q ∧ q ∣ n := fun n h1 h k => by
    simp only [List.mem_singleton]
    refine ⟨fun e => ⟨a, e, ha, h1⟩, fun ⟨q, e, hq, hd⟩ => by rw [e, hq.dvd_prime ha (h q hq hd)]⟩
  have m1 : a * b ≤ 257 * 999983 := Nat.mul_le_mul la lb
  have m2 : a * (a * b) ≤ 257 * (257 * 999983) := Nat.mul_le_mul la m1
  have m3 : a * a ≤ 257 * 257 := Nat.mul_le_mul la la
  have m4 : a * (a * a) ≤ 257 * (257 * 257) := Nat.mul_le_mul la m3
  have n1 : 2 * 2 ≤ a * b := Nat.mul_le_mul a2 b2
  have n2 : 2 * (2 * 2) ≤ a * (a * b) := Nat.mul_le_mul a2 n1
  have n3 : 2 * 2 ≤ a * a := Nat.mul_le_mul a2 a2
  have n4 : 2 * (2 * 2) ≤ a * (a * a) := Nat.mul_le_mul a2 n3
  obtain rfl | rfl | rfl | rfl : d = 0 ∨ d = 1 ∨ d = 2 ∨ d = 3 := by omega
  · exact ⟨a * b, rfl, good_times ha la2 gb, by omega, by omega, mem2 _ (Nat.dvd_mul_right _ _) (Nat.dvd_mul_left _ _) fun q hq h => dvd2 hq h⟩
  · refine ⟨a * (a * b), ?_, good_times ha la2 (good_times ha la2 gb), by omega, by omega, mem2 _ (Nat.dvd_mul_right _ _) (Nat.dvd_trans (Nat.dvd_mul_left _ _) (Nat.dvd_mul_left _ _)) fun q hq h => ?_⟩
    · show some (V.int ((a : Int) * a * b)) = _
      rw [Int.mul_assoc]
      rfl
    · rcases dvd2 hq h with z | z
      · exact .inl z
      · exact dvd2 hq z
  · exact ⟨a * a, rfl, good_times ha la2 ga, by omega, by omega, mem1 _ (Nat.dvd_mul_right _ _) fun q hq h => (dvd2 hq h).elim id id⟩
  · refine ⟨a * (a * a), ?_, good_times ha la2 (good_times ha la2 ga), by omega, by omega, mem1 _ (Nat.dvd_mul_right _ _) fun q hq h => ?_⟩
    · show some (V.int ((a : Int) * a * a)) = _
      rw [Int.mul_assoc]
      rfl
    · rcases dvd2 hq h with z | z
      · exact z
      · exact (dvd2 hq z).elim id id
structure Dn (P : Program) (w : World) (K : PySem.W.Frag) (mg : Str → Option Value) (base : Heap) (CX : CXT) (k : Nat) (x : Str) (ps : List Str) (sp : Sp) : Prop where
  ex : ∃ (f : Addr) (fd : FuncData), FnOk P w K mg base CX k f fd ps sp ∧ mg x = some (.ref f) ∧ PySem.W.keepIn K (.ref f) = true ∧ Binds K fd ps []
structure DnG (P : Program) (w : World) (K : PySem.W.Frag) (mg : Str → Option Value) (base : Heap) (k : Nat) (x : Str) (ps : List Str) (sp : Sp) : Prop where
  ex : ∃ (f : Addr) (fd : FuncData), FnG P w K mg base k f fd ps sp ∧ mg x = some (.ref f) ∧ PySem.W.keepIn K (.ref f) = true ∧ Binds K fd ps []
structure TxtL (mg : Str → Option Value) : Prop where
  f_range : mg "range" = none
  f_isinstance : mg "isinstance" = none
  f_int : mg "int" = none
  f_tuple : mg "tuple" = none
  f_sorted : mg "sorted" = none
  f_set : mg "set" = none
  f_any : mg "any" = none
  f_repr : mg "repr" = none
section
variable {P : Program} {w : World} {K : PySem.W.Frag} {mg : Str → Option Value} {base : Heap} {CM : Addr}
theorem ok_pen {f : Addr} {fd : FuncData} (F : Fun K "_law_pen_of" "_law_pen_of" s_law_pen_of f fd) (flist : mg "list" = none) : FnOk P w K mg base CX0 1 f fd ["_law_script"] (spPen K) := by
  refine F.ok sc_law_pen_of (fun vs H Q E h => ?_) (fun cdv A outer s H vs Q E hr h => ?_)
  · obtain ⟨a, ns, rfl, _⟩ := h
    rfl
  · obtain ⟨a, ns, rfl, hS, k⟩ := h
    refine ⟨_, PSs.nox ((pss_one (ps_ret (pe_disp (pps_cons pe_str (pe_callTy (call_listK (K := K) rfl) rfl flist (by decide +kernel) (pa_cons (pe_slice sl_list (pv 0) po_none (po_some pe_int)) pa_nil)) (pps_cons pe_str pe_int (pps_cons pe_str pe_int pps_nil))) (by rfl) (by rfl) (fun z => by cases z) (by decide))))), ?_⟩
    refine fun p hp => ?_
    have hS := sqL_same hS (same_upd (o := .dK []) hp)
    refine ⟨_, rfl, _, rfl, _, _, rfl, hS, fun q hq => ⟨_, _, rfl, .inl (SqL.of upd_same), fun c hc => ?_⟩⟩
    have hqp : q ≠ p := fun z => by rw [z, upd_same] at hq; cases hq
    have hcq : c ≠ q := fun z => by rw [z, upd_same] at hc; cases hc
    have hcp : c ≠ p := fun z => by rw [z, upd_ne (Ne.symm hqp), upd_same] at hc; cases hc
    obtain ⟨l, ecut⟩ : ∃ l : List Int, cutV (ns.map V.int) none (some 63) = l.map V.int :=
      ⟨(ns.drop (HT.sIx (ns.map V.int).length 0 none)).take (HT.sIx (ns.map V.int).length (ns.map V.int).length (some 63) - HT.sIx (ns.map V.int).length 0 none), by unfold cutV; rw [List.map_take, List.map_drop]⟩
    rw [ecut]
    refine ⟨by rw [upd_ne (Ne.symm hcp), upd_ne (Ne.symm hqp)]; exact upd_same, penL c 0 0, rfl, (by show 3 ≤ 15; decide), ?_⟩
    refine k p c l _ ?_ ⟨?_, ?_, by decide, by decide, by decide⟩
    · intro b o e
      have hb := ne_of_none e hp
      rw [upd_ne hb, upd_ne (ne_of_none (by rw [upd_ne (ne_of_none (by rw [upd_ne hb]; exact e) hq), upd_ne hb]; exact e) hc), upd_ne (ne_of_none (by rw [upd_ne hb]; exact e) hq), upd_ne hb]
      exact e
    · rw [upd_same]
      rfl
    · rw [upd_ne hcp]
      exact upd_same
theorem inv_step {n m : Int} {H : Hp} {Q : VK} (k : ∀ v H', Same H H' → ((v = V.non ∧ Int.gcd n m ≠ 1) ∨ (∃ x, v = .int x ∧ Int.gcd n m = 1 ∧ InvOf n m x)) → Q v H') : wInv n m H Q :=
  ⟨fun h H' s => k _ _ s (.inl ⟨rfl, h⟩), fun x H' h i s => k _ _ s (.inr ⟨x, rfl, h, i⟩)⟩
theorem law_run {f : Addr} {fd : FuncData} {kP kR : Nat} (F : Fun K "law" "law" s_law f fd) (hb : ∀ (s : Shared) (u : Value), BindsTo s fd ⟨[u], []⟩ [("_law_script", u)]) (T : TxtL mg) (hkP : kP ≤ 5) (hkR : kR ≤ 6)
    (dPen : Dn P w K mg base CX0 1 "_law_pen_of" ["_law_script"] (spPen K)) (dDraw : Dn P w K mg base CX0 1 "_law_draw" ["_law_pen", "_law_many"] spDraw) (dPick : Dn P w K mg base CX0 2 "_law_pick" ["_law_pen", "_law_items"] (spPick K))
    (dInv : Dn P w K mg base CX0 1 "inverse" ["number", "modulus"] spInv) (dGcd : Dn P w K mg base CX0 1 "_law_common" ["_law_one", "_law_other"] spGcd) (dPrimes : Dn P w K mg base (L2.CX P w) 5 "primes" ["number"] (spPrimes CM)) (dSieve : Dn P w K mg base CX0 1 "_law_primes" ["_law_number"] spSieve)
    (dRef : DnG P w K mg base 6 "_law_refused" ["_law_value"] spRefused) (hS : ∃ o es m, base.get? sysModules = some o ∧ o.data = .dict es m)
    {s : Shared} {H : Hp} {a : Addr} {ns : List Int} (e0 : Env0 P w K mg base callerA [] s H) (hL : SqL K H a (ns.map V.int)) : codeAny (model P w) callerA (.call (.ref f) ⟨[.ref a], []⟩) (CR CX0 [] P w H s (fun v _ => v = .bl true) E0) s := by
  obtain ⟨f1, fd1, G__law_pen_of, g__law_pen_of, kp__law_pen_of, b__law_pen_of⟩ := dPen.ex
  obtain ⟨f2, fd2, G__law_draw, g__law_draw, kp__law_draw, b__law_draw⟩ := dDraw.ex
  obtain ⟨f3, fd3, G__law_pick, g__law_pick, kp__law_pick, b__law_pick⟩ := dPick.ex
  obtain ⟨f4, fd4, G_inverse, g_inverse, kp_inverse, b_inverse⟩ := dInv.ex
  obtain ⟨f5, fd5, G__law_common, g__law_common, kp__law_common, b__law_common⟩ := dGcd.ex
  obtain ⟨f6, fd6, G_primes, g_primes, kp_primes, b_primes⟩ := dPrimes.ex
  obtain ⟨f7, fd7, G__law_primes, g__law_primes, kp__law_primes, b__law_primes⟩ := dSieve.ex
  obtain ⟨f8, fd8, G__law_refused, g__law_refused, kp__law_refused, b__law_refused⟩ := dRef.ex
  obtain ⟨oc, od, kV, doc, pm, an, cdv, ct, osl, rfl, lk, hcd⟩ := F.ex
  refine LamX.run_ofS (k := 7) (us := [.ref a]) (vs := [.ref a]) lk hcd sc_law ⟨rfl, by decide, by decide⟩ e0 (hb s (.ref a)) (.cons rfl .nil) rfl fun hr => ⟨_, PSs.nox ((pss_cons (ps_set (i := 1) sc_law.nd rfl (Or.inl rfl) (pe_call G__law_pen_of (hr.mono (by decide)) rfl g__law_pen_of kp__law_pen_of b__law_pen_of .nil pass0 (pa_cons (pv 0) pa_nil)))
        (pss_cons (ps_for PassesOwn.never rfl (pi_range1 rfl T.f_range (pa_cons pe_int pa_nil)) (pg_name (i := 2) sc_law.nd rfl (Or.inl rfl)) (pss_cons (ps_set (i := 3) sc_law.nd rfl (Or.inl rfl) (pe_op op_add pe_int (pe_call G__law_draw (hr.mono (by decide)) rfl g__law_draw kp__law_draw b__law_draw .nil pass0 (pa_cons (pv 1) (pa_cons pe_int pa_nil)))))
        (pss_cons (ps_set (i := 4) sc_law.nd rfl (Or.inl rfl) (pe_lst (pa_cons (pe_op op_pow pe_int pe_int) (pa_cons (pe_op op_sub (pe_op op_pow pe_int pe_int) pe_int) (pa_cons pe_int (pa_cons (pe_op op_add (pe_op op_pow pe_int pe_int) pe_int) (pa_cons (pe_op op_add (pe_op op_mulW (pv 3) (pe_op op_pow pe_int pe_int)) pe_int) pa_nil)))))))
        (pss_cons (ps_set (i := 5) sc_law.nd rfl (Or.inl rfl) (pe_call G__law_pick (hr.mono (by decide)) rfl g__law_pick kp__law_pick b__law_pick .nil pass0 (pa_cons (pv 1) (pa_cons (pe_op op_cat (pe_lst (pa_cons (pv 3) (pa_cons (pv 3) (pa_cons (pe_op op_mulW pe_int (pv 3)) pa_nil)))) (pv 4)) pa_nil))))
        (pss_cons (ps_set (i := 6) sc_law.nd rfl (Or.inl rfl) (pe_op op_add (pe_call G__law_draw (hr.mono (by decide)) rfl g__law_draw kp__law_draw b__law_draw .nil pass0 (pa_cons (pv 1) (pa_cons (pv 5) pa_nil))) (pe_op op_mulW (pv 5) (pe_op op_sub (pe_call G__law_draw (hr.mono (by decide)) rfl g__law_draw kp__law_draw b__law_draw .nil pass0 (pa_cons (pv 1) (pa_cons pe_int pa_nil))) pe_int))))
        (pss_cons (ps_set (i := 6) sc_law.nd rfl (Or.inl rfl) (pe_op op_mulW (pv 6) (pe_call G__law_pick (hr.mono (by decide)) rfl g__law_pick kp__law_pick b__law_pick .nil pass0 (pa_cons (pv 1) (pa_cons (pe_lst (pa_cons pe_int (pa_cons pe_int (pa_cons pe_int (pa_cons (pv 3) pa_nil))))) pa_nil)))))
        (pss_cons (ps_par (i := 7) (j := 8) rfl sc_law.nd rfl rfl (by decide) rfl rfl (pa_cons (pe_call G_inverse (hr.mono (by decide)) rfl g_inverse kp_inverse b_inverse .nil pass0 (pa_cons (pv 6) (pa_cons (pv 5) pa_nil))) (pa_cons (pe_call G__law_common (hr.mono (by decide)) rfl g__law_common kp__law_common b__law_common .nil pass0 (pa_cons (pv 6) (pa_cons (pv 5) pa_nil))) pa_nil)) (by rfl))
        (pss_cons (ps_if (pt_cmpR op_ne (pe_cmpR op_isN (pv 7) pe_non (nomark _)) (pe_cmpR op_ne (pv 8) pe_int (nomark _)) (nomark _)) (pss_one (ps_ret pe_bl)) pss_nil)
        (pss_cons (ps_if (pt_cmpR op_notN (pv 7) pe_non (nomark _)) (pss_one (ps_if (PW.pt (pw_or (pt_not (pt_val (pe_callB (call_isiK (K := K) rfl) rfl T.f_isinstance (by decide +kernel) (pa_cons (pv 7) (pa_cons (pe_bltn (v := .ty "int") rfl T.f_int (by decide +kernel) rfl) pa_nil))))) (pw_or (pt_not (pt_chain op_le op_lt pe_int (pv 7) (pv 5))) (pw_or1 (pt_cmpR op_ne (pe_op op_modN (pe_callTy call_int1 rfl T.f_int (by decide +kernel) (pa_cons (pe_op op_mulW (pv 7) (pv 6)) pa_nil)) (pv 5)) pe_int (nomark _)))))) (pss_one (ps_ret pe_bl)) pss_nil)) pss_nil)
        (pss_one (ps_if (PW.pt (pw_or (pt_cmpR (op_neD hr.units) (pe_call G_primes (hr.mono (by decide)) rfl g_primes kp_primes b_primes .nil passL (pa_cons (pv 3) pa_nil)) (pe_call G__law_primes (hr.mono (by decide)) rfl g__law_primes kp__law_primes b__law_primes .nil pass0 (pa_cons (pv 3) pa_nil)) (nomark _)) (pw_or1 (pt_not (pt_val (pe_callB (call_isiK (K := K) rfl) rfl T.f_isinstance (by decide +kernel) (pa_cons (pe_call G_primes (hr.mono (by decide)) rfl g_primes kp_primes b_primes .nil passL (pa_cons (pv 3) pa_nil)) (pa_cons (pe_bltn (v := .ty "tuple") rfl T.f_tuple (by decide +kernel) rfl) pa_nil)))))))) (pss_one (ps_ret pe_bl)) pss_nil)))))))))))
        (pss_cons (ps_par (i := 9) (j := 10) rfl sc_law.nd rfl rfl (by decide) rfl rfl (pa_cons (pe_call G__law_pick (hr.mono (by decide)) rfl g__law_pick kp__law_pick b__law_pick .nil pass0 (pa_cons (pv 1) (pa_cons (pe_lst (pa_cons pe_int (pa_cons pe_int (pa_cons pe_int (pa_cons pe_int (pa_cons pe_int pa_nil)))))) pa_nil))) (pa_cons (pe_call G__law_pick (hr.mono (by decide)) rfl g__law_pick kp__law_pick b__law_pick .nil pass0 (pa_cons (pv 1) (pa_cons (pe_lst (pa_cons pe_int (pa_cons pe_int (pa_cons pe_int (pa_cons pe_int (pa_cons pe_int pa_nil)))))) pa_nil))) pa_nil)) (by rfl))
        (pss_cons (ps_set (i := 11) sc_law.nd rfl (Or.inl rfl) (pe_call G__law_draw (hr.mono (by decide)) rfl g__law_draw kp__law_draw b__law_draw .nil pass0 (pa_cons (pv 1) (pa_cons pe_int pa_nil))))
        (pss_cons (ps_set (i := 6) sc_law.nd rfl (Or.inl rfl) (pe_ix ix_list (pe_lst (pa_cons (pe_op op_mulW (pv 9) (pv 10)) (pa_cons (pe_op op_mulW (pe_op op_mulW (pv 9) (pv 9)) (pv 10)) (pa_cons (pe_op op_mulW (pv 9) (pv 9)) (pa_cons (pe_op op_mulW (pe_op op_mulW (pv 9) (pv 9)) (pv 9)) pa_nil))))) (pv 11) (fun _ _ => rfl)))
        (pss_cons (ps_if (pt_cmpR (op_neD hr.units) (pe_call G_primes (hr.mono (by decide)) rfl g_primes kp_primes b_primes .nil passL (pa_cons (pv 6) pa_nil)) (pe_callTy (call_tupleK (K := K) rfl) rfl T.f_tuple (by decide +kernel) (pa_cons (pe_callB (cr_sortedSet rfl) rfl T.f_sorted (by decide +kernel) (pa_cons (pe_callTy (cr_setI rfl) rfl T.f_set (by decide +kernel) (pa_cons (pe_ifExp (pt_cmpR op_lt (pv 11) pe_int (nomark _)) (pe_lst (pa_cons (pv 9) (pa_cons (pv 10) pa_nil))) (pe_lst (pa_cons (pv 9) pa_nil))) pa_nil)) pa_nil)) pa_nil)) (nomark _)) (pss_one (ps_ret pe_bl)) pss_nil)
        (pss_cons (ps_if (PW.pt (pw_or (pt_cmpR (op_neD hr.units) (pe_call G_primes (hr.mono (by decide)) rfl g_primes kp_primes b_primes .nil passL (pa_cons (pe_op op_mulW pe_int pe_int) pa_nil)) (pe_tup (pa_cons pe_int (pa_cons pe_int pa_nil))) (nomark _)) (pw_or (pt_cmpR (op_neD hr.units) (pe_call G_primes (hr.mono (by decide)) rfl g_primes kp_primes b_primes .nil passL (pa_cons (pe_op op_pow pe_int pe_int) pa_nil)) (pe_tup (pa_cons pe_int (pa_cons pe_int pa_nil))) (nomark _)) (pw_or1 (pt_cmpR (op_neD hr.units) (pe_call G_primes (hr.mono (by decide)) rfl g_primes kp_primes b_primes .nil passL (pa_cons (pe_op op_pow pe_int pe_int) pa_nil)) (pe_tup (pa_cons pe_int pa_nil)) (nomark _)))))) (pss_one (ps_ret pe_bl)) pss_nil)
        (pss_one (ps_ret (pe_not (pe_callB (cr_any rfl) rfl T.f_any (by decide +kernel) (pa_cons (pe_lc (own := [("_law_odd", 12)]) (g := gName 12) rfl sc_law.nd (pi_list (pe_lst (pa_cons pe_int (pa_cons pe_int (pa_cons (pe_un un_neg pe_int) (pa_cons pe_bl (pa_cons pe_non (pa_cons pe_str (pa_cons (pe_lst (pa_cons pe_int pa_nil)) (pa_cons (pe_op op_add (pe_op op_pow pe_int pe_int) pe_int) (pa_cons (pe_op op_pow pe_int pe_int) pa_nil))))))))))) (blkOk_by (N := ["_law_script", "_law_pen", "_law_turn", "_law_small", "_law_great", "_law_modulus", "_law_number", "_law_found", "_law_shared", "_law_one", "_law_other", "_law_many", "_law_odd"]) (sc := defScope s_law) (by decide +kernel)) (fun _ _ _ _ _ => (pg_name (i := 12) sc_law.nd rfl (Or.inl rfl))) (fun _ _ _ _ _ => pts_nil) (fun _ _ _ _ _ => (pe_cmpR op_ne (pe_callG G__law_refused (hr.mono (by decide)) rfl rfl g__law_refused kp__law_refused b__law_refused (pa_cons (pv 12) pa_nil)) (pe_callB (call_reprD rfl hr.units hS) rfl T.f_repr (by decide +kernel) (pa_cons (pv 12) pa_nil)) (nomark _)))) pa_nil))))))))))))), ?_⟩
  have hu := hu_of hr
  have sl : ∀ {n : Nat}, n ≤ 1000 → n ≤ sizeLine := fun h => Nat.le_of_lt (small1000 h)
  have cpw : ∀ {x k : Int}, 0 ≤ k → k ≤ 1000000 → x.natAbs < 2 ^ 64 → CPow x k := fun a b c => ⟨a, b, c⟩
  have w9 : ∀ {m : Int}, m.natAbs < 2 ^ 200 → m.natAbs < 2 ^ 9000 := fun h => Nat.lt_of_lt_of_le h (Nat.pow_le_pow_right (by decide) (by decide))
  -- the pen
  refine ⟨_, rfl, a, ns, rfl, hL, fun p c ns' H1 s1 P1 => ?_⟩
  refine ⟨_, rfl, by decide, by decide, ?_⟩
  refine for_range (lo := 0) (n := 12) (fun i σ H' => ∃ (x2 x3 x4 x5 x6 x7 x8 : Option V) (j l : Int), σ = [some (.ref a), some (.ref p), x2, x3, x4, x5, x6, x7, x8, none, none, none, none] ∧ PenAt H' p c ns' j l ∧ j ≤ 5 * (i : Int)) ⟨none, none, none, none, none, none, none, 0, 0, rfl, P1, by omega⟩ ?_ ?_
  · rintro i σ H2 hi ⟨x2, x3, x4, x5, x6, x7, x8, j, l, rfl, P2, hj⟩
    have w64 : ∀ {x y : Int}, x.natAbs < 2 ^ 200 → y.natAbs < 2 ^ 200 → CMulW x y := fun a b => wide_mul a b (by decide) (by decide) (by decide)
    -- small
    refine ⟨_, rfl, p, c, ns', j, l, 40, rfl, P2, by omega, by decide, w9 (by decide), fun d j1 l1 d0 d1 hj0 hj1 hl0 => ⟨_, _, rfl, rfl, ?_⟩⟩
    obtain ⟨sm, hsm⟩ : ∃ sm : Int, sm = 2 + d := ⟨_, rfl⟩
    have P3 : PenAt (penTo H2 p c j1 l1) p c ns' j1 l1 := P2.to hj0 hl0 (by omega)
    rw [show (fun i j => V.int (i + j)) 2 d = V.int sm by rw [hsm]]
    obtain ⟨H3, hH3⟩ : ∃ H3, H3 = penTo H2 p c j1 l1 := ⟨_, rfl⟩
    rw [← hH3] at P3 ⊢
    have sm2 : 2 ≤ sm := by omega
    have sm3 : sm ≤ 41 := by omega
    have smw : sm.natAbs < 2 ^ 6 := by omega
    -- great
    refine ⟨_, _, rfl, rfl, cpw (by decide) (by decide) (by decide), _, _, rfl, rfl, cpw (by decide) (by decide) (by decide), _, _, rfl, rfl, _, _, rfl, rfl, cpw (by decide) (by decide) (by decide), _, _, rfl, rfl, _, rfl, _, _, rfl, rfl, cpw (by decide) (by decide) (by decide), _, _, rfl, rfl, (wide_mul (a := 6) (b := 120) smw (by decide) (by decide) (by decide) (by decide)), _, _, rfl, rfl, (by show 5 ≤ sizeLine; exact sl (by decide)), fun lG hG => ?_⟩
    have eG : upd H3 lG (.lst [V.int (2 ^ 32), V.int (2 ^ 16 - 1), V.int 65521, V.int (10 ^ 9 + 7), V.int (sm * 10 ^ 30 + 1)]) lG = some (.lst [V.int (2 ^ 32), V.int (2 ^ 16 - 1), V.int 65521, V.int (10 ^ 9 + 7), V.int (sm * 10 ^ 30 + 1)]) := upd_same
    obtain ⟨H4, hH4⟩ : ∃ H4, H4 = upd H3 lG (.lst [V.int (2 ^ 32), V.int (2 ^ 16 - 1), V.int 65521, V.int (10 ^ 9 + 7), V.int (sm * 10 ^ 30 + 1)]) := ⟨_, rfl⟩
    rw [← hH4] at eG
    have P4 : PenAt H4 p c ns' j1 l1 := by rw [hH4]; exact P3.same (same_upd hG)
    -- modulus
    show tSeq _ _ _ [some (.ref a), some (.ref p), some (.int (0 + (i : Int))), some (.int sm), some (.ref lG), x5, x6, x7, x8, none, none, none, none] (upd H3 lG (.lst [V.int (2 ^ 32), V.int (2 ^ 16 - 1), V.int 65521, V.int (10 ^ 9 + 7), V.int (sm * 10 ^ 30 + 1)]))
    rw [← hH4]
    refine ⟨_, rfl, _, rfl, _, rfl, _, rfl, _, _, rfl, rfl, (wide_mul (a := 6) (b := 6) (by decide) smw (by decide) (by decide) (by decide)), (by show 3 ≤ sizeLine; exact sl (by decide)), fun lS hS2 => ?_⟩
    have P5 := P4.same (same_upd (o := .lst [V.int sm, V.int sm, V.int (6 * sm)]) hS2)
    have eG5 := same_upd (o := .lst [V.int sm, V.int sm, V.int (6 * sm)]) hS2 _ _ eG
    refine ⟨_, rfl, lS, lG, _, _, rfl, rfl, upd_same, eG5, (by show 8 ≤ sizeLine; exact sl (by decide)), fun lC hC => ?_⟩
    have P6 := P5.same (same_upd (o := .lst ([V.int sm, V.int sm, V.int (6 * sm)] ++ [V.int (2 ^ 32), V.int (2 ^ 16 - 1), V.int 65521, V.int (10 ^ 9 + 7), V.int (sm * 10 ^ 30 + 1)])) hC)
    refine ⟨p, c, lC, ns', j1, l1, _, rfl, P6, by omega, upd_same, (fun z => by cases z), (by show 8 ≤ 100000; decide), fun v j2 l2 hv hj2 hj3 hl2 => ?_⟩
    have P7 := P6.to (i' := j2) (l' := l2) hj2 hl2 (by omega)
    obtain ⟨H7, hH7⟩ : ∃ H7, H7 = penTo (upd (upd H4 lS (.lst [V.int sm, V.int sm, V.int (6 * sm)])) lC (.lst ([V.int sm, V.int sm, V.int (6 * sm)] ++ [V.int (2 ^ 32), V.int (2 ^ 16 - 1), V.int 65521, V.int (10 ^ 9 + 7), V.int (sm * 10 ^ 30 + 1)]))) p c j2 l2 := ⟨_, rfl⟩
    rw [← hH7] at P7
    obtain ⟨m, rfl, hm2, hmw⟩ : ∃ m : Int, v = .int m ∧ 2 ≤ m ∧ m.natAbs < 2 ^ 120 := by
      simp only [List.mem_append, List.mem_cons, List.not_mem_nil, or_false] at hv
      rcases hv with (rfl | rfl | rfl) | (rfl | rfl | rfl | rfl | rfl)
      · exact ⟨_, rfl, sm2, Nat.lt_of_lt_of_le smw (by decide)⟩
      · exact ⟨_, rfl, sm2, Nat.lt_of_lt_of_le smw (by decide)⟩
      · exact ⟨_, rfl, by omega, by omega⟩
      · exact ⟨_, rfl, by decide, by decide⟩
      · exact ⟨_, rfl, by decide, by decide⟩
      · exact ⟨_, rfl, by decide, by decide⟩
      · exact ⟨_, rfl, by decide, by decide⟩
      · exact ⟨_, rfl, by omega, by omega⟩
    show tSeq _ _ _ [some (.ref a), some (.ref p), some (.int (0 + (i : Int))), some (.int sm), some (.ref lG), some (.int m), x6, x7, x8, none, none, none, none] (penTo (upd (upd H4 lS (.lst [V.int sm, V.int sm, V.int (6 * sm)])) lC (.lst ([V.int sm, V.int sm, V.int (6 * sm)] ++ [V.int (2 ^ 32), V.int (2 ^ 16 - 1), V.int 65521, V.int (10 ^ 9 + 7), V.int (sm * 10 ^ 30 + 1)]))) p c j2 l2)
    rw [← hH7]
    -- number
    refine ⟨_, rfl, _, rfl, p, c, ns', j2, l2, m, rfl, P7, by omega, by omega, w9 (Nat.lt_of_lt_of_le hmw (by decide)), fun e j3 l3 e0 e1 hj4 hj5 hl3 => ?_⟩
    have P8 := P7.to (i' := j3) (l' := l3) hj4 hl3 (by omega)
    refine ⟨_, rfl, _, rfl, p, c, ns', j3, l3, 3, rfl, P8, by omega, by decide, w9 (by decide), fun g j4 l4 g0 g1 hj6 hj7 hl4 => ?_⟩
    have P9 := P8.to (i' := j4) (l' := l4) hj6 hl4 (by omega)
    have gw : (g - 1).natAbs < 2 ^ 1 := by omega
    refine ⟨_, _, rfl, rfl, _, _, rfl, rfl, (wide_mul (a := 120) (b := 1) hmw gw (by decide) (by decide) (by decide)), _, _, rfl, rfl, ?_⟩
    have bw : (e + m * (g - 1)).natAbs < 2 ^ 122 := by
      have h1 : (m * (g - 1)).natAbs < 2 ^ (120 + 1) := wide_lt hmw gw
      omega
    obtain ⟨nb, hnb⟩ : ∃ nb : Int, nb = e + m * (g - 1) := ⟨_, rfl⟩
    rw [← hnb] at bw
    obtain ⟨H9, hH9⟩ : ∃ H9, H9 = penTo (penTo H7 p c j3 l3) p c j4 l4 := ⟨_, rfl⟩
    rw [← hH9] at P9
    show tSeq _ _ _ [some (.ref a), some (.ref p), some (.int (0 + (i : Int))), some (.int sm), some (.ref lG), some (.int m), some (.int (e + m * (g - 1))), x7, x8, none, none, none, none] (penTo (penTo H7 p c j3 l3) p c j4 l4)
    rw [← hnb, ← hH9]
    -- number times
    refine ⟨_, rfl, _, rfl, _, rfl, (by show 4 ≤ sizeLine; exact sl (by decide)), fun lT hT => ?_⟩
    have P10 := P9.same (same_upd (o := .lst [V.int 1, V.int 1, V.int 2, V.int sm]) hT)
    refine ⟨p, c, lT, ns', j4, l4, _, rfl, P10, by omega, upd_same, (fun z => by cases z), (by show 4 ≤ 100000; decide), fun v j5 l5 hv hj8 hj9 hl5 => ?_⟩
    have P11 := P10.to (i' := j5) (l' := l5) hj8 hl5 (by omega)
    obtain ⟨k, rfl, hk0, hk1⟩ : ∃ k : Int, v = .int k ∧ 1 ≤ k ∧ k ≤ 41 := by
      simp only [List.mem_cons, List.not_mem_nil, or_false] at hv
      rcases hv with rfl | rfl | rfl | rfl
      · exact ⟨_, rfl, by decide, by decide⟩
      · exact ⟨_, rfl, by decide, by decide⟩
      · exact ⟨_, rfl, by decide, by decide⟩
      · exact ⟨_, rfl, by omega, by omega⟩
    have kw : k.natAbs < 2 ^ 6 := by omega
    refine ⟨_, _, rfl, rfl, (wide_mul (a := 122) (b := 6) bw kw (by decide) (by decide) (by decide)), ?_⟩
    have nw : (nb * k).natAbs < 2 ^ (122 + 6) := wide_lt bw kw
    obtain ⟨N, hN⟩ : ∃ N : Int, N = nb * k := ⟨_, rfl⟩
    rw [← hN] at nw
    obtain ⟨H11, hH11⟩ : ∃ H11, H11 = penTo (upd H9 lT (.lst [V.int 1, V.int 1, V.int 2, V.int sm])) p c j5 l5 := ⟨_, rfl⟩
    rw [← hH11] at P11
    show tSeq _ _ _ [some (.ref a), some (.ref p), some (.int (0 + (i : Int))), some (.int sm), some (.ref lG), some (.int m), some (.int (nb * k)), x7, x8, none, none, none, none] (penTo (upd H9 lT (.lst [V.int 1, V.int 1, V.int 2, V.int sm])) p c j5 l5)
    rw [← hN, ← hH11]
    -- found, shared
    have zN : Sz N := Nat.lt_of_lt_of_le nw (by decide)
    have zm : Sz m := Nat.lt_of_lt_of_le hmw (by decide)
    refine ⟨_, rfl, _, rfl, N, m, rfl, hm2, zN, zm, ?_⟩
    refine inv_step fun v H12 s12 hv => ?_
    have P12 := P11.same s12
    refine ⟨_, rfl, _, rfl, N, m, rfl, _, _, rfl, ?_⟩
    obtain ⟨sN, hsN⟩ : ∃ sN : Nat, sm = sN := ⟨sm.toNat, by omega⟩
    have dg : decide (V.int ((Int.gcd N m : Nat) : Int) = V.int 1) = decide (Int.gcd N m = 1) := decide_eq_decide.mpr ⟨fun z => by injection z with z; omega, fun z => by rw [z]; rfl⟩
    have dn : decide (v = V.non) = !decide (Int.gcd N m = 1) := by
      rcases hv with ⟨hv, hg⟩ | ⟨x, hv, hg, hx⟩
      · rw [hv, decide_eq_false hg]
        rfl
      · rw [hv, decide_eq_true hg]
        rfl
    -- (found is None) != (shared != 1)
    refine ⟨_, rfl, rfl, _, rfl, rfl, rfl, false, congrArg V.bl (by rw [dn, dg]; simp), iteF ?_⟩
    -- if found is not None
    refine' use_tail (fun tail => ?_) ?_
    rotate_left
    · have hv2 := hv
      rcases hv2 with ⟨hv2, hg⟩ | ⟨x, hv2, hg, hx⟩
      · exact ⟨_, rfl, rfl, false, congrArg V.bl (by rw [dn, decide_eq_false hg]; rfl), iteF tail⟩
      · refine ⟨_, rfl, rfl, true, congrArg V.bl (by rw [dn, decide_eq_true hg]; rfl), iteT ?_⟩
        have xw : x.natAbs < 2 ^ 120 := by
          have := hx.lo
          have := hx.hi
          omega
        refine ⟨_, rfl, _, _, _, _, true, rfl, .ty _, (by rw [hv2]; exact .base (.int x)), kit_ty (by decide +kernel), true, rfl, iteF ?_⟩
        refine ⟨_, rfl, _, x, rfl, hv2, true, congrArg V.bl (decide_eq_true hx.lo), iteT ⟨_, rfl, x, _, hv2, rfl, true, congrArg V.bl (decide_eq_true hx.hi), iteF ?_⟩⟩
        refine ⟨_, rfl, _, rfl, x, _, hv2, rfl, (wide_mul (a := 120) (b := 128) xw nw (by decide) (by decide) (by decide)), .inl ⟨_, rfl, _, rfl, _, _, rfl, rfl, (by show m ≠ 0; omega), rfl, false, congrArg V.bl ?_, iteF tail⟩⟩
        rw [show (fun i j => V.int (i.fmod j)) (x * N) m = V.int 1 by
          show V.int ((x * N).fmod m) = V.int 1
          rw [Int.fmod_eq_emod_of_nonneg _ (by omega), hx.one]]
        rfl
    · -- primes
      have gS : Good sN := good_small (by omega) (by omega)
      refine ⟨_, rfl, _, rfl, .inl ⟨sN, congrArg V.int hsN, by omega, by omega, gS, fun fs t H13 hp s13 ht => ?_⟩⟩
      refine ⟨_, rfl, sN, (by show [V.int sm] = _; rw [hsN]), by omega, by omega, fun fs2 t2 H14 hp2 s14 ht2 => ?_⟩
      refine ⟨_, _, (row_nats (s14 _ _ ht)).dp, (row_nats ht2).dp, dI_shaped _, dI_shaped _, false, congrArg V.bl (by rw [dI_eqv, hp.unique hp2]; simp), iteF ?_⟩
      refine ⟨_, rfl, _, rfl, .inl ⟨sN, congrArg V.int hsN, by omega, by omega, gS, fun fs3 t3 H15 hp3 s15 ht3 => ?_⟩⟩
      refine ⟨_, _, _, _, true, rfl, .ty _, .base (.tup ht3), kit_ty (by decide +kernel), true, rfl, iteF ?_⟩
      exact ⟨_, _, _, _, _, _, _, _, _, rfl, ((P12.same s13).same s14).same s15, by omega⟩
  · rintro σ H2 ⟨x2, x3, x4, x5, x6, x7, x8, j, l, rfl, P2, hj⟩
    -- one, other
    have hj5 : j ≤ 60 := by omega
    have w64 : ∀ {x y : Int}, x.natAbs < 2 ^ 64 → y.natAbs < 2 ^ 64 → CMulW x y := fun a b => wide_mul a b (by decide) (by decide) (by decide)
    refine ⟨_, rfl, (by show 5 ≤ sizeLine; exact sl (by decide)), fun lA hA => ?_⟩
    have P3 := P2.same (same_upd (o := .lst [V.int 2, V.int 3, V.int 5, V.int 17, V.int 257]) hA)
    refine ⟨p, c, lA, ns', j, l, _, rfl, P3, by omega, upd_same, (fun z => by cases z), (by show 5 ≤ 100000; decide), fun v j1 l1 hv hj1 hj2 hl1 => ?_⟩
    have P4 := P3.to (i' := j1) (l' := l1) hj1 hl1 (by omega)
    obtain ⟨ga, hga, pga, lga⟩ : ∃ g : Nat, v = .int (g : Int) ∧ IsP g ∧ g ≤ 257 := by
      simp only [List.mem_cons, List.not_mem_nil, or_false] at hv
      rcases hv with rfl | rfl | rfl | rfl | rfl
      · exact ⟨2, rfl, p2, by decide⟩
      · exact ⟨3, rfl, p3, by decide⟩
      · exact ⟨5, rfl, p5, by decide⟩
      · exact ⟨17, rfl, p17, by decide⟩
      · exact ⟨257, rfl, p257, by decide⟩
    refine ⟨_, rfl, (by show 5 ≤ sizeLine; exact sl (by decide)), fun lB hB => ?_⟩
    have P5 := P4.same (same_upd (o := .lst [V.int 3, V.int 7, V.int 101, V.int 65537, V.int 999983]) hB)
    refine ⟨p, c, lB, ns', j1, l1, _, rfl, P5, by omega, upd_same, (fun z => by cases z), (by show 5 ≤ 100000; decide), fun u j3 l3 hu2 hj3 hj4 hl3 => ?_⟩
    have P6 := P5.to (i' := j3) (l' := l3) hj3 hl3 (by omega)
    obtain ⟨gb, hgb, pgb, lgb⟩ : ∃ g : Nat, u = .int (g : Int) ∧ IsP g ∧ g ≤ 999983 := by
      simp only [List.mem_cons, List.not_mem_nil, or_false] at hu2
      rcases hu2 with rfl | rfl | rfl | rfl | rfl
      · exact ⟨3, rfl, p3, by decide⟩
      · exact ⟨7, rfl, p7, by decide⟩
      · exact ⟨101, rfl, p101, by decide⟩
      · exact ⟨65537, rfl, p65537, by decide⟩
      · exact ⟨999983, rfl, p999983, by decide⟩
    subst hga hgb
    refine ⟨_, _, rfl, ?_⟩
    obtain ⟨H6, hH6⟩ : ∃ H6, H6 = penTo (upd (penTo (upd H2 lA (.lst [V.int 2, V.int 3, V.int 5, V.int 17, V.int 257])) p c j1 l1) lB (.lst [V.int 3, V.int 7, V.int 101, V.int 65537, V.int 999983])) p c j3 l3 := ⟨_, rfl⟩
    rw [← hH6] at P6
    show tSeq _ _ _ [some (.ref a), some (.ref p), x2, x3, x4, x5, x6, x7, x8, some (.int (ga : Int)), some (.int (gb : Int)), none, none] (penTo (upd (penTo (upd H2 lA (.lst [V.int 2, V.int 3, V.int 5, V.int 17, V.int 257])) p c j1 l1) lB (.lst [V.int 3, V.int 7, V.int 101, V.int 65537, V.int 999983])) p c j3 l3)
    rw [← hH6]
    -- many
    refine ⟨_, rfl, p, c, ns', j3, l3, 4, rfl, P6, by omega, by decide, w9 (by decide), fun d j4 l4 d0 d1 hj6 hj7 hl4 => ?_⟩
    have P7 := P6.to (i' := j4) (l' := l4) hj6 hl4 (by omega)
    obtain ⟨H7, hH7⟩ : ∃ H7, H7 = penTo H6 p c j4 l4 := ⟨_, rfl⟩
    rw [← hH7] at P7
    show tSeq _ _ _ [some (.ref a), some (.ref p), x2, x3, x4, x5, x6, x7, x8, some (.int (ga : Int)), some (.int (gb : Int)), some (.int d), none] (penTo H6 p c j4 l4)
    rw [← hH7]
    have wa : ((ga : Int)).natAbs < 2 ^ 64 := by omega
    have wb : ((gb : Int)).natAbs < 2 ^ 64 := by omega
    have waa : ((ga : Int) * (ga : Int)).natAbs < 2 ^ 64 := Nat.lt_of_lt_of_le (wide_lt (a := 10) (b := 10) (i := (ga : Int)) (j := (ga : Int)) (by omega) (by omega)) (by decide)
    obtain ⟨N, C⟩ := chosen pga pgb lga lgb d0 d1
    refine ⟨_, rfl, _, rfl, _, _, rfl, rfl, w64 wa wb, _, rfl, _, rfl, _, _, rfl, rfl, w64 wa wa, _, rfl, _, _, rfl, rfl, w64 waa wb, _, rfl, _, rfl, _, _, rfl, rfl, w64 wa wa, _, rfl, _, rfl, _, _, rfl, rfl, w64 wa wa, _, rfl, _, _, rfl, rfl, w64 waa wa, (by show 4 ≤ sizeLine; exact sl (by decide)), fun lN hN => ?_⟩
    refine ⟨_, rfl, lN, _, d, _, rfl, rfl, SqL.of upd_same, C.at_, ?_⟩
    have P8 := P7.same (same_upd (o := .lst [V.int ((ga : Int) * gb), V.int ((ga : Int) * ga * gb), V.int ((ga : Int) * ga), V.int ((ga : Int) * ga * ga)]) hN)
    obtain ⟨H8, hH8⟩ : ∃ H8, H8 = upd H7 lN (.lst [V.int ((ga : Int) * gb), V.int ((ga : Int) * ga * gb), V.int ((ga : Int) * ga), V.int ((ga : Int) * ga * ga)]) := ⟨_, rfl⟩
    show tSeq _ _ _ [some (.ref a), some (.ref p), x2, x3, x4, x5, some (.int (N : Int)), x7, x8, some (.int (ga : Int)), some (.int (gb : Int)), some (.int d), none] (upd H7 lN (.lst [V.int ((ga : Int) * gb), V.int ((ga : Int) * ga * gb), V.int ((ga : Int) * ga), V.int ((ga : Int) * ga * ga)]))
    rw [← hH8]
    -- its primes
    refine ⟨_, rfl, _, rfl, .inl ⟨N, rfl, C.lo, C.hi, C.good, fun fs t H9 hp s9 ht => ?_⟩⟩
    refine' share1 (α := Hp) (fun tail => ?_) ?_
    rotate_left
    · have w10 : ((ga : Int) = (ga : Int)) := rfl
      have cmem := C.mem
      by_cases hd : d < 2
      · rw [if_pos hd] at cmem
        refine ⟨_, rfl, _, _, rfl, rfl, true, congrArg V.bl (decide_eq_true hd), iteT ⟨_, rfl, _, rfl, (by show 2 ≤ sizeLine; exact sl (by decide)), fun lS hlS => ?_⟩⟩
        refine ⟨lS, [(ga : Int), (gb : Int)], rfl, SqL.of upd_same, (by show _ ≤ 60; simp), fun aS cS hfree hc => ⟨aS, _, cS, rfl, upd_same, by have : cS ≤ 2 := hc; omega, fun ms pS hasc hms hml hpS => ⟨_, _, rfl, .inl ⟨SqL.of upd_same, fun tS htS => ?_⟩⟩⟩⟩
        have em := sorted_primes hp hasc hms cmem
        obtain ⟨Hx, hHx⟩ : ∃ Hx, Hx = upd (upd (upd (upd H9 lS (.lst [V.int (ga : Int), V.int (gb : Int)])) aS (SetO w aS (fun j => decide (j ∈ [(ga : Int), (gb : Int)])) cS)) pS (.lst (ms.map V.int))) tS (.tup (ms.map V.int)) := ⟨_, rfl⟩
        have et : RowAt K Hx tS (toI fs) := by rw [hHx, em]; exact SqT.of upd_same
        have e0 : Hx t = some (.tup (nats fs)) := by
          have e1 := same_upd (o := .lst [V.int (ga : Int), V.int (gb : Int)]) hlS _ _ ht
          have e2 := same_upd (o := SetO w aS (fun j => decide (j ∈ [(ga : Int), (gb : Int)])) cS) hfree _ _ e1
          have e3 := same_upd (o := .lst (ms.map V.int)) hpS _ _ e2
          rw [hHx]
          exact same_upd (o := .tup (ms.map V.int)) htS _ _ e3
        refine ⟨dI (toI fs), dI (toI fs), ?_, ?_, dI_shaped _, dI_shaped _, false, congrArg V.bl (by rw [dI_eqv]; simp), iteF ?_⟩
        · have := (row_nats (K := K) e0).dp
          rw [hHx] at this
          exact this
        · have := et.dp
          rw [hHx] at this
          exact this
        · have := tail Hx
          rw [hHx] at this
          exact this
      · rw [if_neg hd] at cmem
        refine ⟨_, rfl, _, _, rfl, rfl, false, congrArg V.bl (decide_eq_false hd), iteF ⟨_, rfl, (by show 1 ≤ sizeLine; exact sl (by decide)), fun lS hlS => ?_⟩⟩
        refine ⟨lS, [(ga : Int)], rfl, SqL.of upd_same, (by show _ ≤ 60; simp), fun aS cS hfree hc => ⟨aS, _, cS, rfl, upd_same, by have : cS ≤ 1 := hc; omega, fun ms pS hasc hms hml hpS => ⟨_, _, rfl, .inl ⟨SqL.of upd_same, fun tS htS => ?_⟩⟩⟩⟩
        have em := sorted_primes hp hasc hms cmem
        obtain ⟨Hx, hHx⟩ : ∃ Hx, Hx = upd (upd (upd (upd H9 lS (.lst [V.int (ga : Int)])) aS (SetO w aS (fun j => decide (j ∈ [(ga : Int)])) cS)) pS (.lst (ms.map V.int))) tS (.tup (ms.map V.int)) := ⟨_, rfl⟩
        have et : RowAt K Hx tS (toI fs) := by rw [hHx, em]; exact SqT.of upd_same
        have e0 : Hx t = some (.tup (nats fs)) := by
          have e1 := same_upd (o := .lst [V.int (ga : Int)]) hlS _ _ ht
          have e2 := same_upd (o := SetO w aS (fun j => decide (j ∈ [(ga : Int)])) cS) hfree _ _ e1
          have e3 := same_upd (o := .lst (ms.map V.int)) hpS _ _ e2
          rw [hHx]
          exact same_upd (o := .tup (ms.map V.int)) htS _ _ e3
        refine ⟨dI (toI fs), dI (toI fs), ?_, ?_, dI_shaped _, dI_shaped _, false, congrArg V.bl (by rw [dI_eqv]; simp), iteF ?_⟩
        · have := (row_nats (K := K) e0).dp
          rw [hHx] at this
          exact this
        · have := et.dp
          rw [hHx] at this
          exact this
        · have := tail Hx
          rw [hHx] at this
          exact this
    · intro Hz
      have pair : ∀ (n : Nat) (fs' fs : List Nat) (ns : List Int) (t t2 : Addr) (H' : Hp), PrimesOf n fs' → PrimesOf n fs → toI fs = ns → H' t = some (.tup (nats fs')) → H' t2 = none → ∃ d e, Dp K (upd H' t2 (.tup (ns.map V.int))) (.ref t) d ∧ Dp K (upd H' t2 (.tup (ns.map V.int))) (.ref t2) e ∧ SeqAt.shaped d = true ∧ SeqAt.shaped e = true ∧ (!PyData.eqv d e) = false :=
        fun n fs' fs ns t t2 H' h1 h2 h3 ht ht2 => ⟨dI (toI fs'), dI ns, (row_nats (same_upd ht2 _ _ ht)).dp, RowAt.dp (SqT.of upd_same), dI_shaped _, dI_shaped _, by rw [dI_eqv, h1.unique h2, h3]; simp⟩
      refine ⟨_, _, rfl, rfl, w64 (by decide) (by decide), _, rfl, .inl ⟨999983 * 999979, by decide +kernel, by decide, by decide, good_big, fun f1 t1 Hb hp1 sb1 ht1 => ⟨(by show 2 ≤ sizeLine; exact sl (by decide)), fun u1 hu1 => ?_⟩⟩⟩
      obtain ⟨da, ea, q1, q2, q3, q4, q5⟩ := pair _ _ _ [999979, 999983] t1 u1 Hb hp1 primes_big rfl ht1 hu1
      refine ⟨da, ea, q1, q2, q3, q4, false, congrArg V.bl q5, iteF ?_⟩
      refine ⟨_, _, rfl, rfl, cpw (by decide) (by decide) (by decide), _, rfl, .inl ⟨10 ^ 12, by decide +kernel, by decide, by decide, good_tera, fun f2 t2 Hc hp2 sc2 ht2 => ⟨(by show 2 ≤ sizeLine; exact sl (by decide)), fun u2 hu2 => ?_⟩⟩⟩
      obtain ⟨db, eb, q1, q2, q3, q4, q5⟩ := pair _ _ _ [2, 5] t2 u2 Hc hp2 primes_tera rfl ht2 hu2
      refine ⟨db, eb, q1, q2, q3, q4, false, congrArg V.bl q5, iteF ?_⟩
      refine ⟨_, _, rfl, rfl, cpw (by decide) (by decide) (by decide), _, rfl, .inl ⟨2 ^ 39, by decide +kernel, by decide, by decide, good_two, fun f3 t3 Hd hp3 sd3 ht3 => ⟨(by show 1 ≤ sizeLine; exact sl (by decide)), fun u3 hu3 => ?_⟩⟩⟩
      obtain ⟨dc, ec, q1, q2, q3, q4, q5⟩ := pair _ _ _ [2] t3 u3 Hd hp3 primes_two rfl ht3 hu3
      refine ⟨dc, ec, q1, q2, q3, q4, false, congrArg V.bl q5, iteF ?_⟩
      -- what is refused
      refine ⟨_, rfl, (by show 1 ≤ sizeLine; exact sl (by decide)), fun l6 h6 => ?_⟩
      refine ⟨_, _, rfl, rfl, cpw (by decide) (by decide) (by decide), _, _, rfl, rfl, _, _, rfl, rfl, cpw (by decide) (by decide) (by decide), (by show 9 ≤ sizeLine; exact sl (by decide)), fun L hL => ?_⟩
      obtain ⟨xs, hxs⟩ : ∃ xs : List V, xs = [V.int 1, V.int 0, V.int (-6), V.bl true, V.non, V.str (Str.ofString "6"), V.ref l6, V.int (10 ^ 12 + 1), V.int (10 ^ 30)] := ⟨_, rfl⟩
      obtain ⟨He, hHe⟩ : ∃ He, He = upd (upd (upd Hd u3 (.tup [V.int 2])) l6 (.lst [V.int 6])) L (.lst xs) := ⟨_, rfl⟩
      have eL : He L = some (.lst xs) := by rw [hHe]; exact upd_same
      have e6 : He l6 = some (.lst [V.int 6]) := by rw [hHe]; exact same_upd hL _ _ upd_same
      have odds : ∀ H' : Hp, Same He H' → ∀ x ∈ xs, ∃ d : PyData, Odd H' x ∧ Dq H' x d ∧ d.showable = true ∧ d.depth ≤ 60 ∧ d.shown.length ≤ sizeLine := by
        intro H' sH x hx
        have f6 := sH _ _ e6
        rw [hxs] at hx
        simp only [List.mem_cons, List.not_mem_nil, or_false] at hx
        rcases hx with rfl | rfl | rfl | rfl | rfl | rfl | rfl | rfl | rfl
        · exact ⟨.int 1, .inl (by decide), .int 1, by decide +kernel, by decide +kernel, by decide +kernel⟩
        · exact ⟨.int 0, .inl (by decide), .int 0, by decide +kernel, by decide +kernel, by decide +kernel⟩
        · exact ⟨.int (-6), .inl (by decide), .int (-6), by decide +kernel, by decide +kernel, by decide +kernel⟩
        · exact ⟨.bool true, trivial, .bl true, by decide +kernel, by decide +kernel, by decide +kernel⟩
        · exact ⟨.none, trivial, .non, by decide +kernel, by decide +kernel, by decide +kernel⟩
        · exact ⟨.str (Str.ofString "6"), trivial, .str _, by decide +kernel, by decide +kernel, by decide +kernel⟩
        · exact ⟨.list [.int 6], ⟨_, f6⟩, .lst f6 (.cons (.int 6) .nil), by decide +kernel, by decide +kernel, by decide +kernel⟩
        · exact ⟨.int (10 ^ 12 + 1), .inr (by decide), .int _, by decide +kernel, by decide +kernel, by decide +kernel⟩
        · exact ⟨.int (10 ^ 30), .inr (by decide), .int _, by decide +kernel, by decide +kernel, by decide +kernel⟩
      have hn : xs.length = 9 := by rw [hxs]; rfl
      refine ⟨L, rfl, ⟨_, SqL.of upd_same⟩, fun D hD => ?_⟩
      have hD2 : He D = none := by rw [hHe, hxs]; exact hD
      show ∃ W : Nat → Nat → Hp → Prop, (∃ m, W 0 m (upd (upd (upd (upd Hd u3 (.tup [V.int 2])) l6 (.lst [V.int 6])) L (.lst [V.int 1, V.int 0, V.int (-6), V.bl true, V.non, V.str (Str.ofString "6"), V.ref l6, V.int (10 ^ 12 + 1), V.int (10 ^ 30)])) D (.lst []))) ∧ _
      rw [← hxs, ← hHe]
      refine lc_list (a := L) (xs := xs) (fun j H2 => Same He H2 ∧ H2 D = some (.lst ((List.replicate j false).map V.bl))) ⟨same_upd hD2, upd_same⟩ (fun j H2 _ ⟨s2, _⟩ => SqL.of (s2 _ _ eL)) (fun j x H2 hx ⟨s2, hDx⟩ => ?_) (fun H2 ⟨s2, hDx⟩ => ?_)
      · have hjl : j < 9 := by rw [← hn]; exact (List.getElem?_eq_some_iff.mp hx).1
        obtain ⟨dd, o1, o2, o3, o4, o5⟩ := odds H2 s2 x (List.mem_of_getElem? hx)
        refine ⟨rfl, ?_⟩
        refine ⟨_, rfl, x, dd, rfl, o1, o2, o3, o4, o5, fun H' sH => ?_⟩
        refine ⟨_, rfl, x, dd, rfl, o2.same sH, o3, o4, o5, rfl, _, sH _ _ hDx, small1000 (by simp; omega), fun b u e => ?_, ?_⟩
        · rw [upd_ne (ne_of_none e hD2)]
          exact sH _ _ (s2 _ _ e)
        · rw [upd_same, List.replicate_succ']
          simp
      · rw [hn] at hDx
        exact ⟨D, List.replicate 9 false, rfl, SqL.of hDx, _, rfl, rfl⟩
end
end Wk

namespace Wk
open PySem PySem.Spec PyProof.Rows L2
def mkD (x : Str) (st : Stmt) : He.DefD := ⟨(x, none), x, x, defArgs st, defBody st, defScope st, [], []⟩
def mkM (C m q : Str) (st : Stmt) (dv : List He.Dv := []) : He.DefD := ⟨(C, some m), m, q, defArgs st, defBody st, defScope st, dv, []⟩
def fn : List He.DefD := [mkM "BadModulus" "__init__" "BadModulus.__init__" s_BadModulus_init, mkD "is_integer" s_is_integer, mkD "is_within" s_is_within, mkD "inverse" s_inverse, mkD "primes" s_primes, mkD "prime_parts" s_prime_parts, mkD "without" s_without, mkD "great_primes" s_great_primes, mkD "is_great_prime" s_is_great_prime, mkD "passes" s_passes, mkD "least_of_two" s_least_of_two, mkD "_law_pen_of" s_law_pen_of, mkD "_law_draw" s_law_draw, mkD "_law_pick" s_law_pick, mkD "_law_common" s_law_common, mkD "_law_refused" s_law_refused, mkD "_law_primes" s_law_primes, mkD "law" s_law]
def fa : List He.Fa := [.glo "SumsError", .glo "BadModulus", .glo "BASES", .glo "is_integer", .glo "is_within", .glo "inverse", .glo "primes", .glo "prime_parts", .glo "without", .glo "great_primes", .glo "is_great_prime", .glo "passes", .glo "least_of_two", .glo "_law_pen_of", .glo "_law_draw", .glo "_law_pick", .glo "_law_common", .glo "_law_refused", .glo "_law_primes", .glo "law", .free "isinstance", .free "int", .free "bool", .free "range", .free "min", .free "tuple", .free "len", .free "abs", .free "any", .free "sorted", .free "set", .free "repr", .free "list", .int "MOST" 1000000000000, .int "TRIED" 20000]
/-! what else is read off -/
def oexB (K : PySem.W.Frag) (C : Addr) : Bool := match K.lookup C with
  | some ⟨.type t, _, .cls cd, sl⟩ => (match cd.mro, sl.toList with
    | .ref D :: bm, [_, _, _, _, some (.builtin n), _] => decide (t = "type") && (decide (D = C) && (decide (n = "ValueError.__new__") && (!cd.hasDel && (cd.hasDict && PySem.HandSPX.refsVE bm))))
    | _, _ => false)
  | _ => false
theorem oexB_ok {K : PySem.W.Frag} {C : Addr} (h : oexB K C = true) : ∃ nm q N bs bm sn sub ab col dd k0 k1 k2 k3 k5, K.lookup C = some (excClassObj nm q C N bs bm true sn sub ab col dd k0 k1 k2 k3 k5 "ValueError.__new__") ∧ PySem.HandSPX.refsVE bm = true := by
  unfold oexB at h
  split at h
  · rename_i t dd cd sl e
    split at h
    · rename_i D bm k0 k1 k2 k3 n k5 e1 e2
      simp only [Bool.and_eq_true, decide_eq_true_eq, Bool.not_eq_true'] at h
      obtain ⟨rfl, rfl, rfl, h1, h2, h3⟩ := h
      obtain ⟨nm, bs, mro, ns, qn, hd, sn, sub, ab, col, del⟩ := cd
      dsimp only at e1 h1 h2
      subst e1 h1 h2
      obtain ⟨l⟩ := sl
      dsimp only at e2
      subst e2
      exact ⟨nm, qn, ns, bs, bm, sn, sub, ab, col, dd, k0, k1, k2, k3, k5, e, h3⟩
    · cases h
  · cases h
def excB (K : PySem.W.Frag) (C : Addr) : Bool := decide (PySem.W.findIn K (.ref C) "__getattribute__" = some (some (.builtin "BaseException.__getattribute__"))) && (decide (PySem.W.findIn K (.ref C) "__getattr__" = some none) && (decide (PySem.W.subIn K (.ref C) (.type "BaseException") = some true) && (PySem.W.hasDictIn K C &&
  (decide (PySem.W.findIn K (.ref C) "__class__" = some (some (.builtin "object.__class__"))) && (decide (PySem.W.specialIn K (.builtin "object.__class__") "__get__" = some (some (.builtin "getset_descriptor.__get__"))) && (decide (PySem.W.takesIn K (.builtin "object.__class__") = some true) && decide (PySem.W.mroIn K C (.type "object") = some true)))))))
theorem excB_ok {K : PySem.W.Frag} {C : Addr} (h : excB K C = true) : ExcC K C := by
  unfold excB at h
  simp only [Bool.and_eq_true, decide_eq_true_eq] at h
  obtain ⟨h1, h2, h3, h4, h5, h6, h7, h8⟩ := h
  exact ⟨h1, h2, h3, h4, h5, h6, h7, h8⟩
def basesB (K : PySem.W.Frag) (a : Addr) : Bool := match K.lookup a with
  | some ⟨.type t, _, .seq its _, _⟩ => (match its.toList with
    | [.int i1 _, .int i2 _, .int i3 _, .int i4 _, .int i5 _] => decide (t = "tuple") && decide ([i1, i2, i3, i4, i5] = [2, 3, 5, 7, 11])
    | _ => false)
  | _ => false
theorem basesB_ok {K : PySem.W.Frag} {a : Addr} (h : basesB K a = true) (H : Hp) : SqT K H a [.int 2, .int 3, .int 5, .int 7, .int 11] := by
  unfold basesB at h
  split at h
  · rename_i t dd its n sl e
    split at h
    · rename_i i1 t1 i2 t2 i3 t3 i4 t4 i5 t5 e1
      simp only [Bool.and_eq_true, decide_eq_true_eq, List.cons.injEq, and_true] at h
      obtain ⟨rfl, rfl, rfl, rfl, rfl, rfl⟩ := h
      refine .inr ⟨_, its, n, e, rfl, rfl, ?_, ?_⟩
      · have : its.size = 5 := by rw [← Array.length_toList, e1]; rfl
        rw [this, sizeLine_eq]
        decide
      · rw [e1]
        exact .cons ⟨_, rfl⟩ (.cons ⟨_, rfl⟩ (.cons ⟨_, rfl⟩ (.cons ⟨_, rfl⟩ (.cons ⟨_, rfl⟩ .nil))))
    · cases h
  · cases h
def exL (K : PySem.W.Frag) : List Bool := [oexB K (He.ga K "BadModulus"), decide (PySem.W.findIn K (.ref (He.ga K "BadModulus")) "__setattr__" = some (some (.builtin "object.__setattr__"))), decide (PySem.W.subIn K (.ref (He.ga K "BadModulus")) (.type "BaseException") = some true), decide (PySem.W.typeIn K (.ref (He.ga K "BadModulus")) = some (.type "type")), PySem.W.keepIn K (.ref (He.ga K "BadModulus")),
  decide (PySem.W.findIn K (.ref (He.ga K "BadModulus")) "__init__" = some (some (.ref (He.ma K (He.ga K "BadModulus") "__init__")))), decide (PySem.W.typeIn K (.ref (He.ma K (He.ga K "BadModulus") "__init__")) = some (.type "function")), decide (PySem.W.findIn K (.ref (He.ga K "BadModulus")) "number" = some none), excB K (He.ga K "BadModulus"), xfB K (He.ga K "BadModulus"),
  decide (PySem.W.exmOne K (.ref (He.ga K "BadModulus")) (.ref (He.ga K "BadModulus")) = some true), decide (PySem.W.kitOne K (.ref (He.ga K "BadModulus")) (.ref (He.ga K "SumsError")) = some true), basesB K (He.ga K "BASES"),
  decide (PySem.W.nsIn K mainGlobals "gcd" = some (some (.builtin "math.gcd"))), decide (PySem.W.nsIn K mainGlobals "isqrt" = some (some (.builtin "math.isqrt")))]
def exB (K : PySem.W.Frag) : Bool := (exL K).all id
theorem ex_at {K : PySem.W.Frag} (c : exB K = true) (i : Nat) {b : Bool} (h : (exL K)[i]? = some b := by rfl) : b = true := List.all_eq_true.mp c b (List.mem_of_getElem? h)
abbrev RW20 : PySem.W.OpenRow := PySem.W.OpenLaw.row PySem.Challenge.rw_guardsums_k20_residues
abbrev hk : PySem.W.Hook := hookS 5 fa fn exB
def names : List Str := ["MOST", "TRIED", "BASES", "SumsError", "BadModulus", "is_integer", "is_within", "inverse", "primes", "prime_parts", "without", "great_primes", "is_great_prime", "passes", "least_of_two", "_law_pen_of", "_law_draw", "_law_pick", "_law_common", "_law_refused", "_law_primes"]
theorem run (w : World) : HandSHeadRun.RunEqI RW20 (PySem.W.view RW20.prog [0, 26]) hk (obS 5 fa fn exB) 20000 names w := by
  unfold HandSHeadRun.RunEqI
  kernel_rfl
end Wk

namespace Wk
open PySem PySem.Spec PyProof.Rows L2
theorem fun_at {K : PySem.W.Frag} {x qual : Str} {st : Stmt} {f : Addr} {fd : FuncData} (F : FunD K x qual (defArgs st) (defBody st) (defScope st) [] [] f fd) : Fun K x qual st f fd := by
  obtain ⟨oc, od, dV, kV, doc, pm, an, cdv, ct, osl, e, l, c, hd, _⟩ := F.ex
  rcases hd with ⟨_, e2⟩ | ⟨e2, _⟩
  · subst e2
    exact ⟨⟨oc, od, kV, doc, pm, an, cdv, ct, osl, e, l, c⟩, F.kp⟩
  · exact absurd rfl e2
section
variable {w : World} {K : PySem.W.Frag} {mg : Str → Option Value} {h : Heap}
theorem law_at (X : K.In h) (G : h.Ns mainGlobals mg) {fL : Addr} (hfa : mg "law" = some (.ref fL)) (c : He.SaysX fa fn [] [] exB w h K) (hm : ∃ o es m, h.get? sysModules = some o ∧ o.data = .dict es m) {base : Heap} {s : Shared} {H : Hp} {a : Addr} {ns : List Int}
    (hb : ∀ b o, h.get? b = some o → (∀ us m, o.data ≠ .seq us m) → base.get? b = some o) (e0 : Env0 PySem.Challenge.rw_guardsums_k20_residues.prog w K mg base callerA [] s H) (hL : SqL K H a (ns.map V.int)) :
    codeAny (model PySem.Challenge.rw_guardsums_k20_residues.prog w) callerA (.call (.ref fL) ⟨[.ref a], []⟩) (CR CX0 [] PySem.Challenge.rw_guardsums_k20_residues.prog w H s (fun v _ => v = .bl true) E0) s := by
  have cd := c.t.d
  have eL := hfa.symm.trans (He.glo_ok X G (cd.fact 19 (f := .glo "law") rfl))
  cases eL
  have hS : ∃ o es m, base.get? sysModules = some o ∧ o.data = .dict es m := by
    obtain ⟨o, es, m, e, d⟩ := hm
    exact ⟨o, es, m, hb _ _ e (fun us k z => by rw [d] at z; cases z), d⟩
  obtain ⟨d_BadModulus_init, F_BadModulus_init⟩ := cd.def_ 0 (d := mkM "BadModulus" "__init__" "BadModulus.__init__" s_BadModulus_init) rfl
  obtain ⟨d_is_integer, F_is_integer⟩ := cd.def_ 1 (d := mkD "is_integer" s_is_integer) rfl
  obtain ⟨d_is_within, F_is_within⟩ := cd.def_ 2 (d := mkD "is_within" s_is_within) rfl
  obtain ⟨d_inverse, F_inverse⟩ := cd.def_ 3 (d := mkD "inverse" s_inverse) rfl
  obtain ⟨d_primes, F_primes⟩ := cd.def_ 4 (d := mkD "primes" s_primes) rfl
  obtain ⟨d_prime_parts, F_prime_parts⟩ := cd.def_ 5 (d := mkD "prime_parts" s_prime_parts) rfl
  obtain ⟨d_without, F_without⟩ := cd.def_ 6 (d := mkD "without" s_without) rfl
  obtain ⟨d_great_primes, F_great_primes⟩ := cd.def_ 7 (d := mkD "great_primes" s_great_primes) rfl
  obtain ⟨d_is_great_prime, F_is_great_prime⟩ := cd.def_ 8 (d := mkD "is_great_prime" s_is_great_prime) rfl
  obtain ⟨d_passes, F_passes⟩ := cd.def_ 9 (d := mkD "passes" s_passes) rfl
  obtain ⟨d_least_of_two, F_least_of_two⟩ := cd.def_ 10 (d := mkD "least_of_two" s_least_of_two) rfl
  obtain ⟨d_law_pen_of, F_law_pen_of⟩ := cd.def_ 11 (d := mkD "_law_pen_of" s_law_pen_of) rfl
  obtain ⟨d_law_draw, F_law_draw⟩ := cd.def_ 12 (d := mkD "_law_draw" s_law_draw) rfl
  obtain ⟨d_law_pick, F_law_pick⟩ := cd.def_ 13 (d := mkD "_law_pick" s_law_pick) rfl
  obtain ⟨d_law_common, F_law_common⟩ := cd.def_ 14 (d := mkD "_law_common" s_law_common) rfl
  obtain ⟨d_law_refused, F_law_refused⟩ := cd.def_ 15 (d := mkD "_law_refused" s_law_refused) rfl
  obtain ⟨d_law_primes, F_law_primes⟩ := cd.def_ 16 (d := mkD "_law_primes" s_law_primes) rfl
  obtain ⟨d_law, F_law⟩ := cd.def_ 17 (d := mkD "law" s_law) rfl
  have ox : OexC K (He.ga K "BadModulus") := ⟨oexB_ok (ex_at c.more 0), (of_decide_eq_true (ex_at c.more 1)), (of_decide_eq_true (ex_at c.more 2)), (of_decide_eq_true (ex_at c.more 3)), (ex_at c.more 4)⟩
  have TB : TxtB K mg (He.ga K "BadModulus") (He.ma K (He.ga K "BadModulus") "__init__") := ⟨ox, (of_decide_eq_true (ex_at c.more 5)), (of_decide_eq_true (ex_at c.more 6)), (of_decide_eq_true (ex_at c.more 7)), (He.glo_ok X G (cd.fact 1 (f := .glo "BadModulus") rfl))⟩
  have TE : TxtE K mg (He.ga K "BadModulus") (He.ga K "SumsError") := ⟨(He.glo_ok X G (cd.fact 1 (f := .glo "BadModulus") rfl)), (He.glo_ok X G (cd.fact 0 (f := .glo "SumsError") rfl)), (He.free_ok X G (cd.fact 20 (f := .free "isinstance") rfl)), (He.free_ok X G (cd.fact 31 (f := .free "repr") rfl)), (of_decide_eq_true (ex_at c.more 10)), (of_decide_eq_true (ex_at c.more 11)), excB_ok (ex_at c.more 8), xfB_ok (ex_at c.more 9), (of_decide_eq_true (ex_at c.more 7))⟩
  have TP : TxtP K mg (He.ga K "BASES") := { gMOST := He.int_ok X G (cd.fact 33 (f := .int "MOST" 1000000000000) rfl), gTRIED := He.int_ok X G (cd.fact 34 (f := .int "TRIED" 20000) rfl), gBASES := (He.glo_ok X G (cd.fact 2 (f := .glo "BASES") rfl)), sB := basesB_ok (ex_at c.more 12), b_gcd := PySem.W.mg_of X G (of_decide_eq_true (ex_at c.more 13)), b_isqrt := PySem.W.mg_of X G (of_decide_eq_true (ex_at c.more 14)), f_isinstance := (He.free_ok X G (cd.fact 20 (f := .free "isinstance") rfl)), f_int := (He.free_ok X G (cd.fact 21 (f := .free "int") rfl)), f_bool := (He.free_ok X G (cd.fact 22 (f := .free "bool") rfl)), f_range := (He.free_ok X G (cd.fact 23 (f := .free "range") rfl)), f_min := (He.free_ok X G (cd.fact 24 (f := .free "min") rfl)), f_tuple := (He.free_ok X G (cd.fact 25 (f := .free "tuple") rfl)) }
  have TA : TxtA mg := ⟨(He.free_ok X G (cd.fact 21 (f := .free "int") rfl)), (He.free_ok X G (cd.fact 26 (f := .free "len") rfl)), (He.free_ok X G (cd.fact 27 (f := .free "abs") rfl))⟩
  have TS : TxtS mg := ⟨(He.free_ok X G (cd.fact 23 (f := .free "range") rfl)), (He.free_ok X G (cd.fact 21 (f := .free "int") rfl)), (He.free_ok X G (cd.fact 28 (f := .free "any") rfl)), (He.free_ok X G (cd.fact 25 (f := .free "tuple") rfl))⟩
  have TL : TxtL mg := ⟨(He.free_ok X G (cd.fact 23 (f := .free "range") rfl)), (He.free_ok X G (cd.fact 20 (f := .free "isinstance") rfl)), (He.free_ok X G (cd.fact 21 (f := .free "int") rfl)), (He.free_ok X G (cd.fact 25 (f := .free "tuple") rfl)), (He.free_ok X G (cd.fact 29 (f := .free "sorted") rfl)), (He.free_ok X G (cd.fact 30 (f := .free "set") rfl)), (He.free_ok X G (cd.fact 28 (f := .free "any") rfl)), (He.free_ok X G (cd.fact 31 (f := .free "repr") rfl))⟩
  have b_is_integer : Binds K d_is_integer ["value"] [] := (FunD.bindsN F_is_integer fun _ _ _ _ _ _ us hl => match us, hl with | [_], _ => rfl)
  have b_is_within : Binds K d_is_within ["value", "least", "most"] [] := (FunD.bindsN F_is_within fun _ _ _ _ _ _ us hl => match us, hl with | [_, _, _], _ => rfl)
  have b_inverse : Binds K d_inverse ["number", "modulus"] [] := (FunD.bindsN F_inverse fun _ _ _ _ _ _ us hl => match us, hl with | [_, _], _ => rfl)
  have b_primes : Binds K d_primes ["number"] [] := (FunD.bindsN F_primes fun _ _ _ _ _ _ us hl => match us, hl with | [_], _ => rfl)
  have b_prime_parts : Binds K d_prime_parts ["number"] [] := (FunD.bindsN F_prime_parts fun _ _ _ _ _ _ us hl => match us, hl with | [_], _ => rfl)
  have b_without : Binds K d_without ["number", "prime", "found"] [] := (FunD.bindsN F_without fun _ _ _ _ _ _ us hl => match us, hl with | [_, _, _], _ => rfl)
  have b_great_primes : Binds K d_great_primes ["number"] [] := (FunD.bindsN F_great_primes fun _ _ _ _ _ _ us hl => match us, hl with | [_], _ => rfl)
  have b_is_great_prime : Binds K d_is_great_prime ["number"] [] := (FunD.bindsN F_is_great_prime fun _ _ _ _ _ _ us hl => match us, hl with | [_], _ => rfl)
  have b_passes : Binds K d_passes ["number", "base", "odd", "halvings"] [] := (FunD.bindsN F_passes fun _ _ _ _ _ _ us hl => match us, hl with | [_, _, _, _], _ => rfl)
  have b_least_of_two : Binds K d_least_of_two ["number"] [] := (FunD.bindsN F_least_of_two fun _ _ _ _ _ _ us hl => match us, hl with | [_], _ => rfl)
  have b_law_pen_of : Binds K d_law_pen_of ["_law_script"] [] := (FunD.bindsN F_law_pen_of fun _ _ _ _ _ _ us hl => match us, hl with | [_], _ => rfl)
  have b_law_draw : Binds K d_law_draw ["_law_pen", "_law_many"] [] := (FunD.bindsN F_law_draw fun _ _ _ _ _ _ us hl => match us, hl with | [_, _], _ => rfl)
  have b_law_pick : Binds K d_law_pick ["_law_pen", "_law_items"] [] := (FunD.bindsN F_law_pick fun _ _ _ _ _ _ us hl => match us, hl with | [_, _], _ => rfl)
  have b_law_common : Binds K d_law_common ["_law_one", "_law_other"] [] := (FunD.bindsN F_law_common fun _ _ _ _ _ _ us hl => match us, hl with | [_, _], _ => rfl)
  have b_law_refused : Binds K d_law_refused ["_law_value"] [] := (FunD.bindsN F_law_refused fun _ _ _ _ _ _ us hl => match us, hl with | [_], _ => rfl)
  have b_law_primes : Binds K d_law_primes ["_law_number"] [] := (FunD.bindsN F_law_primes fun _ _ _ _ _ _ us hl => match us, hl with | [_], _ => rfl)
  have G_E := okE_BadModulus (P := PySem.Challenge.rw_guardsums_k20_residues.prog) (w := w) (base := base) (mg := mg) F_BadModulus_init ox TB.no
  have b_E : Binds K d_BadModulus_init ["self", "number"] [] := (FunD.bindsN F_BadModulus_init fun _ _ _ _ _ _ us hl => match us, hl with | [_, _], _ => rfl)
  have G_law_pen_of := ok_pen (P := PySem.Challenge.rw_guardsums_k20_residues.prog) (w := w) (base := base) (fun_at F_law_pen_of) (He.free_ok X G (cd.fact 32 (f := .free "list") rfl))
  have G_law_draw := ok_draw (P := PySem.Challenge.rw_guardsums_k20_residues.prog) (w := w) (base := base) (fun_at F_law_draw) TA
  have G_law_pick := ok_pick (fun_at F_law_pick) TA G_law_draw (He.glo_ok X G (cd.fact 14 (f := .glo "_law_draw") rfl)) F_law_draw.kp b_law_draw
  have G_inverse := ok_inv (P := PySem.Challenge.rw_guardsums_k20_residues.prog) (w := w) (base := base) (mg := mg) (fun_at F_inverse)
  have G_law_common := ok_gcd (P := PySem.Challenge.rw_guardsums_k20_residues.prog) (w := w) (base := base) (fun_at F_law_common) TA
  have G_law_primes := ok_sieve (P := PySem.Challenge.rw_guardsums_k20_residues.prog) (w := w) (base := base) (fun_at F_law_primes) TS
  have G_is_integer := ok_isint (P := PySem.Challenge.rw_guardsums_k20_residues.prog) (w := w) (base := base) (fun_at F_is_integer) TP
  have G_without := ok_without (P := PySem.Challenge.rw_guardsums_k20_residues.prog) (w := w) (base := base) (mg := mg) (fun_at F_without)
  have G_passes := ok_passes (P := PySem.Challenge.rw_guardsums_k20_residues.prog) (w := w) (base := base) (fun_at F_passes) TP
  have G_is_great_prime := ok_greatp (fun_at F_is_great_prime) TP G_passes (He.glo_ok X G (cd.fact 11 (f := .glo "passes") rfl)) F_passes.kp b_passes
  have G_least_of_two := ok_least (P := PySem.Challenge.rw_guardsums_k20_residues.prog) (w := w) (base := base) (fun_at F_least_of_two) TP
  have G_great_primes := ok_great (fun_at F_great_primes) TP G_is_great_prime (He.glo_ok X G (cd.fact 10 (f := .glo "is_great_prime") rfl)) F_is_great_prime.kp b_is_great_prime G_least_of_two (He.glo_ok X G (cd.fact 12 (f := .glo "least_of_two") rfl)) F_least_of_two.kp b_least_of_two
  have G_is_within := ok_within (P := PySem.Challenge.rw_guardsums_k20_residues.prog) (fun_at F_is_within) G_is_integer (He.glo_ok X G (cd.fact 3 (f := .glo "is_integer") rfl)) F_is_integer.kp b_is_integer
  have G_prime_parts := ok_parts (fun_at F_prime_parts) TP G_without (He.glo_ok X G (cd.fact 8 (f := .glo "without") rfl)) F_without.kp b_without G_great_primes (He.glo_ok X G (cd.fact 9 (f := .glo "great_primes") rfl)) F_great_primes.kp b_great_primes
  have G_primes := ok_primes (fun_at F_primes) TP TB G_E b_E G_is_within (He.glo_ok X G (cd.fact 4 (f := .glo "is_within") rfl)) F_is_within.kp b_is_within G_prime_parts (He.glo_ok X G (cd.fact 7 (f := .glo "prime_parts") rfl)) F_prime_parts.kp b_prime_parts
  have G_law_refused := ok_refused (fun_at F_law_refused) TE G_primes (He.glo_ok X G (cd.fact 6 (f := .glo "primes") rfl)) F_primes.kp b_primes hS
  have D_law_pen_of : Dn PySem.Challenge.rw_guardsums_k20_residues.prog w K mg base CX0 1 "_law_pen_of" ["_law_script"] (spPen K) := ⟨_, _, G_law_pen_of, (He.glo_ok X G (cd.fact 13 (f := .glo "_law_pen_of") rfl)), F_law_pen_of.kp, b_law_pen_of⟩
  have D_law_draw : Dn PySem.Challenge.rw_guardsums_k20_residues.prog w K mg base CX0 1 "_law_draw" ["_law_pen", "_law_many"] spDraw := ⟨_, _, G_law_draw, (He.glo_ok X G (cd.fact 14 (f := .glo "_law_draw") rfl)), F_law_draw.kp, b_law_draw⟩
  have D_law_pick : Dn PySem.Challenge.rw_guardsums_k20_residues.prog w K mg base CX0 2 "_law_pick" ["_law_pen", "_law_items"] (spPick K) := ⟨_, _, G_law_pick, (He.glo_ok X G (cd.fact 15 (f := .glo "_law_pick") rfl)), F_law_pick.kp, b_law_pick⟩
  have D_inverse : Dn PySem.Challenge.rw_guardsums_k20_residues.prog w K mg base CX0 1 "inverse" ["number", "modulus"] spInv := ⟨_, _, G_inverse, (He.glo_ok X G (cd.fact 5 (f := .glo "inverse") rfl)), F_inverse.kp, b_inverse⟩
  have D_law_common : Dn PySem.Challenge.rw_guardsums_k20_residues.prog w K mg base CX0 1 "_law_common" ["_law_one", "_law_other"] spGcd := ⟨_, _, G_law_common, (He.glo_ok X G (cd.fact 16 (f := .glo "_law_common") rfl)), F_law_common.kp, b_law_common⟩
  have D_law_primes : Dn PySem.Challenge.rw_guardsums_k20_residues.prog w K mg base CX0 1 "_law_primes" ["_law_number"] spSieve := ⟨_, _, G_law_primes, (He.glo_ok X G (cd.fact 18 (f := .glo "_law_primes") rfl)), F_law_primes.kp, b_law_primes⟩
  have D_primes : Dn PySem.Challenge.rw_guardsums_k20_residues.prog w K mg base (L2.CX PySem.Challenge.rw_guardsums_k20_residues.prog w) 5 "primes" ["number"] (spPrimes (He.ga K "BadModulus")) := ⟨_, _, G_primes, (He.glo_ok X G (cd.fact 6 (f := .glo "primes") rfl)), F_primes.kp, b_primes⟩
  have D_ref : DnG PySem.Challenge.rw_guardsums_k20_residues.prog w K mg base 6 "_law_refused" ["_law_value"] spRefused := ⟨_, _, G_law_refused, (He.glo_ok X G (cd.fact 17 (f := .glo "_law_refused") rfl)), F_law_refused.kp, b_law_refused⟩
  have bl : ∀ (s : Shared) (u : Value), BindsTo s d_law ⟨[u], []⟩ [("_law_script", u)] := fun s u => (FunD.bindsA (ps := ["_law_script"]) F_law fun _ _ _ _ _ _ us hl => match us, hl with | [_], _ => rfl) s [u] rfl
  exact law_run (kP := 5) (kR := 6) (fun_at F_law) bl TL (by decide) (by decide) D_law_pen_of D_law_draw D_law_pick D_inverse D_law_common D_primes D_law_primes D_ref hS e0 hL
end
end Wk
open PySem PySem.W PySem.Calls PyProof.Rows
theorem PySem.Challenge.cw_guardsums_k20_residues_holds : PySem.Challenge.rw_guardsums_k20_residues.Holds := by
  w_on; o_law
  refine HandSHeadRun.head_imp (r := Wk.RW20) (q := view Wk.RW20.prog [0, 26]) (H := Wk.hk) (ob := Wk.obS 5 Wk.fa Wk.fn Wk.exB) (M := 20000) (loose := Wk.names) (d := HandSHeadRun.topDef Wk.RW20.prog 26) (kwd := []) Wk.obS_eq Wk.run
    (by kernel_rfl) (by kernel_rfl) (by kernel_rfl) (by rfl) (by first | assumption | decide +kernel) (by decide +kernel) ⟨rfl, rfl, rfl, rfl, rfl, by decide +kernel⟩ ?hw ?hc
  case hw => w_witness2
  case hc =>
    refine Wk.walk_here (l := PySem.Challenge.rw_guardsums_k20_residues) (n := 63) rfl (by decide) (by kernel_rfl) ?F
    intro w mg fa h Y G hmg0
    obtain ⟨⟨K, KX, c⟩, hm⟩ := Y
    have hmg : mg ("law" : PySem.Str) = some (.ref fa) := by
      have e : (HandSHeadRun.topDef Wk.RW20.prog 26).name = ("law" : PySem.Str) := by kernel_rfl
      rw [← e]
      exact hmg0
    exact ⟨K, KX, fun base s H a ns _ _ _ bb e0 hL => Wk.law_at KX G hmg c hm bb e0 hL⟩

