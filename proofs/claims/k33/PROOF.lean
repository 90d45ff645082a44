import PyProof.Rows.All
import Wide.All
import OpenK.AllK
import Wide.FinOn
import PySem.Challenge.RW_guardsums_k33_first_pairs
import HandS.ForMost
import HandS.ForExc
import HandS.Wide
import HandS.Words
import HandS.EndBits
import HandS.EndTab
import HandS.HeadHook4
import HandS.Head0
import HandS.Head1
import HandS.Head2
import HandS.Head3
import HandS.ExcOwn
import HandS.ExcField
import HandS.ExcInit
import HandS.ExcIs
import HandS.Lambda
import KE.KExcIs
import HandS.HeadEnd
import HandS.HeadHook1
import HandS.HeadHook2
import HandS.HeadHook3
import HandS.HeadWalk
import KE.KStateDown
import PyProof.ZipIter
import PyProof.TupleOfGen
import PyProof.CollectWalk
import HandS.Zip0
import KE.KDictZip
import HandS.Star
import HandS.Zip
import HandS.Walk
import HandS.TupMul
import HandS.TupAny
import HandS.Style
import HandS.RevRange
import HandS.Conv
import HandS.TryOnly
import HandS.IsInst
import HandS.WordsExc
import PyProof.ReprRoads
import PyProof.CallFns
import HandS.More
import HandS.List
import HandS.Dict
set_option Elab.async false
set_option linter.all false
set_option maxRecDepth 100000
set_option maxHeartbeats 0
namespace Wk
open PySem L2
def top (i : Nat) : Stmt := PySem.Challenge.pw_guardsums_k33_first_pairs.main.body.getD i (.Pass ⟨0, 0, 0, 0⟩)
abbrev s_law_pen_of : Stmt := top 54
theorem sc_law_pen_of : FnScope ["_law_script"] ["_law_script"] (defScope s_law_pen_of) := ⟨rfl, rfl, rfl, by decide +kernel, rfl, by decide +kernel, by decide +kernel⟩
abbrev s_law_draw : Stmt := top 55
theorem sc_law_draw : FnScope ["_law_pen", "_law_many", "_law_digit", "_law_index", "_law_size", "_law_cell", "_law_mixed"] ["_law_pen", "_law_many"] (defScope s_law_draw) := ⟨rfl, rfl, rfl, by decide +kernel, rfl, by decide +kernel, by decide +kernel⟩
abbrev s_law_pick : Stmt := top 56
theorem sc_law_pick : FnScope ["_law_pen", "_law_items"] ["_law_pen", "_law_items"] (defScope s_law_pick) := ⟨rfl, rfl, rfl, by decide +kernel, rfl, by decide +kernel, by decide +kernel⟩

local macro_rules | `(tactic| walk_at "rd") => `(tactic| repeat first | refine ⟨_, rfl, ?_⟩ | refine ⟨_, _, rfl, rfl, ?_⟩ | refine ⟨rfl, ?_⟩)
/-! ### the pen -/
def penL (c : Addr) (i l : Int) : List (Key × V) := [(.inr "cells", .ref c), (.inr "next", .int i), (.inr "left", .int l)]
theorem kk1 : ¬ (Sum.inr "cells" : Key) = .inr "next" := by decide +kernel
theorem kk2 : ¬ (Sum.inr "cells" : Key) = .inr "left" := by decide +kernel
theorem kk3 : ¬ (Sum.inr "next" : Key) = .inr "left" := by decide +kernel
theorem kk4 : ¬ (Sum.inr "left" : Key) = .inr "next" := by decide +kernel
theorem ks1 : ¬ Str.ofString "cells" = Str.ofString "next" := by decide +kernel
theorem ks2 : ¬ Str.ofString "cells" = Str.ofString "left" := by decide +kernel
theorem ks3 : ¬ Str.ofString "next" = Str.ofString "left" := by decide +kernel
theorem ks4 : ¬ Str.ofString "left" = Str.ofString "next" := by decide +kernel
theorem pen_cells (c : Addr) (i l : Int) : valV (penL c i l) (.inr "cells") = some (.ref c) := valV_pos rfl
theorem pen_next (c : Addr) (i l : Int) : valV (penL c i l) (.inr "next") = some (.int i) := by
  rw [penL, valV_neg kk1, valV_pos rfl]
theorem pen_left (c : Addr) (i l : Int) : valV (penL c i l) (.inr "left") = some (.int l) := by
  rw [penL, valV_neg kk2, valV_neg kk3, valV_pos rfl]
theorem put_next (c : Addr) (i l j : Int) : putK (penL c i l) (.inr "next") (.int j) = penL c j l := by
  simp [putK, penL, ks1, ks4]
theorem put_left (c : Addr) (i l j : Int) : putK (penL c i l) (.inr "left") (.int j) = penL c i j := by
  simp [putK, penL, ks2, ks3]
structure PenAt (H : Hp) (p c : Addr) (ns : List Int) (i l : Int) : Prop where
  pen : H p = some (.dK (penL c i l))
  cells : H c = some (.lst (ns.map V.int))
  i0 : 0 ≤ i
  l0 : 0 ≤ l
  i1 : i ≤ 100000
theorem PenAt.ne {H : Hp} {p c : Addr} {ns : List Int} {i l : Int} (P : PenAt H p c ns i l) : c ≠ p := ne_of P.cells P.pen (by intro z; cases z)
/-- the pen behind a draw -/
def penTo (H : Hp) (p c : Addr) (i l : Int) : Hp := upd H p (.dK (penL c i l))
theorem PenAt.to {H : Hp} {p c : Addr} {ns : List Int} {i l i' l' : Int} (P : PenAt H p c ns i l) (h0 : 0 ≤ i') (h1 : 0 ≤ l') (h2 : i' ≤ 100000) : PenAt (penTo H p c i' l') p c ns i' l' :=
  ⟨upd_same, by rw [penTo, upd_ne P.ne]; exact P.cells, h0, h1, h2⟩
theorem penTo_to {H : Hp} {p c : Addr} {i l i' l' : Int} : penTo (penTo H p c i l) p c i' l' = penTo H p c i' l' := upd_upd
def spDraw : Sp := fun vs H Q _ => ∃ (p c : Addr) (ns : List Int) (i l m : Int), vs = [.ref p, .int m] ∧ PenAt H p c ns i l ∧ i < 100000 ∧ 1 ≤ m ∧ m.natAbs < 2 ^ 9000 ∧
  ∀ d i' l' : Int, 0 ≤ d → d < m → 0 ≤ i' → i' ≤ i + 1 → 0 ≤ l' → Q (.int d) (penTo H p c i' l')
/-- what the module's names stand for -/
structure TxtA (mg : Str → Option Value) : Prop where
  f_int : mg "int" = none
  f_len : mg "len" = none
  f_abs : mg "abs" = none
section
variable {P : Program} {w : World} {K : PySem.W.Frag} {mg : Str → Option Value} {base : Heap}
theorem small64 {i : Int} (h0 : 0 ≤ i) {n : Int} (h1 : i ≤ n) {k : Nat} (h2 : n.toNat < 2 ^ k) : i.natAbs < 2 ^ k := by omega
theorem fmod_at {a m : Int} (h : 1 ≤ m) : 0 ≤ a.fmod m ∧ a.fmod m < m := by
  rw [Int.fmod_eq_emod_of_nonneg _ (by omega)]
  exact ⟨Int.emod_nonneg _ (by omega), Int.emod_lt_of_pos _ (by omega)⟩
theorem emod_at {a m : Int} (h : 1 ≤ m) : 0 ≤ a % m ∧ a % m < m := ⟨Int.emod_nonneg _ (by omega), Int.emod_lt_of_pos _ (by omega)⟩
/-- a way that two branches share -/
theorem use_tail {B G : Prop} (f : B → G) (b : B) : G := f b
theorem pick2 {c1 : Prop} [Decidable c1] {X A B : Prop} (hB : B) (h1 : c1 → X) : if decide c1 = true then X else if false = true then A else B := by
  by_cases c : c1
  · rw [if_pos (decide_eq_true c)]
    exact h1 c
  · rw [if_neg (by simpa using c)]
    exact iteF hB
theorem mod_word {a b : Int} (hb : 1 ≤ b) (hb2 : b ≤ 4294967296) : ∃ y : Int, a % b = y ∧ 0 ≤ y ∧ y < 4294967296 := ⟨a % b, rfl, Int.emod_nonneg _ (by omega), by
  have := Int.emod_lt_of_pos a (show 0 < b by omega)
  omega⟩
theorem ok_draw {f : Addr} {fd : FuncData} (F : Fun K "_law_draw" "_law_draw" s_law_draw f fd) (T : TxtA mg) : FnOk P w K mg base CX0 1 f fd ["_law_pen", "_law_many"] spDraw := by
  refine F.ok sc_law_draw (fun vs H Q E h => ?_) (fun cdv A outer s H vs Q E hr h => ?_)
  · obtain ⟨p, c, ns, i, l, m, rfl, _⟩ := h
    rfl
  · obtain ⟨p, c, ns, i, l, m, rfl, S, hi, hm, hmw, k⟩ := h
    have hu := hu_of hr
    have hcp := S.ne
    have i0 := S.i0
    have l0 := S.l0
    refine ⟨_, (pss_cons (ps_if (pt_cmpR op_gt (pe_dget hu (pv 0) pe_str (fun _ _ => rfl)) pe_int (nomark _)) (pss_cons (ps_set (i := 2) sc_law_draw.nd rfl (Or.inl rfl) (pe_op op_modN (pe_callTy call_int1 rfl T.f_int (by decide +kernel) (pa_cons (pe_dget hu (pv 0) pe_str (fun _ _ => rfl)) pa_nil)) (pv 1)))
        (pss_cons (ps_dput hu (pv 0) pe_str (pe_op op_fdivW (pe_dget hu (pv 0) pe_str (fun _ _ => rfl)) (pv 1)) rfl)
        (pss_one (ps_ret (pv 2))))) pss_nil)
        (pss_cons (ps_par (i := 3) (j := 4) rfl sc_law_draw.nd rfl rfl (by decide) rfl rfl (pa_cons (pe_dget hu (pv 0) pe_str (fun _ _ => rfl)) (pa_cons (pe_callB call_len_seq rfl T.f_len PySem.boot_len (pa_cons (pe_dget hu (pv 0) pe_str (fun _ _ => rfl)) pa_nil)) pa_nil)) (by rfl))
        (pss_cons (ps_dput hu (pv 0) pe_str (pe_op op_add (pv 3) pe_int) rfl)
        (pss_cons (ps_if (pt_cmpR op_eq (pv 4) pe_int (nomark _)) (pss_one (ps_ret (pe_op op_modN (pe_callTy call_int1 rfl T.f_int (by decide +kernel) (pa_cons (pe_op op_add (pe_op op_mulW pe_int (pv 3)) pe_int) pa_nil)) (pv 1)))) pss_nil)
        (pss_cons (ps_set (i := 5) sc_law_draw.nd rfl (Or.inl rfl) (pe_ix ix_list (pe_dget hu (pv 0) pe_str (fun _ _ => rfl)) (pe_op op_modN (pe_callTy call_int1 rfl T.f_int (by decide +kernel) (pa_cons (pv 3) pa_nil)) (pv 4)) (fun _ _ => rfl)))
        (pss_cons (ps_if (PW.pt (pw_and (pt_cmpR op_lt (pv 3) (pv 4) (nomark _)) (pw_and1 (pt_cmpR op_ge (pe_callB call_abs rfl T.f_abs (by decide +kernel) (pa_cons (pv 5) pa_nil)) (pe_op op_pow pe_int pe_int) (nomark _))))) (pss_cons (ps_dput hu (pv 0) pe_str (pe_op op_fdivW (pe_op op_sub (pe_callB call_abs rfl T.f_abs (by decide +kernel) (pa_cons (pv 5) pa_nil)) (pe_op op_pow pe_int pe_int)) (pv 1)) rfl)
        (pss_one (ps_ret (pe_op op_modN (pe_callTy call_int1 rfl T.f_int (by decide +kernel) (pa_cons (pe_op op_sub (pe_callB call_abs rfl T.f_abs (by decide +kernel) (pa_cons (pv 5) pa_nil)) (pe_op op_pow pe_int pe_int)) pa_nil)) (pv 1))))) pss_nil)
        (pss_cons (ps_set (i := 6) sc_law_draw.nd rfl (Or.inl rfl) (pe_op op_add (pe_op op_mulW (pe_op op_mod (pe_callTy call_int1 rfl T.f_int (by decide +kernel) (pa_cons (pv 5) pa_nil)) pe_int) pe_int) (pe_op op_mulW (pe_op op_mulW pe_int (pv 3)) (pv 3))))
        (pss_cons (ps_set (i := 6) sc_law_draw.nd rfl (Or.inl rfl) (pe_op op_mod (pe_callTy call_int1 rfl T.f_int (by decide +kernel) (pa_cons (pe_op op_add (pe_op op_add (pv 6) (pe_op op_mulW pe_int (pv 3))) pe_int) pa_nil)) pe_int))
        (pss_cons (ps_set (i := 6) sc_law_draw.nd rfl (Or.inl rfl) (pe_op op_mod (pe_callTy call_int1 rfl T.f_int (by decide +kernel) (pa_cons (pe_op op_add (pe_op op_add (pe_op op_add (pe_op op_mulW (pv 6) (pv 6)) (pe_op op_mulW pe_int (pv 6))) (pe_op op_mulW pe_int (pv 3))) pe_int) pa_nil)) pe_int))
        (pss_one (ps_ret (pe_op op_modN (pe_callTy call_int1 rfl T.f_int (by decide +kernel) (pa_cons (pe_op op_fdiv (pe_op op_mod (pe_callTy call_int1 rfl T.f_int (by decide +kernel) (pa_cons (pe_op op_mulW (pv 6) (pe_op op_add (pv 6) pe_int)) pa_nil)) pe_int) pe_int) pa_nil)) (pv 1))))))))))))), ?_⟩
    -- if pen["left"] > 0
    have gL := pen_left c i l ▸ DGet.k (k := .inr "left") S.pen
    have gN := pen_next c i l ▸ DGet.k (k := .inr "next") S.pen
    have gC := pen_cells c i l ▸ DGet.k (k := .inr "cells") S.pen
    have z3 : (penL c i l).length < sizeLine := (by decide : 3 < sizeLine)
    have kR : ∀ (a i' l' : Int) (H' : Hp), 0 ≤ i' → i' ≤ i + 1 → 0 ≤ l' → H' = penTo H p c i' l' → Q (.int (a.fmod m)) H' := fun a i' l' H' h1 h2 h3 e => by
      rw [e]
      exact k _ _ _ (fmod_at hm).1 (fmod_at hm).2 h1 h2 h3
    have dv : ∀ x : Int, 0 ≤ x → 0 ≤ x / m := fun x hx => Int.ediv_nonneg hx (by omega)
    have cdv : ∀ x : Int, CDivW x m := fun x => wide_div (by omega) hmw (by decide) (by decide)
    refine ⟨_, rfl, p, _, rfl, gL, _, _, rfl, rfl, _, rfl, ?_⟩
    refine ite2 (fun hd => ?_) (fun hd => ?_)
    · have hl : 0 < l := of_decide_eq_true hd
      -- digit = int(pen["left"]) % many; pen["left"] = pen["left"] // many; return digit
      refine ⟨_, rfl, p, _, rfl, gL, .inl ⟨_, rfl, ?_⟩⟩
      refine ⟨_, rfl, _, _, rfl, rfl, (by omega), ?_⟩
      refine ⟨_, rfl, p, _, rfl, gL, _, rfl, _, _, rfl, rfl, cdv _, ?_⟩
      refine ⟨_, rfl, p, _, rfl, DPut.k (k := .inr "left") S.pen z3, _, rfl, ?_⟩
      exact kR _ i (l / m) _ i0 (by omega) (dv _ l0) (by rw [put_left]; rfl)
    · -- index, size = pen["next"], len(pen["cells"]); pen["next"] = index + 1
      have S1 : PenAt (penTo H p c (i + 1) l) p c ns (i + 1) l := S.to (by omega) l0 (by omega)
      have gC1 := pen_cells c (i + 1) l ▸ DGet.k (k := .inr "cells") S1.pen
      refine ⟨_, rfl, p, _, rfl, gN, _, rfl, p, _, rfl, gC, _, _, rfl, .inl (SqL.of S.cells), _, _, rfl, ?_⟩
      refine ⟨_, rfl, _, _, rfl, rfl, _, rfl, p, _, rfl, DPut.k (k := .inr "next") S.pen z3, ?_⟩
      rw [put_next]
      show tSeq _ _ _ _ (penTo H p c (i + 1) l)
      have w64 : ∀ {x n : Int}, 0 ≤ x → x ≤ n → n.toNat < 2 ^ 64 → x.natAbs < 2 ^ 64 := fun h0 h1 h2 => small64 h0 h1 h2
      have wi : i.natAbs < 2 ^ 64 := w64 i0 (n := 100000) (by omega) (by decide)
      have wc : ∀ {x y : Int}, x.natAbs < 2 ^ 64 → y.natAbs < 2 ^ 128 → CMulW x y := fun a b => wide_mul a b (by decide) (by decide) (by decide)
      -- if size == 0: return int(7 * index + 3) % many
      refine ⟨_, rfl, rfl, _, rfl, ?_⟩
      refine ite2 (fun he => ?_) (fun he => ?_)
      · refine ⟨_, rfl, _, _, rfl, rfl, wc (by decide) (by omega), _, _, rfl, rfl, .inl ⟨_, rfl, _, rfl, _, _, rfl, rfl, (by omega), ?_⟩⟩
        exact kR _ (i + 1) l _ (by omega) (by omega) l0 rfl
      · have hne : ns.length ≠ 0 := fun z => he (by
          have e : (ns.map V.int).length = 0 := by rw [List.length_map]; exact z
          rw [e]
          exact decide_eq_true rfl)
        have hlen : ((ns.map V.int).length : Int) = ns.length := by rw [List.length_map]
        rw [hlen]
        -- cell = pen["cells"][int(index) % size]
        have hj := fmod_at (a := i) (m := (ns.length : Int)) (by omega)
        obtain ⟨j, hj2⟩ : ∃ j : Nat, i.fmod (ns.length : Int) = j := ⟨(i.fmod (ns.length : Int)).toNat, by omega⟩
        have hjl : j < ns.length := by omega
        have ha : atI (ns.map V.int) (i.fmod (ns.length : Int)) = some (V.int ns[j]) := by
          rw [hj2]
          exact atI_nat (by simp [hjl])
        generalize ns[j] = x at ha
        refine ⟨_, rfl, p, _, rfl, gC1, _, rfl, .inl ⟨_, rfl, _, rfl, _, _, rfl, rfl, (by omega), c, _, _, _, rfl, rfl, SqL.of S1.cells, ha, ?_⟩⟩
        -- if index < size and abs(cell) >= 10 ** 18
        have ten : (0 : Int) ≤ 18 ∧ (18 : Int) ≤ 1000000 ∧ (10 : Int).natAbs < 2 ^ 64 := by decide
        refine ⟨_, rfl, _, rfl, _, _, rfl, rfl, _, rfl, ?_⟩
        refine use_tail (fun hB => pick2 hB fun c1 => ?_) ?tail
        · refine ⟨_, rfl, _, rfl, _, _, rfl, rfl, ten, _, _, rfl, rfl, _, rfl, ?_⟩
          refine ite2 (fun c2 => ?_) (fun _ => hB)
          have c3 := of_decide_eq_true c2
          -- pen["left"] = (abs(cell) - 10 ** 18) // many; return int(abs(cell) - 10 ** 18) % many
          refine ⟨_, rfl, _, rfl, _, _, rfl, rfl, ten, _, _, rfl, rfl, _, rfl, _, _, rfl, rfl, cdv _, ?_⟩
          refine ⟨_, rfl, p, _, rfl, DPut.k (k := .inr "left") S1.pen z3, ?_⟩
          refine ⟨_, rfl, _, rfl, _, _, rfl, rfl, ten, _, _, rfl, rfl, .inl ⟨_, rfl, _, rfl, _, _, rfl, rfl, (by omega), ?_⟩⟩
          rw [put_left]
          exact kR _ (i + 1) _ _ (by omega) (by omega) (dv _ (Int.sub_nonneg_of_le c3)) (by rw [penTo, upd_upd]; rfl)
        · -- mixed = ..
          refine ⟨_, rfl, .inl ⟨_, rfl, _, _, rfl, rfl, (by show (0 : Int) < 4294967197; decide), ?_⟩⟩
          refine ⟨_, _, rfl, rfl, wc (by omega) (by decide), _, rfl, _, _, rfl, rfl, wc (by decide) (by omega), _, rfl, _, _, rfl, rfl, wide_mul (wide_lt (a := 64) (b := 64) (by decide) wi) wi (by decide) (by decide) (by decide), _, _, rfl, rfl, ?_⟩
          refine ⟨_, rfl, _, rfl, _, _, rfl, rfl, wc (by decide) (by omega), _, _, rfl, rfl, _, _, rfl, rfl, .inl ⟨_, rfl, _, _, rfl, rfl, (by show (0 : Int) < 4294967189; decide), ?_⟩⟩
          have q2 := mod_word (a := x % 4294967197 * 52711 + 20353 * i * i + 1531 * i + 11) (b := 4294967189) (by decide) (by decide)
          show tSeq _ _ _ [some (V.ref p), some (V.int m), none, some (V.int i), some (V.int ns.length), some (V.int x), some (V.int ((x % 4294967197 * 52711 + 20353 * i * i + 1531 * i + 11) % 4294967189))] _
          obtain ⟨y2, e2, b3, b4⟩ := q2
          rw [e2]
          refine ⟨_, rfl, _, rfl, _, _, rfl, rfl, wc (by omega) (by omega), _, rfl, _, _, rfl, rfl, wc (by decide) (by omega), _, _, rfl, rfl, _, rfl, _, _, rfl, rfl, wc (by decide) (by omega), _, _, rfl, rfl, _, _, rfl, rfl, .inl ⟨_, rfl, _, _, rfl, rfl, (by show (0 : Int) < 4294967161; decide), ?_⟩⟩
          refine ⟨_, rfl, _, rfl, _, _, rfl, rfl, _, _, rfl, rfl, wc (by omega) (by omega), .inl ⟨_, rfl, _, _, rfl, rfl, (by show (0 : Int) < 4294967143; decide), _, _, rfl, rfl, (by constructor <;> decide), .inl ⟨_, rfl, _, rfl, _, _, rfl, rfl, (by omega), ?_⟩⟩⟩
          exact kR _ (i + 1) l _ (by omega) (by omega) l0 rfl
/-- one of some things: items at a -/
def spPick (K : PySem.W.Frag) : Sp := fun vs H Q _ => ∃ (p c a : Addr) (ns : List Int) (i l : Int) (items : List V), vs = [.ref p, .ref a] ∧ PenAt H p c ns i l ∧ i < 100000 ∧ H a = some (.lst items) ∧ items ≠ [] ∧ items.length ≤ 100000 ∧
  ∀ (v : V) (i' l' : Int), v ∈ items → 0 ≤ i' → i' ≤ i + 1 → 0 ≤ l' → Q v (penTo H p c i' l')
theorem ok_pick {f fD : Addr} {fd fdD : FuncData} (F : Fun K "_law_pick" "_law_pick" s_law_pick f fd) (T : TxtA mg) (G__law_draw : FnOk P w K mg base CX0 1 fD fdD ["_law_pen", "_law_many"] spDraw) (g__law_draw : mg "_law_draw" = some (.ref fD))
    (kp__law_draw : PySem.W.keepIn K (.ref fD) = true) (b__law_draw : Binds K fdD ["_law_pen", "_law_many"] []) : FnOk P w K mg base CX0 2 f fd ["_law_pen", "_law_items"] (spPick K) := by
  refine F.ok sc_law_pick (fun vs H Q E h => ?_) (fun cdv A outer s H vs Q E hr h => ?_)
  · obtain ⟨p, c, a, ns, i, l, items, rfl, _⟩ := h
    rfl
  · obtain ⟨p, c, a, ns, i, l, items, rfl, S, hi, ha, hne, hlen, k⟩ := h
    have hu := hu_of hr
    refine ⟨_, (pss_one (ps_ret (pe_ix ix_list (pv 1) (pe_call G__law_draw (hr.mono (by decide)) rfl g__law_draw kp__law_draw b__law_draw .nil pass0 (pa_cons (pv 0) (pa_cons (pe_callB call_len_seq rfl T.f_len PySem.boot_len (pa_cons (pv 1) pa_nil)) pa_nil))) (fun _ _ => rfl)))), ?_⟩
    have hpos : 0 < items.length := List.length_pos_iff.mpr hne
    refine ⟨_, rfl, _, rfl, _, rfl, _, _, rfl, .inl (SqL.of ha), p, c, ns, i, l, _, rfl, S, hi, by omega, by omega, fun d i' l' d0 d1 h0 h1 h2 => ?_⟩
    obtain ⟨j, rfl⟩ : ∃ j : Nat, d = j := ⟨d.toNat, by omega⟩
    have hj : j < items.length := by omega
    have hap : a ≠ p := ne_of ha S.pen (by intro z; cases z)
    refine ⟨a, items, _, items[j], rfl, rfl, SqL.of (by rw [penTo, upd_ne hap]; exact ha), atI_nat (by simp [hj]), ?_⟩
    exact k _ i' l' (List.getElem_mem hj) h0 h1 h2
end
end Wk

/-! the end of a law whose own def wants to know the caller -/
namespace Wk
open PySem PySem.Spec PyProof.Rows L2
/-- the law's def is run where the claim's caller stands -/
theorem call_here {P : Program} {w : World} {K : PySem.W.Frag} {mg mb : Str → Option Value} {fa a : Addr} {s : Shared} {vs : List Value} {ns : List Int} (KX : K.In s.heap) (hG : s.heap.Ns mainGlobals mg) (hB : s.heap.Ns builtinsNs mb) (hb : ∀ x : Str, x ≠ "__name__" → mb x = bootBuiltins x)
    (hL : s.heap.NoLimit) (hg : s.gens = #[]) (ha : s.heap.get? a = some { cls := .type "list", data := .seq vs.toArray }) (hi : IntsAre vs ns) (hl : ns.length ≤ sizeLine)
    (F : ∀ (base : Heap) (H : Hp), K.In base → base.Ns mainGlobals mg → (∀ b o, s.heap.get? b = some o → (∀ us m, o.data ≠ .seq us m) → base.get? b = some o) → Env0 P w K mg base callerA [] s H → SqL K H a (ns.map V.int) → codeAny (model P w) callerA (.call (.ref fa) ⟨[.ref a], []⟩) (CR CX0 [] P w H s (fun v _ => v = .bl true) E0) s) :
    codeAny (model P w) callerA (.call (.ref fa) ⟨[.ref a], []⟩) (fun r s' => r = .ok (.ret (.bool true)) ∧ OldK s.heap s'.heap ∧ s'.os = s.os ∧ AllBare s'.gens) s := by
  have rel := vals_ints hi
  have main : ∀ H : Hp, (∀ b, H b = none ∨ (b = a ∧ ∃ o xs, H b = some (.frz o (.lst xs)))) → SqL K H a (ns.map V.int) → HOk P w H s.heap → (H a ≠ none → K.lookup a = none) →
      codeAny (model P w) callerA (.call (.ref fa) ⟨[.ref a], []⟩) (fun r s' => r = .ok (.ret (.bool true)) ∧ OldK s.heap s'.heap ∧ s'.os = s.os ∧ AllBare s'.gens) s := by
    intro H hO hS hok hK
    -- what is no list is not tracked
    have un0 : ∀ b o, s.heap.get? b = some o → (∀ us m, o.data ≠ .seq us m) → H b = none := fun b o e nd => (hO b).elim id fun ⟨eb, _⟩ => by
      subst eb
      rw [ha] at e
      cases e
      exact absurd rfl (nd _ _)
    have bas : ∀ b o, s.heap.get? b = some o → (∀ us m, o.data ≠ .seq us m) → (hidT s.heap H).get? b = some o := fun b o e nd => hidT_get e (un0 b o e nd)
    have spaces : ∀ {b : Addr} {m : Str → Option Value}, s.heap.Ns b m → (hidT s.heap H).Ns b m := fun {b m} ⟨o, es, ep, e, d, r⟩ => ⟨o, es, ep, bas b o e (fun us m z => by rw [d] at z; cases z), d, r⟩
    have frag : K.In (hidT s.heap H) := fun b o e => hidT_get (KX b o e) (by
      rcases hO b with z | ⟨eb, z⟩
      · exact z
      · subst eb
        cases q : H b with
        | none => rfl
        | some u =>
          rw [hK (by rw [q]; exact fun y => nomatch y)] at e
          cases e)
    obtain ⟨mc, l1, l2⟩ := hL
    have env : Env0 P w K mg (hidT s.heap H) callerA [] s H :=
      ⟨rfl, ⟨frag, spaces hG, ⟨mb, spaces hB, hb⟩, ⟨mc, spaces l1, l2⟩⟩, fun b o e => of_hidT e, Nat.le_of_eq (hidT_size s.heap H), trivial, fun b z => absurd (show b ∈ ([] : List Addr) from z) List.not_mem_nil, hok, .of_eq hg⟩
    refine codeAny_mono (F _ H frag (spaces hG) bas env hS) fun r s' z => ?_
    match r, z with
    | .ok (.ret u), z =>
      obtain ⟨v, H', os, bare, U, hok', ru, q⟩ := z
      subst q
      obtain rfl : u = Value.bool true := ru
      have keep : ∀ b o, s.heap.get? b = some o → s'.heap.get? b = some o := fun b o e => by
        rcases hO b with z | ⟨eb, ob, xs, z⟩
        · exact U.keep b o e z (fun y => absurd (show b ∈ ([] : List Addr) from y) List.not_mem_nil) List.not_mem_nil
        · obtain ⟨e2, _⟩ := hok' b _ (U.frzs b ob _ z)
          obtain ⟨e1, _⟩ := hok b _ z
          exact (e2.trans e1.symm).trans e
      exact ⟨rfl, .of_keep keep, os, bare⟩
    | .ok .next, z => exact False.elim z
    | .ok .brk, z => exact False.elim z
    | .ok .cont, z => exact False.elim z
    | .error e, z => exact False.elim z
  cases hk : K.lookup a with
  | some o =>
    have e := KX a o hk
    rw [ha] at e
    cases e
    refine main (fun _ => none) (fun _ => .inl rfl) (.inr ⟨_, vs.toArray, _, hk, rfl, rfl, rfl, ?_, by simpa using rel⟩) (fun b u z => nomatch z) fun z => absurd rfl z
    rw [List.size_toArray, hi.length]
    exact hl
  | none =>
    refine main (fun b => if b = a then some (.frz { cls := .type "list", data := .seq vs.toArray } (.lst (ns.map V.int))) else none) (fun b => ?_) (.inl (.inr ⟨_, if_pos rfl⟩)) (fun b u z => ?_) fun _ => hk
    · by_cases h : b = a
      · exact .inr ⟨h, _, _, if_pos h⟩
      · exact .inl (if_neg h)
    · by_cases h : b = a
      · have z2 := (if_pos h).symm.trans z
        cases z2
        rw [h]
        exact ⟨ha, by rw [List.length_map]; exact hl, vs, _, rel, ha⟩
      · cases (if_neg h).symm.trans z
/-- the walk of such a law -/
theorem walk_here {l : PySem.W.OpenLaw} {n : Nat} {q : Program} {loose : List Str} {XP : (Str → Option Value) → Heap → Prop} {YP : World → Heap → Prop} {d : DefRec} (hn : l.most = some n) (hn2 : n ≤ sizeLine) (hdf : d.params.defaults = [])
    (F : ∀ (w : World) (mg : Str → Option Value) (fa : Addr) (h : Heap), YP w h → h.Ns mainGlobals mg → mg d.name = some (.ref fa) → ∃ K : PySem.W.Frag, K.In h ∧ ∀ (base : Heap) (s : Shared) (H : Hp) (a : Addr) (ns : List Int), s.heap = h → K.In base → base.Ns mainGlobals mg →
      (∀ b o, h.get? b = some o → (∀ us m, o.data ≠ .seq us m) → base.get? b = some o) → Env0 l.prog w K mg base callerA [] s H → SqL K H a (ns.map V.int) → codeAny (model l.prog w) callerA (.call (.ref fa) ⟨[.ref a], []⟩) (CR CX0 [] l.prog w H s (fun v _ => v = .bl true) E0) s) :
    PySem.W.WalkO q loose XP YP l.row.toRowW d [] (fun f vs => PySem.call f vs) := by
  refine Att.attach_callB hn hdf fun w s₀ s₁ mg mb fa o pm cd doc a vs ns G Y ho hd hcd hmg hobj hints hlen hbits hg => ?_
  obtain ⟨K, KX, hF⟩ := F w mg fa _ Y G.T.g hmg
  exact call_here KX G.T.g G.T.b G.T.builtins G.T.nolimit hg hobj hints (Nat.le_trans hlen hn2) fun base H kb gb bb e0 hS => hF base s₁ H a ns rfl kb gb bb e0 hS
/-! ### the hook, with one more look: the table of modules is there -/
def modsB (g : Addr → Option Obj) : Bool := match g sysModules with
  | some ⟨_, _, .dict _ _, _⟩ => true
  | _ => false
theorem modsB_ok {g : Addr → Option Obj} (h : modsB g = true) : ∃ o es m, g sysModules = some o ∧ o.data = .dict es m := by
  unfold modsB at h
  split at h
  · rename_i e
    exact ⟨_, _, _, e, rfl⟩
  · cases h
def hookS (n : Nat) (fa : List He.Fa) (fn : List He.DefD) (ex : PySem.W.Frag → Bool) : PySem.W.Hook where
  α := He.AlX × Bool
  obs := fun s => (He.obsX n fa fn [] [] ex s.heap.get?, modsB s.heap.get?)
  val := fun w => (He.valX fn [] w, true)
  says := fun w h => (∃ K : PySem.W.Frag, K.In h ∧ He.SaysX fa fn [] [] ex w h K) ∧ ∃ o es m, h.get? sysModules = some o ∧ o.data = .dict es m
  of := fun w s e => ⟨⟨_, He.frT_in, He.saysX_of (congrArg (fun z : He.AlX × Bool => z.1) e)⟩, modsB_ok (congrArg (fun z : He.AlX × Bool => z.2) e)⟩
  keeps := fun w h h' z k => by
    obtain ⟨⟨K, hK, c⟩, o, es, m, e, d⟩ := z
    exact ⟨⟨K, PySem.W.Frag.In.keeps hK k, ⟨c.t, c.more, c.hd, c.out, fun p hp => k _ _ (c.empty p hp)⟩⟩, o, es, m, k _ _ e, d⟩
def obS (n : Nat) (fa : List He.Fa) (fn : List He.DefD) (ex : PySem.W.Frag → Bool) (s : PySem.W.SharedT) : He.AlX × Bool := (He.obsX n fa fn [] [] ex (HandSHeadRun.getT s), modsB (HandSHeadRun.getT s))
theorem obS_eq {n : Nat} {fa : List He.Fa} {fn : List He.DefD} {ex : PySem.W.Frag → Bool} (s : PySem.W.SharedT) : obS n fa fn ex s = (hookS n fa fn ex).obs s.abs := by
  have e : HandSHeadRun.getT s = s.abs.heap.get? := funext (HandSHeadRun.getT_eq s)
  unfold obS
  rw [e]
  rfl
end Wk

namespace Wk
open PySem PySem.Spec PyProof.Rows L2
/-! what is read off of an error's class -/
def oexB (K : PySem.W.Frag) (C : Addr) : Bool := match K.lookup C with
  | some ⟨.type t, _, .cls cd, sl⟩ => (match cd.mro, sl.toList with
    | .ref D :: bm, [_, _, _, _, some (.builtin n), _] => decide (t = "type") && (decide (D = C) && (decide (n = "ValueError.__new__") && (!cd.hasDel && (cd.hasDict && PySem.HandSPX.refsVE bm))))
    | _, _ => false)
  | _ => false
theorem oexB_ok {K : PySem.W.Frag} {C : Addr} (h : oexB K C = true) : ∃ nm q N bs bm sn sub ab col dd k0 k1 k2 k3 k5, K.lookup C = some (excClassObj nm q C N bs bm true sn sub ab col dd k0 k1 k2 k3 k5 "ValueError.__new__") ∧ PySem.HandSPX.refsVE bm = true := by
  unfold oexB at h
  split at h
  · rename_i t dd cd sl e
    split at h
    · rename_i D bm k0 k1 k2 k3 n k5 e1 e2
      simp only [Bool.and_eq_true, decide_eq_true_eq, Bool.not_eq_true'] at h
      obtain ⟨rfl, rfl, rfl, h1, h2, h3⟩ := h
      obtain ⟨nm, bs, mro, ns, qn, hd, sn, sub, ab, col, del⟩ := cd
      dsimp only at e1 h1 h2
      subst e1 h1 h2
      obtain ⟨l⟩ := sl
      dsimp only at e2
      subst e2
      exact ⟨nm, qn, ns, bs, bm, sn, sub, ab, col, dd, k0, k1, k2, k3, k5, e, h3⟩
    · cases h
  · cases h
def excB (K : PySem.W.Frag) (C : Addr) : Bool := decide (PySem.W.findIn K (.ref C) "__getattribute__" = some (some (.builtin "BaseException.__getattribute__"))) && (decide (PySem.W.findIn K (.ref C) "__getattr__" = some none) && (decide (PySem.W.subIn K (.ref C) (.type "BaseException") = some true) && (PySem.W.hasDictIn K C &&
  (decide (PySem.W.findIn K (.ref C) "__class__" = some (some (.builtin "object.__class__"))) && (decide (PySem.W.specialIn K (.builtin "object.__class__") "__get__" = some (some (.builtin "getset_descriptor.__get__"))) && (decide (PySem.W.takesIn K (.builtin "object.__class__") = some true) && decide (PySem.W.mroIn K C (.type "object") = some true)))))))
theorem excB_ok {K : PySem.W.Frag} {C : Addr} (h : excB K C = true) : ExcC K C := by
  unfold excB at h
  simp only [Bool.and_eq_true, decide_eq_true_eq] at h
  obtain ⟨h1, h2, h3, h4, h5, h6, h7, h8⟩ := h
  exact ⟨h1, h2, h3, h4, h5, h6, h7, h8⟩
end Wk

namespace Wk
open PySem PySem.Spec PyProof.Rows L2
theorem r0_of {P : Program} {w : World} {K : PySem.W.Frag} {mg : Str → Option Value} {base : Heap} {CX : CXT} {k : Nat} {f : Addr} {fd : FuncData} {ps : List Str} {sp : Sp} (F : FnOk P w K mg base CX k f fd ps sp) (hb : Binds K fd ps []) :
    FnR P w K mg base CX k f sp := (F.raw hb .nil).imp fun vs H Q E h => by simpa using h
def exL (K : PySem.W.Frag) : List Bool :=
  [decide (PySem.W.findIn K (.ref (He.ga K "Guard")) "__class__" = some (some (.builtin "object.__class__"))),
   decide (PySem.W.mroIn K (He.ga K "Guard") (.type "object") = some true),
   decide (PySem.W.specialIn K (.builtin "object.__class__") "__get__" = some (some (.builtin "getset_descriptor.__get__"))),
   decide (PySem.W.takesIn K (.builtin "object.__class__") = some true),
   decide (PySem.W.kitOne K (.ref (He.ga K "Guard")) (.ref (He.ga K "Guard")) = some true),
   decide (PySem.W.kitOne K (.type "list") (.ref (He.ga K "Guard")) = some false),
   decide (PySem.W.subIn K (.type "list") (.ref (He.ga K "Guard")) = some false),
   decide (PySem.W.exmOne K (.ref (He.ga K "BadSize")) (.ref (He.ga K "BadSize")) = some true),
   decide (oexB K (He.ga K "BadSize") = true),
   decide (PySem.W.findIn K (.ref (He.ga K "BadSize")) "__setattr__" = some (some (.builtin "object.__setattr__"))),
   decide (PySem.W.subIn K (.ref (He.ga K "BadSize")) (.type "BaseException") = some true),
   decide (PySem.W.typeIn K (.ref (He.ga K "BadSize")) = some (.type "type")),
   decide (PySem.W.keepIn K (.ref (He.ga K "BadSize")) = true),
   decide (excB K (He.ga K "BadSize") = true),
   decide (xfB K (He.ga K "BadSize") = true),
   decide (PySem.W.kitOne K (.ref (He.ga K "BadSize")) (.ref (He.ga K "SumsError")) = some true),
   decide (PySem.W.findIn K (.ref (He.ga K "BadSize")) "__init__" = some (some (.ref (He.ma K (He.ga K "BadSize") "__init__")))),
   decide (PySem.W.typeIn K (.ref (He.ma K (He.ga K "BadSize") "__init__")) = some (.type "function")),
   decide (PySem.W.findIn K (.ref (He.ga K "BadSize")) "size" = some none)]
theorem ex_at {K : PySem.W.Frag} (c : (exL K).all id = true) (i : Nat) {b : Bool} (h : (exL K)[i]? = some b := by rfl) : b = true := List.all_eq_true.mp c b (List.mem_of_getElem? h)
end Wk

namespace Wk
open PySem PySem.Spec PyProof.Rows L2
def mkD (x : Str) (st : Stmt) (dv : List He.Dv := []) : He.DefD := ⟨(x, none), x, x, defArgs st, defBody st, defScope st, dv, []⟩
def mkDA (x q : Str) (st : Stmt) : He.DefD := ⟨(x, none), q, q, defArgs st, defBody st, defScope st, [], []⟩
abbrev h_Stairs_init : Stmt := inClass (top 17) 0
abbrev h_Stairs_put : Stmt := inClass (top 17) 1
abbrev h_Stairs_put_at : Stmt := inClass (top 17) 2
abbrev h_Stairs_settled : Stmt := inClass (top 17) 4
abbrev h_Guard_init : Stmt := inClass (top 46) 0
abbrev h_BadSize_init : Stmt := inClass (top 6) 0
abbrev h_bezout : Stmt := top 14
abbrev h_multiple : Stmt := top 15
abbrev h_combined : Stmt := top 16
abbrev h_applied : Stmt := top 20
abbrev h_transposed : Stmt := top 21
abbrev h_unit : Stmt := top 22
abbrev h_undone : Stmt := top 23
abbrev h_is_integer : Stmt := top 25
abbrev h_is_within : Stmt := top 26
abbrev h_is_list : Stmt := top 27
abbrev h_wrong_number : Stmt := top 28
abbrev h_wrong_row : Stmt := top 29
abbrev h_marked : Stmt := top 32
abbrev h_solved : Stmt := top 33
abbrev h_kernel_of : Stmt := top 34
abbrev h_first_pair : Stmt := top 37
abbrev h_spans_all : Stmt := top 38
abbrev h_check_modulus : Stmt := top 50
abbrev h_checked_matrix : Stmt := top 51
abbrev h_checked_columns : Stmt := top 52
abbrev h_law_pen_of : Stmt := top 54
abbrev h_law_draw : Stmt := top 55
abbrev h_law_pick : Stmt := top 56
abbrev h_law_matrix_of : Stmt := top 57
abbrev h_law_common : Stmt := top 58
abbrev h_law_identity : Stmt := top 59
abbrev h_law_undone_of : Stmt := top 60
abbrev h_law_applied : Stmt := top 61
abbrev h_law_product : Stmt := top 62
abbrev h_law_rows_all : Stmt := top 63
abbrev h_law_world_of : Stmt := top 64
abbrev h_law_guard_of : Stmt := top 65
abbrev h_law_beside : Stmt := top 66
abbrev h_law_is_passed : Stmt := top 67
abbrev h_law_first : Stmt := top 68
abbrev h_law_refused : Stmt := top 69
abbrev h_law : Stmt := top 70
def mkM (C m q : Str) (st : Stmt) (dv : List He.Dv := []) : He.DefD := ⟨(C, some m), m, q, defArgs st, defBody st, defScope st, dv, []⟩
def fns : List He.DefD := (mkM "Stairs" "__init__" "Stairs.__init__" h_Stairs_init) :: (mkM "Stairs" "put" "Stairs.put" h_Stairs_put) :: (mkM "Stairs" "put_at" "Stairs.put_at" h_Stairs_put_at) :: (mkM "Stairs" "settled" "Stairs.settled" h_Stairs_settled) :: (mkM "Guard" "__init__" "Guard.__init__" h_Guard_init) :: (mkM "BadSize" "__init__" "BadSize.__init__" h_BadSize_init) :: (mkD "bezout" h_bezout) :: (mkD "multiple" h_multiple) :: (mkD "combined" h_combined) :: (mkD "applied" h_applied) :: (mkD "transposed" h_transposed) :: (mkD "unit" h_unit) :: (mkD "undone" h_undone) :: (mkD "is_integer" h_is_integer) :: (mkD "is_within" h_is_within) :: (mkD "is_list" h_is_list) :: (mkD "wrong_number" h_wrong_number) :: (mkD "wrong_row" h_wrong_row) :: (mkD "marked" h_marked) :: (mkD "solved" h_solved) :: (mkD "kernel_of" h_kernel_of) :: (mkD "first_pair" h_first_pair) :: (mkD "spans_all" h_spans_all) :: (mkD "check_modulus" h_check_modulus) :: (mkD "checked_matrix" h_checked_matrix) :: (mkD "checked_columns" h_checked_columns) :: (mkD "_law_pen_of" h_law_pen_of) :: (mkD "_law_draw" h_law_draw) :: (mkD "_law_pick" h_law_pick) :: (mkD "_law_matrix_of" h_law_matrix_of) :: (mkD "_law_common" h_law_common) :: (mkD "_law_identity" h_law_identity) :: (mkD "_law_undone_of" h_law_undone_of) :: (mkD "_law_applied" h_law_applied) :: (mkD "_law_product" h_law_product) :: (mkD "_law_rows_all" h_law_rows_all) :: (mkD "_law_world_of" h_law_world_of) :: (mkD "_law_guard_of" h_law_guard_of) :: (mkD "_law_beside" h_law_beside) :: (mkD "_law_is_passed" h_law_is_passed) :: (mkD "_law_first" h_law_first) :: (mkD "_law_refused" h_law_refused) :: (mkD "law" h_law) :: []
def fas : List He.Fa := (.cls "Stairs") :: (.noat "Stairs" "modulus") :: (.noat "Stairs" "steps") :: (.mkr "Stairs") :: (.meth "Stairs" "put") :: (.meth "Stairs" "put_at") :: (.meth "Stairs" "settled") :: (.glo "Stairs") :: (.cls "Guard") :: (.noat "Guard" "modulus") :: (.noat "Guard" "size") :: (.noat "Guard" "matrix") :: (.noat "Guard" "columns") :: (.noat "Guard" "width") :: (.noat "Guard" "start") :: (.noat "Guard" "end") :: (.mkr "Guard") :: (.meth "Guard" "__eq__") :: (.meth "Guard" "told") :: (.meth "Guard" "behind") :: (.glo "Guard") :: (.glo "BadSize") :: (.glo "SumsError") :: (.glo "bezout") :: (.glo "multiple") :: (.glo "combined") :: (.glo "applied") :: (.glo "transposed") :: (.glo "unit") :: (.glo "undone") :: (.glo "is_integer") :: (.glo "is_within") :: (.glo "is_list") :: (.glo "wrong_number") :: (.glo "wrong_row") :: (.glo "marked") :: (.glo "solved") :: (.glo "kernel_of") :: (.glo "first_pair") :: (.glo "spans_all") :: (.glo "check_modulus") :: (.glo "checked_matrix") :: (.glo "checked_columns") :: (.glo "_law_pen_of") :: (.glo "_law_draw") :: (.glo "_law_pick") :: (.glo "_law_matrix_of") :: (.glo "_law_common") :: (.glo "_law_identity") :: (.glo "_law_undone_of") :: (.glo "_law_applied") :: (.glo "_law_product") :: (.glo "_law_rows_all") :: (.glo "_law_world_of") :: (.glo "_law_guard_of") :: (.glo "_law_beside") :: (.glo "_law_is_passed") :: (.glo "_law_first") :: (.glo "_law_refused") :: (.glo "law") :: (.free "isinstance") :: (.free "int") :: (.free "bool") :: (.free "range") :: (.free "all") :: (.free "any") :: (.free "tuple") :: (.free "list") :: (.free "len") :: (.free "abs") :: (.free "sum") :: (.free "zip") :: (.free "enumerate") :: (.free "reversed") :: (.free "repr") :: (.free "min") :: (.free "max") :: (.int "GREATEST_MODULUS" 1000000000000000000) :: (.int "MOST_NUMBERS" 16) :: (.int "MOST_SYMBOLS" 10000) :: (.int "GROUP" 32) :: (.int "DOUBLINGS" 5) :: (.int "WORTH" 3) :: (.int "MOST_PAIR" 2000) :: []
def exB (K : PySem.W.Frag) : Bool := (exL K).all id
abbrev RW21 : PySem.W.OpenRow := PySem.W.OpenLaw.row PySem.Challenge.rw_guardsums_k33_first_pairs
abbrev hk : PySem.W.Hook := hookS 5 fas fns exB
def names : List Str := "_wall" :: "SumsError" :: "BadModulus" :: "NotUndone" :: "TooMany" :: "BadSize" :: "BadSymbol" :: "BadMatrix" :: "BadColumns" :: "BadStart" :: "BadEnd" :: "BadState" :: "bezout" :: "multiple" :: "combined" :: "Stairs" :: "product" :: "applied" :: "transposed" :: "unit" :: "undone" :: "is_integer" :: "is_within" :: "is_list" :: "wrong_number" :: "wrong_row" :: "wrong_symbol" :: "marked" :: "solved" :: "kernel_of" :: "first_pair" :: "spans_all" :: "Guard" :: "state_behind" :: "step_of_group" :: "beside" :: "check_modulus" :: "checked_matrix" :: "checked_columns" :: "_law_pen_of" :: "_law_draw" :: "_law_pick" :: "_law_matrix_of" :: "_law_common" :: "_law_identity" :: "_law_undone_of" :: "_law_applied" :: "_law_product" :: "_law_rows_all" :: "_law_world_of" :: "_law_guard_of" :: "_law_beside" :: "_law_is_passed" :: "_law_first" :: "_law_refused" :: "GREATEST_MODULUS" :: "MOST_NUMBERS" :: "MOST_SYMBOLS" :: "GROUP" :: "DOUBLINGS" :: "WORTH" :: "MOST_PAIR" :: []
theorem run (w : World) : HandSHeadRun.RunEqI RW21 (PySem.W.view RW21.prog [70]) hk (obS 5 fas fns exB) 20000 names w := by
  unfold HandSHeadRun.RunEqI
  kernel_rfl
end Wk

/-! tuple(zip(*rows)), rows a tuple of tuples -/
namespace ZN
open PySem PySem.Spec PyProof.Rows
open PySem.Sem (wp)
abbrev Held := PySem.IsZipHeld
structure Ap (z TI TO : Addr) (its ls : List Addr) : Prop where
  zO : z ≠ TO
  zi : z ∉ its
  Oi : TO ∉ its
  nd : its.Nodup
  Iz : TI ≠ z
  IO : TI ≠ TO
  Ii : TI ∉ its
  lz : ∀ l ∈ ls, l ≠ z ∧ l ≠ TO ∧ l ∉ its
  ln : ls.length = its.length
def KeepBut (W : List Addr) (h h' : Heap) : Prop := ∀ b o, b ∉ W → h.get? b = some o → h'.get? b = some o
def refs (as : List Addr) : List Value := as.map Value.ref
theorem nd_inj {α : Type} : ∀ {l : List α} {i j : Nat} {a : α}, l.Nodup → l[i]? = some a → l[j]? = some a → i = j
  | [], i, j, a, _, h, _ => by simp at h
  | x :: l, 0, 0, a, _, _, _ => rfl
  | x :: l, 0, j + 1, a, n, h1, h2 => by
    cases h1
    have := (List.nodup_cons.mp n).1
    exact absurd (List.mem_of_getElem? (by simpa using h2)) this
  | x :: l, i + 1, 0, a, n, h1, h2 => by
    cases h2
    have := (List.nodup_cons.mp n).1
    exact absurd (List.mem_of_getElem? (by simpa using h1)) this
  | x :: l, i + 1, j + 1, a, n, h1, h2 => by
    have := nd_inj (i := i) (j := j) (List.nodup_cons.mp n).2 (by simpa using h1) (by simpa using h2)
    omega
/-- the iterators stand at i -/
def ItersAt (h : Heap) (its ls : List Addr) (rows : List (Array Value)) (i : Nat → Nat) : Prop :=
  ∀ k a l r, its[k]? = some a → ls[k]? = some l → rows[k]? = some r → h.IsTupleIter a l (i k) ∧ h.IsTuple l r
section
variable {prog : Program} {w : World} {A : Around} {E : Value → Shared → Prop} {s : Shared}
theorem iter_next {h h' : Heap} {its ls : List Addr} {rows : List (Array Value)} {i : Nat → Nat} {j : Nat} {a l : Addr} {r : Array Value} (I : ItersAt h its ls rows i) (nd : its.Nodup) (hl : ∀ l ∈ ls, l ∉ its) (ha : its[j]? = some a) (hll : ls[j]? = some l) (hr : rows[j]? = some r)
    (hs : Heap.SameBut a h h') (hn : h'.IsTupleIter a l (i j + 1)) : ItersAt h' its ls rows (fun k => if k = j then i j + 1 else i k) := by
  intro k a2 l2 r2 h1 h2 h3
  obtain ⟨q1, q2⟩ := I k a2 l2 r2 h1 h2 h3
  have hla : l2 ≠ a := fun e => hl l2 (List.mem_of_getElem? h2) (e ▸ List.mem_of_getElem? ha)
  refine ⟨?_, q2.extBut hs.extBut hla⟩
  by_cases e : k = j
  · subst e
    dsimp only
    rw [if_pos rfl]
    rw [ha] at h1
    rw [hll] at h2
    cases h1
    cases h2
    exact hn
  · dsimp only
    rw [if_neg e]
    have hne : a2 ≠ a := fun z => by
      subst z
      exact e (nd_inj nd h1 ha)
    obtain ⟨o, ho, r⟩ := q1
    exact ⟨o, hs.extBut _ _ hne ho, r⟩
/-- one iterator's turn -/
theorem turn {its ls : List Addr} {rows : List (Array Value)} {i : Nat} {vals : List Value} {j : Nat} {a : Addr} {Q : Option Value → Shared → Prop} (nd : its.Nodup) (hl : ∀ l ∈ ls, l ∉ its) (hln : ls.length = its.length) (hr : rows.length = its.length) (hv : vals.length = its.length)
    (hx : ∀ (k : Nat) (r : Array Value) (v : Value), rows[k]? = some r → vals[k]? = some v → r[i]? = some v) (I : ItersAt s.heap its ls rows (fun k => if k < j then i + 1 else i)) (ha : its[j]? = some a)
    (h : ∀ (v : Value) (h' : Heap), vals[j]? = some v → ItersAt h' its ls rows (fun k => if k < j + 1 then i + 1 else i) → Heap.SameBut a s.heap h' → Q (some v) { s with heap := h' }) :
    wpAny (model prog w) A (Builtin.SmallTypes.nextOf (.ref a) >>= fun v => pure (some v)) Q E s := by
  have hj : j < its.length := (List.getElem?_eq_some_iff.mp ha).1
  have h1 : ls[j]? = some ls[j] := List.getElem?_eq_getElem (by omega)
  have h2 : rows[j]? = some rows[j] := List.getElem?_eq_getElem (by omega)
  have h3 : vals[j]? = some vals[j] := List.getElem?_eq_getElem (by omega)
  obtain ⟨q1, q2⟩ := I j a _ _ ha h1 h2
  have ej : (if j < j then i + 1 else i) = i := if_neg (Nat.lt_irrefl _)
  dsimp only at q1
  rw [ej] at q1
  refine wpAny_bind (RZ.nextOf_tuple_item q1 q2 (hx j _ _ h2 h3) fun h' hn hs => wpAny_pure (h _ h' h3 ?_ hs))
  have hn2 : h'.IsTupleIter a ls[j] ((fun k => if k < j then i + 1 else i) j + 1) := by dsimp only; rw [ej]; exact hn
  have z := iter_next I nd hl ha h1 h2 hs hn2
  intro k a2 l2 r2 e1 e2 e3
  obtain ⟨y1, y2⟩ := z k a2 l2 r2 e1 e2 e3
  refine ⟨?_, y2⟩
  dsimp only at y1 ⊢
  by_cases e : k = j
  · rw [if_pos e, ej] at y1
    rw [if_pos (by omega)]
    exact y1
  · rw [if_neg e] at y1
    by_cases e4 : k < j
    · rw [if_pos e4] at y1
      rw [if_pos (by omega)]
      exact y1
    · rw [if_neg e4] at y1
      rw [if_neg (by omega)]
      exact y1
theorem refs_drop (its : List Addr) (j : Nat) (x : Value) (rest : List Value) (h : x :: rest = (refs its).drop j) : ∃ a, its[j]? = some a ∧ x = .ref a ∧ rest = (refs its).drop (j + 1) := by
  have hj : j < (refs its).length := by
    have := congrArg List.length h
    simp at this
    omega
  rw [List.drop_eq_getElem_cons hj] at h
  injection h with h1 h2
  have hj2 : j < its.length := by simpa [refs] using hj
  exact ⟨its[j], List.getElem?_eq_getElem hj2, by rw [h1]; simp [refs], h2⟩
theorem refs_dropI (its : List Addr) (j : Nat) (x : Value × Nat) (rest : List (Value × Nat)) (h : x :: rest = (refs its).zipIdx.drop j) : ∃ a, its[j]? = some a ∧ x = (.ref a, j) ∧ rest = (refs its).zipIdx.drop (j + 1) := by
  have hj : j < (refs its).zipIdx.length := by
    have := congrArg List.length h
    simp at this
    simp
    omega
  rw [List.drop_eq_getElem_cons hj] at h
  injection h with h1 h2
  have hj2 : j < its.length := by simpa [refs] using hj
  exact ⟨its[j], List.getElem?_eq_getElem hj2, by rw [h1]; simp [refs], h2⟩
/-- the draw behind the first one -/
theorem held_item {z TI TO T : Addr} {f : Bool} {oT : Obj} {its ls : List Addr} {rows : List (Array Value)} {i : Nat} {vals : List Value} {Q : Value → Shared → Prop} (D : Ap z TI TO its ls) (hne : its ≠ [])
    (hz : Held s.heap z TI TO T f) (hT : s.heap.get? T = some oT) (hTI : s.heap.get? TI = some { cls := .type "tuple", data := .seq (refs its).toArray }) (hI : ItersAt s.heap its ls rows (fun _ => i)) (hr : rows.length = its.length)
    (hv : vals.length = its.length) (hx : ∀ (k : Nat) (r : Array Value) (v : Value), rows[k]? = some r → vals[k]? = some v → r[i]? = some v) (hsz : its.length ≤ 1000)
    (hQ : ∀ h', Held h' z TI TO T true → ItersAt h' its ls rows (fun _ => i + 1) → h'.get? s.heap.objs.size = some { cls := .type "tuple", data := .seq vals.toArray } → h'.objs.size = s.heap.objs.size + 1 →
      KeepBut (z :: its) s.heap h' → Q (.ref s.heap.objs.size) { s with heap := h' }) :
    wpAny (model prog w) A (Builtin.«zip.__next__» ⟨[.ref z], []⟩) (fun fin s' => ∃ v, fin = .done (.ret v) ∧ Q v s') E s := by
  show wpAny _ _ (field (.ref z) 2 >>= _) _ _ _
  refine wpAny_bind (wpAny_field hz rfl (x := .bool false) rfl ?_)
  show wpAny _ _ (field (.ref z) 3 >>= _) _ _ _
  refine wpAny_bind (wpAny_field hz rfl (x := .ref TI) rfl ?_)
  refine wpAny_bind (wpAny_seqItems hTI rfl ?_)
  have he : (refs its).toArray.isEmpty = false := by
    cases its with
    | nil => exact absurd rfl hne
    | cons a r => rfl
  dsimp only
  rw [if_neg (by rw [he]; decide)]
  show wpAny _ _ (Builtin.SmallTypes.ownedTupleIsFree (.ref z) >>= _) _ _ _
  refine wpAny_bind (PySem.wpAny_tupleHeld_zip hz hT fun h₁ hz₁ hs₁ => ?_)
  simp only [Bool.false_eq_true, if_false]
  have hI₁ : ItersAt h₁ its ls rows (fun _ => i) := fun k a l r e1 e2 e3 => by
    obtain ⟨⟨o, ho, q⟩, q2⟩ := hI k a l r e1 e2 e3
    exact ⟨⟨o, hs₁.extBut _ _ (fun y => D.zi (y ▸ List.mem_of_getElem? e1)) ho, q⟩, q2.extBut hs₁.extBut (fun y => (D.lz l (List.mem_of_getElem? e2)).1 y)⟩
  refine wpAny_bind (wpAny_forIn_array' _ (fun rest b s' => ∃ (j : Nat) (h' : Heap), b = ⟨none, (vals.take j).toArray⟩ ∧ rest = (refs its).drop j ∧ j ≤ its.length ∧ s' = { s with heap := h' } ∧ ItersAt h' its ls rows (fun k => if k < j then i + 1 else i) ∧
    KeepBut its h₁ h' ∧ h'.objs.size = h₁.objs.size) _ ?_ ?_ _ _ ⟨0, h₁, rfl, rfl, Nat.zero_le _, rfl, fun k a l r e1 e2 e3 => by dsimp only; rw [if_neg (Nat.not_lt_zero _)]; exact hI₁ k a l r e1 e2 e3, fun b o _ e => e, rfl⟩)
  · rintro x rest b s' ⟨j, h', rfl, hrest, hj, rfl, Ij, hk, hsize⟩
    obtain ⟨a, ha, rfl, hrest2⟩ := refs_drop its j x rest hrest
    refine wpAny_bind (wpAny_holding ?_)
    show wpAny _ _ (Builtin.SmallTypes.nextOf (.ref a) >>= fun v => pure (some v)) _ _ _
    refine turn (s := { s with heap := h' }) (vals := vals) D.nd (fun l hl => (D.lz l hl).2.2) D.ln hr hv hx Ij ha fun v h'' ev I2 hs2 => ?_
    refine wpAny_pure ⟨j + 1, h'', ?_, hrest2, (List.getElem?_eq_some_iff.mp ha).1, rfl, I2, fun b o hb e => hs2.extBut _ _ (fun y => hb (y ▸ List.mem_of_getElem? ha)) (hk b o hb e), hs2.1.trans hsize⟩
    have e1 : vals.take (j + 1) = vals.take j ++ [v] := by rw [List.take_add_one, ev]; rfl
    rw [e1]
    simp
  · rintro b s' ⟨j, h', rfl, hrest, hj, rfl, Ij, hk, hsize⟩
    have hjn : j = its.length := by
      have := congrArg List.length hrest
      simp [refs] at this
      omega
    subst hjn
    dsimp only
    rw [← hv, List.take_length]
    refine wpAny_bind (wpAny_newTuple ?_ (by show vals.length ≤ sizeLine; exact Nat.le_trans (show vals.length ≤ 1000 by omega) (by decide)))
    have hsz2 : h'.objs.size = s.heap.objs.size := hsize.trans hs₁.1
    refine wpAny_pure ⟨_, rfl, ?_⟩
    show Q (.ref h'.objs.size) _
    have g1 : (h'.push { cls := .type "tuple", data := .seq vals.toArray }).get? h'.objs.size = some { cls := .type "tuple", data := .seq vals.toArray } := Heap.get?_push_size _ rfl
    have g2 : (h'.push { cls := .type "tuple", data := .seq vals.toArray }).objs.size = h'.objs.size + 1 := Heap.size_push ..
    have k2 : KeepBut (z :: its) s.heap (h'.push { cls := .type "tuple", data := .seq vals.toArray }) := fun b o hb e => by
      have b1 : b ≠ z := fun y => hb (y ▸ List.mem_cons_self)
      have b2 : b ∉ its := fun y => hb (List.mem_cons_of_mem _ y)
      exact Heap.get?_push_of_some _ (hk b o b2 (hs₁.extBut _ _ b1 e))
    have hz2 : Held (h'.push { cls := .type "tuple", data := .seq vals.toArray }) z TI TO T true := Heap.get?_push_of_some _ (hk z _ D.zi hz₁)
    have I2 : ItersAt (h'.push { cls := .type "tuple", data := .seq vals.toArray }) its ls rows (fun _ => i + 1) := fun k a l r e1 e2 e3 => by
      obtain ⟨⟨o, ho, q⟩, q2⟩ := Ij k a l r e1 e2 e3
      dsimp only at q
      rw [if_pos (by have := (List.getElem?_eq_some_iff.mp e1).1; omega)] at q
      exact ⟨⟨o, Heap.get?_push_of_some _ ho, q⟩, q2.push _⟩
    rw [hsz2] at g1 g2 ⊢
    exact hQ _ hz2 I2 g1 g2 k2
/-- the end behind some draws -/
theorem held_end {z TI TO T a l : Addr} {f : Bool} {oT : Obj} {its ls : List Addr} {rows : List (Array Value)} {i : Nat} {r : Array Value} {Q : Fin → Shared → Prop} (hh : A.handled = none) (D : Ap z TI TO its ls)
    (hz : Held s.heap z TI TO T f) (hT : s.heap.get? T = some oT) (hTI : s.heap.get? TI = some { cls := .type "tuple", data := .seq (refs its).toArray }) (hI : ItersAt s.heap its ls rows (fun _ => i))
    (h1 : its[0]? = some a) (h2 : ls[0]? = some l) (h3 : rows[0]? = some r) (hx : r[i]? = none)
    (hE : ∀ h' e, KeepBut (z :: its) s.heap h' → (∃ o, h'.get? e = some o ∧ o.cls = .type "StopIteration") → E (.ref e) { s with heap := h' }) :
    wpAny (model prog w) A (Builtin.«zip.__next__» ⟨[.ref z], []⟩) Q E s := by
  show wpAny _ _ (field (.ref z) 2 >>= _) _ _ _
  refine wpAny_bind (wpAny_field hz rfl (x := .bool false) rfl ?_)
  show wpAny _ _ (field (.ref z) 3 >>= _) _ _ _
  refine wpAny_bind (wpAny_field hz rfl (x := .ref TI) rfl ?_)
  refine wpAny_bind (wpAny_seqItems hTI rfl ?_)
  obtain ⟨its2, rfl⟩ : ∃ its2, its = a :: its2 := by
    cases its with
    | nil => simp at h1
    | cons x y => simp at h1; exact ⟨y, by rw [h1]⟩
  dsimp only
  rw [if_neg (show ¬ ((refs (a :: its2)).toArray.isEmpty = true) from Bool.false_ne_true)]
  show wpAny _ _ (Builtin.SmallTypes.ownedTupleIsFree (.ref z) >>= _) _ _ _
  refine wpAny_bind (PySem.wpAny_tupleHeld_zip hz hT fun h₁ hz₁ hs₁ => ?_)
  simp only [Bool.false_eq_true, if_false]
  refine wpAny_bind ?_
  rw [← Array.forIn_toList]
  show wpAny _ _ (forIn (Value.ref a :: refs its2) _ _) _ _ _
  rw [List.forIn_cons]
  refine wpAny_bind (wpAny_bind (wpAny_holding ?_))
  show wpAny _ _ (Builtin.SmallTypes.nextOf (.ref a) >>= _) _ _ _
  obtain ⟨⟨o, ho, q⟩, q2⟩ := hI 0 a l r h1 h2 h3
  have hza : a ≠ z := fun y => D.zi (y ▸ List.mem_cons_self)
  refine wpAny_bind (RZ.nextOf_tuple_end (s := { s with heap := h₁ }) hh ⟨o, hs₁.extBut _ _ hza ho, q⟩ (q2.extBut hs₁.extBut (D.lz l (List.mem_of_getElem? h2)).1) hx fun h₂ e hs₂ he => ?_)
  exact hE h₂ e (fun b o hb e => hs₂ _ _ (fun y => hb (by rw [y]; simp)) (hs₁.extBut _ _ (fun y => hb (by rw [y]; simp)) e)) he
def Free (h : Heap) (z TI TO : Addr) : Prop := IsZip h z TI TO .none
/-- the first draw -/
theorem free_item {z TI TO : Addr} {its ls : List Addr} {rows : List (Array Value)} {i : Nat} {vals : List Value} {kept : Array Value} {Q : Value → Shared → Prop} (D : Ap z TI TO its ls) (hne : its ≠ [])
    (hz : Free s.heap z TI TO) (hTI : s.heap.get? TI = some { cls := .type "tuple", data := .seq (refs its).toArray }) (hTO : s.heap.get? TO = some { cls := .type "tuple", data := .seq kept }) (hks : kept.size = its.length) (hI : ItersAt s.heap its ls rows (fun _ => i)) (hr : rows.length = its.length)
    (hv : vals.length = its.length) (hx : ∀ (k : Nat) (r : Array Value) (v : Value), rows[k]? = some r → vals[k]? = some v → r[i]? = some v) (hsz : its.length ≤ 1000)
    (hQ : ∀ h', Held h' z TI TO s.heap.objs.size false → ItersAt h' its ls rows (fun _ => i + 1) → h'.get? s.heap.objs.size = some { cls := .type "tuple", data := .seq vals.toArray } → h'.objs.size = s.heap.objs.size + 1 →
      KeepBut (z :: TO :: its) s.heap h' → Q (.ref s.heap.objs.size) { s with heap := h' }) :
    wpAny (model prog w) A (Builtin.«zip.__next__» ⟨[.ref z], []⟩) (fun fin s' => ∃ v, fin = .done (.ret v) ∧ Q v s') E s := by
  show wpAny _ _ (field (.ref z) 2 >>= _) _ _ _
  refine wpAny_bind (wpAny_field hz rfl (x := .bool false) rfl ?_)
  show wpAny _ _ (field (.ref z) 3 >>= _) _ _ _
  refine wpAny_bind (wpAny_field hz rfl (x := .ref TI) rfl ?_)
  refine wpAny_bind (wpAny_seqItems hTI rfl ?_)
  have he : (refs its).toArray.isEmpty = false := by
    cases its with
    | nil => exact absurd rfl hne
    | cons a r => rfl
  dsimp only
  rw [if_neg (by rw [he]; decide)]
  show wpAny _ _ (Builtin.SmallTypes.ownedTupleIsFree (.ref z) >>= _) _ _ _
  refine wpAny_bind ?_
  unfold Builtin.SmallTypes.ownedTupleIsFree
  refine wpAny_bind (wpAny_field hz rfl (x := .none) rfl (wpAny_pure ?_))
  simp only [if_true]
  refine wpAny_bind (wpAny_rule ?_)
  refine wpAny_bind (wpAny_field hz rfl (x := .ref TO) rfl ?_)
  refine wpAny_bind (wpAny_setField_rec hz (by simp) fun h₁ hz₁ hs₁ => ?_)
  replace hz₁ : IsZip h₁ z TI TO .ellipsis := hz₁
  have hI₁ : ItersAt h₁ its ls rows (fun _ => i) := fun k a l r e1 e2 e3 => by
    obtain ⟨⟨o, ho, q⟩, q2⟩ := hI k a l r e1 e2 e3
    exact ⟨⟨o, hs₁.extBut _ _ (fun y => D.zi (y ▸ List.mem_of_getElem? e1)) ho, q⟩, q2.extBut hs₁.extBut (fun y => (D.lz l (List.mem_of_getElem? e2)).1 y)⟩
  have hTO₁ : h₁.get? TO = some { cls := .type "tuple", data := .seq kept } := hs₁.extBut _ _ (Ne.symm D.zO) hTO
  refine wpAny_bind (wpAny_forIn_list _ (fun rest b s' => ∃ (j : Nat) (h' : Heap) (kp : Array Value), b = ⟨none, ()⟩ ∧ rest = (refs its).zipIdx.drop j ∧ j ≤ its.length ∧ s' = { s with heap := h' } ∧ ItersAt h' its ls rows (fun k => if k < j then i + 1 else i) ∧
    h'.get? TO = some { cls := .type "tuple", data := .seq kp } ∧ kp.size = its.length ∧ (∀ k, k < j → kp[k]? = vals[k]?) ∧ KeepBut (TO :: its) h₁ h' ∧ h'.objs.size = h₁.objs.size) _ ?_ ?_ _ _ ⟨0, h₁, kept, rfl, rfl, Nat.zero_le _, rfl, fun k a l r e1 e2 e3 => by dsimp only; rw [if_neg (Nat.not_lt_zero _)]; exact hI₁ k a l r e1 e2 e3, hTO₁, hks, fun k hk => absurd hk (Nat.not_lt_zero _), fun b o _ e => e, rfl⟩)
  · rintro x rest b s' ⟨j, h', kp, rfl, hrest, hj, rfl, Ij, hkp, hkps, hkv, hk, hsize⟩
    obtain ⟨a, ha, rfl, hrest2⟩ := refs_dropI its j x rest hrest
    refine wpAny_bind (wpAny_onRaise ?_)
    show wpAny _ _ (Builtin.SmallTypes.nextOf (.ref a) >>= fun v => pure (some v)) _ _ _
    refine turn (s := { s with heap := h' }) (vals := vals) D.nd (fun l hl => (D.lz l hl).2.2) D.ln hr hv hx Ij ha fun v h'' ev I2 hs2 => ?_
    have haO : TO ≠ a := fun y => D.Oi (y ▸ List.mem_of_getElem? ha)
    have hkp2 : h''.get? TO = some { cls := .type "tuple", data := .seq kp } := hs2.extBut _ _ haO hkp
    refine wpAny_bind (wpAny_seqItems hkp2 rfl ?_)
    refine wpAny_bind (wpAny_updateSeq hkp2 rfl ?_ (by rw [hkps]; exact Nat.le_trans hsz (by decide)) (by rw [Array.size_setIfInBounds, hkps]; exact Nat.le_trans hsz (by decide)))
    refine wpAny_bind (wpAny_letGo (wpAny_pure ?_))
    have hs3 := Heap.SameBut.update h'' TO (Obj.mapSeq (·.setIfInBounds j v))
    have g3 : (h''.update TO (Obj.mapSeq (·.setIfInBounds j v))).get? TO = some { cls := .type "tuple", data := .seq (kp.setIfInBounds j v) } := by
      rw [Heap.get?_update_self _ hkp2 rfl]
      simp [Obj.mapSeq]
    have hjn : j < its.length := (List.getElem?_eq_some_iff.mp ha).1
    refine ⟨j + 1, _, kp.setIfInBounds j v, rfl, hrest2, hjn, rfl, ?_, g3, by rw [Array.size_setIfInBounds, hkps], ?_, ?_, hs3.1.trans (hs2.1.trans hsize)⟩
    · intro k a2 l2 r2 e1 e2 e3
      obtain ⟨⟨o, ho, q⟩, q2⟩ := I2 k a2 l2 r2 e1 e2 e3
      exact ⟨⟨o, hs3.extBut _ _ (fun y => D.Oi (y ▸ List.mem_of_getElem? e1)) ho, q⟩, q2.extBut hs3.extBut (D.lz l2 (List.mem_of_getElem? e2)).2.1⟩
    · intro k hkj
      by_cases e : k = j
      · subst e
        rw [Array.getElem?_setIfInBounds_self_of_lt (by omega), ev]
      · rw [Array.getElem?_setIfInBounds_ne (by omega)]
        exact hkv k (by omega)
    · intro b o hb e
      have b1 : b ≠ TO := fun y => hb (by rw [y]; simp)
      have b2 : b ∉ its := fun y => hb (List.mem_cons_of_mem _ y)
      exact hs3.extBut _ _ b1 (hs2.extBut _ _ (fun y => b2 (y ▸ List.mem_of_getElem? ha)) (hk b o hb e))
  · rintro b s' ⟨j, h', kp, rfl, hrest, hj, rfl, Ij, hkp, hkps, hkv, hk, hsize⟩
    have hjn : j = its.length := by
      have := congrArg List.length hrest
      simp [refs] at this
      omega
    subst hjn
    dsimp only
    have ekp : kp = vals.toArray := by
      apply Array.ext_getElem?
      intro k
      by_cases hk2 : k < its.length
      · rw [hkv k hk2]
        simp
      · rw [Array.getElem?_eq_none (by omega), Array.getElem?_eq_none (by simp; omega)]
    subst ekp
    refine wpAny_bind (wpAny_seqItems hkp rfl ?_)
    refine wpAny_bind (wpAny_newTuple ?_ (by show vals.length ≤ sizeLine; exact Nat.le_trans (show vals.length ≤ 1000 by omega) (by decide)))
    have hsz2 : h'.objs.size = s.heap.objs.size := hsize.trans hs₁.1
    have hz2 : IsZip h' z TI TO .ellipsis := hk z _ (by simp only [List.mem_cons, not_or]; exact ⟨D.zO, D.zi⟩) hz₁
    have hzlt : z < h'.objs.size := Heap.lt_size hz2
    show wpAny _ _ (Builtin.SmallTypes.ownedTupleHandOut (.ref z) (.ref h'.objs.size) >>= _) _ _ _
    refine wpAny_bind ?_
    unfold Builtin.SmallTypes.ownedTupleHandOut
    have hz3 : IsZip (h'.push { cls := .type "tuple", data := .seq vals.toArray }) z TI TO .ellipsis := Heap.get?_push_of_some _ hz2
    refine wpAny_bind (wpAny_setField_rec hz3 (by simp) fun h₇ hz₇ hs₇ => ?_)
    replace hz₇ : IsZip h₇ z TI TO (rawInt h'.objs.size) := hz₇
    refine wpAny_setField_rec hz₇ (by simp) fun h₈ hz₈ hs₈ => ?_
    replace hz₈ : Held h₈ z TI TO h'.objs.size false := hz₈
    have up : ∀ c o, c ≠ z → h'.get? c = some o → h₈.get? c = some o := fun c o c1 e => hs₈.extBut _ _ c1 (hs₇.extBut _ _ c1 (Heap.get?_push_of_some _ e))
    have hT₈ : h₈.get? h'.objs.size = some { cls := .type "tuple", data := .seq vals.toArray } := hs₈.extBut _ _ (Nat.ne_of_gt hzlt) (hs₇.extBut _ _ (Nat.ne_of_gt hzlt) (Heap.get?_push_size _ rfl))
    have h8s : h₈.objs.size = h'.objs.size + 1 := by rw [hs₈.1, hs₇.1, Heap.size_push]
    refine wpAny_pure ⟨_, rfl, ?_⟩
    show Q (.ref h'.objs.size) _
    have I8 : ItersAt h₈ its ls rows (fun _ => i + 1) := fun k a l r e1 e2 e3 => by
      obtain ⟨⟨o, ho, q⟩, ol, hol, q2⟩ := Ij k a l r e1 e2 e3
      dsimp only at q
      rw [if_pos (List.getElem?_eq_some_iff.mp e1).1] at q
      exact ⟨⟨o, up _ _ (fun y => D.zi (y ▸ List.mem_of_getElem? e1)) ho, q⟩, ol, up _ _ (D.lz l (List.mem_of_getElem? e2)).1 hol, q2⟩
    have k8 : KeepBut (z :: TO :: its) s.heap h₈ := fun b o hb e => by
      have b1 : b ≠ z := fun y => hb (by rw [y]; simp)
      exact up _ _ b1 (hk b o (fun y => hb (List.mem_cons_of_mem _ y)) (hs₁.extBut _ _ b1 e))
    rw [hsz2] at hz₈ hT₈ h8s ⊢
    exact hQ h₈ hz₈ I8 hT₈ h8s k8
/-- the first draw of rows of nothing -/
theorem free_end {z TI TO a l : Addr} {its ls : List Addr} {rows : List (Array Value)} {i : Nat} {r : Array Value} {Q : Fin → Shared → Prop} (hh : A.handled = none) (D : Ap z TI TO its ls)
    (hz : Free s.heap z TI TO) (hTI : s.heap.get? TI = some { cls := .type "tuple", data := .seq (refs its).toArray }) (hI : ItersAt s.heap its ls rows (fun _ => i))
    (h1 : its[0]? = some a) (h2 : ls[0]? = some l) (h3 : rows[0]? = some r) (hx : r[i]? = none)
    (hE : ∀ h' e, KeepBut (z :: its) s.heap h' → (∃ o, h'.get? e = some o ∧ o.cls = .type "StopIteration") → E (.ref e) { s with heap := h' }) :
    wpAny (model prog w) A (Builtin.«zip.__next__» ⟨[.ref z], []⟩) Q E s := by
  show wpAny _ _ (field (.ref z) 2 >>= _) _ _ _
  refine wpAny_bind (wpAny_field hz rfl (x := .bool false) rfl ?_)
  show wpAny _ _ (field (.ref z) 3 >>= _) _ _ _
  refine wpAny_bind (wpAny_field hz rfl (x := .ref TI) rfl ?_)
  refine wpAny_bind (wpAny_seqItems hTI rfl ?_)
  obtain ⟨its2, rfl⟩ : ∃ its2, its = a :: its2 := by
    cases its with
    | nil => simp at h1
    | cons x y => simp at h1; exact ⟨y, by rw [h1]⟩
  dsimp only
  rw [if_neg (show ¬ ((refs (a :: its2)).toArray.isEmpty = true) from Bool.false_ne_true)]
  show wpAny _ _ (Builtin.SmallTypes.ownedTupleIsFree (.ref z) >>= _) _ _ _
  refine wpAny_bind ?_
  unfold Builtin.SmallTypes.ownedTupleIsFree
  refine wpAny_bind (wpAny_field hz rfl (x := .none) rfl (wpAny_pure ?_))
  simp only [if_true]
  refine wpAny_bind (wpAny_rule ?_)
  refine wpAny_bind (wpAny_field hz rfl (x := .ref TO) rfl ?_)
  refine wpAny_bind (wpAny_setField_rec hz (by simp) fun h₁ hz₁ hs₁ => ?_)
  replace hz₁ : IsZip h₁ z TI TO .ellipsis := hz₁
  obtain ⟨⟨o, ho, q⟩, q2⟩ := hI 0 a l r h1 h2 h3
  have hza : a ≠ z := fun y => D.zi (y ▸ List.mem_cons_self)
  show wpAny _ _ (forIn ((Value.ref a, 0) :: (refs its2).zipIdx 1) _ _ >>= _) _ _ _
  rw [List.forIn_cons]
  refine wpAny_bind (wpAny_bind (wpAny_bind (wpAny_onRaise ?_)))
  show wpAny _ _ (Builtin.SmallTypes.nextOf (.ref a) >>= _) _ _ _
  refine wpAny_bind (RZ.nextOf_tuple_end (s := { s with heap := h₁ }) hh ⟨o, hs₁.extBut _ _ hza ho, q⟩ (q2.extBut hs₁.extBut (D.lz l (List.mem_of_getElem? h2)).1) hx fun h₂ e hs₂ he => ?_)
  obtain ⟨oe, hoe, hce⟩ := he
  have zB : IsZip h₂ z TI TO .ellipsis := hs₂ _ _ (Ne.symm hza) hz₁
  have ne : e ≠ z := fun q => by
    rw [q, zB] at hoe
    cases hoe
    simp at hce
  exact wpAny_setField_rec zB (by simp) fun hC _ sC => hE hC e (fun b o hb x => sC.extBut _ _ (fun y => hb (by rw [y]; simp)) (hs₂ _ _ (fun y => hb (by rw [y]; simp)) (hs₁.extBut _ _ (fun y => hb (by rw [y]; simp)) x))) ⟨oe, sC.extBut _ _ ne hoe, hce⟩
/-- the zip behind i draws -/
structure ZSt (z TI TO : Addr) (its ls : List Addr) (rows : List (Array Value)) (h : Heap) (i : Nat) : Prop where
  ti : h.get? TI = some { cls := .type "tuple", data := .seq (refs its).toArray }
  it : ItersAt h its ls rows (fun _ => i)
  st : (Free h z TI TO ∧ i = 0 ∧ ∃ kept : Array Value, h.get? TO = some { cls := .type "tuple", data := .seq kept } ∧ kept.size = its.length) ∨ (1 ≤ i ∧ ∃ T f oT, Held h z TI TO T f ∧ h.get? T = some oT ∧ oT.cls = .type "tuple" ∧ T ∉ z :: TO :: its)
theorem ZSt.zip {z TI TO : Addr} {its ls : List Addr} {rows : List (Array Value)} {i : Nat} (Z : ZSt z TI TO its ls rows s.heap i) : s.TypeIs (.ref z) "zip" := by
  rcases Z.st with ⟨hz, _⟩ | ⟨_, T, f, oT, hz, _⟩
  · exact ⟨_, hz, rfl⟩
  · exact ⟨_, hz, rfl⟩
/-- what is laid beside changes nothing -/
theorem ZSt.keep {z TI TO : Addr} {its ls : List Addr} {rows : List (Array Value)} {h h' : Heap} {i : Nat} {S : Addr} {oS : Obj} (Z : ZSt z TI TO its ls rows h i) (hS : h.get? S = some oS) (hc : oS.cls = .type "list") (k : ∀ b o, b ≠ S → h.get? b = some o → h'.get? b = some o) : ZSt z TI TO its ls rows h' i := by
  have ne : ∀ {b o}, h.get? b = some o → o.cls ≠ .type "list" → b ≠ S := fun e n y => by
    subst y
    rw [hS] at e
    cases e
    exact n hc
  have tl : Value.type "tuple" ≠ Value.type "list" := by decide
  have zl : Value.type "zip" ≠ Value.type "list" := by decide
  refine ⟨k _ _ (ne Z.ti tl) Z.ti, fun q a l r e1 e2 e3 => ?_, ?_⟩
  · obtain ⟨⟨o, ho, q1, q2⟩, ol, hol, q3, q4⟩ := Z.it q a l r e1 e2 e3
    exact ⟨⟨o, k _ _ (ne ho (by rw [q1]; decide)) ho, q1, q2⟩, ol, k _ _ (ne hol (by rw [q3]; decide)) hol, q3, q4⟩
  · rcases Z.st with ⟨hz, h0, kept, hk, hs⟩ | ⟨hi1, T, f, oT, hz, hT, hn⟩
    · exact .inl ⟨k _ _ (ne hz zl) hz, h0, kept, k _ _ (ne hk tl) hk, hs⟩
    · exact .inr ⟨hi1, T, f, oT, k _ _ (ne hz zl) hz, k _ _ (ne hT (by rw [hn.1]; exact tl)) hT, hn⟩
theorem draw {z TI TO : Addr} {its ls : List Addr} {rows : List (Array Value)} {i : Nat} {vals : List Value} {Q : Option Value → Shared → Prop} (D : Ap z TI TO its ls) (hne : its ≠ []) (Z : ZSt z TI TO its ls rows s.heap i) (hlt : ∀ b ∈ z :: TO :: its, b < s.heap.objs.size) (hr : rows.length = its.length)
    (hv : vals.length = its.length) (hx : ∀ (k : Nat) (r : Array Value) (v : Value), rows[k]? = some r → vals[k]? = some v → r[i]? = some v) (hsz : its.length ≤ 1000)
    (hQ : ∀ h', ZSt z TI TO its ls rows h' (i + 1) → h'.get? s.heap.objs.size = some { cls := .type "tuple", data := .seq vals.toArray } → h'.objs.size = s.heap.objs.size + 1 → KeepBut (z :: TO :: its) s.heap h' → Q (some (.ref s.heap.objs.size)) { s with heap := h' }) :
    wpAny (model prog w) A (pyNext (.ref z)) Q E s := by
  have hTy := Z.zip
  have hIn : TI ∉ z :: TO :: its := by
    simp only [List.mem_cons, not_or]
    exact ⟨D.Iz, D.IO, D.Ii⟩
  unfold pyNext
  refine wpAny_bind (wpAny_attempt (wpAny_callSpecial?_slot (name := Str.ofString "__next__") hTy F.slot_zip_next (wpAny_call_entry F.slot_zip_next hTy F.entry_zip_next ?_ (F.args_zip_next_1 _))))
  rcases Z.st with ⟨hz, h0, kept, hk, hs⟩ | ⟨hi1, T, f, oT, hz, hT, hn⟩
  · exact free_item D hne hz Z.ti hk hs Z.it hr hv hx hsz fun h' a1 a2 a3 a4 a5 => wpAny_pure (hQ h' ⟨a5 _ _ hIn Z.ti, a2, .inr ⟨Nat.le_add_left 1 i, _, _, _, a1, a3, rfl, fun y => Nat.lt_irrefl _ (hlt _ y)⟩⟩ a3 a4 a5)
  · refine held_item D hne hz hT Z.ti Z.it hr hv hx hsz fun h' a1 a2 a3 a4 a5 => wpAny_pure ?_
    have a6 : KeepBut (z :: TO :: its) s.heap h' := fun b o hb e => a5 b o (fun y => hb (by
      rcases List.mem_cons.mp y with y | y
      · rw [y]
        exact List.mem_cons_self
      · exact List.mem_cons_of_mem _ (List.mem_cons_of_mem _ y))) e
    exact hQ h' ⟨a6 _ _ hIn Z.ti, a2, .inr ⟨Nat.le_add_left 1 i, _, _, _, a1, a6 _ _ hn.2 hT, hn⟩⟩ a3 a4 a6
theorem stop {z TI TO a l : Addr} {its ls : List Addr} {rows : List (Array Value)} {i : Nat} {r : Array Value} {Q : Option Value → Shared → Prop} (hh : A.handled = none) (D : Ap z TI TO its ls) (Z : ZSt z TI TO its ls rows s.heap i)
    (h1 : its[0]? = some a) (h2 : ls[0]? = some l) (h3 : rows[0]? = some r) (hx : r[i]? = none) (hQ : ∀ h', KeepBut (z :: TO :: its) s.heap h' → Q none { s with heap := h' }) : wpAny (model prog w) A (pyNext (.ref z)) Q E s := by
  have hTy := Z.zip
  unfold pyNext
  rcases Z.st with ⟨hz, h0, _⟩ | ⟨_, T, f, oT, hz, hT, hn⟩
  · refine wpAny_bind (wpAny_attempt (wpAny_callSpecial?_slot (name := Str.ofString "__next__") hTy F.slot_zip_next (wpAny_call_entry F.slot_zip_next hTy F.entry_zip_next (free_end hh D hz Z.ti Z.it h1 h2 h3 hx fun h' e hk he => ?_) (F.args_zip_next_1 _))))
    obtain ⟨o, ho, hc⟩ := he
    refine wpAny_bind (wpAny_isInstance (T := "StopIteration") (b := true) ⟨o, ho, hc⟩ isSubtype_stop ?_)
    refine wpAny_pure (hQ _ fun b o hb e => hk b o (fun y => hb ?_) e)
    rcases List.mem_cons.mp y with y | y
    · rw [y]
      exact List.mem_cons_self
    · exact List.mem_cons_of_mem _ (List.mem_cons_of_mem _ y)
  · refine wpAny_bind (wpAny_attempt (wpAny_callSpecial?_slot (name := Str.ofString "__next__") hTy F.slot_zip_next (wpAny_call_entry F.slot_zip_next hTy F.entry_zip_next (held_end hh D hz hT Z.ti Z.it h1 h2 h3 hx fun h' e hk he => ?_) (F.args_zip_next_1 _))))
    obtain ⟨o, ho, hc⟩ := he
    refine wpAny_bind (wpAny_isInstance (T := "StopIteration") (b := true) ⟨o, ho, hc⟩ isSubtype_stop ?_)
    refine wpAny_pure (hQ _ fun b o hb e => hk b o (fun y => hb ?_) e)
    rcases List.mem_cons.mp y with y | y
    · rw [y]
      exact List.mem_cons_self
    · exact List.mem_cons_of_mem _ (List.mem_cons_of_mem _ y)
/-- the items drawn so far stand at as -/
structure Got (h : Heap) (lo : Nat) (cols : Nat → List Value) (as : List Addr) : Prop where
  at_ : ∀ (j : Nat) (a : Addr), as[j]? = some a → h.get? a = some { cls := .type "tuple", data := .seq (cols j).toArray }
  up : as.Pairwise (· < ·)
  lo_ : ∀ a ∈ as, lo ≤ a ∧ a < h.objs.size
theorem Got.lay {h h' : Heap} {lo : Nat} {cols : Nat → List Value} {as : List Addr} (G : Got h lo cols as) (k : ∀ a ∈ as, ∀ o, h.get? a = some o → h'.get? a = some o) (hs : h.objs.size ≤ h'.objs.size) : Got h' lo cols as :=
  ⟨fun j a e => k a (List.mem_of_getElem? e) _ (G.at_ j a e), G.up, fun a m => ⟨(G.lo_ a m).1, Nat.lt_of_lt_of_le (G.lo_ a m).2 hs⟩⟩
theorem Got.snoc {h h' : Heap} {lo : Nat} {cols : Nat → List Value} {as : List Addr} (G : Got h lo cols as) (k : ∀ a ∈ as, ∀ o, h.get? a = some o → h'.get? a = some o) (hs : h'.objs.size = h.objs.size + 1) (hlo : lo ≤ h.objs.size)
    (new : h'.get? h.objs.size = some { cls := .type "tuple", data := .seq (cols as.length).toArray }) : Got h' lo cols (as ++ [h.objs.size]) := by
  refine ⟨fun j a e => ?_, ?_, fun a m => ?_⟩
  · rcases Nat.lt_or_ge j as.length with hj | hj
    · rw [List.getElem?_append_left hj] at e
      exact k a (List.mem_of_getElem? e) _ (G.at_ j a e)
    · rw [List.getElem?_append_right hj] at e
      have e0 : j - as.length = 0 := by
        rcases Nat.eq_zero_or_pos (j - as.length) with z | z
        · exact z
        · rw [List.getElem?_eq_none (by simp; omega)] at e
          cases e
      rw [e0] at e
      cases e
      rw [show j = as.length by omega]
      exact new
  · rw [List.pairwise_append]
    refine ⟨G.up, by simp, fun a ha b hb => ?_⟩
    rw [List.mem_singleton.mp hb]
    exact (G.lo_ a ha).2
  · rcases List.mem_append.mp m with m | m
    · exact ⟨(G.lo_ a m).1, by rw [hs]; exact Nat.lt_succ_of_lt (G.lo_ a m).2⟩
    · rw [List.mem_singleton.mp m]
      exact ⟨hlo, by rw [hs]; exact Nat.lt_succ_self _⟩
theorem extend_loop {z TI TO S : Addr} {its ls : List Addr} {rows : List (Array Value)} {n lo : Nat} {cols : Nat → List Value} {R : Result → Shared → Prop} (hh : A.in1.handled = none) (D : Ap z TI TO its ls) (hne : its ≠ []) (hr : rows.length = its.length) (hn : n ≤ 1000) (hsz : its.length ≤ 1000)
    (hw : ∀ r ∈ rows, r.size = n) (hc : ∀ i, i < n → (cols i).length = its.length ∧ ∀ (k : Nat) (r : Array Value) (v : Value), rows[k]? = some r → (cols i)[k]? = some v → r[i]? = some v) (hSW : S ∉ z :: TO :: its) (res : Value) :
    ∀ (k : Nat) (s : Shared) (as : List Addr) (c : Nat), n - as.length = k → as.length ≤ n → ZSt z TI TO its ls rows s.heap as.length → (∀ b ∈ z :: TO :: its, b < s.heap.objs.size ∧ b < lo) → S < lo → lo ≤ s.heap.objs.size →
    s.heap.get? S = some { cls := .type "list", dict := none, data := .seq (refs as).toArray c, slots := #[] } → Got s.heap lo cols as →
    (∀ h' as' c', as'.length = n → KeepBut (S :: z :: TO :: its) s.heap h' → h'.get? S = some { cls := .type "list", dict := none, data := .seq (refs as').toArray c', slots := #[] } → Got h' lo cols as' → R (.ok (.ret res)) { s with heap := h' }) →
    codeAny (model prog w) A (.builtin "list.extend.loop" ⟨[.ref S, .ref z, res], []⟩) R s := by
  intro k
  induction k with
  | zero =>
    intro s as c hk hle Z hlt hSl hlo hS G hR
    have e : as.length = n := by omega
    obtain ⟨a, ha⟩ : ∃ a, its[0]? = some a := by
      cases its with
      | nil => exact absurd rfl hne
      | cons a r => exact ⟨a, rfl⟩
    have hpos : 0 < its.length := (List.getElem?_eq_some_iff.mp ha).1
    have hln := D.ln
    have h2 : ls[0]? = some (ls[0]'(by omega)) := List.getElem?_eq_getElem (by omega)
    have h3 : rows[0]? = some (rows[0]'(by omega)) := List.getElem?_eq_getElem (by omega)
    refine codeAny_builtin F.entry_extend_loop ?_
    rw [Around.under_plainId F.plain_extend_loop _]
    show wpAny _ A.in1 (pyNext (.ref z) >>= _) _ _ s
    refine wpAny_bind (stop hh D Z ha h2 h3 (Array.getElem?_eq_none (by rw [hw _ (List.mem_of_getElem? h3)]; omega)) fun h' hk' => ?_)
    have keepG : ∀ a ∈ as, ∀ o, s.heap.get? a = some o → h'.get? a = some o := fun a m o x => hk' a o (fun y => Nat.lt_irrefl _ (Nat.lt_of_lt_of_le (hlt a y).2 (G.lo_ a m).1)) x
    refine wpAny_pure (hR h' as c e (fun b o hb x => hk' b o (fun y => hb (List.mem_cons_of_mem _ y)) x) (hk' _ _ hSW hS) ⟨fun j a x => keepG a (List.mem_of_getElem? x) _ (G.at_ j a x), G.up, fun a m => ⟨(G.lo_ a m).1, ?_⟩⟩)
    obtain ⟨j, hj⟩ := List.mem_iff_getElem?.mp m
    exact Heap.lt_size (keepG a m _ (G.at_ j a hj))
  | succ k ih =>
    intro s as c hk hle Z hlt hSl hlo hS G hR
    have hi : as.length < n := by omega
    obtain ⟨hcl, hcx⟩ := hc as.length hi
    refine codeAny_builtin F.entry_extend_loop ?_
    rw [Around.under_plainId F.plain_extend_loop _]
    show wpAny _ A.in1 (pyNext (.ref z) >>= _) _ _ s
    refine wpAny_bind (draw D hne Z (fun b m => (hlt b m).1) hr hcl hcx hsz fun h' Z' new hsize hk' => ?_)
    have hS' := hk' _ _ hSW hS
    show wpAny _ A.in1 (updateSeq S (·.push (.ref s.heap.objs.size)) >>= _) _ _ _
    refine wpAny_bind (wpAny_updateSeq hS' rfl ?_ (by simp [refs]; exact Nat.le_trans (show as.length ≤ 1000 by omega) (by decide)) (by rw [Array.size_push]; simp [refs]; exact Nat.le_trans (show as.length ≤ 1000 by omega) (by decide)))
    have hs3 := Heap.SameBut.update h' S (Obj.mapSeq (·.push (Value.ref s.heap.objs.size)))
    have keepG : ∀ a ∈ as, ∀ o, s.heap.get? a = some o → h'.get? a = some o := fun a m o x => hk' a o (fun y => Nat.lt_irrefl _ (Nat.lt_of_lt_of_le (hlt a y).2 (G.lo_ a m).1)) x
    have G' := G.snoc keepG hsize hlo new
    have g3 : ∃ c', (h'.update S (Obj.mapSeq (·.push (Value.ref s.heap.objs.size)))).get? S = some { cls := .type "list", dict := none, data := .seq (refs (as ++ [s.heap.objs.size])).toArray c', slots := #[] } := by
      rw [Heap.get?_update_self _ hS' rfl]
      have e : (refs as).toArray.push (Value.ref s.heap.objs.size) = (refs (as ++ [s.heap.objs.size])).toArray := by simp [refs]
      rw [← e]
      exact ⟨_, rfl⟩
    obtain ⟨c', g3⟩ := g3
    have el : (as ++ [s.heap.objs.size]).length = as.length + 1 := by simp
    refine wpAny_pure ⟨plainId_quiet F.plain_extend_loop _, ih { s with heap := h'.update S (Obj.mapSeq (·.push (Value.ref s.heap.objs.size))) } (as ++ [s.heap.objs.size]) c' (by rw [el]; omega) (by rw [el]; omega) ?_ ?_ hSl ?_ g3 ?_ ?_⟩
    · rw [el]
      exact Z'.keep hS' rfl fun b o hb x => hs3.extBut _ _ hb x
    · intro b m
      refine ⟨?_, (hlt b m).2⟩
      show b < (h'.update S _).objs.size
      rw [hs3.1, hsize]
      exact Nat.lt_succ_of_lt (hlt b m).1
    · show lo ≤ (h'.update S _).objs.size
      rw [hs3.1, hsize]
      exact Nat.le_succ_of_le hlo
    · refine G'.lay (fun a m o x => hs3.extBut _ _ (fun y => ?_) x) (by rw [hs3.1]; exact Nat.le_refl _)
      rw [y] at m
      exact Nat.lt_irrefl _ (Nat.lt_of_lt_of_le hSl (G'.lo_ S m).1)
    · intro h'' as' c'' e1 k1 e2 G2
      refine hR h'' as' c'' e1 (fun b o hb x => k1 b o hb (hs3.extBut _ _ (fun y => hb (by rw [y]; exact List.mem_cons_self)) (hk' b o (fun y => hb (List.mem_cons_of_mem _ y)) x))) e2 G2
theorem no_len : typeLookup (.type "zip") "__len__" = pure none := by rw [typeLookup_type, builtinLookup_eq_fast]; kernel_rfl
theorem no_hint : typeLookup (.type "zip") "__length_hint__" = pure none := by rw [typeLookup_type, builtinLookup_eq_fast]; kernel_rfl
/-- list(zip) as the machine collects it -/
theorem collect_zip {z TI TO : Addr} {its ls : List Addr} {rows : List (Array Value)} {n : Nat} {cols : Nat → List Value} {Q : List Value → Shared → Prop} (hh : A.in1.handled = none) (D : Ap z TI TO its ls) (hne : its ≠ []) (hr : rows.length = its.length) (hn : n ≤ 1000) (hsz : its.length ≤ 1000)
    (hw : ∀ r ∈ rows, r.size = n) (hc : ∀ i, i < n → (cols i).length = its.length ∧ ∀ (k : Nat) (r : Array Value) (v : Value), rows[k]? = some r → (cols i)[k]? = some v → r[i]? = some v) (Z : ZSt z TI TO its ls rows s.heap 0) (hlt : ∀ b ∈ z :: TO :: its, b < s.heap.objs.size)
    (hQ : ∀ h' as, as.length = n → KeepBut (z :: TO :: its) s.heap h' → Got h' s.heap.objs.size cols as → Q (refs as) { s with heap := h' }) : wpAny (model prog w) A (collect (.ref z)) Q E s := by
  have hSI : s.heap.objs.size ≠ z := Nat.ne_of_gt (hlt z List.mem_cons_self)
  unfold collect
  refine wpAny_bind (wpAny_runValue (codeAny_builtin F.entry_proto_collect ?_))
  rw [Around.under_plainId F.plain_proto_collect _]
  show wpAny _ A.in1 (newList [] >>= fun l => again (.builtin "list.__iadd__" ⟨[l, .ref z], []⟩)) _ _ s
  refine wpAny_bind (wpAny_newObj_type ?_)
  refine wpAny_pure ⟨plainId_quiet F.plain_list_iadd _, codeAny_builtin F.entry_list_iadd ?_⟩
  rw [Around.under_plainId F.plain_list_iadd _]
  have up : ∀ b o, s.heap.get? b = some o → (s.heap.push { cls := .type "list", data := .seq ([] : List Value).toArray }).get? b = some o := fun b o e => Heap.get?_push_of_some _ e
  have Z1 : ZSt z TI TO its ls rows (s.heap.push { cls := .type "list", data := .seq ([] : List Value).toArray }) 0 := by
    refine ⟨up _ _ Z.ti, fun q a l r e1 e2 e3 => ?_, ?_⟩
    · obtain ⟨⟨o, ho, q1⟩, ol, hol, q3⟩ := Z.it q a l r e1 e2 e3
      exact ⟨⟨o, up _ _ ho, q1⟩, ol, up _ _ hol, q3⟩
    · rcases Z.st with ⟨hz, h0, kept, hk, hs⟩ | ⟨hi1, T, f, oT, hz, hT, hn⟩
      · exact .inl ⟨up _ _ hz, h0, kept, up _ _ hk, hs⟩
      · exact .inr ⟨hi1, T, f, oT, up _ _ hz, up _ _ hT, hn⟩
  show wpAny _ A.in1 (Builtin.List.listExtendWith (.ref s.heap.objs.size) (.ref z) (.ref s.heap.objs.size)) _ _ _
  unfold Builtin.List.listExtendWith
  refine wpAny_bind (wpAny_typeOf (Z1.zip (s := { s with heap := s.heap.push { cls := .type "list", data := .seq ([] : List Value).toArray } })) ?_)
  have h1 : Builtin.List.listSameRef (.ref s.heap.objs.size) (.ref z) = false := by simp [Builtin.List.listSameRef, hSI]
  have h2 : (Value.type "zip" == Value.type "list") = false := by decide
  have h3 : (Value.type "zip" == Value.type "tuple") = false := by decide
  simp only [h1, h2, h3, Bool.or_false, Bool.false_eq_true, if_false]
  refine wpAny_bind ?_
  have zi : wpAny (model prog w) A.in1 (pyIter (.ref z)) (fun v s' => v = .ref z ∧ s' = { s with heap := s.heap.push { cls := .type "list", data := .seq #[] } }) (fun e s' => E e s') { s with heap := s.heap.push { cls := .type "list", data := .seq #[] } } := by
    rcases Z1.st with ⟨hz, _⟩ | ⟨_, T, f, oT, hz, _⟩
    · have hT : Shared.TypeIs { s with heap := s.heap.push { cls := .type "list", data := .seq #[] } } (.ref z) "zip" := ⟨_, hz, rfl⟩
      refine wpAny_pyIter_slot hT F.slot_zip_iter (wpAny_call_entry F.slot_zip_iter hT F.entry_zip_iter ?_ (F.args_zip_iter_1 _))
      show wpAny _ _ (ret (.ref z)) _ _ _
      exact wpAny_pure ⟨_, rfl, "zip", _, hT, F.slot_zip_next.lookup, rfl, rfl⟩
    · have hT : Shared.TypeIs { s with heap := s.heap.push { cls := .type "list", data := .seq #[] } } (.ref z) "zip" := ⟨_, hz, rfl⟩
      refine wpAny_pyIter_slot hT F.slot_zip_iter (wpAny_call_entry F.slot_zip_iter hT F.entry_zip_iter ?_ (F.args_zip_iter_1 _))
      show wpAny _ _ (ret (.ref z)) _ _ _
      exact wpAny_pure ⟨_, rfl, "zip", _, hT, F.slot_zip_next.lookup, rfl, rfl⟩
  refine wpAny_mono zi (fun v s' hv => ?_) fun _ _ e => e
  obtain ⟨rfl, rfl⟩ := hv
  refine wpAny_bind (wpAny_holding ?_)
  unfold Builtin.List.listLengthHint
  refine wpAny_bind (wpAny_specialOf (Z1.zip (s := { s with heap := s.heap.push { cls := .type "list", data := .seq ([] : List Value).toArray } })) no_len ?_)
  show wpAny _ A.in1 (specialOf (Value.ref z) (Str.ofString "__length_hint__") >>= _) _ _ _
  refine wpAny_bind (wpAny_specialOf (Z1.zip (s := { s with heap := s.heap.push { cls := .type "list", data := .seq ([] : List Value).toArray } })) no_hint ?_)
  refine wpAny_pure ?_
  rw [Bool.true_or, if_pos rfl]
  refine wpAny_bind (wpAny_rule (wpAny_bind ?_))
  have hS1 : (s.heap.push { cls := .type "list", data := .seq (#[] : Array Value) }).get? s.heap.objs.size = some { cls := .type "list", data := .seq (#[] : Array Value) } := Heap.get?_push_size _ rfl
  show wpAny _ A.in1 (updateSeq s.heap.objs.size (·.push .none) >>= fun _ => updateSeq s.heap.objs.size (·.pop)) _ _ _
  refine wpAny_bind (wpAny_updateSeq hS1 rfl ?_)
  have hS2 := Heap.get?_update_self (Obj.mapSeq (·.push Value.none)) hS1 rfl
  refine wpAny_updateSeq hS2 rfl ?_
  have hS3 := Heap.get?_update_self (Obj.mapSeq (·.pop)) hS2 rfl
  have oth : ∀ b o, b ≠ s.heap.objs.size → (s.heap.push { cls := .type "list", data := .seq (#[] : Array Value) }).get? b = some o →
      (((s.heap.push { cls := .type "list", data := .seq (#[] : Array Value) }).update s.heap.objs.size (Obj.mapSeq (·.push Value.none))).update s.heap.objs.size (Obj.mapSeq (·.pop))).get? b = some o :=
    fun b o hb e => (Heap.get?_update_other _ _ (Ne.symm hb)).trans ((Heap.get?_update_other _ _ (Ne.symm hb)).trans e)
  have size3 : (((s.heap.push { cls := .type "list", data := .seq (#[] : Array Value) }).update s.heap.objs.size (Obj.mapSeq (·.push Value.none))).update s.heap.objs.size (Obj.mapSeq (·.pop))).objs.size = s.heap.objs.size + 1 := by
    rw [(Heap.SameBut.update _ _ _).1, (Heap.SameBut.update _ _ _).1, Heap.size_push]
  have hSW : s.heap.objs.size ∉ z :: TO :: its := fun y => Nat.lt_irrefl _ (hlt _ y)
  obtain ⟨H3, hH3⟩ : ∃ H3, H3 = ((s.heap.push { cls := .type "list", data := .seq (#[] : Array Value) }).update s.heap.objs.size (Obj.mapSeq (·.push Value.none))).update s.heap.objs.size (Obj.mapSeq (·.pop)) := ⟨_, rfl⟩
  rw [← hH3] at hS3 size3
  have oth3 : ∀ b o, b ≠ s.heap.objs.size → (s.heap.push { cls := .type "list", data := .seq (#[] : Array Value) }).get? b = some o → H3.get? b = some o := fun b o hb e => by rw [hH3]; exact oth b o hb e
  obtain ⟨c3, e3⟩ : ∃ c3, H3.get? s.heap.objs.size = some { cls := .type "list", dict := none, data := .seq (refs []).toArray c3, slots := #[] } := ⟨_, hS3⟩
  have Z3 : ZSt z TI TO its ls rows H3 0 := Z1.keep hS1 rfl oth3
  refine wpAny_pure ⟨plainId_quiet F.plain_extend_loop _, ?_⟩
  show codeAny _ _ _ _ { s with heap := ((s.heap.push { cls := .type "list", data := .seq (#[] : Array Value) }).update s.heap.objs.size (Obj.mapSeq (·.push Value.none))).update s.heap.objs.size (Obj.mapSeq (·.pop)) }
  rw [← hH3]
  refine extend_loop (lo := s.heap.objs.size + 1) hh D hne hr hn hsz hw hc hSW _ n { s with heap := H3 } [] c3 rfl (Nat.zero_le _) Z3 (fun b m => ⟨?_, Nat.lt_succ_of_lt (hlt b m)⟩) (Nat.lt_succ_self _) (by show _ ≤ H3.objs.size; rw [size3]; exact Nat.le_refl _) e3 ⟨fun j a e => by simp at e, .nil, fun a m => nomatch m⟩ fun h' as c' hl k1 e1 G => ?_
  · show b < H3.objs.size
    rw [size3]
    exact Nat.lt_succ_of_lt (hlt b m)
  · show wpAny _ A (load s.heap.objs.size >>= _) _ _ _
    refine wpAny_bind (wpAny_load e1 ?_)
    refine wpAny_pure ?_
    show Q (refs as).toArray.toList _
    refine hQ h' as hl (fun b o hb e => ?_) ⟨G.at_, G.up, fun a m => ⟨Nat.le_of_succ_le (G.lo_ a m).1, (G.lo_ a m).2⟩⟩
    have hb2 : b ≠ s.heap.objs.size := Nat.ne_of_lt (Heap.lt_size e)
    exact k1 b o (fun y => (List.mem_cons.mp y).elim hb2 hb) (oth3 b o hb2 (up b o e))
theorem code_tuple {z TI TO : Addr} {its ls : List Addr} {rows : List (Array Value)} {n : Nat} {cols : Nat → List Value} {Q₁ : Value → Shared → Prop} (hh : A.in1.in1.handled = none) (D : Ap z TI TO its ls) (hne : its ≠ []) (hr : rows.length = its.length) (hn : n ≤ 1000) (hsz : its.length ≤ 1000)
    (hw : ∀ r ∈ rows, r.size = n) (hc : ∀ i, i < n → (cols i).length = its.length ∧ ∀ (k : Nat) (r : Array Value) (v : Value), rows[k]? = some r → (cols i)[k]? = some v → r[i]? = some v) (Z : ZSt z TI TO its ls rows s.heap 0) (hlt : ∀ b ∈ z :: TO :: its, b < s.heap.objs.size)
    (hQ : ∀ h' as, as.length = n → KeepBut (z :: TO :: its) s.heap h' → Got h' s.heap.objs.size cols as → Q₁ (.ref h'.objs.size) { s with heap := h'.push { cls := .type "tuple", data := .seq (refs as).toArray } }) :
    codeAny (model prog w) A (.call (.builtin "tuple.__new__") ⟨[.type "tuple", .ref z], []⟩) (wants Q₁ E) s := by
  refine codeAny_of_tree ?_
  show wpAny _ A.in1 (do checkBuiltinCall "tuple.__new__" ⟨[.type "tuple", .ref z], []⟩; again (.builtin "tuple.__new__" ⟨[.type "tuple", .ref z], []⟩)) _ _ s
  refine wpAny_bind (wpAny_of_eq (F.newCall_tuple_1 _) (wpAny_pure ⟨plainId_quiet F.plain_tuple_new _, codeAny_builtin F.entry_tuple_new ?_⟩))
  rw [Around.under_plainId F.plain_tuple_new _]
  have hsub := sub_tuple_self
  have hinit := init_tuple_lookup
  have hmh := madeHere_tuple
  have hTI := Z.zip
  wp_walk using wpAny_typeOf hTI, collect_zip hh D hne hr hn hsz hw hc Z hlt
  intro h' as hl k G
  show wpAny _ _ (Builtin.Tuple.tupleExact (refs as).toArray >>= fun v => ret v) _ _ _
  unfold Builtin.Tuple.tupleExact
  refine wpAny_bind (wpAny_newObj_type ?_ (by show (refs as).toArray.size ≤ sizeLine; rw [show (refs as).toArray.size = as.length by simp [refs]]; exact Nat.le_trans (show as.length ≤ 1000 by omega) (by decide)))
  exact wpAny_pure (hQ h' as hl k G)
theorem call_tuple {z TI TO : Addr} {its ls : List Addr} {rows : List (Array Value)} {n : Nat} {cols : Nat → List Value} {Q : Value → Shared → Prop} (hh : A.in1.in1.in1.handled = none) (D : Ap z TI TO its ls) (hne : its ≠ []) (hr : rows.length = its.length) (hn : n ≤ 1000) (hsz : its.length ≤ 1000)
    (hw : ∀ r ∈ rows, r.size = n) (hc : ∀ i, i < n → (cols i).length = its.length ∧ ∀ (k : Nat) (r : Array Value) (v : Value), rows[k]? = some r → (cols i)[k]? = some v → r[i]? = some v) (Z : ZSt z TI TO its ls rows s.heap 0) (hlt : ∀ b ∈ z :: TO :: its, b < s.heap.objs.size)
    (hQ : ∀ h' as, as.length = n → KeepBut (z :: TO :: its) s.heap h' → Got h' s.heap.objs.size cols as → Q (.ref h'.objs.size) { s with heap := h'.push { cls := .type "tuple", data := .seq (refs as).toArray } }) :
    wpAny (model prog w) A (call (.type "tuple") [.ref z]) Q E s := by
  refine callType_codes (Q₁ := fun obj s₁ => s₁.TypeIs obj "tuple" ∧ Q obj s₁) F.called_tuple (F.typeCall_tuple_1 _) F.entry_object_init
    (code_tuple hh D hne hr hn hsz hw hc Z hlt fun h' as hl k G => ⟨⟨_, Heap.get?_push_size _ rfl, rfl⟩, hQ h' as hl k G⟩) fun obj s₁ h₁ => ?_
  exact ⟨h₁.1, F.args_object_init_2 obj _, object_init_meets F.called_tuple.init.lookup F.called_tuple.made (by decide) prog w A.in1 _ s₁ ⟨h₁.1, rfl, h₁.2⟩⟩
end
end ZN

namespace ZN
open PySem PySem.Spec PyProof.Rows
theorem typeCall (us : List Value) : checkTypeCall "zip" ⟨us, []⟩ = pure () := by kernel_rfl
theorem newCall : ∀ us : List Value, 1 ≤ us.length → us.length ≤ 16 → checkBuiltinCall "zip.__new__" ⟨.type "zip" :: us, []⟩ = pure ()
  | [a], _, _ => by kernel_rfl
  | [a, b], _, _ => by kernel_rfl
  | [a, b, c], _, _ => by kernel_rfl
  | [a, b, c, d], _, _ => by kernel_rfl
  | [a, b, c, d, e], _, _ => by kernel_rfl
  | [a, b, c, d, e, f], _, _ => by kernel_rfl
  | [a, b, c, d, e, f, g], _, _ => by kernel_rfl
  | [a, b, c, d, e, f, g, h], _, _ => by kernel_rfl
  | [a, b, c, d, e, f, g, h, a1], _, _ => by kernel_rfl
  | [a, b, c, d, e, f, g, h, a1, b1], _, _ => by kernel_rfl
  | [a, b, c, d, e, f, g, h, a1, b1, c1], _, _ => by kernel_rfl
  | [a, b, c, d, e, f, g, h, a1, b1, c1, d1], _, _ => by kernel_rfl
  | [a, b, c, d, e, f, g, h, a1, b1, c1, d1, e1], _, _ => by kernel_rfl
  | [a, b, c, d, e, f, g, h, a1, b1, c1, d1, e1, f1], _, _ => by kernel_rfl
  | [a, b, c, d, e, f, g, h, a1, b1, c1, d1, e1, f1, g1], _, _ => by kernel_rfl
  | [a, b, c, d, e, f, g, h, a1, b1, c1, d1, e1, f1, g1, h1], _, _ => by kernel_rfl
  | a :: b :: c :: d :: e :: f :: g :: h :: a1 :: b1 :: c1 :: d1 :: e1 :: f1 :: g1 :: h1 :: i1 :: us, _, z => absurd z (by simp)
theorem args_init (a b : Value) (us : List Value) : argsOk "object.__init__" ⟨a :: b :: us, []⟩ := by
  unfold argsOk; rw [signature?_of (id := "object.__init__") (n := ['_', '_', 't', 'i', 'n', 'i', '_', '_']) (o := ['t', 'c', 'e', 'j', 'b', 'o']) (by kernel_rfl) F.owner_object]; kernel_rfl
/-- where the iterators stand when zip is made -/
def newIts (n0 N : Nat) : List Addr := (List.range N).map (n0 + ·)
theorem meets_new (ls : List Addr) (rows : List (Array Value)) (hr : rows.length = ls.length) (hsz : ls.length ≤ 1000) :
    Meets (Builtin.«zip.__new__» ⟨.type "zip" :: refs ls, []⟩) (fun _ R s => (∀ (k : Nat) (l : Addr) (r : Array Value), ls[k]? = some l → rows[k]? = some r → s.heap.IsTuple l r) ∧
      ∀ h', ZSt (s.heap.objs.size + ls.length + 2) (s.heap.objs.size + ls.length) (s.heap.objs.size + ls.length + 1) (newIts s.heap.objs.size ls.length) ls rows h' 0 → h'.objs.size = s.heap.objs.size + ls.length + 3 → (∀ b o, s.heap.get? b = some o → h'.get? b = some o) →
      R (.ok (.ret (.ref (s.heap.objs.size + ls.length + 2)))) { s with heap := h' }) :=
  .of_wp fun prog w A R s h => by
    obtain ⟨hp, g, d, tk, os⟩ := s
    obtain ⟨hl, h⟩ := h
    have hsub := sub_zip
    unfold Builtin.«zip.__new__»
    wp_walk using wpAny_forIn_list _ (fun rest (b : Array Value) s' => ∃ (j : Nat) (h' : Heap), b = (refs (newIts hp.objs.size j)).toArray ∧ rest = (refs ls).drop j ∧ j ≤ ls.length ∧ s' = ⟨h', g, d, tk, os⟩ ∧
      (∀ (k : Nat) (l : Addr), k < j → ls[k]? = some l → h'.IsTupleIter (hp.objs.size + k) l 0) ∧ h'.objs.size = hp.objs.size + j ∧ ∀ b o, hp.get? b = some o → h'.get? b = some o) _
    · rintro x rest b s' ⟨j, h', rfl, hrest, hj, rfl, hit, hsz2, hk⟩
      obtain ⟨l, hlj, rfl, hrest2⟩ := refs_drop ls j x rest hrest
      have hjl : j < ls.length := (List.getElem?_eq_some_iff.mp hlj).1
      have hrow : rows[j]? = some (rows[j]'(by omega)) := List.getElem?_eq_getElem (by omega)
      obtain ⟨o, ho, q⟩ := hl j l _ hlj hrow
      have hlt2 : h'.IsTuple l (rows[j]'(by omega)) := ⟨o, hk _ _ ho, q⟩
      refine wpAny_bind (wpAny_holding (wpAny_pyIter_tuple hlt2 ?_))
      refine wpAny_pure ⟨j + 1, _, ?_, hrest2, hjl, rfl, fun k l2 hk2 e2 => ?_, ?_, fun b o e => Heap.get?_push_of_some _ (hk b o e)⟩
      · have e1 : newIts hp.objs.size (j + 1) = newIts hp.objs.size j ++ [hp.objs.size + j] := by simp [newIts, List.range_succ]
        rw [e1]
        show _ = (refs _).toArray
        simp [refs, hsz2]
      · by_cases e : k = j
        · subst e
          rw [hlj] at e2
          cases e2
          rw [← hsz2]
          exact ⟨_, Heap.get?_push_size _ rfl, rfl, rfl⟩
        · obtain ⟨o2, ho2, q2⟩ := hit k l2 (by omega) e2
          exact ⟨o2, Heap.get?_push_of_some _ ho2, q2⟩
      · rw [Heap.size_push, hsz2]
        rfl
    · rintro b s' ⟨j, h', rfl, hrest, hj, rfl, hit, hsz2, hk⟩
      have hjn : j = ls.length := by
        have := congrArg List.length hrest
        simp [refs] at this
        omega
      subst hjn
      refine wpAny_pure ?_
      have hN : (refs (newIts hp.objs.size ls.length)).length = ls.length := by simp [refs, newIts]
      have sl : ls.length ≤ sizeLine := Nat.le_trans hsz (by decide)
      refine wpAny_bind (wpAny_newTuple ?_ (by show (refs _).length ≤ _; rw [hN]; exact sl))
      refine wpAny_bind (wpAny_newTuple ?_ (by show (List.map _ (refs _)).length ≤ _; rw [List.length_map, hN]; exact sl))
      refine wpAny_bind ?_
      unfold Builtin.SmallTypes.newRecord
      refine wpAny_newObj_type ?_ (Nat.le_trans (show 5 ≤ 5 from Nat.le_refl _) (by decide) : (5 : Nat) ≤ sizeLine + 2)
      refine wpAny_pure ?_
      have z2 : (h'.push { cls := .type "tuple", data := .seq (refs (newIts hp.objs.size ls.length)).toArray }).objs.size = hp.objs.size + ls.length + 1 := by rw [Heap.size_push, hsz2]
      have z3 : ((h'.push { cls := .type "tuple", data := .seq (refs (newIts hp.objs.size ls.length)).toArray }).push { cls := .type "tuple", data := .seq (List.map (fun _ => Value.none) (refs (newIts hp.objs.size ls.length))).toArray }).objs.size = hp.objs.size + ls.length + 2 := by rw [Heap.size_push, z2]
      refine ⟨_, rfl, ?_⟩
      show R (.ok (.ret (.ref ((h'.push { cls := .type "tuple", data := .seq (refs (newIts hp.objs.size ls.length)).toArray }).push { cls := .type "tuple", data := .seq (List.map (fun _ => Value.none) (refs (newIts hp.objs.size ls.length))).toArray }).objs.size)))
        ⟨((h'.push { cls := .type "tuple", data := .seq (refs (newIts hp.objs.size ls.length)).toArray }).push { cls := .type "tuple", data := .seq (List.map (fun _ => Value.none) (refs (newIts hp.objs.size ls.length))).toArray }).push
          { cls := .type "zip", data := .fields #[.none, .bool false, .bool false, .ref h'.objs.size, .ref (h'.push { cls := .type "tuple", data := .seq (refs (newIts hp.objs.size ls.length)).toArray }).objs.size] }, g, d, tk, os⟩
      have g1 : (h'.push { cls := .type "tuple", data := .seq (refs (newIts hp.objs.size ls.length)).toArray }).get? h'.objs.size = some { cls := .type "tuple", data := .seq (refs (newIts hp.objs.size ls.length)).toArray } := Heap.get?_push_size _ rfl
      have g2 := Heap.get?_push_size (h'.push { cls := .type "tuple", data := .seq (refs (newIts hp.objs.size ls.length)).toArray }) (o := { cls := .type "tuple", data := .seq (List.map (fun _ => Value.none) (refs (newIts hp.objs.size ls.length))).toArray }) rfl
      have g3 := Heap.get?_push_size ((h'.push { cls := .type "tuple", data := .seq (refs (newIts hp.objs.size ls.length)).toArray }).push { cls := .type "tuple", data := .seq (List.map (fun _ => Value.none) (refs (newIts hp.objs.size ls.length))).toArray })
        (o := { cls := .type "zip", data := .fields #[.none, .bool false, .bool false, .ref h'.objs.size, .ref (h'.push { cls := .type "tuple", data := .seq (refs (newIts hp.objs.size ls.length)).toArray }).objs.size] }) rfl
      rw [z3] at g3 ⊢
      rw [z2] at g2
      rw [hsz2] at g1
      refine h _ ⟨?_, fun k a l r e1 e2 e3 => ?_, .inl ⟨?_, rfl, (List.map (fun _ => Value.none) (refs (newIts hp.objs.size ls.length))).toArray, ?_, ?_⟩⟩ ?_ ?_
      · exact Heap.get?_push_of_some _ (Heap.get?_push_of_some _ g1)
      · have hk2 : k < ls.length := (List.getElem?_eq_some_iff.mp e2).1
        have ea : a = hp.objs.size + k := by
          have e4 : (newIts hp.objs.size ls.length)[k]? = some (hp.objs.size + k) := by simp [newIts, hk2]
          have e1' : (newIts hp.objs.size ls.length)[k]? = some a := e1
          rw [e4] at e1'
          cases e1'
          rfl
        subst ea
        obtain ⟨o, ho, q⟩ := hit k l hk2 e2
        obtain ⟨o2, ho2, q2⟩ := hl k l r e2 e3
        exact ⟨⟨o, Heap.get?_push_of_some _ (Heap.get?_push_of_some _ (Heap.get?_push_of_some _ ho)), q⟩, o2, Heap.get?_push_of_some _ (Heap.get?_push_of_some _ (Heap.get?_push_of_some _ (hk _ _ ho2))), q2⟩
      · show IsZip _ (hp.objs.size + ls.length + 2) (hp.objs.size + ls.length) (hp.objs.size + ls.length + 1) .none
        rw [z2, hsz2] at g3
        show Heap.get? _ _ = _
        rw [z2, hsz2]
        exact g3
      · exact Heap.get?_push_of_some _ g2
      · simp [refs]
      · rw [Heap.size_push, z3]
      · exact fun b o e => Heap.get?_push_of_some _ (Heap.get?_push_of_some _ (Heap.get?_push_of_some _ (hk b o e)))
    · exact ⟨0, hp, by simp [newIts, refs], rfl, Nat.zero_le _, rfl, fun k l h => absurd h (Nat.not_lt_zero _), rfl, fun _ _ e => e⟩
theorem newIts_ap {n0 : Nat} {ls : List Addr} (hl : ∀ l ∈ ls, l < n0) : Ap (n0 + ls.length + 2) (n0 + ls.length) (n0 + ls.length + 1) (newIts n0 ls.length) ls := by
  have mem : ∀ a, a ∈ newIts n0 ls.length → n0 ≤ a ∧ a < n0 + ls.length := fun a h => by
    obtain ⟨k, hk, rfl⟩ := List.mem_map.mp h
    have := List.mem_range.mp hk
    exact ⟨Nat.le_add_right _ _, Nat.add_lt_add_left this _⟩
  refine ⟨fun z => ?_, fun z => ?_, fun z => ?_, ?_, fun z => ?_, fun z => ?_, fun z => ?_, fun l h => ⟨fun z => ?_, fun z => ?_, fun z => ?_⟩, by simp [newIts]⟩
  · exact absurd (show n0 + ls.length + 2 = n0 + ls.length + 1 from z) (by omega)
  · exact absurd (show n0 + ls.length + 2 < n0 + ls.length from (mem _ z).2) (by omega)
  · exact absurd (show n0 + ls.length + 1 < n0 + ls.length from (mem _ z).2) (by omega)
  · show List.Pairwise (· ≠ ·) ((List.range ls.length).map (n0 + ·))
    rw [List.pairwise_map]
    exact List.pairwise_lt_range.imp fun h z => absurd (Nat.add_left_cancel z) (Nat.ne_of_lt h)
  · exact absurd (show n0 + ls.length = n0 + ls.length + 2 from z) (by omega)
  · exact absurd (show n0 + ls.length = n0 + ls.length + 1 from z) (by omega)
  · exact absurd (show n0 + ls.length < n0 + ls.length from (mem _ z).2) (Nat.lt_irrefl _)
  · exact absurd (show n0 + ls.length + 2 < n0 from z ▸ hl l h) (by omega)
  · exact absurd (show n0 + ls.length + 1 < n0 from z ▸ hl l h) (by omega)
  · have h1 := hl l h
    have h2 := (mem _ z).1
    exact absurd h1 (Nat.not_lt.mpr h2)
section
variable {prog : Program} {w : World} {A : Around} {E : Value → Shared → Prop} {s : Shared}
theorem call_zip {ls : List Addr} {rows : List (Array Value)} {Q : Value → Shared → Prop} (h1 : 1 ≤ ls.length) (h8 : ls.length ≤ 16) (hr : rows.length = ls.length) (hl : ∀ (k : Nat) (l : Addr) (r : Array Value), ls[k]? = some l → rows[k]? = some r → s.heap.IsTuple l r)
    (h : ∀ h', ZSt (s.heap.objs.size + ls.length + 2) (s.heap.objs.size + ls.length) (s.heap.objs.size + ls.length + 1) (newIts s.heap.objs.size ls.length) ls rows h' 0 → h'.objs.size = s.heap.objs.size + ls.length + 3 → (∀ b o, s.heap.get? b = some o → h'.get? b = some o) →
      Q (.ref (s.heap.objs.size + ls.length + 2)) { s with heap := h' }) : wpAny (model prog w) A (call (.type "zip") (refs ls)) Q E s := by
  have hlen : (refs ls).length = ls.length := by simp [refs]
  obtain ⟨a, us, e⟩ : ∃ a us, refs ls = a :: us := by
    cases q : refs ls with
    | nil => rw [q] at hlen; simp at hlen; omega
    | cons a us => exact ⟨a, us, rfl⟩
  refine callType_new F.called_zip (by decide) (typeCall _) (newCall _ (by omega) (by omega)) (fun obj => by rw [e]; exact args_init obj a us) F.entry_zip_new (meets_new ls rows hr (by omega)) ⟨hl, fun h' Z hs hk => ?_⟩
  exact ⟨Z.zip, h h' Z hs hk⟩
end
end ZN

namespace Wk
open PySem PySem.Spec PyProof.Rows L2
/-- some objects tracked at once -/
def layAll (H : Hp) (ps : List (Addr × HO)) : Hp := fun b => match ps.lookup b with
  | some o => some o
  | none => H b
theorem layAll_none {H : Hp} {ps : List (Addr × HO)} {b : Addr} (h : ps.lookup b = none) : layAll H ps b = H b := by
  unfold layAll
  rw [h]
theorem lookup_none_of {ps : List (Addr × HO)} {b : Addr} (h : ∀ p ∈ ps, p.1 ≠ b) : ps.lookup b = none := by
  induction ps with
  | nil => rfl
  | cons p ps ih =>
    obtain ⟨a, o⟩ := p
    have h1 : (b == a) = false := by
      have := h (a, o) List.mem_cons_self
      simpa using fun e : b = a => this e.symm
    rw [List.lookup_cons, h1]
    exact ih fun q hq => h q (List.mem_cons_of_mem _ hq)
theorem lookup_mem {ps : List (Addr × HO)} {b : Addr} {o : HO} (h : ps.lookup b = some o) : (b, o) ∈ ps := by
  induction ps with
  | nil => cases h
  | cons p ps ih =>
    obtain ⟨a, u⟩ := p
    rw [List.lookup_cons] at h
    cases e : b == a with
    | true =>
      rw [e] at h
      cases h
      rw [eq_of_beq e]
      exact List.mem_cons_self
    | false =>
      rw [e] at h
      exact List.mem_cons_of_mem _ (ih h)
theorem layAll_at {H : Hp} {ps : List (Addr × HO)} {b : Addr} {o : HO} (nd : (ps.map (·.1)).Nodup) (h : (b, o) ∈ ps) : layAll H ps b = some o := by
  have e : ps.lookup b = some o := by
    induction ps with
    | nil => cases h
    | cons p ps ih =>
      obtain ⟨a, u⟩ := p
      rw [List.map_cons, List.nodup_cons] at nd
      rw [List.lookup_cons]
      rcases List.mem_cons.mp h with e | m
      · cases e
        simp
      · have hne : (b == a) = false := by
          simpa using fun e : b = a => nd.1 (by rw [← e]; exact List.mem_map.mpr ⟨_, m, rfl⟩)
        rw [hne]
        exact ih nd.2 m
  unfold layAll
  rw [e]
section
variable {X : Cx} {pins : List (Addr × Obj)} {σ : L2.St} {H : Hp} {s : Shared}
/-- tuples that were laid and are tracked all at once -/
theorem inv_lays {h' : Heap} {t' : Nat} (I : Inv X pins σ H s) (ps : List (Addr × List V)) (k : ∀ b u, s.heap.get? b = some u → h'.get? b = some u) (hp : ∀ p ∈ ps, s.heap.objs.size ≤ p.1)
    (new : ∀ p ∈ ps, p.2.length ≤ sizeLine ∧ ∃ its, Vals p.2 its ∧ IsTup h' p.1 its.toArray) : Inv X pins σ (layAll H (ps.map fun p => (p.1, HO.tup p.2))) { s with heap := h', toks := t' } := by
  have fresh : ∀ {b u}, s.heap.get? b = some u → (ps.map fun p => (p.1, HO.tup p.2)).lookup b = none := fun {b u} e => lookup_none_of fun q hq z => by
    obtain ⟨p, hm, rfl⟩ := List.mem_map.mp hq
    have h1 := hp p hm
    have h2 : b < s.heap.objs.size := Heap.lt_size e
    dsimp only at z
    rw [z] at h1
    exact Nat.lt_irrefl _ (Nat.lt_of_lt_of_le h2 h1)
  have old : ∀ {b o}, H b = some o → layAll H (ps.map fun p => (p.1, HO.tup p.2)) b = some o := fun {b o} e => by
    rw [layAll_none, e]
    have hlt : b < s.heap.objs.size := (I.hok b o e).lt
    refine lookup_none_of fun q hq z => ?_
    obtain ⟨p, hm, rfl⟩ := List.mem_map.mp hq
    dsimp only at z
    have h1 := hp p hm
    rw [z] at h1
    exact Nat.lt_irrefl _ (Nat.lt_of_lt_of_le hlt h1)
  refine I.un (h' := h') (t' := t') ⟨fun b o e _ _ _ => k b o e, fun b o e _ _ _ => ⟨o.slots, k b o e⟩, fun b o e n _ => by rw [layAll_none (fresh e)]; exact n, fun b o e _ => ⟨o, k b o e⟩, fun b xs e => old e, fun b o u e => old e, fun b ps e => ⟨#[], by rw [old e]; simp⟩⟩ ?_
  intro b o e
  cases q : (ps.map fun p => (p.1, HO.tup p.2)).lookup b with
  | none =>
    rw [layAll_none q] at e
    exact (I.hok b o e).stay (fun c u _ z => k c u z) (fun _ z => old z) fun _ _ z => old z
  | some o2 =>
    have e2 : layAll H (ps.map fun p => (p.1, HO.tup p.2)) b = some o2 := by
      unfold layAll
      rw [q]
    rw [e2] at e
    cases e
    obtain ⟨p, hm, ep⟩ := List.mem_map.mp (lookup_mem q)
    cases ep
    exact new p hm
end
theorem same_lays {X : Cx} {pins : List (Addr × Obj)} {σ : L2.St} {H : Hp} {s : Shared} (I : Inv X pins σ H s) (ps : List (Addr × List V)) (hp : ∀ p ∈ ps, s.heap.objs.size ≤ p.1) : Same H (layAll H (ps.map fun p => (p.1, HO.tup p.2))) := fun b o e => by
  rw [layAll_none, e]
  have hlt : b < s.heap.objs.size := (I.hok b o e).lt
  refine lookup_none_of fun q hq z => ?_
  obtain ⟨p, hm, rfl⟩ := List.mem_map.mp hq
  dsimp only at z
  have h1 := hp p hm
  rw [z] at h1
  exact Nat.lt_irrefl _ (Nat.lt_of_lt_of_le hlt h1)
theorem vals_getD : ∀ {r : List V} {v : List Value} (j : Nat), Vals r v → RelV (r.getD j .non) (v.getD j .none)
  | _, _, _, .nil => by simp; rfl
  | _, _, 0, .cons a _ => a
  | _, _, j + 1, .cons _ b => vals_getD j b
theorem vals_col (j : Nat) : ∀ (rows : List (List V)) (rws : List (List Value)), rows.length = rws.length → (∀ (k : Nat) (r : List V) (v : List Value), rows[k]? = some r → rws[k]? = some v → Vals r v) → Vals (rows.map fun r => r.getD j .non) (rws.map fun r => r.getD j .none)
  | [], [], _, _ => .nil
  | [], _ :: _, h, _ => by simp at h
  | _ :: _, [], h, _ => by simp at h
  | r :: rows, v :: rws, h, hv => .cons (vals_getD j (hv 0 r v rfl rfl)) (vals_col j rows rws (by simpa using h) fun k r' v' e1 e2 => hv (k + 1) r' v' (by simpa using e1) (by simpa using e2))
/-- tuple(zip(*e)), e a tuple of tuples of one size -/
def tTrn (K : PySem.W.Frag) (te : TE) : TE := fun σ H Q => te σ H fun x H1 => ∃ (a : Addr) (ls : List Addr) (rows : List (List V)) (n : Nat), x = .ref a ∧ (SqT K H1 a (ls.map V.ref) ∨ SqL K H1 a (ls.map V.ref)) ∧ rows.length = ls.length ∧ 1 ≤ ls.length ∧ ls.length ≤ 16 ∧ 0 ≤ n ∧ n ≤ 1000 ∧
  (∀ (k : Nat) (l : Addr) (r : List V), ls[k]? = some l → rows[k]? = some r → SqT K H1 l r ∧ r.length = n) ∧
  ∀ (as : List Addr) (p : Addr) (H2 : Hp), Same H1 H2 → as.length = n → H2 p = some (.tup (as.map V.ref)) → (∀ (j : Nat) (b : Addr), as[j]? = some b → H2 b = some (.tup (rows.map fun r => r.getD j .non))) → Q (.ref p) H2
theorem vals_refs : ∀ {ls : List Addr} {us : List Value}, Vals (ls.map V.ref) us → us = ZN.refs ls
  | [], _, .nil => rfl
  | l :: ls, _, .cons r rr => by
    obtain rfl : _ = Value.ref l := r
    show _ :: _ = Value.ref l :: ZN.refs ls
    rw [vals_refs rr]
theorem refs_vals : ∀ ls : List Addr, Vals (ls.map V.ref) (ZN.refs ls)
  | [] => .nil
  | l :: ls => .cons rfl (refs_vals ls)
section
variable {X : Cx} {pins : List (Addr × Obj)} {σ : L2.St} {H : Hp} {s : Shared}
theorem rows_read (I : Inv X pins σ H s) : ∀ (ls : List Addr) (rows : List (List V)), rows.length = ls.length → (∀ (k : Nat) (l : Addr) (r : List V), ls[k]? = some l → rows[k]? = some r → SqT X.K H l r) →
    ∃ rws : List (List Value), rws.length = ls.length ∧ ∀ (k : Nat) (l : Addr) (r : List V) (v : List Value), ls[k]? = some l → rows[k]? = some r → rws[k]? = some v → Vals r v ∧ IsTup s.heap l v.toArray
  | [], _, _, _ => ⟨[], rfl, fun k l r v e => by simp at e⟩
  | l :: ls, [], h, _ => by simp at h
  | l :: ls, r :: rows, h, hs => by
    obtain ⟨rws, h1, h2⟩ := rows_read I ls rows (by simpa using h) fun k l' r' e1 e2 => hs (k + 1) l' r' (by simpa using e1) (by simpa using e2)
    obtain ⟨its, rv, pl, _⟩ := I.tuple (hs 0 l r rfl rfl)
    refine ⟨its :: rws, by simp [h1], fun k l' r' v e1 e2 e3 => ?_⟩
    cases k with
    | zero =>
      cases e1
      cases e2
      cases e3
      exact ⟨rv, pl⟩
    | succ k => exact h2 k l' r' v (by simpa using e1) (by simpa using e2) (by simpa using e3)
end
section
variable {X : Cx} {e : Expr} {te : TE} {x y : Str} {p1 p2 p3 pos pos2 : Pos}
theorem pe_trn (hc : X.calm = true) (hgT : Gl X "tuple") (hmT : X.mg "tuple" = none) (hgZ : Gl X "zip") (hmZ : X.mg "zip" = none) (he : PE X e te)
    (hst : starEach [.Starred e p3] X.env = [(true, eval e X.env)] := by rfl)
    (na : starEach [.Call (.Name "zip" p2) [.Starred e p3] [] pos2] X.env = (false, eval (.Call (.Name "zip" p2) [.Starred e p3] [] pos2) X.env) :: starEach [] X.env := by rfl) :
    PE X (.Call (.Name "tuple" p1) [.Call (.Name "zip" p2) [.Starred e p3] [] pos2] [] pos) (tTrn X.K te) := by
  refine ⟨fun pins s σ H Q I h => ?_⟩
  refine wpAny_Call_Name_kw (ld_blt I hgT hmT PyProof.Rows.Boot.«tuple» ?_ (by decide) (by decide))
  refine PyProof.Rows.callWith_type1 (args_cons (Q := fun us s1 => wpAny (model X.prog X.w) X.A (call (.type "tuple") us) (EP X pins σ Q) X.xe s1) ?_ na) na rfl
  refine wpAny_Call_Name_kw (ld_blt I hgZ hmZ PyProof.Rows.Boot.«zip» ?_ (by decide) (by decide))
  rw [hst]
  refine PySem.W.ks_call (P := fun _ => True) rfl (fun _ _ => ⟨.machine, .inr (.inl rfl), PySem.W.Looks.of_pure rfl⟩) (PySem.W.ks_lone (thn (he.run pins s σ H _ I h) fun v s1 ⟨x, H1, I1, r1, a, ls, rows, n, ex, hs, hr, h1, h8, hn1, hn2, hrow, q⟩ => ?_))
  subst ex
  obtain rfl : v = Value.ref a := r1
  refine StX.star_any I1 hs fun us s2 I2 rv => ⟨trivial, ?_⟩
  rw [vals_refs rv]
  obtain ⟨rws, hrl, hrw⟩ := rows_read I2 ls rows hr (fun k l r e1 e2 => (hrow k l r e1 e2).1)
  have hlt : ∀ l ∈ ls, l < s2.heap.objs.size := fun l hl => by
    obtain ⟨k, hk⟩ := List.mem_iff_getElem?.mp hl
    have hkl := (List.getElem?_eq_some_iff.mp hk).1
    obtain ⟨_, o, ho, _⟩ := hrw k l _ _ hk (List.getElem?_eq_getElem (by omega)) (List.getElem?_eq_getElem (by omega))
    exact Heap.lt_size ho
  have hArr : ∀ (k : Nat) (l : Addr) (r : Array Value), ls[k]? = some l → (rws.map List.toArray)[k]? = some r → s2.heap.IsTuple l r := fun k l r e1 e2 => by
    rw [List.getElem?_map] at e2
    cases e3 : rws[k]? with
    | none => rw [e3] at e2; cases e2
    | some v =>
      rw [e3] at e2
      cases e2
      have hkl := (List.getElem?_eq_some_iff.mp e1).1
      exact (hrw k l _ v e1 (List.getElem?_eq_getElem (by omega)) e3).2
  refine ZN.call_zip h1 h8 (by rw [List.length_map]; exact hrl) hArr fun h' Z hsz hk => ?_
  have hh := I.ok.hd hc
  refine args_nil ?_
  have D := ZN.newIts_ap hlt
  have hne : ZN.newIts s2.heap.objs.size ls.length ≠ [] := fun z => by
    have := congrArg List.length z
    rw [show (ZN.newIts s2.heap.objs.size ls.length).length = ls.length by simp [ZN.newIts]] at this
    rw [this] at h1
    exact Nat.not_succ_le_zero _ h1
  have hNl : (ZN.newIts s2.heap.objs.size ls.length).length = ls.length := by simp [ZN.newIts]
  have hwid : ∀ (k : Nat) (v : List Value), rws[k]? = some v → v.length = n := fun k v e3 => by
    have hkr := (List.getElem?_eq_some_iff.mp e3).1
    have e1 : ls[k]? = some (ls[k]'(by omega)) := List.getElem?_eq_getElem (by omega)
    have e2 : rows[k]? = some (rows[k]'(by omega)) := List.getElem?_eq_getElem (by omega)
    rw [← (hrw k _ _ v e1 e2 e3).1.length]
    exact (hrow k _ _ e1 e2).2
  refine ZN.call_tuple (n := n) (cols := fun i => rws.map fun r => r.getD i .none) hh D hne (by rw [List.length_map, hNl]; exact hrl) hn2 (by rw [hNl]; omega) ?_ ?_ Z ?_ fun h'' as hal hk2 G => ?_
  · intro r hr2
    obtain ⟨v, hv, rfl⟩ := List.mem_map.mp hr2
    obtain ⟨k, hk3⟩ := List.mem_iff_getElem?.mp hv
    rw [List.size_toArray]
    exact hwid k v hk3
  · intro i hi
    refine ⟨by rw [List.length_map, hNl]; exact hrl, fun k r v e1 e2 => ?_⟩
    rw [List.getElem?_map] at e1 e2
    cases e3 : rws[k]? with
    | none => rw [e3] at e1; cases e1
    | some u =>
      rw [e3] at e1 e2
      cases e1
      cases e2
      have hul := hwid k u e3
      show u.toArray[i]? = some (u.getD i .none)
      rw [List.getElem?_toArray, List.getD_eq_getElem?_getD, List.getElem?_eq_getElem (by omega)]
      rfl
  · intro b hb
    show b < h'.objs.size
    rw [hsz]
    simp only [List.mem_cons] at hb
    rcases hb with rfl | rfl | hb
    · exact Nat.lt_succ_self _
    · exact Nat.lt_of_lt_of_le (Nat.lt_succ_self _) (Nat.le_succ _)
    · obtain ⟨k, hk3, rfl⟩ := List.mem_map.mp hb
      have := List.mem_range.mp hk3
      exact Nat.lt_of_lt_of_le (Nat.add_lt_add_left this _) (Nat.le_add_right _ 3)
  · have hall : ∀ b o, s2.heap.get? b = some o → h''.get? b = some o := fun b o e => hk2 b o (fun z => by
      have hbl : b < s2.heap.objs.size := Heap.lt_size e
      simp only [List.mem_cons] at z
      rcases z with rfl | rfl | z
      · exact absurd hbl (Nat.not_lt.mpr (Nat.le_trans (Nat.le_add_right _ _) (Nat.le_add_right _ _)))
      · exact absurd hbl (Nat.not_lt.mpr (Nat.le_trans (Nat.le_add_right _ _) (Nat.le_add_right _ _)))
      · obtain ⟨k, _, rfl⟩ := List.mem_map.mp z
        exact absurd hbl (Nat.not_lt.mpr (Nat.le_add_right _ _))) (hk b o e)
    have hlo : s2.heap.objs.size ≤ h'.objs.size := by
      rw [hsz]
      exact Nat.le_trans (Nat.le_add_right _ _) (Nat.le_add_right _ _)
    have hlo2 : ∀ a ∈ as, s2.heap.objs.size ≤ a ∧ a < h''.objs.size := fun a m => ⟨Nat.le_trans hlo (G.lo_ a m).1, (G.lo_ a m).2⟩
    -- what is tracked from now on
    obtain ⟨col, hcol⟩ : ∃ col : Nat → List V, col = fun j => rows.map fun r => r.getD j .non := ⟨_, rfl⟩
    obtain ⟨ps, hps⟩ : ∃ ps : List (Addr × List V), ps = (h''.objs.size, as.map V.ref) :: as.zipIdx.map fun q => (q.1, col q.2) := ⟨_, rfl⟩
    have hnew : ∀ p ∈ ps, s2.heap.objs.size ≤ p.1 := fun p hp => by
      rw [hps] at hp
      rcases List.mem_cons.mp hp with rfl | hp
      · refine Nat.le_trans ?_ (Nat.le_of_lt (Heap.lt_size (hk2 _ _ (fun z => ?_) Z.ti)))
        · first | exact Nat.le_add_right _ _ | exact Nat.le_trans (Nat.le_add_right _ _) (Nat.le_add_right _ _)
        · simp only [List.mem_cons] at z
          rcases z with z | z | z
          · exact D.Iz z
          · exact D.IO z
          · exact D.Ii z
      · obtain ⟨q2, hq2, rfl⟩ := List.mem_map.mp hp
        exact (hlo2 _ (List.fst_mem_of_mem_zipIdx hq2)).1
    have hmem : ∀ (j : Nat) (b : Addr), as[j]? = some b → (b, col j) ∈ ps := fun j b e => by
      rw [hps]
      refine List.mem_cons_of_mem _ (List.mem_map.mpr ⟨(b, j), ?_, rfl⟩)
      exact List.mem_zipIdx_iff_getElem?.mpr e
    have hnd : (ps.map (·.1)).Nodup := by
      rw [hps, List.map_cons, List.map_map]
      have e : (as.zipIdx.map ((fun p : Addr × List V => p.1) ∘ fun q => (q.1, col q.2))) = as := by
        rw [show ((fun p : Addr × List V => p.1) ∘ fun q : Addr × Nat => (q.1, col q.2)) = Prod.fst from rfl]
        exact List.zipIdx_map_fst 0 as
      rw [e, List.nodup_cons]
      exact ⟨fun z => Nat.lt_irrefl _ (hlo2 _ z).2, G.up.imp fun h => Nat.ne_of_lt h⟩
    have hread : ∀ p ∈ ps, p.2.length ≤ sizeLine ∧ ∃ its, Vals p.2 its ∧ IsTup (h''.push { cls := .type "tuple", data := .seq (ZN.refs as).toArray }) p.1 its.toArray := fun p hp => by
      rw [hps] at hp
      rcases List.mem_cons.mp hp with rfl | hp
      · exact ⟨by show (as.map V.ref).length ≤ _; rw [List.length_map, hal]; exact Nat.le_trans hn2 (by decide), ZN.refs as, refs_vals as, _, Heap.get?_push_size _ rfl, rfl, _, rfl⟩
      · obtain ⟨⟨b, j⟩, hq2, rfl⟩ := List.mem_map.mp hp
        have hj := List.mem_zipIdx_iff_getElem?.mp hq2
        refine ⟨by show (col j).length ≤ _; rw [hcol, List.length_map, hr]; exact Nat.le_trans h8 (by decide), rws.map fun r => r.getD j .none, ?_, _, Heap.get?_push_of_some _ (G.at_ j b hj), rfl, _, rfl⟩
        show Vals (col j) _
        rw [hcol]
        exact vals_col j rows rws (by omega) fun k r v e2 e3 => by
          have hkr := (List.getElem?_eq_some_iff.mp e3).1
          exact (hrw k _ r v (List.getElem?_eq_getElem (by omega)) e2 e3).1
    have hk4 : ∀ b o, s2.heap.get? b = some o → (h''.push { cls := .type "tuple", data := .seq (ZN.refs as).toArray }).get? b = some o := fun b o e => Heap.get?_push_of_some _ (hall b o e)
    have Ifin := inv_lays (t' := s2.toks) I2 ps hk4 hnew hread
    have hnd2 : ((ps.map fun p => (p.1, HO.tup p.2)).map (·.1)).Nodup := by
      rw [List.map_map]
      exact hnd
    refine ⟨.ref h''.objs.size, _, Ifin, rfl, q as h''.objs.size _ (same_lays I2 ps hnew) hal ?_ fun j b e => ?_⟩
    · exact layAll_at hnd2 (List.mem_map.mpr ⟨(h''.objs.size, as.map V.ref), by rw [hps]; exact List.mem_cons_self, rfl⟩)
    · have := layAll_at (H := H1) hnd2 (List.mem_map.mpr ⟨(b, col j), hmem j b e, rfl⟩)
      rw [this, hcol]
end
end Wk

/-! for a, b in zip(xs, ys), each of both a tuple or a list -/
namespace ZM
open PySem PySem.Spec PyProof.Rows L2
open PySem.Sem (wp)
def Pos : Bool → Heap → Addr → Addr → Nat → Prop
  | true, h, a, l, i => h.IsTupleIter a l i
  | false, h, a, l, i => h.IsListIter a l i
def Row : Bool → Heap → Addr → Array Value → Prop
  | true, h, l, r => h.IsTuple l r
  | false, h, l, r => h.IsList l r
theorem Pos.to {k : Bool} {h h' : Heap} {a l : Addr} {i : Nat} (p : Pos k h a l i) (e : ∀ o, h.get? a = some o → h'.get? a = some o) : Pos k h' a l i := by
  cases k
  · obtain ⟨o, ho, r⟩ := p
    exact ⟨o, e _ ho, r⟩
  · obtain ⟨o, ho, r⟩ := p
    exact ⟨o, e _ ho, r⟩
theorem Row.to {k : Bool} {h h' : Heap} {l : Addr} {r : Array Value} (p : Row k h l r) (e : ∀ o, h.get? l = some o → h'.get? l = some o) : Row k h' l r := by
  cases k
  · obtain ⟨o, ho, r⟩ := p
    exact ⟨o, e _ ho, r⟩
  · obtain ⟨o, ho, r⟩ := p
    exact ⟨o, e _ ho, r⟩
theorem Pos.obj {k : Bool} {h : Heap} {a l : Addr} {i : Nat} (p : Pos k h a l i) : ∃ o, h.get? a = some o ∧ ∀ v, o.data ≠ .cell v := by
  cases k <;>
  · obtain ⟨o, ho, _, d⟩ := p
    exact ⟨o, ho, fun v q => by rw [d] at q; cases q⟩
theorem Row.lt {k : Bool} {h : Heap} {l : Addr} {r : Array Value} (p : Row k h l r) : l < h.objs.size := by
  cases k <;>
  · obtain ⟨o, ho, _⟩ := p
    exact Heap.lt_size ho
section
variable {prog : Program} {w : World} {A : Around} {E : Value → Shared → Prop} {s : Shared}
theorem next_item {k : Bool} {a l : Addr} {i : Nat} {r : Array Value} {x : Value} {Q : Value → Shared → Prop} (p : Pos k s.heap a l i) (q : Row k s.heap l r) (hx : r[i]? = some x) (h : ∀ h', Pos k h' a l (i + 1) → Heap.SameBut a s.heap h' → Q x { s with heap := h' }) :
    wpAny (model prog w) A (Builtin.SmallTypes.nextOf (.ref a)) Q E s := by
  cases k
  · exact wpAny_nextOf_list_item p q hx h
  · exact RZ.nextOf_tuple_item p q hx h
theorem next_end {k : Bool} {a l : Addr} {i : Nat} {r : Array Value} {Q : Value → Shared → Prop} (hh : A.handled = none) (p : Pos k s.heap a l i) (q : Row k s.heap l r) (hx : r[i]? = none) (h : ∀ h' e, Heap.ExtBut a s.heap h' → (∃ o, h'.get? e = some o ∧ o.cls = .type "StopIteration") → E (.ref e) { s with heap := h' }) :
    wpAny (model prog w) A (Builtin.SmallTypes.nextOf (.ref a)) Q E s := by
  cases k
  · exact wpAny_nextOf_list_end hh p q hx h
  · exact RZ.nextOf_tuple_end hh p q hx h
/-- a new iterator -/
theorem iter_new {k : Bool} {l : Addr} {r : Array Value} {Q : Value → Shared → Prop} (q : Row k s.heap l r) (h : ∀ h', Pos k h' s.heap.objs.size l 0 → h'.objs.size = s.heap.objs.size + 1 → (∀ b o, s.heap.get? b = some o → h'.get? b = some o) → Q (.ref s.heap.objs.size) { s with heap := h' }) :
    wpAny (model prog w) A (pyIter (.ref l)) Q E s := by
  cases k
  · exact wpAny_pyIter_list q (h _ ⟨_, Heap.get?_push_size _ rfl, rfl, rfl⟩ (Heap.size_push ..) fun b o e => Heap.get?_push_of_some _ e)
  · exact wpAny_pyIter_tuple q (h _ ⟨_, Heap.get?_push_size _ rfl, rfl, rfl⟩ (Heap.size_push ..) fun b o e => Heap.get?_push_of_some _ e)
/-- where a two-armed zip stands -/
structure Two (z TI TO i1 i2 l1 l2 : Addr) (k1 k2 : Bool) (n : Nat) (h : Heap) : Prop where
  hz : IsZip h z TI TO .none
  ti : IsPair h TI (.ref i1) (.ref i2)
  to : ∃ x y, IsPair h TO x y
  p1 : Pos k1 h i1 l1 n
  p2 : Pos k2 h i2 l2 n
theorem Two.keep {z TI TO i1 i2 l1 l2 : Addr} {k1 k2 : Bool} {n : Nat} {h h' : Heap} (t : Two z TI TO i1 i2 l1 l2 k1 k2 n h) (k : ∀ c ∈ [z, TI, TO, i1, i2], ∀ o, h.get? c = some o → h'.get? c = some o) : Two z TI TO i1 i2 l1 l2 k1 k2 n h' := by
  obtain ⟨x, y, e⟩ := t.to
  exact ⟨k z (by simp) _ t.hz, k TI (by simp) _ t.ti, ⟨x, y, k TO (by simp) _ e⟩, t.p1.to (k i1 (by simp)), t.p2.to (k i2 (by simp))⟩
/-- one pair is handed out -/
theorem two_item {z TI TO i1 i2 l1 l2 : Addr} {k1 k2 : Bool} {n : Nat} {xs ys : Array Value} {x y : Value} {Q : Value → Shared → Prop} (D : ZipApart z TI TO i1 i2 l1 l2) (t : Two z TI TO i1 i2 l1 l2 k1 k2 n s.heap)
    (q1 : Row k1 s.heap l1 xs) (q2 : Row k2 s.heap l2 ys) (hx : xs[n]? = some x) (hy : ys[n]? = some y)
    (hQ : ∀ h', IsZip h' z TI TO (rawInt s.heap.objs.size) → IsPair h' TO x y → Pos k1 h' i1 l1 (n + 1) → Pos k2 h' i2 l2 (n + 1) → IsPair h' s.heap.objs.size x y → h'.objs.size = s.heap.objs.size + 1 →
      (∀ c o, c ≠ z → c ≠ TO → c ≠ i1 → c ≠ i2 → s.heap.get? c = some o → h'.get? c = some o) → Q (.ref s.heap.objs.size) { s with heap := h' }) :
    wpAny (model prog w) A (Builtin.«zip.__next__» ⟨[.ref z], []⟩) (fun fin s' => ∃ v, fin = .done (.ret v) ∧ Q v s') E s := by
  obtain ⟨hz, hTI, ⟨a, b, hTO⟩, p1, p2⟩ := t
  show wpAny _ _ (field (.ref z) 2 >>= _) _ _ _
  refine wpAny_bind (wpAny_field hz rfl (x := .bool false) rfl ?_)
  show wpAny _ _ (field (.ref z) 3 >>= _) _ _ _
  refine wpAny_bind (wpAny_field hz rfl (x := .ref TI) rfl (wpAny_bind (wpAny_seqItems hTI rfl ?_)))
  show wpAny _ _ (Builtin.SmallTypes.ownedTupleIsFree (.ref z) >>= _) _ _ _
  refine wpAny_bind ?_
  unfold Builtin.SmallTypes.ownedTupleIsFree
  refine wpAny_bind (wpAny_field hz rfl (x := .none) rfl (wpAny_pure ?_))
  simp only [if_true]
  refine wpAny_bind (wpAny_rule (wpAny_bind (wpAny_field hz rfl (x := .ref TO) rfl ?_)))
  refine wpAny_bind (wpAny_setField_rec hz (by simp) fun hA zA sA => ?_)
  have zA : IsZip hA z TI TO .ellipsis := zA
  simp only [List.zipIdx_cons, List.zipIdx_nil, List.forIn_cons, List.forIn_nil]
  refine wpAny_bind (wpAny_bind (wpAny_bind (wpAny_onRaise ?_)))
  show wpAny _ _ (Builtin.SmallTypes.nextOf (.ref i1) >>= _) _ _ _
  refine wpAny_bind (next_item (s := { s with heap := hA }) (p1.to fun o => sA.extBut _ o D.i1z) (q1.to fun o => sA.extBut _ o D.l1z) hx fun hB pB sB => wpAny_pure ?_)
  have oB : IsPair hB TO a b := sB.extBut _ _ D.TOi1 (sA.extBut _ _ D.TOz hTO)
  refine wpAny_bind (wpAny_seqItems oB rfl (wpAny_bind (wpAny_updateSeq_pair oB fun hC oC sC => ?_)))
  have oC : IsPair hC TO x b := oC
  refine wpAny_bind (wpAny_letGo (wpAny_pure (wpAny_bind (wpAny_bind (wpAny_onRaise ?_)))))
  show wpAny _ _ (Builtin.SmallTypes.nextOf (.ref i2) >>= _) _ _ _
  refine wpAny_bind (next_item (s := { s with heap := hC }) (p2.to fun o e => sC.extBut _ _ D.TOi2.symm (sB.extBut _ _ D.i12.symm (sA.extBut _ _ D.i2z e))) (q2.to fun o e => sC.extBut _ _ D.l2TO (sB.extBut _ _ D.l2i1 (sA.extBut _ _ D.l2z e))) hy fun hD pD sD => wpAny_pure ?_)
  have oD : IsPair hD TO x b := sD.extBut _ _ D.TOi2 oC
  refine wpAny_bind (wpAny_seqItems oD rfl (wpAny_bind (wpAny_updateSeq_pair oD fun hF oF sF => ?_)))
  have oF : IsPair hF TO x y := oF
  refine wpAny_bind (wpAny_letGo (wpAny_pure (wpAny_pure ?_)))
  refine wpAny_bind (wpAny_seqItems oF rfl (wpAny_bind (wpAny_newTuple ?_)))
  have size : hF.objs.size = s.heap.objs.size := by rw [sF.1, sD.1, sC.1, sB.1, sA.1]
  have zF : IsZip hF z TI TO .ellipsis := sF.extBut _ _ D.TOz.symm (sD.extBut _ _ D.i2z.symm (sC.extBut _ _ D.TOz.symm (sB.extBut _ _ D.i1z.symm zA)))
  have kF : ∀ c o, c ≠ z → c ≠ TO → c ≠ i1 → c ≠ i2 → s.heap.get? c = some o → hF.get? c = some o := fun c o n1 n2 n3 n4 e => sF.extBut _ _ n2 (sD.extBut _ _ n4 (sC.extBut _ _ n2 (sB.extBut _ _ n3 (sA.extBut _ _ n1 e))))
  have pF1 : Pos k1 hF i1 l1 (n + 1) := pB.to fun o e => sF.extBut _ _ D.TOi1.symm (sD.extBut _ _ D.i12 (sC.extBut _ _ D.TOi1.symm e))
  have pF2 : Pos k2 hF i2 l2 (n + 1) := pD.to fun o e => sF.extBut _ _ D.TOi2.symm e
  show wpAny _ _ (Builtin.SmallTypes.ownedTupleHandOut (.ref z) (.ref hF.objs.size) >>= _) _ _ _
  refine wpAny_bind ?_
  unfold Builtin.SmallTypes.ownedTupleHandOut
  have zG : IsZip (hF.push { cls := .type "tuple", data := .seq #[x, y] }) z TI TO .ellipsis := Heap.get?_push_of_some _ zF
  refine wpAny_bind (wpAny_setField_rec zG (by simp) fun hI zI sI => ?_)
  have zI : IsZip hI z TI TO (rawInt hF.objs.size) := zI
  refine wpAny_setField_rec zI (by simp) fun hJ zJ sJ => wpAny_pure ⟨_, rfl, ?_⟩
  have zJ : IsZip hJ z TI TO (rawInt hF.objs.size) := zJ
  have zlt : z ≠ hF.objs.size := Nat.ne_of_lt (Heap.lt_size zF)
  have up : ∀ c o, c ≠ z → hF.get? c = some o → hJ.get? c = some o := fun c o n1 e => sJ.extBut _ _ n1 (sI.extBut _ _ n1 (Heap.get?_push_of_some _ e))
  have tJ : IsPair hJ hF.objs.size x y := sJ.extBut _ _ zlt.symm (sI.extBut _ _ zlt.symm (Heap.get?_push_size _ rfl))
  have nJ : hJ.objs.size = hF.objs.size + 1 := by rw [sJ.1, sI.1, Heap.size_push]
  show Q (.ref hF.objs.size) _
  rw [size] at zJ tJ nJ ⊢
  exact hQ hJ zJ (up _ _ D.TOz oF) (pF1.to fun o => up _ o D.i1z) (pF2.to fun o => up _ o D.i2z) tJ nJ fun c o n1 n2 n3 n4 e => up c o n1 (kF c o n1 n2 n3 n4 e)
/-- the shorter one is at its end -/
theorem two_end {z TI TO i1 i2 l1 l2 : Addr} {k1 k2 : Bool} {n : Nat} {xs ys : Array Value} {Q : Fin → Shared → Prop} (hh : A.handled = none) (D : ZipApart z TI TO i1 i2 l1 l2) (t : Two z TI TO i1 i2 l1 l2 k1 k2 n s.heap)
    (q1 : Row k1 s.heap l1 xs) (q2 : Row k2 s.heap l2 ys) (hend : xs[n]? = none ∨ ys[n]? = none)
    (hE : ∀ h' e, (∀ c o, c ≠ z → c ≠ TO → c ≠ i1 → c ≠ i2 → s.heap.get? c = some o → h'.get? c = some o) → (∃ o, h'.get? e = some o ∧ o.cls = .type "StopIteration") → E (.ref e) { s with heap := h' }) :
    wpAny (model prog w) A (Builtin.«zip.__next__» ⟨[.ref z], []⟩) Q E s := by
  obtain ⟨hz, hTI, ⟨a, b, hTO⟩, p1, p2⟩ := t
  show wpAny _ _ (field (.ref z) 2 >>= _) _ _ _
  refine wpAny_bind (wpAny_field hz rfl (x := .bool false) rfl ?_)
  show wpAny _ _ (field (.ref z) 3 >>= _) _ _ _
  refine wpAny_bind (wpAny_field hz rfl (x := .ref TI) rfl (wpAny_bind (wpAny_seqItems hTI rfl ?_)))
  show wpAny _ _ (Builtin.SmallTypes.ownedTupleIsFree (.ref z) >>= _) _ _ _
  refine wpAny_bind ?_
  unfold Builtin.SmallTypes.ownedTupleIsFree
  refine wpAny_bind (wpAny_field hz rfl (x := .none) rfl (wpAny_pure ?_))
  simp only [if_true]
  refine wpAny_bind (wpAny_rule (wpAny_bind (wpAny_field hz rfl (x := .ref TO) rfl ?_)))
  refine wpAny_bind (wpAny_setField_rec hz (by simp) fun hA zA sA => ?_)
  have zA : IsZip hA z TI TO .ellipsis := zA
  simp only [List.zipIdx_cons, List.zipIdx_nil, List.forIn_cons, List.forIn_nil]
  refine wpAny_bind (wpAny_bind (wpAny_bind (wpAny_onRaise ?_)))
  show wpAny _ _ (Builtin.SmallTypes.nextOf (.ref i1) >>= _) _ _ _
  have pA := p1.to fun o => sA.extBut _ o D.i1z
  have rA := q1.to fun o => sA.extBut _ o D.l1z
  cases hx : xs[n]? with
  | none =>
    refine wpAny_bind (next_end (s := { s with heap := hA }) hh pA rA hx fun hB e sB he => ?_)
    obtain ⟨oe, hoe, hce⟩ := he
    have zB : IsZip hB z TI TO .ellipsis := sB _ _ D.i1z.symm zA
    have ne : e ≠ z := fun q => by
      rw [q, zB] at hoe
      cases hoe
      simp at hce
    exact wpAny_setField_rec zB (by simp) fun hC _ sC => hE hC e (fun c o n1 _ n3 _ q => sC.extBut _ _ n1 (sB _ _ n3 (sA.extBut _ _ n1 q))) ⟨oe, sC.extBut _ _ ne hoe, hce⟩
  | some x =>
    have hy : ys[n]? = none := hend.resolve_left fun q => by rw [hx] at q; cases q
    refine wpAny_bind (next_item (s := { s with heap := hA }) pA rA hx fun hB pB sB => wpAny_pure ?_)
    have oB : IsPair hB TO a b := sB.extBut _ _ D.TOi1 (sA.extBut _ _ D.TOz hTO)
    refine wpAny_bind (wpAny_seqItems oB rfl (wpAny_bind (wpAny_updateSeq_pair oB fun hC oC sC => ?_)))
    refine wpAny_bind (wpAny_letGo (wpAny_pure (wpAny_bind (wpAny_bind (wpAny_onRaise ?_)))))
    show wpAny _ _ (Builtin.SmallTypes.nextOf (.ref i2) >>= _) _ _ _
    refine wpAny_bind (next_end (s := { s with heap := hC }) hh (p2.to fun o e => sC.extBut _ _ D.TOi2.symm (sB.extBut _ _ D.i12.symm (sA.extBut _ _ D.i2z e))) (q2.to fun o e => sC.extBut _ _ D.l2TO (sB.extBut _ _ D.l2i1 (sA.extBut _ _ D.l2z e))) hy fun hD e sD he => ?_)
    obtain ⟨oe, hoe, hce⟩ := he
    have zD : IsZip hD z TI TO .ellipsis := sD _ _ D.i2z.symm (sC.extBut _ _ D.TOz.symm (sB.extBut _ _ D.i1z.symm zA))
    have ne : e ≠ z := fun q => by
      rw [q, zD] at hoe
      cases hoe
      simp at hce
    exact wpAny_setField_rec zD (by simp) fun hF _ sF => hE hF e (fun c o n1 n2 n3 n4 q => sF.extBut _ _ n1 (sD _ _ n4 (sC.extBut _ _ n2 (sB.extBut _ _ n3 (sA.extBut _ _ n1 q))))) ⟨oe, sF.extBut _ _ ne hoe, hce⟩
theorem pull_item {z TI TO i1 i2 l1 l2 : Addr} {k1 k2 : Bool} {n : Nat} {xs ys : Array Value} {x y : Value} {Q : Option Value → Shared → Prop} (D : ZipApart z TI TO i1 i2 l1 l2) (t : Two z TI TO i1 i2 l1 l2 k1 k2 n s.heap)
    (q1 : Row k1 s.heap l1 xs) (q2 : Row k2 s.heap l2 ys) (hx : xs[n]? = some x) (hy : ys[n]? = some y)
    (hQ : ∀ h', IsZip h' z TI TO (rawInt s.heap.objs.size) → IsPair h' TO x y → Pos k1 h' i1 l1 (n + 1) → Pos k2 h' i2 l2 (n + 1) → IsPair h' s.heap.objs.size x y → h'.objs.size = s.heap.objs.size + 1 →
      (∀ c o, c ≠ z → c ≠ TO → c ≠ i1 → c ≠ i2 → s.heap.get? c = some o → h'.get? c = some o) → Q (some (.ref s.heap.objs.size)) { s with heap := h' }) : wpAny (model prog w) A (pyNext (.ref z)) Q E s := by
  have ty : s.TypeIs (.ref z) "zip" := ⟨_, t.hz, rfl⟩
  unfold pyNext
  exact wpAny_bind (wpAny_attempt (wpAny_callSpecial?_slot (name := Str.ofString "__next__") ty F.slot_zip_next (wpAny_call_entry F.slot_zip_next ty F.entry_zip_next (two_item D t q1 q2 hx hy fun h' b1 b2 b3 b4 b5 b6 b7 => wpAny_pure (hQ h' b1 b2 b3 b4 b5 b6 b7)) (F.args_zip_next_1 _))))
theorem pull_end {z TI TO i1 i2 l1 l2 : Addr} {k1 k2 : Bool} {n : Nat} {xs ys : Array Value} {Q : Option Value → Shared → Prop} (hh : A.handled = none) (D : ZipApart z TI TO i1 i2 l1 l2) (t : Two z TI TO i1 i2 l1 l2 k1 k2 n s.heap)
    (q1 : Row k1 s.heap l1 xs) (q2 : Row k2 s.heap l2 ys) (hend : xs[n]? = none ∨ ys[n]? = none)
    (hQ : ∀ h', (∀ c o, c ≠ z → c ≠ TO → c ≠ i1 → c ≠ i2 → s.heap.get? c = some o → h'.get? c = some o) → Q none { s with heap := h' }) : wpAny (model prog w) A (pyNext (.ref z)) Q E s := by
  have ty : s.TypeIs (.ref z) "zip" := ⟨_, t.hz, rfl⟩
  unfold pyNext
  refine wpAny_bind (wpAny_attempt (wpAny_callSpecial?_slot (name := Str.ofString "__next__") ty F.slot_zip_next (wpAny_call_entry F.slot_zip_next ty F.entry_zip_next (two_end hh D t q1 q2 hend fun h' e hk he => ?_) (F.args_zip_next_1 _))))
  obtain ⟨o, ho, hc⟩ := he
  exact wpAny_bind (wpAny_isInstance (T := "StopIteration") (b := true) ⟨o, ho, hc⟩ isSubtype_stop (wpAny_pure (hQ _ hk)))
end
end ZM

namespace ZM
open PySem PySem.Spec PyProof.Rows L2
open PySem.Sem (wp)
def itO (k : Bool) (l : Addr) : Obj := { cls := .type (if k then "tuple_iterator" else "list_iterator"), data := .fields #[.ref l, .int 0 0] }
theorem iter_c {prog : Program} {w : World} {A : Around} {E : Value → Shared → Prop} {s : Shared} {k : Bool} {l : Addr} {r : Array Value} {Q : Value → Shared → Prop} (q : Row k s.heap l r) (h : Q (.ref s.heap.objs.size) { s with heap := s.heap.push (itO k l) }) :
    wpAny (model prog w) A (pyIter (.ref l)) Q E s := by
  cases k
  · exact wpAny_pyIter_list q h
  · exact wpAny_pyIter_tuple q h
theorem itO_pos {k : Bool} {l : Addr} {h : Heap} {a : Addr} (e : h.get? a = some (itO k l)) : Pos k h a l 0 := by
  cases k
  · exact ⟨_, e, rfl, rfl⟩
  · exact ⟨_, e, rfl, rfl⟩
abbrev hA (h : Heap) (k1 k2 : Bool) (l1 l2 : Addr) : Heap := (h.push (itO k1 l1)).push (itO k2 l2)
abbrev hB (h : Heap) (k1 k2 : Bool) (l1 l2 : Addr) : Heap := (hA h k1 k2 l1 l2).push { cls := .type "tuple", data := .seq #[.ref h.objs.size, .ref (h.push (itO k1 l1)).objs.size] }
abbrev hC (h : Heap) (k1 k2 : Bool) (l1 l2 : Addr) : Heap := (hB h k1 k2 l1 l2).push { cls := .type "tuple", data := .seq #[.none, .none] }
abbrev hD (h : Heap) (k1 k2 : Bool) (l1 l2 : Addr) : Heap := (hC h k1 k2 l1 l2).push { cls := .type "zip", data := .fields #[.none, .bool false, .bool false, .ref (hA h k1 k2 l1 l2).objs.size, .ref (hB h k1 k2 l1 l2).objs.size] }
theorem meets_two (l1 l2 : Addr) (k1 k2 : Bool) (xs ys : Array Value) :
    Meets (Builtin.«zip.__new__» ⟨[.type "zip", .ref l1, .ref l2], []⟩) (fun _ R s => Row k1 s.heap l1 xs ∧ Row k2 s.heap l2 ys ∧
      R (.ok (.ret (.ref (hC s.heap k1 k2 l1 l2).objs.size))) { s with heap := hD s.heap k1 k2 l1 l2 }) :=
  .of_wp fun prog w A R s h => by
    obtain ⟨hp, g, d, tk, os⟩ := s
    obtain ⟨q1, q2, h⟩ := h
    have hsub := sub_zip
    have r1 : Row k1 (Shared.heap ⟨hp, g, d, tk, os⟩) l1 xs := q1
    have r2 : Row k2 (Shared.heap ⟨hp.push (itO k1 l1), g, d, tk, os⟩) l2 ys := Row.to q2 fun o e => Heap.get?_push_of_some _ e
    wp_walk using iter_c r1, iter_c r2
    exact ⟨_, rfl, h⟩
section
variable {prog : Program} {w : World} {A : Around} {E : Value → Shared → Prop} {s : Shared}
theorem call_two {l1 l2 : Addr} {k1 k2 : Bool} {xs ys : Array Value} {Q : Value → Shared → Prop} (q1 : Row k1 s.heap l1 xs) (q2 : Row k2 s.heap l2 ys)
    (h : ∀ h', Two (s.heap.objs.size + 4) (s.heap.objs.size + 2) (s.heap.objs.size + 3) s.heap.objs.size (s.heap.objs.size + 1) l1 l2 k1 k2 0 h' → (∀ b o, s.heap.get? b = some o → h'.get? b = some o) → Q (.ref (s.heap.objs.size + 4)) { s with heap := h' }) :
    wpAny (model prog w) A (call (.type "zip") [.ref l1, .ref l2]) Q E s := by
  refine callType_new F.called_zip (by decide) (F.typeCall_zip_2 _ _) (F.newCall_zip_2 _ _) (fun obj => F.args_object_init_3 obj _ _) F.entry_zip_new (meets_two l1 l2 k1 k2 xs ys) ⟨q1, q2, ?_⟩
  have e1 : (s.heap.push (itO k1 l1)).objs.size = s.heap.objs.size + 1 := Heap.size_push ..
  have e2 : (hA s.heap k1 k2 l1 l2).objs.size = s.heap.objs.size + 2 := by rw [Heap.size_push, e1]
  have e3 : (hB s.heap k1 k2 l1 l2).objs.size = s.heap.objs.size + 3 := by rw [Heap.size_push, e2]
  have e4 : (hC s.heap k1 k2 l1 l2).objs.size = s.heap.objs.size + 4 := by rw [Heap.size_push, e3]
  have up4 : ∀ {b o}, (hC s.heap k1 k2 l1 l2).get? b = some o → (hD s.heap k1 k2 l1 l2).get? b = some o := fun e => Heap.get?_push_of_some _ e
  have up3 : ∀ {b o}, (hB s.heap k1 k2 l1 l2).get? b = some o → (hD s.heap k1 k2 l1 l2).get? b = some o := fun e => up4 (Heap.get?_push_of_some _ e)
  have up2 : ∀ {b o}, (hA s.heap k1 k2 l1 l2).get? b = some o → (hD s.heap k1 k2 l1 l2).get? b = some o := fun e => up3 (Heap.get?_push_of_some _ e)
  have up1 : ∀ {b o}, (s.heap.push (itO k1 l1)).get? b = some o → (hD s.heap k1 k2 l1 l2).get? b = some o := fun e => up2 (Heap.get?_push_of_some _ e)
  have g5 := Heap.get?_push_size (hC s.heap k1 k2 l1 l2) (o := { cls := .type "zip", data := .fields #[.none, .bool false, .bool false, .ref (hA s.heap k1 k2 l1 l2).objs.size, .ref (hB s.heap k1 k2 l1 l2).objs.size] }) rfl
  have g4 := up4 (Heap.get?_push_size (hB s.heap k1 k2 l1 l2) (o := { cls := .type "tuple", data := .seq #[.none, .none] }) rfl)
  have g3 := up3 (Heap.get?_push_size (hA s.heap k1 k2 l1 l2) (o := { cls := .type "tuple", data := .seq #[.ref s.heap.objs.size, .ref (s.heap.push (itO k1 l1)).objs.size] }) rfl)
  have g2 := up2 (Heap.get?_push_size (s.heap.push (itO k1 l1)) (o := itO k2 l2) rfl)
  have g1 := up1 (Heap.get?_push_size s.heap (o := itO k1 l1) rfl)
  show _ ∧ _
  rw [e4] at g5 ⊢
  rw [e3] at g4
  rw [e2] at g3
  rw [e1] at g2
  refine ⟨⟨_, g5, rfl⟩, h _ ⟨?_, ?_, ⟨_, _, g4⟩, itO_pos g1, itO_pos g2⟩ fun b o e => up1 (Heap.get?_push_of_some _ e)⟩
  · show Heap.get? _ _ = _
    rw [g5, e2, e3]
  · show Heap.get? _ _ = _
    rw [g3, e1]
end
/-- the sequences at a and b, each of its kind -/
def SqK (t : Bool) (K : PySem.W.Frag) (H : Hp) (a : Addr) (xs : List V) : Prop := if t = true then SqT K H a xs else SqL K H a xs
theorem SqK.row {t : Bool} {X : Cx} {pins : List (Addr × Obj)} {σ : L2.St} {H : Hp} {s : Shared} {a : Addr} {xs : List V} (I : Inv X pins σ H s) (q : SqK t X.K H a xs) : ∃ its, Vals xs its ∧ Row t s.heap a its.toArray := by
  cases t
  · obtain ⟨its, rv, p, _⟩ := I.list q
    exact ⟨its, rv, p.isList⟩
  · obtain ⟨its, rv, p, _⟩ := I.tuple q
    exact ⟨its, rv, p⟩
theorem SqK.inj {t : Bool} {X : Cx} {pins : List (Addr × Obj)} {σ : L2.St} {H : Hp} {s : Shared} {a : Addr} {xs ys : List V} (I : Inv X pins σ H s) (q : SqK t X.K H a xs) (r : SqK t X.K H a ys) : xs = ys := by
  cases t
  · exact I.list_inj q r
  · exact I.tuple_inj q r
def It2 (t u : Bool) (K : PySem.W.Frag) (a b : Addr) : It :=
  ⟨fun i H => ∃ (xs ys : List V) (x y : V), SqK t K H a xs ∧ SqK u K H b ys ∧ xs[i]? = some x ∧ ys[i]? = some y,
    fun i H v H' => ∃ T x y, v = .ref T ∧ H T = none ∧ H' = upd H T (.tup [x, y]) ∧ (∀ xs, SqK t K H a xs → xs[i]? = some x) ∧ ∀ ys, SqK u K H b ys → ys[i]? = some y,
    fun i H => ∃ xs ys : List V, SqK t K H a xs ∧ SqK u K H b ys ∧ (xs.length ≤ i ∨ ys.length ≤ i)⟩
theorem turn_two {P : Program} {w : World} {K : PySem.W.Frag} {elts : List Expr} {kk : Nat} {tpos : PySem.Pos} {t u : Bool} {a b z TI TO i1 i2 : Addr} (D : ZipApart z TI TO i1 i2 a b) :
    Turn P w K (.Tuple elts kk tpos) (It2 t u K a b) [z, TI, TO, i1, i2] z (fun i h => Two z TI TO i1 i2 a b t u i h) where
  mem := by simp
  obj := fun i h st c hc => by
    obtain ⟨x, y, hTO⟩ := st.to
    have e' : c = z ∨ c = TI ∨ c = TO ∨ c = i1 ∨ c = i2 := by simpa using hc
    rcases e' with rfl | rfl | rfl | rfl | rfl
    · exact ⟨_, st.hz, fun v q => nomatch q⟩
    · exact ⟨_, st.ti, fun v q => nomatch q⟩
    · exact ⟨_, hTO, fun v q => nomatch q⟩
    · exact st.p1.obj
    · exact st.p2.obj
  keep := fun i h h' st k => st.keep k
  item := by
    intro X hP hw hK hc i pins s σ H E I hf st hg
    subst hP hw hK
    obtain ⟨xs, ys, x, y, hqx, hqy, hx, hy⟩ := hg
    obtain ⟨its, rv, p⟩ := SqK.row I hqx
    obtain ⟨its2, rv2, p2⟩ := SqK.row I hqy
    obtain ⟨v1, hu, ru⟩ := rv.get hx
    obtain ⟨v2, hu2, ru2⟩ := rv2.get hy
    have zlt : z < s.heap.objs.size := Heap.lt_size st.hz
    refine pull_item D st p p2 (x := v1) (y := v2) (by simpa using hu) (by simpa using hu2) fun h' z' TO' h1' h2' hT hsz hk => ?_
    refine ⟨_, rfl, wpAny_letOwnedTupleGo_zip (s := { s with heap := h' }) z' fun h'' z'' sb => ?_⟩
    have hT2 : h''.get? s.heap.objs.size = some { cls := .type "tuple", data := .seq #[v1, v2] } := (sb.2 _ (Nat.ne_of_gt zlt)).trans hT
    have new : ObjOk X.prog X.w (upd H s.heap.objs.size (.tup [x, y])) h'' s.heap.objs.size (.tup [x, y]) :=
      ⟨by show 2 ≤ sizeLine; decide, [v1, v2], .cons ru (.cons ru2 .nil), ⟨_, hT2, rfl, _, rfl⟩⟩
    have I1 : Inv X pins σ (upd H s.heap.objs.size (.tup [x, y])) { s with heap := h'' } :=
      I.turnedNew (t' := s.toks) (ch := [z, TI, TO, i1, i2]) (fun c o hb q => by
        simp only [List.mem_cons, List.not_mem_nil, or_false, not_or] at hb
        exact (sb.2 c hb.1).trans (hk c o hb.1 hb.2.2.1 hb.2.2.2.1 hb.2.2.2.2 q)) hf (Nat.le_refl _) new
    refine ⟨.ref s.heap.objs.size, _, I1, rfl, ⟨_, x, y, rfl, I.hok.fresh (Nat.le_refl _), rfl, fun l hl => by rw [SqK.inj I hl hqx]; exact hx, fun l hl => by rw [SqK.inj I hl hqy]; exact hy⟩, ⟨z'', ?_, ⟨v1, v2, ?_⟩, ?_, ?_⟩, fun c hcm => ?_⟩
    · exact (sb.2 _ D.TIz).trans (hk _ _ D.TIz D.TITO D.TIi1 D.TIi2 st.ti)
    · exact (sb.2 _ D.TOz).trans TO'
    · exact h1'.to fun o q => (sb.2 _ D.i1z).trans q
    · exact h2'.to fun o q => (sb.2 _ D.i2z).trans q
    · have hlt : c < s.heap.objs.size := by
        obtain ⟨x0, y0, hTO⟩ := st.to
        have e' : c = z ∨ c = TI ∨ c = TO ∨ c = i1 ∨ c = i2 := by simpa using hcm
        rcases e' with rfl | rfl | rfl | rfl | rfl
        · exact zlt
        · exact Heap.lt_size st.ti
        · exact Heap.lt_size hTO
        · obtain ⟨_, e1, _⟩ := st.p1.obj
          exact Heap.lt_size e1
        · obtain ⟨_, e2, _⟩ := st.p2.obj
          exact Heap.lt_size e2
      rw [upd_ne (Nat.ne_of_lt hlt)]
      exact (hf c hcm).1
  done := by
    intro X hP hw hK hc i pins s σ H E I hf st hg
    subst hP hw hK
    obtain ⟨xs, ys, hqx, hqy, hend⟩ := hg
    obtain ⟨its, rv, p⟩ := SqK.row I hqx
    obtain ⟨its2, rv2, p2⟩ := SqK.row I hqy
    have n1 := rv.length
    have n2 := rv2.length
    have he : its.toArray[i]? = none ∨ its2.toArray[i]? = none := by
      rcases hend with q | q
      · exact .inl (by simp; omega)
      · exact .inr (by simp; omega)
    exact pull_end (I.ok.hd hc) D st p p2 he fun h' hk => ⟨rfl, I.turnedL (t' := s.toks) (ch := [z, TI, TO, i1, i2]) (fun c o hb q => by
      simp only [List.mem_cons, List.not_mem_nil, or_false, not_or] at hb
      exact hk c o hb.1 hb.2.2.1 hb.2.2.2.1 hb.2.2.2.2 q) hf⟩
  self := fun A i s Q E st h => wpAny_pyIter_zip st.hz h
def iZip2 (t u : Bool) (K : PySem.W.Frag) (ta : TA) : TI := fun σ H R => ta σ H fun vs H1 => ∃ a b xs ys, vs = [.ref a, .ref b] ∧ SqK t K H1 a xs ∧ SqK u K H1 b ys ∧ R (It2 t u K a b) H1
theorem pi_zip2 (t u : Bool) {X : Cx} {e e2 : Expr} {ta : TA} {p pos tpos : PySem.Pos} {elts : List Expr} {kk : Nat} (hg : Gl X "zip") (hm : X.mg "zip" = none) (ha : PA X [e, e2] ta)
    (hs : starEach [e, e2] X.env = (false, eval e X.env) :: starEach [e2] X.env := by rfl) (hpl : (backTo pos (starEach [e2] X.env)).any (·.1) = false := by rfl) :
    PI X (.Tuple elts kk tpos) (.Call (.Name "zip" p) [e, e2] [] pos) (iZip2 t u X.K ta) := by
  refine ⟨fun pins s σ H R I h => ?_⟩
  refine Call_ (ld_blt I hg hm PyProof.Rows.boot_zip (PyProof.Rows.callWith_type1 (thn (ha.run pos pins s σ H _ I h) fun us s1 ⟨vs, H1, I1, r1, q1⟩ => ?_) hs hpl))
  obtain ⟨a, b, xs, ys, rfl, hqx, hqy, q⟩ := q1
  cases r1 with
  | cons r rr =>
    cases rr with
    | cons r' rr =>
      cases rr
      cases r
      cases r'
      obtain ⟨its, rv, p1⟩ := SqK.row I1 hqx
      obtain ⟨its2, rv2, p2⟩ := SqK.row I1 hqy
      refine call_two p1 p2 fun h' st hk => wpAny_pyIter_zip st.hz ?_
      have I2 : Inv X pins σ H1 { s1 with heap := h' } := I1.kept (t' := s1.toks) hk
      refine ⟨s1.heap.objs.size + 4, [s1.heap.objs.size + 4, s1.heap.objs.size + 2, s1.heap.objs.size + 3, s1.heap.objs.size, s1.heap.objs.size + 1], _, _, H1, rfl, I2, turn_two (PySem.W.ktu_apart s1.heap.objs.size a b p1.lt p2.lt), st, fun c hcm => ?_, q⟩
      have hle : s1.heap.objs.size ≤ c := by
        have e' : c = s1.heap.objs.size + 4 ∨ c = s1.heap.objs.size + 2 ∨ c = s1.heap.objs.size + 3 ∨ c = s1.heap.objs.size ∨ c = s1.heap.objs.size + 1 := by simpa using hcm
        rcases e' with z | z | z | z | z <;> rw [z]
        · exact Nat.le_add_right _ _
        · exact Nat.le_add_right _ _
        · exact Nat.le_add_right _ _
        · exact Nat.le_refl _
        · exact Nat.le_add_right _ _
      exact I1.fpOk hle (I1.hok.fresh hle)
theorem walk_two {t u : Bool} {K : PySem.W.Frag} {a b : Addr} {xs ys : List V} {n : Nat} (hn : n = min xs.length ys.length) : Walk (It2 t u K a b) n (fun H => SqK t K H a xs ∧ SqK u K H b ys) (YPair (fun i => xs[i]?) (fun i => ys[i]?)) := by
  subst hn
  refine ⟨fun i _ hi q => ?_, fun _ q => ⟨xs, ys, q.1, q.2, by omega⟩, fun i H v H' _ q y => ?_⟩
  · have g1 : i < xs.length := by omega
    have g2 : i < ys.length := by omega
    exact ⟨xs, ys, xs[i], ys[i], q.1, q.2, by simp [g1], by simp [g2]⟩
  · obtain ⟨T, x, z, e1, e2, e3, e4, e5⟩ := y
    exact ⟨T, x, z, e1, e2, e3, e4 xs q.1, e5 ys q.2⟩
end ZM

/-! tuple * int, any int up to 1000 -/
namespace Wk
open PySem PySem.Spec PyProof.Rows L2
theorem rep_one (l : Addr) (items : Array Value) (n : Nat) (dd : Option Addr) (sl : Array (Option Value)) (u : Tok) :
    Meets (Builtin.«tuple.__mul__» ⟨[.ref l, .int 1 u], []⟩) (fun _ R s => s.heap.get? l = some { cls := .type "tuple", dict := dd, data := .seq items n, slots := sl } ∧
      R (.ok (.ret (Value.ref l))) { s with toks := s.toks }) :=
  .of_wp fun prog w A R s h => by
    obtain ⟨hp, g, d, tk, os⟩ := s
    obtain ⟨hl, h⟩ := h
    have f1 := AutoSeq1.idx_int
    have e1 : (items.isEmpty || (1 : Int) == 1) = true := by simp
    wp_walk using wpAny_loadPart' hl
    repeat (first
      | (refine wpAny_ite_true (decide_eq_true e1) ?_; wp_walk using wpAny_loadPart' hl)
      | (refine wpAny_ite_false (decide_eq_false (by decide)) ?_; wp_walk using wpAny_loadPart' hl))
    exact ⟨_, rfl, h⟩
theorem rep_none (l : Addr) (items : Array Value) (n : Nat) (dd : Option Addr) (sl : Array (Option Value)) (x : Int) (u : Tok) (c0 : (decide (x < -(2 ^ 63)) || decide (x ≥ 2 ^ 63)) = false) (c1 : (items.isEmpty || x == 1) = false) (c2 : (decide (x ≤ 0) || items.isEmpty) = true) :
    Meets (Builtin.«tuple.__mul__» ⟨[.ref l, .int x u], []⟩) (fun _ R s => s.heap.get? l = some { cls := .type "tuple", dict := dd, data := .seq items n, slots := sl } ∧
      R (.ok (.ret (Value.ref s.heap.objs.size))) { s with heap := s.heap.push { cls := Value.type "tuple", data := Data.seq #[] }, toks := s.toks }) :=
  .of_wp fun prog w A R s h => by
    obtain ⟨hp, g, d, tk, os⟩ := s
    obtain ⟨hl, h⟩ := h
    have f1 := AutoSeq1.idx_int
    wp_walk using wpAny_loadPart' hl
    repeat (first
      | (refine wpAny_ite_false (decide_eq_false (by rw [c0]; exact Bool.false_ne_true)) ?_; wp_walk using wpAny_loadPart' hl)
      | (refine wpAny_ite_false (decide_eq_false (by rw [c1]; exact Bool.false_ne_true)) ?_; wp_walk using wpAny_loadPart' hl)
      | (refine wpAny_ite_true (decide_eq_true (by rw [c2])) ?_; wp_walk using wpAny_loadPart' hl))
    exact ⟨_, rfl, h⟩
def rRepA (K : PySem.W.Frag) : R2 := fun x y H Q => ∃ l k xs, x = .ref l ∧ y = .int k ∧ SqT K H l xs ∧ xs ≠ [] ∧ -(2 ^ 62) ≤ k ∧ k ≤ 1000 ∧ xs.length ≤ 1000 ∧ (k = 1 → Q (.ref l) H) ∧ (k ≠ 1 → ∀ p, H p = none → Q (.ref p) (upd H p (.tup (List.replicate k.toNat xs).flatten)))
theorem op_repA {X : Cx} : OpR X (binaryOp .Mult) (rRepA X.K) := by
  intro pins s σ H x y v u Q I rx ry h
  obtain ⟨l, k, xs, rfl, rfl, hT, hne, h1, h2, hz, q1, q2⟩ := h
  by_cases hk : 2 ≤ k
  · exact op_repT pins s σ H _ _ v u Q I rx ry ⟨l, k, xs, rfl, rfl, hT, hne, hk, h2, hz, q2 (by omega)⟩
  · cases rx
    obtain ⟨t, rfl⟩ := ry
    obtain ⟨its, r, ⟨⟨cls, dd, data, sl⟩, ho, hc, n, hd⟩, hs⟩ := I.tuple hT
    simp only at hc hd
    subst hc hd
    have hn : its ≠ [] := fun e => hne (by
      have hle := r.length
      rw [e] at hle
      exact List.eq_nil_of_length_eq_zero hle)
    have hi : its.toArray.isEmpty = false := by
      cases its with
      | nil => exact absurd rfl hn
      | cons a b => rfl
    by_cases h3 : k = 1
    · subst h3
      refine wpAny_binaryOp_repeat_ref (T := "tuple") (U := "int") (by decide) ⟨_, ho, rfl⟩ (fun s' => typeIs_int s' 1 t) noFill_tuple_mul F.fills_int_mul F.slot_int_rmul repeat_tuple F.slot_int_index.lookup
        (call_meets F.slot_int_rmul (typeIs_int s 1 t) F.entry_int_rmul (F.args_int_rmul_2 _ _) (int_rmul_tuple 1 t l its.toArray n dd sl)
          ⟨ho, rfl, ⟨_, ho, rfl⟩, call_meets F.slot_tuple_mul ⟨_, ho, rfl⟩ F.entry_tuple_mul (F.args_tuple_mul_2 _ _) (rep_one l its.toArray n dd sl t) ⟨ho, ?_⟩⟩)
      exact ⟨.ref l, H, I.tok _, rfl, q1 rfl⟩
    · have c0 : (decide (k < -(2 ^ 63)) || decide (k ≥ 2 ^ 63)) = false := by
        rw [decide_eq_false (by omega), decide_eq_false (by omega)] <;> rfl
      have c1 : (its.toArray.isEmpty || k == 1) = false := by
        rw [hi, Bool.false_or]
        exact beq_eq_false_iff_ne.mpr h3
      have c2 : (decide (k ≤ 0) || its.toArray.isEmpty) = true := by
        rw [decide_eq_true (by omega), Bool.true_or]
      refine wpAny_binaryOp_repeat_ref (T := "tuple") (U := "int") (by decide) ⟨_, ho, rfl⟩ (fun s' => typeIs_int s' k t) noFill_tuple_mul F.fills_int_mul F.slot_int_rmul repeat_tuple F.slot_int_index.lookup
        (call_meets F.slot_int_rmul (typeIs_int s k t) F.entry_int_rmul (F.args_int_rmul_2 _ _) (int_rmul_tuple k t l its.toArray n dd sl)
          ⟨ho, rfl, ⟨_, ho, rfl⟩, call_meets F.slot_tuple_mul ⟨_, ho, rfl⟩ F.entry_tuple_mul (F.args_tuple_mul_2 _ _) (rep_none l its.toArray n dd sl k t c0 c1 c2) ⟨ho, ?_⟩⟩)
      have e0 : (List.replicate k.toNat xs).flatten = [] := by
        rw [show k.toNat = 0 by omega]
        rfl
      have q := q2 h3 _ (I.hok.fresh (Nat.le_refl _))
      rw [e0] at q
      refine ⟨.ref s.heap.objs.size, _, I.laid (t' := s.toks) (o := .tup []) (fun b ob q => Heap.get?_push_of_some _ q) (Nat.le_refl _) ?_, rfl, q⟩
      exact ⟨Nat.zero_le _, [], .nil, IsTup.new _ _⟩
/-! rules of comprehensions within comprehensions: the frame K by name -/
section
variable {X : Cx} {K : PySem.W.Frag}
theorem pg_tupK (hK : X.K = K) {es : List Expr} {k : Nat} {t : TGs} {n : Nat} {pos : PySem.Pos} (hc : X.calm = true) (h : PGs X es t)
    (hn : (assignEach es X.env).length = n := by rfl) (hst : (assignEach es X.env).findIdx? (·.1) = none := by rfl) : PG X (.Tuple es k pos) (gTup K n t) := hK ▸ pg_tup hc h hn hst
theorem pi_listK (hK : X.K = K) {tg l : Expr} {tl : TE} (hl : PE X l tl) : PI X tg l (iList K tl) := hK ▸ pi_list hl
theorem pi_tupK (hK : X.K = K) {tg l : Expr} {tl : TE} (hl : PE X l tl) : PI X tg l (iTup K tl) := hK ▸ pi_tup hl
theorem pi_zip2K (hK : X.K = K) (t u : Bool) {e e2 : Expr} {ta : TA} {p pos tpos : PySem.Pos} {elts : List Expr} {kk : Nat} (hg : Gl X "zip") (hm : X.mg "zip" = none) (ha : PA X [e, e2] ta)
    (hs : starEach [e, e2] X.env = (false, eval e X.env) :: starEach [e2] X.env := by rfl) (hpl : (backTo pos (starEach [e2] X.env)).any (·.1) = false := by rfl) :
    PI X (.Tuple elts kk tpos) (.Call (.Name "zip" p) [e, e2] [] pos) (ZM.iZip2 t u K ta) := hK ▸ ZM.pi_zip2 t u hg hm ha hs hpl
def rTupOf (K : PySem.W.Frag) : List V → Hp → VK → Prop := fun xs H Q => ∃ p ys, xs = [.ref p] ∧ ((SqL K H p ys ∧ ∀ l, H l = none → Q (.ref l) (upd H l (.tup ys))) ∨ (SqT K H p ys ∧ Q (.ref p) H))
theorem call_tupleK (hK : X.K = K) : CallR X (.type "tuple") (rTupOf K) := hK ▸ call_tuple_of
def rLstOf (K : PySem.W.Frag) : List V → Hp → VK → Prop := fun xs H Q => ∃ p ys, xs = [.ref p] ∧ (SqL K H p ys ∨ SqT K H p ys) ∧ ∀ l, H l = none → Q (.ref l) (upd H l (.lst ys))
theorem call_listK (hK : X.K = K) : CallR X (.type "list") (rLstOf K) := hK ▸ call_list_of
theorem cr_minK (hK : X.K = K) (hc : X.calm = true) : CallR X (.builtin "min") (rMin K) := hK ▸ cr_min hc
theorem cr_sumK (hK : X.K = K) (hc : X.calm = true) : CallR X (.builtin "sum") (rSum K) := hK ▸ cr_sum hc
theorem ix_tupK (hK : X.K = K) : IxR X (rIxT K) := hK ▸ ix_tup
theorem ix_listK (hK : X.K = K) : IxR X (rIxL K) := hK ▸ ix_list
end
section
variable {X : Cx} {K : PySem.W.Frag}
theorem op_repAK (hK : X.K = K) : OpR X (binaryOp .Mult) (rRepA K) := hK ▸ op_repA
theorem op_catAK (hK : X.K = K) : OpR X (binaryOp .Add) (rCatA K) := hK ▸ op_catA
theorem sl_tupAK (hK : X.K = K) : SlR X (rSlA K) := hK ▸ sl_tupA
end
/-- all but D stays -/
def But (D : Addr) (H H' : Hp) : Prop := ∀ b o, b ≠ D → H b = some o → H' b = some o
theorem But.same {D : Addr} {H H' H2 : Hp} (h : But D H H') (e : Same H' H2) : But D H H2 := fun b o n q => e b o (h b o n q)
/-- a comprehension whose i-th item stands in R i -/
theorem lc_rel {J : It} {n : Nat} {G : Hp → Prop} {Y : Nat → Hp → V → Hp → Prop} (w : Walk J n G Y) {g : TG} {tt : TT} {te : TE} {vs : List Nat} {σ : L2.St} {H1 : Hp} {D : Addr} {Qd : Hp → Prop} (hD : H1 D = none) (hn : n ≤ 1000000)
    (R : Nat → V → Hp → Prop) (mono : ∀ i v H H', R i v H → But D H H' → R i v H') (hG : ∀ H, Same H1 H → G H)
    (hs : ∀ (i : Nat) (x : V) (H H' : Hp) (Fn : V → Hp → Prop) (Nn : Hp → Prop), (∀ y H4, Same H H4 → R i y H4 → Fn y H4) → i < n → Same H1 H → (∃ acc, H D = some (.lst acc)) → Y i H x H' → g x (wipe σ vs) H' fun σ2 H2 => wipe σ2 vs = wipe σ vs ∧ tt σ2 H2 fun b H3 => if b = true then te σ2 H3 Fn else Nn H3)
    (hd : ∀ (acc : List V) H, acc.length = n → H D = some (.lst acc) → Same H1 H → (∀ j v, acc[j]? = some v → R j v H) → Qd H) :
    ∃ W : Nat → Nat → Hp → Prop, (∃ m, W 0 m (upd H1 D (.lst []))) ∧ ∀ i m H, W i m H →
      (J.stop i H ∧ Qd H) ∨ (J.go i H ∧ ∃ Nx : Hp → Prop, (∀ H', Nx H' → ∃ m', m' < m ∧ W (i + 1) m' H') ∧ ∀ x H', J.yld i H x H' → g x (wipe σ vs) H' fun σ2 H2 => wipe σ2 vs = wipe σ vs ∧ tt σ2 H2 fun b H3 =>
        if b = true then te σ2 H3 fun y H4 => ∃ acc, H4 D = some (.lst acc) ∧ acc.length < sizeLine ∧ Nx (upd H4 D (.lst (acc ++ [y]))) else Nx H3) := by
  refine lc_it w (fun i H => ∃ acc : List V, acc.length = i ∧ H D = some (.lst acc) ∧ Same H1 H ∧ ∀ j v, acc[j]? = some v → R j v H) ⟨[], rfl, upd_same, fun b o e => ?_, fun j v e => by simp at e⟩ (fun i H hi ⟨acc, _, _, h3, _⟩ => hG H h3) ?_ fun H ⟨acc, h1, h2, h3, h4⟩ => hd acc H h1 h2 h3 h4
  · rw [upd_ne (fun z => by rw [z, hD] at e; cases e)]
    exact e
  · intro i x H H' hi ⟨acc, h1, h2, h3, h4⟩ hy
    refine hs i x H H' _ _ (fun y H4 sm hr => ⟨acc, sm _ _ h2, ?_, acc ++ [y], by simp [h1], upd_same, fun b o e => ?_, fun j v e => ?_⟩) hi h3 ⟨acc, h2⟩ hy
    · rw [h1]
      exact Nat.lt_of_lt_of_le hi (Nat.le_trans hn (by decide))
    · rw [upd_ne (fun z => by rw [z, hD] at e; cases e)]
      exact sm _ _ (h3 _ _ e)
    · have b1 : But D H4 (upd H4 D (.lst (acc ++ [y]))) := fun b o n q => by rw [upd_ne n]; exact q
      rcases Nat.lt_trichotomy j acc.length with hj | hj | hj
      · rw [List.getElem?_append_left hj] at e
        exact mono _ _ _ _ (mono _ _ _ _ (h4 j v e) fun b o _ q => sm b o q) b1
      · rw [hj] at e
        simp at e
        rw [hj, h1, ← e]
        exact mono _ _ _ _ hr b1
      · rw [List.getElem?_eq_none (by simp; omega)] at e
        cases e
end Wk

/-! rows and matrices of ints as data -/
namespace Wk
open PySem L2
theorem eqvAll_map {α : Type} (f : α → PyData) (g : α → α → Bool) (h : ∀ a b, PyData.eqv (f a) (f b) = g a b) (hg : ∀ a b, g a b = true ↔ a = b) [DecidableEq α] : ∀ (xs ys : List α), PyData.eqvAll (xs.map f) (ys.map f) = decide (xs = ys)
  | [], [] => by simp [PyData.eqvAll]
  | [], _ :: _ => by simp [PyData.eqvAll]
  | _ :: _, [] => by simp [PyData.eqvAll]
  | x :: xs, y :: ys => by
    simp only [List.map_cons, PyData.eqvAll, h, eqvAll_map f g h hg xs ys]
    have e : g x y = decide (x = y) := by
      by_cases z : x = y
      · rw [(hg x y).mpr z, decide_eq_true z]
      · rw [decide_eq_false z]
        cases q : g x y with
        | false => rfl
        | true => exact absurd ((hg x y).mp q) z
    rw [e]
    by_cases z : x = y <;> by_cases z2 : xs = ys <;> simp [z, z2]
/-- a tuple of ints; a tuple of such -/
def dI (ns : List Int) : PyData := .tuple (ns.map PyData.int)
def dM (ms : List (List Int)) : PyData := .tuple (ms.map dI)
theorem dI_eqv (a b : List Int) : PyData.eqv (dI a) (dI b) = decide (a = b) := by
  unfold dI
  rw [PyData.eqv]
  exact eqvAll_map _ (fun i j => i == j) (fun i j => by simp [PyData.eqv]) (fun i j => by simp) a b
theorem dM_eqv (a b : List (List Int)) : PyData.eqv (dM a) (dM b) = decide (a = b) := by
  unfold dM
  rw [PyData.eqv]
  exact eqvAll_map _ (fun i j => decide (i = j)) dI_eqv (fun i j => by simp) a b
theorem canLayAll_map {α : Type} (f : α → PyData) (h : ∀ a, (f a).canLay0 = true) : ∀ xs : List α, PyData.canLayAll0 (xs.map f) = true
  | [] => by simp [PyData.canLayAll0]
  | x :: xs => by simp [PyData.canLayAll0, h x, canLayAll_map f h xs]
theorem depthAll_map {α : Type} (f : α → PyData) (n : Nat) (h : ∀ a, (f a).depth ≤ n) : ∀ xs : List α, PyData.depthAll (xs.map f) ≤ n
  | [] => by simp [PyData.depthAll]
  | x :: xs => by
    have h1 := h x
    have h2 := depthAll_map f n h xs
    simp only [List.map_cons, PyData.depthAll]
    omega
theorem dI_lay (a : List Int) : (dI a).canLay0 = true := by
  unfold dI
  rw [PyData.canLay0]
  exact canLayAll_map _ (fun i => by simp [PyData.canLay0]) a
theorem dI_depth (a : List Int) : (dI a).depth ≤ 1 := by
  unfold dI
  rw [PyData.depth]
  have := depthAll_map PyData.int 0 (fun i => by simp [PyData.depth]) a
  omega
theorem dM_lay (a : List (List Int)) : (dM a).canLay0 = true := by
  unfold dM
  rw [PyData.canLay0]
  exact canLayAll_map _ dI_lay a
theorem dM_depth (a : List (List Int)) : (dM a).depth ≤ 2 := by
  unfold dM
  rw [PyData.depth]
  have := depthAll_map dI 1 dI_depth a
  omega
theorem dI_shaped (a : List Int) : SeqAt.shaped (dI a) = true := by
  have := dI_depth a
  simp only [SeqAt.shaped, dI_lay, Bool.true_and, decide_eq_true_eq]
  omega
theorem dM_shaped (a : List (List Int)) : SeqAt.shaped (dM a) = true := by
  have := dM_depth a
  simp only [SeqAt.shaped, dM_lay, Bool.true_and, decide_eq_true_eq]
  omega
theorem dpAll_ints {K : PySem.W.Frag} {H : Hp} : ∀ ns : List Int, DpAll K H (ns.map V.int) (ns.map PyData.int)
  | [] => .nil
  | n :: ns => .cons (.int n) (dpAll_ints ns)
/-- a tuple of ints at a -/
def RowAt (K : PySem.W.Frag) (H : Hp) (a : Addr) (ns : List Int) : Prop := SqT K H a (ns.map V.int)
theorem RowAt.dp {K : PySem.W.Frag} {H : Hp} {a : Addr} {ns : List Int} (h : RowAt K H a ns) : Dp K H (.ref a) (dI ns) := .tup h (dpAll_ints ns)
/-- values that are tuples of ints -/
inductive RowsAre (K : PySem.W.Frag) (H : Hp) : List V → List (List Int) → Prop
  | nil : RowsAre K H [] []
  | cons {a : Addr} {ns : List Int} {vs : List V} {ms : List (List Int)} : RowAt K H a ns → RowsAre K H vs ms → RowsAre K H (.ref a :: vs) (ns :: ms)
theorem RowsAre.dp {K : PySem.W.Frag} {H : Hp} : ∀ {vs : List V} {ms : List (List Int)}, RowsAre K H vs ms → DpAll K H vs (ms.map dI)
  | _, _, .nil => .nil
  | _, _, .cons h r => .cons h.dp r.dp
theorem RowsAre.length {K : PySem.W.Frag} {H : Hp} : ∀ {vs : List V} {ms : List (List Int)}, RowsAre K H vs ms → vs.length = ms.length
  | _, _, .nil => rfl
  | _, _, .cons _ r => by simp [r.length]
theorem RowsAre.at_ {K : PySem.W.Frag} {H : Hp} : ∀ {vs : List V} {ms : List (List Int)}, RowsAre K H vs ms → ∀ {i : Nat} {v : V}, vs[i]? = some v → ∃ (a : Addr) (ns : List Int), v = .ref a ∧ ms[i]? = some ns ∧ RowAt K H a ns
  | _, _, .nil, i, v, h => by simp at h
  | _, _, .cons h r, 0, v, e => by cases e; exact ⟨_, _, rfl, rfl, h⟩
  | _, _, .cons h r, i + 1, v, e => r.at_ (i := i) (by simpa using e)
theorem RowsAre.snoc {K : PySem.W.Frag} {H : Hp} {a : Addr} {ns : List Int} (h : RowAt K H a ns) : ∀ {vs : List V} {ms : List (List Int)}, RowsAre K H vs ms → RowsAre K H (vs ++ [.ref a]) (ms ++ [ns])
  | _, _, .nil => .cons h .nil
  | _, _, .cons h' r => .cons h' (r.snoc h)
/-- a tuple of tuples of ints at a -/
def MatAt (K : PySem.W.Frag) (H : Hp) (a : Addr) (ms : List (List Int)) : Prop := ∃ vs, SqT K H a vs ∧ RowsAre K H vs ms
theorem MatAt.dp {K : PySem.W.Frag} {H : Hp} {a : Addr} {ms : List (List Int)} (h : MatAt K H a ms) : Dp K H (.ref a) (dM ms) := by
  obtain ⟨vs, h1, h2⟩ := h
  exact .tup h1 h2.dp
theorem SqT.same {K : PySem.W.Frag} {H H' : Hp} {a : Addr} {xs : List V} (h : SqT K H a xs) (e : Same H H') : SqT K H' a xs := by
  rcases h with h | h
  · rcases h with h | ⟨o, h⟩
    · exact .inl (.inl (e _ _ h))
    · exact .inl (.inr ⟨o, e _ _ h⟩)
  · exact .inr h
theorem RowsAre.same {K : PySem.W.Frag} {H H' : Hp} (e : Same H H') : ∀ {vs : List V} {ms : List (List Int)}, RowsAre K H vs ms → RowsAre K H' vs ms
  | _, _, .nil => .nil
  | _, _, .cons h r => .cons (SqT.same h e) (r.same e)
theorem MatAt.same {K : PySem.W.Frag} {H H' : Hp} {a : Addr} {ms : List (List Int)} (h : MatAt K H a ms) (e : Same H H') : MatAt K H' a ms := by
  obtain ⟨vs, h1, h2⟩ := h
  exact ⟨vs, SqT.same h1 e, h2.same e⟩
end Wk

/-! matrices of ints, their products modulo M -/
namespace Wk
abbrev Mat := List (List Int)
def Wd (n : Int) : Prop := n.natAbs < 2 ^ 200
def RWd (r : List Int) : Prop := ∀ n ∈ r, Wd n
def MWd (A : Mat) : Prop := ∀ r ∈ A, RWd r
def dotZ (a b : List Int) : Int := (List.zipWith (· * ·) a b).sum
def applyM (M : Int) (A : Mat) (r : List Int) : List Int := A.map fun l => dotZ l r % M
def colsOf (n : Nat) (B : Mat) : Mat := (List.range n).map fun j => B.map fun r => r.getD j 0
def prodM (M : Int) (n : Nat) (A B : Mat) : Mat := A.map fun r => applyM M (colsOf n B) r
def unitRow (s p : Nat) : List Int := (List.range s).map fun j => if j = p then 1 else 0
def idM (s : Nat) : Mat := (List.range s).map fun p => unitRow s p
def mpow (M : Int) (n : Nat) (A : Mat) : Nat → Mat
  | 0 => idM n
  | e + 1 => prodM M n (mpow M n A e) A
abbrev Row := List Int
def mulRow (M f : Int) (r : List Int) : List Int := r.map fun x => f * x % M
def comb (M f : Int) (r : List Int) (g : Int) (s : List Int) : List Int := List.zipWith (fun a b => (f * a + g * b) % M) r s
/-- numbers from 0 to M - 1 -/
def RRed (M : Int) (r : Row) : Prop := ∀ x ∈ r, 0 ≤ x ∧ x < M
structure WF (M : Int) (W n : Nat) (S : List (Option Row)) : Prop where
  len : S.length = n
  row : ∀ (i : Nat) (s : Row), S[i]? = some (some s) → s.length = W ∧ RRed M s ∧ (∃ x, s[i]? = some x ∧ 1 ≤ x ∧ x ∣ M) ∧ ∀ j, j < i → s[j]? = some 0
/-- one step of a put -/
def PutStep (M : Int) (p : Nat) (S : List (Option Row)) (r : Row) (N : Int) (S' : List (Option Row)) (r' : Row) : Prop :=
  (S[p]? = some none ∧ ∃ g lf f : Int, g = (Int.gcd M N : Int) ∧ 1 ≤ g ∧ lf * M + f * N = g ∧ S' = S.set p (some (mulRow M f r)) ∧ r' = mulRow M (M / g) r) ∨
  (∃ (s : Row) (P : Int), S[p]? = some (some s) ∧ s[p]? = some P ∧
    ((N % P = 0 ∧ S' = S ∧ r' = comb M 1 r (-(N / P)) s) ∨
     (∃ g lf f : Int, g = (Int.gcd P N : Int) ∧ 1 ≤ g ∧ lf * P + f * N = g ∧ S' = S.set p (some (comb M f r lf s)) ∧ r' = comb M (P / g) r (-(N / g)) s)))
/-- a put, place by place -/
inductive Ch (M : Int) (S0 : List (Option Row)) (r0 : Row) : Nat → List (Option Row) → Row → Prop
  | base : Ch M S0 r0 0 S0 r0
  | skip {i : Nat} {S : List (Option Row)} {r : Row} : Ch M S0 r0 i S r → r[i]? = some 0 → Ch M S0 r0 (i + 1) S r
  | step {i : Nat} {S S' : List (Option Row)} {r r' : Row} {N : Int} : Ch M S0 r0 i S r → r[i]? = some N → 1 ≤ N → PutStep M i S r N S' r' → Ch M S0 r0 (i + 1) S' r'
theorem mod_red {M : Int} (h : 1 ≤ M) (x : Int) : 0 ≤ x % M ∧ x % M < M := ⟨Int.emod_nonneg _ (by omega), Int.emod_lt_of_pos _ (by omega)⟩
theorem mulRow_red {M : Int} (h : 1 ≤ M) (f : Int) (r : Row) : RRed M (mulRow M f r) := fun x hx => by
  obtain ⟨y, _, rfl⟩ := List.mem_map.mp hx
  exact mod_red h _
theorem comb_red {M : Int} (h : 1 ≤ M) (f g : Int) (r s : Row) : RRed M (comb M f r g s) := fun x hx => by
  obtain ⟨k, hk⟩ := List.mem_iff_getElem?.mp hx
  unfold comb at hk
  rw [List.getElem?_zipWith] at hk
  split at hk
  · cases hk
    exact mod_red h _
  · cases hk
theorem mulRow_at {M f : Int} {r : Row} {i : Nat} {x : Int} (h : r[i]? = some x) : (mulRow M f r)[i]? = some (f * x % M) := by
  unfold mulRow
  rw [List.getElem?_map, h]
  rfl
theorem comb_at {M f g : Int} {r s : Row} {i : Nat} {x y : Int} (h : r[i]? = some x) (h2 : s[i]? = some y) : (comb M f r g s)[i]? = some ((f * x + g * y) % M) := by
  unfold comb
  rw [List.getElem?_zipWith, h, h2]
theorem gcd_le_l {a b : Int} (h : 1 ≤ a) : (Int.gcd a b : Int) ≤ a := by
  have : Int.gcd a b ≤ a.natAbs := Nat.gcd_le_left _ (by omega)
  omega
theorem gcd_le_r {a b : Int} (h : 1 ≤ b) : (Int.gcd a b : Int) ≤ b := by
  have : Int.gcd a b ≤ b.natAbs := Nat.gcd_le_right _ (by omega)
  omega
theorem WF.set {M : Int} {W n i : Nat} {S : List (Option Row)} {s : Row} {x : Int} (wf : WF M W n S) (h1 : s.length = W) (h2 : RRed M s) (h3 : s[i]? = some x) (h4 : 1 ≤ x) (h5 : x ∣ M) (h6 : ∀ j, j < i → s[j]? = some 0) : WF M W n (S.set i (some s)) := by
  refine ⟨by rw [List.length_set]; exact wf.len, fun j t e => ?_⟩
  by_cases z : i = j
  · subst z
    by_cases hl : i < S.length
    · rw [List.getElem?_set_self hl] at e
      cases e
      exact ⟨h1, h2, ⟨x, h3, h4, h5⟩, h6⟩
    · rw [List.getElem?_eq_none (by rw [List.length_set]; omega)] at e
      cases e
  · rw [List.getElem?_set_ne z] at e
    exact wf.row j t e
theorem put_wf {M : Int} {W n i : Nat} {S S' : List (Option Row)} {r r' : Row} {N : Int} (hM : 2 ≤ M) (wf : WF M W n S) (hr : r.length = W) (rr : RRed M r) (hz : ∀ j, j < i → r[j]? = some 0) (hN : r[i]? = some N) (h1 : 1 ≤ N) (st : PutStep M i S r N S' r') :
    WF M W n S' ∧ r'.length = W ∧ RRed M r' ∧ ∀ j, j < i + 1 → r'[j]? = some 0 := by
  have hNM : N < M := (rr N (List.mem_of_getElem? hN)).2
  rcases st with ⟨e0, g, lf, f, hg, g1, hbz, rfl, rfl⟩ | ⟨s, P, e0, hP, st⟩
  · have hgM : g ∣ M := hg ▸ Int.gcd_dvd_left ..
    have hgN' : g ∣ N := hg ▸ Int.gcd_dvd_right ..
    have e : f * N = g - lf * M := by omega
    have hgN := gcd_le_r (a := M) (b := N) h1
    have eg : f * N % M = g := by rw [e, Int.sub_mul_emod_self_right, Int.emod_eq_of_lt (by omega) (by omega)]
    refine ⟨wf.set (by simp [mulRow, hr]) (mulRow_red (by omega) _ _) (mulRow_at hN) (by rw [eg]; exact g1) (by rw [eg]; exact hgM) (fun j hj => by rw [mulRow_at (hz j hj)]; simp), by simp [mulRow, hr], mulRow_red (by omega) _ _, fun j hj => ?_⟩
    rcases Nat.lt_or_ge j i with h | h
    · rw [mulRow_at (hz j h)]
      simp
    · have : j = i := by omega
      subst this
      rw [mulRow_at hN]
      obtain ⟨a, rfl⟩ := hgM
      obtain ⟨b, rfl⟩ := hgN'
      rw [Int.mul_ediv_cancel_left _ (by omega), show a * (g * b) = g * a * b by grind, Int.mul_emod_right]
  · obtain ⟨sl, sr, ⟨P', hP', p1, pM⟩, sz⟩ := wf.row i s e0
    rw [hP] at hP'
    cases hP'
    have hPM : P < M := (sr P (List.mem_of_getElem? hP)).2
    have low : ∀ (f g : Int) (j : Nat), j < i → (comb M f r g s)[j]? = some 0 := fun f g j hj => by rw [comb_at (hz j hj) (sz j hj)]; simp
    rcases st with ⟨h0, rfl, rfl⟩ | ⟨g, lf, f, hg, g1, hbz, rfl, rfl⟩
    · refine ⟨wf, by simp [comb, hr, sl], comb_red (by omega) _ _ _ _, fun j hj => ?_⟩
      rcases Nat.lt_or_ge j i with h | h
      · exact low _ _ j h
      · have : j = i := by omega
        subst this
        rw [comb_at hN hP]
        have := Int.emod_add_ediv_mul N P
        rw [show 1 * N + -(N / P) * P = 0 by grind]
        simp
    · have hgP' : g ∣ P := hg ▸ Int.gcd_dvd_left ..
      have hgN' : g ∣ N := hg ▸ Int.gcd_dvd_right ..
      have hgN := gcd_le_l (a := P) (b := N) p1
      have eg : (f * N + lf * P) % M = g := by rw [show f * N + lf * P = g by omega, Int.emod_eq_of_lt (by omega) (by omega)]
      refine ⟨wf.set (by simp [comb, hr, sl]) (comb_red (by omega) _ _ _ _) (comb_at hN hP) (by rw [eg]; exact g1) (by rw [eg]; exact Int.dvd_trans hgP' pM) (low _ _), by simp [comb, hr, sl], comb_red (by omega) _ _ _ _, fun j hj => ?_⟩
      rcases Nat.lt_or_ge j i with h | h
      · exact low _ _ j h
      · have : j = i := by omega
        subst this
        rw [comb_at hN hP]
        obtain ⟨a, rfl⟩ := hgP'
        obtain ⟨b, rfl⟩ := hgN'
        rw [Int.mul_ediv_cancel_left _ (by omega), Int.mul_ediv_cancel_left _ (by omega), show a * (g * b) + -b * (g * a) = 0 by grind]
        simp
theorem Ch.wf {M : Int} {W n i : Nat} {S0 S : List (Option Row)} {r0 r : Row} (c : Ch M S0 r0 i S r) (hM : 2 ≤ M) (wf : WF M W n S0) (hr : r0.length = W) (rr : RRed M r0) : WF M W n S ∧ r.length = W ∧ RRed M r ∧ ∀ j, j < i → r[j]? = some 0 := by
  induction c with
  | base => exact ⟨wf, hr, rr, fun j h => absurd h (Nat.not_lt_zero _)⟩
  | skip c h ih =>
    obtain ⟨a, b, d, e⟩ := ih
    refine ⟨a, b, d, fun j hj => ?_⟩
    rcases Nat.lt_succ_iff_lt_or_eq.mp hj with h2 | h2
    · exact e j h2
    · rw [h2]
      exact h
  | step c h h1 st ih =>
    obtain ⟨a, b, d, e⟩ := ih
    exact put_wf hM a b d e h h1 st
/-- a row of the matrix with its own unit row behind -/
def rowOf (M : Int) (n : Nat) (a : Row) (k : Nat) : Row := a.map (· % M) ++ unitRow n k
inductive Puts (M : Int) (n : Nat) (A : Mat) : Nat → List (Option Row) → Prop
  | zero : Puts M n A 0 (List.replicate n none)
  | succ {k : Nat} {S S' : List (Option Row)} {a r' : Row} : Puts M n A k S → A[k]? = some a → Ch M S (rowOf M n a k) n S' r' → Puts M n A (k + 1) S'
theorem rowOf_ok {M : Int} (hM : 2 ≤ M) {n k : Nat} {a : Row} (h : a.length = n) : (rowOf M n a k).length = 2 * n ∧ RRed M (rowOf M n a k) := by
  refine ⟨by simp [rowOf, unitRow, h]; omega, fun x hx => ?_⟩
  rcases List.mem_append.mp hx with hx | hx
  · obtain ⟨y, _, rfl⟩ := List.mem_map.mp hx
    exact mod_red (by omega) y
  · obtain ⟨j, _, rfl⟩ := List.mem_map.mp hx
    split <;> omega
theorem Puts.wf {M : Int} (hM : 2 ≤ M) {n k : Nat} {A : Mat} {S : List (Option Row)} (hA : ∀ r ∈ A, r.length = n) (p : Puts M n A k S) : WF M (2 * n) n S := by
  induction p with
  | zero => exact ⟨by simp, fun i s e => by
      rw [List.getElem?_replicate] at e
      split at e <;> cases e⟩
  | succ p h c ih =>
    obtain ⟨a, b⟩ := rowOf_ok hM (hA _ (List.mem_of_getElem? h))
    exact (c.wf hM ih a b).1
/-- a row made less by the rows behind it -/
def lessen (M : Int) : Row → List (Nat × Row) → Row
  | r, [] => r
  | r, (q, s) :: L => lessen M (if r.getD q 0 ≥ s.getD q 0 then comb M 1 r (-(r.getD q 0 / s.getD q 0)) s else r) L
/-- the rows made less, from the last place on; i of them looked at -/
def settle (M : Int) (n : Nat) (S : List (Option Row)) : Nat → List (Nat × Row)
  | 0 => []
  | i + 1 => match S.getD (n - 1 - i) none with
    | none => settle M n S i
    | some r => (n - 1 - i, lessen M r (settle M n S i)) :: settle M n S i
/-- what the rows behind must be to make a row less -/
def LOk (M : Int) (W : Nat) (L : List (Nat × Row)) : Prop := ∀ q s, (q, s) ∈ L → s.length = W ∧ RRed M s ∧ q < W ∧ 1 ≤ s.getD q 0
theorem less_step {M : Int} {W : Nat} {r s : Row} {f : Int} (hM : 1 ≤ M) (hr : r.length = W) (hs : s.length = W) : (comb M 1 r f s).length = W ∧ RRed M (comb M 1 r f s) := ⟨by simp [comb, hr, hs], comb_red hM _ _ _ _⟩
theorem lessen_ok {M : Int} {W : Nat} (hM : 1 ≤ M) : ∀ {L : List (Nat × Row)} {r : Row}, LOk M W L → r.length = W → RRed M r → (lessen M r L).length = W ∧ RRed M (lessen M r L) ∧ ∀ (j : Nat) (x : Int), r[j]? = some x → (∀ q s, (q, s) ∈ L → s[j]? = some 0) → (lessen M r L)[j]? = some x
  | [], r, _, h1, h2 => ⟨h1, h2, fun j x h _ => h⟩
  | (q, s) :: L, r, hL, h1, h2 => by
    obtain ⟨a, b, c, e⟩ := hL q s List.mem_cons_self
    have hL2 : LOk M W L := fun q s h => hL q s (List.mem_cons_of_mem _ h)
    unfold lessen
    split
    · obtain ⟨z1, z2⟩ := less_step (f := -(r.getD q 0 / s.getD q 0)) hM h1 a
      obtain ⟨y1, y2, y3⟩ := lessen_ok hM hL2 z1 z2
      refine ⟨y1, y2, fun j x hx hz => y3 j x ?_ fun q s h => hz q s (List.mem_cons_of_mem _ h)⟩
      rw [comb_at hx (hz q s List.mem_cons_self)]
      have := h2 x (List.mem_of_getElem? hx)
      rw [Int.mul_zero, Int.add_zero, Int.one_mul, Int.emod_eq_of_lt this.1 this.2]
    · obtain ⟨y1, y2, y3⟩ := lessen_ok hM hL2 h1 h2
      exact ⟨y1, y2, fun j x hx hz => y3 j x hx fun q s h => hz q s (List.mem_cons_of_mem _ h)⟩
theorem settle_ok {M : Int} {W n : Nat} {S : List (Option Row)} (hM : 2 ≤ M) (wf : WF M W n S) (hn : n ≤ W) : ∀ i, i ≤ n → ∀ q s, (q, s) ∈ settle M n S i → n - i ≤ q ∧ q < n ∧ s.length = W ∧ RRed M s ∧ (∀ j, j < q → s[j]? = some 0) ∧ ∃ r0 x, S[q]? = some (some r0) ∧ r0[q]? = some x ∧ s[q]? = some x ∧ 1 ≤ x
  | 0, _, q, s, h => by simp [settle] at h
  | i + 1, hi, q, s, h => by
    have ih := settle_ok hM wf hn i (by omega)
    have hlt : n - 1 - i < S.length := by rw [wf.len]; omega
    unfold settle at h
    split at h
    · obtain ⟨a, b⟩ := ih q s h
      exact ⟨by omega, b⟩
    · rename_i r e
      have e2 : S[n - 1 - i]? = some (some r) := by
        rw [List.getD_eq_getElem?_getD, List.getElem?_eq_getElem hlt] at e
        rw [List.getElem?_eq_getElem hlt]
        exact congrArg some e
      obtain ⟨a1, a2, ⟨x, a3, a4, a5⟩, a6⟩ := wf.row _ _ e2
      have hL : LOk M W (settle M n S i) := fun q s h => by
        obtain ⟨b1, b2, b3, b4, b5, r0, x, b6, b7, b8, b9⟩ := ih q s h
        refine ⟨b3, b4, by omega, ?_⟩
        rw [List.getD_eq_getElem?_getD, b8]
        exact b9
      have zer : ∀ j, j ≤ n - 1 - i → ∀ q s, (q, s) ∈ settle M n S i → s[j]? = some 0 := fun j hj q s h => by
        obtain ⟨b1, b2, b3, b4, b5, _⟩ := ih q s h
        exact b5 j (by omega)
      obtain ⟨y1, y2, y3⟩ := lessen_ok (show 1 ≤ M by omega) hL a1 a2
      rcases List.mem_cons.mp h with h | h
      · cases h
        exact ⟨by omega, by omega, y1, y2, fun j hj => y3 j 0 (a6 j hj) (zer j (by omega)), r, x, e2, a3, y3 _ x a3 (zer _ (Nat.le_refl _)), a4⟩
      · obtain ⟨a, b⟩ := ih q s h
        exact ⟨by omega, b⟩
theorem settle_len (M : Int) (n : Nat) (S : List (Option Row)) : ∀ i, (settle M n S i).length ≤ i
  | 0 => Nat.le_refl _
  | i + 1 => by
    have := settle_len M n S i
    unfold settle
    split
    · omega
    · simp
      omega
theorem settle_lok {M : Int} {W n : Nat} {S : List (Option Row)} (hM : 2 ≤ M) (wf : WF M W n S) (hn : n ≤ W) {i : Nat} (hi : i ≤ n) : LOk M W (settle M n S i) := fun q s h => by
  obtain ⟨b1, b2, b3, b4, b5, r0, x, b6, b7, b8, b9⟩ := settle_ok hM wf hn i hi q s h
  refine ⟨b3, b4, by omega, ?_⟩
  rw [List.getD_eq_getElem?_getD, b8]
  exact b9
end Wk

namespace Wk
open PySem L2
abbrev s_product : Stmt := top 19
theorem sc_product : FnScope ["modulus", "one", "other", "columns", "row"] ["modulus", "one", "other"] (defScope s_product) := ⟨rfl, rfl, rfl, by decide +kernel, rfl, by decide +kernel, by decide +kernel⟩
abbrev s_applied : Stmt := top 20
theorem sc_applied : FnScope ["modulus", "matrix", "row", "line", "a", "b"] ["modulus", "matrix", "row"] (defScope s_applied) := ⟨rfl, rfl, rfl, by decide +kernel, rfl, by decide +kernel, by decide +kernel⟩
abbrev s_transposed : Stmt := top 21
theorem sc_transposed : FnScope ["matrix"] ["matrix"] (defScope s_transposed) := ⟨rfl, rfl, rfl, by decide +kernel, rfl, by decide +kernel, by decide +kernel⟩
abbrev s_unit : Stmt := top 22
theorem sc_unit : FnScope ["size", "place"] ["size", "place"] (defScope s_unit) := ⟨rfl, rfl, rfl, by decide +kernel, rfl, by decide +kernel, by decide +kernel⟩

structure TxtM (mg : Str → Option Value) : Prop where
  f_tuple : mg "tuple" = none
  f_zip : mg "zip" = none
  f_sum : mg "sum" = none
  f_range : mg "range" = none
  f_len : mg "len" = none
theorem yesT {σ : L2.St} {H : Hp} {A : Hp → Prop} {B : Hp → Prop} (h : A H) : tYes σ H fun b H3 => if b = true then A H3 else B H3 := by
  show if true = true then A H else B H
  rw [if_pos rfl]
  exact h
/-- a new tuple of ints -/
def NewRow (H : Hp) (r : List Int) (Q : VK) : Prop := ∀ p H', Same H H' → H' p = some (.tup (r.map V.int)) → Q (.ref p) H'
def spApplied (K : PySem.W.Frag) : Sp := fun vs H Q _ => ∃ (M : Int) (a b : Addr) (A : Mat) (r : List Int), vs = [.int M, .ref a, .ref b] ∧ 1 ≤ M ∧ MatAt K H a A ∧ RowAt K H b r ∧ MWd A ∧ RWd r ∧ A.length ≤ 1000 ∧ r.length ≤ 1000 ∧ (∀ l ∈ A, l.length = r.length) ∧ NewRow H (applyM M A r) Q
theorem rows_at {K : PySem.W.Frag} {H : Hp} {vs : List V} {A : Mat} (h : RowsAre K H vs A) {i : Nat} {x : V} (e : vs[i]? = some x) : ∃ (p : Addr) (l : List Int), x = .ref p ∧ A[i]? = some l ∧ RowAt K H p l := h.at_ e
theorem SqK.same {t : Bool} {K : PySem.W.Frag} {H H' : Hp} {a : Addr} {xs : List V} (h : ZM.SqK t K H a xs) (e : Same H H') : ZM.SqK t K H' a xs := by
  cases t
  · rcases h with (h | ⟨o, h⟩) | h
    · exact .inl (.inl (e _ _ h))
    · exact .inl (.inr ⟨o, e _ _ h⟩)
    · exact .inr h
  · exact SqT.same h e
theorem same_upd {H : Hp} {a : Addr} {o : HO} (h : H a = none) : Same H (upd H a o) := fun b u e => by
  rw [upd_ne (ne_of_none e h)]
  exact e
theorem at_ints {xs : List Int} {i : Nat} {v : V} (h : (xs.map V.int)[i]? = some v) : ∃ x, xs[i]? = some x ∧ v = .int x := by
  rw [List.getElem?_map] at h
  cases e : xs[i]? with
  | none => rw [e] at h; cases h
  | some x => rw [e] at h; cases h; exact ⟨x, rfl, rfl⟩
theorem wd_mul {x y : Int} (hx : Wd x) (hy : Wd y) : CMulW x y := wide_mul (a := 200) (b := 200) hx hy (by decide) (by decide) (by decide)
/-- a list whose items are told one by one -/
theorem acc_map {α : Type} {acc : List V} {as : List α} {f : α → V} (hl : acc.length = as.length) (h : ∀ (j : Nat) (v : V), acc[j]? = some v → ∃ a : α, as[j]? = some a ∧ v = f a) : acc = as.map f := by
  apply List.ext_getElem?
  intro j
  rw [List.getElem?_map]
  cases e : acc[j]? with
  | none =>
    rw [List.getElem?_eq_none_iff] at e
    rw [List.getElem?_eq_none (by omega)]
    rfl
  | some v =>
    obtain ⟨a, h1, h2⟩ := h j v e
    rw [h1, h2]
    rfl
theorem dot_read {K : PySem.W.Frag} {t u : Bool} {a b : Addr} {xs ys : List Int} {p q i j : Nat} {σ : L2.St} {H : Hp} {Q : VK} (hp : σ[p]? = some (some (.ref a))) (hq : σ[q]? = some (some (.ref b))) (sa : ZM.SqK t K H a (xs.map V.int)) (sb : ZM.SqK u K H b (ys.map V.int))
    (hl : xs.length = ys.length) (hn : xs.length ≤ 1000) (wx : RWd xs) (wy : RWd ys) (hw : ∀ x y, wipe (((wipe σ [i, j]).set i (some x)).set j (some y)) [i, j] = wipe σ [i, j]) (h1 : ∀ x y, (((wipe σ [i, j]).set i (some x)).set j (some y))[i]? = some (some x)) (h2 : ∀ x y, (((wipe σ [i, j]).set i (some x)).set j (some y))[j]? = some (some y))
    (k : ∀ H', Same H H' → Q (.int (dotZ xs ys)) H') :
    tCB (rSum K) (tCons (tLc (ZM.iZip2 t u K (tCons (tVar p) (tCons (tVar q) tNil))) (gTup K 2 (gCons (gName i) (gCons (gName j) gNil))) tYes (tOp (rI CMulW fun i j => V.int (i * j)) (tVar i) (tVar j)) [i, j]) tNil) σ H Q := by
  refine ⟨_, hp, _, hq, a, b, _, _, rfl, sa, sb, fun D hD => lc_rel (ZM.walk_two (n := xs.length) (by simp [hl])) hD (by omega) (fun m v _ => ∃ z, (List.zipWith (· * ·) xs ys)[m]? = some z ∧ v = .int z) (fun m v H H' h _ => h) (fun H1 e => ⟨SqK.same sa e, SqK.same sb e⟩) ?_ ?_⟩
  · rintro m v H1 H1' Fn Nn fin hm sm hacc ⟨T, x, y, rfl, hT, rfl, hx, hy⟩
    obtain ⟨x, gx, rfl⟩ := at_ints hx
    obtain ⟨y, gy, rfl⟩ := at_ints hy
    refine ⟨T, _, rfl, SqT.of upd_same, rfl, _, _, rfl, _, _, rfl, rfl, hw _ _, yesT ⟨_, h1 _ _, _, h2 _ _, x, y, rfl, rfl, wd_mul (wx _ (List.mem_of_getElem? gx)) (wy _ (List.mem_of_getElem? gy)), fin _ _ (same_upd hT) ⟨x * y, ?_, rfl⟩⟩⟩
    rw [List.getElem?_zipWith, gx, gy]
  · intro acc H1 e1 e2 sm hR
    have e : acc = (List.zipWith (· * ·) xs ys).map V.int := acc_map (by simp [e1, hl]) hR
    subst e
    exact ⟨D, _, rfl, SqL.of e2, k _ sm⟩
section
variable {P : Program} {w : World} {K : PySem.W.Frag} {mg : Str → Option Value} {base : Heap}
theorem ok_applied {f : Addr} {fd : FuncData} (F : Fun K "applied" "applied" s_applied f fd) (T : TxtM mg) : FnOk P w K mg base CX0 1 f fd ["modulus", "matrix", "row"] (spApplied K) := by
  refine F.ok sc_applied (fun vs H Q E h => ?_) (fun cdv A outer s H vs Q E hr h => ?_)
  · obtain ⟨M, a, b, A, r, rfl, _⟩ := h
    rfl
  · obtain ⟨M, a, b, Am, r, rfl, hM, ⟨vs, hA, hR⟩, hr2, wA, wr, lA, lr, lw, k⟩ := h
    refine ⟨_, (pss_one (ps_ret (pe_callTy (call_tupleK (K := K) rfl) rfl T.f_tuple (by decide +kernel) (pa_cons (pe_lc (own := [("line", 3)]) (g := gName 3) rfl sc_applied.nd (pi_tup (pv 1)) (blkOk_by (N := ["modulus", "matrix", "row", "line", "a", "b"]) (sc := defScope s_applied) (by decide +kernel)) (fun _ _ _ _ _ => (pg_name (i := 3) sc_applied.nd rfl (Or.inl rfl))) (fun _ _ _ _ _ => pts_nil) (fun _ _ _ _ _ => (pe_op op_modN (pe_callB (cr_sumK (K := K) rfl rfl) rfl T.f_sum (by decide +kernel) (pa_cons (pe_lc (own := [("a", 4), ("b", 5)]) (g := gTup K 2 (gCons (gName 4) (gCons (gName 5) gNil))) rfl sc_applied.nd (pi_zip2K (K := K) rfl true true rfl T.f_zip (pa_cons (pv 3) (pa_cons (pv 2) pa_nil))) (blkOk_by (N := ["modulus", "matrix", "row", "line", "a", "b"]) (sc := relS _ (defScope s_applied)) (by decide +kernel)) (fun _ _ _ _ _ => (pg_tupK rfl rfl (pgs_cons (pg_name (i := 4) sc_applied.nd rfl (Or.inl rfl)) (pgs_cons (pg_name (i := 5) sc_applied.nd rfl (Or.inl rfl)) pgs_nil)))) (fun _ _ _ _ _ => pts_nil) (fun _ _ _ _ _ => (pe_op op_mulW (pv 4) (pv 5)))) pa_nil)) (pv 0)))) pa_nil)))), ?_⟩
    have hlen := hR.length
    refine ⟨_, rfl, _, rfl, ⟨vs, hA⟩, fun D hD => lc_rel (walk_tup (xs := vs)) hD (by omega) (fun i v _ => ∃ l, Am[i]? = some l ∧ v = .int (dotZ l r % M)) (fun i v H H' h _ => h) (fun H1 e => SqT.same hA e) ?_ ?_⟩
    · intro i x H1 H1' Fn Nn fin hi sm hacc hy
      obtain ⟨rfl, hx⟩ := hy
      obtain ⟨p, l, rfl, hl, hp⟩ := rows_at hR hx
      refine ⟨rfl, yesT ?_⟩
      have hll : l.length = r.length := lw _ (List.mem_of_getElem? hl)
      refine dot_read rfl rfl (t := true) (u := true) (SqT.same hp sm) (SqT.same hr2 sm) hll (by omega) (wA _ (List.mem_of_getElem? hl)) wr (fun _ _ => rfl) (fun _ _ => rfl) (fun _ _ => rfl) fun H2 s2 => ?_
      refine ⟨_, rfl, _, _, rfl, rfl, by omega, ?_⟩
      dsimp only
      rw [Int.fmod_eq_emod_of_nonneg _ (by omega)]
      exact fin _ _ s2 ⟨l, hl, rfl⟩
    · intro acc H1 e1 e2 sm hR2
      have e : acc = Am.map fun l => V.int (dotZ l r % M) := acc_map (by rw [e1, hlen]) hR2
      refine ⟨D, acc, rfl, .inl ⟨SqL.of e2, fun p hp => ?_⟩⟩
      have hpH : H p = none := by
        cases z : H p with
        | none => rfl
        | some o => rw [sm _ _ z] at hp; cases hp
      refine k p _ (fun b o z => ?_) ?_
      · rw [upd_ne (ne_of_none z hpH)]
        exact sm _ _ z
      · rw [upd_same, e]
        simp [applyM, Function.comp_def]
end
end Wk

namespace Wk
open PySem L2
def NewMat (K : PySem.W.Frag) (H : Hp) (A : Mat) (Q : VK) : Prop := ∀ p H', Same H H' → MatAt K H' p A → Q (.ref p) H'
theorem none_back {H H' : Hp} {p : Addr} (e : Same H H') (h : H' p = none) : H p = none := by
  cases z : H p with
  | none => rfl
  | some o => rw [e _ _ z] at h; cases h
theorem same_trans {H H' H2 : Hp} (a : Same H H') (b : Same H' H2) : Same H H2 := fun c o e => b _ _ (a _ _ e)
theorem rows_refs {K : PySem.W.Frag} {H : Hp} : ∀ {vs : List V} {A : Mat}, RowsAre K H vs A → ∃ ls : List Addr, vs = ls.map V.ref ∧ ls.length = A.length ∧ ∀ (k : Nat) (l : Addr) (r : List Int), ls[k]? = some l → A[k]? = some r → RowAt K H l r
  | _, _, .nil => ⟨[], rfl, rfl, fun k l r e => by simp at e⟩
  | _, _, .cons (a := a) h t => by
    obtain ⟨ls, e, hl, hh⟩ := rows_refs t
    refine ⟨a :: ls, by rw [e]; rfl, by simp [hl], fun k l r e1 e2 => ?_⟩
    cases k with
    | zero => cases e1; cases e2; exact h
    | succ k => exact hh k l r (by simpa using e1) (by simpa using e2)
theorem rows_of {K : PySem.W.Frag} {H : Hp} : ∀ {vs : List V} {A : Mat}, vs.length = A.length → (∀ (k : Nat) (v : V) (r : List Int), vs[k]? = some v → A[k]? = some r → ∃ l, v = .ref l ∧ RowAt K H l r) → RowsAre K H vs A
  | [], [], _, _ => .nil
  | [], _ :: _, h, _ => by simp at h
  | _ :: _, [], h, _ => by simp at h
  | v :: vs, r :: A, h, hh => by
    obtain ⟨l, rfl, hl⟩ := hh 0 v r rfl rfl
    exact .cons hl (rows_of (by simpa using h) fun k v' r' e1 e2 => hh (k + 1) v' r' (by simpa using e1) (by simpa using e2))
def spTrn (K : PySem.W.Frag) : Sp := fun vs H Q _ => ∃ (a : Addr) (B : Mat) (n : Nat), vs = [.ref a] ∧ MatAt K H a B ∧ 1 ≤ B.length ∧ B.length ≤ 16 ∧ 1 ≤ n ∧ n ≤ 1000 ∧ (∀ r ∈ B, r.length = n) ∧ NewMat K H (colsOf n B) Q
def spUnit : Sp := fun vs H Q _ => ∃ s p : Nat, vs = [.int (s : Int), .int (p : Int)] ∧ p < s ∧ s ≤ 1000 ∧ NewRow H (unitRow s p) Q
def spIdm (K : PySem.W.Frag) : Sp := fun vs H Q _ => ∃ s : Nat, vs = [.int (s : Int)] ∧ s ≤ 1000 ∧ NewMat K H (idM s) Q
def spProd (K : PySem.W.Frag) : Sp := fun vs H Q _ => ∃ (M : Int) (a b : Addr) (A B : Mat) (n : Nat), vs = [.int M, .ref a, .ref b] ∧ 1 ≤ M ∧ MatAt K H a A ∧ MatAt K H b B ∧ MWd A ∧ MWd B ∧ 1 ≤ B.length ∧ B.length ≤ 16 ∧ 1 ≤ n ∧ n ≤ 1000 ∧ A.length ≤ 1000 ∧ (∀ r ∈ B, r.length = n) ∧ (∀ r ∈ A, r.length = B.length) ∧
  NewMat K H (prodM M n A B) Q
theorem cols_len {n : Nat} {B : Mat} {c : List Int} (h : c ∈ colsOf n B) : c.length = B.length := by
  obtain ⟨j, _, rfl⟩ := List.mem_map.mp h
  simp
theorem cols_wd {n : Nat} {B : Mat} (h : MWd B) : MWd (colsOf n B) := by
  intro c hc x hx
  obtain ⟨j, _, rfl⟩ := List.mem_map.mp hc
  obtain ⟨r, hr, rfl⟩ := List.mem_map.mp hx
  rw [List.getD_eq_getElem?_getD]
  cases e : r[j]? with
  | none => exact (by decide : (0 : Int).natAbs < 2 ^ 200)
  | some y => exact h r hr y (List.mem_of_getElem? e)
/-- tuple * int of a tuple that stands in H -/
theorem rep_read {K : PySem.W.Frag} {H : Hp} {Q : VK} {l : Addr} {x : V} {k : Int} (hl : H l = some (.tup [x])) (h0 : -1000 ≤ k) (h1 : k ≤ 1000) (tail : ∀ q G, Same H G → G q = some (.tup (List.replicate k.toNat x)) → Q (.ref q) G) : rRepA K (.ref l) (.int k) H Q := by
  have e : ∀ n : Nat, (List.replicate n [x]).flatten = List.replicate n x := fun n => by
    induction n with
    | zero => rfl
    | succ n ih => rw [List.replicate_succ, List.flatten_cons, ih]; rfl
  refine ⟨l, k, [x], rfl, rfl, SqT.of hl, by simp, by omega, h1, (by show 1 ≤ 1000; decide), fun z => ?_, fun _ p hp => ?_⟩
  · subst z
    exact tail l H (fun _ _ e => e) hl
  · exact tail p _ (same_upd hp) (by rw [upd_same, e])
theorem cat_read {K : PySem.W.Frag} {H : Hp} {Q : VK} {a b : Addr} {xs ys : List V} (ha : H a = some (.tup xs)) (hb : H b = some (.tup ys)) (hn : xs.length + ys.length ≤ 1000000) (tail : ∀ q G, Same H G → G q = some (.tup (xs ++ ys)) → Q (.ref q) G) : rCatA K (.ref a) (.ref b) H Q := by
  refine ⟨a, b, xs, ys, rfl, rfl, SqT.of ha, SqT.of hb, Nat.le_trans hn (by decide), fun z => ?_, fun _ z => ?_, fun _ _ p hp => ?_⟩
  · subst z
    exact tail b H (fun _ _ e => e) hb
  · subst z
    exact tail a H (fun _ _ e => e) (by rw [ha]; simp)
  · exact tail p _ (same_upd hp) upd_same
theorem unit_eq (s p : Nat) (h : p < s) : (List.replicate p (V.int 0) ++ [V.int 1]) ++ List.replicate (s - p - 1) (V.int 0) = (unitRow s p).map V.int := by
  apply List.ext_getElem
  · simp [unitRow]
    omega
  · intro i h1 h2
    simp only [List.length_append, List.length_replicate, List.length_cons, List.length_nil] at h1
    simp only [unitRow, List.getElem_map, List.getElem_range]
    rcases Nat.lt_trichotomy i p with hi | hi | hi
    · rw [if_neg (by omega), List.getElem_append_left (by simp; omega), List.getElem_append_left (by simpa using hi)]
      simp
    · subst hi
      rw [if_pos rfl, List.getElem_append_left (by simp), List.getElem_append_right (by simp)]
      simp
    · rw [if_neg (by omega), List.getElem_append_right (by simp; omega)]
      simp
/-- tuple(rows), rows a list of new tuples -/
theorem tup_read {K : PySem.W.Frag} {H H' : Hp} {D : Addr} {acc : List V} {A : Mat} {Q : VK} (hD : H' D = some (.lst acc)) (hR : RowsAre K H' acc A) (sm : Same H H') (k : NewMat K H A Q) : rTupOf K [.ref D] H' Q := by
  refine ⟨D, acc, rfl, .inl ⟨SqL.of hD, fun p hp => ?_⟩⟩
  exact k p _ (same_trans sm (same_upd (none_back sm hp |> fun _ => hp))) ⟨acc, SqT.of upd_same, hR.same (same_upd hp)⟩
/-- a comprehension whose items are new rows -/
theorem lc_rows {K : PySem.W.Frag} {J : It} {n : Nat} {G : Hp → Prop} {Y : Nat → Hp → V → Hp → Prop} (w : Walk J n G Y) {g : TG} {tt : TT} {te : TE} {vs : List Nat} {σ : L2.St} {H1 : Hp} {D : Addr} {Qd : Hp → Prop} (hD : H1 D = none) (hn : n ≤ 1000000)
    (A : Mat) (hA : A.length = n) (hG : ∀ H, Same H1 H → G H)
    (hs : ∀ (i : Nat) (r : List Int) (x : V) (H H' : Hp) (Fn : V → Hp → Prop) (Nn : Hp → Prop), i < n → A[i]? = some r → (∀ p H4, Same H H4 → H4 p = some (.tup (r.map V.int)) → Fn (.ref p) H4) → Same H1 H → Y i H x H' → g x (wipe σ vs) H' fun σ2 H2 => wipe σ2 vs = wipe σ vs ∧ tt σ2 H2 fun b H3 => if b = true then te σ2 H3 Fn else Nn H3)
    (hd : ∀ (acc : List V) H, H D = some (.lst acc) → Same H1 H → RowsAre K H acc A → Qd H) :
    ∃ W : Nat → Nat → Hp → Prop, (∃ m, W 0 m (upd H1 D (.lst []))) ∧ ∀ i m H, W i m H →
      (J.stop i H ∧ Qd H) ∨ (J.go i H ∧ ∃ Nx : Hp → Prop, (∀ H', Nx H' → ∃ m', m' < m ∧ W (i + 1) m' H') ∧ ∀ x H', J.yld i H x H' → g x (wipe σ vs) H' fun σ2 H2 => wipe σ2 vs = wipe σ vs ∧ tt σ2 H2 fun b H3 =>
        if b = true then te σ2 H3 fun y H4 => ∃ acc, H4 D = some (.lst acc) ∧ acc.length < sizeLine ∧ Nx (upd H4 D (.lst (acc ++ [y]))) else Nx H3) := by
  refine lc_rel w hD hn (fun i v H => ∃ (p : Addr) (r : List Int), v = .ref p ∧ p ≠ D ∧ A[i]? = some r ∧ H p = some (.tup (r.map V.int))) (fun i v H H' ⟨p, r, h1, h2, h3, h4⟩ e => ⟨p, r, h1, h2, h3, e _ _ h2 h4⟩) hG ?_ ?_
  · intro i x H H' Fn Nn fin hi sm ⟨acc, hacc⟩ hy
    have hr : A[i]? = some (A[i]'(by omega)) := List.getElem?_eq_getElem (by omega)
    refine hs i _ x H H' Fn Nn hi hr (fun p H4 s4 h4 => fin _ _ s4 ⟨p, _, rfl, fun z => ?_, hr, h4⟩) sm hy
    rw [z, s4 _ _ hacc] at h4
    cases h4
  · intro acc H e1 e2 sm hR
    refine hd acc H e2 sm (rows_of (by rw [e1, hA]) fun k v r h1 h2 => ?_)
    obtain ⟨p, r2, rfl, _, h3, h4⟩ := hR k v h1
    rw [h2] at h3
    cases h3
    exact ⟨p, rfl, SqT.of h4⟩
section
variable {P : Program} {w : World} {K : PySem.W.Frag} {mg : Str → Option Value} {base : Heap}
theorem ok_transposed {f : Addr} {fd : FuncData} (F : Fun K "transposed" "transposed" s_transposed f fd) (T : TxtM mg) : FnOk P w K mg base CX0 1 f fd ["matrix"] (spTrn K) := by
  refine F.ok sc_transposed (fun vs H Q E h => ?_) (fun cdv A outer s H vs Q E hr h => ?_)
  · obtain ⟨a, B, n, rfl, _⟩ := h
    rfl
  · obtain ⟨a, B, n, rfl, ⟨vs, hB, hR⟩, h1, h8, n1, n2, hw, k⟩ := h
    refine ⟨_, (pss_one (ps_ret (pe_trn rfl rfl T.f_tuple rfl T.f_zip (pv 0)))), ?_⟩
    obtain ⟨ls, rfl, hl, hh⟩ := rows_refs hR
    refine ⟨_, rfl, a, ls, B.map (fun r => r.map V.int), n, rfl, .inl hB, by simp [hl], by omega, by omega, Nat.zero_le _, n2, fun i l r e1 e2 => ?_, fun as p H2 sm has hp hc => ?_⟩
    · rw [List.getElem?_map] at e2
      cases e : B[i]? with
      | none => rw [e] at e2; cases e2
      | some r0 =>
        rw [e] at e2
        cases e2
        exact ⟨hh i l r0 e1 e, by rw [List.length_map]; exact hw _ (List.mem_of_getElem? e)⟩
    · refine k p H2 sm ⟨as.map V.ref, SqT.of hp, rows_of (by simp [colsOf, has]) fun i v r e1 e2 => ?_⟩
      rw [List.getElem?_map] at e1
      cases ea : as[i]? with
      | none => rw [ea] at e1; cases e1
      | some b =>
        rw [ea] at e1
        cases e1
        have hi : i < n := by
          rw [← has]
          exact (List.getElem?_eq_some_iff.mp ea).1
        refine ⟨b, rfl, SqT.of ((hc i b ea).trans ?_)⟩
        have er : r = B.map fun r => r.getD i 0 := by
          simp only [colsOf, List.getElem?_map, List.getElem?_range hi, Option.map_some, Option.some.injEq] at e2
          exact e2.symm
        rw [er, List.map_map, List.map_map]
        congr 2
        refine List.map_congr_left fun q hq => ?_
        have hql := hw q hq
        have hq2 : i < q.length := by omega
        simp [List.getD_eq_getElem?_getD, List.getElem?_eq_getElem hq2]
theorem ok_unit {f : Addr} {fd : FuncData} (F : Fun K "unit" "unit" s_unit f fd) : FnOk P w K mg base CX0 1 f fd ["size", "place"] spUnit := by
  refine F.ok sc_unit (fun vs H Q E h => ?_) (fun cdv A outer s H vs Q E hr h => ?_)
  · obtain ⟨s, p, rfl, _⟩ := h
    rfl
  · obtain ⟨s, p, rfl, hp, hs, k⟩ := h
    refine ⟨_, (pss_one (ps_ret (pe_op (op_catAK (K := K) rfl) (pe_op (op_catAK (K := K) rfl) (pe_op (op_repAK (K := K) rfl) (pe_tup (pa_cons pe_int pa_nil)) (pv 1)) (pe_tup (pa_cons pe_int pa_nil))) (pe_op (op_repAK (K := K) rfl) (pe_tup (pa_cons pe_int pa_nil)) (pe_op op_sub (pe_op op_sub (pv 0) (pv 1)) pe_int))))), ?_⟩
    refine ⟨by decide, fun t1 n1 => ⟨_, rfl, rep_read upd_same (by omega) (by omega) fun q1 G1 s1 g1 => ⟨by decide, fun t2 n2 => cat_read (xs := List.replicate p (V.int 0)) (by rw [upd_ne (ne_of_none g1 n2)]; exact g1) upd_same ?_ fun q2 G2 s2 g2 => ?_⟩⟩⟩
    · simp
      omega
    · refine ⟨by decide, fun t3 n3 => ⟨_, rfl, _, rfl, _, _, rfl, rfl, _, _, rfl, rfl, ?_⟩⟩
      refine rep_read (k := (s : Int) - p - 1) upd_same (by omega) (by omega) fun q3 G3 s3 g3 => cat_read (s3 _ _ (by rw [upd_ne (ne_of_none g2 n3)]; exact g2)) g3 ?_ fun q4 G4 s4 g4 => ?_
      · simp
        omega
      · refine k q4 G4 (same_trans (same_upd n1) (same_trans s1 (same_trans (same_upd n2) (same_trans s2 (same_trans (same_upd n3) (same_trans s3 s4)))))) ?_
        rw [g4, ← unit_eq s p hp, show ((s : Int) - p - 1).toNat = s - p - 1 by omega]
theorem ok_product {f fT fA : Addr} {fd fdT fdA : FuncData} (F : Fun K "product" "product" s_product f fd) (T : TxtM mg) (G_transposed : FnOk P w K mg base CX0 1 fT fdT ["matrix"] (spTrn K)) (g_transposed : mg "transposed" = some (.ref fT)) (kp_transposed : PySem.W.keepIn K (.ref fT) = true)
    (b_transposed : Binds K fdT ["matrix"] []) (G_applied : FnOk P w K mg base CX0 1 fA fdA ["modulus", "matrix", "row"] (spApplied K)) (g_applied : mg "applied" = some (.ref fA)) (kp_applied : PySem.W.keepIn K (.ref fA) = true)
    (b_applied : Binds K fdA ["modulus", "matrix", "row"] []) : FnOk P w K mg base CX0 2 f fd ["modulus", "one", "other"] (spProd K) := by
  refine F.ok sc_product (fun vs H Q E h => ?_) (fun cdv A outer s H vs Q E hr h => ?_)
  · obtain ⟨M, a, b, A, B, n, rfl, _⟩ := h
    rfl
  · obtain ⟨M, a, b, Am, B, n, rfl, hM, hA, hB, wA, wB, h1, h8, n1, n2, lA, hwB, hwA, k⟩ := h
    refine ⟨_, (pss_cons (ps_set (i := 3) sc_product.nd rfl (Or.inr rfl) (pe_call G_transposed (hr.mono (by decide)) rfl g_transposed kp_transposed b_transposed .nil pass0 (pa_cons (pv 2) pa_nil)))
        (pss_one (ps_ret (pe_callTy (call_tupleK (K := K) rfl) rfl T.f_tuple (by decide +kernel) (pa_cons (pe_lc (own := [("row", 4)]) (g := gName 4) rfl sc_product.nd (pi_tup (pv 1)) (blkOk_by (N := ["modulus", "one", "other", "columns", "row"]) (sc := defScope s_product) (by decide +kernel)) (fun _ _ _ _ _ => (pg_name (i := 4) sc_product.nd rfl (Or.inl rfl))) (fun _ _ _ _ _ => pts_nil) (fun _ _ _ _ _ => (pe_call G_applied (hr.mono (by decide)) rfl g_applied kp_applied b_applied .nil pass0 (pa_cons (pv 0) (pa_cons (pv 3) (pa_cons (pv 4) pa_nil)))))) pa_nil))))), ?_⟩
    refine ⟨_, rfl, b, B, n, rfl, hB, h1, h8, n1, n2, hwB, fun p H2 s2 hC => ?_⟩
    obtain ⟨vs, hv, hR⟩ := hA
    have hlen := hR.length
    refine ⟨_, rfl, _, rfl, ⟨vs, SqT.same hv s2⟩, fun D hD => lc_rows (K := K) (walk_tup (xs := vs)) hD (by omega) (prodM M n Am B) (by simp [prodM, hlen]) (fun H3 e => SqT.same hv (same_trans s2 e)) ?_ fun acc H3 e3 s3 hR3 => tup_read e3 hR3 (same_trans s2 s3) k⟩
    intro i r x H3 H3' Fn Nn hi hr3 fin sm hy
    obtain ⟨rfl, hx⟩ := hy
    obtain ⟨q, l, rfl, hl, hq⟩ := rows_at hR hx
    have er : r = applyM M (colsOf n B) l := by
      simp only [prodM, List.getElem?_map, hl, Option.map_some, Option.some.injEq] at hr3
      exact hr3.symm
    have hlm := List.mem_of_getElem? hl
    refine ⟨rfl, yesT ⟨_, rfl, _, rfl, _, rfl, M, p, q, colsOf n B, l, rfl, hM, hC.same sm, SqT.same hq (same_trans s2 sm), ?_, wA _ hlm, by simp [colsOf]; omega, by rw [hwA _ hlm]; omega, ?_, fun p2 H4 s4 h4 => fin p2 H4 s4 (by rw [er]; exact h4)⟩⟩
    · exact cols_wd wB
    · intro c hc
      rw [hwA _ hlm]
      exact cols_len hc
end
end Wk

namespace NumI
/-- while rest != 0 (of inverse): N modulo M -/
structure EInv (N M last rest lf f : Int) : Prop where
  hl : 1 ≤ last
  hr : 0 ≤ rest
  gcd : Int.gcd last rest = Int.gcd N M
  cl : ∃ k, lf * N = last + M * k
  cf : ∃ k, f * N = rest + M * k
  sg : (0 ≤ lf ∧ f ≤ 0) ∨ (lf ≤ 0 ∧ 0 ≤ f)
  sz : (lf.natAbs : Int) * rest + (f.natAbs : Int) * last = M
theorem EInv.start {N M : Int} (h : 2 ≤ M) : EInv N M M (N % M) 0 1 := by
  refine ⟨by omega, Int.emod_nonneg _ (by omega), ?_, ⟨-1, by grind⟩, ⟨N / M, ?_⟩, .inr ⟨by omega, by omega⟩, by simp⟩
  · have e : N % M = N - (N / M) * M := by
      have := Int.emod_add_ediv_mul N M
      omega
    rw [e, Int.gcd_sub_mul_right_right, Int.gcd_comm]
  · have := Int.emod_add_mul_ediv N M
    omega
theorem EInv.f_le {N M last rest lf f : Int} (h : EInv N M last rest lf f) : (f.natAbs : Int) ≤ M ∧ last ≤ M ∨ f = 0 := by
  have h1 : 0 ≤ (lf.natAbs : Int) * rest := Int.mul_nonneg (by omega) h.hr
  have h2 := h.sz
  have h3 := h.hl
  by_cases e : f = 0
  · exact .inr e
  · refine .inl ⟨?_, ?_⟩
    · have : (f.natAbs : Int) * 1 ≤ (f.natAbs : Int) * last := Int.mul_le_mul_of_nonneg_left h3 (by omega)
      omega
    · have : 1 * last ≤ (f.natAbs : Int) * last := Int.mul_le_mul_of_nonneg_right (by omega) (by omega)
      omega
/-- the step of times -/
theorem EInv.step {N M last rest lf f : Int} (h : EInv N M last rest lf f) (h0 : rest ≠ 0) :
    EInv N M rest (last - last / rest * rest) f (lf - last / rest * f) ∧ last - last / rest * rest < rest ∧ 0 ≤ last - last / rest * rest ∧ 0 ≤ last / rest ∧ last / rest ≤ last := by
  have hr := h.hr
  have hl := h.hl
  have ht : 0 ≤ last / rest := Int.ediv_nonneg (by omega) hr
  have e : last - last / rest * rest = last % rest := by
    have := Int.emod_add_ediv_mul last rest
    omega
  have hlt : last % rest < rest := Int.emod_lt_of_pos _ (by omega)
  have hge : 0 ≤ last % rest := Int.emod_nonneg _ (by omega)
  have htl : last / rest ≤ last := Int.ediv_le_self _ (by omega)
  have hsz := h.sz
  obtain ⟨k1, c1⟩ := h.cl
  obtain ⟨k2, c2⟩ := h.cf
  have hsg := h.sg
  have hg := h.gcd
  have e2 := e
  generalize last / rest = t at *
  have key : ((lf - t * f).natAbs : Int) = lf.natAbs + t * f.natAbs := by
    rcases hsg with ⟨a, b⟩ | ⟨a, b⟩
    · have : t * f ≤ 0 := Int.mul_nonpos_of_nonneg_of_nonpos ht b
      have e1 : ((lf - t * f).natAbs : Int) = lf - t * f := by omega
      have e2 : (lf.natAbs : Int) = lf := by omega
      have e3 : (f.natAbs : Int) = - f := by omega
      rw [e1, e2, e3]; grind
    · have : 0 ≤ t * f := Int.mul_nonneg ht b
      have e1 : ((lf - t * f).natAbs : Int) = - (lf - t * f) := by omega
      have e2 : (lf.natAbs : Int) = - lf := by omega
      have e3 : (f.natAbs : Int) = f := by omega
      rw [e1, e2, e3]; grind
  refine ⟨⟨by omega, by omega, ?_, ⟨k2, c2⟩, ⟨k1 - t * k2, by grind⟩, ?_, ?_⟩, by omega, by omega, ht, htl⟩
  · rw [Int.gcd_sub_mul_right_right, Int.gcd_comm, hg]
  · rcases hsg with ⟨a, b⟩ | ⟨a, b⟩
    · have : t * f ≤ 0 := Int.mul_nonpos_of_nonneg_of_nonpos ht b
      exact .inr ⟨b, by omega⟩
    · have : 0 ≤ t * f := Int.mul_nonneg ht b
      exact .inl ⟨b, by omega⟩
  · rw [key]; grind
/-- what is handed back -/
structure InvOf (N M x : Int) : Prop where
  lo : 1 ≤ x
  hi : x < M
  one : x * N % M = 1
theorem EInv.done1 {N M last lf f : Int} (hM : 2 ≤ M) (h : EInv N M last 0 lf f) (h1 : last = 1) : Int.gcd N M = 1 ∧ InvOf N M (lf % M) := by
  have hg := h.gcd
  subst h1
  obtain ⟨k, c⟩ := h.cl
  have ho : lf % M * N % M = 1 := by
    have e : lf % M = lf - M * (lf / M) := by
      have := Int.emod_add_mul_ediv lf M
      omega
    have e2 : lf % M * N = 1 + M * (k - lf / M * N) := by rw [e]; grind
    rw [e2, Int.add_mul_emod_self_left]
    exact Int.emod_eq_of_lt (by omega) (by omega)
  refine ⟨by rw [← hg]; simp, ?_, Int.emod_lt_of_pos _ (by omega), ho⟩
  have h0 := Int.emod_nonneg lf (show M ≠ 0 by omega)
  by_cases z : lf % M = 0
  · rw [z] at ho
    simp at ho
  · omega
theorem EInv.done2 {N M last lf f : Int} (h : EInv N M last 0 lf f) (h1 : last ≠ 1) : Int.gcd N M ≠ 1 := by
  have hg := h.gcd
  have := h.hl
  rw [← hg]
  simp
  omega
end NumI

namespace Wk
open PySem L2 NumI
abbrev s_bezout : Stmt := top 14
theorem sc_bezout : FnScope ["one", "other", "last", "rest", "last_factor", "factor", "times"] ["one", "other"] (defScope s_bezout) := ⟨rfl, rfl, rfl, by decide +kernel, rfl, by decide +kernel, by decide +kernel⟩
abbrev s_multiple : Stmt := top 15
theorem sc_multiple : FnScope ["modulus", "factor", "row", "number"] ["modulus", "factor", "row"] (defScope s_multiple) := ⟨rfl, rfl, rfl, by decide +kernel, rfl, by decide +kernel, by decide +kernel⟩
abbrev s_combined : Stmt := top 16
theorem sc_combined : FnScope ["modulus", "factor", "row", "other_factor", "other", "a", "b"] ["modulus", "factor", "row", "other_factor", "other"] (defScope s_combined) := ⟨rfl, rfl, rfl, by decide +kernel, rfl, by decide +kernel, by decide +kernel⟩
abbrev s_Stairs_init : Stmt := inClass (top 17) 0
theorem sc_Stairs_init : FnScope ["self", "modulus", "places"] ["self", "modulus", "places"] (defScope s_Stairs_init) := ⟨rfl, rfl, rfl, by decide +kernel, rfl, by decide +kernel, by decide +kernel⟩
abbrev s_Stairs_put : Stmt := inClass (top 17) 1
theorem sc_Stairs_put : FnScope ["self", "row", "place"] ["self", "row"] (defScope s_Stairs_put) := ⟨rfl, rfl, rfl, by decide +kernel, rfl, by decide +kernel, by decide +kernel⟩
abbrev s_Stairs_put_at : Stmt := inClass (top 17) 2
theorem sc_Stairs_put_at : FnScope ["self", "place", "row", "modulus", "step", "number", "common", "_", "factor", "pivot", "step_factor"] ["self", "place", "row"] (defScope s_Stairs_put_at) := ⟨rfl, rfl, rfl, by decide +kernel, rfl, by decide +kernel, by decide +kernel⟩
abbrev s_Stairs_settled : Stmt := inClass (top 17) 4
theorem sc_Stairs_settled : FnScope ["self", "lessened", "place", "row", "lower", "step", "_"] ["self"] (defScope s_Stairs_settled) := ⟨rfl, rfl, rfl, by decide +kernel, rfl, by decide +kernel, by decide +kernel⟩
abbrev s_Stairs_rest_of : Stmt := inClass (top 17) 3
theorem sc_Stairs_rest_of : FnScope ["self", "row"] ["self", "row"] (defScope s_Stairs_rest_of) := ⟨rfl, rfl, rfl, by decide +kernel, rfl, by decide +kernel, by decide +kernel⟩

def spBez : Sp := fun vs H Q _ => ∃ a b : Int, vs = [.int a, .int b] ∧ 1 ≤ a ∧ 1 ≤ b ∧ a < 2 ^ 64 ∧ b < 2 ^ 64 ∧
  ∀ (g lf f : Int) (t : Addr) (H' : Hp), (g = (Int.gcd a b : Int)) → 1 ≤ g → lf * a + f * b = g → Wd lf → Wd f → Same H H' → H' t = some (.tup [.int g, .int lf, .int f]) → Q (.ref t) H'
def NewLst (H : Hp) (r : List Int) (Q : VK) : Prop := ∀ p H', Same H H' → H p = none → H' p = some (.lst (r.map V.int)) → Q (.ref p) H'
def spMul (K : PySem.W.Frag) : Sp := fun vs H Q _ => ∃ (M f : Int) (b : Addr) (r : List Int), vs = [.int M, .int f, .ref b] ∧ 1 ≤ M ∧ Wd f ∧ H b = some (.lst (r.map V.int)) ∧ RWd r ∧ r.length ≤ 1000 ∧ NewLst H (mulRow M f r) Q
def spComb (K : PySem.W.Frag) : Sp := fun vs H Q _ => ∃ (M f g : Int) (b c : Addr) (r s : List Int), vs = [.int M, .int f, .ref b, .int g, .ref c] ∧ 1 ≤ M ∧ Wd f ∧ Wd g ∧ H b = some (.lst (r.map V.int)) ∧ H c = some (.lst (s.map V.int)) ∧ RWd r ∧ RWd s ∧ r.length = s.length ∧ r.length ≤ 1000 ∧ NewLst H (comb M f r g s) Q
def mu3s (σ : L2.St) : Nat := match σ[3]? with
  | some (some (V.int y)) => y.toNat
  | _ => 0
theorem bez_last {a b last lf f : Int} (I : EInv a b last 0 lf f) (ha : 1 ≤ a) (hb : 1 ≤ b) (h1 : (lf.natAbs : Int) ≤ b) : lf * a + (last - lf * a) / b * b = last ∧ (((last - lf * a) / b).natAbs : Int) ≤ 2 * a := by
  obtain ⟨k, hk⟩ := I.cl
  have hg := I.gcd
  have hl := I.hl
  have e1 : last - lf * a = b * (-k) := by grind
  have e2 : (last - lf * a) / b = -k := by
    rw [e1]
    exact Int.mul_ediv_cancel_left _ (by omega)
  rw [e2]
  refine ⟨by grind, ?_⟩
  have hla : last ≤ a := by
    have h2 : Int.gcd last 0 = last.natAbs := Int.gcd_zero_right _
    have h3 : Int.gcd a b ≤ a.natAbs := Nat.gcd_le_left _ (by omega)
    omega
  have h4 : b * (k.natAbs : Int) ≤ last + b * a := by
    have h5 : ((b * (-k)).natAbs : Int) = b * (k.natAbs : Int) := by
      rw [Int.natAbs_mul, Int.natAbs_neg]
      have : (b.natAbs : Int) = b := by omega
      rw [Int.natCast_mul, this]
    rw [← h5, ← e1]
    have h6 : ((lf * a).natAbs : Int) ≤ b * a := by
      rw [Int.natAbs_mul, Int.natCast_mul]
      have : (a.natAbs : Int) = a := by omega
      rw [this]
      exact Int.mul_le_mul_of_nonneg_right h1 (by omega)
    omega
  rw [Int.natAbs_neg]
  have h7 : last ≤ b * last := by
    have : 1 * last ≤ b * last := Int.mul_le_mul_of_nonneg_right hb (by omega)
    omega
  have h8 : b * (k.natAbs : Int) ≤ b * (last + a) := by
    rw [Int.mul_add]
    omega
  have h9 : (k.natAbs : Int) ≤ last + a := Int.le_of_mul_le_mul_left h8 (by omega)
  omega
section
variable {P : Program} {w : World} {K : PySem.W.Frag} {mg : Str → Option Value} {base : Heap}
theorem ok_bezout {f : Addr} {fd : FuncData} (F : Fun K "bezout" "bezout" s_bezout f fd) : FnOk P w K mg base CX0 1 f fd ["one", "other"] spBez := by
  refine F.ok sc_bezout (fun vs H Q E h => ?_) (fun cdv A outer s H vs Q E hr h => ?_)
  · obtain ⟨a, b, rfl, _⟩ := h
    rfl
  · obtain ⟨n, m, rfl, hn, hm, zn, zm, k⟩ := h
    refine ⟨_, (pss_cons (ps_par (i := 2) (j := 3) rfl sc_bezout.nd rfl rfl (by decide) rfl rfl (pa_cons (pv 0) (pa_cons (pv 1) pa_nil)) (by rfl))
        (pss_cons (ps_asg (pe_tup (pa_cons pe_int (pa_cons pe_int pa_nil))) (pg_tup rfl (pgs_cons (pg_name (i := 4) sc_bezout.nd rfl (Or.inl rfl)) (pgs_cons (pg_name (i := 5) sc_bezout.nd rfl (Or.inl rfl)) pgs_nil))))
        (pss_cons (ps_while PassesOwn.never (pt_cmpR op_ne (pv 3) pe_int (nomark _)) (pss_cons (ps_set (i := 6) sc_bezout.nd rfl (Or.inl rfl) (pe_op op_fdivW (pv 2) (pv 3)))
        (pss_cons (ps_par (i := 2) (j := 3) rfl sc_bezout.nd rfl rfl (by decide) rfl rfl (pa_cons (pv 3) (pa_cons (pe_op op_sub (pv 2) (pe_op op_mulW (pv 6) (pv 3))) pa_nil)) (by rfl))
        (pss_one (ps_par (i := 4) (j := 5) rfl sc_bezout.nd rfl rfl (by decide) rfl rfl (pa_cons (pv 5) (pa_cons (pe_op op_sub (pv 4) (pe_op op_mulW (pv 6) (pv 5))) pa_nil)) (by rfl))))))
        (pss_one (ps_ret (pe_tup (pa_cons (pv 2) (pa_cons (pv 4) (pa_cons (pe_op op_fdivW (pe_op op_sub (pv 2) (pe_op op_mulW (pv 4) (pv 0))) (pv 1)) pa_nil))))))))), ?_⟩
    have sm : ∀ {x : Int}, (x.natAbs : Int) ≤ 2 * m → x.natAbs < 2 ^ 200 := fun h => by omega
    have sn : ∀ {x : Int}, (x.natAbs : Int) ≤ 2 * n → x.natAbs < 2 ^ 200 := fun h => by omega
    have wm : ∀ {x y : Int}, x.natAbs < 2 ^ 200 → y.natAbs < 2 ^ 200 → CMulW x y := fun a b => wide_mul a b (by decide) (by decide) (by decide)
    refine ⟨_, rfl, _, rfl, _, _, rfl, (by show 2 ≤ sizeLine; decide), fun t ht => ⟨t, _, rfl, SqT.of upd_same, rfl, _, _, rfl, _, _, rfl, rfl, ?_⟩⟩
    have sH : Same H (upd H t (.tup [.int 1, .int 0])) := same_upd ht
    obtain ⟨G, hG⟩ : ∃ G, G = upd H t (.tup [.int 1, .int 0]) := ⟨_, rfl⟩
    rw [← hG] at sH ⊢
    refine while_by (fun σ H' => ∃ (l r lf f : Int) (t : Option V), σ = [some (.int n), some (.int m), some (.int l), some (.int r), some (.int lf), some (.int f), t] ∧ H' = G ∧ EInv n m l r lf f ∧ (lf.natAbs : Int) ≤ m ∧ (f.natAbs : Int) ≤ m ∧ l ≤ n + m ∧ r ≤ n + m)
      (fun σ _ => mu3s σ) ?_ ?_ (fun σ H Q Q' hq ⟨v, hv, sc, k, e, q⟩ => ⟨v, hv, sc, k, e, hq _ _ q⟩)
    · refine ⟨n, m, 1, 0, none, rfl, rfl, ⟨hn, by omega, rfl, ⟨0, by omega⟩, ⟨-1, by omega⟩, .inl ⟨by omega, by omega⟩, by simp⟩, by show ((1 : Int).natAbs : Int) ≤ m; simp; omega, by show ((0 : Int).natAbs : Int) ≤ m; simp; omega, by omega, by omega⟩
    · rintro σ H' ⟨l, r, lf, f, t2, rfl, rfl, I, b1, b2, b3, b4⟩
      have hl := I.hl
      have hr0 := I.hr
      refine ⟨_, rfl, rfl, _, rfl, ?_⟩
      by_cases hz : r = 0
      · subst hz
        refine iteNS rfl ?_
        obtain ⟨z1, z2⟩ := bez_last I hn hm b1
        refine ⟨_, rfl, _, rfl, _, rfl, _, rfl, _, rfl, _, _, rfl, rfl, wm (sm (by omega)) (sn (by omega)), _, _, rfl, rfl, _, rfl, _, _, rfl, rfl, wide_div (b := 200) (by omega) (sm (by omega)) (by decide) (by decide), (by show 3 ≤ sizeLine; decide), fun p hp => ?_⟩
        refine k l lf _ p _ ?_ hl z1 (sm (by omega)) (sn z2) (same_trans sH (same_upd hp)) upd_same
        have := I.gcd
        rw [← this, Int.gcd_zero_right]
        omega
      · have e3 : (!decide (V.int r = V.int 0)) = true := by
          have : ¬ V.int r = V.int 0 := fun z => hz (by injection z)
          simp [this]
        rw [e3]
        refine iteT ?_
        obtain ⟨I2, c1, c2, c3, c4⟩ := I.step hz
        have g3 := I2.f_le
        have g4 : ((lf - l / r * f).natAbs : Int) ≤ m := by
          rcases g3 with g3 | g3
          · exact g3.1
          · rw [g3]
            simp
            omega
        have b5 : r.natAbs < 2 ^ 200 := by omega
        refine ⟨_, rfl, _, rfl, _, _, rfl, rfl, wide_div (b := 200) (by omega) b5 (by decide) (by decide), ?_⟩
        refine ⟨_, rfl, _, rfl, _, rfl, _, rfl, _, _, rfl, rfl, wm (by omega) b5, _, _, rfl, rfl, _, _, rfl, ?_⟩
        refine ⟨_, rfl, _, rfl, _, rfl, _, rfl, _, _, rfl, rfl, wm (by omega) (sm (by omega)), _, _, rfl, rfl, _, _, rfl, ?_⟩
        refine ⟨⟨r, l - l / r * r, f, lf - l / r * f, _, rfl, rfl, I2, b2, g4, b4, by omega⟩, ?_⟩
        show (l - l / r * r).toNat < r.toNat
        omega
theorem ok_multiple {f : Addr} {fd : FuncData} (F : Fun K "multiple" "multiple" s_multiple f fd) : FnOk P w K mg base CX0 1 f fd ["modulus", "factor", "row"] (spMul K) := by
  refine F.ok sc_multiple (fun vs H Q E h => ?_) (fun cdv A outer s H vs Q E hr h => ?_)
  · obtain ⟨M, f, b, r, rfl, _⟩ := h
    rfl
  · obtain ⟨M, f, b, r, rfl, hM, wf, hb, wr, lr, k⟩ := h
    refine ⟨_, (pss_one (ps_ret (pe_lc (own := [("number", 3)]) (g := gName 3) rfl sc_multiple.nd (pi_list (pv 2)) (blkOk_by (N := ["modulus", "factor", "row", "number"]) (sc := defScope s_multiple) (by decide +kernel)) (fun _ _ _ _ _ => (pg_name (i := 3) sc_multiple.nd rfl (Or.inl rfl))) (fun _ _ _ _ _ => pts_nil) (fun _ _ _ _ _ => (pe_op op_modN (pe_op op_mulW (pv 1) (pv 3)) (pv 0)))))), ?_⟩
    refine ⟨_, rfl, b, rfl, ⟨_, SqL.of hb⟩, fun D hD => lc_rel (walk_list (xs := r.map V.int)) hD (by simp; omega) (fun i v _ => ∃ x, r[i]? = some x ∧ v = .int (f * x % M)) (fun i v H H' h _ => h) (fun H1 e => SqL.of (e _ _ hb)) ?_ ?_⟩
    · intro i x H1 H1' Fn Nn fin hi sm hacc hy
      obtain ⟨rfl, hx⟩ := hy
      obtain ⟨x, gx, rfl⟩ := at_ints hx
      refine ⟨rfl, yesT ⟨_, rfl, _, rfl, _, _, rfl, rfl, wd_mul wf (wr _ (List.mem_of_getElem? gx)), _, rfl, _, _, rfl, rfl, by omega, ?_⟩⟩
      dsimp only
      rw [Int.fmod_eq_emod_of_nonneg _ (by omega)]
      exact fin _ _ (fun _ _ e => e) ⟨x, gx, rfl⟩
    · intro acc H1 e1 e2 sm hR
      have e : acc = r.map fun x => V.int (f * x % M) := acc_map (by simpa using e1) hR
      refine k D H1 sm hD ?_
      rw [e2, e]
      simp [mulRow, Function.comp_def]
theorem ok_combined {f : Addr} {fd : FuncData} (F : Fun K "combined" "combined" s_combined f fd) (T : TxtM mg) : FnOk P w K mg base CX0 1 f fd ["modulus", "factor", "row", "other_factor", "other"] (spComb K) := by
  refine F.ok sc_combined (fun vs H Q E h => ?_) (fun cdv A outer s H vs Q E hr h => ?_)
  · obtain ⟨M, f, g, b, c, r, s, rfl, _⟩ := h
    rfl
  · obtain ⟨M, f, g, b, c, r, s2, rfl, hM, wf, wg, hb, hc, wr, ws, ll, lr, k⟩ := h
    refine ⟨_, (pss_one (ps_ret (pe_lc (own := [("a", 5), ("b", 6)]) (g := gTup K 2 (gCons (gName 5) (gCons (gName 6) gNil))) rfl sc_combined.nd (pi_zip2K (K := K) rfl false false rfl T.f_zip (pa_cons (pv 2) (pa_cons (pv 4) pa_nil))) (blkOk_by (N := ["modulus", "factor", "row", "other_factor", "other", "a", "b"]) (sc := defScope s_combined) (by decide +kernel)) (fun _ _ _ _ _ => (pg_tupK rfl rfl (pgs_cons (pg_name (i := 5) sc_combined.nd rfl (Or.inl rfl)) (pgs_cons (pg_name (i := 6) sc_combined.nd rfl (Or.inl rfl)) pgs_nil)))) (fun _ _ _ _ _ => pts_nil) (fun _ _ _ _ _ => (pe_op op_modN (pe_op op_add (pe_op op_mulW (pv 1) (pv 5)) (pe_op op_mulW (pv 3) (pv 6))) (pv 0)))))), ?_⟩
    refine ⟨_, rfl, _, rfl, b, c, _, _, rfl, SqL.of hb, SqL.of hc, fun D hD => lc_rel (ZM.walk_two (n := r.length) (by simp [ll])) hD (by omega) (fun i v _ => ∃ z, (List.zipWith (fun a b => (f * a + g * b) % M) r s2)[i]? = some z ∧ v = .int z) (fun i v H H' h _ => h) (fun H1 e => ⟨SqL.of (e _ _ hb), SqL.of (e _ _ hc)⟩) ?_ ?_⟩
    · rintro i v H1 H1' Fn Nn fin hi sm hacc ⟨T, x, y, rfl, hT, rfl, hx, hy⟩
      obtain ⟨x, gx, rfl⟩ := at_ints hx
      obtain ⟨y, gy, rfl⟩ := at_ints hy
      refine ⟨T, _, rfl, SqT.of upd_same, rfl, _, _, rfl, _, _, rfl, rfl, rfl, yesT ⟨_, rfl, _, rfl, _, _, rfl, rfl, wd_mul wf (wr _ (List.mem_of_getElem? gx)), _, rfl, _, rfl, _, _, rfl, rfl, wd_mul wg (ws _ (List.mem_of_getElem? gy)), _, _, rfl, rfl, _, rfl, _, _, rfl, rfl, by omega, ?_⟩⟩
      dsimp only
      rw [Int.fmod_eq_emod_of_nonneg _ (by omega)]
      refine fin _ _ (same_upd hT) ⟨_, ?_, rfl⟩
      rw [List.getElem?_zipWith, gx, gy]
    · intro acc H1 e1 e2 sm hR
      have e : acc = (comb M f r g s2).map V.int := acc_map (by simp [comb, e1, ll]) hR
      exact k D H1 sm hD (by rw [e2, e])
end
end Wk

namespace Wk
open PySem L2 NumI
/-! ### the stairs as an object -/
theorem kms : ¬ (Str.ofString "modulus" = Str.ofString "steps") := by decide +kernel
def flS (M : Int) (l : Addr) : List (Str × V) := putF "steps" (.ref l) (putF "modulus" (.int M) [])
theorem flS_m (M : Int) (l : Addr) : (flS M l).lookup ("modulus" : Str) = some (V.int M) := by
  unfold flS
  rw [lookup_putF, if_neg kms, lookup_putF, if_pos rfl]
theorem flS_s (M : Int) (l : Addr) : (flS M l).lookup ("steps" : Str) = some (V.ref l) := by
  unfold flS
  rw [lookup_putF, if_pos rfl]
theorem flS_no (M : Int) (l : Addr) {m : Str} (h1 : ¬ m = "modulus") (h2 : ¬ m = "steps") : (flS M l).lookup m = none := by
  unfold flS
  rw [lookup_putF, if_neg h2, lookup_putF, if_neg h1]
  rfl
structure TxtS (K : PySem.W.Frag) (mg : Str → Option Value) (C fI fP fA fS : Addr) : Prop where
  cl : Cls K C
  nM : NoAttr K C "modulus"
  nS : NoAttr K C "steps"
  mgC : mg "Stairs" = some (.ref C)
  mkr : Mk K C fI
  m_put : Meth K C "put" fP
  m_put_at : Meth K C "put_at" fA
  m_settled : Meth K C "settled" fS
  f_tuple : mg "tuple" = none
  f_range : mg "range" = none
  f_len : mg "len" = none
  f_reversed : mg "reversed" = none
  f_list : mg "list" = none
  f_enumerate : mg "enumerate" = none
/-- the steps' list holds None or a list of ints at each place -/
inductive StepsAre (l : Addr) (H : Hp) : List V → List (Option Row) → Prop
  | nil : StepsAre l H [] []
  | no {vs : List V} {S : List (Option Row)} : StepsAre l H vs S → StepsAre l H (.non :: vs) (none :: S)
  | yes {a : Addr} {r : Row} {vs : List V} {S : List (Option Row)} : a ≠ l → H a = some (.lst (r.map V.int)) → StepsAre l H vs S → StepsAre l H (.ref a :: vs) (some r :: S)
theorem StepsAre.length {l : Addr} {H : Hp} : ∀ {vs : List V} {S : List (Option Row)}, StepsAre l H vs S → vs.length = S.length
  | _, _, .nil => rfl
  | _, _, .no h => by simp [h.length]
  | _, _, .yes _ _ h => by simp [h.length]
theorem StepsAre.mono {l : Addr} {H H' : Hp} (e : But l H H') : ∀ {vs : List V} {S : List (Option Row)}, StepsAre l H vs S → StepsAre l H' vs S
  | _, _, .nil => .nil
  | _, _, .no h => .no (h.mono e)
  | _, _, .yes a b h => .yes a (e _ _ a b) (h.mono e)
theorem StepsAre.at_ {l : Addr} {H : Hp} : ∀ {vs : List V} {S : List (Option Row)}, StepsAre l H vs S → ∀ {i : Nat} {o : Option Row}, S[i]? = some o → (o = none ∧ vs[i]? = some .non) ∨ ∃ a r, o = some r ∧ vs[i]? = some (.ref a) ∧ a ≠ l ∧ H a = some (.lst (r.map V.int))
  | _, _, .nil, i, o, h => by simp at h
  | _, _, .no h, 0, o, e => by cases e; exact .inl ⟨rfl, rfl⟩
  | _, _, .yes a b h, 0, o, e => by cases e; exact .inr ⟨_, _, rfl, rfl, a, b⟩
  | _, _, .no h, i + 1, o, e => h.at_ (i := i) (by simpa using e)
  | _, _, .yes _ _ h, i + 1, o, e => h.at_ (i := i) (by simpa using e)
theorem StepsAre.set {l a : Addr} {H : Hp} {r : Row} (n : a ≠ l) (ha : H a = some (.lst (r.map V.int))) : ∀ {vs : List V} {S : List (Option Row)} (i : Nat), StepsAre l H vs S → StepsAre l H (vs.set i (.ref a)) (S.set i (some r))
  | _, _, _, .nil => .nil
  | _, _, 0, .no h => .yes n ha h
  | _, _, 0, .yes _ _ h => .yes n ha h
  | _, _, i + 1, .no h => .no (h.set n ha i)
  | _, _, i + 1, .yes p q h => .yes p q (h.set n ha i)
theorem StepsAre.nones (l : Addr) (H : Hp) : ∀ n : Nat, StepsAre l H (List.replicate n .non) (List.replicate n none)
  | 0 => .nil
  | n + 1 => .no (StepsAre.nones l H n)
def StAt (C : Addr) (H : Hp) (p l : Addr) (M : Int) (S : List (Option Row)) : Prop := (∃ dx, H p = some (.ins C dx (flS M l))) ∧ ∃ vs, H l = some (.lst vs) ∧ StepsAre l H vs S
theorem StAt.same {C : Addr} {H H' : Hp} {p l : Addr} {M : Int} {S : List (Option Row)} (h : StAt C H p l M S) (e : Same H H') : StAt C H' p l M S := by
  obtain ⟨⟨dx, h1⟩, vs, h2, h3⟩ := h
  exact ⟨⟨dx, e _ _ h1⟩, vs, e _ _ h2, h3.mono fun b o _ q => e b o q⟩
def spPutAt (C : Addr) : Sp := fun vs H Q _ => ∃ (p l b : Addr) (i : Nat) (M N : Int) (W n : Nat) (S : List (Option Row)) (r : Row), vs = [.ref p, .int (i : Int), .ref b] ∧ StAt C H p l M S ∧ 2 ≤ M ∧ M < 2 ^ 64 ∧ W ≤ 1000 ∧ WF M W n S ∧ i < n ∧ r.length = W ∧ RRed M r ∧ r[i]? = some N ∧ 1 ≤ N ∧
  H b = some (.lst (r.map V.int)) ∧ b ≠ l ∧ ∀ (S' : List (Option Row)) (r' : Row) (b' : Addr) (H' : Hp), PutStep M i S r N S' r' → But l H H' → StAt C H' p l M S' → H' b' = some (.lst (r'.map V.int)) → b' ≠ l → Q (.ref b') H'
theorem ix_at {n j : Nat} (h : j < n) : ixN n (j : Int) = some j := by
  unfold ixN
  rw [if_pos (by omega), if_pos (by omega), Int.toNat_natCast]
theorem zdiv_wd {a b : Int} (ha : 0 ≤ a) (hb : 0 ≤ b) (h : a < 2 ^ 64) : Wd (a / b) ∧ Wd (-(a / b)) := by
  have := Int.ediv_le_self b ha
  have := Int.ediv_nonneg ha hb
  constructor <;> (show Int.natAbs _ < 2 ^ 200; omega)
theorem rred_wd {M : Int} {r : Row} (h : RRed M r) (hM : M < 2 ^ 64) : RWd r := fun x hx => by
  have := h x hx
  show x.natAbs < 2 ^ 200
  omega
section
variable {P : Program} {w : World} {K : PySem.W.Frag} {mg : Str → Option Value} {base : Heap} {C fI fP fA fS : Addr}
theorem ok_put_at {f fB fM fC : Addr} {fd fdB fdM fdC : FuncData} (F : Fun K "put_at" "Stairs.put_at" s_Stairs_put_at f fd) (T : TxtS K mg C fI fP fA fS)
    (G_bezout : FnOk P w K mg base CX0 1 fB fdB ["one", "other"] spBez) (g_bezout : mg "bezout" = some (.ref fB)) (kp_bezout : PySem.W.keepIn K (.ref fB) = true) (b_bezout : Binds K fdB ["one", "other"] [])
    (G_multiple : FnOk P w K mg base CX0 1 fM fdM ["modulus", "factor", "row"] (spMul K)) (g_multiple : mg "multiple" = some (.ref fM)) (kp_multiple : PySem.W.keepIn K (.ref fM) = true) (b_multiple : Binds K fdM ["modulus", "factor", "row"] [])
    (G_combined : FnOk P w K mg base CX0 1 fC fdC ["modulus", "factor", "row", "other_factor", "other"] (spComb K)) (g_combined : mg "combined" = some (.ref fC)) (kp_combined : PySem.W.keepIn K (.ref fC) = true) (b_combined : Binds K fdC ["modulus", "factor", "row", "other_factor", "other"] []) :
    FnOk P w K mg base CX0 2 f fd ["self", "place", "row"] (spPutAt C) := by
  refine F.ok sc_Stairs_put_at (fun vs H Q E h => ?_) (fun cdv A outer s H vs Q E hr h => ?_)
  · obtain ⟨p, l, b, i, M, N, W, n, S, r, rfl, _⟩ := h
    rfl
  · obtain ⟨p, l, b, i, M, N, W, n, S, r, rfl, ⟨⟨dx, hp⟩, vs, hl, hS⟩, hM, hM2, hW, wf, hi, hrl, hrr, hN, hN1, hb, hbl, k⟩ := h
    refine ⟨_, (pss_cons (ps_par3 (i := 3) (j := 4) (l := 5) rfl sc_Stairs_put_at.nd rfl rfl rfl (by decide) (by decide) (by decide) rfl rfl rfl (pa_cons (pe_fld (pv 0) rfl) (pa_cons (pe_ix ix_list (pe_fld (pv 0) rfl) (pv 1) (fun _ _ => rfl)) (pa_cons (pe_ix ix_list (pv 2) (pv 1) (fun _ _ => rfl)) pa_nil))) (by rfl))
        (pss_cons (ps_if (pt_cmpR op_isN (pv 4) pe_non (nomark _)) (pss_cons (ps_asg (pe_call G_bezout (hr.mono (by decide)) rfl g_bezout kp_bezout b_bezout .nil pass0 (pa_cons (pv 3) (pa_cons (pv 5) pa_nil))) (pg_tup rfl (pgs_cons (pg_name (i := 6) sc_Stairs_put_at.nd rfl (Or.inl rfl)) (pgs_cons (pg_name (i := 7) sc_Stairs_put_at.nd rfl (Or.inl rfl)) (pgs_cons (pg_name (i := 8) sc_Stairs_put_at.nd rfl (Or.inl rfl)) pgs_nil)))))
        (pss_cons (ps_asg (pe_call G_multiple (hr.mono (by decide)) rfl g_multiple kp_multiple b_multiple .nil pass0 (pa_cons (pv 3) (pa_cons (pv 8) (pa_cons (pv 2) pa_nil)))) (pg_sub (pe_fld (pv 0) rfl) (pv 1) set_list))
        (pss_one (ps_ret (pe_call G_multiple (hr.mono (by decide)) rfl g_multiple kp_multiple b_multiple .nil pass0 (pa_cons (pv 3) (pa_cons (pe_op op_fdivW (pv 3) (pv 6)) (pa_cons (pv 2) pa_nil)))))))) pss_nil)
        (pss_cons (ps_set (i := 9) sc_Stairs_put_at.nd rfl (Or.inl rfl) (pe_ix ix_list (pv 4) (pv 1) (fun _ _ => rfl)))
        (pss_cons (ps_if (pt_cmpR op_eq (pe_op op_modN (pv 5) (pv 9)) pe_int (nomark _)) (pss_one (ps_ret (pe_call G_combined (hr.mono (by decide)) rfl g_combined kp_combined b_combined .nil pass0 (pa_cons (pv 3) (pa_cons pe_int (pa_cons (pv 2) (pa_cons (pe_un un_neg (pe_op op_fdivW (pv 5) (pv 9))) (pa_cons (pv 4) pa_nil)))))))) pss_nil)
        (pss_cons (ps_asg (pe_call G_bezout (hr.mono (by decide)) rfl g_bezout kp_bezout b_bezout .nil pass0 (pa_cons (pv 9) (pa_cons (pv 5) pa_nil))) (pg_tup rfl (pgs_cons (pg_name (i := 6) sc_Stairs_put_at.nd rfl (Or.inl rfl)) (pgs_cons (pg_name (i := 10) sc_Stairs_put_at.nd rfl (Or.inl rfl)) (pgs_cons (pg_name (i := 8) sc_Stairs_put_at.nd rfl (Or.inl rfl)) pgs_nil)))))
        (pss_cons (ps_asg (pe_call G_combined (hr.mono (by decide)) rfl g_combined kp_combined b_combined .nil pass0 (pa_cons (pv 3) (pa_cons (pv 8) (pa_cons (pv 2) (pa_cons (pv 10) (pa_cons (pv 4) pa_nil)))))) (pg_sub (pe_fld (pv 0) rfl) (pv 1) set_list))
        (pss_one (ps_ret (pe_call G_combined (hr.mono (by decide)) rfl g_combined kp_combined b_combined .nil pass0 (pa_cons (pv 3) (pa_cons (pe_op op_fdivW (pv 9) (pv 6)) (pa_cons (pv 2) (pa_cons (pe_un un_neg (pe_op op_fdivW (pv 5) (pv 6))) (pa_cons (pv 4) pa_nil)))))))))))))), ?_⟩
    have hSi : S[i]? = some (S[i]'(by rw [wf.len]; exact hi)) := List.getElem?_eq_getElem (by rw [wf.len]; exact hi)
    have hrN : (r.map V.int)[i]? = some (.int N) := by rw [List.getElem?_map, hN]; rfl
    have wr := rred_wd hrr hM2
    have wM : Wd M := by show M.natAbs < 2 ^ 200; omega
    have hNM : N < M := (hrr N (List.mem_of_getElem? hN)).2
    rcases hS.at_ hSi with ⟨e0, ev⟩ | ⟨a, s2, e0, ev, hal, ha⟩
    · refine ⟨_, rfl, p, C, dx, _, _, rfl, hp, T.cl, T.nM, flS_m M l, ?_⟩
      refine ⟨_, rfl, p, C, dx, _, _, rfl, hp, T.cl, T.nS, flS_s M l, _, rfl, l, vs, _, _, rfl, rfl, SqL.of hl, atI_nat ev, ?_⟩
      refine ⟨_, rfl, _, rfl, b, _, _, _, rfl, rfl, SqL.of hb, atI_nat hrN, _, _, _, rfl, ?_⟩
      refine ⟨_, rfl, rfl, true, congrArg V.bl (decide_eq_true rfl), iteT ?_⟩
      refine ⟨_, rfl, _, rfl, M, N, rfl, by omega, hN1, hM2, by omega, fun g lf f t H1 hg g1 hbz wlf wff sm ht => ?_⟩
      refine ⟨t, _, rfl, SqT.of ht, rfl, _, _, rfl, _, _, rfl, _, _, rfl, rfl, ?_⟩
      refine ⟨_, rfl, _, rfl, _, rfl, M, f, b, r, rfl, by omega, wff, sm _ _ hb, wr, by omega, fun q H2 s2 nq hq => ?_⟩
      refine ⟨_, rfl, p, C, dx, _, _, rfl, s2 _ _ (sm _ _ hp), T.cl, T.nS, flS_s M l, _, rfl, l, vs, _, i, rfl, rfl, s2 _ _ (sm _ _ hl), ix_at (by rw [hS.length, wf.len]; exact hi), ?_⟩
      have hgM : g.natAbs < 2 ^ 200 := by
        have : Int.gcd M N ≤ M.natAbs := Nat.gcd_le_left _ (by omega)
        omega
      have hql : q ≠ l := fun z => by rw [z, sm _ _ hl] at nq; cases nq
      have hpl : p ≠ l := fun z => by rw [z, hl] at hp; cases hp
      have b1 : But l H (upd H2 l (.lst (vs.set i (.ref q)))) := fun c o n e => by
        rw [upd_ne n]
        exact s2 _ _ (sm _ _ e)
      have st : StAt C (upd H2 l (.lst (vs.set i (.ref q)))) p l M (S.set i (some (mulRow M f r))) := ⟨⟨dx, b1 _ _ hpl hp⟩, _, upd_same, (hS.mono b1).set hql (by rw [upd_ne hql]; exact hq) i⟩
      refine ⟨_, rfl, _, rfl, _, rfl, _, _, rfl, rfl, wide_div (b := 200) (by omega) hgM (by decide) (by decide), _, rfl, M, M / g, b, r, rfl, by omega, ?_, b1 _ _ hbl hb, wr, by omega, fun q2 H3 s3 nq2 hq2 => ?_⟩
      · show (M / g).natAbs < 2 ^ 200
        have := Int.ediv_le_self g (show 0 ≤ M by omega)
        have := Int.ediv_nonneg (show 0 ≤ M by omega) (show 0 ≤ g by omega)
        omega
      · refine k _ _ q2 H3 (.inl ⟨by rw [hSi, e0], g, lf, f, hg, g1, hbz, rfl, rfl⟩) (b1.same s3) (st.same s3) hq2 fun z => ?_
        rw [z, upd_same] at nq2
        cases nq2
    · obtain ⟨hsl, hsr, ⟨P, hP, hP1, _⟩, _⟩ := wf.row i s2 (by rw [hSi, e0])
      have hsP : (s2.map V.int)[i]? = some (.int P) := by rw [List.getElem?_map, hP]; rfl
      have ws := rred_wd hsr hM2
      have hPM : P < M := (hsr P (List.mem_of_getElem? hP)).2
      have hPw : P.natAbs < 2 ^ 200 := by omega
      have hpl : p ≠ l := fun z => by rw [z, hl] at hp; cases hp
      refine ⟨_, rfl, p, C, dx, _, _, rfl, hp, T.cl, T.nM, flS_m M l, ?_⟩
      refine ⟨_, rfl, p, C, dx, _, _, rfl, hp, T.cl, T.nS, flS_s M l, _, rfl, l, vs, _, _, rfl, rfl, SqL.of hl, atI_nat ev, ?_⟩
      refine ⟨_, rfl, _, rfl, b, _, _, _, rfl, rfl, SqL.of hb, atI_nat hrN, _, _, _, rfl, ?_⟩
      refine ⟨_, rfl, rfl, false, congrArg V.bl (decide_eq_false (by intro z; cases z)), iteF ?_⟩
      refine ⟨_, rfl, _, rfl, a, _, _, _, rfl, rfl, SqL.of ha, atI_nat hsP, ?_⟩
      refine ⟨_, rfl, _, rfl, _, _, rfl, rfl, by omega, rfl, _, rfl, ?_⟩
      have ef : N.fmod P = N % P := Int.fmod_eq_emod_of_nonneg _ (by omega)
      refine ite2 (fun hd => ?_) (fun hd => ?_)
      · have h0 : N % P = 0 := by
          have this : V.int (N.fmod P) = V.int 0 := of_decide_eq_true hd
          rw [ef] at this
          injection this
        refine ⟨_, rfl, _, rfl, _, rfl, _, rfl, _, _, rfl, rfl, wide_div (b := 200) (by omega) hPw (by decide) (by decide), _, rfl, _, rfl, M, 1, -(N / P), b, a, r, s2, rfl, by omega, (by show (1 : Int).natAbs < 2 ^ 200; decide), (zdiv_wd (by omega) (by omega) (by omega)).2, hb, ha, wr, ws, by omega, by omega, fun q H2 s2' nq hq => ?_⟩
        refine k S _ q H2 (.inr ⟨s2, P, by rw [hSi, e0], hP, .inl ⟨h0, rfl, rfl⟩⟩) (fun c o n e => s2' _ _ e) (StAt.same ⟨⟨dx, hp⟩, vs, hl, hS⟩ s2') hq fun z => ?_
        rw [z, hl] at nq
        cases nq
      · refine ⟨_, rfl, _, rfl, P, N, rfl, hP1, hN1, by omega, by omega, fun g lf f t H1 hg g1 hbz wlf wff sm ht => ?_⟩
        refine ⟨t, _, rfl, SqT.of ht, rfl, _, _, rfl, _, _, rfl, _, _, rfl, rfl, ?_⟩
        refine ⟨_, rfl, _, rfl, _, rfl, _, rfl, _, rfl, M, f, lf, b, a, r, s2, rfl, by omega, wff, wlf, sm _ _ hb, sm _ _ ha, wr, ws, by omega, by omega, fun q H2 s2' nq hq => ?_⟩
        refine ⟨_, rfl, p, C, dx, _, _, rfl, s2' _ _ (sm _ _ hp), T.cl, T.nS, flS_s M l, _, rfl, l, vs, _, i, rfl, rfl, s2' _ _ (sm _ _ hl), ix_at (by rw [hS.length, wf.len]; exact hi), ?_⟩
        have hgM : g.natAbs < 2 ^ 200 := by
          have : Int.gcd P N ≤ P.natAbs := Nat.gcd_le_left _ (by omega)
          omega
        have hql : q ≠ l := fun z => by rw [z, sm _ _ hl] at nq; cases nq
        have b1 : But l H (upd H2 l (.lst (vs.set i (.ref q)))) := fun c o n e => by
          rw [upd_ne n]
          exact s2' _ _ (sm _ _ e)
        have st : StAt C (upd H2 l (.lst (vs.set i (.ref q)))) p l M (S.set i (some (comb M f r lf s2))) := ⟨⟨dx, b1 _ _ hpl hp⟩, _, upd_same, (hS.mono b1).set hql (by rw [upd_ne hql]; exact hq) i⟩
        refine ⟨_, rfl, _, rfl, _, rfl, _, _, rfl, rfl, wide_div (b := 200) (by omega) hgM (by decide) (by decide), _, rfl, _, rfl, _, rfl, _, _, rfl, rfl, wide_div (b := 200) (by omega) hgM (by decide) (by decide), _, rfl, _, rfl, M, P / g, -(N / g), b, a, r, s2, rfl, by omega, (zdiv_wd (by omega) (by omega) (by omega)).1, (zdiv_wd (by omega) (by omega) (by omega)).2, b1 _ _ hbl hb, b1 _ _ hal ha, wr, ws, by omega, by omega, fun q2 H3 s3 nq2 hq2 => ?_⟩
        refine k _ _ q2 H3 (.inr ⟨s2, P, by rw [hSi, e0], hP, .inr ⟨g, lf, f, hg, g1, hbz, rfl, rfl⟩⟩) (b1.same s3) (st.same s3) hq2 fun z => ?_
        rw [z, upd_same] at nq2
        cases nq2
end
end Wk

namespace Wk
open PySem L2 NumI
def spStInit (C : Addr) : Sp := fun vs H Q _ => ∃ (p dx : Addr) (M : Int) (n : Nat), vs = [.ref p, .int M, .int (n : Int)] ∧ H p = some (.ins C dx []) ∧ n ≤ 1000 ∧
  ∀ (l : Addr) (H' : Hp), But p H H' → H l = none → StAt C H' p l M (List.replicate n none) → Q .non H'
def spPut (C : Addr) : Sp := fun vs H Q _ => ∃ (p l b : Addr) (M : Int) (W n : Nat) (S : List (Option Row)) (r : Row), vs = [.ref p, .ref b] ∧ StAt C H p l M S ∧ 2 ≤ M ∧ M < 2 ^ 64 ∧ W ≤ 1000 ∧ n ≤ W ∧ WF M W n S ∧ r.length = W ∧ RRed M r ∧
  H b = some (.lst (r.map V.int)) ∧ b ≠ l ∧ ∀ (S' : List (Option Row)) (r' : Row) (b' : Addr) (H' : Hp), Ch M S r n S' r' → But l H H' → StAt C H' p l M S' → H' b' = some (.lst (r'.map V.int)) → b' ≠ l → Q (.ref b') H'
def spSettled (K : PySem.W.Frag) (C : Addr) : Sp := fun vs H Q _ => ∃ (p l : Addr) (M : Int) (W n : Nat) (S : List (Option Row)), vs = [.ref p] ∧ StAt C H p l M S ∧ 2 ≤ M ∧ M < 2 ^ 64 ∧ W ≤ 1000 ∧ n ≤ W ∧ WF M W n S ∧
  NewMat K H ((settle M n S n).map (·.2)) Q
theorem flat_rep {α : Type} {x : α} (n : Nat) : (List.replicate n [x]).flatten = List.replicate n x := by
  induction n with
  | zero => rfl
  | succ n ih => rw [List.replicate_succ, List.flatten_cons, ih]; rfl
theorem But.trans {l : Addr} {H H' H2 : Hp} (a : But l H H') (b : But l H' H2) : But l H H2 := fun c o n e => b c o n (a c o n e)
section
variable {P : Program} {w : World} {K : PySem.W.Frag} {mg : Str → Option Value} {base : Heap} {C fI fP fA fS : Addr}
theorem ok_st_init {f : Addr} {fd : FuncData} (F : Fun K "__init__" "Stairs.__init__" s_Stairs_init f fd) (T : TxtS K mg C fI fP fA fS) : FnOk P w K mg base CX0 1 f fd ["self", "modulus", "places"] (spStInit C) := by
  refine F.ok sc_Stairs_init (fun vs H Q E h => ?_) (fun cdv A outer s H vs Q E hr h => ?_)
  · obtain ⟨p, dx, M, n, rfl, _⟩ := h
    rfl
  · obtain ⟨p, dx, M, n, rfl, hp, hn, k⟩ := h
    refine ⟨_, (pss_cons (ps_fld (pv 0) (pv 1) rfl)
        (pss_one (ps_fld (pv 0) (pe_op op_rep (pe_lst (pa_cons pe_non pa_nil)) (pv 2)) rfl))), ?_⟩
    refine ⟨_, rfl, _, rfl, p, C, dx, _, rfl, hp, T.cl, T.nM, (by show 0 < 1000; decide), ?_⟩
    refine ⟨(by show 1 ≤ sizeLine; decide), fun q hq => ⟨_, rfl, q, n, [.non], rfl, rfl, upd_same, by omega, by omega, Nat.le_trans (by simp; omega) (show 1000 ≤ sizeLine by decide), fun l hl => ⟨_, rfl, p, C, dx, putF "modulus" (.int M) [], rfl, ?_, T.cl, T.nS, (by show 1 < 1000; decide), ?_⟩⟩⟩
    · rw [upd_ne (fun z => by rw [← z, upd_ne (fun y => by rw [← y, upd_same] at hq; cases hq), upd_same] at hl; cases hl), upd_ne (fun y => by rw [← y, upd_same] at hq; cases hq), upd_same]
    · have hqp : p ≠ q := fun y => by rw [← y, upd_same] at hq; cases hq
      have hlp : p ≠ l := fun y => by rw [← y, upd_ne hqp, upd_same] at hl; cases hl
      have hlq : l ≠ q := fun y => by rw [y, upd_same] at hl; cases hl
      refine k l _ (fun b o n e => ?_) ?_ ⟨⟨dx, upd_same⟩, List.replicate n .non, ?_, .nones l _ n⟩
      · have bq : b ≠ q := fun y => by
          subst y
          rw [upd_ne (Ne.symm hqp), e] at hq
          cases hq
        have bl : b ≠ l := fun y => by rw [← y, upd_ne bq, upd_ne n, e] at hl; cases hl
        rw [upd_ne n, upd_ne bl, upd_ne bq, upd_ne n]
        exact e
      · rw [upd_ne hlq, upd_ne (Ne.symm hlp)] at hl
        exact hl
      · rw [upd_ne (Ne.symm hlp), upd_same]
        congr 2
        rw [Int.toNat_natCast]
        exact flat_rep n
theorem ok_put {f : Addr} {fd fdA : FuncData} (F : Fun K "put" "Stairs.put" s_Stairs_put f fd) (T : TxtS K mg C fI fP fA fS)
    (G_put_at : FnOk P w K mg base CX0 2 fA fdA ["self", "place", "row"] (spPutAt C)) (b_put_at : Binds K fdA ["self", "place", "row"] []) :
    FnOk P w K mg base CX0 3 f fd ["self", "row"] (spPut C) := by
  refine F.ok sc_Stairs_put (fun vs H Q E h => ?_) (fun cdv A outer s H vs Q E hr h => ?_)
  · obtain ⟨p, l, b, M, W, n, S, r, rfl, _⟩ := h
    rfl
  · obtain ⟨p, l, b, M, W, n, S, r, rfl, hSt, hM, hM2, hW, hn, wf, hrl, hrr, hb, hbl, k⟩ := h
    refine ⟨_, (pss_cons (ps_for PassesOwn.never rfl (pi_range1 rfl T.f_range (pa_cons (pe_callB call_len_seq rfl T.f_len PySem.boot_len (pa_cons (pe_fld (pv 0) rfl) pa_nil)) pa_nil)) (pg_name (i := 2) sc_Stairs_put.nd rfl (Or.inl rfl)) (pss_one (ps_if (pt_cmpR op_ne (pe_ix ix_list (pv 1) (pv 2) (fun _ _ => rfl)) pe_int (nomark _)) (pss_one (ps_set (i := 1) sc_Stairs_put.nd rfl (Or.inl rfl) (pe_meth (pv 0) T.cl T.m_put_at G_put_at (hr.mono (by decide)) b_put_at .nil pass0 (pa_cons (pv 2) (pa_cons (pv 1) pa_nil))))) pss_nil)))
        (pss_one (ps_ret (pv 1)))), ?_⟩
    obtain ⟨⟨dx, hp⟩, vs, hl, hS⟩ := id hSt
    have hvl : vs.length = n := hS.length.trans wf.len
    refine ⟨_, rfl, p, C, dx, _, _, rfl, hp, T.cl, T.nS, flS_s M l, _, _, rfl, .inl (SqL.of hl), (n : Int), (by rw [hvl]), by omega, by omega, ?_⟩
    refine for_it (walk_range (lo := 0) (n := n)) (fun i σ H' => ∃ (x : Option V) (b' : Addr) (S' : List (Option Row)) (r' : Row), σ = [some (.ref p), some (.ref b'), x] ∧ Ch M S r i S' r' ∧ But l H H' ∧ StAt C H' p l M S' ∧ H' b' = some (.lst (r'.map V.int)) ∧ b' ≠ l) ⟨none, b, S, r, rfl, .base, fun _ _ _ e => e, hSt, hb, hbl⟩ (fun _ _ _ _ _ => trivial) ?_ ?_
    · rintro i v σ H1 H1' hi ⟨x, b', S', r', rfl, ch, bt, st, hb', hbl'⟩ ⟨rfl, rfl⟩
      obtain ⟨wf', hl', hr', hz'⟩ := ch.wf hM wf hrl hrr
      have hil : i < r'.length := by omega
      have hri : r'[i]? = some r'[i] := List.getElem?_eq_getElem hil
      have hrN : (r'.map V.int)[i]? = some (.int r'[i]) := by rw [List.getElem?_map, hri]; rfl
      obtain ⟨⟨dx', hp'⟩, _⟩ := id st
      show tIfS _ _ _ _ [some (V.ref p), some (V.ref b'), some (V.int (0 + (i : Int)))] H1'
      rw [Int.zero_add]
      refine ⟨_, rfl, _, rfl, b', _, _, _, rfl, rfl, SqL.of hb', atI_nat hrN, rfl, _, rfl, ?_⟩
      by_cases h0 : r'[i] = 0
      · rw [h0]
        refine iteNS rfl ?_
        exact ⟨_, b', S', r', rfl, ch.skip (by rw [hri, h0]), bt, st, hb', hbl'⟩
      · have e3 : (!decide (V.int r'[i] = V.int 0)) = true := by
          have : ¬ V.int r'[i] = V.int 0 := fun z => h0 (by injection z)
          simp [this]
        rw [e3]
        refine iteT ?_
        have hN0 := hr' _ (List.mem_of_getElem? hri)
        refine ⟨_, rfl, p, dx', flS M l, rfl, hp', flS_no M l (by decide +kernel) (by decide +kernel), _, rfl, _, rfl, p, l, b', i, M, r'[i], W, n, S', r', rfl, st, hM, hM2, hW, wf', hi, hl', hr', hri, by omega, hb', hbl', fun S2 r2 b2 H2 ps bt2 st2 hb2 hbl2 => ?_⟩
        exact ⟨_, b2, S2, r2, rfl, ch.step hri (by omega) ps, bt.trans bt2, st2, hb2, hbl2⟩
    · rintro σ H1 ⟨x, b', S', r', rfl, ch, bt, st, hb', hbl'⟩
      exact ⟨_, rfl, k S' r' b' H1 ch bt st hb' hbl'⟩
/-- pairs of a place and a row, in a list at t -/
def PairsAre (t : Addr) (H : Hp) (us : List V) (L : List (Nat × Row)) : Prop := us.length = L.length ∧ ∀ (k q : Nat) (s : Row), L[k]? = some (q, s) → ∃ u a, us[k]? = some (.ref u) ∧ u ≠ t ∧ a ≠ t ∧ H u = some (.tup [.int (q : Int), .ref a]) ∧ H a = some (.lst (s.map V.int))
theorem PairsAre.mono {t : Addr} {H H' : Hp} {us : List V} {L : List (Nat × Row)} (h : PairsAre t H us L) (e : But t H H') : PairsAre t H' us L := ⟨h.1, fun k q s z => by
  obtain ⟨u, a, h1, h2, h3, h4, h5⟩ := h.2 k q s z
  exact ⟨u, a, h1, h2, h3, e _ _ h2 h4, e _ _ h3 h5⟩⟩
theorem PairsAre.snoc {t : Addr} {H : Hp} {us : List V} {L : List (Nat × Row)} {u a : Addr} {q : Nat} {s : Row} (h : PairsAre t H us L) (h2 : u ≠ t) (h3 : a ≠ t) (h4 : H u = some (.tup [.int (q : Int), .ref a])) (h5 : H a = some (.lst (s.map V.int))) : PairsAre t H (us ++ [.ref u]) (L ++ [(q, s)]) := by
  refine ⟨by simp [h.1], fun k q2 s2 e => ?_⟩
  rcases Nat.lt_trichotomy k L.length with hk | hk | hk
  · rw [List.getElem?_append_left hk] at e
    obtain ⟨u2, a2, g1, g2⟩ := h.2 k q2 s2 e
    exact ⟨u2, a2, by rw [List.getElem?_append_left (by rw [h.1]; exact hk)]; exact g1, g2⟩
  · rw [hk] at e
    simp at e
    obtain ⟨rfl, rfl⟩ := e
    exact ⟨u, a, by rw [hk, ← h.1]; simp, h2, h3, h4, h5⟩
  · rw [List.getElem?_eq_none (by simp; omega)] at e
    cases e
theorem PairsAre.rev {t : Addr} {H : Hp} {us : List V} {L : List (Nat × Row)} (h : PairsAre t H us L) : PairsAre t H us.reverse L.reverse := by
  refine ⟨by simp [h.1], fun k q s e => ?_⟩
  have hk : k < L.length := by
    have := (List.getElem?_eq_some_iff.mp e).1
    simpa using this
  rw [List.getElem?_reverse hk] at e
  obtain ⟨u, a, g1, g2⟩ := h.2 _ q s e
  exact ⟨u, a, by rw [List.getElem?_reverse (by rw [h.1]; exact hk), h.1]; exact g1, g2⟩
theorem ok_settled {f fC : Addr} {fd fdC : FuncData} (F : Fun K "settled" "Stairs.settled" s_Stairs_settled f fd) (T : TxtS K mg C fI fP fA fS)
    (G_combined : FnOk P w K mg base CX0 1 fC fdC ["modulus", "factor", "row", "other_factor", "other"] (spComb K)) (g_combined : mg "combined" = some (.ref fC)) (kp_combined : PySem.W.keepIn K (.ref fC) = true) (b_combined : Binds K fdC ["modulus", "factor", "row", "other_factor", "other"] []) :
    FnOk P w K mg base CX0 2 f fd ["self"] (spSettled K C) := by
  refine F.ok sc_Stairs_settled (fun vs H Q E h => ?_) (fun cdv A outer s H vs Q E hr h => ?_)
  · obtain ⟨p, l, M, W, n, S, rfl, _⟩ := h
    rfl
  · obtain ⟨p, l, M, W, n, S, rfl, hSt, hM, hM2, hW, hn, wf, k⟩ := h
    refine ⟨_, (pss_cons (ps_set (i := 1) sc_Stairs_settled.nd rfl (Or.inl rfl) (pe_lst pa_nil))
        (pss_cons (ps_for PassesOwn.never rfl (pi_revR rfl T.f_reversed (prg_1 rfl T.f_range (pe_callB call_len_seq rfl T.f_len PySem.boot_len (pa_cons (pe_fld (pv 0) rfl) pa_nil)))) (pg_name (i := 2) sc_Stairs_settled.nd rfl (Or.inl rfl)) (pss_cons (ps_set (i := 3) sc_Stairs_settled.nd rfl (Or.inl rfl) (pe_ix ix_list (pe_fld (pv 0) rfl) (pv 2) (fun _ _ => rfl)))
        (pss_one (ps_if (pt_cmpR op_notN (pv 3) pe_non (nomark _)) (pss_cons (ps_for PassesOwn.never rfl (pi_list (pe_revL (pv 1))) (pg_tup rfl (pgs_cons (pg_name (i := 4) sc_Stairs_settled.nd rfl (Or.inl rfl)) (pgs_cons (pg_name (i := 5) sc_Stairs_settled.nd rfl (Or.inl rfl)) pgs_nil))) (pss_one (ps_if (pt_cmpR op_ge (pe_ix ix_list (pv 3) (pv 4) (fun _ _ => rfl)) (pe_ix ix_list (pv 5) (pv 4) (fun _ _ => rfl)) (nomark _)) (pss_one (ps_set (i := 3) sc_Stairs_settled.nd rfl (Or.inl rfl) (pe_call G_combined (hr.mono (by decide)) rfl g_combined kp_combined b_combined .nil pass0 (pa_cons (pe_fld (pv 0) rfl) (pa_cons pe_int (pa_cons (pv 3) (pa_cons (pe_un un_neg (pe_op op_fdivW (pe_ix ix_list (pv 3) (pv 4) (fun _ _ => rfl)) (pe_ix ix_list (pv 5) (pv 4) (fun _ _ => rfl)))) (pa_cons (pv 5) pa_nil)))))))) pss_nil)))
        (pss_one (ps_expr (pe_bm PySem.F.plainAttrs_list PySem.F.slot_list_append PySem.F.type_list_append mt_append (pv 1) (pa_cons (pe_tup (pa_cons (pv 2) (pa_cons (pv 3) pa_nil))) pa_nil))))) pss_nil))))
        (pss_one (ps_ret (pe_callTy (call_tupleK (K := K) rfl) rfl T.f_tuple (by decide +kernel) (pa_cons (pe_lc (own := [("_", 6), ("row", 3)]) (g := gTup K 2 (gCons (gName 6) (gCons (gName 3) gNil))) rfl sc_Stairs_settled.nd (pi_list (pe_revL (pv 1))) (blkOk_by (N := ["self", "lessened", "place", "row", "lower", "step", "_"]) (sc := defScope s_Stairs_settled) (by decide +kernel)) (fun _ _ _ _ _ => (pg_tupK rfl rfl (pgs_cons (pg_name (i := 6) sc_Stairs_settled.nd rfl (Or.inl rfl)) (pgs_cons (pg_name (i := 3) sc_Stairs_settled.nd rfl (Or.inl rfl)) pgs_nil)))) (fun _ _ _ _ _ => pts_nil) (fun _ _ _ _ _ => (pe_callTy (call_tupleK (K := K) rfl) rfl T.f_tuple (by decide +kernel) (pa_cons (pv 3) pa_nil)))) pa_nil)))))), ?_⟩
    obtain ⟨⟨dx, hp⟩, vs, hl, hS⟩ := id hSt
    have hvl : vs.length = n := hS.length.trans wf.len
    have hpt : ∀ {t}, H t = none → p ≠ t := fun h z => by rw [← z, hp] at h; cases h
    refine ⟨Nat.zero_le _, fun t ht => ?_⟩
    have sG : Same H (upd H t (.lst [])) := same_upd ht
    have gt : (upd H t (.lst [])) t = some (.lst []) := upd_same
    obtain ⟨G, hG⟩ : ∃ G, G = upd H t (.lst []) := ⟨_, rfl⟩
    rw [← hG] at sG gt
    rw [← hG]
    refine ⟨_, rfl, p, C, dx, _, _, rfl, sG _ _ hp, T.cl, T.nS, flS_s M l, _, _, rfl, .inl (SqL.of (sG _ _ hl)), (n : Int), (by rw [hvl]), by omega, by omega, by omega, by omega, ?_⟩
    refine for_it (walk_rangeC (c := -1) (n := n)) (fun i σ H' => ∃ (x2 x3 x4 x5 : Option V) (us : List V), σ = [some (.ref p), some (.ref t), x2, x3, x4, x5, none] ∧ Same H H' ∧ H' t = some (.lst us) ∧ PairsAre t H' us (settle M n S i).reverse) ⟨none, none, none, none, [], rfl, sG, gt, rfl, fun k q s e => by simp [settle] at e⟩ (fun _ _ _ _ _ => trivial) ?_ ?_
    · rintro i v σ H1 H1' hi ⟨x2, x3, x4, x5, us, rfl, s1, h1t, hPr⟩ ⟨rfl, rfl⟩
      have ep : (0 + (((n : Int) - 0).toNat : Nat) - 1 + (i : Nat) * (-1) : Int) = ((n - 1 - i : Nat) : Int) := by omega
      show tSeq _ _ _ [some (V.ref p), some (V.ref t), some (V.int (0 + (((n : Int) - 0).toNat : Nat) - 1 + (i : Nat) * (-1))), x3, x4, x5, none] H1'
      rw [ep]
      have hlt : n - 1 - i < S.length := by rw [wf.len]; omega
      have hSi : S[n - 1 - i]? = some S[n - 1 - i] := List.getElem?_eq_getElem hlt
      have hgD : S.getD (n - 1 - i) none = S[n - 1 - i] := by rw [List.getD_eq_getElem?_getD, hSi]; rfl
      rcases hS.at_ hSi with ⟨e0, ev⟩ | ⟨a, r, e0, ev, hal, ha⟩
      · refine ⟨_, rfl, p, C, dx, _, _, rfl, s1 _ _ hp, T.cl, T.nS, flS_s M l, _, rfl, l, vs, _, _, rfl, rfl, SqL.of (s1 _ _ hl), atI_nat ev, ?_⟩
        refine ⟨_, rfl, rfl, false, congrArg V.bl (by simp), iteF ?_⟩
        refine ⟨_, _, _, _, us, rfl, s1, h1t, ?_⟩
        have : settle M n S (i + 1) = settle M n S i := by
          show (match S.getD (n - 1 - i) none with | none => _ | some r => _) = _
          rw [hgD, e0]
        rw [this]
        exact hPr
      · refine ⟨_, rfl, p, C, dx, _, _, rfl, s1 _ _ hp, T.cl, T.nS, flS_s M l, _, rfl, l, vs, _, _, rfl, rfl, SqL.of (s1 _ _ hl), atI_nat ev, ?_⟩
        refine ⟨_, rfl, rfl, true, congrArg V.bl (by simp), iteT ?_⟩
        have eS : settle M n S (i + 1) = (n - 1 - i, lessen M r (settle M n S i)) :: settle M n S i := by
          show (match S.getD (n - 1 - i) none with | none => _ | some r => _) = _
          rw [hgD, e0]
        obtain ⟨rl, rr, _, _⟩ := wf.row _ _ (hSi.trans (by rw [e0]))
        have hL := settle_lok hM wf hn (show i ≤ n by omega)
        have hLl := settle_len M n S i
        generalize settle M n S i = L at *
        generalize hFin : lessen M r L = rF at *
        have hat : a ≠ t := fun z => by rw [z, ht] at ha; cases ha
        refine ⟨_, rfl, t, us, rfl, SqL.of h1t, fun p2 np2 => ⟨p2, rfl, ⟨_, SqL.of upd_same⟩, ?_⟩⟩
        have s2' : Same H1' (upd H1' p2 (.lst us.reverse)) := same_upd np2
        have g2 : (upd H1' p2 (.lst us.reverse)) p2 = some (.lst us.reverse) := upd_same
        generalize upd H1' p2 (.lst us.reverse) = H2 at s2' g2 ⊢
        have hPr2 : PairsAre t H2 us.reverse L := by
          have := (hPr.mono (fun b o _ e => s2' b o e)).rev
          rw [List.reverse_reverse] at this
          exact this
        refine for_it (walk_list (xs := us.reverse)) (fun k σ H' => ∃ (y4 y5 : Option V) (b : Addr) (cur : Row), σ = [some (.ref p), some (.ref t), some (.int ((n - 1 - i : Nat) : Int)), some (.ref b), y4, y5, none] ∧ Same H2 H' ∧ H' b = some (.lst (cur.map V.int)) ∧ b ≠ t ∧ cur.length = W ∧ RRed M cur ∧ lessen M cur (L.drop k) = rF) ⟨_, _, a, r, rfl, fun _ _ e => e, s2' _ _ (s1 _ _ ha), hat, rl, rr, hFin⟩ (fun k σ H' _ ⟨_, _, _, _, _, s3, _⟩ => SqL.of (s3 _ _ g2)) ?_ ?_
        · rintro k v σ H3 H3' hk ⟨y4, y5, b, cur, rfl, s3, hb, hbt, cl, cr, ce⟩ ⟨rfl, hv⟩
          have hkL : k < L.length := by rw [← hPr2.1]; exact hk
          have hLk : L[k]? = some (L[k].1, L[k].2) := List.getElem?_eq_getElem hkL
          obtain ⟨u, a2, g1, hut, hat2, hu, ha2⟩ := hPr2.2 k _ _ hLk
          rw [g1] at hv
          cases hv
          obtain ⟨sl, sr, hq, hs1⟩ := hL _ _ (List.mem_of_getElem? hLk)
          generalize hq0 : L[k].1 = q at *
          generalize hs0 : L[k].2 = s2 at *
          have hcq : cur[q]? = some (cur.getD q 0) := by rw [List.getD_eq_getElem?_getD, List.getElem?_eq_getElem (by omega)]; rfl
          have hsq : s2[q]? = some (s2.getD q 0) := by rw [List.getD_eq_getElem?_getD, List.getElem?_eq_getElem (by omega)]; rfl
          have hcq' : (cur.map V.int)[q]? = some (.int (cur.getD q 0)) := by rw [List.getElem?_map, hcq]; rfl
          have hsq' : (s2.map V.int)[q]? = some (.int (s2.getD q 0)) := by rw [List.getElem?_map, hsq]; rfl
          have hdrop : L.drop k = (q, s2) :: L.drop (k + 1) := by
            rw [List.drop_eq_getElem_cons hkL, ← hq0, ← hs0]
          have hx := cr _ (List.mem_of_getElem? hcq)
          have hy := sr _ (List.mem_of_getElem? hsq)
          generalize hxe : cur.getD q 0 = x at *
          generalize hye : s2.getD q 0 = y at *
          rw [hdrop] at ce
          unfold lessen at ce
          rw [hxe, hye] at ce
          refine ⟨u, _, rfl, SqT.of (s3 _ _ hu), rfl, _, _, rfl, _, _, rfl, rfl, ?_⟩
          refine ⟨_, rfl, _, rfl, b, _, _, _, rfl, rfl, SqL.of hb, atI_nat hcq', _, rfl, _, rfl, a2, _, _, _, rfl, rfl, SqL.of (s3 _ _ ha2), atI_nat hsq', x, y, rfl, rfl, _, rfl, ?_⟩
          refine ite2 (fun hd => ?_) (fun hd => ?_)
          · have hxy : x ≥ y := of_decide_eq_true hd
            rw [if_pos hxy] at ce
            have hyw : y.natAbs < 2 ^ 200 := by omega
            refine ⟨_, rfl, p, C, dx, _, _, rfl, s3 _ _ (s2' _ _ (s1 _ _ hp)), T.cl, T.nM, flS_m M l, _, rfl, _, rfl, _, rfl, b, _, _, _, rfl, rfl, SqL.of hb, atI_nat hcq', _, rfl, _, rfl, a2, _, _, _, rfl, rfl, SqL.of (s3 _ _ ha2), atI_nat hsq', _, _, rfl, rfl, wide_div (b := 200) (by omega) hyw (by decide) (by decide), _, rfl, _, rfl, M, 1, -(x / y), b, a2, cur, s2, rfl, by omega, (by show (1 : Int).natAbs < 2 ^ 200; decide), (zdiv_wd (by omega) (by omega) (by omega)).2, hb, s3 _ _ ha2, rred_wd cr hM2, rred_wd sr hM2, by omega, by omega, fun b2 H4 s4 nb2 hb2 => ?_⟩
            refine ⟨_, _, b2, _, rfl, same_trans s3 s4, hb2, fun z => ?_, by simp [comb, cl, sl], comb_red (by omega) _ _ _ _, ce⟩
            rw [z, s3 _ _ (s2' _ _ h1t)] at nb2
            cases nb2
          · have hxy : ¬ x ≥ y := fun z => hd (decide_eq_true z)
            rw [if_neg hxy] at ce
            exact ⟨_, _, b, cur, rfl, s3, hb, hbt, cl, cr, ce⟩
        · rintro σ H3 ⟨y4, y5, b, cur, rfl, s3, hb, hbt, cl, cr, ce⟩
          have hkl : us.reverse.length = L.length := hPr2.1
          rw [hkl, List.drop_length] at ce
          have ce : cur = rF := ce
          have g3 : H3 t = some (.lst us) := s3 _ _ (s2' _ _ h1t)
          have sAll : Same H H3 := same_trans s1 (same_trans s2' s3)
          have hP3 : PairsAre t H3 us L.reverse := hPr.mono fun b o _ e => s3 _ _ (s2' _ _ e)
          have hus : us.length ≤ 1000 := by
            have e1 := hPr2.1
            simp at e1
            omega
          refine ⟨_, rfl, .inl ⟨rfl, _, SqL.of g3⟩, _, rfl, _, rfl, (by show 2 ≤ sizeLine; decide), fun u nu => ⟨t, _, _, rfl, rfl, (by rw [upd_ne (ne_of_none g3 nu)]; exact g3), Nat.le_trans (by simp; omega) (show 1001 ≤ sizeLine by decide), ?_⟩⟩
          have hut : u ≠ t := fun z => by rw [z, g3] at nu; cases nu
          have b4 : But t H3 (upd (upd H3 u (.tup [.int ((n - 1 - i : Nat) : Int), .ref b])) t (.lst (us ++ [.ref u]))) := fun c o hc e => by
            rw [upd_ne hc, upd_ne (ne_of_none e nu)]
            exact e
          refine ⟨_, _, _, _, us ++ [.ref u], rfl, fun c o e => b4 c o (ne_of_none e ht) (sAll _ _ e), upd_same, ?_⟩
          rw [eS, List.reverse_cons, ← ce]
          exact (hP3.mono b4).snoc hut hbt (by rw [upd_ne hut, upd_same]) (b4 _ _ hbt hb)
    · rintro σ H1 ⟨x2, x3, x4, x5, us, rfl, s1, h1t, hPr⟩
      refine ⟨_, rfl, t, us, rfl, SqL.of h1t, fun p2 np2 => ⟨p2, rfl, ⟨_, SqL.of upd_same⟩, fun D hD => ?_⟩⟩
      have s2 : Same H1 (upd H1 p2 (.lst us.reverse)) := same_upd np2
      have g2 : (upd H1 p2 (.lst us.reverse)) p2 = some (.lst us.reverse) := upd_same
      generalize upd H1 p2 (.lst us.reverse) = H2 at s2 g2 hD ⊢
      have hPr2 : PairsAre t H2 us.reverse (settle M n S n) := by
        have := (hPr.mono (fun b o _ e => s2 b o e)).rev
        rw [List.reverse_reverse] at this
        exact this
      have hLl := settle_len M n S n
      refine lc_rows (K := K) (walk_list (xs := us.reverse)) hD (by rw [hPr2.1]; omega) ((settle M n S n).map (·.2)) (by rw [List.length_map, hPr2.1]) (fun H' e => SqL.of (e _ _ g2)) ?_ (fun acc H3 e3 s3 hR => tup_read e3 hR (same_trans s1 (same_trans s2 s3)) k)
      rintro i r x H3 H3' Fn Nn hi hr3 fin s3 ⟨rfl, hv⟩
      rw [List.getElem?_map] at hr3
      cases hLi : (settle M n S n)[i]? with
      | none => rw [hLi] at hr3; cases hr3
      | some qs =>
        rw [hLi] at hr3
        cases hr3
        obtain ⟨u, a, g1, hut, hat, hu, ha⟩ := hPr2.2 i qs.1 qs.2 hLi
        rw [g1] at hv
        cases hv
        exact ⟨u, _, rfl, SqT.of (s3 _ _ hu), rfl, _, _, rfl, _, _, rfl, rfl, rfl, yesT ⟨_, rfl, a, _, rfl, .inl ⟨SqL.of (s3 _ _ ha), fun q nq => fin q _ (same_upd nq) upd_same⟩⟩⟩
end
end Wk

/-! for i, x in enumerate(t), t a tuple -/
namespace ZM
open PySem PySem.Spec PyProof.Rows L2
open PySem.Sem (wp)
open AutoSeq1 (wpAny_loadPart')
theorem meets_enuT (l : Addr) (items : Array Value) (n : Nat) (dd : Option Addr) (sl : Array (Option Value)) :
    Meets (Builtin.«enumerate.__new__» ⟨[.type "enumerate", .ref l], []⟩) (fun _ R s => s.heap.get? l = some { cls := .type "tuple", dict := dd, data := .seq items n, slots := sl } ∧
      R (.ok (.ret (.ref (s.heap.push (itO true l)).objs.size))) { s with heap := (s.heap.push (itO true l)).push { cls := .type "enumerate", data := .fields #[.none, .bool false, .ref s.heap.objs.size, rawInt 0, .none, .none] } }) :=
  .of_wp fun prog w A R s h => by
    obtain ⟨hp, g, d, tk, os⟩ := s
    obtain ⟨hl, h⟩ := h
    have hsub := sub_enumerate
    have r1 : Row true (Shared.heap ⟨hp, g, d, tk, os⟩) l items := ⟨_, hl, rfl, n, rfl⟩
    wp_walk using wpAny_loadPart' hl
    refine wpAny_stack_any fun st => wpAny_pure ?_
    split
    · rename_i c _ _ _ _ _
      cases (c == Value.type "enumerate")
      · wp_walk using wpAny_loadPart' hl, iter_c r1
        exact ⟨_, rfl, h⟩
      · wp_walk using wpAny_loadPart' hl, iter_c r1
        exact ⟨_, rfl, h⟩
    · wp_walk using wpAny_loadPart' hl, iter_c r1
      exact ⟨_, rfl, h⟩
section
variable {prog : Program} {w : World} {A : Around} {E : Value → Shared → Prop} {s : Shared}
theorem call_enuT {l : Addr} {items : Array Value} {Q : Value → Shared → Prop} (q : s.heap.IsTuple l items)
    (h : ∀ h', IsEnum h' (s.heap.objs.size + 1) s.heap.objs.size 0 .none → Pos true h' s.heap.objs.size l 0 → (∀ b o, s.heap.get? b = some o → h'.get? b = some o) → Q (.ref (s.heap.objs.size + 1)) { s with heap := h' }) :
    wpAny (model prog w) A (call (.type "enumerate") [.ref l]) Q E s := by
  obtain ⟨⟨cls, dd, data, sl⟩, ho, hc, n, hd⟩ := q
  simp only at hc hd
  subst hc hd
  refine callType_new F.called_enumerate (by decide) (F.typeCall_enumerate_1 _) (F.newCall_enumerate_1 _) (fun obj => F.args_object_init_2 obj _) F.entry_enumerate_new (meets_enuT l items n dd sl) ⟨ho, ?_⟩
  have e1 : (s.heap.push (itO true l)).objs.size = s.heap.objs.size + 1 := Heap.size_push ..
  have g2 := Heap.get?_push_size (s.heap.push (itO true l)) (o := { cls := .type "enumerate", data := .fields #[.none, .bool false, .ref s.heap.objs.size, rawInt 0, .none, .none] }) rfl
  have g1 := Heap.get?_push_of_some ({ cls := .type "enumerate", data := .fields #[.none, .bool false, .ref s.heap.objs.size, rawInt 0, .none, .none] } : Obj) (Heap.get?_push_size s.heap (o := itO true l) rfl)
  show _ ∧ _
  rw [e1] at g2 ⊢
  exact ⟨⟨_, g2, rfl⟩, h _ g2 (itO_pos g1) fun b o e => Heap.get?_push_of_some _ (Heap.get?_push_of_some _ e)⟩
/-- one pair is handed out -/
theorem enu_item {k : Bool} {e it l : Addr} {i : Nat} {items : Array Value} {x old : Value} {Q : Option Value → Shared → Prop}
    (he : IsEnum s.heap e it i old) (p : Pos k s.heap it l i) (q : Row k s.heap l items) (hx : items[i]? = some x) (hne : e ≠ it)
    (hQ : ∀ h', IsEnumOut h' e it ((i : Int) + 1) x s.heap.objs.size → Pos k h' it l (i + 1) →
      h'.get? s.heap.objs.size = some { cls := .type "tuple", data := .seq #[.int i s.toks, x] } → h'.objs.size = s.heap.objs.size + 1 →
      (∀ b o, b ≠ e → b ≠ it → s.heap.get? b = some o → h'.get? b = some o) → Q (some (.ref s.heap.objs.size)) { s with heap := h', toks := s.toks + 1 }) :
    wpAny (model prog w) A (pyNext (.ref e)) Q E s := by
  have ty : s.TypeIs (.ref e) "enumerate" := ⟨_, he, rfl⟩
  unfold pyNext
  refine wpAny_bind (wpAny_attempt (wpAny_callSpecial?_slot (name := Str.ofString "__next__") ty F.slot_enumerate_next (wpAny_call_entry F.slot_enumerate_next ty F.entry_enumerate_next ?_ (F.args_enumerate_next_1 _))))
  obtain ⟨hp, g, d, tk, os⟩ := s
  show wpAny _ _ (field (.ref e) 2 >>= _) _ _ _
  refine wpAny_bind (wpAny_field he rfl (x := .ref it) rfl (wpAny_bind (next_item p q hx fun hA pA sA => ?_)))
  have sA : Heap.SameBut it hp hA := sA
  have eA : IsEnum hA e it i old := (sA.2 e hne).trans he
  show wpAny _ _ (field (.ref e) 3 >>= _) _ _ ⟨hA, g, d, tk, os⟩
  refine wpAny_bind (wpAny_field eA rfl (x := rawInt i) rfl ?_)
  show wpAny _ _ (field (.ref e) 4 >>= _) _ _ ⟨hA, g, d, tk, os⟩
  refine wpAny_bind (wpAny_field eA rfl (x := .none) rfl ?_)
  show wpAny _ _ (mkInt i >>= _) _ _ ⟨hA, g, d, tk, os⟩
  refine wpAny_bind (wpAny_mkInt ?_)
  show wpAny _ _ (setField (.ref e) 3 (rawInt ((i : Int) + 1)) >>= _) _ _ ⟨hA, g, d, tk + 1, os⟩
  refine wpAny_bind (wpAny_setField_rec eA (by simp) fun hB eB sB => ?_)
  have sB : Heap.SameBut e hA hB := sB
  have eB : IsEnum hB e it ((i : Int) + 1) old := eB
  show wpAny _ _ (setField (.ref e) 4 .none >>= _) _ _ ⟨hB, g, d, tk + 1, os⟩
  refine wpAny_bind (wpAny_setField_rec eB (by simp) fun hC eC sC => ?_)
  have sC : Heap.SameBut e hB hC := sC
  have eC : IsEnum hC e it ((i : Int) + 1) old := eC
  show wpAny _ _ (newTuple [.int i tk, x] >>= _) _ _ ⟨hC, g, d, tk + 1, os⟩
  refine wpAny_bind (wpAny_newTuple ?_)
  have size : hC.objs.size = hp.objs.size := by rw [sC.1, sB.1, sA.1]
  have lt : e ≠ hp.objs.size := Nat.ne_of_lt (Heap.lt_size he)
  have eD : IsEnum (hC.push { cls := .type "tuple", data := .seq #[.int i tk, x] }) e it ((i : Int) + 1) old := Heap.get?_push_of_some _ eC
  have tD : (hC.push { cls := .type "tuple", data := .seq #[.int i tk, x] }).get? hp.objs.size = some { cls := .type "tuple", data := .seq #[.int i tk, x] } := by rw [← size]; exact Heap.get?_push_size _ rfl
  have nD : (hC.push { cls := .type "tuple", data := .seq #[.int i tk, x] }).objs.size = hp.objs.size + 1 := by rw [Heap.size_push, size]
  have kD : ∀ b o, b ≠ e → b ≠ it → hp.get? b = some o → (hC.push { cls := .type "tuple", data := .seq #[.int i tk, x] }).get? b = some o := fun b o n1 n2 z => Heap.get?_push_of_some _ (sC.extBut b o n1 (sB.extBut b o n1 (sA.extBut b o n2 z)))
  have pD : Pos k (hC.push { cls := .type "tuple", data := .seq #[.int i tk, x] }) it l (i + 1) := pA.to fun o z => Heap.get?_push_of_some _ (sC.extBut _ _ hne.symm (sB.extBut _ _ hne.symm z))
  rw [size]
  generalize hC.push { cls := .type "tuple", data := .seq #[.int i tk, x] } = hD at eD tD nD kD pD ⊢
  show wpAny _ _ (Builtin.SmallTypes.ownedTupleIsFree (.ref e) >>= _) _ _ ⟨hD, g, d, tk + 1, os⟩
  refine wpAny_bind ?_
  unfold Builtin.SmallTypes.ownedTupleIsFree
  refine wpAny_bind (wpAny_field eD rfl (x := .none) rfl (wpAny_pure ?_))
  simp only [if_true]
  refine wpAny_bind (wpAny_rule (wpAny_bind (wpAny_field eD rfl (x := old) rfl ?_)))
  refine wpAny_bind (wpAny_setField_rec eD (by simp) fun hF eF sF => ?_)
  have sF : Heap.SameBut e hD hF := sF
  have eF : IsEnum hF e it ((i : Int) + 1) x := eF
  show wpAny _ _ (Builtin.SmallTypes.ownedTupleHandOut (.ref e) (.ref hp.objs.size) >>= _) _ _ ⟨hF, g, d, tk + 1, os⟩
  refine wpAny_bind ?_
  unfold Builtin.SmallTypes.ownedTupleHandOut
  refine wpAny_bind (wpAny_setField_rec eF (by simp) fun hG eG sG => ?_)
  have sG : Heap.SameBut e hF hG := sG
  have eG : IsEnumOut hG e it ((i : Int) + 1) x hp.objs.size := eG
  refine wpAny_setField_rec eG (by simp) fun hI eI sI => ?_
  have sI : Heap.SameBut e hG hI := sI
  have eI : IsEnumOut hI e it ((i : Int) + 1) x hp.objs.size := eI
  have up : ∀ b o, b ≠ e → hD.get? b = some o → hI.get? b = some o := fun b o n1 z => sI.extBut _ _ n1 (sG.extBut _ _ n1 (sF.extBut _ _ n1 z))
  refine wpAny_bind (wpAny_letGo (wpAny_pure ⟨_, rfl, wpAny_pure (hQ hI eI (pD.to fun o => up _ o hne.symm) (up _ _ lt.symm tD) ?_ fun b o n1 n2 z => up b o n1 (kD b o n1 n2 z))⟩))
  rw [sI.1, sG.1, sF.1, nD]
theorem enu_end {k : Bool} {e it l : Addr} {i : Nat} {items : Array Value} {old : Value} {Q : Option Value → Shared → Prop} (hh : A.handled = none)
    (he : IsEnum s.heap e it i old) (p : Pos k s.heap it l i) (q : Row k s.heap l items) (hx : items[i]? = none)
    (hQ : ∀ h', Heap.ExtBut it s.heap h' → Q none { s with heap := h' }) : wpAny (model prog w) A (pyNext (.ref e)) Q E s := by
  have ty : s.TypeIs (.ref e) "enumerate" := ⟨_, he, rfl⟩
  unfold pyNext
  refine wpAny_bind (wpAny_attempt (wpAny_callSpecial?_slot (name := Str.ofString "__next__") ty F.slot_enumerate_next (wpAny_call_entry F.slot_enumerate_next ty F.entry_enumerate_next ?_ (F.args_enumerate_next_1 _))))
  show wpAny _ _ (field (.ref e) 2 >>= _) _ _ _
  refine wpAny_bind (wpAny_field he rfl (x := .ref it) rfl (wpAny_bind (next_end hh p q hx fun h' z he' hz' => ?_)))
  obtain ⟨o, ho, hc⟩ := hz'
  exact wpAny_bind (wpAny_isInstance (T := "StopIteration") (b := true) ⟨o, ho, hc⟩ isSubtype_stop (wpAny_pure (hQ _ he')))
end
def ItE (K : PySem.W.Frag) (a : Addr) : It :=
  ⟨fun i H => ∃ (xs : List V) (x : V), SqT K H a xs ∧ xs[i]? = some x, fun i H v H' => ∃ T x, v = .ref T ∧ H T = none ∧ H' = upd H T (.tup [.int (i : Nat), x]) ∧ ∀ xs, SqT K H a xs → xs[i]? = some x, fun i H => ∃ xs : List V, SqT K H a xs ∧ xs.length ≤ i⟩
theorem turn_enuT {P : Program} {w : World} {K : PySem.W.Frag} {elts : List Expr} {kk : Nat} {tpos : PySem.Pos} (a e it : Addr) :
    Turn P w K (.Tuple elts kk tpos) (ItE K a) [e, it] e (fun i h => (∃ old, IsEnum h e it ((i : Nat) : Int) old) ∧ Pos true h it a i ∧ e ≠ it) where
  mem := by simp
  obj := fun i h st b hb => by
    obtain ⟨⟨old, he⟩, p, _⟩ := st
    have e' : b = e ∨ b = it := by simpa using hb
    rcases e' with rfl | rfl
    · exact ⟨_, he, fun v q => nomatch q⟩
    · exact p.obj
  keep := fun i h h' st k => let ⟨⟨old, he⟩, p, hne⟩ := st; ⟨⟨old, k e (by simp) _ he⟩, p.to (k it (by simp)), hne⟩
  item := by
    intro X hP hw hK hc i pins s σ H E I hf st hg
    subst hP hw hK
    obtain ⟨⟨old, he⟩, hit, hne⟩ := st
    obtain ⟨xs, x, hq, hx⟩ := hg
    obtain ⟨its, rv, p, hz⟩ := I.tuple hq
    obtain ⟨u, hu, ru⟩ := rv.get hx
    have elt : e < s.heap.objs.size := Heap.lt_size he
    have ilt : it < s.heap.objs.size := by
      obtain ⟨_, q, _⟩ := hit.obj
      exact Heap.lt_size q
    refine enu_item (k := true) he hit p (x := u) (by simpa using hu) hne fun h' ho hit' hT hsz hk => ?_
    refine ⟨_, rfl, wpAny_letOwnedTupleGo_enum (s := { s with heap := h', toks := s.toks + 1 }) ho fun h'' he' sb => ?_⟩
    have hT2 : h''.get? s.heap.objs.size = some { cls := .type "tuple", data := .seq #[.int i s.toks, u] } := (sb.2 _ (Nat.ne_of_gt elt)).trans hT
    have new : ObjOk X.prog X.w (upd H s.heap.objs.size (.tup [.int (i : Nat), x])) h'' s.heap.objs.size (.tup [.int (i : Nat), x]) :=
      ⟨by show 2 ≤ sizeLine; decide, [.int i s.toks, u], .cons ⟨_, rfl⟩ (.cons ru .nil), ⟨_, hT2, rfl, _, rfl⟩⟩
    have I1 : Inv X pins σ (upd H s.heap.objs.size (.tup [.int (i : Nat), x])) { s with heap := h'', toks := s.toks + 1 } :=
      I.turnedNew (ch := [e, it]) (fun b ob hb q => by
        simp only [List.mem_cons, List.not_mem_nil, or_false, not_or] at hb
        exact (sb.2 b hb.1).trans (hk b ob hb.1 hb.2 q)) hf (Nat.le_refl _) new
    refine ⟨.ref s.heap.objs.size, _, I1, rfl, ⟨_, x, rfl, I.hok.fresh (Nat.le_refl _), rfl, fun ys hy => by rw [I.tuple_inj hy hq]; exact hx⟩, ⟨⟨u, ?_⟩, hit'.to fun o q => (sb.2 it (Ne.symm hne)).trans q, hne⟩, fun b hb => ?_⟩
    · rw [show ((i + 1 : Nat) : Int) = (i : Int) + 1 by omega]
      exact he'
    · have hb' : b < s.heap.objs.size := by
        have e' : b = e ∨ b = it := by simpa using hb
        rcases e' with rfl | rfl
        · exact elt
        · exact ilt
      rw [upd_ne (Nat.ne_of_lt hb')]
      exact (hf b hb).1
  done := by
    intro X hP hw hK hc i pins s σ H E I hf st hg
    subst hP hw hK
    obtain ⟨⟨old, he⟩, hit, hne⟩ := st
    obtain ⟨xs, hq, hx⟩ := hg
    obtain ⟨its, rv, p, hz⟩ := I.tuple hq
    obtain ⟨f0, f1, f2, f3, f4, f5⟩ := hf it (by simp)
    have hl := rv.length
    exact enu_end (k := true) (I.ok.hd hc) he hit p (by simp; omega) fun h' eb => ⟨rfl, I.turned (t' := s.toks) (fun b o hb q => eb b o hb q) f0 f1 f3 f4 f5⟩
  self := fun A i s Q E st h => let ⟨⟨_, he⟩, _⟩ := st; wpAny_pyIter_enum he h
def iEnuT (K : PySem.W.Frag) (ta : TA) : TI := fun σ H R => ta σ H fun vs H1 => ∃ a xs, vs = [.ref a] ∧ SqT K H1 a xs ∧ R (ItE K a) H1
theorem pi_enumT {X : Cx} {e : Expr} {ta : TA} {p pos tpos : PySem.Pos} {elts : List Expr} {kk : Nat} (hg : Gl X "enumerate") (hm : X.mg "enumerate" = none) (ha : PA X [e] ta) (hs : starEach [e] X.env = [(false, eval e X.env)] := by rfl) :
    PI X (.Tuple elts kk tpos) (.Call (.Name "enumerate" p) [e] [] pos) (iEnuT X.K ta) := by
  refine ⟨fun pins s σ H R I h => ?_⟩
  refine Call_ (ld_blt I hg hm boot_enumerate (PyProof.Rows.callWith_type1 (thn (ha.run pos pins s σ H _ I h) fun us s1 ⟨vs, H1, I1, r1, q1⟩ => ?_) hs rfl))
  obtain ⟨a, xs, rfl, hq, q⟩ := q1
  cases r1 with
  | cons r rr =>
    cases rr
    cases r
    obtain ⟨its, rv, p', hz⟩ := I1.tuple hq
    refine call_enuT p' fun h' he hit hk => wpAny_pyIter_enum he ?_
    have I2 : Inv X pins σ H1 { s1 with heap := h' } := I1.kept (t' := s1.toks) hk
    refine ⟨s1.heap.objs.size + 1, [s1.heap.objs.size + 1, s1.heap.objs.size], _, _, H1, rfl, I2, turn_enuT a (s1.heap.objs.size + 1) s1.heap.objs.size, ⟨⟨.none, he⟩, hit, Nat.succ_ne_self _⟩, fun b hb => ?_, q⟩
    have hle : s1.heap.objs.size ≤ b := by
      have e' : b = s1.heap.objs.size + 1 ∨ b = s1.heap.objs.size := by simpa using hb
      rcases e' with z | z <;> rw [z]
      · exact Nat.le_add_right _ _
      · exact Nat.le_refl _
    exact I1.fpOk hle (I1.hok.fresh hle)
theorem walk_enuT {K : PySem.W.Frag} {a : Addr} {xs : List V} : Walk (ItE K a) xs.length (fun H => SqT K H a xs) (YPair (fun i => some (.int (i : Nat))) (fun i => xs[i]?)) := by
  refine ⟨fun i _ hi q => ⟨xs, xs[i], q, by simp [hi]⟩, fun _ q => ⟨xs, q, Nat.le_refl _⟩, fun i H v H' _ q y => ?_⟩
  obtain ⟨T, x, e1, e2, e3, e4⟩ := y
  exact ⟨T, .int (i : Nat), x, e1, e2, e3, rfl, e4 xs q⟩
end ZM

namespace Wk
open PySem L2 NumI
abbrev s_undone : Stmt := top 23
theorem sc_undone : FnScope ["modulus", "matrix", "size", "stairs", "place", "row", "step", "number"] ["modulus", "matrix"] (defScope s_undone) := ⟨rfl, rfl, rfl, by decide +kernel, rfl, by decide +kernel, by decide +kernel⟩

def wUnd (K : PySem.W.Frag) (M : Int) (n : Nat) (A : Mat) (H : Hp) (Q : VK) : Prop :=
  (∀ S H', Puts M n A n S → (∃ i, i < n ∧ (S[i]? = some none ∨ ∃ s x, S[i]? = some (some s) ∧ s[i]? = some x ∧ x ≠ 1)) → Same H H' → Q .non H') ∧
  (∀ S p H', Puts M n A n S → (∀ i, i < n → ∃ s, S[i]? = some (some s) ∧ s[i]? = some 1) → Same H H' → MatAt K H' p ((settle M n S n).map fun qs => qs.2.drop n) → Q (.ref p) H')
def spUndone (K : PySem.W.Frag) : Sp := fun vs H Q _ => ∃ (M : Int) (a : Addr) (A : Mat) (n : Nat), vs = [.int M, .ref a] ∧ 2 ≤ M ∧ M < 2 ^ 64 ∧ MatAt K H a A ∧ A.length = n ∧ (∀ r ∈ A, r.length = n) ∧ 1 ≤ n ∧ n ≤ 400 ∧ wUnd K M n A H Q
section
variable {P : Program} {w : World} {K : PySem.W.Frag} {mg : Str → Option Value} {base : Heap} {C fI fP fA fS : Addr}
theorem ok_undone {f fU : Addr} {fd fdI fdP fdS fdU : FuncData} (F : Fun K "undone" "undone" s_undone f fd) (T : TxtS K mg C fI fP fA fS)
    (G_init : FnOk P w K mg base CX0 1 fI fdI ["self", "modulus", "places"] (spStInit C)) (b_init : Binds K fdI ["self", "modulus", "places"] [])
    (G_put : FnOk P w K mg base CX0 3 fP fdP ["self", "row"] (spPut C)) (b_put : Binds K fdP ["self", "row"] [])
    (G_settled : FnOk P w K mg base CX0 2 fS fdS ["self"] (spSettled K C)) (b_settled : Binds K fdS ["self"] [])
    (G_unit : FnOk P w K mg base CX0 1 fU fdU ["size", "place"] spUnit) (g_unit : mg "unit" = some (.ref fU)) (kp_unit : PySem.W.keepIn K (.ref fU) = true) (b_unit : Binds K fdU ["size", "place"] []) :
    FnOk P w K mg base CX0 4 f fd ["modulus", "matrix"] (spUndone K) := by
  refine F.ok sc_undone (fun vs H Q E h => ?_) (fun cdv A outer s H vs Q E hr h => ?_)
  · obtain ⟨M, a, A, n, rfl, _⟩ := h
    rfl
  · obtain ⟨M, a, Am, n, rfl, hM, hM2, ⟨vs, hA, hR⟩, lA, hrow, n1, n2, kN, kY⟩ := h
    refine ⟨_, (pss_cons (ps_set (i := 2) sc_undone.nd rfl (Or.inr rfl) (pe_callB call_len_seq rfl T.f_len PySem.boot_len (pa_cons (pv 1) pa_nil)))
        (pss_cons (ps_set (i := 3) sc_undone.nd rfl (Or.inl rfl) (pe_make T.mkr G_init (hr.mono (by decide)) rfl T.mgC b_init .nil pass0 (pa_cons (pv 0) (pa_cons (pv 2) pa_nil))))
        (pss_cons (ps_for PassesOwn.never rfl (ZM.pi_enumT rfl T.f_enumerate (pa_cons (pv 1) pa_nil)) (pg_tup rfl (pgs_cons (pg_name (i := 4) sc_undone.nd rfl (Or.inl rfl)) (pgs_cons (pg_name (i := 5) sc_undone.nd rfl (Or.inl rfl)) pgs_nil))) (pss_one (ps_expr (pe_meth (pv 3) T.cl T.m_put G_put (hr.mono (by decide)) b_put .nil pass0 (pa_cons (pe_op op_cat (pe_lc (own := [("number", 7)]) (g := gName 7) rfl sc_undone.nd (pi_tup (pv 5)) (blkOk_by (N := ["modulus", "matrix", "size", "stairs", "place", "row", "step", "number"]) (sc := defScope s_undone) (by decide +kernel)) (fun _ _ _ _ _ => (pg_name (i := 7) sc_undone.nd rfl (Or.inl rfl))) (fun _ _ _ _ _ => pts_nil) (fun _ _ _ _ _ => (pe_op op_modN (pv 7) (pv 0)))) (pe_callTy (call_listK (K := K) rfl) rfl T.f_list (by decide +kernel) (pa_cons (pe_call G_unit (hr.mono (by decide)) rfl g_unit kp_unit b_unit .nil pass0 (pa_cons (pv 2) (pa_cons (pv 4) pa_nil))) pa_nil))) pa_nil)))))
        (pss_cons (ps_for PassesOwn.never rfl (pi_enum rfl T.f_enumerate (pa_cons (pe_fld (pv 3) rfl) pa_nil)) (pg_tup rfl (pgs_cons (pg_name (i := 4) sc_undone.nd rfl (Or.inl rfl)) (pgs_cons (pg_name (i := 6) sc_undone.nd rfl (Or.inl rfl)) pgs_nil))) (pss_one (ps_if (PW.pt (pw_or (pt_cmpR op_isN (pv 6) pe_non (nomark _)) (pw_or1 (pt_cmpR op_ne (pe_ix ix_list (pv 6) (pv 4) (fun _ _ => rfl)) pe_int (nomark _))))) (pss_one (ps_ret pe_non)) pss_nil)))
        (pss_one (ps_ret (pe_callTy (call_tupleK (K := K) rfl) rfl T.f_tuple (by decide +kernel) (pa_cons (pe_lc (own := [("row", 5)]) (g := gName 5) rfl sc_undone.nd (pi_tup (pe_meth0 (pv 3) T.cl T.m_settled G_settled (hr.mono (by decide)) b_settled .nil pass0)) (blkOk_by (N := ["modulus", "matrix", "size", "stairs", "place", "row", "step", "number"]) (sc := defScope s_undone) (by decide +kernel)) (fun _ _ _ _ _ => (pg_name (i := 5) sc_undone.nd rfl (Or.inl rfl))) (fun _ _ _ _ _ => pts_nil) (fun _ _ _ _ _ => (pe_slice (sl_tupAK (K := K) rfl) (pv 5) (po_some (pv 2)) po_none))) pa_nil)))))))), ?_⟩
    have hvl : vs.length = n := hR.length.trans lA
    refine ⟨_, rfl, _, _, rfl, .inr hA, ?_⟩
    rw [hvl]
    refine ⟨_, rfl, _, rfl, fun x dx nx nd ne => ⟨x, dx, M, n, rfl, upd_same, by omega, fun l H1 b1 nl st => ⟨rfl, ?_⟩⟩⟩
    have sI : Same H H1 := fun b o e => by
      have hbx : b ≠ x := ne_of_none e nx
      refine b1 b o hbx ?_
      rw [upd_ne hbx, upd_ne (ne_of_none e nd)]
      exact e
    have hHl : H l = none := by
      cases z : H l with
      | none => rfl
      | some o =>
        rw [upd_ne (ne_of_none z nx), upd_ne (ne_of_none z nd), z] at nl
        cases nl
    refine ⟨_, rfl, a, vs, rfl, SqT.same hA sI, ?_⟩
    refine for_it (ZM.walk_enuT (xs := vs)) (fun k σ H' => ∃ (x4 x5 : Option V) (S : List (Option Row)), σ = [some (.int M), some (.ref a), some (.int (n : Int)), some (.ref x), x4, x5, none, none] ∧ Puts M n Am k S ∧ Same H H' ∧ StAt C H' x l M S) ⟨none, none, _, rfl, .zero, sI, st⟩ (fun k σ H' _ ⟨_, _, _, _, _, s1, _⟩ => SqT.same hA s1) ?_ ?_
    · rintro k v σ H2 H2' hk ⟨x4, x5, S, rfl, hp, s1, st1⟩ ⟨T0, v1, v2, rfl, hT, rfl, e1, e2⟩
      cases e1
      obtain ⟨q, r, rfl, hr2, hq⟩ := rows_at hR e2
      have hrl : r.length = n := hrow _ (List.mem_of_getElem? hr2)
      have hkn : k < n := by omega
      have sT : Same H2 (upd H2 T0 (.tup [.int (k : Int), .ref q])) := same_upd hT
      have gT : (upd H2 T0 (.tup [.int (k : Int), .ref q])) T0 = some (.tup [.int (k : Int), .ref q]) := upd_same
      generalize upd H2 T0 (.tup [.int (k : Int), .ref q]) = H3 at sT gT ⊢
      have st3 := st1.same sT
      obtain ⟨⟨dx3, hx3⟩, vs3, hl3, hS3⟩ := id st3
      refine ⟨T0, _, rfl, SqT.of gT, rfl, _, _, rfl, _, _, rfl, rfl, ?_⟩
      have hq3 : RowAt K H3 q r := SqT.same hq (same_trans s1 sT)
      refine ⟨_, rfl, x, dx3, flS M l, rfl, hx3, flS_no M l (by decide +kernel) (by decide +kernel), ?_⟩
      refine ⟨_, rfl, q, rfl, ⟨_, hq3⟩, fun D hD => lc_rel (walk_tup (xs := r.map V.int)) hD (by simp; omega) (fun i v _ => ∃ z, r[i]? = some z ∧ v = .int (z % M)) (fun i v H H' h _ => h) (fun H1 e => SqT.same hq3 e) ?_ ?_⟩
      · intro i v H4 H4' Fn Nn fin hi sm hacc hy
        obtain ⟨rfl, hx⟩ := hy
        obtain ⟨z, gz, rfl⟩ := at_ints hx
        refine ⟨rfl, yesT ⟨_, rfl, _, rfl, _, _, rfl, rfl, by omega, ?_⟩⟩
        dsimp only
        rw [Int.fmod_eq_emod_of_nonneg _ (by omega)]
        exact fin _ _ (fun _ _ e => e) ⟨z, gz, rfl⟩
      · intro acc H4 a1 a2 s4 hR4
        have ea : acc = (r.map (· % M)).map V.int := by
          rw [acc_map (f := fun z => V.int (z % M)) (by simpa using a1) hR4, List.map_map]
          rfl
        have hDl : D ≠ l := fun z => by rw [z, hl3] at hD; cases hD
        refine ⟨_, rfl, _, rfl, n, k, rfl, hkn, by omega, fun p2 H5 s5 h5 => ⟨p2, _, rfl, .inr (SqT.of h5), fun l2 nl2 => ⟨D, l2, acc, _, rfl, rfl, ?_, upd_same, ?_, fun p3 np3 => ?_⟩⟩⟩
        · rw [upd_ne (ne_of_none (s5 _ _ a2) nl2)]
          exact s5 _ _ a2
        · rw [a1]
          simp [unitRow]
          exact Nat.le_trans (by omega) (show 800 ≤ sizeLine by decide)
        · have s6 : Same H3 (upd (upd H5 l2 (.lst ((unitRow n k).map V.int))) p3 (.lst (acc ++ (unitRow n k).map V.int))) := same_trans s4 (same_trans s5 (same_trans (same_upd nl2) (same_upd np3)))
          have g6 : (upd (upd H5 l2 (.lst ((unitRow n k).map V.int))) p3 (.lst (acc ++ (unitRow n k).map V.int))) p3 = some (.lst ((rowOf M n r k).map V.int)) := by
            rw [upd_same, ea]
            simp [rowOf]
          have hpl : p3 ≠ l := fun z => by
            rw [z, upd_ne (ne_of_none (s5 _ _ (s4 _ _ hl3)) nl2), s5 _ _ (s4 _ _ hl3)] at np3
            cases np3
          generalize upd (upd H5 l2 (.lst ((unitRow n k).map V.int))) p3 (.lst (acc ++ (unitRow n k).map V.int)) = H6 at s6 g6 ⊢
          obtain ⟨w1, w2⟩ := rowOf_ok hM (k := k) hrl
          refine ⟨x, l, p3, M, 2 * n, n, S, rowOf M n r k, rfl, st3.same s6, hM, hM2, by omega, by omega, hp.wf hM hrow, w1, w2, g6, hpl, fun S' r' b' H7 ch bt st7 _ _ => ?_⟩
          exact ⟨_, _, S', rfl, .succ hp hr2 ch, fun b o e => bt b o (ne_of_none e hHl) (s6 _ _ (sT _ _ (s1 _ _ e))), st7⟩
    · rintro σ H2 ⟨x4, x5, S, rfl, hp, s1, st1⟩
      rw [hvl] at hp
      have wf := hp.wf hM hrow
      obtain ⟨⟨dx2, hx2⟩, vs2, hl2, hS2⟩ := id st1
      have hvl2 : vs2.length = n := hS2.length.trans wf.len
      refine ⟨_, rfl, x, C, dx2, _, _, rfl, hx2, T.cl, T.nS, flS_s M l, l, vs2, rfl, SqL.of hl2, ?_⟩
      refine for_it (walk_enum (xs := vs2)) (fun k σ H' => ∃ (x4 x5 x6 : Option V), σ = [some (.int M), some (.ref a), some (.int (n : Int)), some (.ref x), x4, x5, x6, none] ∧ Same H2 H' ∧ ∀ i, i < k → ∃ s, S[i]? = some (some s) ∧ s[i]? = some 1) ⟨_, _, _, rfl, fun _ _ e => e, fun i h => absurd h (Nat.not_lt_zero _)⟩ (fun k σ H' _ ⟨_, _, _, _, s2, _⟩ => SqL.of (s2 _ _ hl2)) ?_ ?_
      · rintro k v σ H3 H3' hk ⟨x4, x5, x6, rfl, s2, good⟩ ⟨T0, v1, v2, rfl, hT, rfl, e1, e2⟩
        cases e1
        have hkn : k < n := by omega
        have sT : Same H3 (upd H3 T0 (.tup [.int (k : Int), v2])) := same_upd hT
        have gT : (upd H3 T0 (.tup [.int (k : Int), v2])) T0 = some (.tup [.int (k : Int), v2]) := upd_same
        generalize upd H3 T0 (.tup [.int (k : Int), v2]) = H4 at sT gT ⊢
        have s4 : Same H H4 := same_trans s1 (same_trans s2 sT)
        have hSk : S[k]? = some (S[k]'(by rw [wf.len]; exact hkn)) := List.getElem?_eq_getElem (by rw [wf.len]; exact hkn)
        refine ⟨T0, _, rfl, SqT.of gT, rfl, _, _, rfl, _, _, rfl, rfl, ?_⟩
        rcases hS2.at_ hSk with ⟨e0, ev⟩ | ⟨b, r, e0, ev, hbl, hb⟩
        · have e3 : vs2[k]? = some v2 := e2
          rw [e3] at ev
          cases ev
          exact ⟨_, rfl, rfl, true, congrArg V.bl (decide_eq_true rfl), iteT (iteT (kN S H4 hp ⟨k, hkn, .inl (by rw [hSk, e0])⟩ s4))⟩
        · have e3 : vs2[k]? = some v2 := e2
          rw [e3] at ev
          cases ev
          obtain ⟨rl, rr, ⟨y, hy, y1, _⟩, _⟩ := wf.row _ _ (hSk.trans (by rw [e0]))
          have hyV : (r.map V.int)[k]? = some (.int y) := by rw [List.getElem?_map, hy]; rfl
          refine ⟨_, rfl, rfl, false, congrArg V.bl (decide_eq_false (by intro z; cases z)), iteF ?_⟩
          refine ⟨_, rfl, _, rfl, b, _, _, _, rfl, rfl, SqL.of (sT _ _ (s2 _ _ hb)), atI_nat hyV, rfl, _, rfl, ?_⟩
          by_cases h1 : y = 1
          · rw [h1]
            refine iteNS rfl ?_
            refine ⟨_, _, _, rfl, same_trans s2 sT, fun i hi => ?_⟩
            rcases Nat.lt_succ_iff_lt_or_eq.mp hi with z | z
            · exact good i z
            · rw [z]
              exact ⟨r, by rw [hSk, e0], by rw [hy, h1]⟩
          · have e5 : (!decide (V.int y = V.int 1)) = true := by
              have : ¬ V.int y = V.int 1 := fun z => h1 (by injection z)
              simp [this]
            rw [e5]
            exact iteT (kN S H4 hp ⟨k, hkn, .inr ⟨r, y, by rw [hSk, e0], hy, h1⟩⟩ s4)
      · rintro σ H3 ⟨x4, x5, x6, rfl, s2, good⟩
        rw [hvl2] at good
        have hLl := settle_len M n S n
        refine ⟨_, rfl, x, dx2, flS M l, rfl, s2 _ _ hx2, flS_no M l (by decide +kernel) (by decide +kernel), x, l, M, 2 * n, n, S, rfl, st1.same s2, hM, hM2, by omega, by omega, wf, fun p5 H5 s5 hm => ?_⟩
        obtain ⟨ws, hw, hRw⟩ := hm
        have hwl := hRw.length
        rw [List.length_map] at hwl
        refine ⟨p5, rfl, ⟨ws, hw⟩, fun D hD => lc_rows (K := K) (walk_tup (xs := ws)) hD (by omega) ((settle M n S n).map fun qs => qs.2.drop n) (by rw [List.length_map, hwl]) (fun H' e => SqT.same hw e) ?_ (fun acc H6 e6 s6 hR6 => tup_read e6 hR6 (same_trans s1 (same_trans s2 (same_trans s5 s6))) fun p7 H7 s7 h7 => kY S p7 H7 hp good s7 h7)⟩
        rintro i r v H6 H6' Fn Nn hi hr3 fin s6 ⟨rfl, hv⟩
        obtain ⟨u, rr, rfl, hrr, hu⟩ := rows_at hRw hv
        rw [List.getElem?_map] at hr3 hrr
        cases hLi : (settle M n S n)[i]? with
        | none => rw [hLi] at hr3; cases hr3
        | some qs =>
          rw [hLi] at hr3 hrr
          cases hr3
          cases hrr
          obtain ⟨_, _, sl, _⟩ := settle_ok hM wf (by omega) n (Nat.le_refl _) qs.1 qs.2 (List.mem_of_getElem? hLi)
          have hix : HT.sIx (qs.2.map V.int).length 0 (some (n : Int)) = n := by
            rw [HT.sIx_nat]
            simp [sl]
            omega
          refine ⟨rfl, yesT ⟨_, rfl, _, rfl, n, rfl, u, _, rfl, SqT.same hu s6, fun hwh => ?_, fun _ q nq => fin q _ (same_upd nq) ?_⟩⟩
          · rw [hix] at hwh
            omega
          · rw [upd_same]
            congr 2
            unfold cutV
            rw [hix, HT.sIx_none, List.map_drop, List.take_of_length_le (by simp)]
end
end Wk

/-! sums, products of matrices as functions, modulo M -/
namespace Wk
def sumN : Nat → (Nat → Int) → Int
  | 0, _ => 0
  | n + 1, f => sumN n f + f n
theorem sumN_congr {n : Nat} {f g : Nat → Int} (h : ∀ k, k < n → f k = g k) : sumN n f = sumN n g := by
  induction n with
  | zero => rfl
  | succ n ih => rw [sumN, sumN, ih fun k hk => h k (by omega), h n (by omega)]
theorem sumN_add (n : Nat) (f g : Nat → Int) : sumN n (fun k => f k + g k) = sumN n f + sumN n g := by
  induction n with
  | zero => rfl
  | succ n ih => rw [sumN, sumN, sumN, ih]; omega
theorem sumN_zero (n : Nat) : sumN n (fun _ => 0) = 0 := by
  induction n with
  | zero => rfl
  | succ n ih => rw [sumN, ih]; rfl
theorem sumN_mul (n : Nat) (c : Int) (f : Nat → Int) : sumN n (fun k => c * f k) = c * sumN n f := by
  induction n with
  | zero => simp [sumN]
  | succ n ih => rw [sumN, sumN, ih, Int.mul_add]
theorem sumN_comm (n m : Nat) (f : Nat → Nat → Int) : sumN n (fun i => sumN m fun j => f i j) = sumN m (fun j => sumN n fun i => f i j) := by
  induction n with
  | zero => rw [sumN]; exact (sumN_zero m).symm
  | succ n ih => rw [sumN, ih, ← sumN_add]; rfl
theorem sumN_one {n a : Nat} (h : a < n) (x : Int) : sumN n (fun k => if k = a then x else 0) = x := by
  induction n with
  | zero => omega
  | succ n ih =>
    rw [sumN]
    by_cases e : a = n
    · subst e
      rw [if_pos rfl, sumN_congr (g := fun _ => 0) fun k hk => if_neg (by omega), sumN_zero]
      omega
    · rw [ih (by omega), if_neg (by omega)]
      omega
/-- equal modulo M -/
def Eqm (M a b : Int) : Prop := ∃ k, a = b + M * k
theorem Eqm.refl (M a : Int) : Eqm M a a := ⟨0, by simp⟩
theorem Eqm.symm {M a b : Int} (h : Eqm M a b) : Eqm M b a := by
  obtain ⟨k, e⟩ := h
  exact ⟨-k, by rw [e]; grind⟩
theorem Eqm.trans {M a b c : Int} (h : Eqm M a b) (g : Eqm M b c) : Eqm M a c := by
  obtain ⟨k, e⟩ := h
  obtain ⟨l, f⟩ := g
  exact ⟨k + l, by rw [e, f]; grind⟩
theorem Eqm.add {M a b c d : Int} (h : Eqm M a b) (g : Eqm M c d) : Eqm M (a + c) (b + d) := by
  obtain ⟨k, e⟩ := h
  obtain ⟨l, f⟩ := g
  exact ⟨k + l, by rw [e, f]; grind⟩
theorem Eqm.mul {M a b c d : Int} (h : Eqm M a b) (g : Eqm M c d) : Eqm M (a * c) (b * d) := by
  obtain ⟨k, e⟩ := h
  obtain ⟨l, f⟩ := g
  exact ⟨b * l + k * d + M * k * l, by rw [e, f]; grind⟩
theorem Eqm.mod (M a : Int) : Eqm M (a % M) a := ⟨-(a / M), by have := Int.emod_add_mul_ediv a M; grind⟩
theorem Eqm.eq {M a b : Int} (h : a = b) : Eqm M a b := h ▸ .refl _ _
theorem Eqm.emod {M a b : Int} (h : Eqm M a b) : a % M = b % M := by
  obtain ⟨k, e⟩ := h
  rw [e, Int.add_mul_emod_self_left]
theorem Eqm.of {M a b : Int} (h : a % M = b % M) : Eqm M a b := ((Eqm.mod M a).symm.trans (h ▸ .refl M _)).trans (Eqm.mod M b)
theorem Eqm.red {M a b : Int} (h : Eqm M a b) (ha : 0 ≤ a ∧ a < M) (hb : 0 ≤ b ∧ b < M) : a = b := by
  have := h.emod
  rwa [Int.emod_eq_of_lt ha.1 ha.2, Int.emod_eq_of_lt hb.1 hb.2] at this
theorem Eqm.sum {M : Int} {n : Nat} {f g : Nat → Int} (h : ∀ k, k < n → Eqm M (f k) (g k)) : Eqm M (sumN n f) (sumN n g) := by
  induction n with
  | zero => exact .refl _ _
  | succ n ih => exact (ih fun k hk => h k (by omega)).add (h n (by omega))
abbrev Fm := Nat → Nat → Int
def mulF (n : Nat) (A B : Fm) : Fm := fun i j => sumN n fun k => A i k * B k j
def oneF : Fm := fun i j => if i = j then 1 else 0
/-- equal modulo M on n places -/
def EqF (M : Int) (n : Nat) (A B : Fm) : Prop := ∀ i j, i < n → j < n → Eqm M (A i j) (B i j)
theorem EqF.refl (M : Int) (n : Nat) (A : Fm) : EqF M n A A := fun _ _ _ _ => .refl _ _
theorem EqF.symm {M : Int} {n : Nat} {A B : Fm} (h : EqF M n A B) : EqF M n B A := fun i j a b => (h i j a b).symm
theorem EqF.trans {M : Int} {n : Nat} {A B C : Fm} (h : EqF M n A B) (g : EqF M n B C) : EqF M n A C := fun i j a b => (h i j a b).trans (g i j a b)
theorem EqF.mul {M : Int} {n : Nat} {A B C D : Fm} (h : EqF M n A B) (g : EqF M n C D) : EqF M n (mulF n A C) (mulF n B D) := fun i j a b => Eqm.sum fun k hk => (h i k a hk).mul (g k j hk b)
theorem mulF_assoc (n : Nat) (A B C : Fm) : mulF n (mulF n A B) C = mulF n A (mulF n B C) := by
  funext i j
  show sumN n (fun k => sumN n (fun l => A i l * B l k) * C k j) = sumN n (fun l => A i l * sumN n fun k => B l k * C k j)
  have e1 : ∀ k, sumN n (fun l => A i l * B l k) * C k j = sumN n fun l => A i l * (B l k * C k j) := fun k => by
    rw [Int.mul_comm, ← sumN_mul]
    exact sumN_congr fun l _ => by grind
  have e2 : ∀ l, A i l * sumN n (fun k => B l k * C k j) = sumN n fun k => A i l * (B l k * C k j) := fun l => (sumN_mul n _ _).symm
  rw [sumN_congr fun k _ => e1 k, sumN_comm, sumN_congr fun l _ => (e2 l).symm]
theorem mulF_one {M : Int} (n : Nat) (A : Fm) : EqF M n (mulF n A oneF) A := fun i j hi hj => by
  have : mulF n A oneF i j = A i j := by
    show sumN n (fun k => A i k * oneF k j) = _
    rw [sumN_congr (g := fun k => if k = j then A i j else 0) fun k hk => ?_, sumN_one hj]
    show A i k * (if k = j then 1 else 0) = _
    split
    · rename_i e; rw [e]; simp
    · simp
  rw [this]
  exact .refl _ _
theorem one_mulF {M : Int} (n : Nat) (A : Fm) : EqF M n (mulF n oneF A) A := fun i j hi hj => by
  have : mulF n oneF A i j = A i j := by
    show sumN n (fun k => oneF i k * A k j) = _
    rw [sumN_congr (g := fun k => if k = i then A i j else 0) fun k hk => ?_, sumN_one hi]
    show (if i = k then (1 : Int) else 0) * A k j = _
    by_cases e : k = i
    · subst e; simp
    · rw [if_neg (fun z => e z.symm), if_neg e]; simp
  rw [this]
  exact .refl _ _
def powF (n : Nat) (A : Fm) : Nat → Fm
  | 0 => oneF
  | e + 1 => mulF n (powF n A e) A
theorem powF_add {M : Int} (n : Nat) (A : Fm) (a b : Nat) : EqF M n (powF n A (a + b)) (mulF n (powF n A a) (powF n A b)) := by
  induction b with
  | zero => exact (mulF_one n _).symm
  | succ b ih =>
    show EqF M n (mulF n (powF n A (a + b)) A) (mulF n (powF n A a) (mulF n (powF n A b) A))
    rw [← mulF_assoc]
    exact ih.mul (.refl _ _ _)
theorem powF_sq {M : Int} (n : Nat) (A : Fm) (m : Nat) : EqF M n (powF n (mulF n A A) m) (powF n A (2 * m)) := by
  induction m with
  | zero => exact .refl _ _ _
  | succ m ih =>
    show EqF M n (mulF n (powF n (mulF n A A) m) (mulF n A A)) (powF n A (2 * m + 1 + 1))
    refine (ih.mul (.refl _ _ _)).trans ?_
    rw [← mulF_assoc]
    exact .refl _ _ _
theorem powF_congr {M : Int} {n : Nat} {A B : Fm} (h : EqF M n A B) (m : Nat) : EqF M n (powF n A m) (powF n B m) := by
  induction m with
  | zero => exact .refl _ _ _
  | succ m ih => exact ih.mul h
/-! matrices as lists -/
def ent (A : Mat) : Fm := fun i j => (A.getD i []).getD j 0
def Shp (h w : Nat) (A : Mat) : Prop := A.length = h ∧ ∀ r ∈ A, r.length = w
def MRed (M : Int) (A : Mat) : Prop := ∀ r ∈ A, RRed M r
theorem dot_sum : ∀ (n : Nat) (a b : List Int), a.length = n → b.length = n → dotZ a b = sumN n fun k => a.getD k 0 * b.getD k 0 := by
  intro n
  induction n with
  | zero =>
    intro a b h1 h2
    rw [List.eq_nil_of_length_eq_zero h1]
    rfl
  | succ n ih =>
    intro a b h1 h2
    have ea := List.dropLast_concat_getLast (l := a) (by intro z; rw [z] at h1; simp at h1)
    have eb := List.dropLast_concat_getLast (l := b) (by intro z; rw [z] at h2; simp at h2)
    have la : a.dropLast.length = n := by simp [h1]
    have lb : b.dropLast.length = n := by simp [h2]
    generalize a.getLast _ = x at ea
    generalize b.getLast _ = y at eb
    generalize a.dropLast = a' at *
    generalize b.dropLast = b' at *
    subst ea eb
    unfold dotZ
    rw [List.zipWith_append (by omega), sumN]
    have := ih a' b' la lb
    unfold dotZ at this
    simp only [List.sum_append, this, List.zipWith_cons_cons, List.zipWith_nil_right, List.sum_cons, List.sum_nil, Int.add_zero]
    congr 1
    · refine sumN_congr fun k hk => ?_
      rw [List.getD_eq_getElem?_getD, List.getD_eq_getElem?_getD, List.getD_eq_getElem?_getD, List.getD_eq_getElem?_getD, List.getElem?_append_left (by omega), List.getElem?_append_left (by omega)]
    · simp [List.getD_eq_getElem?_getD, ← la, List.getElem?_append_right]
      rw [show a'.length = b'.length by omega]
      simp
theorem ent_at {A : Mat} {i : Nat} {r : Row} (h : A[i]? = some r) (j : Nat) : ent A i j = r.getD j 0 := by
  have e : A.getD i [] = r := by
    rw [List.getD_eq_getElem?_getD, h]
    rfl
  unfold ent
  rw [e]
theorem shp_at {h w : Nat} {A : Mat} (s : Shp h w A) {i : Nat} (hi : i < h) : ∃ r, A[i]? = some r ∧ r.length = w := ⟨A[i]'(by rw [s.1]; exact hi), List.getElem?_eq_getElem _, s.2 _ (List.getElem_mem _)⟩
theorem mat_ext {h w : Nat} {A B : Mat} (sA : Shp h w A) (sB : Shp h w B) (e : ∀ i j, i < h → j < w → ent A i j = ent B i j) : A = B := by
  apply List.ext_getElem?
  intro i
  by_cases hi : i < h
  · obtain ⟨a, ha, la⟩ := shp_at sA hi
    obtain ⟨b, hb, lb⟩ := shp_at sB hi
    rw [ha, hb]
    congr 1
    apply List.ext_getElem?
    intro j
    by_cases hj : j < w
    · have := e i j hi hj
      rw [ent_at ha, ent_at hb, List.getD_eq_getElem?_getD, List.getD_eq_getElem?_getD, List.getElem?_eq_getElem (by omega), List.getElem?_eq_getElem (by omega)] at this
      rw [List.getElem?_eq_getElem (by omega), List.getElem?_eq_getElem (by omega)]
      exact congrArg some this
    · rw [List.getElem?_eq_none (by omega), List.getElem?_eq_none (by omega)]
  · rw [List.getElem?_eq_none (by rw [sA.1]; omega), List.getElem?_eq_none (by rw [sB.1]; omega)]
theorem prod_shp {M : Int} {h m n : Nat} {A B : Mat} (sA : Shp h m A) : Shp h n (prodM M n A B) := by
  refine ⟨by simp [prodM, sA.1], fun r hr => ?_⟩
  obtain ⟨a, _, rfl⟩ := List.mem_map.mp hr
  simp [applyM, colsOf]
theorem prod_red {M : Int} (hM : 1 ≤ M) {n : Nat} {A B : Mat} : MRed M (prodM M n A B) := fun r hr x hx => by
  obtain ⟨a, _, rfl⟩ := List.mem_map.mp hr
  obtain ⟨c, _, rfl⟩ := List.mem_map.mp hx
  exact mod_red hM _
theorem ent_prod {M : Int} {h m n : Nat} {A B : Mat} (sA : Shp h m A) (sB : Shp m n B) {i j : Nat} (hi : i < h) (hj : j < n) : ent (prodM M n A B) i j = (sumN m fun k => ent A i k * ent B k j) % M := by
  obtain ⟨a, ha, la⟩ := shp_at sA hi
  have e1 : (prodM M n A B)[i]? = some (applyM M (colsOf n B) a) := by simp [prodM, ha]
  rw [ent_at e1]
  have e2 : (applyM M (colsOf n B) a)[j]? = some (dotZ (B.map fun r => r.getD j 0) a % M) := by
    simp [applyM, colsOf, List.getElem?_range hj]
  rw [List.getD_eq_getElem?_getD, e2, Option.getD_some, dot_sum m _ _ (by simp [sB.1]) la]
  congr 1
  refine sumN_congr fun k hk => ?_
  obtain ⟨b, hb, lb⟩ := shp_at sB hk
  rw [ent_at ha, ent_at hb, Int.mul_comm]
  congr 1
  rw [List.getD_eq_getElem?_getD, List.getElem?_map, hb]
  rfl
theorem prod_F {M : Int} {n : Nat} {A B : Mat} (sA : Shp n n A) (sB : Shp n n B) : EqF M n (ent (prodM M n A B)) (mulF n (ent A) (ent B)) := fun i j hi hj => by
  rw [ent_prod sA sB hi hj]
  exact Eqm.mod _ _
theorem one_shp (n : Nat) : Shp n n (idM n) := ⟨by simp [idM], fun r hr => by
  obtain ⟨p, _, rfl⟩ := List.mem_map.mp hr
  simp [unitRow]⟩
theorem one_ent {n i j : Nat} (hi : i < n) (hj : j < n) : ent (idM n) i j = oneF i j := by
  have e : (idM n)[i]? = some (unitRow n i) := by simp [idM, List.getElem?_range hi]
  rw [ent_at e, List.getD_eq_getElem?_getD]
  simp only [unitRow, List.getElem?_map, List.getElem?_range hj, Option.map_some, Option.getD_some]
  show (if j = i then (1 : Int) else 0) = if i = j then 1 else 0
  by_cases e : i = j
  · rw [if_pos e, if_pos e.symm]
  · rw [if_neg e, if_neg (fun z => e z.symm)]
theorem one_red {M : Int} (hM : 2 ≤ M) (n : Nat) : MRed M (idM n) := fun r hr x hx => by
  obtain ⟨p, _, rfl⟩ := List.mem_map.mp hr
  obtain ⟨j, _, rfl⟩ := List.mem_map.mp hx
  split <;> omega
theorem mred_ent {M : Int} {h w : Nat} {A : Mat} (sA : Shp h w A) (r : MRed M A) {i j : Nat} (hi : i < h) (hj : j < w) : 0 ≤ ent A i j ∧ ent A i j < M := by
  obtain ⟨a, ha, la⟩ := shp_at sA hi
  rw [ent_at ha, List.getD_eq_getElem?_getD, List.getElem?_eq_getElem (by omega)]
  exact r a (List.mem_of_getElem? ha) _ (List.getElem_mem _)
theorem mat_eqm {M : Int} {n : Nat} {A B : Mat} (sA : Shp n n A) (sB : Shp n n B) (rA : MRed M A) (rB : MRed M B) (e : EqF M n (ent A) (ent B)) : A = B :=
  mat_ext sA sB fun i j hi hj => (e i j hi hj).red (mred_ent sA rA hi hj) (mred_ent sB rB hi hj)
theorem mpow_ok {M : Int} (hM : 2 ≤ M) {n : Nat} {A : Mat} (sA : Shp n n A) : ∀ e, Shp n n (mpow M n A e) ∧ MRed M (mpow M n A e) ∧ EqF M n (ent (mpow M n A e)) (powF n (ent A) e)
  | 0 => ⟨one_shp n, one_red hM n, fun i j hi hj => by
    show Eqm M (ent (idM n) i j) (oneF i j)
    rw [one_ent hi hj]
    exact .refl _ _⟩
  | e + 1 => by
    obtain ⟨a, b, c⟩ := mpow_ok hM sA e
    exact ⟨prod_shp a, prod_red (by omega), (prod_F a sA).trans (c.mul (.refl _ _ _))⟩
end Wk

/-! what undone finds: spans of rows modulo M -/
namespace Wk
abbrev Vec := Nat → Int
def fn (r : Row) : Vec := fun j => r.getD j 0
inductive InS (M : Int) (n : Nat) (G : Vec → Prop) : Vec → Prop
  | zero {v : Vec} : (∀ j, j < n → Eqm M (v j) 0) → InS M n G v
  | add {s v w : Vec} (c : Int) : G s → InS M n G v → (∀ j, j < n → Eqm M (w j) (v j + c * s j)) → InS M n G w
theorem InS.congr {M : Int} {n : Nat} {G : Vec → Prop} {v w : Vec} (h : InS M n G v) (e : ∀ j, j < n → Eqm M (w j) (v j)) : InS M n G w := by
  cases h with
  | zero h => exact .zero fun j hj => (e j hj).trans (h j hj)
  | add c g h f => exact .add c g h fun j hj => (e j hj).trans (f j hj)
theorem InS.of {M : Int} {n : Nat} {G : Vec → Prop} {s : Vec} (h : G s) : InS M n G s := .add (v := fun _ => 0) 1 h (.zero fun _ _ => .refl _ _) fun j _ => by
  rw [Int.zero_add, Int.one_mul]
  exact .refl _ _
theorem InS.scale {M : Int} {n : Nat} {G : Vec → Prop} {v u : Vec} (a : Int) (h : InS M n G v) (e : ∀ j, j < n → Eqm M (u j) (a * v j)) : InS M n G u := by
  induction h generalizing u with
  | zero h => exact .zero fun j hj => (e j hj).trans (((Eqm.refl M a).mul (h j hj)).trans (.eq (by simp)))
  | add c g h f ih =>
    rename_i s v w
    exact .add (a * c) g (ih (u := fun j => a * v j) fun j _ => .refl _ _) fun j hj => (e j hj).trans (((Eqm.refl M a).mul (f j hj)).trans (.eq (by grind)))
theorem InS.sum {M : Int} {n : Nat} {G : Vec → Prop} {v w u : Vec} (h : InS M n G v) (g : InS M n G w) (e : ∀ j, j < n → Eqm M (u j) (v j + w j)) : InS M n G u := by
  induction h generalizing u with
  | zero h => exact g.congr fun j hj => (e j hj).trans (((h j hj).add (.refl _ _)).trans (.eq (by simp)))
  | add c k h f ih =>
    rename_i s v' w'
    exact .add c k (ih (u := fun j => v' j + w j) fun j _ => .refl _ _) fun j hj => (e j hj).trans (((f j hj).add (.refl _ _)).trans (.eq (by grind)))
theorem InS.comb {M : Int} {n : Nat} {G : Vec → Prop} {v w u : Vec} (a b : Int) (h : InS M n G v) (g : InS M n G w) (e : ∀ j, j < n → Eqm M (u j) (a * v j + b * w j)) : InS M n G u :=
  (h.scale a (u := fun j => a * v j) fun _ _ => .refl _ _).sum (g.scale b (u := fun j => b * w j) fun _ _ => .refl _ _) e
theorem InS.trans {M : Int} {n : Nat} {G G' : Vec → Prop} (t : ∀ s, G s → InS M n G' s) {v : Vec} (h : InS M n G v) : InS M n G' v := by
  induction h with
  | zero h => exact .zero h
  | add c g h f ih => exact ih.comb 1 c (t _ g) fun j hj => (f j hj).trans (.eq (by simp))
theorem InS.mono {M : Int} {n : Nat} {G G' : Vec → Prop} (t : ∀ s, G s → G' s) {v : Vec} (h : InS M n G v) : InS M n G' v := h.trans fun s g => .of (t s g)
theorem InS.sumN {M : Int} {n : Nat} {G : Vec → Prop} {m : Nat} {v : Nat → Vec} (c : Nat → Int) (h : ∀ k, k < m → InS M n G (v k)) {u : Vec} (e : ∀ j, j < n → Eqm M (u j) (sumN m fun k => c k * v k j)) : InS M n G u := by
  induction m generalizing u with
  | zero => exact .zero e
  | succ m ih => exact (ih (fun k hk => h k (by omega)) (u := fun j => Wk.sumN m fun k => c k * v k j) fun _ _ => .refl _ _).comb 1 (c m) (h m (by omega)) fun j hj => (e j hj).trans (.eq (by rw [Wk.sumN]; simp))
/-- the steps from place p on; these and one row more -/
def GS (S : List (Option Row)) (p : Nat) (v : Vec) : Prop := ∃ q s, p ≤ q ∧ S[q]? = some (some s) ∧ v = fn s
def GR (S : List (Option Row)) (p : Nat) (r : Row) (v : Vec) : Prop := GS S p v ∨ v = fn r
theorem mul_fn {M f : Int} {r : Row} (j : Nat) : Eqm M (fn (mulRow M f r) j) (f * fn r j) := by
  unfold fn mulRow
  rw [List.getD_eq_getElem?_getD, List.getD_eq_getElem?_getD, List.getElem?_map]
  cases r[j]? with
  | none => exact .eq (by simp)
  | some x => exact Eqm.mod _ _
theorem comb_fn {M f g : Int} {r s : Row} (h : r.length = s.length) (j : Nat) : Eqm M (fn (Wk.comb M f r g s) j) (f * fn r j + g * fn s j) := by
  unfold fn Wk.comb
  rw [List.getD_eq_getElem?_getD, List.getD_eq_getElem?_getD, List.getD_eq_getElem?_getD, List.getElem?_zipWith]
  by_cases hj : j < r.length
  · rw [List.getElem?_eq_getElem hj, List.getElem?_eq_getElem (by omega)]
    exact Eqm.mod _ _
  · rw [List.getElem?_eq_none (by omega), List.getElem?_eq_none (by omega)]
    exact .eq (by simp)
theorem set_at {S : List (Option Row)} {i q : Nat} {s : Row} (hi : i < S.length) : (S.set i (some s))[q]? = if q = i then some (some s) else S[q]? := by
  by_cases e : q = i
  · subst e
    rw [if_pos rfl, List.getElem?_set_self hi]
  · rw [if_neg e, List.getElem?_set_ne (fun z => e z.symm)]
/-- what a step of a put does: rows of before lie in the span of after -/
theorem swap {M : Int} {W n i : Nat} {S S' : List (Option Row)} {r r' : Row} {N : Int} (wf : WF M W n S) (hi : i < n) (hr : r.length = W) (st : PutStep M i S r N S' r') :
    (∀ p, p ≤ i → ∀ v, GR S p r v → InS M n (GR S' p r') v) ∧ (∀ p, i < p → ∀ v, GS S p v → GS S' p v) ∧
    (∀ q, q ≠ i → S'[q]? = S[q]?) := by
  have hl : i < S.length := by rw [wf.len]; exact hi
  rcases st with ⟨e0, g, lf, f, hg, g1, hbz, rfl, rfl⟩ | ⟨s, P, e0, hP, st⟩
  · have oth : ∀ q, q ≠ i → (S.set i (some (mulRow M f r)))[q]? = S[q]? := fun q hq => by rw [set_at hl, if_neg hq]
    have hgM : g ∣ M := hg ▸ Int.gcd_dvd_left ..
    have hgN : g ∣ N := hg ▸ Int.gcd_dvd_right ..
    refine ⟨fun p hp v hv => ?_, fun p hp v ⟨q, s, h1, h2, h3⟩ => ⟨q, s, h1, by rw [oth q (by omega)]; exact h2, h3⟩, oth⟩
    rcases hv with ⟨q, s, h1, h2, h3⟩ | rfl
    · refine .of (.inl ⟨q, s, h1, ?_, h3⟩)
      rw [oth q (fun z => by rw [z, e0] at h2; cases h2)]
      exact h2
    · have a1 : InS M n (GR (S.set i (some (mulRow M f r))) p (mulRow M (M / g) r)) (fn (mulRow M f r)) := .of (.inl ⟨i, _, hp, by rw [set_at hl, if_pos rfl], rfl⟩)
      have a2 : InS M n (GR (S.set i (some (mulRow M f r))) p (mulRow M (M / g) r)) (fn (mulRow M (M / g) r)) := .of (.inr rfl)
      refine a1.comb (N / g) lf a2 fun j _ => ?_
      obtain ⟨a, rfl⟩ := hgM
      obtain ⟨b, rfl⟩ := hgN
      rw [Int.mul_ediv_cancel_left _ (by omega), Int.mul_ediv_cancel_left _ (by omega)]
      refine Eqm.trans (.eq ?_) (((Eqm.refl _ b).mul (mul_fn j).symm).add ((Eqm.refl _ lf).mul (mul_fn j).symm))
      have e : lf * a + f * b = 1 := by
        have : g * (lf * a + f * b) = g * 1 := by grind
        exact Int.eq_of_mul_eq_mul_left (by omega) this
      have : b * (f * fn r j) + lf * (a * fn r j) = (lf * a + f * b) * fn r j := by grind
      rw [this, e, Int.one_mul]
  · obtain ⟨sl, sr, ⟨P', hP', p1, pM⟩, sz⟩ := wf.row i s e0
    rw [hP] at hP'
    cases hP'
    rcases st with ⟨h0, rfl, rfl⟩ | ⟨g, lf, f, hg, g1, hbz, rfl, rfl⟩
    · refine ⟨fun p hp v hv => ?_, fun p hp v h => h, fun _ _ => rfl⟩
      rcases hv with h | rfl
      · exact .of (.inl h)
      · have a1 : InS M n (GR S' p (Wk.comb M 1 r (-(N / P)) s)) (fn s) := .of (.inl ⟨i, s, hp, e0, rfl⟩)
        have a2 : InS M n (GR S' p (Wk.comb M 1 r (-(N / P)) s)) (fn (Wk.comb M 1 r (-(N / P)) s)) := .of (.inr rfl)
        refine a1.comb (N / P) 1 a2 fun j _ => ?_
        refine Eqm.trans (.eq ?_) ((Eqm.refl _ _).add ((Eqm.refl _ 1).mul (comb_fn (by omega) j).symm))
        grind
    · have oth : ∀ q, q ≠ i → (S.set i (some (Wk.comb M f r lf s)))[q]? = S[q]? := fun q hq => by rw [set_at hl, if_neg hq]
      have hgP : g ∣ P := hg ▸ Int.gcd_dvd_left ..
      have hgN : g ∣ N := hg ▸ Int.gcd_dvd_right ..
      refine ⟨fun p hp v hv => ?_, fun p hp v ⟨q, s, h1, h2, h3⟩ => ⟨q, s, h1, by rw [oth q (by omega)]; exact h2, h3⟩, oth⟩
      have a1 : InS M n (GR (S.set i (some (Wk.comb M f r lf s))) p (Wk.comb M (P / g) r (-(N / g)) s)) (fn (Wk.comb M f r lf s)) := .of (.inl ⟨i, _, hp, by rw [set_at hl, if_pos rfl], rfl⟩)
      have a2 : InS M n (GR (S.set i (some (Wk.comb M f r lf s))) p (Wk.comb M (P / g) r (-(N / g)) s)) (fn (Wk.comb M (P / g) r (-(N / g)) s)) := .of (.inr rfl)
      obtain ⟨a, rfl⟩ := hgP
      obtain ⟨b, rfl⟩ := hgN
      rw [Int.mul_ediv_cancel_left _ (by omega), Int.mul_ediv_cancel_left _ (by omega)] at a1 a2 ⊢
      have e : lf * a + f * b = 1 := by
        have : g * (lf * a + f * b) = g * 1 := by grind
        exact Int.eq_of_mul_eq_mul_left (by omega) this
      rcases hv with ⟨q, t, h1, h2, h3⟩ | rfl
      · by_cases hq : q = i
        · subst hq
          rw [e0] at h2
          cases h2
          subst h3
          refine a1.comb a (-f) a2 fun j _ => ?_
          refine Eqm.trans (.eq ?_) (((Eqm.refl _ a).mul (comb_fn (by omega) j).symm).add ((Eqm.refl _ (-f)).mul (comb_fn (by omega) j).symm))
          have : a * (f * fn r j + lf * fn s j) + -f * (a * fn r j + -b * fn s j) = (lf * a + f * b) * fn s j := by grind
          rw [this, e, Int.one_mul]
        · exact .of (.inl ⟨q, t, h1, by rw [oth q hq]; exact h2, h3⟩)
      · refine a1.comb b lf a2 fun j _ => ?_
        refine Eqm.trans (.eq ?_) (((Eqm.refl _ b).mul (comb_fn (by omega) j).symm).add ((Eqm.refl _ lf).mul (comb_fn (by omega) j).symm))
        have : b * (f * fn r j + lf * fn s j) + lf * (a * fn r j + -b * fn s j) = (lf * a + f * b) * fn r j := by grind
        rw [this, e, Int.one_mul]
/-- each step times the rest of the modulus lies in the span of those behind it -/
def J3 (M : Int) (n i : Nat) (S : List (Option Row)) (r : Row) : Prop := ∀ q s x, S[q]? = some (some s) → s[q]? = some x → (q < i → InS M n (GR S (q + 1) r) fun j => M / x * fn s j) ∧ (i ≤ q → InS M n (GS S (q + 1)) fun j => M / x * fn s j)
theorem J3.step {M : Int} {W n i : Nat} {S S' : List (Option Row)} {r r' : Row} {N : Int} (hM : 2 ≤ M) (wf : WF M W n S) (hi : i < n) (hr : r.length = W) (rr : RRed M r) (hN : r[i]? = some N) (hN1 : 1 ≤ N) (st : PutStep M i S r N S' r') (J : J3 M n i S r) : J3 M n (i + 1) S' r' := by
  obtain ⟨sw, hi2, oth⟩ := swap wf hi hr st
  have hl : i < S.length := by rw [wf.len]; exact hi
  have hNM : N < M := (rr N (List.mem_of_getElem? hN)).2
  intro q t x hq hx
  refine ⟨fun h => ?_, fun h => ?_⟩
  · by_cases e : q = i
    · subst e
      rcases st with ⟨e0, g, lf, f, hg, g1, hbz, rfl, rfl⟩ | ⟨s, P, e0, hP, st⟩
      · rw [set_at hl, if_pos rfl] at hq
        cases hq
        have hgM : g ∣ M := hg ▸ Int.gcd_dvd_left ..
        have hgN := gcd_le_r (a := M) (b := N) hN1
        have ex : x = g := by
          rw [mulRow_at hN] at hx
          cases hx
          rw [show f * N = g - lf * M by omega, Int.sub_mul_emod_self_right, Int.emod_eq_of_lt (by omega) (by omega)]
        subst ex
        have a2 : InS M n (GR (S.set q (some (mulRow M f r))) (q + 1) (mulRow M (M / x) r)) (fn (mulRow M (M / x) r)) := .of (.inr rfl)
        refine a2.scale f fun j _ => ?_
        refine ((Eqm.refl _ _).mul (mul_fn j)).trans (Eqm.trans (.eq ?_) ((Eqm.refl _ f).mul (mul_fn j).symm))
        grind
      · obtain ⟨sl, sr, ⟨P', hP', p1, pM⟩, sz⟩ := wf.row q s e0
        rw [hP] at hP'
        cases hP'
        have hPM : P < M := (sr P (List.mem_of_getElem? hP)).2
        have jq := (J q s P e0 hP).2 (Nat.le_refl _)
        rcases st with ⟨h0, rfl, rfl⟩ | ⟨g, lf, f, hg, g1, hbz, rfl, rfl⟩
        · rw [e0] at hq
          cases hq
          rw [hP] at hx
          cases hx
          exact jq.mono fun v h => .inl h
        · rw [set_at hl, if_pos rfl] at hq
          cases hq
          have hgP := gcd_le_l (a := P) (b := N) p1
          have ex : x = g := by
            rw [comb_at hN hP] at hx
            cases hx
            rw [show f * N + lf * P = g by omega, Int.emod_eq_of_lt (by omega) (by omega)]
          subst ex
          have hgP' : x ∣ P := hg ▸ Int.gcd_dvd_left ..
          have hgN' : x ∣ N := hg ▸ Int.gcd_dvd_right ..
          have a1 : InS M n (GR (S.set q (some (Wk.comb M f r lf s))) (q + 1) (Wk.comb M (P / x) r (-(N / x)) s)) fun j => M / P * fn s j := jq.mono fun v h => .inl (hi2 _ (Nat.lt_succ_self _) v h)
          have a2 : InS M n (GR (S.set q (some (Wk.comb M f r lf s))) (q + 1) (Wk.comb M (P / x) r (-(N / x)) s)) (fn (Wk.comb M (P / x) r (-(N / x)) s)) := .of (.inr rfl)
          refine a1.comb 1 (M / P * f) a2 fun j _ => ?_
          refine ((Eqm.refl _ _).mul (comb_fn (by omega) j)).trans (Eqm.trans (.eq ?_) ((Eqm.refl _ _).add ((Eqm.refl _ (M / P * f)).mul (comb_fn (by omega) j).symm)))
          obtain ⟨a, rfl⟩ := hgP'
          obtain ⟨b, rfl⟩ := hgN'
          obtain ⟨m, rfl⟩ := pM
          rw [Int.mul_ediv_cancel_left _ (by omega), Int.mul_ediv_cancel_left _ (by omega), Int.mul_ediv_cancel_left _ (by omega), Int.mul_assoc x a m, Int.mul_ediv_cancel_left _ (by omega)]
          have e : lf * a + f * b = 1 := by
            have : x * (lf * a + f * b) = x * 1 := by grind
            exact Int.eq_of_mul_eq_mul_left (by omega) this
          have : 1 * (m * fn s j) + m * f * (a * fn r j + -b * fn s j) = m * a * (f * fn r j) + m * (1 - f * b) * fn s j := by grind
          rw [this, show 1 - f * b = lf * a by omega]
          grind
    · rw [oth q e] at hq
      exact ((J q t x hq hx).1 (by omega)).trans (sw (q + 1) (by omega))
  · rw [oth q (by omega)] at hq
    exact ((J q t x hq hx).2 (by omega)).mono (hi2 (q + 1) (by omega))
theorem J3.skip {M : Int} {n i : Nat} {S : List (Option Row)} {r : Row} (J : J3 M n i S r) : J3 M n (i + 1) S r := fun q s x h1 h2 => by
  refine ⟨fun h => ?_, fun h => (J q s x h1 h2).2 (by omega)⟩
  by_cases e : q < i
  · exact (J q s x h1 h2).1 e
  · exact ((J q s x h1 h2).2 (by omega)).mono fun v h => .inl h
theorem Ch.span {M : Int} {W n i : Nat} {S0 S : List (Option Row)} {r0 r : Row} (c : Ch M S0 r0 i S r) (hM : 2 ≤ M) (wf : WF M W n S0) (hr : r0.length = W) (rr : RRed M r0) (hi : i ≤ n) (J : J3 M n 0 S0 r0) :
    (∀ v, GR S0 0 r0 v → InS M n (GR S 0 r) v) ∧ J3 M n i S r := by
  induction c with
  | base => exact ⟨fun v h => .of h, J⟩
  | skip c h ih =>
    obtain ⟨a, b⟩ := ih (by omega)
    exact ⟨a, b.skip⟩
  | step c h h1 st ih =>
    obtain ⟨a, b⟩ := ih (by omega)
    obtain ⟨w1, w2, w3, w4⟩ := c.wf hM wf hr rr
    obtain ⟨sw, _, _⟩ := swap w1 (by omega) w2 st
    exact ⟨fun v hv => (a v hv).trans (sw 0 (Nat.zero_le _)), b.step hM w1 (by omega) w2 w3 h h1 st⟩
/-- behind a put -/
theorem Ch.done {M : Int} {W n : Nat} {S0 S : List (Option Row)} {r0 r : Row} (c : Ch M S0 r0 n S r) (hM : 2 ≤ M) (wf : WF M W n S0) (hr : r0.length = W) (rr : RRed M r0) (J : ∀ q s x, S0[q]? = some (some s) → s[q]? = some x → InS M n (GS S0 (q + 1)) fun j => M / x * fn s j) :
    (∀ v, GR S0 0 r0 v → InS M n (GS S 0) v) ∧ ∀ q s x, S[q]? = some (some s) → s[q]? = some x → InS M n (GS S (q + 1)) fun j => M / x * fn s j := by
  obtain ⟨a, b⟩ := c.span hM wf hr rr (Nat.le_refl _) fun q s x h1 h2 => ⟨fun h => absurd h (Nat.not_lt_zero _), fun _ => J q s x h1 h2⟩
  obtain ⟨w1, w2, w3, w4⟩ := c.wf hM wf hr rr
  have z : ∀ p v, GR S p r v → InS M n (GS S p) v := fun p v h => by
    rcases h with h | rfl
    · exact .of h
    · refine .zero fun j hj => ?_
      unfold fn
      rw [List.getD_eq_getElem?_getD, w4 j hj]
      exact .refl _ _
  refine ⟨fun v h => (a v h).trans (z 0), fun q s x h1 h2 => ?_⟩
  by_cases h : q < n
  · exact ((b q s x h1 h2).1 h).trans (z (q + 1))
  · exact (b q s x h1 h2).2 (by omega)
end Wk

/-! what undone tells -/
namespace Wk
theorem Puts.span {M : Int} (hM : 2 ≤ M) {n k : Nat} {A : Mat} {S : List (Option Row)} (hA : ∀ r ∈ A, r.length = n) (p : Puts M n A k S) :
    (∀ i a, i < k → A[i]? = some a → InS M n (GS S 0) (fn a)) ∧ ∀ q s x, S[q]? = some (some s) → s[q]? = some x → InS M n (GS S (q + 1)) fun j => M / x * fn s j := by
  induction p with
  | zero => exact ⟨fun i a h => absurd h (Nat.not_lt_zero _), fun q s x h => by
      rw [List.getElem?_replicate] at h
      split at h <;> cases h⟩
  | succ p h c ih =>
    rename_i k S S' a r'
    obtain ⟨i1, i2⟩ := ih
    obtain ⟨o1, o2⟩ := rowOf_ok hM (k := k) (hA _ (List.mem_of_getElem? h))
    obtain ⟨d1, d2⟩ := c.done hM (p.wf hM hA) o1 o2 i2
    refine ⟨fun i b hi hb => ?_, d2⟩
    rcases Nat.lt_succ_iff_lt_or_eq.mp hi with z | z
    · exact (i1 i b z hb).trans fun v hv => d1 v (.inl hv)
    · subst z
      rw [h] at hb
      cases hb
      refine (d1 _ (.inr rfl)).congr fun j hj => ?_
      have hal := hA _ (List.mem_of_getElem? h)
      unfold fn rowOf
      rw [List.getD_eq_getElem?_getD, List.getD_eq_getElem?_getD, List.getElem?_append_left (by simp; omega), List.getElem?_map, List.getElem?_eq_getElem (by omega)]
      exact (Eqm.mod _ _).symm
/-- rows of the span that vanish ahead of p lie in the span of the steps from p on -/
theorem InS.split {M : Int} {n p : Nat} {S : List (Option Row)} {v : Vec} (h : InS M n (GS S p) v) : (∃ s c w, S[p]? = some (some s) ∧ InS M n (GS S (p + 1)) w ∧ ∀ j, j < n → Eqm M (v j) (w j + c * fn s j)) ∨ InS M n (GS S (p + 1)) v := by
  induction h with
  | zero h => exact .inr (.zero h)
  | add c g h f ih =>
    rename_i s v w
    obtain ⟨q, t, h1, h2, rfl⟩ := g
    by_cases e : q = p
    · subst e
      rcases ih with ⟨s, d, u, g1, g2, g3⟩ | g2
      · rw [h2] at g1
        cases g1
        exact .inl ⟨t, d + c, u, h2, g2, fun j hj => (f j hj).trans (((g3 j hj).add (.refl _ _)).trans (.eq (by grind)))⟩
      · exact .inl ⟨t, c, v, h2, g2, f⟩
    · have gt : GS S (p + 1) (fn t) := ⟨q, t, by omega, h2, rfl⟩
      rcases ih with ⟨s, d, u, g1, g2, g3⟩ | g2
      · exact .inl ⟨s, d, fun j => u j + c * fn t j, g1, .add c gt g2 fun _ _ => .refl _ _, fun j hj => (f j hj).trans (((g3 j hj).add (.refl _ _)).trans (.eq (by grind)))⟩
      · exact .inr (.add c gt g2 f)
theorem InS.vanish {M : Int} {W n p : Nat} {S : List (Option Row)} (wf : WF M W n S) (hp : p < n) {v : Vec} (h : InS M n (GS S (p + 1)) v) : Eqm M (v p) 0 := by
  induction h with
  | zero h => exact h p hp
  | add c g h f ih =>
    obtain ⟨q, t, h1, h2, rfl⟩ := g
    have hz := (wf.row q t h2).2.2.2 p (by omega)
    have e : fn t p = 0 := by
      unfold fn
      rw [List.getD_eq_getElem?_getD, hz]
      rfl
    refine (f p hp).trans ?_
    rw [e]
    exact (ih.add (.refl _ _)).trans (.eq (by simp))
theorem InS.down {M : Int} {W n p : Nat} {S : List (Option Row)} (wf : WF M W n S) (J : ∀ q s x, S[q]? = some (some s) → s[q]? = some x → InS M n (GS S (q + 1)) fun j => M / x * fn s j) (hp : p < n) {v : Vec} (h : InS M n (GS S p) v) (h0 : Eqm M (v p) 0) : InS M n (GS S (p + 1)) v := by
  rcases h.split with ⟨s, c, w, g1, g2, g3⟩ | g
  · obtain ⟨_, _, ⟨x, hx, x1, xM⟩, _⟩ := wf.row p s g1
    have e1 : fn s p = x := by
      unfold fn
      rw [List.getD_eq_getElem?_getD, hx]
      rfl
    have e2 := ((g3 p hp).symm.trans h0)
    rw [e1] at e2
    have e3 : Eqm M (c * x) 0 := (((g2.vanish wf hp).symm.add (.refl M (c * x))).trans e2 |> fun z => (Eqm.eq (by simp)).trans z)
    obtain ⟨k, e4⟩ := e3
    obtain ⟨m, rfl⟩ := xM
    have e5 : c = m * k := by
      have : x * c = x * (m * k) := by grind
      exact Int.eq_of_mul_eq_mul_left (by omega) this
    have j := J p s x g1 hx
    rw [Int.mul_ediv_cancel_left _ (by omega)] at j
    refine g2.comb 1 k j fun q hq => (g3 q hq).trans (.eq ?_)
    rw [e5]
    grind
  · exact g
theorem und_bad {M : Int} (hM : 2 ≤ M) {n : Nat} {A : Mat} {S : List (Option Row)} (sA : Shp n n A) (p : Puts M n A n S) (bad : ∃ i, i < n ∧ (S[i]? = some none ∨ ∃ s x, S[i]? = some (some s) ∧ s[i]? = some x ∧ x ≠ 1)) (B : Fm) (hB : EqF M n (mulF n B (ent A)) oneF) : False := by
  obtain ⟨i, hi, bad⟩ := bad
  have wf := p.wf hM sA.2
  obtain ⟨s1, J⟩ := p.span hM sA.2
  have e0 : InS M n (GS S 0) (fun j => oneF i j) := by
    refine InS.sumN (m := n) (v := fun k j => ent A k j) (B i) (fun k hk => ?_) fun j hj => (hB i j hi hj).symm
    obtain ⟨a, ha, la⟩ := shp_at sA hk
    exact (s1 k a hk ha).congr fun j _ => .eq (ent_at ha j)
  have ep : ∀ q, q ≤ i → InS M n (GS S q) (fun j => oneF i j) := by
    intro q
    induction q with
    | zero => exact fun _ => e0
    | succ q ih =>
      intro hq
      refine (ih (by omega)).down wf J (by omega) (.eq ?_)
      show (if i = q then (1 : Int) else 0) = 0
      rw [if_neg (by omega)]
  have ei := ep i (Nat.le_refl _)
  have one : oneF i i = 1 := by
    show (if i = i then (1 : Int) else 0) = 1
    rw [if_pos rfl]
  rcases ei.split with ⟨s, c, w, g1, g2, g3⟩ | g
  · obtain ⟨_, _, ⟨x, hx, x1, xM⟩, _⟩ := wf.row i s g1
    have e1 : fn s i = x := by
      unfold fn
      rw [List.getD_eq_getElem?_getD, hx]
      rfl
    have e2 : Eqm M (oneF i i) (w i + c * fn s i) := g3 i hi
    rw [one, e1] at e2
    obtain ⟨k, e3⟩ := (e2.trans ((g2.vanish wf hi).add (.refl M (c * x))))
    have hx1 : x ∣ 1 := by
      obtain ⟨m, rfl⟩ := xM
      exact ⟨c + m * k, by grind⟩
    have hx2 : x = 1 := by
      have := Int.le_of_dvd (by decide) hx1
      omega
    rcases bad with h | ⟨t, y, h1, h2, h3⟩
    · rw [h] at g1
      cases g1
    · rw [h1] at g1
      cases g1
      rw [h2] at hx
      cases hx
      exact h3 hx2
  · have e2 : Eqm M (oneF i i) 0 := g.vanish wf hi
    rw [one] at e2
    obtain ⟨k, e3⟩ := e2
    have : M ∣ 1 := ⟨k, by omega⟩
    have := Int.le_of_dvd (by decide) this
    omega
/-! the rows behind are what the rows ahead are made of -/
def Rel (M : Int) (n : Nat) (A : Mat) (r : Row) : Prop := r.length = 2 * n ∧ ∀ j, j < n → Eqm M (fn r j) (sumN n fun k => fn r (n + k) * ent A k j)
theorem rel_mul {M f : Int} {n : Nat} {A : Mat} {r : Row} (h : Rel M n A r) : Rel M n A (mulRow M f r) := by
  refine ⟨by simp [mulRow, h.1], fun j hj => ?_⟩
  refine (mul_fn j).trans (((Eqm.refl M f).mul (h.2 j hj)).trans ?_)
  rw [← sumN_mul]
  refine Eqm.sum fun k _ => Eqm.trans (.eq (by grind)) ((mul_fn (n + k)).symm.mul (.refl _ _))
theorem rel_comb {M f g : Int} {n : Nat} {A : Mat} {r s : Row} (h : Rel M n A r) (h2 : Rel M n A s) : Rel M n A (comb M f r g s) := by
  have hl : r.length = s.length := by rw [h.1, h2.1]
  refine ⟨by simp [comb, h.1, h2.1], fun j hj => ?_⟩
  refine (comb_fn hl j).trans ((((Eqm.refl M f).mul (h.2 j hj)).add ((Eqm.refl M g).mul (h2.2 j hj))).trans ?_)
  rw [← sumN_mul, ← sumN_mul, ← sumN_add]
  refine Eqm.sum fun k _ => Eqm.trans (.eq (by grind)) ((comb_fn hl (n + k)).symm.mul (.refl _ _))
theorem rel_row {M : Int} {n k : Nat} {A : Mat} (sA : Shp n n A) {a : Row} (hk : k < n) (h : A[k]? = some a) : Rel M n A (rowOf M n a k) := by
  have la := sA.2 a (List.mem_of_getElem? h)
  refine ⟨by simp [rowOf, unitRow, la]; omega, fun j hj => ?_⟩
  have e1 : Eqm M (fn (rowOf M n a k) j) (ent A k j) := by
    rw [ent_at h]
    unfold fn rowOf
    rw [List.getD_eq_getElem?_getD, List.getD_eq_getElem?_getD, List.getElem?_append_left (by simp; omega), List.getElem?_map, List.getElem?_eq_getElem (by omega)]
    exact Eqm.mod _ _
  refine e1.trans (.eq ?_)
  rw [sumN_congr (g := fun q => if q = k then ent A k j else 0) fun q hq => ?_, sumN_one hk]
  have e2 : fn (rowOf M n a k) (n + q) = if q = k then 1 else 0 := by
    unfold fn rowOf
    rw [List.getD_eq_getElem?_getD, List.getElem?_append_right (by simp; omega)]
    simp [unitRow, la, List.getElem?_range hq]
  rw [e2]
  by_cases e : q = k
  · subst e
    simp
  · rw [if_neg e, if_neg e]
    simp
def AllRel (M : Int) (n : Nat) (A : Mat) (S : List (Option Row)) : Prop := ∀ (q : Nat) (s : Row), S[q]? = some (some s) → Rel M n A s
theorem AllRel.set {M : Int} {n : Nat} {A : Mat} {S : List (Option Row)} (h : AllRel M n A S) {s : Row} (hs : Rel M n A s) (i : Nat) : AllRel M n A (S.set i (some s)) := fun q t e => by
  by_cases z : i = q
  · subst z
    by_cases hl : i < S.length
    · rw [List.getElem?_set_self hl] at e
      cases e
      exact hs
    · rw [List.getElem?_eq_none (by rw [List.length_set]; omega)] at e
      cases e
  · rw [List.getElem?_set_ne z] at e
    exact h q t e
theorem Ch.rel {M : Int} {n i : Nat} {A : Mat} {S0 S : List (Option Row)} {r0 r : Row} (c : Ch M S0 r0 i S r) (h0 : AllRel M n A S0) (hr : Rel M n A r0) : AllRel M n A S ∧ Rel M n A r := by
  induction c with
  | base => exact ⟨h0, hr⟩
  | skip c h ih => exact ih
  | step c h h1 st ih =>
    obtain ⟨a, b⟩ := ih
    rcases st with ⟨e0, g, lf, f, hg, g1, hbz, rfl, rfl⟩ | ⟨s, P, e0, hP, st⟩
    · exact ⟨a.set (rel_mul b) _, rel_mul b⟩
    · have hs := a _ _ e0
      rcases st with ⟨_, rfl, rfl⟩ | ⟨g, lf, f, hg, g1, hbz, rfl, rfl⟩
      · exact ⟨a, rel_comb b hs⟩
      · exact ⟨a.set (rel_comb b hs) _, rel_comb b hs⟩
theorem Puts.rel {M : Int} {n k : Nat} {A : Mat} {S : List (Option Row)} (sA : Shp n n A) (p : Puts M n A k S) : AllRel M n A S := by
  induction p with
  | zero =>
    intro q s e
    rw [List.getElem?_replicate] at e
    split at e <;> cases e
  | succ p h c ih =>
    have hk := (List.getElem?_eq_some_iff.mp h).1
    exact (c.rel ih (rel_row sA (by rw [← sA.1]; exact hk) h)).1
theorem lessen_rel {M : Int} {n : Nat} {A : Mat} : ∀ {L : List (Nat × Row)} {r : Row}, (∀ q s, (q, s) ∈ L → Rel M n A s) → Rel M n A r → Rel M n A (lessen M r L)
  | [], r, _, h => h
  | (q, s) :: L, r, hL, h => by
    unfold lessen
    refine lessen_rel (fun q s m => hL q s (List.mem_cons_of_mem _ m)) ?_
    split
    · exact rel_comb h (hL q s List.mem_cons_self)
    · exact h
/-- behind lessen each place of a row behind is less than its pivot -/
theorem lessen_lt {M : Int} {W : Nat} (hM : 1 ≤ M) : ∀ {L : List (Nat × Row)} {r : Row}, LOk M W L → L.Pairwise (fun a b => b.2[a.1]? = some 0) → r.length = W → RRed M r → ∀ q s, (q, s) ∈ L → fn (lessen M r L) q < fn s q
  | [], _, _, _, _, _, q, s, h => by cases h
  | (p, t) :: L, r, hL, hp, h1, h2, q, s, h => by
    obtain ⟨a, b, c, e⟩ := hL p t List.mem_cons_self
    have hL2 : LOk M W L := fun q s h => hL q s (List.mem_cons_of_mem _ h)
    rw [List.pairwise_cons] at hp
    have hg : ∀ {r : Row}, r.length = W → RRed M r → 0 ≤ r.getD p 0 ∧ r.getD p 0 < M ∧ r[p]? = some (r.getD p 0) := fun {r} hl hr => by
      have e1 : r[p]? = some (r.getD p 0) := by rw [List.getD_eq_getElem?_getD, List.getElem?_eq_getElem (by omega)]; rfl
      exact ⟨(hr _ (List.mem_of_getElem? e1)).1, (hr _ (List.mem_of_getElem? e1)).2, e1⟩
    obtain ⟨t0, t1, t2⟩ := hg a b
    obtain ⟨r0, r1, r2⟩ := hg h1 h2
    unfold lessen
    have key : ∃ u : Row, (if r.getD p 0 ≥ t.getD p 0 then comb M 1 r (-(r.getD p 0 / t.getD p 0)) t else r) = u ∧ u.length = W ∧ RRed M u ∧ u.getD p 0 < t.getD p 0 := by
      split
      · obtain ⟨z1, z2⟩ := less_step (f := -(r.getD p 0 / t.getD p 0)) hM h1 a
        refine ⟨_, rfl, z1, z2, ?_⟩
        have e3 := comb_at (M := M) (f := 1) (g := -(r.getD p 0 / t.getD p 0)) r2 t2
        rw [List.getD_eq_getElem?_getD (l := comb M 1 r _ t), e3, Option.getD_some]
        generalize r.getD p 0 = x at *
        generalize t.getD p 0 = y at *
        have m1 := Int.emod_add_mul_ediv x y
        have m2 := Int.emod_lt_of_pos x (show 0 < y by omega)
        have m3 := Int.emod_nonneg x (show y ≠ 0 by omega)
        rw [show 1 * x + -(x / y) * y = x % y by grind, Int.emod_eq_of_lt m3 (by omega)]
        exact m2
      · rename_i hlt
        exact ⟨r, rfl, h1, h2, by omega⟩
    obtain ⟨u, hu, u1, u2, u3⟩ := key
    rw [hu]
    rcases List.mem_cons.mp h with h | h
    · cases h
      obtain ⟨_, _, y3⟩ := lessen_ok hM hL2 u1 u2
      obtain ⟨_, _, v2⟩ := hg u1 u2
      have := y3 p _ v2 fun q s hm => hp.1 (q, s) hm
      unfold fn
      rw [List.getD_eq_getElem?_getD (l := lessen M u L), this]
      exact u3
    · exact lessen_lt hM hL2 hp.2 u1 u2 q s h
theorem settle_full {M : Int} {n : Nat} {S : List (Option Row)} (full : ∀ i, i < n → ∃ s, S[i]? = some (some s)) : ∀ i, i ≤ n → (settle M n S i).map (·.1) = (List.range i).map (n - i + ·)
  | 0, _ => rfl
  | i + 1, hi => by
    obtain ⟨s, hs⟩ := full (n - 1 - i) (by omega)
    have e : S.getD (n - 1 - i) none = some s := by rw [List.getD_eq_getElem?_getD, hs]; rfl
    have ih := settle_full (M := M) full i (by omega)
    have e2 : settle M n S (i + 1) = (n - 1 - i, lessen M s (settle M n S i)) :: settle M n S i := by
      show (match S.getD (n - 1 - i) none with | none => _ | some r => _) = _
      rw [e]
    rw [e2, List.map_cons, ih, List.range_succ_eq_map, List.map_cons, List.map_map]
    congr 1
    · show n - 1 - i = n - (i + 1) + 0
      omega
    · refine List.map_congr_left fun k _ => ?_
      show n - i + k = n - (i + 1) + (k + 1)
      omega
theorem settle_pw {M : Int} {W n : Nat} {S : List (Option Row)} (hM : 2 ≤ M) (wf : WF M W n S) (hn : n ≤ W) : ∀ i, i ≤ n → (settle M n S i).Pairwise (fun a b => b.2[a.1]? = some 0)
  | 0, _ => .nil
  | i + 1, hi => by
    have ih := settle_pw hM wf hn i (by omega)
    unfold settle
    split
    · exact ih
    · rw [List.pairwise_cons]
      refine ⟨fun qs h => ?_, ih⟩
      obtain ⟨b1, _, _, _, b5, _⟩ := settle_ok hM wf hn i (by omega) qs.1 qs.2 h
      exact b5 _ (by show n - 1 - i < qs.1; omega)
theorem settle_rel {M : Int} {n : Nat} {A : Mat} {S : List (Option Row)} (h : AllRel M n A S) : ∀ i q s, (q, s) ∈ settle M n S i → Rel M n A s
  | 0, q, s, m => by simp [settle] at m
  | i + 1, q, s, m => by
    unfold settle at m
    split at m
    · exact settle_rel h i q s m
    · rename_i r e
      rcases List.mem_cons.mp m with m | m
      · cases m
        refine lessen_rel (settle_rel h i) (h (n - 1 - i) r ?_)
        rw [List.getD_eq_getElem?_getD] at e
        cases z : S[n - 1 - i]? with
        | none => rw [z] at e; cases e
        | some o => rw [z] at e; exact congrArg some e
      · exact settle_rel h i q s m
/-- pivots of 1: a settled row is less than 1 at the places of the rows behind -/
theorem settle_one {M : Int} {W n : Nat} {S : List (Option Row)} (hM : 2 ≤ M) (wf : WF M W n S) (hn : n ≤ W) (good : ∀ i, i < n → ∃ s, S[i]? = some (some s) ∧ s[i]? = some 1) : ∀ i, i ≤ n → ∀ q s, (q, s) ∈ settle M n S i → ∀ p, q < p → p < n → fn s p = 0
  | 0, _, q, s, m => by simp [settle] at m
  | i + 1, hi, q, s, m => by
    have ih := settle_one hM wf hn good i (by omega)
    have full : ∀ i, i < n → ∃ s, S[i]? = some (some s) := fun i h => by
      obtain ⟨s, h1, _⟩ := good i h
      exact ⟨s, h1⟩
    have hf := settle_full (M := M) full i (by omega)
    have hL := settle_lok hM wf hn (show i ≤ n by omega)
    have hpw := settle_pw hM wf hn i (by omega)
    have hso := settle_ok hM wf hn i (by omega)
    unfold settle at m
    split at m
    · exact ih q s m
    · rename_i r e
      rcases List.mem_cons.mp m with m | m
      · cases m
        intro p h1 h2
        have e2 : S[n - 1 - i]? = some (some r) := by
          rw [List.getD_eq_getElem?_getD] at e
          cases z : S[n - 1 - i]? with
          | none => rw [z] at e; cases e
          | some o => rw [z] at e; exact congrArg some e
        obtain ⟨a1, a2, _, _⟩ := wf.row _ _ e2
        have hp : p ∈ (settle M n S i).map (·.1) := by
          rw [hf]
          exact List.mem_map.mpr ⟨p - (n - i), List.mem_range.mpr (by omega), by omega⟩
        obtain ⟨⟨p', t⟩, hm, rfl⟩ := List.mem_map.mp hp
        have lt := lessen_lt (show 1 ≤ M by omega) hL hpw a1 a2 _ t hm
        obtain ⟨_, _, _, _, _, r0, x, c1, c2, c3, _⟩ := hso _ t hm
        obtain ⟨s1, d1, d2⟩ := good _ h2
        rw [d1] at c1
        cases c1
        rw [d2] at c2
        cases c2
        have et : fn t p' = 1 := by
          unfold fn
          rw [List.getD_eq_getElem?_getD, c3]
          rfl
        obtain ⟨y1, y2, _⟩ := lessen_ok (show 1 ≤ M by omega) hL a1 a2
        have ge : 0 ≤ fn (lessen M r (settle M n S i)) p' := by
          unfold fn
          rw [List.getD_eq_getElem?_getD, List.getElem?_eq_getElem (by show p' < _; omega)]
          exact (y2 _ (List.getElem_mem _)).1
        have lt' : fn (lessen M r (settle M n S i)) p' < fn t p' := lt
        show fn (lessen M r (settle M n S i)) p' = 0
        omega
      · exact ih q s m
theorem und_good {M : Int} (hM : 2 ≤ M) {n : Nat} {A : Mat} {S : List (Option Row)} (sA : Shp n n A) (p : Puts M n A n S) (good : ∀ i, i < n → ∃ s, S[i]? = some (some s) ∧ s[i]? = some 1) :
    Shp n n ((settle M n S n).map fun qs => qs.2.drop n) ∧ MRed M ((settle M n S n).map fun qs => qs.2.drop n) ∧ EqF M n (mulF n (ent ((settle M n S n).map fun qs => qs.2.drop n)) (ent A)) oneF := by
  have wf := p.wf hM sA.2
  have rel := settle_rel (p.rel sA) n
  have hso := settle_ok hM wf (by omega) n (Nat.le_refl _)
  have h0 := settle_one hM wf (by omega) good n (Nat.le_refl _)
  have full : ∀ i, i < n → ∃ s, S[i]? = some (some s) := fun i h => by
    obtain ⟨s, h1, _⟩ := good i h
    exact ⟨s, h1⟩
  have hf := settle_full (M := M) full n (Nat.le_refl _)
  have hlen : (settle M n S n).length = n := by
    have := congrArg List.length hf
    simpa using this
  refine ⟨⟨by rw [List.length_map, hlen], fun r hr => ?_⟩, fun r hr x hx => ?_, fun i j hi hj => ?_⟩
  · obtain ⟨⟨q, s⟩, hm, rfl⟩ := List.mem_map.mp hr
    obtain ⟨_, _, sl, _⟩ := hso q s hm
    simp [sl]
    omega
  · obtain ⟨⟨q, s⟩, hm, rfl⟩ := List.mem_map.mp hr
    obtain ⟨_, _, _, sr, _⟩ := hso q s hm
    exact sr x (List.mem_of_mem_drop hx)
  · have hi2 : i < (settle M n S n).length := by omega
    have e1 : ((settle M n S n).map (·.1))[i]? = some i := by
      rw [hf, List.getElem?_map, List.getElem?_range hi]
      simp
    rw [List.getElem?_map, List.getElem?_eq_getElem hi2] at e1
    have e2 : ((settle M n S n)[i]).1 = i := by simpa using e1
    have hm := List.getElem_mem hi2
    have hA : ((settle M n S n).map fun qs => qs.2.drop n)[i]? = some (((settle M n S n)[i]).2.drop n) := by
      rw [List.getElem?_map, List.getElem?_eq_getElem hi2]
      rfl
    generalize hqs : (settle M n S n)[i] = qs at *
    obtain ⟨q, s⟩ := qs
    have e2 : q = i := e2
    subst e2
    obtain ⟨_, _, sl, _, sz, r0, x, c1, c2, c3, _⟩ := hso q s hm
    obtain ⟨s1, d1, d2⟩ := good q hi
    rw [d1] at c1
    cases c1
    rw [d2] at c2
    cases c2
    have e3 : fn s j = oneF q j := by
      show _ = if q = j then 1 else 0
      rcases Nat.lt_trichotomy j q with h | h | h
      · rw [if_neg (by omega)]
        unfold fn
        rw [List.getD_eq_getElem?_getD, sz j h]
        rfl
      · subst h
        rw [if_pos rfl]
        unfold fn
        rw [List.getD_eq_getElem?_getD, c3]
        rfl
      · rw [if_neg (by omega)]
        exact h0 q s hm j h hj
    have r1 := (rel q s hm).2 j hj
    rw [e3] at r1
    refine (Eqm.trans (.eq ?_) r1.symm)
    show sumN n (fun k => _) = _
    refine sumN_congr fun k hk => ?_
    rw [ent_at hA]
    congr 1
    unfold fn
    rw [List.getD_eq_getElem?_getD, List.getD_eq_getElem?_getD, List.getElem?_drop]
end Wk

namespace Wk
open PySem L2
abbrev s_law_matrix_of : Stmt := top 57
theorem sc_law_matrix_of : FnScope ["_law_pen", "_law_modulus", "_law_height", "_law_width", "_law_found", "_law_k", "_law_at"] ["_law_pen", "_law_modulus", "_law_height", "_law_width"] (defScope s_law_matrix_of) := ⟨rfl, rfl, rfl, by decide +kernel, rfl, by decide +kernel, by decide +kernel⟩
abbrev s_law_common : Stmt := top 58
theorem sc_law_common : FnScope ["_law_one", "_law_other"] ["_law_one", "_law_other"] (defScope s_law_common) := ⟨rfl, rfl, rfl, by decide +kernel, rfl, by decide +kernel, by decide +kernel⟩
abbrev s_law_identity : Stmt := top 59
theorem sc_law_identity : FnScope ["_law_size", "_law_at", "_law_place"] ["_law_size"] (defScope s_law_identity) := ⟨rfl, rfl, rfl, by decide +kernel, rfl, by decide +kernel, by decide +kernel⟩
abbrev s_law_undone_of : Stmt := top 60
theorem sc_law_undone_of : FnScope ["_law_pen", "_law_modulus", "_law_size", "_law_rows", "_law_turn", "_law_at", "_law_other", "_law_often", "_law_row", "_law_one", "_law_two", "_law_number"] ["_law_pen", "_law_modulus", "_law_size"] (defScope s_law_undone_of) := ⟨rfl, rfl, rfl, by decide +kernel, rfl, by decide +kernel, by decide +kernel⟩
abbrev s_law_applied : Stmt := top 61
theorem sc_law_applied : FnScope ["_law_modulus", "_law_matrix", "_law_row", "_law_line", "_law_one", "_law_two"] ["_law_modulus", "_law_matrix", "_law_row"] (defScope s_law_applied) := ⟨rfl, rfl, rfl, by decide +kernel, rfl, by decide +kernel, by decide +kernel⟩
abbrev s_law_product : Stmt := top 62
theorem sc_law_product : FnScope ["_law_modulus", "_law_one", "_law_other", "_law_row", "_law_columns", "_law_found", "_law_at", "_law_column", "_law_a", "_law_b"] ["_law_modulus", "_law_one", "_law_other"] (defScope s_law_product) := ⟨rfl, rfl, rfl, by decide +kernel, rfl, by decide +kernel, by decide +kernel⟩
abbrev s_law_rows_all : Stmt := top 63
theorem sc_law_rows_all : FnScope ["_law_modulus", "_law_width", "_law_found", "_law_place", "_law_longer", "_law_row", "_law_number"] ["_law_modulus", "_law_width"] (defScope s_law_rows_all) := ⟨rfl, rfl, rfl, by decide +kernel, rfl, by decide +kernel, by decide +kernel⟩

structure TxtL (mg : Str → Option Value) : Prop where
  f_tuple : mg "tuple" = none
  f_list : mg "list" = none
  f_int : mg "int" = none
  f_zip : mg "zip" = none
  f_sum : mg "sum" = none
  f_range : mg "range" = none
  f_len : mg "len" = none
  f_min : mg "min" = none
  f_max : mg "max" = none
  f_all : mg "all" = none
  f_abs : mg "abs" = none
  f_isinstance : mg "isinstance" = none
theorem dot_comm (a b : List Int) : dotZ a b = dotZ b a := by
  unfold dotZ
  rw [List.zipWith_comm]
  congr 2
  funext x y
  exact Int.mul_comm _ _
end Wk

namespace Wk
open PySem L2
section
variable {P : Program} {w : World} {K : PySem.W.Frag} {mg : Str → Option Value} {base : Heap}
theorem ok_law_identity {f : Addr} {fd : FuncData} (F : Fun K "_law_identity" "_law_identity" s_law_identity f fd) (T : TxtL mg) : FnOk P w K mg base CX0 1 f fd ["_law_size"] (spIdm K) := by
  refine F.ok sc_law_identity (fun vs H Q E h => ?_) (fun cdv A outer s H vs Q E hr h => ?_)
  · obtain ⟨s, rfl, _⟩ := h
    rfl
  · obtain ⟨n, rfl, hn, k⟩ := h
    refine ⟨_, (pss_one (ps_ret (pe_callTy (call_tupleK (K := K) rfl) rfl T.f_tuple (by decide +kernel) (pa_cons (pe_lc (own := [("_law_at", 1)]) (g := gName 1) rfl sc_law_identity.nd (pi_range1 rfl T.f_range (pa_cons (pv 0) pa_nil)) (blkOk_by (N := ["_law_size", "_law_at", "_law_place"]) (sc := defScope s_law_identity) (by decide +kernel)) (fun _ _ _ _ _ => (pg_name (i := 1) sc_law_identity.nd rfl (Or.inr rfl))) (fun _ _ _ _ _ => pts_nil) (fun _ _ _ _ _ => (pe_callTy (call_tupleK (K := K) rfl) rfl T.f_tuple (by decide +kernel) (pa_cons (pe_lc (own := [("_law_place", 2)]) (g := gName 2) rfl sc_law_identity.nd (pi_range1 rfl T.f_range (pa_cons (pv 0) pa_nil)) (blkOk_by (N := ["_law_size", "_law_at", "_law_place"]) (sc := relS _ (defScope s_law_identity)) (by decide +kernel)) (fun _ _ _ _ _ => (pg_name (i := 2) sc_law_identity.nd rfl (Or.inl rfl))) (fun _ _ _ _ _ => pts_nil) (fun _ _ _ _ _ => (pe_callTy call_int1 rfl T.f_int (by decide +kernel) (pa_cons (pe_cmpR op_eq (pv 1) (pv 2) (nomark _)) pa_nil)))) pa_nil)))) pa_nil)))), ?_⟩
    refine ⟨_, rfl, (n : Int), rfl, by omega, by omega, fun D hD => lc_rows (K := K) (walk_range (lo := 0) (n := n)) hD (by omega) (idM n) (by simp [idM]) (fun _ _ => trivial) ?_ fun acc H2 e2 sm hR => tup_read e2 hR sm k⟩
    rintro i r x H1 H1' Fn Nn hi hr3 fin sm ⟨rfl, rfl⟩
    have er : r = unitRow n i := by
      simp only [idM, List.getElem?_map, List.getElem?_range hi, Option.map_some, Option.some.injEq] at hr3
      exact hr3.symm
    refine ⟨rfl, yesT ⟨_, rfl, (n : Int), rfl, by omega, by omega, fun D2 hD2 => lc_rel (walk_range (lo := 0) (n := n)) hD2 (by omega) (fun j v _ => v = .int (if j = i then 1 else 0)) (fun j v H H' h _ => h) (fun _ _ => trivial) ?_ ?_⟩⟩
    · rintro j v H2 H2' Fn2 Nn2 fin2 hj s2 hacc ⟨rfl, rfl⟩
      refine ⟨rfl, yesT ⟨_, rfl, _, rfl, rfl, .inr ⟨_, rfl, ?_⟩⟩⟩
      refine fin2 _ _ (fun _ _ e => e) ?_
      congr 1
      by_cases e : j = i
      · subst e
        rw [if_pos rfl, if_pos (decide_eq_true rfl)]
      · rw [if_neg e, if_neg]
        intro z
        have z := of_decide_eq_true z
        injection z with z
        omega
    · intro acc H2 a1 a2 s2 hR
      have ea : acc = (unitRow n i).map V.int := by
        unfold unitRow
        rw [List.map_map]
        refine acc_map (as := List.range n) (f := fun j => V.int (if j = i then 1 else 0)) (by simpa using a1) fun j v e => ⟨j, ?_, hR j v e⟩
        have : j < n := by
          rw [← a1]
          exact (List.getElem?_eq_some_iff.mp e).1
        exact List.getElem?_range this
      exact ⟨D2, acc, rfl, .inl ⟨SqL.of a2, fun q nq => fin q _ (same_trans s2 (same_upd nq)) (by rw [upd_same, er, ea])⟩⟩
theorem ok_law_applied {f : Addr} {fd : FuncData} (F : Fun K "_law_applied" "_law_applied" s_law_applied f fd) (T : TxtL mg) : FnOk P w K mg base CX0 1 f fd ["_law_modulus", "_law_matrix", "_law_row"] (spApplied K) := by
  refine F.ok sc_law_applied (fun vs H Q E h => ?_) (fun cdv A outer s H vs Q E hr h => ?_)
  · obtain ⟨M, a, b, A, r, rfl, _⟩ := h
    rfl
  · obtain ⟨M, a, b, Am, r, rfl, hM, ⟨vs, hA, hR⟩, hr2, wA, wr, lA, lr, lw, k⟩ := h
    refine ⟨_, (pss_one (ps_ret (pe_callTy (call_tupleK (K := K) rfl) rfl T.f_tuple (by decide +kernel) (pa_cons (pe_lc (own := [("_law_line", 3)]) (g := gName 3) rfl sc_law_applied.nd (pi_tup (pv 1)) (blkOk_by (N := ["_law_modulus", "_law_matrix", "_law_row", "_law_line", "_law_one", "_law_two"]) (sc := defScope s_law_applied) (by decide +kernel)) (fun _ _ _ _ _ => (pg_name (i := 3) sc_law_applied.nd rfl (Or.inl rfl))) (fun _ _ _ _ _ => pts_nil) (fun _ _ _ _ _ => (pe_op op_modN (pe_callTy call_int1 rfl T.f_int (by decide +kernel) (pa_cons (pe_callB (cr_sumK (K := K) rfl rfl) rfl T.f_sum (by decide +kernel) (pa_cons (pe_lc (own := [("_law_one", 4), ("_law_two", 5)]) (g := gTup K 2 (gCons (gName 4) (gCons (gName 5) gNil))) rfl sc_law_applied.nd (pi_zip2K (K := K) rfl true true rfl T.f_zip (pa_cons (pv 3) (pa_cons (pv 2) pa_nil))) (blkOk_by (N := ["_law_modulus", "_law_matrix", "_law_row", "_law_line", "_law_one", "_law_two"]) (sc := relS _ (defScope s_law_applied)) (by decide +kernel)) (fun _ _ _ _ _ => (pg_tupK rfl rfl (pgs_cons (pg_name (i := 4) sc_law_applied.nd rfl (Or.inl rfl)) (pgs_cons (pg_name (i := 5) sc_law_applied.nd rfl (Or.inl rfl)) pgs_nil)))) (fun _ _ _ _ _ => pts_nil) (fun _ _ _ _ _ => (pe_op op_mulW (pv 4) (pv 5)))) pa_nil)) pa_nil)) (pv 0)))) pa_nil)))), ?_⟩
    have hlen := hR.length
    refine ⟨_, rfl, _, rfl, ⟨vs, hA⟩, fun D hD => lc_rel (walk_tup (xs := vs)) hD (by omega) (fun i v _ => ∃ l, Am[i]? = some l ∧ v = .int (dotZ l r % M)) (fun i v H H' h _ => h) (fun H1 e => SqT.same hA e) ?_ ?_⟩
    · intro i x H1 H1' Fn Nn fin hi sm hacc hy
      obtain ⟨rfl, hx⟩ := hy
      obtain ⟨p, l, rfl, hl, hp⟩ := rows_at hR hx
      refine ⟨rfl, yesT ?_⟩
      have hll : l.length = r.length := lw _ (List.mem_of_getElem? hl)
      refine dot_read rfl rfl (t := true) (u := true) (SqT.same hp sm) (SqT.same hr2 sm) hll (by omega) (wA _ (List.mem_of_getElem? hl)) wr (fun _ _ => rfl) (fun _ _ => rfl) (fun _ _ => rfl) fun H2 s2 => ?_
      refine .inl ⟨_, rfl, _, rfl, _, _, rfl, rfl, by omega, ?_⟩
      dsimp only
      rw [Int.fmod_eq_emod_of_nonneg _ (by omega)]
      exact fin _ _ s2 ⟨l, hl, rfl⟩
    · intro acc H1 e1 e2 sm hR2
      have e : acc = Am.map fun l => V.int (dotZ l r % M) := acc_map (by rw [e1, hlen]) hR2
      exact ⟨D, acc, rfl, .inl ⟨SqL.of e2, fun p hp => k p _ (same_trans sm (same_upd hp)) (by rw [upd_same, e]; simp [applyM, Function.comp_def])⟩⟩
end
end Wk

namespace Wk
open PySem L2
/-- objects of ints, in a list at F -/
def ObsAre (mk : List V → HO) (F : Addr) (H : Hp) (us : List V) (A : Mat) : Prop := us.length = A.length ∧ ∀ (k : Nat) (r : List Int), A[k]? = some r → ∃ p, us[k]? = some (.ref p) ∧ p ≠ F ∧ H p = some (mk (r.map V.int))
theorem ObsAre.mono {mk : List V → HO} {F : Addr} {H H' : Hp} {us : List V} {A : Mat} (h : ObsAre mk F H us A) (e : But F H H') : ObsAre mk F H' us A := ⟨h.1, fun k r z => by
  obtain ⟨p, a, b, c⟩ := h.2 k r z
  exact ⟨p, a, b, e _ _ b c⟩⟩
theorem ObsAre.nil {mk : List V → HO} {F : Addr} {H : Hp} : ObsAre mk F H [] [] := ⟨rfl, fun k r z => by simp at z⟩
theorem ObsAre.snoc {mk : List V → HO} {F : Addr} {H : Hp} {us : List V} {A : Mat} {p : Addr} {r : List Int} (h : ObsAre mk F H us A) (h1 : p ≠ F) (h2 : H p = some (mk (r.map V.int))) : ObsAre mk F H (us ++ [.ref p]) (A ++ [r]) := by
  refine ⟨by simp [h.1], fun k s z => ?_⟩
  rcases Nat.lt_trichotomy k A.length with hk | hk | hk
  · rw [List.getElem?_append_left hk] at z
    obtain ⟨q, a, b⟩ := h.2 k s z
    exact ⟨q, by rw [List.getElem?_append_left (by rw [h.1]; exact hk)]; exact a, b⟩
  · rw [hk] at z
    simp at z
    subst z
    exact ⟨p, by rw [hk, ← h.1]; simp, h1, h2⟩
  · rw [List.getElem?_eq_none (by simp; omega)] at z
    cases z
theorem ObsAre.set {mk : List V → HO} {F : Addr} {H : Hp} {us : List V} {A : Mat} {p : Addr} {r : List Int} (h : ObsAre mk F H us A) (h1 : p ≠ F) (h2 : H p = some (mk (r.map V.int))) (i : Nat) : ObsAre mk F H (us.set i (.ref p)) (A.set i r) := by
  refine ⟨by simp [h.1], fun k s z => ?_⟩
  by_cases e : i = k
  · subst e
    by_cases hl : i < A.length
    · rw [List.getElem?_set_self hl] at z
      cases z
      exact ⟨p, by rw [List.getElem?_set_self (by rw [h.1]; exact hl)], h1, h2⟩
    · rw [List.getElem?_eq_none (by rw [List.length_set]; omega)] at z
      cases z
  · rw [List.getElem?_set_ne e] at z
    obtain ⟨q, a, b⟩ := h.2 k s z
    exact ⟨q, by rw [List.getElem?_set_ne e]; exact a, b⟩
theorem ObsAre.rows {K : PySem.W.Frag} {F : Addr} {H : Hp} {us : List V} {A : Mat} (h : ObsAre .tup F H us A) : RowsAre K H us A := rows_of h.1 fun k v r h1 h2 => by
  obtain ⟨p, a, b, c⟩ := h.2 k r h2
  rw [a] at h1
  cases h1
  exact ⟨p, rfl, SqT.of c⟩
/-- a comprehension whose items are new lists -/
theorem lc_lists {J : It} {n : Nat} {G : Hp → Prop} {Y : Nat → Hp → V → Hp → Prop} (w : Walk J n G Y) {g : TG} {tt : TT} {te : TE} {vs : List Nat} {σ : L2.St} {H1 : Hp} {D : Addr} {Qd : Hp → Prop} (hD : H1 D = none) (hn : n ≤ 1000000)
    (A : Mat) (hA : A.length = n) (hG : ∀ H, Same H1 H → G H)
    (hs : ∀ (i : Nat) (r : List Int) (x : V) (H H' : Hp) (Fn : V → Hp → Prop) (Nn : Hp → Prop), i < n → A[i]? = some r → (∀ p H4, Same H H4 → H p = none → H4 p = some (.lst (r.map V.int)) → Fn (.ref p) H4) → Same H1 H → Y i H x H' → g x (wipe σ vs) H' fun σ2 H2 => wipe σ2 vs = wipe σ vs ∧ tt σ2 H2 fun b H3 => if b = true then te σ2 H3 Fn else Nn H3)
    (hd : ∀ (acc : List V) H, H D = some (.lst acc) → Same H1 H → ObsAre .lst D H acc A → Qd H) :
    ∃ W : Nat → Nat → Hp → Prop, (∃ m, W 0 m (upd H1 D (.lst []))) ∧ ∀ i m H, W i m H →
      (J.stop i H ∧ Qd H) ∨ (J.go i H ∧ ∃ Nx : Hp → Prop, (∀ H', Nx H' → ∃ m', m' < m ∧ W (i + 1) m' H') ∧ ∀ x H', J.yld i H x H' → g x (wipe σ vs) H' fun σ2 H2 => wipe σ2 vs = wipe σ vs ∧ tt σ2 H2 fun b H3 =>
        if b = true then te σ2 H3 fun y H4 => ∃ acc, H4 D = some (.lst acc) ∧ acc.length < sizeLine ∧ Nx (upd H4 D (.lst (acc ++ [y]))) else Nx H3) := by
  refine lc_rel w hD hn (fun i v H => ∃ (p : Addr) (r : List Int), v = .ref p ∧ p ≠ D ∧ A[i]? = some r ∧ H p = some (.lst (r.map V.int))) (fun i v H H' ⟨p, r, h1, h2, h3, h4⟩ e => ⟨p, r, h1, h2, h3, e _ _ h2 h4⟩) hG ?_ ?_
  · intro i x H H' Fn Nn fin hi sm ⟨acc, hacc⟩ hy
    have hr : A[i]? = some (A[i]'(by omega)) := List.getElem?_eq_getElem (by omega)
    refine hs i _ x H H' Fn Nn hi hr (fun p H4 s4 hp h4 => fin _ _ s4 ⟨p, _, rfl, fun z => ?_, hr, h4⟩) sm hy
    rw [z, hacc] at hp
    cases hp
  · intro acc H e1 e2 sm hR
    refine hd acc H e2 sm ⟨by rw [e1, hA], fun k r h2 => ?_⟩
    have hk : k < acc.length := by
      rw [e1, ← hA]
      exact (List.getElem?_eq_some_iff.mp h2).1
    obtain ⟨p, r2, h1, hD2, h3, h4⟩ := hR k _ (List.getElem?_eq_getElem hk)
    rw [h2] at h3
    cases h3
    exact ⟨p, by rw [List.getElem?_eq_getElem hk, h1], hD2, h4⟩
def spPowL (K : PySem.W.Frag) : Sp := fun vs H Q _ => ∃ (M : Int) (a : Addr) (A : Mat) (n e : Nat), vs = [.int M, .ref a, .int (e : Int)] ∧ 2 ≤ M ∧ M < 2 ^ 64 ∧ MatAt K H a A ∧ Shp n n A ∧ MWd A ∧ 1 ≤ n ∧ n ≤ 8 ∧ e ≤ 1000 ∧ NewMat K H (mpow M n A e) Q
section
variable {P : Program} {w : World} {K : PySem.W.Frag} {mg : Str → Option Value} {base : Heap}
theorem ok_law_product {f : Addr} {fd : FuncData} (F : Fun K "_law_product" "_law_product" s_law_product f fd) (T : TxtL mg) : FnOk P w K mg base CX0 1 f fd ["_law_modulus", "_law_one", "_law_other"] (spProd K) := by
  refine F.ok sc_law_product (fun vs H Q E h => ?_) (fun cdv A outer s H vs Q E hr h => ?_)
  · obtain ⟨M, a, b, A, B, n, rfl, _⟩ := h
    rfl
  · obtain ⟨M, a, b, Am, B, n, rfl, hM, hA, hB, wA, wB, h1, h8, n1, n2, lA, hwB, hwA, k⟩ := h
    refine ⟨_, (pss_cons (ps_par (i := 4) (j := 5) rfl sc_law_product.nd rfl rfl (by decide) rfl rfl (pa_cons (pe_lc (own := [("_law_at", 6)]) (g := gName 6) rfl sc_law_product.nd (pi_range1 rfl T.f_range (pa_cons (pe_callB call_len_seq rfl T.f_len PySem.boot_len (pa_cons (pe_ix ix_tup (pv 2) pe_int (fun _ _ => rfl)) pa_nil)) pa_nil)) (blkOk_by (N := ["_law_modulus", "_law_one", "_law_other", "_law_row", "_law_columns", "_law_found", "_law_at", "_law_column", "_law_a", "_law_b"]) (sc := defScope s_law_product) (by decide +kernel)) (fun _ _ _ _ _ => (pg_name (i := 6) sc_law_product.nd rfl (Or.inr rfl))) (fun _ _ _ _ _ => pts_nil) (fun _ _ _ _ _ => (pe_lc (own := [("_law_row", 3)]) (g := gName 3) rfl sc_law_product.nd (pi_tupK (K := K) rfl (pv 2)) (blkOk_by (N := ["_law_modulus", "_law_one", "_law_other", "_law_row", "_law_columns", "_law_found", "_law_at", "_law_column", "_law_a", "_law_b"]) (sc := relS _ (defScope s_law_product)) (by decide +kernel)) (fun _ _ _ _ _ => (pg_name (i := 3) sc_law_product.nd rfl (Or.inl rfl))) (fun _ _ _ _ _ => pts_nil) (fun _ _ _ _ _ => (pe_ix (ix_tupK (K := K) rfl) (pv 3) (pv 6) (fun _ _ => rfl)))))) (pa_cons (pe_lst pa_nil) pa_nil)) (by rfl))
        (pss_cons (ps_for PassesOwn.never rfl (pi_tup (pv 1)) (pg_name (i := 3) sc_law_product.nd rfl (Or.inr rfl)) (pss_one (ps_expr (pe_bm PySem.F.plainAttrs_list PySem.F.slot_list_append PySem.F.type_list_append mt_append (pv 5) (pa_cons (pe_callTy (call_tupleK (K := K) rfl) rfl T.f_tuple (by decide +kernel) (pa_cons (pe_lc (own := [("_law_column", 7)]) (g := gName 7) rfl sc_law_product.nd (pi_list (pv 4)) (blkOk_by (N := ["_law_modulus", "_law_one", "_law_other", "_law_row", "_law_columns", "_law_found", "_law_at", "_law_column", "_law_a", "_law_b"]) (sc := defScope s_law_product) (by decide +kernel)) (fun _ _ _ _ _ => (pg_name (i := 7) sc_law_product.nd rfl (Or.inl rfl))) (fun _ _ _ _ _ => pts_nil) (fun _ _ _ _ _ => (pe_op op_modN (pe_callTy call_int1 rfl T.f_int (by decide +kernel) (pa_cons (pe_callB (cr_sumK (K := K) rfl rfl) rfl T.f_sum (by decide +kernel) (pa_cons (pe_lc (own := [("_law_a", 8), ("_law_b", 9)]) (g := gTup K 2 (gCons (gName 8) (gCons (gName 9) gNil))) rfl sc_law_product.nd (pi_zip2K (K := K) rfl true false rfl T.f_zip (pa_cons (pv 3) (pa_cons (pv 7) pa_nil))) (blkOk_by (N := ["_law_modulus", "_law_one", "_law_other", "_law_row", "_law_columns", "_law_found", "_law_at", "_law_column", "_law_a", "_law_b"]) (sc := relS _ (defScope s_law_product)) (by decide +kernel)) (fun _ _ _ _ _ => (pg_tupK rfl rfl (pgs_cons (pg_name (i := 8) sc_law_product.nd rfl (Or.inl rfl)) (pgs_cons (pg_name (i := 9) sc_law_product.nd rfl (Or.inl rfl)) pgs_nil)))) (fun _ _ _ _ _ => pts_nil) (fun _ _ _ _ _ => (pe_op op_mulW (pv 8) (pv 9)))) pa_nil)) pa_nil)) (pv 0)))) pa_nil)) pa_nil)))))
        (pss_one (ps_ret (pe_callTy (call_tupleK (K := K) rfl) rfl T.f_tuple (by decide +kernel) (pa_cons (pv 5) pa_nil)))))), ?_⟩
    obtain ⟨vA, hvA, hRA⟩ := hA
    obtain ⟨vB, hvB, hRB⟩ := hB
    have lB := hRB.length
    have lAA := hRA.length
    obtain ⟨v0, hv0⟩ : ∃ v, vB[0]? = some v := ⟨_, List.getElem?_eq_getElem (by omega)⟩
    obtain ⟨q0, r0, rfl, hr0, hq0⟩ := rows_at hRB hv0
    have hr0n := hwB _ (List.mem_of_getElem? hr0)
    refine ⟨_, rfl, b, vB, 0, _, rfl, rfl, hvB, atI_nat (j := 0) hv0, _, _, rfl, .inr hq0, (n : Int), (by simp [hr0n]), by omega, by omega, fun D hD => lc_lists (walk_range (lo := 0) (n := n)) hD (by omega) (colsOf n B) (by simp [colsOf]) (fun _ _ => trivial) ?_ ?_⟩
    · rintro i r x H1 H1' Fn Nn hi hr3 fin sm ⟨rfl, rfl⟩
      have er : r = B.map fun r => r.getD i 0 := by
        simp only [colsOf, List.getElem?_map, List.getElem?_range hi, Option.map_some, Option.some.injEq] at hr3
        exact hr3.symm
      refine ⟨rfl, yesT ⟨_, rfl, b, rfl, ⟨_, SqT.same hvB sm⟩, fun D2 hD2 => lc_rel (walk_tup (xs := vB)) hD2 (by omega) (fun j v _ => ∃ l, B[j]? = some l ∧ v = .int (l.getD i 0)) (fun j v H H' h _ => h) (fun H2 e => SqT.same hvB (same_trans sm e)) ?_ ?_⟩⟩
      · rintro j v H2 H2' Fn2 Nn2 fin2 hj s2 hacc ⟨rfl, hv⟩
        obtain ⟨p, l, rfl, hl, hp⟩ := rows_at hRB hv
        have hln := hwB _ (List.mem_of_getElem? hl)
        have hli : (l.map V.int)[i]? = some (.int (l.getD i 0)) := by
          rw [List.getElem?_map, List.getElem?_eq_getElem (by omega), List.getD_eq_getElem?_getD, List.getElem?_eq_getElem (by omega)]
          rfl
        refine ⟨rfl, yesT ⟨_, rfl, _, rfl, p, _, _, _, rfl, rfl, SqT.same hp (same_trans sm s2), ?_, fin2 _ _ (fun _ _ e => e) ⟨l, hl, rfl⟩⟩⟩
        rw [Int.zero_add]
        exact atI_nat hli
      · intro acc H2 a1 a2 s2 hR
        have ea : acc = r.map V.int := by
          rw [er, List.map_map]
          exact acc_map (f := fun l : List Int => V.int (l.getD i 0)) (by rw [a1, lB]) hR
        exact fin D2 H2 s2 hD2 (by rw [a2, ea])
    · intro acc H1 hD1 s1 hC
      refine ⟨Nat.zero_le _, fun F0 nF => ⟨_, _, rfl, ?_⟩⟩
      have sF : Same H1 (upd H1 F0 (.lst [])) := same_upd nF
      have gF : (upd H1 F0 (.lst [])) F0 = some (.lst []) := upd_same
      generalize upd H1 F0 (.lst []) = H2 at sF gF ⊢
      have nFH : H F0 = none := none_back s1 nF
      have hC2 : ObsAre .lst D H2 acc (colsOf n B) := hC.mono fun c o _ e => sF _ _ e
      have hD2 := sF _ _ hD1
      have hDF : D ≠ F0 := fun z => by rw [z, nF] at hD1; cases hD1
      have s2 := same_trans s1 sF
      refine ⟨_, rfl, a, rfl, ⟨_, SqT.same hvA s2⟩, ?_⟩
      have s1F : Same H1 H2 := sF
      have lP : (prodM M n Am B).length = vA.length := by simp [prodM, lAA]
      refine for_it (walk_tup (xs := vA)) (fun k σ H3 => ∃ (x3 : Option V) (us : List V), σ = [some (.int M), some (.ref a), some (.ref b), x3, some (.ref D), some (.ref F0), none, none, none, none] ∧ Same H1 H3 ∧ H3 F0 = some (.lst us) ∧ ObsAre .tup F0 H3 us ((prodM M n Am B).take k)) ⟨none, [], rfl, sF, gF, .nil⟩ (fun k σ H3 _ ⟨_, _, _, s3, _⟩ => SqT.same hvA (same_trans s1 s3)) ?_ ?_
      · rintro i v σ H3 H3' hi ⟨x3, us, rfl, s3, g3, hU⟩ ⟨rfl, hv⟩
        obtain ⟨q, l, rfl, hl, hq⟩ := rows_at hRA hv
        have hlm := List.mem_of_getElem? hl
        have hll := hwA _ hlm
        have hC3 : ObsAre .lst D H3' acc (colsOf n B) := hC.mono fun c o _ e => s3 _ _ e
        have hPi : (prodM M n Am B)[i]? = some (applyM M (colsOf n B) l) := by simp [prodM, hl]
        refine ⟨_, rfl, .inl ⟨rfl, _, SqL.of g3⟩, _, rfl, D, rfl, ⟨_, SqL.of (s3 _ _ hD1)⟩, fun D2 hD2' => lc_rel (walk_list (xs := acc)) hD2' (by rw [hC.1]; simp [colsOf]; omega) (fun j v _ => ∃ c, (colsOf n B)[j]? = some c ∧ v = .int (dotZ c l % M)) (fun j v H H' h _ => h) (fun H4 e => SqL.of (e _ _ (s3 _ _ hD1))) ?_ ?_⟩
        · rintro j v H4 H4' Fn Nn fin hj s4 hacc ⟨rfl, hv4⟩
          have hjc : j < (colsOf n B).length := by rw [← hC.1]; exact hj
          have hcj : (colsOf n B)[j]? = some (colsOf n B)[j] := List.getElem?_eq_getElem hjc
          obtain ⟨p, e1, e2, e3⟩ := hC3.2 j _ hcj
          rw [e1] at hv4
          cases hv4
          have hcm := List.getElem_mem hjc
          refine ⟨rfl, yesT ?_⟩
          refine dot_read rfl rfl (t := true) (u := false) (SqT.same hq (same_trans s1 (same_trans s3 s4))) (SqL.of (s4 _ _ e3)) (by rw [hll, cols_len hcm]) (by omega) (wA _ hlm) (cols_wd wB _ hcm) (fun _ _ => rfl) (fun _ _ => rfl) (fun _ _ => rfl) fun H5 s5 => ?_
          refine .inl ⟨_, rfl, _, rfl, _, _, rfl, rfl, by omega, ?_⟩
          dsimp only
          rw [Int.fmod_eq_emod_of_nonneg _ (by omega), dot_comm]
          exact fin _ _ s5 ⟨_, hcj, rfl⟩
        · intro acc2 H4 a1 a2 s4 hR
          have ea : acc2 = (applyM M (colsOf n B) l).map V.int := by
            unfold applyM
            rw [List.map_map]
            exact acc_map (f := fun c => V.int (dotZ c l % M)) (by rw [a1, hC.1]) hR
          refine ⟨D2, acc2, rfl, .inl ⟨SqL.of a2, fun p5 np5 => ⟨F0, _, _, rfl, rfl, (by rw [upd_ne (ne_of_none (s4 _ _ g3) np5)]; exact s4 _ _ g3), Nat.le_trans (show us.length.succ ≤ 1001 by rw [hU.1, List.length_take, lP]; omega) (show 1001 ≤ sizeLine by decide), ?_⟩⟩⟩
          have hpF : p5 ≠ F0 := fun z => by rw [z, s4 _ _ g3] at np5; cases np5
          have b6 : But F0 H3' (upd (upd H4 p5 (.tup acc2)) F0 (.lst (us ++ [.ref p5]))) := fun c o hc e => by
            rw [upd_ne hc, upd_ne (ne_of_none (s4 _ _ e) np5)]
            exact s4 _ _ e
          refine ⟨_, us ++ [.ref p5], rfl, fun c o e => b6 c o (ne_of_none e nF) (s3 _ _ e), upd_same, ?_⟩
          rw [List.take_add_one, hPi]
          exact (hU.mono b6).snoc hpF (by rw [upd_ne hpF, upd_same, ea])
      · rintro σ H3 ⟨x3, us, rfl, s3, g3, hU⟩
        rw [← lP, List.take_length] at hU
        exact ⟨_, rfl, tup_read g3 hU.rows (same_trans s1 s3) k⟩
end
end Wk

namespace Wk
open PySem L2
/-- the pen with at most n draws done -/
def Pen (H : Hp) (p c : Addr) (ns : List Int) (n : Nat) : Prop := ∃ i l, PenAt H p c ns i l ∧ i ≤ n
theorem Pen.le {H : Hp} {p c : Addr} {ns : List Int} {n m : Nat} (h : Pen H p c ns n) (e : n ≤ m) : Pen H p c ns m := by
  obtain ⟨i, l, a, b⟩ := h
  exact ⟨i, l, a, by omega⟩
theorem Pen.some {H : Hp} {p c : Addr} {ns : List Int} {n : Nat} (h : Pen H p c ns n) : ∃ o, H p = some o := by
  obtain ⟨i, l, a, b⟩ := h
  exact ⟨_, a.pen⟩
theorem Pen.same {H H' : Hp} {p c : Addr} {ns : List Int} {n : Nat} (h : Pen H p c ns n) (e : Same H H') : Pen H' p c ns n := by
  obtain ⟨i, l, a, b⟩ := h
  exact ⟨i, l, ⟨e _ _ a.pen, e _ _ a.cells, a.i0, a.l0, a.i1⟩, b⟩
theorem drwP {H : Hp} {p c : Addr} {ns : List Int} {n : Nat} {i l i' l' : Int} (a : PenAt H p c ns i l) (b : i ≤ n) (hn : n < 90000) (h0 : 0 ≤ i') (h1 : i' ≤ i + 1) (h2 : 0 ≤ l') : Pen (penTo H p c i' l') p c ns (n + 1) ∧ But p H (penTo H p c i' l') :=
  ⟨⟨i', l', a.to h0 h2 (by omega), by omega⟩, fun b o hb e => by rw [penTo, upd_ne hb]; exact e⟩
theorem w64 {m : Int} (h0 : 1 ≤ m) (h : m < 2 ^ 64) : m.natAbs < 2 ^ 9000 := Nat.lt_trans (show m.natAbs < 2 ^ 64 by omega) (by decide)
theorem MatAt.but {K : PySem.W.Frag} {p : Addr} {H H' : Hp} {a : Addr} {A : Mat} (h : MatAt K H a A) (e : But p H H') (hp : ∃ c i l, H p = some (.dK (penL c i l))) : MatAt K H' a A := by
  obtain ⟨c, i, l, hp⟩ := hp
  have sq : ∀ {b : Addr} {xs : List V}, SqT K H b xs → SqT K H' b xs := fun {b xs} h => by
    rcases h with (h | ⟨o, h⟩) | h
    · exact .inl (.inl (e _ _ (ne_of h hp (by intro z; cases z)) h))
    · exact .inl (.inr ⟨o, e _ _ (ne_of h hp (by intro z; cases z)) h⟩)
    · exact .inr h
  obtain ⟨vs, h1, h2⟩ := h
  refine ⟨vs, sq h1, ?_⟩
  clear h1
  induction h2 with
  | nil => exact .nil
  | cons a _ ih => exact .cons (sq a) ih
theorem Pen.dk {H : Hp} {p c : Addr} {ns : List Int} {n : Nat} (h : Pen H p c ns n) : ∃ c i l, H p = Option.some (.dK (penL c i l)) := by
  obtain ⟨i, l, a, b⟩ := h
  exact ⟨c, i, l, a.pen⟩
theorem MatAt.pen {K : PySem.W.Frag} {p c : Addr} {ns : List Int} {n : Nat} {H H' : Hp} {a : Addr} {A : Mat} (h : MatAt K H a A) (e : But p H H') (hp : Pen H p c ns n) : MatAt K H' a A := h.but e hp.dk
theorem SqT.pen {K : PySem.W.Frag} {p c : Addr} {ns : List Int} {n : Nat} {H H' : Hp} {b : Addr} {xs : List V} (h : SqT K H b xs) (e : But p H H') (hp : Pen H p c ns n) : SqT K H' b xs := by
  obtain ⟨c, i, l, hp⟩ := hp.dk
  rcases h with (h | ⟨o, h⟩) | h
  · exact .inl (.inl (e _ _ (ne_of h hp (by intro z; cases z)) h))
  · exact .inl (.inr ⟨o, e _ _ (ne_of h hp (by intro z; cases z)) h⟩)
  · exact .inr h
/-- a comprehension with draws -/
theorem lc_pen {J : It} {n : Nat} {G : Hp → Prop} {Y : Nat → Hp → V → Hp → Prop} (w : Walk J n G Y) {g : TG} {tt : TT} {te : TE} {vs : List Nat} {σ : L2.St} {H1 : Hp} {D : Addr} {Qd : Hp → Prop} {p c : Addr} {ns : List Int} {m : Nat} (k : Nat) (hP : Pen H1 p c ns m) (hD : H1 D = none) (hn : n ≤ 1000)
    (R : Nat → V → Hp → Prop) (mono : ∀ i v H H', R i v H → (∀ b o, b ≠ D → b ≠ p → H b = some o → H' b = some o) → R i v H') (hG : ∀ H, But p H1 H → G H)
    (hs : ∀ (i : Nat) (x : V) (H H' : Hp) (Fn : V → Hp → Prop) (Nn : Hp → Prop), (∀ y H4, But p H H4 → Pen H4 p c ns (m + k * (i + 1)) → R i y H4 → Fn y H4) → i < n → But p H1 H → Pen H p c ns (m + k * i) → (∃ acc, H D = some (.lst acc)) → Y i H x H' → g x (wipe σ vs) H' fun σ2 H2 => wipe σ2 vs = wipe σ vs ∧ tt σ2 H2 fun b H3 => if b = true then te σ2 H3 Fn else Nn H3)
    (hd : ∀ (acc : List V) H, acc.length = n → H D = some (.lst acc) → But p H1 H → Pen H p c ns (m + k * n) → (∀ j v, acc[j]? = some v → R j v H) → Qd H) :
    ∃ W : Nat → Nat → Hp → Prop, (∃ m, W 0 m (upd H1 D (.lst []))) ∧ ∀ i m H, W i m H →
      (J.stop i H ∧ Qd H) ∨ (J.go i H ∧ ∃ Nx : Hp → Prop, (∀ H', Nx H' → ∃ m', m' < m ∧ W (i + 1) m' H') ∧ ∀ x H', J.yld i H x H' → g x (wipe σ vs) H' fun σ2 H2 => wipe σ2 vs = wipe σ vs ∧ tt σ2 H2 fun b H3 =>
        if b = true then te σ2 H3 fun y H4 => ∃ acc, H4 D = some (.lst acc) ∧ acc.length < sizeLine ∧ Nx (upd H4 D (.lst (acc ++ [y]))) else Nx H3) := by
  have hDp : D ≠ p := fun z => by
    obtain ⟨o, ho⟩ := hP.some
    rw [z, ho] at hD
    cases hD
  have penD : ∀ {H q xs}, Pen H p c ns q → (∃ acc : List V, H D = Option.some (.lst acc)) ∨ H D = none → H1 D = none → (∀ b o, H1 b = Option.some o → b ≠ p → H b = Option.some o) → Pen (upd H D (.lst xs)) p c ns q := fun {H q xs} h _ _ hk => by
    obtain ⟨i, l, a, b⟩ := h
    obtain ⟨_, _, a1, _⟩ := hP
    have hcD : c ≠ D := fun z => by
      have := a1.cells
      rw [z, hD] at this
      cases this
    exact ⟨i, l, ⟨by rw [upd_ne hDp.symm]; exact a.pen, by rw [upd_ne hcD]; exact a.cells, a.i0, a.l0, a.i1⟩, b⟩
  refine lc_it w (fun i H => ∃ acc : List V, acc.length = i ∧ H D = some (.lst acc) ∧ But p H1 H ∧ Pen H p c ns (m + k * i) ∧ ∀ j v, acc[j]? = some v → R j v H) ⟨[], rfl, upd_same, fun b o _ e => ?_, ?_, fun j v e => by simp at e⟩ (fun i H hi ⟨acc, _, _, h3, _⟩ => hG H h3) ?_ fun H ⟨acc, h1, h2, h3, h4, h5⟩ => hd acc H h1 h2 h3 h4 h5
  · rw [upd_ne (fun z => by rw [z, hD] at e; cases e)]
    exact e
  · exact penD (hP.le (by omega)) (.inr hD) hD fun b o e _ => e
  · intro i x H H' hi ⟨acc, h1, h2, h3, h4, h5⟩ hy
    refine hs i x H H' _ _ (fun y H4 sm hp4 hr => ⟨acc, sm _ _ hDp h2, ?_, acc ++ [y], by simp [h1], upd_same, fun b o hb e => ?_, penD hp4 (.inl ⟨acc, sm _ _ hDp h2⟩) hD fun b o e hb => sm _ _ hb (h3 _ _ hb e), fun j v e => ?_⟩) hi h3 h4 ⟨acc, h2⟩ hy
    · rw [h1]
      exact Nat.lt_of_lt_of_le hi (Nat.le_trans hn (by decide))
    · rw [upd_ne (fun z => by rw [z, hD] at e; cases e)]
      exact sm _ _ hb (h3 _ _ hb e)
    · have b1 : ∀ b o, b ≠ D → b ≠ p → H4 b = some o → (upd H4 D (.lst (acc ++ [y]))) b = some o := fun b o n _ q => by rw [upd_ne n]; exact q
      rcases Nat.lt_trichotomy j acc.length with hj | hj | hj
      · rw [List.getElem?_append_left hj] at e
        exact mono _ _ _ _ (mono _ _ _ _ (h5 j v e) fun b o _ hb q => sm b o hb q) b1
      · rw [hj] at e
        simp at e
        rw [hj, h1, ← e]
        exact mono _ _ _ _ hr b1
      · rw [List.getElem?_eq_none (by simp; omega)] at e
        cases e
end Wk

/-! rows put into stairs, what is left of a row, how a row is made of others -/
namespace Wk
def JJ (M : Int) (w : Nat) (S : List (Option Row)) : Prop := ∀ (q : Nat) (s : Row) (x : Int), S[q]? = some (some s) → s[q]? = some x → InS M w (GS S (q + 1)) fun j => M / x * fn s j
def markOf (M : Int) (m : Nat) (a : Row) (k : Nat) : Row := a.map (· % M) ++ unitRow m k
inductive PutsL (M : Int) (w m : Nat) (A : Mat) : Nat → List (Option Row) → Prop
  | zero : PutsL M w m A 0 (List.replicate w none)
  | succ {k : Nat} {S S' : List (Option Row)} {a r' : Row} : PutsL M w m A k S → A[k]? = some a → Ch M S (markOf M m a k) w S' r' → PutsL M w m A (k + 1) S'
theorem fn_at {r : Row} {j : Nat} {x : Int} (h : r[j]? = some x) : fn r j = x := by
  unfold fn
  rw [List.getD_eq_getElem?_getD, h]
  rfl
theorem at_fn {r : Row} {j : Nat} (h : j < r.length) : r[j]? = some (fn r j) := by
  unfold fn
  rw [List.getD_eq_getElem?_getD, List.getElem?_eq_getElem h]
  rfl
theorem fn_map {M : Int} {a : Row} (j : Nat) : Eqm M (fn (a.map (· % M)) j) (fn a j) := by
  unfold fn
  rw [List.getD_eq_getElem?_getD, List.getD_eq_getElem?_getD, List.getElem?_map]
  cases a[j]? with
  | none => exact .refl _ _
  | some x => exact Eqm.mod _ _
theorem fn_left {a b : Row} {j : Nat} (h : j < a.length) : fn (a ++ b) j = fn a j := by
  unfold fn
  rw [List.getD_eq_getElem?_getD, List.getD_eq_getElem?_getD, List.getElem?_append_left h]
theorem fn_right {a b : Row} {j : Nat} : fn (a ++ b) (a.length + j) = fn b j := by
  unfold fn
  rw [List.getD_eq_getElem?_getD, List.getD_eq_getElem?_getD, List.getElem?_append_right (by omega)]
  congr 2
  omega
theorem fn_unit {m k j : Nat} (h : j < m) : fn (unitRow m k) j = if j = k then 1 else 0 := by
  unfold fn unitRow
  rw [List.getD_eq_getElem?_getD, List.getElem?_map, List.getElem?_range h]
  rfl
theorem row_ext {w : Nat} {r s : Row} (h : r.length = w) (g : s.length = w) (e : ∀ j, j < w → fn r j = fn s j) : r = s := by
  apply List.ext_getElem?
  intro j
  by_cases hj : j < w
  · rw [at_fn (by omega), at_fn (by omega), e j hj]
  · rw [List.getElem?_eq_none (by omega), List.getElem?_eq_none (by omega)]
theorem fn_red {M : Int} {r : Row} (h : RRed M r) {j : Nat} (hj : j < r.length) : 0 ≤ fn r j ∧ fn r j < M := h _ (List.mem_of_getElem? (at_fn hj))
theorem row_eqm {M : Int} {w : Nat} {r s : Row} (h : r.length = w) (g : s.length = w) (rr : RRed M r) (rs : RRed M s) (e : ∀ j, j < w → Eqm M (fn r j) (fn s j)) : r = s :=
  row_ext h g fun j hj => (e j hj).red (fn_red rr (by omega)) (fn_red rs (by omega))
theorem markOf_ok {M : Int} (hM : 2 ≤ M) {w m k : Nat} {a : Row} (h : a.length = w) : (markOf M m a k).length = w + m ∧ RRed M (markOf M m a k) := by
  refine ⟨by simp [markOf, unitRow, h], fun x hx => ?_⟩
  rcases List.mem_append.mp hx with hx | hx
  · obtain ⟨y, _, rfl⟩ := List.mem_map.mp hx
    exact mod_red (by omega) y
  · obtain ⟨j, _, rfl⟩ := List.mem_map.mp hx
    split <;> omega
theorem mark_fn {M : Int} {w m k : Nat} {a : Row} (h : a.length = w) {j : Nat} (hj : j < w) : Eqm M (fn (markOf M m a k) j) (fn a j) := by
  unfold markOf
  rw [fn_left (by simpa [h] using hj)]
  exact fn_map j
theorem PutsL.wf {M : Int} (hM : 2 ≤ M) {w m k : Nat} {A : Mat} {S : List (Option Row)} (hA : ∀ r ∈ A, r.length = w) (p : PutsL M w m A k S) : WF M (w + m) w S := by
  induction p with
  | zero => exact ⟨by simp, fun i s e => by
      rw [List.getElem?_replicate] at e
      split at e <;> cases e⟩
  | succ p h c ih =>
    obtain ⟨a, b⟩ := markOf_ok (m := m) hM (hA _ (List.mem_of_getElem? h))
    exact (c.wf hM ih a b).1
theorem PutsL.span {M : Int} (hM : 2 ≤ M) {w m k : Nat} {A : Mat} {S : List (Option Row)} (hA : ∀ r ∈ A, r.length = w) (p : PutsL M w m A k S) :
    (∀ (i : Nat) (a : Row), i < k → A[i]? = some a → InS M w (GS S 0) (fn a)) ∧ JJ M w S := by
  induction p with
  | zero => exact ⟨fun i a h => absurd h (Nat.not_lt_zero _), fun q s x h => by
      rw [List.getElem?_replicate] at h
      split at h <;> cases h⟩
  | succ p h c ih =>
    rename_i k S S' a r'
    obtain ⟨i1, i2⟩ := ih
    have hal := hA _ (List.mem_of_getElem? h)
    obtain ⟨o1, o2⟩ := markOf_ok (m := m) (k := k) hM hal
    obtain ⟨d1, d2⟩ := c.done hM (p.wf hM hA) o1 o2 i2
    refine ⟨fun i b hi hb => ?_, d2⟩
    rcases Nat.lt_succ_iff_lt_or_eq.mp hi with z | z
    · exact (i1 i b z hb).trans fun v hv => d1 v (.inl hv)
    · subst z
      rw [h] at hb
      cases hb
      exact (d1 _ (.inr rfl)).congr fun j hj => (mark_fn hal hj).symm
/-- what multiples and sums keep holds of what is put -/
theorem Ch.closed {M : Int} {Pd : Row → Prop} (hm : ∀ f r, Pd r → Pd (mulRow M f r)) (hc : ∀ f r g s, Pd r → Pd s → Pd (comb M f r g s)) {i : Nat} {S0 S : List (Option Row)} {r0 r : Row} (c : Ch M S0 r0 i S r) (h0 : ∀ (q : Nat) (s : Row), S0[q]? = some (some s) → Pd s) (hr : Pd r0) :
    (∀ (q : Nat) (s : Row), S[q]? = some (some s) → Pd s) ∧ Pd r := by
  have hset : ∀ {S : List (Option Row)} {t : Row} (i : Nat), (∀ (q : Nat) (s : Row), S[q]? = some (some s) → Pd s) → Pd t → ∀ (q : Nat) (s : Row), (S.set i (some t))[q]? = some (some s) → Pd s := fun i a b q s e => by
    by_cases z : i = q
    · subst z
      rw [List.getElem?_set] at e
      simp at e
      obtain ⟨_, rfl⟩ := e
      exact b
    · rw [List.getElem?_set_ne z] at e
      exact a q s e
  induction c with
  | base => exact ⟨h0, hr⟩
  | skip c h ih => exact ih
  | step c h h1 st ih =>
    obtain ⟨a, b⟩ := ih
    rcases st with ⟨e0, g, lf, f, hg, g1, hbz, rfl, rfl⟩ | ⟨s, P, e0, hP, ⟨h0, rfl, rfl⟩ | ⟨g, lf, f, hg, g1, hbz, rfl, rfl⟩⟩
    · exact ⟨hset _ a (hm _ _ b), hm _ _ b⟩
    · exact ⟨a, hc _ _ _ _ b (a _ _ e0)⟩
    · exact ⟨hset _ a (hc _ _ _ _ b (a _ _ e0)), hc _ _ _ _ b (a _ _ e0)⟩
theorem PutsL.closed {M : Int} {Pd : Row → Prop} {w m k : Nat} {A : Mat} {S : List (Option Row)} (hm : ∀ f r, Pd r → Pd (mulRow M f r)) (hc : ∀ f r g s, Pd r → Pd s → Pd (comb M f r g s)) (p : PutsL M w m A k S)
    (hA : ∀ (i : Nat) (a : Row), i < k → A[i]? = some a → Pd (markOf M m a i)) : ∀ (q : Nat) (s : Row), S[q]? = some (some s) → Pd s := by
  induction p with
  | zero =>
    intro q s h
    rw [List.getElem?_replicate] at h
    split at h <;> cases h
  | succ p h c ih =>
    exact (c.closed hm hc (ih fun i a hi => hA i a (by omega)) (hA _ _ (Nat.lt_succ_self _) h)).1
theorem lessen_closed {M : Int} {Pd : Row → Prop} (hc : ∀ f r g s, Pd r → Pd s → Pd (comb M f r g s)) : ∀ {L : List (Nat × Row)} {r : Row}, (∀ q s, (q, s) ∈ L → Pd s) → Pd r → Pd (lessen M r L)
  | [], r, _, h => h
  | (q, s) :: L, r, hL, h => by
    unfold lessen
    refine lessen_closed hc (fun q s h => hL q s (List.mem_cons_of_mem _ h)) ?_
    split
    · exact hc _ _ _ _ h (hL q s List.mem_cons_self)
    · exact h
theorem settle_closed {M : Int} {Pd : Row → Prop} (hc : ∀ f r g s, Pd r → Pd s → Pd (comb M f r g s)) {n : Nat} {S : List (Option Row)} (hS : ∀ (q : Nat) (s : Row), S[q]? = some (some s) → Pd s) : ∀ (i q : Nat) (s : Row), (q, s) ∈ settle M n S i → Pd s
  | 0, q, s, h => by simp [settle] at h
  | i + 1, q, s, h => by
    unfold settle at h
    split at h
    · exact settle_closed hc hS i q s h
    · rename_i r e
      rcases List.mem_cons.mp h with h | h
      · cases h
        refine lessen_closed hc (settle_closed hc hS i) (hS (n - 1 - i) r ?_)
        rw [List.getD_eq_getElem?_getD] at e
        cases z : S[n - 1 - i]? with
        | none => rw [z] at e; cases e
        | some y => rw [z] at e; exact congrArg some e
      · exact settle_closed hc hS i q s h
/-- the rows of a matrix as what spans -/
def RW (A : Mat) (v : Vec) : Prop := ∃ a ∈ A, v = fn a
def InP (M : Int) (w W : Nat) (A : Mat) (r : Row) : Prop := r.length = W ∧ InS M w (RW A) (fn r)
theorem InP.mul {M : Int} {w W : Nat} {A : Mat} (f : Int) (r : Row) (h : InP M w W A r) : InP M w W A (mulRow M f r) := ⟨by simp [mulRow, h.1], h.2.scale f fun j _ => mul_fn j⟩
theorem InP.comb {M : Int} {w W : Nat} {A : Mat} (f : Int) (r : Row) (g : Int) (s : Row) (h : InP M w W A r) (h2 : InP M w W A s) : InP M w W A (comb M f r g s) := ⟨by simp [Wk.comb, h.1, h2.1], h.2.comb f g h2.2 fun j _ => comb_fn (by rw [h.1, h2.1]) j⟩
theorem PutsL.inA {M : Int} {w m k : Nat} {A : Mat} {S : List (Option Row)} (hA : ∀ r ∈ A, r.length = w) (p : PutsL M w m A k S) : ∀ (q : Nat) (s : Row), S[q]? = some (some s) → InP M w (w + m) A s :=
  p.closed InP.mul InP.comb fun i a _ h => ⟨by simp [markOf, unitRow, hA _ (List.mem_of_getElem? h)], .congr (.of ⟨a, List.mem_of_getElem? h, rfl⟩) fun j hj => mark_fn (hA _ (List.mem_of_getElem? h)) hj⟩
/-- the steps and the rows that were put span the same -/
theorem PutsL.iff {M : Int} (hM : 2 ≤ M) {w m : Nat} {A : Mat} {S : List (Option Row)} (hA : ∀ r ∈ A, r.length = w) (p : PutsL M w m A A.length S) (v : Vec) : InS M w (GS S 0) v ↔ InS M w (RW A) v := by
  refine ⟨fun h => h.trans fun u hu => ?_, fun h => h.trans fun u hu => ?_⟩
  · obtain ⟨q, s, _, h2, rfl⟩ := hu
    exact (p.inA hA q s h2).2
  · obtain ⟨a, ha, rfl⟩ := hu
    obtain ⟨i, hi⟩ := List.mem_iff_getElem?.mp ha
    exact (p.span hM hA).1 i a (List.getElem?_eq_some_iff.mp hi).1 hi
/-- sums of multiples -/
theorem InS.sums {M : Int} {w : Nat} {A : Mat} (c : Nat → Int) {v : Vec} (e : ∀ j, j < w → Eqm M (v j) (Wk.sumN A.length fun k => c k * ent A k j)) : InS M w (RW A) v :=
  InS.sumN (m := A.length) (v := fun k => fn (A.getD k [])) c (fun k hk => .of ⟨A[k], List.getElem_mem hk, by rw [List.getD_eq_getElem?_getD, List.getElem?_eq_getElem hk]; rfl⟩) fun j hj => e j hj
theorem InS.coef {M : Int} {w : Nat} {A : Mat} {v : Vec} (h : InS M w (RW A) v) : ∃ c : Nat → Int, ∀ j, j < w → Eqm M (v j) (Wk.sumN A.length fun k => c k * ent A k j) := by
  induction h with
  | zero h => exact ⟨fun _ => 0, fun j hj => (h j hj).trans (.eq (by rw [sumN_congr (g := fun _ => 0) (fun k _ => by simp), sumN_zero]))⟩
  | add c g h f ih =>
    obtain ⟨a, ha, rfl⟩ := g
    obtain ⟨d, hd⟩ := ih
    obtain ⟨i, hi⟩ := List.mem_iff_getElem?.mp ha
    have hil := (List.getElem?_eq_some_iff.mp hi).1
    refine ⟨fun k => d k + if k = i then c else 0, fun j hj => (f j hj).trans (((hd j hj).add (.refl _ _)).trans (.eq ?_))⟩
    have e : ∀ k, (d k + if k = i then c else 0) * ent A k j = d k * ent A k j + if k = i then c * fn a j else 0 := fun k => by
      by_cases z : k = i
      · subst z
        rw [if_pos rfl, if_pos rfl, ent_at hi]
        show _ = _ + c * a.getD j 0
        grind
      · rw [if_neg z, if_neg z]
        simp
    rw [sumN_congr fun k _ => e k, sumN_add, sumN_one hil]
/-! the rows behind are what the rows ahead are made of -/
def RelM (M : Int) (w m : Nat) (A : Mat) (r : Row) : Prop := r.length = w + m ∧ ∀ j, j < w → Eqm M (fn r j) (sumN m fun k => fn r (w + k) * ent A k j)
theorem RelM.mul {M : Int} {w m : Nat} {A : Mat} (f : Int) (r : Row) (h : RelM M w m A r) : RelM M w m A (mulRow M f r) := ⟨by simp [mulRow, h.1], fun j hj => by
  refine (mul_fn j).trans (((Eqm.refl _ f).mul (h.2 j hj)).trans ?_)
  rw [← sumN_mul]
  exact Eqm.sum fun k _ => Eqm.trans (.eq (by grind)) ((mul_fn (w + k)).symm.mul (.refl _ _))⟩
theorem RelM.comb {M : Int} {w m : Nat} {A : Mat} (f : Int) (r : Row) (g : Int) (s : Row) (h : RelM M w m A r) (h2 : RelM M w m A s) : RelM M w m A (comb M f r g s) := ⟨by simp [Wk.comb, h.1, h2.1], fun j hj => by
  have hl : r.length = s.length := by rw [h.1, h2.1]
  refine (comb_fn hl j).trans ((((Eqm.refl _ f).mul (h.2 j hj)).add ((Eqm.refl _ g).mul (h2.2 j hj))).trans ?_)
  rw [← sumN_mul, ← sumN_mul, ← sumN_add]
  exact Eqm.sum fun k _ => Eqm.trans (.eq (by grind)) ((comb_fn hl (w + k)).symm.mul (.refl _ _))⟩
theorem RelM.mark {M : Int} {w m k : Nat} {A : Mat} {a : Row} (hk : k < m) (ha : a.length = w) (h : A[k]? = some a) : RelM M w m A (markOf M m a k) := ⟨by simp [markOf, unitRow, ha], fun j hj => by
  refine (mark_fn ha hj).trans (.eq ?_)
  have e : ∀ l, l < m → fn (markOf M m a k) (w + l) * ent A l j = if l = k then fn a j else 0 := fun l hl => by
    have : fn (markOf M m a k) (w + l) = if l = k then 1 else 0 := by
      unfold markOf
      rw [show w + l = (a.map (· % M)).length + l by simp [ha], fn_right, fn_unit hl]
    rw [this]
    split
    · rename_i z
      rw [z, ent_at h, Int.one_mul]
      rfl
    · rw [Int.zero_mul]
  rw [sumN_congr e, sumN_one hk]⟩
theorem PutsL.rel {M : Int} {w m k : Nat} {A : Mat} {S : List (Option Row)} (hA : ∀ r ∈ A, r.length = w) (hm : A.length = m) (p : PutsL M w m A k S) : ∀ (q : Nat) (s : Row), S[q]? = some (some s) → RelM M w m A s :=
  p.closed RelM.mul RelM.comb fun i a _ h => .mark (by rw [← hm]; exact (List.getElem?_eq_some_iff.mp h).1) (hA _ (List.mem_of_getElem? h)) h
/-- what is left of a row, place by place -/
inductive RestTo (M : Int) (S : List (Option Row)) (r0 : Row) : Nat → Row → Prop
  | base : RestTo M S r0 0 r0
  | skip {i : Nat} {r : Row} : RestTo M S r0 i r → r[i]? = some 0 → RestTo M S r0 (i + 1) r
  | step {i : Nat} {r s : Row} {N x : Int} : RestTo M S r0 i r → r[i]? = some N → N ≠ 0 → S[i]? = some (some s) → s[i]? = some x → N % x = 0 → RestTo M S r0 (i + 1) (comb M 1 r (-(N / x)) s)
/-- the row cannot be made less -/
def RestBad (M : Int) (S : List (Option Row)) (r0 : Row) : Prop := ∃ i r N, i < S.length ∧ RestTo M S r0 i r ∧ r[i]? = some N ∧ N ≠ 0 ∧ (S[i]? = some none ∨ ∃ s x, S[i]? = some (some s) ∧ s[i]? = some x ∧ N % x ≠ 0)
theorem RestTo.ok {M : Int} {W w i : Nat} {S : List (Option Row)} {r0 r : Row} (c : RestTo M S r0 i r) (hM : 2 ≤ M) (wf : WF M W w S) (hr : r0.length = W) (rr : RRed M r0) : r.length = W ∧ RRed M r ∧ ∀ j, j < i → r[j]? = some 0 := by
  induction c with
  | base => exact ⟨hr, rr, fun j h => absurd h (Nat.not_lt_zero _)⟩
  | skip c h ih =>
    obtain ⟨b, d, e⟩ := ih
    refine ⟨b, d, fun j hj => ?_⟩
    rcases Nat.lt_succ_iff_lt_or_eq.mp hj with h2 | h2
    · exact e j h2
    · rw [h2]
      exact h
  | step c h h0 hs hx hm ih =>
    rename_i i r s N x
    obtain ⟨b, d, e⟩ := ih
    obtain ⟨sl, sr, ⟨y, hy, y1, yM⟩, sz⟩ := wf.row _ _ hs
    rw [hx] at hy
    cases hy
    refine ⟨by simp [comb, b, sl], comb_red (by omega) _ _ _ _, fun j hj => ?_⟩
    rcases Nat.lt_succ_iff_lt_or_eq.mp hj with h2 | h2
    · rw [comb_at (e j h2) (sz j h2)]
      simp
    · subst h2
      rw [comb_at h hx]
      have := Int.emod_add_ediv_mul N x
      rw [show 1 * N + -(N / x) * x = 0 by grind]
      simp
theorem RestTo.inS {M : Int} {W w i : Nat} {S : List (Option Row)} {r0 r : Row} (c : RestTo M S r0 i r) (hM : 2 ≤ M) (wf : WF M W w S) (hr : r0.length = W) (rr : RRed M r0) (hi : i ≤ w) (J : JJ M w S) (h0 : InS M w (GS S 0) (fn r0)) : InS M w (GS S i) (fn r) := by
  induction c with
  | base => exact h0
  | skip c h ih => exact InS.down wf J (by omega) (ih (by omega)) (.eq (fn_at h))
  | step c h hN hs hx hm ih =>
    rename_i i r s N x
    obtain ⟨b, d, e⟩ := c.ok hM wf hr rr
    obtain ⟨sl, _⟩ := wf.row _ _ hs
    have c2 := RestTo.step c h hN hs hx hm
    obtain ⟨b2, d2, e2⟩ := c2.ok hM wf hr rr
    refine InS.down wf J (by omega) ?_ (.eq (fn_at (e2 i (by omega))))
    exact (ih (by omega)).comb 1 (-(N / x)) (.of ⟨i, s, Nat.le_refl _, hs, rfl⟩) fun j _ => comb_fn (by omega) j
theorem RestBad.no {M : Int} {W w : Nat} {S : List (Option Row)} {r0 : Row} (b : RestBad M S r0) (hM : 2 ≤ M) (wf : WF M W w S) (hr : r0.length = W) (rr : RRed M r0) (J : JJ M w S) (h0 : InS M w (GS S 0) (fn r0)) : False := by
  obtain ⟨i, r, N, hi, c, hN, h, bad⟩ := b
  rw [wf.len] at hi
  obtain ⟨rl, rd, _⟩ := c.ok hM wf hr rr
  have hNr := rd _ (List.mem_of_getElem? hN)
  have g := c.inS hM wf hr rr (by omega) J h0
  have low : InS M w (GS S (i + 1)) (fn r) → False := fun g => by
    have := g.vanish wf hi
    rw [fn_at hN] at this
    exact h (this.red hNr ⟨Int.le_refl _, by omega⟩)
  rcases g.split with ⟨s, cc, u, g1, g2, g3⟩ | g
  · rcases bad with bad | ⟨s', x, bad, hx, hm⟩
    · rw [bad] at g1
      cases g1
    · rw [bad] at g1
      cases g1
      obtain ⟨_, _, ⟨y, hy, y1, yM⟩, _⟩ := wf.row _ _ bad
      rw [hx] at hy
      cases hy
      have e := g3 i hi
      rw [fn_at hN, fn_at hx] at e
      obtain ⟨k, e⟩ := e.trans ((g2.vanish wf hi).add (.refl _ _))
      obtain ⟨l, rfl⟩ := yM
      apply hm
      rw [e, show 0 + cc * x + x * l * k = x * (cc + l * k) by grind, Int.mul_emod_right]
  · exact low g
/-- how the row is made, of what is left of it -/
theorem RestTo.rel {M : Int} {w m i : Nat} {A : Mat} {S : List (Option Row)} {row r : Row} (hw : row.length = w) (hS : ∀ (q : Nat) (s : Row), S[q]? = some (some s) → RelM M w m A s) (c : RestTo M S (row.map (· % M) ++ List.replicate m 0) i r) :
    r.length = w + m ∧ ∀ j, j < w → Eqm M (fn r j) (fn row j + sumN m fun k => fn r (w + k) * ent A k j) := by
  induction c with
  | base =>
    refine ⟨by simp [hw], fun j hj => ?_⟩
    have e : ∀ k, fn (row.map (· % M) ++ List.replicate m 0) (w + k) = 0 := fun k => by
      rw [show w + k = (row.map (· % M)).length + k by simp [hw], fn_right]
      unfold fn
      rw [List.getD_eq_getElem?_getD, List.getElem?_replicate]
      split <;> rfl
    rw [fn_left (by simpa [hw] using hj), sumN_congr (g := fun _ => 0) fun k _ => by rw [e k, Int.zero_mul], sumN_zero, Int.add_zero]
    exact fn_map j
  | skip c h ih => exact ih
  | step c h hN hs hx hm ih =>
    rename_i i r s N x
    obtain ⟨l1, ih⟩ := ih
    obtain ⟨l2, hr⟩ := hS _ _ hs
    have hl : r.length = s.length := by rw [l1, l2]
    refine ⟨by simp [comb, l1, l2], fun j hj => ?_⟩
    refine (comb_fn hl j).trans ((((Eqm.refl _ 1).mul (ih j hj)).add ((Eqm.refl _ (-(N / x))).mul (hr j hj))).trans ?_)
    have e : sumN m (fun k => fn (comb M 1 r (-(N / x)) s) (w + k) * ent A k j) = sumN m (fun k => fn (comb M 1 r (-(N / x)) s) (w + k) * ent A k j) := rfl
    refine Eqm.trans (.eq ?_) ((Eqm.refl M (fn row j)).add (Eqm.sum fun k _ => (comb_fn hl (w + k)).symm.mul (.refl _ (ent A k j))))
    rw [← sumN_mul, Int.mul_add, Int.add_assoc, ← sumN_mul, ← sumN_add, Int.one_mul]
    congr 1
    exact sumN_congr fun k _ => by grind
def madeOf (M : Int) (w : Nat) (r : Row) : Row := (r.drop w).map fun x => -x % M
theorem madeOf_ok {M : Int} (hM : 2 ≤ M) {w m : Nat} {A : Mat} {S : List (Option Row)} {row r : Row} (wf : WF M (w + m) w S) (hw : row.length = w) (hS : ∀ (q : Nat) (s : Row), S[q]? = some (some s) → RelM M w m A s) (c : RestTo M S (row.map (· % M) ++ List.replicate m 0) w r) :
    (madeOf M w r).length = m ∧ RRed M (madeOf M w r) ∧ ∀ j, j < w → Eqm M (fn row j) (sumN m fun k => fn (madeOf M w r) k * ent A k j) := by
  obtain ⟨l, h⟩ := c.rel hw hS
  have rr : RRed M (row.map (· % M) ++ List.replicate m 0) := fun x hx => by
    rcases List.mem_append.mp hx with hx | hx
    · obtain ⟨y, _, rfl⟩ := List.mem_map.mp hx
      exact mod_red (by omega) y
    · rw [List.eq_of_mem_replicate hx]
      omega
  obtain ⟨_, _, hz⟩ := c.ok hM wf (by simp [hw]) rr
  refine ⟨by simp [madeOf, l], fun x hx => by
    obtain ⟨y, _, rfl⟩ := List.mem_map.mp hx
    exact mod_red (by omega) _, fun j hj => ?_⟩
  have e1 := h j hj
  rw [fn_at (hz j hj)] at e1
  have e2 : ∀ k, k < m → Eqm M (fn (madeOf M w r) k * ent A k j) (-1 * (fn r (w + k) * ent A k j)) := fun k hk => by
    have : fn (madeOf M w r) k = -fn r (w + k) % M := by
      refine fn_at ?_
      unfold madeOf
      rw [List.getElem?_map, List.getElem?_drop, at_fn (by omega)]
      rfl
    rw [this]
    exact ((Eqm.mod M _).mul (.refl _ _)).trans (.eq (by grind))
  refine Eqm.trans ?_ (Eqm.sum e2).symm
  rw [sumN_mul]
  obtain ⟨k, e1⟩ := e1
  exact ⟨-k, by grind⟩
/-! sums of multiples, as the law makes them -/
def addRow (M : Int) (u : Row) (o : Int) (a : Row) : Row := List.zipWith (fun x y => (x + o * y) % M) u a
def addedF (M : Int) (A : Mat) (c : Row) (w : Nat) : Nat → Row
  | 0 => List.replicate w 0
  | k + 1 => addRow M (addedF M A c w k) (c.getD k 0) (A.getD k [])
theorem addRow_at {M o : Int} {u a : Row} {j : Nat} (h1 : j < u.length) (h2 : j < a.length) : fn (addRow M u o a) j = (fn u j + o * fn a j) % M := by
  refine fn_at ?_
  unfold addRow
  rw [List.getElem?_zipWith, at_fn h1, at_fn h2]
theorem addRow_red {M : Int} (h : 1 ≤ M) (u : Row) (o : Int) (a : Row) : RRed M (addRow M u o a) := fun x hx => by
  obtain ⟨k, hk⟩ := List.mem_iff_getElem?.mp hx
  unfold addRow at hk
  rw [List.getElem?_zipWith] at hk
  split at hk
  · cases hk
    exact mod_red h _
  · cases hk
theorem addedF_ok {M : Int} (hM : 2 ≤ M) {A : Mat} {c : Row} {w : Nat} (hA : ∀ r ∈ A, r.length = w) : ∀ k, k ≤ A.length → (addedF M A c w k).length = w ∧ RRed M (addedF M A c w k) ∧ ∀ j, j < w → Eqm M (fn (addedF M A c w k) j) (sumN k fun l => fn c l * ent A l j)
  | 0, _ => ⟨by simp [addedF], fun x hx => by rw [List.eq_of_mem_replicate hx]; omega, fun j hj => .eq (fn_at (r := addedF M A c w 0) (x := 0) (by simp [addedF, List.getElem?_replicate, hj]))⟩
  | k + 1, hk => by
    obtain ⟨a, b, h⟩ := addedF_ok (c := c) hM hA k (by omega)
    have e : A.getD k [] = A[k] := by
      rw [List.getD_eq_getElem?_getD, List.getElem?_eq_getElem (by omega)]
      rfl
    have hl : (A[k]).length = w := hA _ (List.getElem_mem _)
    refine ⟨by unfold addedF; rw [e]; simp [addRow, a, hl], addRow_red (by omega) _ _ _, fun j hj => ?_⟩
    unfold addedF
    rw [addRow_at (by omega) (by rw [e]; omega)]
    exact (Eqm.mod _ _).trans ((h j hj).add (.refl _ _))
/-! all sums of multiples, as the law's dict holds them -/
def ins (L : List Row) (v : Row) : List Row := if v ∈ L then L else L ++ [v]
def spanIn (M : Int) (u a : Row) (L : List Row) : Nat → List Row
  | 0 => L
  | k + 1 => ins (spanIn M u a L k) (addRow M u ((k : Int) + 1) a)
def spanRow (M : Int) (a : Row) (L : List Row) : Nat → List Row
  | 0 => L
  | t + 1 => spanIn M (L.getD t []) a (spanRow M a L t) (M - 1).toNat
def spanD (M : Int) (w : Nat) (A : Mat) : Nat → List Row
  | 0 => [List.replicate w 0]
  | i + 1 => spanRow M (A.getD i []) (spanD M w A i) (spanD M w A i).length
theorem ins_mem {L : List Row} {v u : Row} : u ∈ ins L v ↔ u ∈ L ∨ u = v := by
  unfold ins
  split
  · rename_i h
    exact ⟨.inl, fun z => z.elim id fun z => z ▸ h⟩
  · simp
theorem ins_nodup {L : List Row} {v : Row} (h : L.Nodup) : (ins L v).Nodup := by
  unfold ins
  split
  · exact h
  · rename_i g
    rw [List.nodup_append]
    exact ⟨h, by simp, fun a ha b hb => by
      simp at hb
      rw [hb]
      exact fun z => g (z ▸ ha)⟩
theorem ins_len (L : List Row) (v : Row) : (ins L v).length ≤ L.length + 1 := by
  unfold ins
  split <;> simp
theorem spanIn_mem {M : Int} {u a : Row} {L : List Row} {v : Row} : ∀ k, v ∈ spanIn M u a L k ↔ v ∈ L ∨ ∃ o : Nat, 1 ≤ o ∧ o ≤ k ∧ v = addRow M u o a
  | 0 => ⟨.inl, fun h => h.elim id fun ⟨o, h1, h2, _⟩ => absurd h2 (by omega)⟩
  | k + 1 => by
    unfold spanIn
    rw [ins_mem, spanIn_mem k]
    constructor
    · rintro ((h | ⟨o, h1, h2, h3⟩) | h)
      · exact .inl h
      · exact .inr ⟨o, h1, by omega, h3⟩
      · exact .inr ⟨k + 1, by omega, Nat.le_refl _, h⟩
    · rintro (h | ⟨o, h1, h2, h3⟩)
      · exact .inl (.inl h)
      · by_cases e : o = k + 1
        · subst e
          exact .inr h3
        · exact .inl (.inr ⟨o, h1, by omega, h3⟩)
theorem spanIn_nodup {M : Int} {u a : Row} {L : List Row} (h : L.Nodup) : ∀ k, (spanIn M u a L k).Nodup
  | 0 => h
  | k + 1 => ins_nodup (spanIn_nodup h k)
theorem spanIn_len (M : Int) (u a : Row) (L : List Row) : ∀ k, (spanIn M u a L k).length ≤ L.length + k
  | 0 => Nat.le_refl _
  | k + 1 => Nat.le_trans (ins_len _ _) (by have := spanIn_len M u a L k; omega)
theorem spanRow_mem {M : Int} {a : Row} {L : List Row} {v : Row} : ∀ t, t ≤ L.length → (v ∈ spanRow M a L t ↔ v ∈ L ∨ ∃ i, i < t ∧ ∃ o : Nat, 1 ≤ o ∧ o ≤ (M - 1).toNat ∧ v = addRow M (L.getD i []) o a)
  | 0, _ => ⟨.inl, fun h => h.elim id fun ⟨i, h, _⟩ => absurd h (Nat.not_lt_zero _)⟩
  | t + 1, h => by
    unfold spanRow
    rw [spanIn_mem, spanRow_mem t (by omega)]
    constructor
    · rintro ((h | ⟨i, h1, h2⟩) | ⟨o, h1⟩)
      · exact .inl h
      · exact .inr ⟨i, by omega, h2⟩
      · exact .inr ⟨t, by omega, o, h1⟩
    · rintro (h | ⟨i, h1, h2⟩)
      · exact .inl (.inl h)
      · by_cases e : i = t
        · subst e
          exact .inr h2
        · exact .inl (.inr ⟨i, by omega, h2⟩)
theorem spanRow_nodup {M : Int} {a : Row} {L : List Row} (h : L.Nodup) : ∀ t, (spanRow M a L t).Nodup
  | 0 => h
  | t + 1 => spanIn_nodup (spanRow_nodup h t) _
theorem spanRow_len {M : Int} {m : Nat} (hm : (M - 1).toNat ≤ m) (a : Row) (L : List Row) : ∀ t, (spanRow M a L t).length ≤ L.length + t * m
  | 0 => by simp [spanRow]
  | t + 1 => by
    have h1 := spanIn_len M (L.getD t []) a (spanRow M a L t) (M - 1).toNat
    have h2 := spanRow_len hm a L t
    unfold spanRow
    rw [Nat.add_mul]
    omega
theorem spanD_nodup (M : Int) (w : Nat) (A : Mat) : ∀ i, (spanD M w A i).Nodup
  | 0 => by simp [spanD]
  | i + 1 => spanRow_nodup (spanD_nodup M w A i) _
theorem spanD_len {M : Int} {m : Nat} (hm : (M - 1).toNat ≤ m) (w : Nat) (A : Mat) : ∀ i, (spanD M w A i).length ≤ (m + 1) ^ i
  | 0 => by simp [spanD]
  | i + 1 => by
    have h1 := spanRow_len hm (A.getD i []) (spanD M w A i) (spanD M w A i).length
    have h2 := spanD_len hm w A i
    unfold spanD
    refine Nat.le_trans h1 ?_
    rw [Nat.pow_succ, Nat.mul_add, Nat.mul_one, Nat.add_comm]
    exact Nat.add_le_add (Nat.mul_le_mul_right _ h2) h2
/-- a row of given numbers modulo M -/
def rowMod (M : Int) (w : Nat) (v : Vec) : Row := (List.range w).map fun j => v j % M
theorem rowMod_ok {M : Int} (hM : 1 ≤ M) (w : Nat) (v : Vec) : (rowMod M w v).length = w ∧ RRed M (rowMod M w v) ∧ ∀ j, j < w → fn (rowMod M w v) j = v j % M := by
  refine ⟨by simp [rowMod], fun x hx => ?_, fun j hj => ?_⟩
  · obtain ⟨y, _, rfl⟩ := List.mem_map.mp hx
    exact mod_red hM _
  · refine fn_at ?_
    simp [rowMod, List.getElem?_range hj]
theorem spanD_mem {M : Int} (hM : 2 ≤ M) {w : Nat} {A : Mat} (hA : ∀ r ∈ A, r.length = w) {v : Row} : ∀ i, i ≤ A.length → (v ∈ spanD M w A i ↔ v.length = w ∧ RRed M v ∧ ∃ c : Nat → Int, ∀ j, j < w → Eqm M (fn v j) (sumN i fun k => c k * ent A k j))
  | 0, _ => by
    unfold spanD
    constructor
    · intro h
      simp at h
      subst h
      exact ⟨by simp, fun x hx => by rw [List.eq_of_mem_replicate hx]; omega, fun _ => 0, fun j hj => .eq (fn_at (x := 0) (by simp [List.getElem?_replicate, hj]))⟩
    · rintro ⟨h1, h2, c, h3⟩
      simp
      refine row_eqm (w := w) h1 (by simp) h2 (fun x hx => by rw [List.eq_of_mem_replicate hx]; omega) fun j hj => (h3 j hj).trans (.eq (fn_at (by simp [List.getElem?_replicate, hj, sumN])).symm)
  | i + 1, hi => by
    have hil : i < A.length := by omega
    have ea : A.getD i [] = A[i] := by
      rw [List.getD_eq_getElem?_getD, List.getElem?_eq_getElem hil]
      rfl
    have hl : (A[i]).length = w := hA _ (List.getElem_mem _)
    have ee : ∀ j, ent A i j = fn A[i] j := fun j => ent_at (List.getElem?_eq_getElem hil) j
    unfold spanD
    rw [spanRow_mem _ (Nat.le_refl _), ea]
    constructor
    · rintro (h | ⟨t, ht, o, o1, o2, rfl⟩)
      · obtain ⟨h1, h2, c, h3⟩ := (spanD_mem hM hA i (by omega)).mp h
        refine ⟨h1, h2, fun k => if k = i then 0 else c k, fun j hj => (h3 j hj).trans (.eq ?_)⟩
        rw [sumN]
        dsimp only
        rw [if_pos rfl, Int.zero_mul, Int.add_zero]
        exact sumN_congr fun k hk => by rw [if_neg (by omega)]
      · have hu : (spanD M w A i).getD t [] ∈ spanD M w A i := by
          rw [List.getD_eq_getElem?_getD, List.getElem?_eq_getElem ht]
          exact List.getElem_mem _
        obtain ⟨h1, h2, c, h3⟩ := (spanD_mem hM hA i (by omega)).mp hu
        generalize (spanD M w A i).getD t [] = u at *
        refine ⟨by simp [addRow, h1, hl], addRow_red (by omega) _ _ _, fun k => if k = i then (o : Int) else c k, fun j hj => ?_⟩
        rw [addRow_at (by omega) (by omega), sumN]
        dsimp only
        rw [if_pos rfl, ee]
        refine (Eqm.mod _ _).trans (Eqm.add ((h3 j hj).trans (.eq ?_)) (.refl _ _))
        exact sumN_congr fun k hk => by rw [if_neg (by omega)]
    · rintro ⟨h1, h2, c, h3⟩
      obtain ⟨u1, u2, u3⟩ := rowMod_ok (show 1 ≤ M by omega) w fun j => sumN i fun k => c k * ent A k j
      generalize hu : rowMod M w (fun j => sumN i fun k => c k * ent A k j) = u at *
      have um : u ∈ spanD M w A i := (spanD_mem hM hA i (by omega)).mpr ⟨u1, u2, c, fun j hj => by rw [u3 j hj]; exact Eqm.mod _ _⟩
      have hr := mod_red (show 1 ≤ M by omega) (c i)
      by_cases e : c i % M = 0
      · refine .inl ?_
        have : v = u := row_eqm (w := w) h1 u1 h2 u2 fun j hj => by
          refine (h3 j hj).trans ?_
          rw [sumN, u3 j hj]
          refine Eqm.trans ?_ (Eqm.mod M _).symm
          have := ((Eqm.mod M (c i)).symm.trans (.eq e)).mul (Eqm.refl M (ent A i j))
          exact ((Eqm.refl _ _).add this).trans (.eq (by simp))
        rw [this]
        exact um
      · obtain ⟨t, ht⟩ := List.mem_iff_getElem?.mp um
        refine .inr ⟨t, (List.getElem?_eq_some_iff.mp ht).1, (c i % M).toNat, by omega, by omega, ?_⟩
        rw [List.getD_eq_getElem?_getD, ht]
        refine row_eqm (w := w) h1 (by simp [addRow, u1, hl]) h2 (addRow_red (by omega) _ _ _) fun j hj => ?_
        show Eqm M _ (fn (addRow M u _ A[i]) j)
        rw [addRow_at (by omega) (by omega)]
        refine (h3 j hj).trans (Eqm.trans ?_ (Eqm.mod M _).symm)
        rw [sumN, ee, u3 j hj, Int.toNat_of_nonneg hr.1]
        exact (Eqm.mod M _).symm.add ((Eqm.mod M _).symm.mul (.refl _ _))
/-- the dict holds just the span -/
theorem spanD_iff {M : Int} (hM : 2 ≤ M) {w : Nat} {A : Mat} (hA : ∀ r ∈ A, r.length = w) {v : Row} : v ∈ spanD M w A A.length ↔ v.length = w ∧ RRed M v ∧ InS M w (RW A) (fn v) := by
  rw [spanD_mem hM hA _ (Nat.le_refl _)]
  exact ⟨fun ⟨a, b, c, d⟩ => ⟨a, b, InS.sums c d⟩, fun ⟨a, b, c⟩ => ⟨a, b, c.coef⟩⟩
end Wk

namespace Wk
open PySem L2 NumI
theorem iteNN {c A B : Prop} [Decidable c] (hc : ¬ c) (h : A) : if (!decide c) = true then A else B := by
  rw [decide_eq_false hc]
  exact iteT h
def spRestOf (C : Addr) : Sp := fun vs H Q _ => ∃ (p l b : Addr) (M : Int) (W n : Nat) (S : List (Option Row)) (r : Row), vs = [.ref p, .ref b] ∧ StAt C H p l M S ∧ 2 ≤ M ∧ M < 2 ^ 64 ∧ W ≤ 1000 ∧ n ≤ W ∧ WF M W n S ∧ r.length = W ∧ RRed M r ∧
  H b = some (.lst (r.map V.int)) ∧ (∀ (r' : Row) (b' : Addr) (H' : Hp), RestTo M S r n r' → Same H H' → H' b' = some (.lst (r'.map V.int)) → Q (.ref b') H') ∧ ∀ H', RestBad M S r → Same H H' → Q .non H'
section
variable {P : Program} {w : World} {K : PySem.W.Frag} {mg : Str → Option Value} {base : Heap} {C fI fP fA fS : Addr}
end
end Wk

/-! a list or a tuple, of the kind that the flag tells -/
namespace Wk
open PySem PySem.Spec PyProof.Rows L2
def Jsq (t : Bool) (K : PySem.W.Frag) (a : Addr) : It := if t = true then Itt K a else Itl K a
def iSq (t : Bool) (K : PySem.W.Frag) (tl : TE) : TI := fun σ H R => tl σ H fun x H1 => ∃ a, x = .ref a ∧ (∃ xs, ZM.SqK t K H1 a xs) ∧ R (Jsq t K a) H1
theorem pi_sqK {X : Cx} {K : PySem.W.Frag} (hK : X.K = K) (t : Bool) {tg l : Expr} {tl : TE} (hl : PE X l tl) : PI X tg l (iSq t K tl) := by
  subst hK
  cases t
  · exact pi_list hl
  · exact pi_tup hl
theorem walk_sq {K : PySem.W.Frag} {t : Bool} {a : Addr} {xs : List V} : Walk (Jsq t K a) xs.length (fun H => ZM.SqK t K H a xs) (YAt xs) := by
  cases t
  · exact walk_list
  · exact walk_tup
def rIxSq (t : Bool) (K : PySem.W.Frag) : R2 := fun x y H Q => ∃ p xs i v, x = .ref p ∧ y = .int i ∧ ZM.SqK t K H p xs ∧ atI xs i = some v ∧ Q v H
theorem ix_sqK {X : Cx} {K : PySem.W.Frag} (hK : X.K = K) (t : Bool) : IxR X (rIxSq t K) := by
  subst hK
  cases t
  · exact ix_list
  · exact ix_tup
def rLenSq (t : Bool) (K : PySem.W.Frag) : List V → Hp → VK → Prop := fun xs H Q => ∃ p ys, xs = [.ref p] ∧ ZM.SqK t K H p ys ∧ Q (.int ys.length) H
theorem call_lenSqK {X : Cx} {K : PySem.W.Frag} (hK : X.K = K) (t : Bool) : CallR X (.builtin "len") (rLenSq t K) := by
  subst hK
  intro pins s σ H xs us Q I r h
  obtain ⟨p, ys, e, hs, q⟩ := h
  refine call_len_seq pins s σ H xs us Q I r ⟨p, ys, e, ?_, q⟩
  cases t
  · exact .inl hs
  · exact .inr hs
theorem pe_fldK {X : Cx} {K : PySem.W.Frag} (hK : X.K = K) {e : Expr} {f : Str} {pos : PySem.Pos} {ta : TE} (he : PE X e ta) (hb : attributeBase e f X.env (eval e X.env) = eval e X.env) : PE X (.Attribute e f pos) (tFld K ta f) := hK ▸ pe_fld he hb
/-- a comprehension that keeps what a test tells -/
theorem lc_fil {α : Type} {J : It} {n : Nat} {G : Hp → Prop} {Y : Nat → Hp → V → Hp → Prop} (w : Walk J n G Y) {g : TG} {tt : TT} {te : TE} {vs : List Nat} {σ : L2.St} {H1 : Hp} {D : Addr} {Qd : Hp → Prop} (hD : H1 D = none) (hn : n ≤ 1000000) (as : List α) (ha : as.length = n) (p : α → Bool) (f : α → V)
    (hG : ∀ H, Same H1 H → G H)
    (hs : ∀ (i : Nat) (a : α) (x : V) (H H' : Hp) (Fn : V → Hp → Prop) (Nn : Hp → Prop), as[i]? = some a → (∀ H4, Same H H4 → p a = true → Fn (f a) H4) → (∀ H4, Same H H4 → p a = false → Nn H4) → Same H1 H → Y i H x H' → g x (wipe σ vs) H' fun σ2 H2 => wipe σ2 vs = wipe σ vs ∧ tt σ2 H2 fun b H3 => if b = true then te σ2 H3 Fn else Nn H3)
    (hd : ∀ H, H D = some (.lst ((as.filter p).map f)) → Same H1 H → Qd H) :
    ∃ W : Nat → Nat → Hp → Prop, (∃ m, W 0 m (upd H1 D (.lst []))) ∧ ∀ i m H, W i m H →
      (J.stop i H ∧ Qd H) ∨ (J.go i H ∧ ∃ Nx : Hp → Prop, (∀ H', Nx H' → ∃ m', m' < m ∧ W (i + 1) m' H') ∧ ∀ x H', J.yld i H x H' → g x (wipe σ vs) H' fun σ2 H2 => wipe σ2 vs = wipe σ vs ∧ tt σ2 H2 fun b H3 =>
        if b = true then te σ2 H3 fun y H4 => ∃ acc, H4 D = some (.lst acc) ∧ acc.length < sizeLine ∧ Nx (upd H4 D (.lst (acc ++ [y]))) else Nx H3) := by
  refine lc_it w (fun i H => H D = some (.lst (((as.take i).filter p).map f)) ∧ ∀ b o, b ≠ D → H1 b = some o → H b = some o) ⟨by rw [upd_same]; rfl, fun b o n e => by rw [upd_ne n]; exact e⟩ (fun i H hi h => hG H fun b o e => h.2 b o (fun z => by rw [z, hD] at e; cases e) e) ?_ fun H h => hd H ?_ ?_
  · intro i x H H' hi ⟨h1, h2⟩ hy
    have hia : as[i]? = some (as[i]'(by omega)) := List.getElem?_eq_getElem (by omega)
    have ht : as.take (i + 1) = as.take i ++ [as[i]'(by omega)] := by
      rw [List.take_succ, hia]
      rfl
    have sm : Same H1 H := fun b o e => h2 b o (fun z => by rw [z, hD] at e; cases e) e
    refine hs i _ x H H' _ _ hia (fun H4 s4 hp => ⟨_, s4 _ _ h1, ?_, ?_, fun b o nb e => ?_⟩) (fun H4 s4 hp => ⟨?_, fun b o nb e => s4 _ _ (h2 b o nb e)⟩) sm hy
    · have l1 := List.length_filter_le p (as.take i)
      rw [List.length_map]
      rw [List.length_take] at l1
      exact Nat.lt_of_lt_of_le (show _ < 1000001 by omega) (by decide)
    · rw [upd_same, ht, List.filter_append, List.map_append]
      congr 3
      rw [List.filter_cons_of_pos hp]
      rfl
    · rw [upd_ne nb]
      exact s4 _ _ (h2 b o nb e)
    · rw [ht, List.filter_append, List.filter_cons_of_neg (by rw [hp]; exact Bool.false_ne_true)]
      simp only [List.filter_nil, List.append_nil]
      exact s4 _ _ h1
  · rw [← ha, List.take_length] at h
    exact h.1
  · exact fun b o e => h.2 b o (fun z => by rw [z, hD] at e; cases e) e
end Wk

/-! matrices that can be undone, by steps; flat ones -/
namespace Wk
def Inv2 (M : Int) (n : Nat) (A : Fm) : Prop := ∃ C : Fm, EqF M n (mulF n C A) oneF ∧ EqF M n (mulF n A C) oneF
theorem Inv2.congr {M : Int} {n : Nat} {A B : Fm} (h : Inv2 M n A) (e : EqF M n B A) : Inv2 M n B := by
  obtain ⟨C, a, b⟩ := h
  exact ⟨C, ((EqF.refl _ _ _).mul e).trans a, (e.mul (.refl _ _ _)).trans b⟩
theorem Inv2.one (M : Int) (n : Nat) : Inv2 M n oneF := ⟨oneF, one_mulF n _, one_mulF n _⟩
theorem Inv2.mul {M : Int} {n : Nat} {E E' A : Fm} (h : Inv2 M n A) (h1 : EqF M n (mulF n E E') oneF) (h2 : EqF M n (mulF n E' E) oneF) : Inv2 M n (mulF n E A) := by
  obtain ⟨C, a, b⟩ := h
  refine ⟨mulF n C E', ?_, ?_⟩
  · rw [mulF_assoc, ← mulF_assoc n E' E A]
    exact ((EqF.refl _ _ _).mul ((h2.mul (.refl _ _ _)).trans (one_mulF n A))).trans a
  · rw [mulF_assoc, ← mulF_assoc n A C E']
    exact ((EqF.refl _ _ _).mul ((b.mul (.refl _ _ _)).trans (one_mulF n E'))).trans h1
/-- one row plus t times another -/
def addE (x y : Nat) (t : Int) : Fm := fun i j => oneF i j + if i = x then (if j = y then t else 0) else 0
theorem addE_mul {n x y : Nat} {t : Int} (hy : y < n) (A : Fm) (i j : Nat) (hi : i < n) : mulF n (addE x y t) A i j = A i j + if i = x then t * A y j else 0 := by
  show sumN n (fun k => addE x y t i k * A k j) = _
  have e : ∀ k, addE x y t i k * A k j = (if k = i then A i j else 0) + (if k = y then (if i = x then t * A y j else 0) else 0) := fun k => by
    show ((if i = k then (1 : Int) else 0) + if i = x then (if k = y then t else 0) else 0) * A k j = _
    by_cases h1 : k = i
    · subst h1
      rw [if_pos rfl, if_pos rfl]
      by_cases h2 : k = x
      · rw [if_pos h2, if_pos h2]
        by_cases h3 : k = y
        · rw [if_pos h3, if_pos h3, ← h3]; grind
        · rw [if_neg h3, if_neg h3]; grind
      · rw [if_neg h2, if_neg h2]
        split <;> grind
    · rw [if_neg (fun z => h1 z.symm), if_neg h1]
      by_cases h2 : i = x
      · rw [if_pos h2, if_pos h2]
        by_cases h3 : k = y
        · rw [if_pos h3, if_pos h3, ← h3]; grind
        · rw [if_neg h3, if_neg h3]; grind
      · rw [if_neg h2, if_neg h2]
        split <;> grind
  rw [sumN_congr fun k _ => e k, sumN_add, sumN_one hi, sumN_one hy]
theorem addE_inv {M : Int} {n x y : Nat} {t : Int} (hy : y < n) (h : x ≠ y) : EqF M n (mulF n (addE x y t) (addE x y (-t))) oneF := fun i j hi hj => by
  rw [addE_mul hy _ i j hi]
  refine .eq ?_
  show (oneF i j + if i = x then (if j = y then -t else 0) else 0) + (if i = x then t * (oneF y j + if y = x then (if j = y then -t else 0) else 0) else 0) = oneF i j
  rw [if_neg (fun z : y = x => h z.symm)]
  by_cases h1 : i = x
  · rw [if_pos h1, if_pos h1]
    show oneF i j + (if j = y then -t else 0) + t * ((if y = j then (1 : Int) else 0) + 0) = _
    by_cases h2 : j = y
    · rw [if_pos h2, if_pos h2.symm]; grind
    · rw [if_neg h2, if_neg (fun z => h2 z.symm)]; grind
  · rw [if_neg h1, if_neg h1]; grind
/-- one row times u -/
def mulE (x : Nat) (u : Int) : Fm := fun i j => if i = j then (if i = x then u else 1) else 0
theorem mulE_mul {n x : Nat} {u : Int} (A : Fm) (i j : Nat) (hi : i < n) : mulF n (mulE x u) A i j = (if i = x then u else 1) * A i j := by
  show sumN n (fun k => mulE x u i k * A k j) = _
  have e : ∀ k, mulE x u i k * A k j = if k = i then (if i = x then u else 1) * A i j else 0 := fun k => by
    show (if i = k then (if i = x then u else 1) else 0) * A k j = _
    by_cases h1 : k = i
    · subst h1; rw [if_pos rfl, if_pos rfl]
    · rw [if_neg (fun z => h1 z.symm), if_neg h1]; simp
  rw [sumN_congr fun k _ => e k, sumN_one hi]
theorem mulE_inv {M : Int} {n x : Nat} {u v : Int} (h : Eqm M (u * v) 1) : EqF M n (mulF n (mulE x u) (mulE x v)) oneF := fun i j hi hj => by
  rw [mulE_mul _ i j hi]
  show Eqm M ((if i = x then u else 1) * if i = j then (if i = x then v else 1) else 0) (if i = j then 1 else 0)
  by_cases h1 : i = j
  · rw [if_pos h1, if_pos h1]
    by_cases h2 : i = x
    · rw [if_pos h2, if_pos h2]; exact h
    · rw [if_neg h2, if_neg h2]; exact .eq (by simp)
  · rw [if_neg h1, if_neg h1]; exact .eq (by simp)
theorem bez_ex : ∀ (b a : Nat), ∃ x y : Int, x * a + y * b = (Nat.gcd a b : Int) := by
  intro b
  induction b using Nat.strongRecOn with
  | ind b ih =>
    intro a
    by_cases h : b = 0
    · subst h
      exact ⟨1, 0, by simp⟩
    · obtain ⟨x, y, e⟩ := ih (a % b) (Nat.mod_lt _ (by omega)) b
      refine ⟨y, x - y * (a / b : Nat), ?_⟩
      have e2 : Nat.gcd b (a % b) = Nat.gcd a b := by
        rw [Nat.gcd_comm a b, Nat.gcd_rec b a, Nat.gcd_comm]
      rw [e2] at e
      rw [← e]
      have e3 : (a : Int) = b * (a / b : Nat) + (a % b : Nat) := by
        have := Nat.div_add_mod a b
        omega
      generalize ((a / b : Nat) : Int) = q at *
      generalize ((a % b : Nat) : Int) = r at *
      rw [e3]
      grind
theorem unit_inv {M u : Int} (hM : 1 ≤ M) (hu : 0 ≤ u) (h : Int.gcd u M = 1) : ∃ v, Eqm M (u * v) 1 := by
  obtain ⟨x, y, e⟩ := bez_ex M.toNat u.toNat
  have h1 : Nat.gcd u.toNat M.toNat = 1 := by
    rw [← h]
    show _ = Nat.gcd u.natAbs M.natAbs
    congr 1 <;> omega
  rw [h1] at e
  have h2 : ((u.toNat : Nat) : Int) = u := by omega
  have h3 : ((M.toNat : Nat) : Int) = M := by omega
  rw [h2, h3] at e
  exact ⟨x, -y, by grind⟩
/-- a matrix whose row x is made of all rows, itself d times or more: it cannot be undone -/
theorem flat_none {M d : Int} (hM : 2 ≤ M) {n x : Nat} {A A' : Fm} {o : Nat → Int} (hx : x < n) (I : Inv2 M n A) (hd : 2 ≤ d) (hdM : d ∣ M) (ho : d ∣ o x)
    (e : ∀ i j, i < n → j < n → Eqm M (A' i j) (if i = x then sumN n (fun k => o k * A k j) else A i j)) : ¬ ∃ B : Fm, EqF M n (mulF n B A') oneF := by
  rintro ⟨B, hB⟩
  obtain ⟨C, h1, h2⟩ := I
  have eF : EqF M n A' (mulF n (fun i j => if i = x then o j else oneF i j) A) := fun i j hi hj => by
    refine (e i j hi hj).trans (.eq ?_)
    show _ = sumN n (fun k => (if i = x then o k else oneF i k) * A k j)
    by_cases h : i = x
    · rw [if_pos h]
      exact sumN_congr fun k _ => by rw [if_pos h]
    · rw [if_neg h, sumN_congr (g := fun k => if k = i then A i j else 0) fun k _ => ?_, sumN_one hi]
      rw [if_neg h]
      show (if i = k then (1 : Int) else 0) * A k j = _
      by_cases z : k = i
      · subst z; rw [if_pos rfl, if_pos rfl]; simp
      · rw [if_neg (fun y => z y.symm), if_neg z]; simp
  have hBF : EqF M n (mulF n B (fun i j => if i = x then o j else oneF i j)) C := by
    have a1 : EqF M n (mulF n (mulF n B (fun i j => if i = x then o j else oneF i j)) A) oneF := by
      rw [mulF_assoc]
      exact ((EqF.refl _ _ _).mul eF.symm).trans hB
    refine (mulF_one n _).symm.trans (((EqF.refl _ _ _).mul h2.symm).trans ?_)
    rw [← mulF_assoc]
    exact (a1.mul (.refl _ _ _)).trans (one_mulF n C)
  obtain ⟨m, hm⟩ := hdM
  obtain ⟨q, hq⟩ := ho
  have col : ∀ i, i < n → Eqm d (C i x) 0 := fun i hi => by
    have a1 := (hBF i x hi hx).symm
    have a2 : mulF n B (fun i j => if i = x then o j else oneF i j) i x = B i x * o x := by
      show sumN n (fun k => B i k * if k = x then o x else oneF k x) = _
      rw [sumN_congr (g := fun k => if k = x then B i x * o x else 0) fun k _ => ?_, sumN_one hx]
      by_cases z : k = x
      · rw [if_pos z, if_pos z, z]
      · rw [if_neg z, if_neg z]
        show B i k * (if k = x then (1 : Int) else 0) = 0
        rw [if_neg z]; simp
    rw [a2] at a1
    obtain ⟨k, e1⟩ := a1
    exact ⟨B i x * q + m * k, by rw [e1, hq, hm]; grind⟩
  have one := h2 x x hx hx
  have a3 : Eqm d (mulF n A C x x) 0 := by
    have : Eqm d (sumN n fun k => A x k * C k x) (sumN n fun _ => 0) := Eqm.sum fun k hk => ((Eqm.refl d (A x k)).mul (col k hk)).trans (.eq (by simp))
    rw [sumN_zero] at this
    exact this
  have e1 : oneF x x = 1 := by
    show (if x = x then (1 : Int) else 0) = 1
    rw [if_pos rfl]
  rw [e1] at one
  obtain ⟨k, e2⟩ := one
  obtain ⟨l, e3⟩ := a3
  have : d ∣ 1 := ⟨l - m * k, by rw [hm] at e2; grind⟩
  have := Int.le_of_dvd (by decide) this
  omega
theorem zero_none {M : Int} (hM : 2 ≤ M) {n : Nat} (hn : 1 ≤ n) {A : Fm} (e : ∀ i j, i < n → j < n → A i j = 0) : ¬ ∃ B : Fm, EqF M n (mulF n B A) oneF := by
  rintro ⟨B, hB⟩
  have h := hB 0 0 (by omega) (by omega)
  have a : mulF n B A 0 0 = 0 := by
    show sumN n (fun k => B 0 k * A k 0) = 0
    rw [sumN_congr (g := fun _ => 0) fun k hk => by rw [e k 0 hk (by omega)]; simp, sumN_zero]
  rw [a] at h
  obtain ⟨k, h⟩ := h
  have h : 0 = 1 + M * k := h
  have : M ∣ 1 := ⟨-k, by grind⟩
  have := Int.le_of_dvd (by decide) this
  omega
/-- what is left of an inverse is right of it, too, and the only one -/
theorem inv_right {M : Int} {n : Nat} {A B : Fm} (I : Inv2 M n A) (h : EqF M n (mulF n B A) oneF) : EqF M n (mulF n A B) oneF := by
  obtain ⟨C, h1, h2⟩ := I
  have e : EqF M n B C := by
    refine (mulF_one n B).symm.trans (((EqF.refl _ _ _).mul h2.symm).trans ?_)
    rw [← mulF_assoc]
    exact (h.mul (.refl _ _ _)).trans (one_mulF n C)
  exact ((EqF.refl _ _ _).mul e).trans h2
theorem inv_unique {M : Int} {n : Nat} {A B D : Fm} (I : Inv2 M n A) (h : EqF M n (mulF n B A) oneF) (g : EqF M n (mulF n D A) oneF) : EqF M n B D := by
  obtain ⟨C, h1, h2⟩ := I
  have e : ∀ {X : Fm}, EqF M n (mulF n X A) oneF → EqF M n X C := fun {X} hX => by
    refine (mulF_one n X).symm.trans (((EqF.refl _ _ _).mul h2.symm).trans ?_)
    rw [← mulF_assoc]
    exact (hX.mul (.refl _ _ _)).trans (one_mulF n C)
  exact (e h).trans (e g).symm
end Wk

/-! one row on one place alone; the size of a form -/
namespace Wk
def scaled (w p : Nat) (x : Int) : Row := (List.range w).map fun j => x * (if j = p then 1 else 0)
theorem scaled_fn {w p j : Nat} {x : Int} (hj : j < w) : fn (scaled w p x) j = if j = p then x else 0 := by
  refine fn_at ?_
  unfold scaled
  rw [List.getElem?_map, List.getElem?_range hj]
  show some (x * (if j = p then 1 else 0)) = _
  split <;> simp
theorem zeros_fn (w j : Nat) : fn (List.replicate w (0 : Int)) j = 0 := by
  unfold fn
  rw [List.getD_eq_getElem?_getD, List.getElem?_replicate]
  split <;> rfl
def aloneA (w p : Nat) (x : Int) : Mat := [scaled w p x, List.replicate w 0]
theorem aloneA_w {w p : Nat} {x : Int} : ∀ r ∈ aloneA w p x, r.length = w := fun r hr => by
  simp [aloneA] at hr
  rcases hr with rfl | rfl <;> simp [scaled]
theorem aloneA_in {M : Int} {w p : Nat} {x : Int} {v : Vec} : InS M w (RW (aloneA w p x)) v ↔ ∃ c, ∀ j, j < w → Eqm M (v j) (if j = p then c * x else 0) := by
  have e : ∀ (c : Nat → Int) (j : Nat), j < w → (sumN 2 fun k => c k * ent (aloneA w p x) k j) = if j = p then c 0 * x else 0 := fun c j hj => by
    have e0 : ent (aloneA w p x) 0 j = if j = p then x else 0 := by
      rw [ent_at (r := scaled w p x) rfl]
      exact scaled_fn hj
    have e1 : ent (aloneA w p x) 1 j = 0 := by
      rw [ent_at (r := List.replicate w 0) rfl]
      exact zeros_fn w j
    rw [sumN, sumN, sumN, e0, e1]
    split <;> simp
  constructor
  · intro h
    obtain ⟨c, hc⟩ := h.coef
    exact ⟨c 0, fun j hj => (hc j hj).trans (.eq (e c j hj))⟩
  · rintro ⟨c, hc⟩
    exact InS.sums (A := aloneA w p x) (fun _ => c) fun j hj => (hc j hj).trans (.eq (e (fun _ => c) j hj).symm)
theorem alone_unit {M : Int} (hM : 2 ≤ M) {w p : Nat} (hp : p < w) {x : Int} (hx : 0 ≤ x) : InS M w (RW (aloneA w p x)) (fn (unitRow w p)) ↔ Int.gcd x M = 1 := by
  rw [aloneA_in]
  constructor
  · rintro ⟨c, h⟩
    obtain ⟨k, e⟩ := h p hp
    rw [fn_unit hp, if_pos rfl, if_pos rfl] at e
    have h1 : (Int.gcd x M : Int) ∣ 1 := by
      rw [e]
      exact Int.dvd_add (Int.dvd_trans (Int.gcd_dvd_left ..) (Int.dvd_mul_left ..)) (Int.dvd_trans (Int.gcd_dvd_right ..) (Int.dvd_mul_right ..))
    have := Int.eq_one_of_dvd_one (by omega) h1
    omega
  · intro h
    obtain ⟨v, hv⟩ := unit_inv (M := M) (by omega) hx h
    refine ⟨v, fun j hj => ?_⟩
    rw [fn_unit hj]
    split
    · exact hv.symm.trans (.eq (Int.mul_comm _ _))
    · exact .refl _ _
def pivotOf (r : Row) : Int := (r.filter (fun x => decide (x ≠ 0))).headD 0
def sizeF (M : Int) (F : List Row) : Int := F.foldl (fun z r => z * (M / pivotOf r)) 1
theorem pivot_at : ∀ {q : Nat} {r : Row} {x : Int}, (∀ j, j < q → r[j]? = some 0) → r[q]? = some x → x ≠ 0 → pivotOf r = x ∧ ∃ l, r.filter (fun x => decide (x ≠ 0)) = x :: l
  | 0, [], x, _, h, _ => by cases h
  | 0, a :: r, x, _, h, hx => by
    cases h
    have : (a :: r).filter (fun x => decide (x ≠ 0)) = a :: r.filter (fun x => decide (x ≠ 0)) := List.filter_cons_of_pos (by simpa using hx)
    unfold pivotOf
    rw [this]
    exact ⟨rfl, _, rfl⟩
  | q + 1, [], x, _, h, _ => by cases h
  | q + 1, a :: r, x, hz, h, hx => by
    have ha : a = 0 := by
      have := hz 0 (by omega)
      cases this
      rfl
    subst ha
    obtain ⟨h1, l, h2⟩ := pivot_at (q := q) (r := r) (fun j hj => hz (j + 1) (by omega)) h hx
    have : ((0 : Int) :: r).filter (fun x => decide (x ≠ 0)) = r.filter (fun x => decide (x ≠ 0)) := List.filter_cons_of_neg (by simp)
    unfold pivotOf at h1 ⊢
    rw [this]
    exact ⟨h1, l, h2⟩
theorem settle_single {M : Int} {n p : Nat} {S : List (Option Row)} {o : Option Row} (hl : S.length = n) (hp : S[p]? = some o) (hn : ∀ q, q ≠ p → q < n → S[q]? = some none) : ∀ i, i ≤ n → settle M n S i = if n - i ≤ p then (match o with | none => [] | some s => [(p, s)]) else []
  | 0, _ => by
    have : p < n := by
      rw [← hl]
      exact (List.getElem?_eq_some_iff.mp hp).1
    rw [if_neg (by omega)]
    rfl
  | i + 1, hi => by
    have ih := settle_single (M := M) hl hp hn i (by omega)
    have hpn : p < n := by
      rw [← hl]
      exact (List.getElem?_eq_some_iff.mp hp).1
    unfold settle
    by_cases e : n - 1 - i = p
    · rw [List.getD_eq_getElem?_getD, e, hp, Option.getD_some]
      cases o with
      | none =>
        simp only [ih]
        split <;> split <;> rfl
      | some s =>
        simp only [ih]
        rw [if_neg (by omega), if_pos (by omega)]
        rfl
    · rw [List.getD_eq_getElem?_getD, hn _ e (by omega), Option.getD_some]
      simp only [ih]
      by_cases z : n - i ≤ p
      · rw [if_pos z, if_pos (by omega)]
      · rw [if_neg z, if_neg (by omega)]
theorem alone_size {M : Int} (hM : 2 ≤ M) {w p : Nat} (hp : p < w) {x : Int} (hx : 0 ≤ x ∧ x < M) {S : List (Option Row)} (c : PutsL M w 0 (aloneA w p x) 2 S) : sizeF M ((settle M w S w).map (·.2)) = M / (Int.gcd x M : Int) := by
  have wf := c.wf hM aloneA_w
  have sp := c.iff hM aloneA_w
  have oth : ∀ (q : Nat) (s : Row), S[q]? = some (some s) → ∀ j, j < w → j ≠ p → fn s j = 0 := fun q s h j hj hjp => by
    obtain ⟨sl, sr, _⟩ := wf.row q s h
    have g : InS M w (RW (aloneA w p x)) (fn s) := (sp _).mp (.of ⟨q, s, Nat.zero_le _, h, rfl⟩)
    obtain ⟨cc, e⟩ := aloneA_in.mp g
    have := e j hj
    rw [if_neg hjp] at this
    exact this.red (fn_red sr (by omega)) ⟨Int.le_refl _, by omega⟩
  have hn : ∀ q, q ≠ p → q < w → S[q]? = some none := fun q hq hqw => by
    have hlt : q < S.length := by rw [wf.len]; exact hqw
    cases z : S[q] with
    | none => rw [List.getElem?_eq_getElem hlt, z]
    | some s =>
      have e : S[q]? = some (some s) := by rw [List.getElem?_eq_getElem hlt, z]
      obtain ⟨sl, sr, ⟨y, hy, y1, _⟩, _⟩ := wf.row q s e
      have := oth q s e q hqw hq
      rw [fn_at hy] at this
      omega
  have hlt : p < S.length := by rw [wf.len]; exact hp
  have hS := settle_single (M := M) wf.len (List.getElem?_eq_getElem hlt) hn w (Nat.le_refl _)
  rw [hS, if_pos (by omega)]
  have gx : InS M w (GS S 0) (fn (scaled w p x)) := (sp _).mpr (.of ⟨_, List.mem_cons_self, rfl⟩)
  cases z : S[p] with
  | none =>
    have low : ∀ q, q ≤ w → InS M w (GS S q) (fn (scaled w p x)) := by
      intro q
      induction q with
      | zero => exact fun _ => gx
      | succ q ih =>
        intro hq
        rcases (ih (by omega)).split with ⟨s, _, _, g1, _⟩ | g
        · by_cases e : q = p
          · subst e
            rw [List.getElem?_eq_getElem hlt, z] at g1
            cases g1
          · rw [hn q e (by omega)] at g1
            cases g1
        · exact g
    have := (low (p + 1) (by omega)).vanish wf hp
    rw [scaled_fn hp, if_pos rfl] at this
    have x0 : x = 0 := this.red hx ⟨Int.le_refl _, by omega⟩
    subst x0
    show (1 : Int) = _
    rw [Int.gcd_zero_left, Int.natAbs_of_nonneg (by omega), Int.ediv_self (by omega)]
  | some s =>
    have e : S[p]? = some (some s) := by rw [List.getElem?_eq_getElem hlt, z]
    obtain ⟨sl, sr, ⟨y, hy, y1, yM⟩, sz⟩ := wf.row p s e
    have py := (pivot_at sz hy (by omega)).1
    show 1 * (M / pivotOf s) = _
    rw [py, Int.one_mul]
    congr 1
    have d1 : (Int.gcd x M : Int) ∣ y := by
      obtain ⟨cc, h⟩ := aloneA_in.mp ((sp _).mp (.of ⟨p, s, Nat.zero_le _, e, rfl⟩))
      obtain ⟨k, h⟩ := h p hp
      rw [fn_at hy, if_pos rfl] at h
      rw [h]
      exact Int.dvd_add (Int.dvd_trans (Int.gcd_dvd_left ..) (Int.dvd_mul_left ..)) (Int.dvd_trans (Int.gcd_dvd_right ..) (Int.dvd_mul_right ..))
    have low : ∀ q, q ≤ p → InS M w (GS S q) (fn (scaled w p x)) := by
      intro q
      induction q with
      | zero => exact fun _ => gx
      | succ q ih =>
        intro hq
        rcases (ih (by omega)).split with ⟨s, _, _, g1, _⟩ | g
        · rw [hn q (by omega) (by omega)] at g1
          cases g1
        · exact g
    have d2 : y ∣ x := by
      rcases (low p (Nat.le_refl _)).split with ⟨t, cc, u, g1, g2, g3⟩ | g
      · rw [e] at g1
        cases g1
        have h := (g3 p hp).trans ((g2.vanish wf hp).add (.refl _ _))
        rw [scaled_fn hp, if_pos rfl, fn_at hy] at h
        obtain ⟨k, h⟩ := h
        rw [h]
        exact Int.dvd_add (Int.dvd_add (Int.dvd_zero _) (Int.dvd_mul_left ..)) (Int.dvd_trans yM (Int.dvd_mul_right ..))
      · have := g.vanish wf hp
        rw [scaled_fn hp, if_pos rfl] at this
        rw [this.red hx ⟨Int.le_refl _, by omega⟩]
        exact Int.dvd_zero _
    have d3 : y ∣ (Int.gcd x M : Int) := Int.dvd_coe_gcd d2 yM
    have g0 : 0 ≤ (Int.gcd x M : Int) := by omega
    exact Int.dvd_antisymm (by omega) g0 d3 d1
end Wk

namespace Wk
open PySem L2 NumI
abbrev s_marked : Stmt := top 32
theorem sc_marked : FnScope ["modulus", "rows", "index", "number"] ["modulus", "rows", "index"] (defScope s_marked) := ⟨rfl, rfl, rfl, by decide +kernel, rfl, by decide +kernel, by decide +kernel⟩

def RowsIn (t : Bool) (K : PySem.W.Frag) (H : Hp) (a : Addr) (A : Mat) : Prop := ∃ vs, ZM.SqK t K H a vs ∧ RowsAre K H vs A
theorem RowsIn.same {t : Bool} {K : PySem.W.Frag} {H H' : Hp} {a : Addr} {A : Mat} (h : RowsIn t K H a A) (e : Same H H') : RowsIn t K H' a A := by
  obtain ⟨vs, h1, h2⟩ := h
  exact ⟨vs, SqK.same h1 e, h2.same e⟩
def spMarked (K : PySem.W.Frag) : Sp := fun vs H Q _ => ∃ (t : Bool) (M : Int) (a : Addr) (A : Mat) (k : Nat) (r : Row), vs = [.int M, .ref a, .int (k : Int)] ∧ 2 ≤ M ∧ RowsIn t K H a A ∧ A[k]? = some r ∧ A.length ≤ 400 ∧ r.length ≤ 400 ∧ NewLst H (markOf M A.length r k) Q
def spMade (K : PySem.W.Frag) (C : Addr) : Sp := fun vs H Q _ => ∃ (p l b : Addr) (M : Int) (w m : Nat) (S : List (Option Row)) (r : Row), vs = [.ref p, .ref b, .int (m : Int)] ∧ StAt C H p l M S ∧ 2 ≤ M ∧ M < 2 ^ 64 ∧ w ≤ 400 ∧ m ≤ 400 ∧ WF M (w + m) w S ∧ r.length = w ∧ RowAt K H b r ∧
  (∀ (r' : Row) (q : Addr) (H' : Hp), RestTo M S (r.map (· % M) ++ List.replicate m 0) w r' → Same H H' → H' q = some (.tup ((madeOf M w r').map V.int)) → Q (.ref q) H') ∧ ∀ H', RestBad M S (r.map (· % M) ++ List.replicate m 0) → Same H H' → Q .non H'
def spCombination (K : PySem.W.Frag) : Sp := fun vs H Q _ => ∃ (t : Bool) (M : Int) (a b : Addr) (A : Mat) (w : Nat) (r : Row), vs = [.int M, .ref a, .ref b] ∧ 2 ≤ M ∧ M < 2 ^ 64 ∧ RowsIn t K H a A ∧ RowAt K H b r ∧ A.length ≤ 400 ∧ w ≤ 400 ∧ r.length = w ∧ (∀ x ∈ A, x.length = w) ∧
  (∀ (c : Row) (q : Addr) (H' : Hp), c.length = A.length → RRed M c → (∀ j, j < w → Eqm M (fn r j) (sumN A.length fun k => fn c k * ent A k j)) → Same H H' → H' q = some (.tup (c.map V.int)) → Q (.ref q) H') ∧ ∀ H', ¬ InS M w (RW A) (fn r) → Same H H' → Q .non H'
def spHowell (K : PySem.W.Frag) : Sp := fun vs H Q _ => ∃ (t : Bool) (M : Int) (a : Addr) (A : Mat) (w : Nat), vs = [.int M, .ref a, .int (w : Int)] ∧ 2 ≤ M ∧ M < 2 ^ 64 ∧ RowsIn t K H a A ∧ A.length ≤ 100000 ∧ w ≤ 400 ∧ (∀ x ∈ A, x.length = w) ∧
  ∀ S, PutsL M w 0 A A.length S → NewMat K H ((settle M w S w).map (·.2)) Q
def spFormSize (K : PySem.W.Frag) : Sp := fun vs H Q _ => ∃ (M : Int) (a : Addr) (A : Mat), vs = [.int M, .ref a] ∧ 2 ≤ M ∧ M < 2 ^ 64 ∧ MatAt K H a A ∧ A.length ≤ 60 ∧ (∀ r ∈ A, r.length ≤ 400 ∧ RRed M r ∧ ∃ x ∈ r, x ≠ 0) ∧ ∀ H', Same H H' → Q (.int (sizeF M A)) H'
def spSpanSize (K : PySem.W.Frag) : Sp := fun vs H Q _ => ∃ (t : Bool) (M : Int) (a : Addr) (A : Mat) (w : Nat), vs = [.int M, .ref a, .int (w : Int)] ∧ 2 ≤ M ∧ M < 2 ^ 64 ∧ RowsIn t K H a A ∧ A.length ≤ 100000 ∧ w ≤ 60 ∧ (∀ x ∈ A, x.length = w) ∧
  ∀ S H', PutsL M w 0 A A.length S → Same H H' → Q (.int (sizeF M ((settle M w S w).map (·.2)))) H'
section
variable {P : Program} {w : World} {K : PySem.W.Frag} {mg : Str → Option Value} {base : Heap} {C fI fP fA fS : Addr}
theorem ok_marked {f fU : Addr} {fd fdU : FuncData} (F : Fun K "marked" "marked" s_marked f fd) (T : TxtS K mg C fI fP fA fS)
    (G_unit : FnOk P w K mg base CX0 1 fU fdU ["size", "place"] spUnit) (g_unit : mg "unit" = some (.ref fU)) (kp_unit : PySem.W.keepIn K (.ref fU) = true) (b_unit : Binds K fdU ["size", "place"] []) :
    FnOk P w K mg base CX0 2 f fd ["modulus", "rows", "index"] (spMarked K) := by
  refine F.ok sc_marked (fun vs H Q E h => ?_) (fun cdv A outer s H vs Q E hr h => ?_)
  · obtain ⟨t, M, a, A, k, r, rfl, _⟩ := h
    rfl
  · obtain ⟨t, M, a, Am, k, r, rfl, hM, ⟨vs, hA, hR⟩, hk, lA, lr, kk⟩ := h
    refine ⟨_, (pss_one (ps_ret (pe_op op_cat (pe_lc (own := [("number", 3)]) (g := gName 3) rfl sc_marked.nd (pi_tup (pe_ix (ix_sqK (K := K) rfl t) (pv 1) (pv 2) (fun _ _ => rfl))) (blkOk_by (N := ["modulus", "rows", "index", "number"]) (sc := defScope s_marked) (by decide +kernel)) (fun _ _ _ _ _ => (pg_name (i := 3) sc_marked.nd rfl (Or.inl rfl))) (fun _ _ _ _ _ => pts_nil) (fun _ _ _ _ _ => (pe_op op_modN (pv 3) (pv 0)))) (pe_callTy (call_listK (K := K) rfl) rfl T.f_list (by decide +kernel) (pa_cons (pe_call G_unit (hr.mono (by decide)) rfl g_unit kp_unit b_unit .nil pass0 (pa_cons (pe_callB (call_lenSqK (K := K) rfl t) rfl T.f_len PySem.boot_len (pa_cons (pv 1) pa_nil)) (pa_cons (pv 2) pa_nil))) pa_nil))))), ?_⟩
    have hkl : k < Am.length := (List.getElem?_eq_some_iff.mp hk).1
    have hvl := hR.length
    obtain ⟨q, r2, e1, e2, hq⟩ := hR.at_ (i := k) (List.getElem?_eq_getElem (by omega))
    rw [hk] at e2
    cases e2
    have hv : vs[k]? = some (.ref q) := by rw [List.getElem?_eq_getElem (by omega), e1]
    refine ⟨_, rfl, _, rfl, a, vs, (k : Int), _, rfl, rfl, hA, atI_nat hv, q, rfl, ⟨_, hq⟩, fun D hD => lc_rel (walk_tup (xs := r.map V.int)) hD (by simp; omega) (fun i v _ => ∃ z, r[i]? = some z ∧ v = .int (z % M)) (fun i v H H' h _ => h) (fun H1 e => SqT.same hq e) ?_ ?_⟩
    · intro i v H4 H4' Fn Nn fin hi sm hacc hy
      obtain ⟨rfl, hx⟩ := hy
      obtain ⟨z, gz, rfl⟩ := at_ints hx
      refine ⟨rfl, yesT ⟨_, rfl, _, rfl, _, _, rfl, rfl, by omega, ?_⟩⟩
      dsimp only
      rw [Int.fmod_eq_emod_of_nonneg _ (by omega)]
      exact fin _ _ (fun _ _ e => e) ⟨z, gz, rfl⟩
    · intro acc H4 a1 a2 s4 hR4
      have ea : acc = (r.map (· % M)).map V.int := by
        rw [acc_map (f := fun z => V.int (z % M)) (by simpa using a1) hR4, List.map_map]
        rfl
      refine ⟨_, rfl, a, vs, rfl, SqK.same hA s4, _, rfl, Am.length, k, by rw [hvl]; rfl, hkl, by omega, fun p2 H5 s5 h5 => ⟨p2, _, rfl, .inr (SqT.of h5), fun l2 nl2 => ⟨D, l2, acc, _, rfl, rfl, ?_, upd_same, ?_, fun p3 np3 => ?_⟩⟩⟩
      · rw [upd_ne (ne_of_none (s5 _ _ a2) nl2)]
        exact s5 _ _ a2
      · rw [a1]
        simp [unitRow]
        exact Nat.le_trans (by omega) (show 800 ≤ sizeLine by decide)
      · have s6 : Same H (upd (upd H5 l2 (.lst ((unitRow Am.length k).map V.int))) p3 (.lst (acc ++ (unitRow Am.length k).map V.int))) := same_trans s4 (same_trans s5 (same_trans (same_upd nl2) (same_upd np3)))
        refine kk p3 _ s6 (none_back (same_trans s4 (same_trans s5 (same_upd nl2))) np3) ?_
        rw [upd_same, ea]
        simp [markOf]
end
end Wk

namespace Wk
open PySem L2
def spPen (K : PySem.W.Frag) : Sp := fun vs H Q _ => ∃ (a : Addr) (ns : List Int), vs = [.ref a] ∧ SqL K H a (ns.map V.int) ∧ ∀ p c ns' H', Same H H' → PenAt H' p c ns' 0 0 → Q (.ref p) H'
theorem sqL_same {K : PySem.W.Frag} {H H' : Hp} {a : Addr} {xs : List V} (h : SqL K H a xs) (e : Same H H') : SqL K H' a xs := by
  rcases h with h | h
  · rcases h with h | ⟨o, h⟩
    · exact .inl (.inl (e _ _ h))
    · exact .inl (.inr ⟨o, e _ _ h⟩)
  · exact .inr h
structure Dn (P : Program) (w : World) (K : PySem.W.Frag) (mg : Str → Option Value) (base : Heap) (CX : CXT) (k : Nat) (x : Str) (ps : List Str) (sp : Sp) : Prop where
  ex : ∃ (f : Addr) (fd : FuncData), FnOk P w K mg base CX k f fd ps sp ∧ mg x = some (.ref f) ∧ PySem.W.keepIn K (.ref f) = true ∧ Binds K fd ps []
theorem same_rows {K : PySem.W.Frag} {H : Hp} {a b : Addr} {r s : List Int} (ha : RowAt K H a r) (hb : RowAt K H b s) (e : r = s) {Q : VK} (q : Q (.bl false) H) : rNeD K (.ref a) (.ref b) H Q := by
  subst e
  refine ⟨_, _, ha.dp, hb.dp, dI_shaped _, dI_shaped _, ?_⟩
  rw [dI_eqv, decide_eq_true rfl]
  exact q
theorem same_mats {K : PySem.W.Frag} {H : Hp} {a b : Addr} {A B : Mat} (ha : MatAt K H a A) (hb : MatAt K H b B) (e : A = B) {Q : VK} (q : Q (.bl false) H) : rNeD K (.ref a) (.ref b) H Q := by
  subst e
  refine ⟨_, _, ha.dp, hb.dp, dM_shaped _, dM_shaped _, ?_⟩
  rw [dM_eqv, decide_eq_true rfl]
  exact q
theorem ints_of {acc : List V} {n : Nat} {R : Nat → Int → Prop} (hl : acc.length = n) (h : ∀ (j : Nat) (v : V), acc[j]? = some v → ∃ x : Int, v = .int x ∧ R j x) : ∃ r : List Int, acc = r.map V.int ∧ r.length = n ∧ ∀ (j : Nat) (x : Int), r[j]? = some x → R j x := by
  refine ⟨acc.map fun v => match v with | .int x => x | _ => 0, ?_, by simpa using hl, ?_⟩
  · apply List.ext_getElem?
    intro j
    rw [List.getElem?_map, List.getElem?_map]
    cases e : acc[j]? with
    | none => rfl
    | some v =>
      obtain ⟨x, rfl, _⟩ := h j v e
      rfl
  · intro j x e
    rw [List.getElem?_map] at e
    cases e2 : acc[j]? with
    | none => rw [e2] at e; cases e
    | some v =>
      obtain ⟨y, rfl, hy⟩ := h j v e2
      rw [e2] at e
      cases e
      exact hy
theorem draw_read {H : Hp} {p c : Addr} {ns : List Int} {n : Nat} {m : Int} {Q : VK} (P : Pen H p c ns n) (hn : n < 90000) (hm : 1 ≤ m) (hm2 : m < 2 ^ 64) (k : ∀ (d : Int) (H' : Hp), 0 ≤ d → d < m → Pen H' p c ns (n + 1) → But p H H' → Q (.int d) H') : spDraw [.ref p, .int m] H Q E0 := by
  obtain ⟨i, l, a, b⟩ := P
  refine ⟨p, c, ns, i, l, m, rfl, a, by omega, hm, w64 hm hm2, fun d i' l' d0 d1 z0 z1 z2 => ?_⟩
  obtain ⟨P2, b2⟩ := drwP a b hn z0 z1 z2
  exact k d _ d0 d1 P2 b2
theorem pick_read {K : PySem.W.Frag} {H : Hp} {p c a : Addr} {ns : List Int} {n : Nat} {items : List V} {Q : VK} (P : Pen H p c ns n) (hn : n < 90000) (ha : H a = some (.lst items)) (h0 : items ≠ []) (hl : items.length ≤ 100000) (k : ∀ (v : V) (H' : Hp), v ∈ items → Pen H' p c ns (n + 1) → But p H H' → Q v H') : spPick K [.ref p, .ref a] H Q E0 := by
  obtain ⟨i, l, e, b⟩ := P
  refine ⟨p, c, a, ns, i, l, items, rfl, e, by omega, ha, h0, hl, fun v i' l' hv z0 z1 z2 => ?_⟩
  obtain ⟨P2, b2⟩ := drwP e b hn z0 z1 z2
  exact k v _ hv P2 b2
theorem if_const {t : TT} {a b : V} {σ : L2.St} {H : Hp} {Q : VK} (hw : ∀ K : Bool → Hp → Prop, (∀ k, K k H) → t σ H K) (hq : ∀ v, v = a ∨ v = b → Q v H) : tIf t (tC a) (tC b) σ H Q :=
  hw _ fun k => by cases k <;> first | exact iteF (hq _ (.inr rfl)) | exact iteT (hq _ (.inl rfl))
theorem nx_cut {s1 s2 : TS} {D : Ends} {r b c} {σ : L2.St} {H : Hp} (Post : L2.St → Hp → Prop) (h1 : ∀ D' : Ends, (∀ σ H, Post σ H → D'.nx σ H) → s1 D' σ H) (h2 : ∀ σ H, Post σ H → s2 D σ H) : (Ends.mk (tSeq s1 s2 D) r b c).nx σ H := h1 _ h2
theorem unit_if (j q : Nat) : (if decide (V.int (0 + (j : Int)) = V.int (q : Int)) = true then (1 : Int) else 0) = if j = q then 1 else 0 := by
  by_cases e : j = q
  · subst e
    rw [if_pos rfl, if_pos (decide_eq_true (by rw [Int.zero_add]))]
  · rw [if_neg e, if_neg]
    intro z
    have z := of_decide_eq_true z
    injection z with z
    omega
theorem range_acc {acc : List V} {n : Nat} {f : Nat → V} (h : acc.length = n) (hR : ∀ j v, acc[j]? = some v → v = f j) : acc = (List.range n).map f :=
  acc_map (as := List.range n) (f := f) (by simpa using h) fun j v e => ⟨j, List.getElem?_range (by rw [← h]; exact (List.getElem?_eq_some_iff.mp e).1), hR j v e⟩
theorem gn_cut {n : Nat} {v : V} {s1 s2 : TS} {D : Ends} {r b c} {σ : L2.St} {H : Hp} (Post : L2.St → Hp → Prop) (h1 : ∀ D' : Ends, (∀ σ H, Post σ H → D'.nx σ H) → s1 D' (σ.set n (some v)) H) (h2 : ∀ σ H, Post σ H → s2 D σ H) : gName n v σ H (Ends.mk (tSeq s1 s2 D) r b c).nx := h1 _ h2
theorem lp_cut {n : Nat} {v : V} {s1 s2 : TS} {D : Ends} {σ : L2.St} {H : Hp} (Post : L2.St → Hp → Prop) (h1 : ∀ D' : Ends, (∀ σ H, Post σ H → D'.nx σ H) → s1 D' (σ.set n (some v)) H) (h2 : ∀ σ H, Post σ H → s2 D σ H) : gName n v σ H (fun σ2 H2 => tSeq s1 s2 D σ2 H2) := h1 _ h2
theorem seq_cut {s1 s2 : TS} {D : Ends} {σ : L2.St} {H : Hp} (Post : L2.St → Hp → Prop) (h1 : ∀ D' : Ends, (∀ σ H, Post σ H → D'.nx σ H) → s1 D' σ H) (h2 : ∀ σ H, Post σ H → s2 D σ H) : tSeq s1 s2 D σ H := h1 _ h2
theorem SqK.pen {t : Bool} {K : PySem.W.Frag} {p c : Addr} {ns : List Int} {n : Nat} {H H' : Hp} {b : Addr} {xs : List V} (h : ZM.SqK t K H b xs) (e : But p H H') (hp : Pen H p c ns n) : ZM.SqK t K H' b xs := by
  cases t
  · obtain ⟨c, i, l, hp⟩ := hp.dk
    rcases h with (h | ⟨o, h⟩) | h
    · exact .inl (.inl (e _ _ (ne_of h hp (by intro z; cases z)) h))
    · exact .inl (.inr ⟨o, e _ _ (ne_of h hp (by intro z; cases z)) h⟩)
    · exact .inr h
  · exact SqT.pen h e hp
theorem RowsAre.pen {K : PySem.W.Frag} {p c : Addr} {ns : List Int} {n : Nat} {H H' : Hp} (e : But p H H') (hp : Pen H p c ns n) : ∀ {vs : List V} {A : Mat}, RowsAre K H vs A → RowsAre K H' vs A
  | _, _, .nil => .nil
  | _, _, .cons h r => .cons (SqT.pen h e hp) (r.pen e hp)
theorem RowsIn.pen {t : Bool} {K : PySem.W.Frag} {p c : Addr} {ns : List Int} {n : Nat} {H H' : Hp} {a : Addr} {A : Mat} (h : RowsIn t K H a A) (e : But p H H') (hp : Pen H p c ns n) : RowsIn t K H' a A := by
  obtain ⟨vs, h1, h2⟩ := h
  exact ⟨vs, SqK.pen h1 e hp, h2.pen e hp⟩
theorem RowsIn.of_mat {K : PySem.W.Frag} {H : Hp} {a : Addr} {A : Mat} (h : MatAt K H a A) : RowsIn true K H a A := h
section
variable {P : Program} {w : World} {K : PySem.W.Frag} {mg : Str → Option Value} {base : Heap}
theorem ok_pen {f : Addr} {fd : FuncData} (F : Fun K "_law_pen_of" "_law_pen_of" s_law_pen_of f fd) (flist : mg "list" = none) : FnOk P w K mg base CX0 1 f fd ["_law_script"] (spPen K) := by
  refine F.ok sc_law_pen_of (fun vs H Q E h => ?_) (fun cdv A outer s H vs Q E hr h => ?_)
  · obtain ⟨a, ns, rfl, _⟩ := h
    rfl
  · obtain ⟨a, ns, rfl, hS, k⟩ := h
    refine ⟨_, PSs.nox ((pss_one (ps_ret (pe_disp (pps_cons pe_str (pe_callTy (call_listK (K := K) rfl) rfl flist (by decide +kernel) (pa_cons (pe_slice sl_list (pv 0) po_none (po_some pe_int)) pa_nil)) (pps_cons pe_str pe_int (pps_cons pe_str pe_int pps_nil))) (by rfl) (by rfl) (fun z => by cases z) (by decide))))), ?_⟩
    refine fun p hp => ?_
    have hS := sqL_same hS (same_upd (o := .dK []) hp)
    refine ⟨_, rfl, _, rfl, _, _, rfl, hS, fun q hq => ⟨_, _, rfl, .inl (SqL.of upd_same), fun c hc => ?_⟩⟩
    have hqp : q ≠ p := fun z => by rw [z, upd_same] at hq; cases hq
    have hcq : c ≠ q := fun z => by rw [z, upd_same] at hc; cases hc
    have hcp : c ≠ p := fun z => by rw [z, upd_ne (Ne.symm hqp), upd_same] at hc; cases hc
    obtain ⟨l, ecut⟩ : ∃ l : List Int, cutV (ns.map V.int) none (some 63) = l.map V.int :=
      ⟨(ns.drop (HT.sIx (ns.map V.int).length 0 none)).take (HT.sIx (ns.map V.int).length (ns.map V.int).length (some 63) - HT.sIx (ns.map V.int).length 0 none), by unfold cutV; rw [List.map_take, List.map_drop]⟩
    rw [ecut]
    refine ⟨by rw [upd_ne (Ne.symm hcp), upd_ne (Ne.symm hqp)]; exact upd_same, penL c 0 0, rfl, (by show 3 ≤ 15; decide), ?_⟩
    refine k p c l _ ?_ ⟨?_, ?_, by decide, by decide, by decide⟩
    · intro b o e
      have hb := ne_of_none e hp
      rw [upd_ne hb, upd_ne (ne_of_none (by rw [upd_ne (ne_of_none (by rw [upd_ne hb]; exact e) hq), upd_ne hb]; exact e) hc), upd_ne (ne_of_none (by rw [upd_ne hb]; exact e) hq), upd_ne hb]
      exact e
    · rw [upd_same]
      rfl
    · rw [upd_ne hcp]
      exact upd_same
end
end Wk

namespace Wk
open PySem L2
/-- a new tuple of new tuples of ints -/
def TupM (H : Hp) (q : Addr) (A : Mat) : Prop := ∃ us : List V, H q = some (.tup us) ∧ us.length = A.length ∧ ∀ (k : Nat) (r : List Int), A[k]? = some r → ∃ b, us[k]? = some (.ref b) ∧ H b = some (.tup (r.map V.int))
def spMat (K : PySem.W.Frag) : Sp := fun vs H Q _ => ∃ (p c : Addr) (ns : List Int) (m h w : Nat) (M : Int), vs = [.ref p, .int M, .int (h : Int), .int (w : Int)] ∧ Pen H p c ns m ∧ m < 80000 ∧ 1 ≤ M ∧ M < 2 ^ 64 ∧ h ≤ 10 ∧ w ≤ 50 ∧
  ∀ q H' A, But p H H' → Pen H' p c ns (m + 1000) → MatAt K H' q A → Shp h w A → MRed M A → TupM H' q A → Q (.ref q) H'
def MEq (M : Int) (A A' : Mat) : Prop := A'.length = A.length ∧ ∀ (i : Nat) (r : List Int), A[i]? = some r → ∃ r' : List Int, A'[i]? = some r' ∧ r'.length = r.length ∧ ∀ (j : Nat) (x : Int), r[j]? = some x → ∃ y, r'[j]? = some y ∧ Eqm M y x
def spMoved (K : PySem.W.Frag) : Sp := fun vs H Q _ => ∃ (p c : Addr) (ns : List Int) (m : Nat) (M : Int) (a : Addr) (A : Mat), vs = [.ref p, .int M, .ref a] ∧ Pen H p c ns m ∧ m < 80000 ∧ 1 ≤ M ∧ M < 2 ^ 64 ∧ MatAt K H a A ∧ A.length ≤ 10 ∧ (∀ r ∈ A, r.length ≤ 10) ∧ MRed M A ∧
  ∀ q H' A', But p H H' → Pen H' p c ns (m + 100) → MatAt K H' q A' → MEq M A A' → MWd A' → Q (.ref q) H'
theorem But.of_same {p : Addr} {H H' : Hp} (h : Same H H') : But p H H' := fun b o _ e => h b o e
theorem But.new {p D : Addr} {H H' : Hp} {o : HO} (h : But p H H') (hD : H' D = none) : But p H (upd H' D o) := h.same (same_upd hD)
section
variable {P : Program} {w : World} {K : PySem.W.Frag} {mg : Str → Option Value} {base : Heap}
theorem ok_matrix_of {f fD : Addr} {fd fdD : FuncData} (F : Fun K "_law_matrix_of" "_law_matrix_of" s_law_matrix_of f fd) (T : TxtL mg)
    (G__law_draw : FnOk P w K mg base CX0 1 fD fdD ["_law_pen", "_law_many"] spDraw) (g__law_draw : mg "_law_draw" = some (.ref fD)) (kp__law_draw : PySem.W.keepIn K (.ref fD) = true) (b__law_draw : Binds K fdD ["_law_pen", "_law_many"] []) :
    FnOk P w K mg base CX0 2 f fd ["_law_pen", "_law_modulus", "_law_height", "_law_width"] (spMat K) := by
  refine F.ok sc_law_matrix_of (fun vs H Q E h => ?_) (fun cdv A outer s H vs Q E hr h => ?_)
  · obtain ⟨p, c, ns, m, h, w, M, rfl, _⟩ := h
    rfl
  · obtain ⟨p, c, ns, m, h, w, M, rfl, hP, hm, hM, hM2, hh, hw, k⟩ := h
    refine ⟨_, (pss_cons (ps_set (i := 4) sc_law_matrix_of.nd rfl (Or.inl rfl) (pe_lst pa_nil))
        (pss_cons (ps_for PassesOwn.never rfl (pi_range1 rfl T.f_range (pa_cons (pv 2) pa_nil)) (pg_name (i := 5) sc_law_matrix_of.nd rfl (Or.inl rfl)) (pss_one (ps_expr (pe_bm PySem.F.plainAttrs_list PySem.F.slot_list_append PySem.F.type_list_append mt_append (pv 4) (pa_cons (pe_callTy (call_tupleK (K := K) rfl) rfl T.f_tuple (by decide +kernel) (pa_cons (pe_lc (own := [("_law_at", 6)]) (g := gName 6) rfl sc_law_matrix_of.nd (pi_range1 rfl T.f_range (pa_cons (pv 3) pa_nil)) (blkOk_by (N := ["_law_pen", "_law_modulus", "_law_height", "_law_width", "_law_found", "_law_k", "_law_at"]) (sc := defScope s_law_matrix_of) (by decide +kernel)) (fun _ _ _ _ _ => (pg_name (i := 6) sc_law_matrix_of.nd rfl (Or.inl rfl))) (fun _ _ _ _ _ => pts_nil) (fun _ _ _ _ _ => (pe_op op_mulW (pe_call G__law_draw (hr.mono (by decide)) rfl g__law_draw kp__law_draw b__law_draw .nil pass0 (pa_cons (pv 0) (pa_cons (pv 1) pa_nil))) (pe_callTy call_int1 rfl T.f_int (by decide +kernel) (pa_cons (pe_cmpR op_gt (pe_call G__law_draw (hr.mono (by decide)) rfl g__law_draw kp__law_draw b__law_draw .nil pass0 (pa_cons (pv 0) (pa_cons pe_int pa_nil))) pe_int (nomark _)) pa_nil))))) pa_nil)) pa_nil)))))
        (pss_one (ps_ret (pe_callTy (call_tupleK (K := K) rfl) rfl T.f_tuple (by decide +kernel) (pa_cons (pv 4) pa_nil)))))), ?_⟩
    refine ⟨Nat.zero_le _, fun F0 nF => ⟨_, rfl, (h : Int), rfl, by omega, by omega, ?_⟩⟩
    have sF : Same H (upd H F0 (.lst [])) := same_upd nF
    have gF : (upd H F0 (.lst [])) F0 = some (.lst []) := upd_same
    generalize upd H F0 (.lst []) = H1 at sF gF ⊢
    have hFp : F0 ≠ p := fun z => by
      obtain ⟨o, ho⟩ := hP.some
      rw [z, ho] at nF
      cases nF
    refine for_it (walk_range (lo := 0) (n := h)) (fun i σ H' => ∃ (x5 : Option V) (us : List V) (A : Mat), σ = [some (.ref p), some (.int M), some (.int (h : Int)), some (.int (w : Int)), some (.ref F0), x5, none] ∧ But p H H' ∧ Pen H' p c ns (m + 100 * i) ∧ H' F0 = some (.lst us) ∧ ObsAre .tup F0 H' us A ∧ Shp i w A ∧ MRed M A ∧ ∀ q, (∃ r ∈ us, r = V.ref q) → q ≠ p) ⟨none, [], [], rfl, .of_same sF, (hP.same sF).le (by omega), gF, .nil, ⟨rfl, fun r hr => nomatch hr⟩, (fun r hr => nomatch hr), fun q ⟨r, hr, _⟩ => nomatch hr⟩ (fun _ _ _ _ _ => trivial) ?_ ?_
    · rintro i v σ H2 H2' hi ⟨x5, us, A, rfl, b2, P2, g2, hU, sA, rA, hne⟩ ⟨rfl, rfl⟩
      refine ⟨_, rfl, .inl ⟨rfl, _, SqL.of g2⟩, _, rfl, (w : Int), rfl, by omega, by omega, fun D hD => lc_pen (walk_range (lo := 0) (n := w)) 2 P2 hD (by omega) (fun j v _ => ∃ x : Int, v = .int x ∧ 0 ≤ x ∧ x < M) (fun j v H H' h _ => h) (fun _ _ => trivial) ?_ ?_⟩
      · rintro j v H3 H3' Fn Nn fin hj b3 P3 hacc ⟨rfl, rfl⟩
        refine ⟨rfl, yesT ⟨_, rfl, _, rfl, ?_⟩⟩
        obtain ⟨i3, l3, a3, n3⟩ := P3
        refine ⟨p, c, ns, i3, l3, M, rfl, a3, by omega, hM, w64 hM hM2, fun d i4 l4 d0 d1 z0 z1 z2 => ?_⟩
        obtain ⟨P4, b4⟩ := drwP a3 n3 (by omega) z0 z1 z2
        generalize penTo H3' p c i4 l4 = H4 at P4 b4 ⊢
        obtain ⟨i5, l5, a5, n5⟩ := P4
        refine ⟨_, rfl, p, c, ns, i5, l5, 4, rfl, a5, by omega, by decide, w64 (by decide) (by decide), fun e i6 l6 e0 e1 y0 y1 y2 => ?_⟩
        obtain ⟨P5, b5⟩ := drwP a5 n5 (by omega) y0 y1 y2
        generalize penTo H4 p c i6 l6 = H5 at P5 b5 ⊢
        refine ⟨_, _, rfl, rfl, .inr ⟨_, rfl, ?_⟩⟩
        refine ⟨_, _, rfl, rfl, ?_, ?_⟩
        · refine wide_mul (a := 64) (b := 64) (by omega) ?_ (by decide) (by decide) (by decide)
          split <;> decide
        · refine fin _ _ (b4.trans b5) (P5.le (by omega)) ⟨_, rfl, ?_⟩
          split <;> omega
      · intro acc H3 a1 a2 b3 P3 hR
        obtain ⟨r, hr, hrl, hrr⟩ : ∃ r : List Int, acc = r.map V.int ∧ r.length = w ∧ RRed M r := by
          refine ⟨acc.map fun v => match v with | .int x => x | _ => 0, ?_, by simpa using a1, ?_⟩
          · apply List.ext_getElem?
            intro j
            rw [List.getElem?_map, List.getElem?_map]
            cases e : acc[j]? with
            | none => rfl
            | some v =>
              obtain ⟨x, rfl, _⟩ := hR j v e
              rfl
          · intro x hx
            obtain ⟨v, hv, rfl⟩ := List.mem_map.mp hx
            obtain ⟨j, e⟩ := List.mem_iff_getElem?.mp hv
            obtain ⟨y, rfl, h0⟩ := hR j v e
            exact h0
        have g3 : H3 F0 = some (.lst us) := b3 _ _ hFp g2
        refine ⟨D, acc, rfl, .inl ⟨SqL.of a2, fun u nu => ⟨F0, _, _, rfl, rfl, (by rw [upd_ne (ne_of_none g3 nu)]; exact g3), Nat.le_trans (show us.length.succ ≤ 1001 by rw [hU.1, sA.1]; omega) (show 1001 ≤ sizeLine by decide), ?_⟩⟩⟩
        have huF : u ≠ F0 := fun z => by rw [z, g3] at nu; cases nu
        have hup : u ≠ p := fun z => by
          obtain ⟨o, ho⟩ := P3.some
          rw [z, ho] at nu
          cases nu
        have s4 : ∀ b o, b ≠ F0 → H3 b = some o → (upd (upd H3 u (.tup acc)) F0 (.lst (us ++ [.ref u]))) b = some o := fun b o hb e => by
          rw [upd_ne hb, upd_ne (ne_of_none e nu)]
          exact e
        have hcF : c ≠ F0 := fun z => by
          obtain ⟨i', l', a, _⟩ := hP
          have := a.cells
          rw [z, nF] at this
          cases this
        refine ⟨_, us ++ [.ref u], A ++ [r], rfl, fun b o hb e => s4 b o (ne_of_none e nF) (b3 _ _ hb (b2 _ _ hb e)), ?_, upd_same, ?_, ⟨by simp [sA.1], fun t ht => ?_⟩, fun t ht => ?_, fun q ⟨t, ht, e⟩ => ?_⟩
        · obtain ⟨i', l', a, ha⟩ := P3
          exact ⟨i', l', ⟨s4 _ _ hFp.symm a.pen, s4 _ _ hcF a.cells, a.i0, a.l0, a.i1⟩, by omega⟩
        · refine ObsAre.snoc ⟨hU.1, fun kk rr z => ?_⟩ huF (by rw [upd_ne huF, upd_same, hr])
          obtain ⟨q, e1, e2, e3⟩ := hU.2 kk rr z
          exact ⟨q, e1, e2, s4 _ _ e2 (b3 _ _ (hne q ⟨_, List.mem_of_getElem? e1, rfl⟩) e3)⟩
        · rcases List.mem_append.mp ht with ht | ht
          · exact sA.2 t ht
          · rw [List.mem_singleton.mp ht]
            exact hrl
        · rcases List.mem_append.mp ht with ht | ht
          · exact rA t ht
          · rw [List.mem_singleton.mp ht]
            exact hrr
        · rcases List.mem_append.mp ht with ht | ht
          · exact hne q ⟨t, ht, e⟩
          · rw [List.mem_singleton.mp ht] at e
            cases e
            exact hup
    · rintro σ H2 ⟨x5, us, A, rfl, b2, P2, g2, hU, sA, rA, hne⟩
      refine ⟨_, rfl, F0, us, rfl, .inl ⟨SqL.of g2, fun q nq => k q _ A (b2.same (same_upd nq)) ((P2.same (same_upd nq)).le (by omega)) ⟨us, SqT.of upd_same, (hU.rows (K := K)).same (same_upd nq)⟩ sA rA ⟨us, upd_same, hU.1, fun kk r e => ?_⟩⟩⟩
      obtain ⟨b, e1, _, e3⟩ := hU.2 kk r e
      exact ⟨b, e1, same_upd nq _ _ e3⟩
end
end Wk

namespace Wk
open PySem L2
def spGcd : Sp := fun vs H Q _ => ∃ a b : Int, vs = [.int a, .int b] ∧ Q (.int (Int.gcd a b : Int)) H
def mu1 (σ : St) : Nat := match σ[1]? with
  | some (some (V.int y)) => y.toNat
  | _ => 0
theorem gcd_turn {x y : Int} (hx : 0 ≤ x) (hy : 0 < y) : Int.gcd y (x % y) = Int.gcd x y := by
  have e : x % y = x - (x / y) * y := by
    have := Int.emod_add_ediv_mul x y
    omega
  rw [e, Int.gcd_sub_mul_right_right, Int.gcd_comm]
theorem ObsAre.pen {mk : List V → HO} {F p c : Addr} {ns : List Int} {n : Nat} {H H' : Hp} {us : List V} {A : Mat} (h : ObsAre mk F H us A) (e : But p H H') (hp : Pen H p c ns n) (hm : ∀ xs kvs, mk xs ≠ .dK kvs) : ObsAre mk F H' us A := ⟨h.1, fun k r z => by
  obtain ⟨q, a, b, d⟩ := h.2 k r z
  obtain ⟨c, i, l, hp⟩ := hp.dk
  exact ⟨q, a, b, e _ _ (ne_of d hp (hm _ _)) d⟩⟩
def spUndOf (K : PySem.W.Frag) : Sp := fun vs H Q _ => ∃ (p c : Addr) (ns : List Int) (m n : Nat) (M : Int), vs = [.ref p, .int M, .int (n : Int)] ∧ Pen H p c ns m ∧ m < 80000 ∧ 2 ≤ M ∧ M < 2 ^ 64 ∧ 1 ≤ n ∧ n ≤ 8 ∧
  ∀ q H' A, But p H H' → Pen H' p c ns (m + 100) → MatAt K H' q A → Shp n n A → MRed M A → Inv2 M n (ent A) → Q (.ref q) H'
theorem set_shp {n : Nat} {A : Mat} {r : Row} (s : Shp n n A) (i : Nat) (h : r.length = n) : Shp n n (A.set i r) := ⟨by rw [List.length_set]; exact s.1, fun t ht => by
  rcases List.mem_or_eq_of_mem_set ht with h1 | h1
  · exact s.2 t h1
  · rw [h1]; exact h⟩
theorem set_red {M : Int} {A : Mat} {r : Row} (s : MRed M A) (i : Nat) (h : RRed M r) : MRed M (A.set i r) := fun t ht => by
  rcases List.mem_or_eq_of_mem_set ht with h1 | h1
  · exact s t h1
  · rw [h1]; exact h
theorem set_ent {n : Nat} {A : Mat} {r : Row} (s : Shp n n A) {x : Nat} (hx : x < n) (i j : Nat) : ent (A.set x r) i j = if i = x then r.getD j 0 else ent A i j := by
  by_cases h : i = x
  · subst h
    rw [if_pos rfl, ent_at (List.getElem?_set_self (by rw [s.1]; exact hx))]
  · rw [if_neg h]
    unfold ent
    rw [List.getD_eq_getElem?_getD (l := A.set x r), List.getElem?_set_ne (fun z => h z.symm), ← List.getD_eq_getElem?_getD]
/-- one row plus t times another -/
theorem inv_add {M : Int} {n : Nat} {A : Mat} {x y : Nat} {a b : Row} {t : Int} (s : Shp n n A) (I : Inv2 M n (ent A)) (hx : x < n) (hy : y < n) (hne : x ≠ y) (ha : A[x]? = some a) (hb : A[y]? = some b) : Inv2 M n (ent (A.set x (comb M 1 a t b))) := by
  have la := s.2 a (List.mem_of_getElem? ha)
  have lb := s.2 b (List.mem_of_getElem? hb)
  have h2 := addE_inv (M := M) (t := -t) hy hne
  rw [Int.neg_neg] at h2
  refine (I.mul (addE_inv (M := M) (t := t) hy hne) h2).congr fun i j hi hj => ?_
  rw [addE_mul hy _ i j hi, set_ent s hx]
  by_cases h : i = x
  · subst h
    rw [if_pos rfl, if_pos rfl]
    refine (comb_fn (by omega) j).trans (.eq ?_)
    rw [ent_at ha, ent_at hb]
    show 1 * a.getD j 0 + t * b.getD j 0 = _
    omega
  · rw [if_neg h, if_neg h]
    exact .eq (by simp)
theorem inv_mul {M : Int} (hM : 2 ≤ M) {n : Nat} {A : Mat} {x : Nat} {a : Row} {u : Int} (s : Shp n n A) (I : Inv2 M n (ent A)) (hx : x < n) (ha : A[x]? = some a) (hu : 0 ≤ u) (hg : Int.gcd u M = 1) : Inv2 M n (ent (A.set x (mulRow M u a))) := by
  obtain ⟨v, hv⟩ := unit_inv (by omega) hu hg
  refine (I.mul (mulE_inv (x := x) hv) (mulE_inv (x := x) (by rw [Int.mul_comm]; exact hv))).congr fun i j hi hj => ?_
  rw [mulE_mul _ i j hi, set_ent s hx]
  by_cases h : i = x
  · subst h
    rw [if_pos rfl, if_pos rfl, ent_at ha]
    exact mul_fn j
  · rw [if_neg h, if_neg h]
    exact .eq (by simp)
section
variable {P : Program} {w : World} {K : PySem.W.Frag} {mg : Str → Option Value} {base : Heap}
theorem ok_gcd {f : Addr} {fd : FuncData} (F : Fun K "_law_common" "_law_common" s_law_common f fd) (T : TxtL mg) : FnOk P w K mg base CX0 1 f fd ["_law_one", "_law_other"] spGcd := by
  refine F.ok sc_law_common (fun vs H Q E h => ?_) (fun cdv A outer s H vs Q E hr h => ?_)
  · obtain ⟨a, b, rfl, _⟩ := h
    rfl
  · obtain ⟨a, b, rfl, k⟩ := h
    refine ⟨_, (pss_cons (ps_par (i := 0) (j := 1) rfl sc_law_common.nd rfl rfl (by decide) rfl rfl (pa_cons (pe_callB call_abs rfl T.f_abs (by decide +kernel) (pa_cons (pv 0) pa_nil)) (pa_cons (pe_callB call_abs rfl T.f_abs (by decide +kernel) (pa_cons (pv 1) pa_nil)) pa_nil)) (by rfl))
        (pss_cons (ps_while PassesOwn.never (pt_cmpR op_gt (pv 1) pe_int (nomark _)) (pss_one (ps_par (i := 0) (j := 1) rfl sc_law_common.nd rfl rfl (by decide) rfl rfl (pa_cons (pv 1) (pa_cons (pe_op op_modN (pe_callTy call_int1 rfl T.f_int (by decide +kernel) (pa_cons (pv 0) pa_nil)) (pv 1)) pa_nil)) (by rfl))))
        (pss_one (ps_ret (pv 0))))), ?_⟩
    refine ⟨_, rfl, _, rfl, _, rfl, _, rfl, _, _, rfl, ?_⟩
    refine while_by (fun σ H' => ∃ x y : Int, σ = [some (.int x), some (.int y)] ∧ H' = H ∧ 0 ≤ x ∧ 0 ≤ y ∧ Int.gcd x y = Int.gcd a b)
      (fun σ _ => mu1 σ) ?_ ?_ (fun σ H Q Q' hq ⟨v, hv, i, j, e1, e2, k, e3, q⟩ => ⟨v, hv, i, j, e1, e2, k, e3, hq _ _ q⟩)
    · refine ⟨(a.natAbs : Int), (b.natAbs : Int), ?_, rfl, by omega, by omega, ?_⟩
      · have e1 : ∀ z : Int, (if z < 0 then -z else z) = (z.natAbs : Int) := fun z => by split <;> omega
        rw [← e1 a, ← e1 b]
        rfl
      · show Nat.gcd _ _ = Nat.gcd _ _
        rw [Int.natAbs_natCast, Int.natAbs_natCast]
    · rintro σ H' ⟨x, y, rfl, rfl, hx, hy, hg⟩
      refine ⟨_, rfl, _, _, rfl, rfl, _, rfl, ?_⟩
      refine ite2 (fun hd => ?_) (fun hd => ?_)
      · have hy0 : 0 < y := of_decide_eq_true hd
        have he : x.fmod y = x % y := Int.fmod_eq_emod_of_nonneg _ (by omega)
        refine ⟨_, rfl, _, rfl, .inl ⟨_, rfl, _, rfl, _, _, rfl, rfl, (by omega), _, _, rfl, ⟨y, x.fmod y, rfl, rfl, hy, by rw [he]; exact Int.emod_nonneg _ (by omega), ?_⟩, ?_⟩⟩
        · rw [he, gcd_turn hx hy0, hg]
        · show (x.fmod y).toNat < y.toNat
          rw [he]
          have := Int.emod_lt_of_pos x hy0
          have := Int.emod_nonneg x (show y ≠ 0 by omega)
          omega
      · have hy0 : y = 0 := by
          have : ¬ 0 < y := fun z => hd (decide_eq_true z)
          omega
        subst hy0
        have hxg : x = (Int.gcd a b : Int) := by
          rw [← hg]
          simp
          omega
        rw [hxg]
        exact ⟨_, rfl, k⟩
theorem ok_undone_of {f fI fD fC : Addr} {fd fdI fdD fdC : FuncData} (F : Fun K "_law_undone_of" "_law_undone_of" s_law_undone_of f fd) (T : TxtL mg)
    (G__law_identity : FnOk P w K mg base CX0 1 fI fdI ["_law_size"] (spIdm K)) (g__law_identity : mg "_law_identity" = some (.ref fI)) (kp__law_identity : PySem.W.keepIn K (.ref fI) = true) (b__law_identity : Binds K fdI ["_law_size"] [])
    (G__law_draw : FnOk P w K mg base CX0 1 fD fdD ["_law_pen", "_law_many"] spDraw) (g__law_draw : mg "_law_draw" = some (.ref fD)) (kp__law_draw : PySem.W.keepIn K (.ref fD) = true) (b__law_draw : Binds K fdD ["_law_pen", "_law_many"] [])
    (G__law_common : FnOk P w K mg base CX0 1 fC fdC ["_law_one", "_law_other"] spGcd) (g__law_common : mg "_law_common" = some (.ref fC)) (kp__law_common : PySem.W.keepIn K (.ref fC) = true) (b__law_common : Binds K fdC ["_law_one", "_law_other"] []) :
    FnOk P w K mg base CX0 2 f fd ["_law_pen", "_law_modulus", "_law_size"] (spUndOf K) := by
  refine F.ok sc_law_undone_of (fun vs H Q E h => ?_) (fun cdv A outer s H vs Q E hr h => ?_)
  · obtain ⟨p, c, ns, m, n, M, rfl, _⟩ := h
    rfl
  · obtain ⟨p, c, ns, m, n, M, rfl, hP, hm, hM, hM2, n1, n2, k⟩ := h
    refine ⟨_, (pss_cons (ps_setLc (i := 3) (own := [("_law_row", 8)]) (g := gName 8) rfl sc_law_undone_of.nd rfl rfl (sw_true rfl rfl rfl (by decide +kernel)) (pi_tup (pe_call G__law_identity (hr.mono (by decide)) rfl g__law_identity kp__law_identity b__law_identity .nil pass0 (pa_cons (pv 2) pa_nil))) (blkOk_by (N := ["_law_pen", "_law_modulus", "_law_size", "_law_rows", "_law_turn", "_law_at", "_law_other", "_law_often", "_law_row", "_law_one", "_law_two", "_law_number"]) (sc := defScope s_law_undone_of) (by decide +kernel)) (fun _ _ _ _ _ => (pg_name (i := 8) sc_law_undone_of.nd rfl (Or.inl rfl))) (fun _ _ _ _ _ => pts_nil) (fun _ _ _ _ _ => (pe_callTy (call_listK (K := K) rfl) rfl T.f_list (by decide +kernel) (pa_cons (pv 8) pa_nil))))
        (pss_cons (ps_for PassesOwn.never rfl (pi_range1 rfl T.f_range (pa_cons (pe_op op_mulW pe_int (pv 2)) pa_nil)) (pg_name (i := 4) sc_law_undone_of.nd rfl (Or.inl rfl)) (pss_cons (ps_asg (pe_tup (pa_cons (pe_call G__law_draw (hr.mono (by decide)) rfl g__law_draw kp__law_draw b__law_draw .nil pass0 (pa_cons (pv 0) (pa_cons (pv 2) pa_nil))) (pa_cons (pe_call G__law_draw (hr.mono (by decide)) rfl g__law_draw kp__law_draw b__law_draw .nil pass0 (pa_cons (pv 0) (pa_cons (pv 2) pa_nil))) (pa_cons (pe_call G__law_draw (hr.mono (by decide)) rfl g__law_draw kp__law_draw b__law_draw .nil pass0 (pa_cons (pv 0) (pa_cons (pv 1) pa_nil))) pa_nil)))) (pg_tup rfl (pgs_cons (pg_name (i := 5) sc_law_undone_of.nd rfl (Or.inl rfl)) (pgs_cons (pg_name (i := 6) sc_law_undone_of.nd rfl (Or.inl rfl)) (pgs_cons (pg_name (i := 7) sc_law_undone_of.nd rfl (Or.inr rfl)) pgs_nil)))))
        (pss_one (ps_if (pt_cmpR op_ne (pv 5) (pv 6) (nomark _)) (pss_one (ps_asg (pe_lc (own := [("_law_one", 9), ("_law_two", 10)]) (g := gTup K 2 (gCons (gName 9) (gCons (gName 10) gNil))) rfl sc_law_undone_of.nd (pi_zip2K (K := K) rfl false false rfl T.f_zip (pa_cons (pe_ix ix_list (pv 3) (pv 5) (fun _ _ => rfl)) (pa_cons (pe_ix ix_list (pv 3) (pv 6) (fun _ _ => rfl)) pa_nil))) (blkOk_by (N := ["_law_pen", "_law_modulus", "_law_size", "_law_rows", "_law_turn", "_law_at", "_law_other", "_law_often", "_law_row", "_law_one", "_law_two", "_law_number"]) (sc := defScope s_law_undone_of) (by decide +kernel)) (fun _ _ _ _ _ => (pg_tupK rfl rfl (pgs_cons (pg_name (i := 9) sc_law_undone_of.nd rfl (Or.inl rfl)) (pgs_cons (pg_name (i := 10) sc_law_undone_of.nd rfl (Or.inl rfl)) pgs_nil)))) (fun _ _ _ _ _ => pts_nil) (fun _ _ _ _ _ => (pe_op op_modN (pe_callTy call_int1 rfl T.f_int (by decide +kernel) (pa_cons (pe_op op_add (pv 9) (pe_op op_mulW (pv 7) (pv 10))) pa_nil)) (pv 1)))) (pg_sub (pv 3) (pv 5) set_list))) (pss_one (ps_if (pt_cmpR op_eq (pe_call G__law_common (hr.mono (by decide)) rfl g__law_common kp__law_common b__law_common .nil pass0 (pa_cons (pv 7) (pa_cons (pv 1) pa_nil))) pe_int (nomark _)) (pss_one (ps_asg (pe_lc (own := [("_law_number", 11)]) (g := gName 11) rfl sc_law_undone_of.nd (pi_list (pe_ix ix_list (pv 3) (pv 5) (fun _ _ => rfl))) (blkOk_by (N := ["_law_pen", "_law_modulus", "_law_size", "_law_rows", "_law_turn", "_law_at", "_law_other", "_law_often", "_law_row", "_law_one", "_law_two", "_law_number"]) (sc := defScope s_law_undone_of) (by decide +kernel)) (fun _ _ _ _ _ => (pg_name (i := 11) sc_law_undone_of.nd rfl (Or.inl rfl))) (fun _ _ _ _ _ => pts_nil) (fun _ _ _ _ _ => (pe_op op_modN (pe_callTy call_int1 rfl T.f_int (by decide +kernel) (pa_cons (pe_op op_mulW (pv 7) (pv 11)) pa_nil)) (pv 1)))) (pg_sub (pv 3) (pv 5) set_list))) pss_nil))))))
        (pss_one (ps_ret (pe_callTy (call_tupleK (K := K) rfl) rfl T.f_tuple (by decide +kernel) (pa_cons (pe_lc (own := [("_law_row", 8)]) (g := gName 8) rfl sc_law_undone_of.nd (pi_list (pv 3)) (blkOk_by (N := ["_law_pen", "_law_modulus", "_law_size", "_law_rows", "_law_turn", "_law_at", "_law_other", "_law_often", "_law_row", "_law_one", "_law_two", "_law_number"]) (sc := defScope s_law_undone_of) (by decide +kernel)) (fun _ _ _ _ _ => (pg_name (i := 8) sc_law_undone_of.nd rfl (Or.inl rfl))) (fun _ _ _ _ _ => pts_nil) (fun _ _ _ _ _ => (pe_callTy (call_tupleK (K := K) rfl) rfl T.f_tuple (by decide +kernel) (pa_cons (pv 8) pa_nil)))) pa_nil)))))), ?_⟩
    refine ⟨_, rfl, n, rfl, by omega, fun a H1 s1 ⟨vs, hv, hR⟩ => ⟨a, rfl, ⟨vs, hv⟩, fun L hL => lc_lists (walk_tup (xs := vs)) hL (by rw [hR.length]; simp [idM]; omega) (idM n) hR.length.symm (fun H' e => SqT.same hv e) ?_ ?_⟩⟩
    · rintro i r x H2 H2' Fn Nn hi hr3 fin s2 ⟨rfl, hx⟩
      obtain ⟨q, l, rfl, hl, hq⟩ := rows_at hR hx
      rw [hr3] at hl
      cases hl
      exact ⟨rfl, yesT ⟨_, rfl, q, _, rfl, .inr (SqT.same hq s2), fun l nl => fin l _ (same_upd nl) nl upd_same⟩⟩
    · intro us H2 g2 s2 hU
      have sA := same_trans s1 s2
      have P2 := hP.same sA
      have hLp : L ≠ p := fun z => by
        obtain ⟨o, ho⟩ := (hP.same s1).some
        rw [z, ho] at hL
        cases hL
      have hLH : H L = none := none_back s1 hL
      refine ⟨_, rfl, _, _, rfl, rfl, wide_mul (a := 64) (b := 64) (by decide) (by omega) (by decide) (by decide) (by decide), ((3 * n : Nat) : Int), (by simp), by omega, by omega, ?_⟩
      refine for_it (walk_range (lo := 0) (n := 3 * n)) (fun i σ H' => ∃ (x4 x5 x6 x7 : Option V) (us : List V) (A : Mat), σ = [some (.ref p), some (.int M), some (.int (n : Int)), some (.ref L), x4, x5, x6, x7, none, none, none, none] ∧ But p H H' ∧ Pen H' p c ns (m + 3 * i) ∧ H' L = some (.lst us) ∧ ObsAre .lst L H' us A ∧ Shp n n A ∧ MRed M A ∧ Inv2 M n (ent A)) ⟨none, none, none, none, us, idM n, rfl, .of_same sA, P2.le (by omega), g2, hU, one_shp n, one_red hM n, (Inv2.one M n).congr fun i j hi hj => .eq (one_ent hi hj)⟩ (fun _ _ _ _ _ => trivial) ?_ ?_
      · rintro i v σ H3 H3' hi ⟨x4, x5, x6, x7, us, A, rfl, b3, P3, g3, hU3, sA3, rA3, I3⟩ ⟨rfl, rfl⟩
        obtain ⟨i3, l3, a3, n3⟩ := P3
        refine ⟨_, rfl, _, rfl, p, c, ns, i3, l3, n, rfl, a3, by omega, by omega, w64 (by omega) (by omega), fun d1 i4 l4 d10 d1n z0 z1 z2 => ?_⟩
        obtain ⟨P4, b4⟩ := drwP a3 n3 (by omega) z0 z1 z2
        have P3 : Pen H3' p c ns (m + 3 * i) := ⟨i3, l3, a3, n3⟩
        generalize penTo H3' p c i4 l4 = H4 at P4 b4 ⊢
        obtain ⟨i5, l5, a5, n5⟩ := P4
        refine ⟨_, rfl, _, rfl, p, c, ns, i5, l5, n, rfl, a5, by omega, by omega, w64 (by omega) (by omega), fun d2 i6 l6 d20 d2n y0 y1 y2 => ?_⟩
        obtain ⟨P5, b5⟩ := drwP a5 n5 (by omega) y0 y1 y2
        have P4 : Pen H4 p c ns (m + 3 * i + 1) := ⟨i5, l5, a5, n5⟩
        generalize penTo H4 p c i6 l6 = H5 at P5 b5 ⊢
        obtain ⟨i7, l7, a7, n7⟩ := P5
        refine ⟨_, rfl, _, rfl, p, c, ns, i7, l7, M, rfl, a7, by omega, by omega, w64 (by omega) (by omega), fun t i8 l8 t0 tM w0 w1 w2 => ?_⟩
        obtain ⟨P6, b6⟩ := drwP a7 n7 (by omega) w0 w1 w2
        have P5 : Pen H5 p c ns (m + 3 * i + 1 + 1) := ⟨i7, l7, a7, n7⟩
        generalize penTo H5 p c i8 l8 = H6 at P6 b6 ⊢
        have bA : But p H3' H6 := b4.trans (b5.trans b6)
        have hU6 := hU3.pen bA P3 (fun _ _ z => by cases z)
        have g6 := bA _ _ hLp g3
        refine ⟨(by show 3 ≤ sizeLine; decide), fun T0 nT => ⟨T0, _, rfl, SqT.of upd_same, rfl, _, _, rfl, _, _, rfl, _, _, rfl, rfl, ?_⟩⟩
        have sT : Same H6 (upd H6 T0 (.tup [.int d1, .int d2, .int t])) := same_upd nT
        generalize upd H6 T0 (.tup [.int d1, .int d2, .int t]) = H7 at sT ⊢
        have P7 := P6.same sT
        have g7 := sT _ _ g6
        have hU7 : ObsAre .lst L H7 us A := hU6.mono fun b o _ e => sT b o e
        have b7 : But p H H7 := b3.trans (bA.same sT)
        obtain ⟨x, rfl⟩ : ∃ x : Nat, d1 = x := ⟨d1.toNat, by omega⟩
        obtain ⟨y, rfl⟩ : ∃ y : Nat, d2 = y := ⟨d2.toNat, by omega⟩
        have hx : x < n := by omega
        have hy : y < n := by omega
        obtain ⟨ra, hra, lra⟩ := shp_at sA3 hx
        obtain ⟨rb, hrb, lrb⟩ := shp_at sA3 hy
        obtain ⟨qa, ua, nqa, ha⟩ := hU7.2 x ra hra
        obtain ⟨qb, ub, nqb, hb⟩ := hU7.2 y rb hrb
        have wd : ∀ {r : Row} {z : Int}, r ∈ A → z ∈ r → 0 ≤ z ∧ z < M := fun hr hz => rA3 _ hr _ hz
        have hlenus : us.length = n := by rw [hU7.1, sA3.1]
        have redA : RRed M ra := rA3 ra (List.mem_of_getElem? hra)
        have redB : RRed M rb := rA3 rb (List.mem_of_getElem? hrb)
        have fin : ∀ (r' : Row) (D : Addr) (H8 : Hp), Same H7 H8 → H7 D = none → H8 D = some (.lst (r'.map V.int)) → r'.length = n → RRed M r' → Inv2 M n (ent (A.set x r')) →
            ∃ (x4 x5 x6 x7 : Option V) (us' : List V) (A' : Mat), ([some (.ref p), some (.int M), some (.int (n : Int)), some (.ref L), some (.int (0 + (i : Int))), some (.int (x : Int)), some (.int (y : Int)), some (.int t), none, none, none, none] : L2.St) = [some (.ref p), some (.int M), some (.int (n : Int)), some (.ref L), x4, x5, x6, x7, none, none, none, none] ∧ But p H (upd H8 L (.lst (us.set x (.ref D)))) ∧ Pen (upd H8 L (.lst (us.set x (.ref D)))) p c ns (m + 3 * (i + 1)) ∧ (upd H8 L (.lst (us.set x (.ref D)))) L = some (.lst us') ∧ ObsAre .lst L (upd H8 L (.lst (us.set x (.ref D)))) us' A' ∧ Shp n n A' ∧ MRed M A' ∧ Inv2 M n (ent A') := fun r' D H8 s8 nD gD hl hr hI => by
          have hDL : D ≠ L := fun z => by rw [z, g7] at nD; cases nD
          have b9 : But L H8 (upd H8 L (.lst (us.set x (.ref D)))) := fun b o hb e => by rw [upd_ne hb]; exact e
          refine ⟨_, _, _, _, us.set x (.ref D), A.set x r', rfl, fun b o hb e => b9 _ _ (ne_of_none e hLH) (s8 _ _ (b7 _ _ hb e)), ?_, upd_same, ((hU7.mono fun b o _ e => s8 b o e).mono b9).set hDL (by rw [upd_ne hDL]; exact gD) x, set_shp sA3 x hl, set_red rA3 x hr, hI⟩
          obtain ⟨i9, l9, a9, n9⟩ := P7.same s8
          have hcL : c ≠ L := fun z => by
            have := a9.cells
            obtain ⟨_, _, aH, _⟩ := hP
            have := aH.cells
            rw [z, hLH] at this
            cases this
          exact ⟨i9, l9, ⟨by rw [upd_ne hLp.symm]; exact a9.pen, by rw [upd_ne hcL]; exact a9.cells, a9.i0, a9.l0, a9.i1⟩, by omega⟩
        have e0 : ((0 : Int) + (i : Nat)) = (i : Int) := by omega
        refine ⟨_, rfl, _, rfl, rfl, _, rfl, ?_⟩
        by_cases hxy : x = y
        · subst hxy
          refine iteNS rfl ?_
          refine ⟨_, rfl, _, rfl, t, M, rfl, rfl, _, rfl, ?_⟩
          refine ite2 (fun hd => ?_) (fun hd => ?_)
          · have hg : Int.gcd t M = 1 := by
              have this : V.int (Int.gcd t M : Int) = V.int 1 := of_decide_eq_true hd
              injection this with this
              omega
            refine ⟨_, rfl, _, rfl, L, us, _, _, rfl, rfl, SqL.of g7, atI_nat ua, qa, rfl, ⟨_, SqL.of ha⟩, fun D hD => lc_rel (walk_list (xs := ra.map V.int)) hD (by simp; omega) (fun j v _ => ∃ z, ra[j]? = some z ∧ v = .int (t * z % M)) (fun j v H H' h _ => h) (fun H' e => SqL.of (e _ _ ha)) ?_ ?_⟩
            · rintro j v H8 H8' Fn Nn fin2 hj s8 hacc ⟨rfl, hv⟩
              obtain ⟨z, gz, rfl⟩ := at_ints hv
              have hz := redA z (List.mem_of_getElem? gz)
              refine ⟨rfl, yesT ⟨_, rfl, _, rfl, _, _, rfl, rfl, wide_mul (a := 64) (b := 64) (by omega) (by omega) (by decide) (by decide) (by decide), .inl ⟨_, rfl, _, rfl, _, _, rfl, rfl, by omega, ?_⟩⟩⟩
              dsimp only
              rw [Int.fmod_eq_emod_of_nonneg _ (by omega)]
              exact fin2 _ _ (fun _ _ e => e) ⟨z, gz, rfl⟩
            · intro acc H8 a1 a2 s8 hR8
              have ea : acc = (mulRow M t ra).map V.int := by
                unfold mulRow
                rw [List.map_map]
                exact acc_map (f := fun z => V.int (t * z % M)) (by simpa using a1) hR8
              refine ⟨_, rfl, _, rfl, L, us, _, x, rfl, rfl, s8 _ _ g7, ix_at (by rw [hlenus]; exact hx), ?_⟩
              exact fin _ D H8 s8 hD (by rw [a2, ea]) (by simp [mulRow, lra]) (mulRow_red (by omega) _ _) (inv_mul hM sA3 I3 hx hra t0 hg)
          · exact ⟨_, _, _, _, us, A, rfl, b7, P7.le (by omega), g7, hU7, sA3, rA3, I3⟩
        · have e3 : (!decide (V.int (x : Int) = V.int (y : Int))) = true := by
            have : ¬ V.int (x : Int) = V.int (y : Int) := fun z => hxy (by injection z with z; omega)
            simp [this]
          rw [e3]
          refine iteT ?_
          refine ⟨_, rfl, _, rfl, L, us, _, _, rfl, rfl, SqL.of g7, atI_nat ua, _, rfl, _, rfl, L, us, _, _, rfl, rfl, SqL.of g7, atI_nat ub, qa, qb, _, _, rfl, SqL.of ha, SqL.of hb, fun D hD => lc_rel (ZM.walk_two (n := n) (by simp [lra, lrb])) hD (by omega) (fun j v _ => ∃ z, (comb M 1 ra t rb)[j]? = some z ∧ v = .int z) (fun j v H H' h _ => h) (fun H' e => ⟨SqL.of (e _ _ ha), SqL.of (e _ _ hb)⟩) ?_ ?_⟩
          · rintro j v H8 H8' Fn Nn fin2 hj s8 hacc ⟨T2, v1, v2, rfl, hT2, rfl, hv1, hv2⟩
            obtain ⟨z1, gz1, rfl⟩ := at_ints hv1
            obtain ⟨z2, gz2, rfl⟩ := at_ints hv2
            have h1 := redA z1 (List.mem_of_getElem? gz1)
            have h2 := redB z2 (List.mem_of_getElem? gz2)
            refine ⟨T2, _, rfl, SqT.of upd_same, rfl, _, _, rfl, _, _, rfl, rfl, rfl, yesT ⟨_, rfl, _, rfl, _, rfl, _, _, rfl, rfl, wide_mul (a := 64) (b := 64) (by omega) (by omega) (by decide) (by decide) (by decide), _, _, rfl, rfl, .inl ⟨_, rfl, _, rfl, _, _, rfl, rfl, by omega, ?_⟩⟩⟩
            dsimp only
            rw [Int.fmod_eq_emod_of_nonneg _ (by omega)]
            refine fin2 _ _ (same_upd hT2) ⟨_, comb_at gz1 gz2, ?_⟩
            rw [Int.one_mul]
          · intro acc H8 a1 a2 s8 hR8
            have ea : acc = (comb M 1 ra t rb).map V.int := acc_map (by rw [a1]; simp [comb, lra, lrb]) hR8
            refine ⟨_, rfl, _, rfl, L, us, _, x, rfl, rfl, s8 _ _ g7, ix_at (by rw [hlenus]; exact hx), ?_⟩
            exact fin _ D H8 s8 hD (by rw [a2, ea]) (by simp [comb, lra, lrb]) (comb_red (by omega) _ _ _ _) (inv_add sA3 I3 hx hy hxy hra hrb)
      · rintro σ H3 ⟨x4, x5, x6, x7, us, A, rfl, b3, P3, g3, hU3, sA3, rA3, I3⟩
        refine ⟨_, rfl, L, rfl, ⟨_, SqL.of g3⟩, fun D hD => lc_rows (K := K) (walk_list (xs := us)) hD (by rw [hU3.1, sA3.1]; omega) A hU3.1.symm (fun H' e => SqL.of (e _ _ g3)) ?_ (fun acc H4 e4 s4 hR4 => tup_read e4 hR4 (fun _ _ e => e) fun q H5 s5 h5 => k q H5 A (b3.same (same_trans s4 s5)) ((P3.same (same_trans s4 s5)).le (by omega)) h5 sA3 rA3 I3)⟩
        rintro i r x H4 H4' Fn Nn hi hr3 fin s4 ⟨rfl, hx⟩
        obtain ⟨q, e1, _, e3⟩ := hU3.2 i r hr3
        rw [e1] at hx
        cases hx
        exact ⟨rfl, yesT ⟨_, rfl, q, _, rfl, .inl ⟨SqL.of (s4 _ _ e3), fun u nu => fin u _ (same_upd nu) upd_same⟩⟩⟩
end
end Wk

/-! the settled rows: what they span, their number, that they are the only ones -/
namespace Wk
/-- rows of a list of places and rows, from a place on -/
def GF (F : List (Nat × Row)) (p : Nat) (v : Vec) : Prop := ∃ q s, (q, s) ∈ F ∧ p ≤ q ∧ v = fn s
/-- a howell form, each row beside its place -/
structure HF (M : Int) (w : Nat) (F : List (Nat × Row)) : Prop where
  row : ∀ q s, (q, s) ∈ F → q < w ∧ s.length = w ∧ RRed M s ∧ (∀ j, j < q → s[j]? = some 0) ∧ 1 ≤ fn s q ∧ fn s q ∣ M
  up : F.Pairwise fun a b => a.1 < b.1 ∧ fn a.2 b.1 < fn b.2 b.1
  down : ∀ p v, InS M w (GF F 0) v → (∀ j, j < p → j < w → Eqm M (v j) 0) → InS M w (GF F p) v
theorem red_zero {M x : Int} (h : Eqm M x 0) (h1 : -M < x) (h2 : x < M) : x = 0 := by
  obtain ⟨k, e⟩ := h
  rw [Int.zero_add] at e
  subst e
  rcases Int.lt_trichotomy k 0 with hk | hk | hk
  · have : M * k ≤ M * (-1) := by
      by_cases hM : 0 ≤ M
      · exact Int.mul_le_mul_of_nonneg_left (by omega) hM
      · omega
    omega
  · rw [hk, Int.mul_zero]
  · have : M * 1 ≤ M * k := by
      by_cases hM : 0 ≤ M
      · exact Int.mul_le_mul_of_nonneg_left (by omega) hM
      · omega
    omega
theorem HF.lt {M : Int} {w : Nat} {F : List (Nat × Row)} (h : HF M w F) {q : Nat} {s : Row} (hq : (q, s) ∈ F) : fn s q < M := by
  obtain ⟨h1, h2, h3, _⟩ := h.row q s hq
  exact (fn_red h3 (by omega)).2
/-- places are told once -/
theorem HF.one {M : Int} {w : Nat} {F : List (Nat × Row)} (h : HF M w F) {q : Nat} {s t : Row} (h1 : (q, s) ∈ F) (h2 : (q, t) ∈ F) : s = t := by
  have := h.up
  induction F with
  | nil => exact nomatch h1
  | cons a F ih =>
    rw [List.pairwise_cons] at this
    have key : ∀ {G : List (Nat × Row)}, G.Pairwise (fun a b => a.1 < b.1 ∧ fn a.2 b.1 < fn b.2 b.1) → (q, s) ∈ G → (q, t) ∈ G → s = t := by
      intro G
      induction G with
      | nil => exact fun _ h => nomatch h
      | cons b G ih =>
        intro hp ha hb
        rw [List.pairwise_cons] at hp
        rcases List.mem_cons.mp ha with ha | ha <;> rcases List.mem_cons.mp hb with hb | hb
        · rw [← ha] at hb
          cases hb
          rfl
        · have := (hp.1 _ hb).1
          rw [← ha] at this
          exact absurd this (Nat.lt_irrefl _)
        · have := (hp.1 _ ha).1
          rw [← hb] at this
          exact absurd this (Nat.lt_irrefl _)
        · exact ih hp.2 ha hb
    exact key h.up h1 h2
/-- what is spanned from p on: at p a multiple of the pivot, or 0 -/
theorem HF.at_ {M : Int} {w : Nat} {F : List (Nat × Row)} (h : HF M w F) {p : Nat} (hp : p < w) {v : Vec} (hv : InS M w (GF F p) v) : ((∀ s, (p, s) ∉ F) ∧ Eqm M (v p) 0) ∨ ∃ s, (p, s) ∈ F ∧ ∃ c, Eqm M (v p) (c * fn s p) := by
  have z : ∀ q s, (q, s) ∈ F → p < q → fn s p = 0 := fun q s hq hpq => fn_at ((h.row q s hq).2.2.2.1 p hpq)
  by_cases e : ∃ s, (p, s) ∈ F
  · obtain ⟨s, hs⟩ := e
    refine .inr ⟨s, hs, ?_⟩
    induction hv with
    | zero h0 => exact ⟨0, (h0 p hp).trans (.eq (by simp))⟩
    | add c g _ f ih =>
      obtain ⟨d, hd⟩ := ih
      obtain ⟨q, t, hq, hpq, rfl⟩ := g
      rcases Nat.eq_or_lt_of_le hpq with e | e
      · subst e
        rw [h.one hs hq] at *
        exact ⟨d + c, (f p hp).trans ((hd.add (.refl _ _)).trans (.eq (by grind)))⟩
      · refine ⟨d, (f p hp).trans ((hd.add (.refl _ _)).trans (.eq ?_))⟩
        rw [z q t hq e]
        simp
  · refine .inl ⟨fun s hs => e ⟨s, hs⟩, ?_⟩
    induction hv with
    | zero h0 => exact h0 p hp
    | add c g _ f ih =>
      obtain ⟨q, t, hq, hpq, rfl⟩ := g
      rcases Nat.eq_or_lt_of_le hpq with e2 | e2
      · exact absurd ⟨t, e2 ▸ hq⟩ e
      · refine (f p hp).trans ((ih.add (.refl _ _)).trans (.eq ?_))
        rw [z q t hq e2]
        simp
theorem sorted_ext {α : Type} {r : α → α → Prop} (irr : ∀ a b, r a b → r b a → False) : ∀ {L L' : List α}, L.Pairwise r → L'.Pairwise r → (∀ a, a ∈ L ↔ a ∈ L') → L = L'
  | [], [], _, _, _ => rfl
  | [], b :: L', _, _, h => absurd ((h b).mpr List.mem_cons_self) (fun z => nomatch z)
  | a :: L, [], _, _, h => absurd ((h a).mp List.mem_cons_self) (fun z => nomatch z)
  | a :: L, b :: L', h1, h2, h => by
    rw [List.pairwise_cons] at h1 h2
    have ab : a = b := by
      rcases List.mem_cons.mp ((h a).mp List.mem_cons_self) with e | e
      · exact e
      · rcases List.mem_cons.mp ((h b).mpr List.mem_cons_self) with e2 | e2
        · exact e2.symm
        · exact (irr _ _ (h1.1 b e2) (h2.1 a e)).elim
    subst ab
    rw [sorted_ext irr h1.2 h2.2 fun c => ?_]
    constructor
    · intro hc
      rcases List.mem_cons.mp ((h c).mp (List.mem_cons_of_mem _ hc)) with e | e
      · subst e
        exact (irr _ _ (h1.1 c hc) (h1.1 c hc)).elim
      · exact e
    · intro hc
      rcases List.mem_cons.mp ((h c).mpr (List.mem_cons_of_mem _ hc)) with e | e
      · subst e
        exact (irr _ _ (h2.1 c hc) (h2.1 c hc)).elim
      · exact e
/-- one form alone is a howell form of a span -/
theorem HF.sub {M : Int} (hM : 2 ≤ M) {w : Nat} {F F' : List (Nat × Row)} (h : HF M w F) (h' : HF M w F') (e : ∀ v, InS M w (GF F 0) v ↔ InS M w (GF F' 0) v) {q : Nat} {s : Row} (hq : (q, s) ∈ F) : ∃ s', (q, s') ∈ F' ∧ fn s' q ∣ fn s q := by
  obtain ⟨r1, r2, r3, r4, r5, r6⟩ := h.row q s hq
  have a : InS M w (GF F' q) (fn s) := h'.down q _ ((e _).mp (.of ⟨q, s, hq, Nat.zero_le _, rfl⟩)) fun j hj _ => .eq (fn_at (r4 j hj))
  rcases h'.at_ r1 a with ⟨_, z⟩ | ⟨s', hs', c, z⟩
  · have := red_zero z (by omega) (h.lt hq)
    omega
  · refine ⟨s', hs', ?_⟩
    obtain ⟨k, z⟩ := z
    rw [z]
    exact Int.dvd_add (Int.dvd_mul_left ..) (Int.dvd_trans (h'.row q s' hs').2.2.2.2.2 (Int.dvd_mul_right ..))
theorem HF.same {M : Int} (hM : 2 ≤ M) {w : Nat} {F F' : List (Nat × Row)} (h : HF M w F) (h' : HF M w F') (e : ∀ v, InS M w (GF F 0) v ↔ InS M w (GF F' 0) v) : ∀ q s, (q, s) ∈ F → (q, s) ∈ F' := by
  intro q s hq
  obtain ⟨s', hs', dv⟩ := h.sub hM h' e hq
  obtain ⟨s2, hs2, dv2⟩ := h'.sub hM h (fun v => (e v).symm) hs'
  rw [← h.one hq hs2] at dv2
  obtain ⟨r1, r2, r3, r4, r5, r6⟩ := h.row q s hq
  obtain ⟨t1, t2, t3, t4, t5, t6⟩ := h'.row q s' hs'
  have ex : fn s q = fn s' q := Int.dvd_antisymm (by omega) (by omega) dv2 dv
  have up : ∀ {G : List (Nat × Row)} {q j : Nat} {s t : Row}, HF M w G → (q, s) ∈ G → (j, t) ∈ G → q < j → fn s j < fn t j := by
    intro G q j s t hG h1 h2 hqj
    have key : ∀ {K : List (Nat × Row)}, K.Pairwise (fun a b => a.1 < b.1 ∧ fn a.2 b.1 < fn b.2 b.1) → (q, s) ∈ K → (j, t) ∈ K → fn s j < fn t j := by
      intro K
      induction K with
      | nil => exact fun _ h => nomatch h
      | cons b K ih =>
        intro hp ha hb
        rw [List.pairwise_cons] at hp
        rcases List.mem_cons.mp ha with ha | ha <;> rcases List.mem_cons.mp hb with hb | hb
        · rw [← ha] at hb
          cases hb
          exact absurd hqj (Nat.lt_irrefl _)
        · have := (hp.1 _ hb).2
          rw [← ha] at this
          exact this
        · have := (hp.1 _ ha).1
          rw [← hb] at this
          exact absurd hqj (Nat.not_lt.mpr (Nat.le_of_lt this))
        · exact ih hp.2 ha hb
    exact key hG.up h1 h2
  have d : ∀ n j, j < n → j < w → fn s j - fn s' j = 0 := by
    intro n
    induction n with
    | zero => exact fun j hj => absurd hj (Nat.not_lt_zero _)
    | succ n ih =>
      intro j hj hjw
      rcases Nat.lt_succ_iff_lt_or_eq.mp hj with hj | rfl
      · exact ih j hj hjw
      · rcases Nat.lt_trichotomy j q with hq2 | hq2 | hq2
        · rw [fn_at (r4 j hq2), fn_at (t4 j hq2)]
          rfl
        · subst hq2
          omega
        · have b1 := fn_red r3 (j := j) (by omega)
          have b2 := fn_red t3 (j := j) (by omega)
          have inS : InS M w (GF F 0) fun j => fn s j - fn s' j :=
            InS.comb 1 (-1) (.of ⟨q, s, hq, Nat.zero_le _, rfl⟩) ((e _).mpr (.of ⟨q, s', hs', Nat.zero_le _, rfl⟩)) fun j _ => .eq (by grind)
          have low := h.down j _ inS fun l hl hlw => .eq (ih l hl hlw)
          rcases h.at_ hjw low with ⟨_, z⟩ | ⟨t, ht, c, z⟩
          · exact red_zero z (by omega) (by omega)
          · obtain ⟨t', ht', dvt⟩ := h.sub hM h' e ht
            obtain ⟨tt, htt, dvt2⟩ := h'.sub hM h (fun v => (e v).symm) ht'
            rw [← h.one ht htt] at dvt2
            obtain ⟨_, _, _, _, y1, y2⟩ := h.row j t ht
            obtain ⟨_, _, _, _, y3, y4⟩ := h'.row j t' ht'
            have ey : fn t j = fn t' j := Int.dvd_antisymm (by omega) (by omega) dvt2 dvt
            have u1 := up h hq ht hq2
            have u2 := up h' hs' ht' hq2
            have dvd : fn t j ∣ fn s j - fn s' j := by
              obtain ⟨k, z⟩ := z
              rw [z]
              exact Int.dvd_add (Int.dvd_mul_left ..) (Int.dvd_trans y2 (Int.dvd_mul_right ..))
            obtain ⟨k, z⟩ := dvd
            exact red_zero (M := fn t j) ⟨k, by rw [z]; simp⟩ (by omega) (by omega)
  have : s = s' := row_ext r2 t2 fun j hj => by
    have := d (j + 1) j (Nat.lt_succ_self _) hj
    omega
  rw [this]
  exact hs'
theorem HF.unique {M : Int} (hM : 2 ≤ M) {w : Nat} {F F' : List (Nat × Row)} (h : HF M w F) (h' : HF M w F') (e : ∀ v, InS M w (GF F 0) v ↔ InS M w (GF F' 0) v) : F = F' :=
  sorted_ext (r := fun a b => a.1 < b.1 ∧ fn a.2 b.1 < fn b.2 b.1) (fun a b h1 h2 => absurd h1.1 (Nat.not_lt.mpr (Nat.le_of_lt h2.1))) h.up h'.up fun a => ⟨fun ha => h.same hM h' e a.1 a.2 ha, fun ha => h'.same hM h (fun v => (e v).symm) a.1 a.2 ha⟩
/-! the settled rows are such a form -/
theorem lessen_span {M : Int} {W n : Nat} {P : Vec → Prop} : ∀ {L : List (Nat × Row)} {r : Row}, (∀ q s, (q, s) ∈ L → s.length = W ∧ InS M n P (fn s)) → r.length = W → (InS M n P (fn (lessen M r L)) ↔ InS M n P (fn r))
  | [], r, _, _ => Iff.rfl
  | (q, s) :: L, r, hL, h1 => by
    obtain ⟨a, b⟩ := hL q s List.mem_cons_self
    have hL2 : ∀ q s, (q, s) ∈ L → s.length = W ∧ InS M n P (fn s) := fun q s h => hL q s (List.mem_cons_of_mem _ h)
    unfold lessen
    split
    · rw [lessen_span hL2 (by simp [comb, h1, a])]
      constructor
      · intro h
        exact h.comb 1 (r.getD q 0 / s.getD q 0) b fun j _ => Eqm.trans (.eq (by grind)) (((Eqm.refl M 1).mul (comb_fn (by omega) j).symm).add (.refl _ _))
      · intro h
        exact h.comb 1 (-(r.getD q 0 / s.getD q 0)) b fun j _ => (comb_fn (by omega) j)
    · exact lessen_span hL2 h1
theorem GF.mono {F : List (Nat × Row)} {a : Nat × Row} {p : Nat} {v : Vec} (h : GF F p v) : GF (a :: F) p v := by
  obtain ⟨q, s, h1, h2⟩ := h
  exact ⟨q, s, List.mem_cons_of_mem _ h1, h2⟩
/-- settled rows span what the steps do, from each place on -/
theorem settle_span {M : Int} {W n : Nat} {S : List (Option Row)} (hM : 2 ≤ M) (wf : WF M W n S) (hn : n ≤ W) : ∀ i, i ≤ n → ∀ p, n - i ≤ p → ∀ v, InS M n (GF (settle M n S i) p) v ↔ InS M n (GS S p) v
  | 0, _, p, hp, v => by
    constructor
    · exact fun h => h.mono fun u ⟨q, s, h1, _⟩ => nomatch h1
    · refine fun h => h.mono fun u ⟨q, s, h1, h2, _⟩ => ?_
      have := (List.getElem?_eq_some_iff.mp h2).1
      rw [wf.len] at this
      omega
  | i + 1, hi, p, hp, v => by
    have hlt : n - 1 - i < S.length := by rw [wf.len]; omega
    have hgD : S.getD (n - 1 - i) none = S[n - 1 - i] := by
      rw [List.getD_eq_getElem?_getD, List.getElem?_eq_getElem hlt]
      rfl
    have hS : S[n - 1 - i]? = some S[n - 1 - i] := List.getElem?_eq_getElem hlt
    have ih := settle_span hM wf hn i (by omega)
    cases e0 : S[n - 1 - i] with
    | none =>
      have eS : settle M n S (i + 1) = settle M n S i := by
        show (match S.getD (n - 1 - i) none with | none => _ | some r => _) = _
        rw [hgD, e0]
      rw [eS]
      by_cases hp2 : n - i ≤ p
      · exact ih p hp2 v
      · have hpe : p = n - 1 - i := by omega
        subst hpe
        have up : n - 1 - i + 1 = n - i := by omega
        constructor
        · intro h
          have : InS M n (GF (settle M n S i) (n - i)) v := h.mono fun u ⟨q, s, h1, h2, h3⟩ => ⟨q, s, h1, (settle_ok hM wf hn i (by omega) q s h1).1, h3⟩
          exact ((ih _ (Nat.le_refl _) v).mp this).mono fun u ⟨q, s, h1, h2⟩ => ⟨q, s, by omega, h2⟩
        · intro h
          have : InS M n (GS S (n - i)) v := h.mono fun u ⟨q, s, h1, h2, h3⟩ => ⟨q, s, by
            rcases Nat.eq_or_lt_of_le h1 with z | z
            · rw [← z, hS, e0] at h2
              cases h2
            · omega, h2, h3⟩
          exact ((ih _ (Nat.le_refl _) v).mpr this).mono fun u ⟨q, s, h1, h2, h3⟩ => ⟨q, s, h1, by omega, h3⟩
    | some r =>
      have eS : settle M n S (i + 1) = (n - 1 - i, lessen M r (settle M n S i)) :: settle M n S i := by
        show (match S.getD (n - 1 - i) none with | none => _ | some r => _) = _
        rw [hgD, e0]
      obtain ⟨rl, rr, _, _⟩ := wf.row _ _ (hS.trans (by rw [e0]))
      have hok := settle_ok hM wf hn i (by omega)
      rw [eS]
      by_cases hp2 : n - i ≤ p
      · rw [← ih p hp2 v]
        constructor
        · exact fun h => h.mono fun u ⟨q, s, h1, h2, h3⟩ => by
            rcases List.mem_cons.mp h1 with h1 | h1
            · cases h1
              omega
            · exact ⟨q, s, h1, h2, h3⟩
        · exact fun h => h.mono fun u g => g.mono
      · have hpe : p = n - 1 - i := by omega
        subst hpe
        have lsp : ∀ {P : Vec → Prop}, (∀ u, GF (settle M n S i) (n - i) u → InS M n P u) → (InS M n P (fn (lessen M r (settle M n S i))) ↔ InS M n P (fn r)) := fun {P} hP => lessen_span (W := W) (fun q s h1 => ⟨(hok q s h1).2.2.1, hP _ ⟨q, s, h1, (hok q s h1).1, rfl⟩⟩) rl
        have tail : ∀ u, GF (settle M n S i) (n - i) u → InS M n (GS S (n - 1 - i)) u := fun u g => ((ih _ (Nat.le_refl _) u).mp (.of g)).mono fun u ⟨q, s, h1, h2⟩ => ⟨q, s, by omega, h2⟩
        constructor
        · refine fun h => h.trans fun u ⟨q, s, h1, h2, h3⟩ => ?_
          rcases List.mem_cons.mp h1 with h1 | h1
          · cases h1
            rw [h3]
            exact (lsp tail).mpr (.of ⟨n - 1 - i, r, Nat.le_refl _, hS.trans (by rw [e0]), rfl⟩)
          · exact tail u ⟨q, s, h1, (hok q s h1).1, h3⟩
        · refine fun h => h.trans fun u ⟨q, s, h1, h2, h3⟩ => ?_
          rcases Nat.eq_or_lt_of_le h1 with z | z
          · subst z
            rw [hS, e0] at h2
            cases h2
            rw [h3]
            refine (lsp fun u ⟨q, s, g1, g2, g3⟩ => .of ⟨q, s, List.mem_cons_of_mem _ g1, by omega, g3⟩).mp (.of ⟨_, _, List.mem_cons_self, Nat.le_refl _, rfl⟩)
          · have : InS M n (GS S (n - i)) u := .of ⟨q, s, by omega, h2, h3⟩
            exact ((ih _ (Nat.le_refl _) u).mpr this).mono fun u ⟨q, s, g1, g2, g3⟩ => ⟨q, s, List.mem_cons_of_mem _ g1, by omega, g3⟩
/-- rows above are less than the pivots -/
theorem settle_up {M : Int} {W n : Nat} {S : List (Option Row)} (hM : 2 ≤ M) (wf : WF M W n S) (hn : n ≤ W) : ∀ i, i ≤ n → (settle M n S i).Pairwise fun a b => a.1 < b.1 ∧ fn a.2 b.1 < fn b.2 b.1
  | 0, _ => List.Pairwise.nil
  | i + 1, hi => by
    have hlt : n - 1 - i < S.length := by rw [wf.len]; omega
    have ih := settle_up hM wf hn i (by omega)
    unfold settle
    split
    · exact ih
    · rename_i r e
      rw [List.pairwise_cons]
      refine ⟨fun b hb => ?_, ih⟩
      obtain ⟨h1, h2, h3, _⟩ := settle_ok hM wf hn i (by omega) b.1 b.2 hb
      have e2 : S[n - 1 - i]? = some (some r) := by
        rw [List.getD_eq_getElem?_getD, List.getElem?_eq_getElem hlt] at e
        rw [List.getElem?_eq_getElem hlt]
        exact congrArg some e
      obtain ⟨rl, rr, _⟩ := wf.row _ _ e2
      exact ⟨by show n - 1 - i < b.1; omega, lessen_lt (by omega) (settle_lok hM wf hn (by omega)) (settle_pw hM wf hn i (by omega)) rl rr b.1 b.2 hb⟩
theorem settle_hf {M : Int} {W w : Nat} {S : List (Option Row)} (hM : 2 ≤ M) (wf : WF M W w S) (hW : W = w) (J : JJ M w S) : HF M w (settle M w S w) := by
  subst hW
  have ok := settle_ok hM wf (Nat.le_refl _) W (Nat.le_refl _)
  refine ⟨fun q s h => ?_, settle_up hM wf (Nat.le_refl _) W (Nat.le_refl _), fun p v hv hz => ?_⟩
  · obtain ⟨h1, h2, h3, h4, h5, r0, x, h6, h7, h8, h9⟩ := ok q s h
    obtain ⟨_, _, ⟨y, hy, _, yM⟩, _⟩ := wf.row q r0 h6
    rw [h7] at hy
    cases hy
    rw [fn_at h8]
    exact ⟨h2, h3, h4, h5, h9, yM⟩
  · have sp := settle_span hM wf (Nat.le_refl _) W (Nat.le_refl _)
    have low : ∀ p, p ≤ W → (∀ j, j < p → j < W → Eqm M (v j) 0) → InS M W (GS S p) v := by
      intro p
      induction p with
      | zero => exact fun _ _ => (sp 0 (by omega) v).mp hv
      | succ p ih => exact fun hp hz => InS.down wf J (by omega) (ih (by omega) fun j hj => hz j (by omega)) (hz p (by omega) (by omega))
    by_cases hp : p ≤ W
    · exact (sp p (by omega) v).mpr (low p hp hz)
    · exact .zero fun j hj => hz j (by omega) hj
/-! how many rows are spanned -/
def enumF (M : Int) (w : Nat) : List (Nat × Row) → List Row
  | [] => [List.replicate w 0]
  | (q, s) :: F => (List.range (M / fn s q).toNat).flatMap fun (c : Nat) => (enumF M w F).map fun v => addRow M v (c : Int) s
def prodF (M : Int) : List (Nat × Row) → Int
  | [] => 1
  | (q, s) :: F => M / fn s q * prodF M F
theorem sum_const {α : Type} (k : Nat) : ∀ l : List α, (l.map fun _ => k).sum = l.length * k
  | [] => by simp
  | a :: l => by rw [List.map_cons, List.sum_cons, sum_const k l, List.length_cons, Nat.add_mul]; omega
theorem enum_len {M : Int} {w : Nat} : ∀ F : List (Nat × Row), (∀ q s, (q, s) ∈ F → 0 ≤ M / fn s q) → ((enumF M w F).length : Int) = prodF M F
  | [], _ => by simp [enumF, prodF]
  | (q, s) :: F, h => by
    have ih := enum_len (w := w) F fun q s hq => h q s (List.mem_cons_of_mem _ hq)
    have h0 := h q s List.mem_cons_self
    unfold enumF prodF
    rw [List.length_flatMap]
    have e : (List.map (fun a : Nat => ((enumF M w F).map fun v => addRow M v (a : Int) s).length) (List.range (M / fn s q).toNat)) = List.map (fun _ => (enumF M w F).length) (List.range (M / fn s q).toNat) := List.map_congr_left fun a _ => by simp
    rw [e, sum_const, List.length_range, Int.natCast_mul, Int.toNat_of_nonneg h0, ih]
theorem size_prod {M : Int} : ∀ (F : List (Nat × Row)) (z : Int), (∀ q s, (q, s) ∈ F → pivotOf s = fn s q) → (F.map (·.2)).foldl (fun z r => z * (M / pivotOf r)) z = z * prodF M F
  | [], z, _ => by simp [prodF]
  | (q, s) :: F, z, h => by
    rw [List.map_cons, List.foldl_cons, size_prod F _ fun q s hq => h q s (List.mem_cons_of_mem _ hq)]
    show z * (M / pivotOf s) * _ = _
    rw [h q s List.mem_cons_self, Int.mul_assoc]
    rfl
theorem GF.vanish {M : Int} {w b : Nat} {F : List (Nat × Row)} (hF : ∀ q s, (q, s) ∈ F → b < q ∧ ∀ j, j < q → s[j]? = some 0) {v : Vec} (h : InS M w (GF F 0) v) : ∀ j, j ≤ b → j < w → Eqm M (v j) 0 := by
  induction h with
  | zero h0 => exact fun j _ hj => h0 j hj
  | add c g _ f ih =>
    intro j hj hjw
    obtain ⟨q, s, h1, _, rfl⟩ := g
    have z := (hF q s h1).2 j (by have := (hF q s h1).1; omega)
    refine (f j hjw).trans ?_
    rw [fn_at z, Int.mul_zero, Int.add_zero]
    exact ih j hj hjw
theorem HF.behind {M : Int} {w : Nat} {a : Nat × Row} {F : List (Nat × Row)} (h : HF M w (a :: F)) : ∀ q s, (q, s) ∈ F → a.1 < q ∧ ∀ j, j < q → s[j]? = some 0 := fun q s hq =>
  ⟨((List.pairwise_cons.mp h.up).1 _ hq).1, (h.row q s (List.mem_cons_of_mem _ hq)).2.2.2.1⟩
theorem HF.later {M : Int} {w : Nat} {a : Nat × Row} {F : List (Nat × Row)} (h : HF M w (a :: F)) {v : Vec} (hv : InS M w (GF (a :: F) 0) v) {p : Nat} (hp : a.1 < p) (hz : ∀ j, j < p → j < w → Eqm M (v j) 0) : InS M w (GF F p) v :=
  (h.down p v hv hz).mono fun u ⟨q, s, h1, h2, h3⟩ => ⟨q, s, by
    rcases List.mem_cons.mp h1 with e | e
    · rw [← e] at hp
      exact absurd hp (Nat.not_lt.mpr h2)
    · exact e, h2, h3⟩
theorem HF.tail {M : Int} {w : Nat} {a : Nat × Row} {F : List (Nat × Row)} (h : HF M w (a :: F)) : HF M w F := by
  refine ⟨fun q s hq => h.row q s (List.mem_cons_of_mem _ hq), (List.pairwise_cons.mp h.up).2, fun p v hv hz => ?_⟩
  have z1 := GF.vanish h.behind hv
  have := h.later (hv.mono fun u g => g.mono) (p := max p (a.1 + 1)) (by omega) fun j hj hjw => by
    by_cases e : j < p
    · exact hz j e hjw
    · exact z1 j (by omega) hjw
  exact this.mono fun u ⟨q, s, h1, h2, h3⟩ => ⟨q, s, h1, by omega, h3⟩
theorem GF.split {M : Int} {w q : Nat} {s : Row} {F : List (Nat × Row)} {v : Vec} (h : InS M w (GF ((q, s) :: F) 0) v) : ∃ u c, InS M w (GF F 0) u ∧ ∀ j, j < w → Eqm M (v j) (u j + c * fn s j) := by
  induction h with
  | zero h0 => exact ⟨fun _ => 0, 0, .zero fun _ _ => .refl _ _, fun j hj => (h0 j hj).trans (.eq (by simp))⟩
  | add c g _ f ih =>
    obtain ⟨u, d, h1, h2⟩ := ih
    obtain ⟨q', t, h3, h4, rfl⟩ := g
    rcases List.mem_cons.mp h3 with e | e
    · cases e
      exact ⟨u, d + c, h1, fun j hj => (f j hj).trans (((h2 j hj).add (.refl _ _)).trans (.eq (by grind)))⟩
    · exact ⟨fun j => u j + c * fn t j, d, .add c ⟨q', t, e, h4, rfl⟩ h1 fun _ _ => .refl _ _, fun j hj => (f j hj).trans (((h2 j hj).add (.refl _ _)).trans (.eq (by grind)))⟩
theorem enum_mem {M : Int} (hM : 2 ≤ M) {w : Nat} : ∀ {F : List (Nat × Row)}, HF M w F → ∀ v, v ∈ enumF M w F ↔ v.length = w ∧ RRed M v ∧ InS M w (GF F 0) (fn v)
  | [], _, v => by
    unfold enumF
    constructor
    · intro h
      rw [List.mem_singleton.mp h]
      exact ⟨by simp, fun x hx => by rw [List.eq_of_mem_replicate hx]; omega, .zero fun j _ => .eq (zeros_fn w j)⟩
    · rintro ⟨h1, h2, h3⟩
      refine List.mem_singleton.mpr (row_eqm h1 (by simp) h2 (fun x hx => by rw [List.eq_of_mem_replicate hx]; omega) fun j hj => ?_)
      rw [zeros_fn]
      cases h3 with
      | zero h0 => exact h0 j hj
      | add _ g _ _ => exact nomatch g.choose_spec.choose_spec.1
  | (q, s) :: F, h, v => by
    have ih := enum_mem hM h.tail
    obtain ⟨r1, r2, r3, r4, r5, r6⟩ := h.row q s List.mem_cons_self
    have hdiv : fn s q * (M / fn s q) = M := Int.mul_ediv_cancel' r6
    have hn : 1 ≤ M / fn s q := Int.le_ediv_of_mul_le (by omega) (by have := Int.le_of_dvd (by omega) r6; omega)
    unfold enumF
    rw [List.mem_flatMap]
    constructor
    · rintro ⟨c, hc, hv⟩
      obtain ⟨u, hu, rfl⟩ := List.mem_map.mp hv
      obtain ⟨u1, u2, u3⟩ := (ih u).mp hu
      refine ⟨by simp [addRow, u1, r2], addRow_red (by omega) _ _ _, .add (c : Int) ⟨q, s, List.mem_cons_self, Nat.zero_le _, rfl⟩ (u3.mono fun x g => g.mono) fun j hj => ?_⟩
      rw [addRow_at (by omega) (by omega)]
      exact Eqm.mod _ _
    · rintro ⟨h1, h2, h3⟩
      obtain ⟨u, c, g1, g2⟩ := GF.split h3
      have ns : InS M w (GF F 0) fun j => M / fn s q * fn s j := by
        refine (h.later (p := q + 1) (InS.scale (M / fn s q) (.of ⟨q, s, List.mem_cons_self, Nat.zero_le _, rfl⟩) fun _ _ => .refl _ _) (Nat.lt_succ_self _) fun j hj hjw => ?_).mono fun x ⟨a, b, c1, c2, c3⟩ => ⟨a, b, c1, Nat.zero_le _, c3⟩
        rcases Nat.lt_succ_iff_lt_or_eq.mp hj with e | e
        · rw [fn_at (r4 j e), Int.mul_zero]
          exact .refl _ _
        · subst e
          rw [Int.mul_comm, hdiv]
          exact ⟨1, by simp⟩
      have hc1 := Int.emod_nonneg c (show M / fn s q ≠ 0 by omega)
      have hc2 := Int.emod_lt_of_pos c (show 0 < M / fn s q by omega)
      have hce := Int.emod_add_mul_ediv c (M / fn s q)
      have hu' : InS M w (GF F 0) fun j => u j + c / (M / fn s q) * (M / fn s q * fn s j) := g1.comb 1 (c / (M / fn s q)) ns fun j _ => .eq (by simp)
      obtain ⟨m1, m2, m3⟩ := rowMod_ok (show 1 ≤ M by omega) w fun j => u j + c / (M / fn s q) * (M / fn s q * fn s j)
      refine ⟨(c % (M / fn s q)).toNat, List.mem_range.mpr (by omega), List.mem_map.mpr ⟨rowMod M w fun j => u j + c / (M / fn s q) * (M / fn s q * fn s j), (ih _).mpr ⟨m1, m2, hu'.congr fun j hj => by rw [m3 j hj]; exact Eqm.mod _ _⟩, ?_⟩⟩
      refine row_eqm (w := w) (by simp [addRow, m1, r2]) h1 (addRow_red (by omega) _ _ _) h2 fun j hj => ?_
      rw [addRow_at (by omega) (by omega), m3 j hj, Int.toNat_of_nonneg hc1]
      refine (Eqm.mod _ _).trans (((Eqm.mod _ _).add (.refl _ _)).trans (Eqm.trans (.eq ?_) (g2 j hj).symm))
      have : c * fn s j = (c % (M / fn s q) + M / fn s q * (c / (M / fn s q))) * fn s j := by rw [hce]
      rw [this]
      grind
theorem enum_nodup {M : Int} (hM : 2 ≤ M) {w : Nat} : ∀ {F : List (Nat × Row)}, HF M w F → (enumF M w F).Nodup
  | [], _ => by simp [enumF]
  | (q, s) :: F, h => by
    have ih := enum_nodup hM h.tail
    have im := enum_mem hM h.tail
    obtain ⟨r1, r2, r3, r4, r5, r6⟩ := h.row q s List.mem_cons_self
    have hdiv : fn s q * (M / fn s q) = M := Int.mul_ediv_cancel' r6
    unfold enumF
    refine List.pairwise_flatMap.mpr ⟨fun c _ => ?_, ?_⟩
    · rw [List.pairwise_map]
      refine List.Pairwise.imp_of_mem (fun {a b} ha hb hab z => hab ?_) ih
      obtain ⟨a1, a2, _⟩ := (im a).mp ha
      obtain ⟨b1, b2, _⟩ := (im b).mp hb
      refine row_eqm (w := w) a1 b1 a2 b2 fun j hj => ?_
      have e : fn (addRow M a (c : Int) s) j = fn (addRow M b (c : Int) s) j := by rw [z]
      rw [addRow_at (by omega) (by omega), addRow_at (by omega) (by omega)] at e
      obtain ⟨k, e⟩ := Eqm.of e
      exact ⟨k, by omega⟩
    · refine List.Pairwise.imp_of_mem (fun {a b} ha hb hab x hx y hy z => ?_) (List.pairwise_lt_range (n := (M / fn s q).toNat))
      obtain ⟨u, hu, rfl⟩ := List.mem_map.mp hx
      obtain ⟨u', hu', rfl⟩ := List.mem_map.mp hy
      obtain ⟨a1, a2, a3⟩ := (im u).mp hu
      obtain ⟨b1, b2, b3⟩ := (im u').mp hu'
      have z1 : fn u q = 0 := red_zero (GF.vanish h.behind a3 q (Nat.le_refl _) r1) (by have := fn_red a2 (j := q) (by omega); omega) (by have := fn_red a2 (j := q) (by omega); omega)
      have z2 : fn u' q = 0 := red_zero (GF.vanish h.behind b3 q (Nat.le_refl _) r1) (by have := fn_red b2 (j := q) (by omega); omega) (by have := fn_red b2 (j := q) (by omega); omega)
      have e : fn (addRow M u (a : Int) s) q = fn (addRow M u' (b : Int) s) q := by rw [z]
      rw [addRow_at (by omega) (by omega), addRow_at (by omega) (by omega), z1, z2] at e
      have la : (a : Int) * fn s q < M := by
        have h1 : (a : Int) + 1 ≤ M / fn s q := by have := List.mem_range.mp ha; omega
        have h2 : fn s q * ((a : Int) + 1) ≤ fn s q * (M / fn s q) := Int.mul_le_mul_of_nonneg_left h1 (by omega)
        rw [hdiv, Int.mul_add, Int.mul_comm] at h2
        omega
      have lb : (b : Int) * fn s q < M := by
        have h1 : (b : Int) + 1 ≤ M / fn s q := by have := List.mem_range.mp hb; omega
        have h2 : fn s q * ((b : Int) + 1) ≤ fn s q * (M / fn s q) := Int.mul_le_mul_of_nonneg_left h1 (by omega)
        rw [hdiv, Int.mul_add, Int.mul_comm] at h2
        omega
      rw [Int.zero_add, Int.zero_add, Int.emod_eq_of_lt (Int.mul_nonneg (by omega) (by omega)) la, Int.emod_eq_of_lt (Int.mul_nonneg (by omega) (by omega)) lb] at e
      have := Int.eq_of_mul_eq_mul_right (by omega) e
      omega
/-- two lists of the same rows, each once, are of one length -/
theorem same_length {α : Type} {L L' : List α} (h : L.Nodup) (h' : L'.Nodup) (e : ∀ a, a ∈ L ↔ a ∈ L') : L.length = L'.length := ((List.perm_ext_iff_of_nodup h h').mpr e).length_eq
theorem hf_size {M : Int} (hM : 2 ≤ M) {w : Nat} {F : List (Nat × Row)} (h : HF M w F) {L : List Row} (hL : L.Nodup) (e : ∀ v, v ∈ L ↔ v.length = w ∧ RRed M v ∧ InS M w (GF F 0) (fn v)) : sizeF M (F.map (·.2)) = (L.length : Int) := by
  have piv : ∀ q s, (q, s) ∈ F → pivotOf s = fn s q := fun q s hq => by
    obtain ⟨r1, r2, r3, r4, r5, r6⟩ := h.row q s hq
    exact (pivot_at r4 (at_fn (by omega)) (by omega)).1
  unfold sizeF
  rw [size_prod F 1 piv, Int.one_mul, ← enum_len (w := w) F fun q s hq => Int.ediv_nonneg (by omega) (by have := (h.row q s hq).2.2.2.2.1; omega)]
  congr 1
  exact same_length (enum_nodup hM h) hL fun v => (enum_mem hM h v).trans (e v).symm
end Wk

/-! other rows of the same span -/
namespace Wk
def addZ (t : Int) (r s : Row) : Row := List.zipWith (fun a b => a + t * b) r s
def mulZ (t : Int) (r : Row) : Row := r.map fun x => x * t
def BM (B : Nat) (A : Mat) : Prop := ∀ r ∈ A, ∀ x ∈ r, x.natAbs ≤ B
theorem addZ_fn {t : Int} {r s : Row} (h : r.length = s.length) (j : Nat) : fn (addZ t r s) j = fn r j + t * fn s j := by
  by_cases hj : j < r.length
  · refine fn_at ?_
    unfold addZ
    rw [List.getElem?_zipWith, at_fn hj, at_fn (by omega)]
  · have z : ∀ {u : Row}, u.length = r.length → fn u j = 0 := fun {u} e => by
      unfold fn
      rw [List.getD_eq_getElem?_getD, List.getElem?_eq_none (by omega)]
      rfl
    rw [z (by simp [addZ, h]), z rfl, z h.symm]
    simp
theorem mulZ_fn {t : Int} {r : Row} (j : Nat) : fn (mulZ t r) j = fn r j * t := by
  unfold fn mulZ
  rw [List.getD_eq_getElem?_getD, List.getD_eq_getElem?_getD, List.getElem?_map]
  cases r[j]? with
  | none => simp
  | some x => rfl
theorem rw_mem {A : Mat} {i : Nat} {r : Row} (h : A[i]? = some r) : RW A (fn r) := ⟨r, List.mem_of_getElem? h, rfl⟩
theorem rw_set {A : Mat} {x : Nat} {r' : Row} {v : Vec} (h : RW (A.set x r') v) : v = fn r' ∨ ∃ i r, i ≠ x ∧ A[i]? = some r ∧ v = fn r := by
  obtain ⟨s, hs, rfl⟩ := h
  obtain ⟨i, hi⟩ := List.mem_iff_getElem?.mp hs
  by_cases e : x = i
  · subst e
    rw [List.getElem?_set] at hi
    simp at hi
    exact .inl (by rw [hi.2])
  · rw [List.getElem?_set_ne e] at hi
    exact .inr ⟨i, s, fun z => e z.symm, hi, rfl⟩
theorem rw_set_self {A : Mat} {x : Nat} {r r' : Row} (h : A[x]? = some r) : RW (A.set x r') (fn r') := rw_mem (i := x) (List.getElem?_set_self (List.getElem?_eq_some_iff.mp h).1)
theorem rw_set_ne {A : Mat} {x i : Nat} {r r' : Row} (hi : i ≠ x) (h : A[i]? = some r) : RW (A.set x r') (fn r) := rw_mem (i := i) (by rw [List.getElem?_set_ne (fun z => hi z.symm)]; exact h)
theorem span_add {M t : Int} {w x y : Nat} {A : Mat} {ra rb : Row} (hxy : x ≠ y) (ha : A[x]? = some ra) (hb : A[y]? = some rb) (hl : ra.length = rb.length) (v : Vec) : InS M w (RW (A.set x (addZ t ra rb))) v ↔ InS M w (RW A) v := by
  constructor
  · refine fun h => h.trans fun u hu => ?_
    rcases rw_set hu with rfl | ⟨i, r, _, hi, rfl⟩
    · exact InS.comb 1 t (.of (rw_mem ha)) (.of (rw_mem hb)) fun j _ => .eq (by rw [addZ_fn hl, Int.one_mul])
    · exact .of (rw_mem hi)
  · refine fun h => h.trans fun u hu => ?_
    obtain ⟨s, hs, rfl⟩ := hu
    obtain ⟨i, hi⟩ := List.mem_iff_getElem?.mp hs
    by_cases e : i = x
    · subst e
      rw [ha] at hi
      cases hi
      exact InS.comb 1 (-t) (.of (rw_set_self ha)) (.of (rw_set_ne (fun z => hxy z.symm) hb)) fun j _ => .eq (by rw [addZ_fn hl]; grind)
    · exact .of (rw_set_ne e hi)
theorem span_mul {M t u : Int} {w x : Nat} {A : Mat} {ra : Row} (ha : A[x]? = some ra) (hu : Eqm M (t * u) 1) (v : Vec) : InS M w (RW (A.set x (mulZ t ra))) v ↔ InS M w (RW A) v := by
  constructor
  · refine fun h => h.trans fun z hz => ?_
    rcases rw_set hz with rfl | ⟨i, r, _, hi, rfl⟩
    · exact InS.scale t (.of (rw_mem ha)) fun j _ => .eq (by rw [mulZ_fn, Int.mul_comm])
    · exact .of (rw_mem hi)
  · refine fun h => h.trans fun z hz => ?_
    obtain ⟨s, hs, rfl⟩ := hz
    obtain ⟨i, hi⟩ := List.mem_iff_getElem?.mp hs
    by_cases e : i = x
    · subst e
      rw [ha] at hi
      cases hi
      refine InS.scale u (.of (rw_set_self ha)) fun j _ => ?_
      rw [mulZ_fn]
      exact Eqm.trans (.eq (by simp)) (((Eqm.refl M (fn ra j)).mul hu.symm).trans (.eq (by grind)))
    · exact .of (rw_set_ne e hi)
theorem rw_rev (A : Mat) (k : Nat) (v : Vec) : RW (A.reverse ++ A.take k) v ↔ RW A v := by
  constructor
  · rintro ⟨s, hs, rfl⟩
    rcases List.mem_append.mp hs with h | h
    · exact ⟨s, List.mem_reverse.mp h, rfl⟩
    · exact ⟨s, List.mem_of_mem_take h, rfl⟩
  · rintro ⟨s, hs, rfl⟩
    exact ⟨s, List.mem_append_left _ (List.mem_reverse.mpr hs), rfl⟩
theorem InS.iffG {M : Int} {w : Nat} {P Q : Vec → Prop} (h : ∀ u, P u ↔ Q u) (v : Vec) : InS M w P v ↔ InS M w Q v := ⟨fun z => z.mono fun u g => (h u).mp g, fun z => z.mono fun u g => (h u).mpr g⟩
theorem addZ_b {B : Nat} {t : Int} {r s : Row} (ht : 0 ≤ t ∧ t ≤ 11) (hr : ∀ x ∈ r, x.natAbs ≤ B) (hs : ∀ x ∈ s, x.natAbs ≤ B) : ∀ x ∈ addZ t r s, x.natAbs ≤ 13 * B := by
  intro x hx
  obtain ⟨k, hk⟩ := List.mem_iff_getElem?.mp hx
  unfold addZ at hk
  rw [List.getElem?_zipWith] at hk
  split at hk
  · rename_i a b ea eb
    cases hk
    have h1 := hr a (List.mem_of_getElem? ea)
    have h2 := hs b (List.mem_of_getElem? eb)
    have h3 : (t * b).natAbs ≤ 11 * B := by
      rw [Int.natAbs_mul]
      exact Nat.mul_le_mul (by omega) h2
    omega
  · cases hk
theorem mulZ_b {B : Nat} {t : Int} {r : Row} (ht : 0 ≤ t ∧ t ≤ 11) (hr : ∀ x ∈ r, x.natAbs ≤ B) : ∀ x ∈ mulZ t r, x.natAbs ≤ 13 * B := by
  intro x hx
  obtain ⟨y, hy, rfl⟩ := List.mem_map.mp hx
  show (y * t).natAbs ≤ _
  have h1 := hr y hy
  rw [Int.natAbs_mul]
  have : y.natAbs * t.natAbs ≤ B * 11 := Nat.mul_le_mul h1 (by omega)
  omega
end Wk

/-! what is not spanned is parted from what is by a row -/
namespace Wk
def dotF (w : Nat) (a b : Vec) : Int := sumN w fun j => a j * b j
theorem dotF_l {M : Int} {w : Nat} {a a' b : Vec} (h : ∀ j, j < w → Eqm M (a j) (a' j)) : Eqm M (dotF w a b) (dotF w a' b) := Eqm.sum fun j hj => (h j hj).mul (.refl _ _)
theorem dotF_add (w : Nat) (a s b : Vec) (c : Int) : dotF w (fun j => a j + c * s j) b = dotF w a b + c * dotF w s b := by
  unfold dotF
  rw [← sumN_mul, ← sumN_add]
  exact sumN_congr fun j _ => by grind
theorem InS.dot {M : Int} {w : Nat} {G : Vec → Prop} {v d : Vec} (h : InS M w G v) (hd : ∀ s, G s → Eqm M (dotF w s d) 0) : Eqm M (dotF w v d) 0 := by
  induction h with
  | zero h =>
    refine (dotF_l (a' := fun _ => 0) h).trans (.eq ?_)
    unfold dotF
    rw [sumN_congr (g := fun _ => 0) (fun j _ => by simp), sumN_zero]
  | add c g h f ih =>
    refine (dotF_l f).trans ?_
    rw [dotF_add]
    exact (ih.add ((Eqm.refl M c).mul (hd _ g))).trans (.eq (by simp))
theorem dotF_put {w q : Nat} (hq : q < w) (a d : Vec) (y : Int) : dotF w a (fun j => if j = q then y else d j) = dotF w a d + a q * (y - d q) := by
  have e : ∀ j, j < w → a j * (if j = q then y else d j) = a j * d j + if j = q then a q * (y - d q) else 0 := fun j _ => by
    by_cases z : j = q
    · subst z
      rw [if_pos rfl, if_pos rfl]
      grind
    · rw [if_neg z, if_neg z]
      simp
  unfold dotF
  rw [sumN_congr e, sumN_add, sumN_one hq]
theorem eqm_dvd {M a : Int} : Eqm M a 0 ↔ M ∣ a := ⟨fun ⟨k, e⟩ => ⟨k, by rw [e]; simp⟩, fun ⟨k, e⟩ => ⟨k, by rw [e]; simp⟩⟩
theorem eqm0_of {M a b : Int} (h : Eqm M a 0) (e : b = a) : Eqm M b 0 := e ▸ h
theorem HF.reduce {M : Int} (hM : 2 ≤ M) {w : Nat} {F : List (Nat × Row)} (h : HF M w F) {v : Vec} (hv : ¬ InS M w (GF F 0) v) : ∀ (n p : Nat) (r : Vec), w = p + n → (∀ j, j < p → Eqm M (r j) 0) → InS M w (GF F 0) (fun j => v j - r j) →
    ∃ (p' : Nat) (r' : Vec) (x : Int), p' < w ∧ (∀ j, j < p' → Eqm M (r' j) 0) ∧ InS M w (GF F 0) (fun j => v j - r' j) ∧ 1 ≤ x ∧ x ∣ M ∧ ¬ x ∣ r' p' ∧ ((∀ s, (p', s) ∉ F) ∧ x = M ∨ ∃ s, (p', s) ∈ F ∧ fn s p' = x)
  | 0, p, r, e, hz, hr => (hv (hr.congr fun j hj => by
      obtain ⟨k, z⟩ := hz j (by omega)
      exact ⟨k, by rw [z]; grind⟩)).elim
  | n + 1, p, r, e, hz, hr => by
    by_cases h0 : Eqm M (r p) 0
    · refine HF.reduce hM h hv n (p + 1) r (by omega) (fun j hj => ?_) hr
      rcases Nat.lt_succ_iff_lt_or_eq.mp hj with z | z
      · exact hz j z
      · rw [z]
        exact h0
    · by_cases hs : ∃ s, (p, s) ∈ F
      · obtain ⟨s, hs⟩ := hs
        obtain ⟨a1, a2, a3, a4, a5, a6⟩ := h.row p s hs
        by_cases hd : fn s p ∣ r p
        · obtain ⟨k, hk⟩ := hd
          refine HF.reduce hM h hv n (p + 1) (fun j => r j + (-k) * fn s j) (by omega) (fun j hj => ?_) ?_
          · rcases Nat.lt_succ_iff_lt_or_eq.mp hj with z | z
            · have e0 : fn s j = 0 := fn_at (a4 j z)
              show Eqm M (r j + (-k) * fn s j) 0
              rw [e0]
              exact eqm0_of (hz j z) (by simp)
            · subst z
              refine .eq ?_
              show r j + (-k) * fn s j = 0
              rw [hk]
              grind
          · refine hr.comb 1 k (.of (s := fn s) ⟨p, s, hs, Nat.zero_le _, rfl⟩) fun j _ => .eq ?_
            grind
        · exact ⟨p, r, _, a1, hz, hr, a5, a6, hd, .inr ⟨s, hs, rfl⟩⟩
      · exact ⟨p, r, M, by omega, hz, hr, by omega, Int.dvd_refl _, fun z => h0 (eqm_dvd.mpr z), .inl ⟨fun s z => hs ⟨s, z⟩, rfl⟩⟩
theorem HF.build {M : Int} (hM : 2 ≤ M) {w : Nat} {F : List (Nat × Row)} (h : HF M w F) {p : Nat} {x : Int} (hp : p < w) (hx : 1 ≤ x) (hxM : x ∣ M) (hc : (∀ s, (p, s) ∉ F) ∧ x = M ∨ ∃ s, (p, s) ∈ F ∧ fn s p = x) :
    ∀ i, i ≤ p → ∃ d : Vec, d p = M / x ∧ (∀ j, p < j → d j = 0) ∧ (∀ j, j < p - i → d j = 0) ∧ ∀ q s, (q, s) ∈ F → p - i ≤ q → Eqm M (dotF w (fn s) d) 0
  | 0, _ => by
    refine ⟨fun j => if j = p then M / x else 0, if_pos rfl, fun j hj => if_neg (by omega), fun j hj => if_neg (by omega), fun q s hq hle => ?_⟩
    rw [dotF_put hp]
    have z : dotF w (fn s) (fun _ => 0) = 0 := by
      unfold dotF
      rw [sumN_congr (g := fun _ => 0) (fun j _ => by simp), sumN_zero]
    rw [z]
    obtain ⟨a1, a2, a3, a4, a5, a6⟩ := h.row q s hq
    by_cases e : q = p
    · subst e
      rcases hc with ⟨hn, _⟩ | ⟨t, ht, e2⟩
      · exact absurd hq (hn s)
      · rw [h.one hq ht, e2]
        obtain ⟨k, rfl⟩ := hxM
        rw [Int.mul_ediv_cancel_left _ (by omega)]
        exact ⟨1, by grind⟩
    · rw [fn_at (a4 p (by omega))]
      exact .eq (by simp)
  | i + 1, hi => by
    obtain ⟨d, d1, d2, d3, d4⟩ := HF.build hM h hp hx hxM hc i (by omega)
    by_cases hs : ∃ s, (p - (i + 1), s) ∈ F
    · obtain ⟨s, hs⟩ := hs
      obtain ⟨a1, a2, a3, a4, a5, a6⟩ := h.row _ s hs
      have hdv : fn s (p - (i + 1)) ∣ dotF w (fn s) d := by
        obtain ⟨m, hm⟩ := a6
        have hml : M / fn s (p - (i + 1)) = m := by
          rw [hm, Int.mul_ediv_cancel_left _ (by omega)]
        have g : InS M w (GF F (p - (i + 1) + 1)) fun j => m * fn s j := by
          refine h.down _ _ ((InS.of (s := fn s) ⟨_, s, hs, Nat.zero_le _, rfl⟩).scale m fun j _ => .refl _ _) fun j hj hw => ?_
          rcases Nat.lt_succ_iff_lt_or_eq.mp hj with z | z
          · exact .eq (by rw [fn_at (a4 j z)]; simp)
          · subst z
            exact ⟨1, by grind⟩
        have g2 := g.dot (d := d) fun u ⟨q, t, h1, h2, e⟩ => e ▸ d4 q t h1 (by omega)
        have e : dotF w (fun j => m * fn s j) d = m * dotF w (fn s) d := by
          unfold dotF
          rw [← sumN_mul]
          exact sumN_congr fun j _ => by grind
        rw [e] at g2
        obtain ⟨k, hk⟩ := g2
        have hm0 : m ≠ 0 := fun z => by rw [z] at hm; omega
        refine ⟨k, Int.eq_of_mul_eq_mul_left hm0 ?_⟩
        rw [hk]
        grind
      obtain ⟨k, hk⟩ := hdv
      refine ⟨fun j => if j = p - (i + 1) then -k else d j, (if_neg (by omega)).trans d1, fun j hj => (if_neg (by omega)).trans (d2 j hj), fun j hj => (if_neg (by omega)).trans (d3 j (by omega)), fun q t hq hle => ?_⟩
      rw [dotF_put (by omega), d3 (p - (i + 1)) (by omega)]
      by_cases e : q = p - (i + 1)
      · subst e
        rw [h.one hq hs, hk]
        exact .eq (by grind)
      · rw [fn_at ((h.row q t hq).2.2.2.1 (p - (i + 1)) (by omega))]
        exact eqm0_of (d4 q t hq (by omega)) (by simp)
    · refine ⟨d, d1, d2, fun j hj => d3 j (by omega), fun q t hq hle => d4 q t hq ?_⟩
      by_cases e : q = p - (i + 1)
      · subst e
        exact absurd ⟨t, hq⟩ hs
      · omega
/-- a row that parts what is not spanned from what is -/
theorem HF.dual {M : Int} (hM : 2 ≤ M) {w : Nat} {F : List (Nat × Row)} (h : HF M w F) {v : Vec} (hv : ¬ InS M w (GF F 0) v) : ∃ d : Vec, (∀ s, GF F 0 s → Eqm M (dotF w s d) 0) ∧ ¬ Eqm M (dotF w v d) 0 := by
  obtain ⟨p, r, x, hp, hz, hr, x1, xM, hx, hc⟩ := HF.reduce hM h hv w 0 v (by omega) (fun j hj => absurd hj (Nat.not_lt_zero _)) (.zero fun j _ => .eq (by grind))
  obtain ⟨d, d1, d2, d3, d4⟩ := HF.build hM h hp x1 xM hc p (Nat.le_refl _)
  have g : ∀ s, GF F 0 s → Eqm M (dotF w s d) 0 := fun s ⟨q, t, h1, _, e⟩ => e ▸ d4 q t h1 (by omega)
  refine ⟨d, g, fun z => hx ?_⟩
  have e1 : Eqm M (dotF w r d) 0 := by
    have := hr.dot g
    have e2 : dotF w (fun j => v j - r j) d = dotF w v d - dotF w r d := by
      have := dotF_add w v r d (-1)
      rw [show (fun j => v j + (-1) * r j) = fun j => v j - r j from funext fun j => by grind] at this
      rw [this]
      grind
    rw [e2] at this
    obtain ⟨a, ha⟩ := this
    obtain ⟨b, hb⟩ := z
    exact ⟨b - a, by grind⟩
  have e2 : Eqm M (dotF w r d) (r p * (M / x)) := by
    have e : Eqm M (dotF w r d) (sumN w fun j => if j = p then r p * (M / x) else 0) := Eqm.sum fun j hj => by
      by_cases z : j = p
      · subst z
        rw [if_pos rfl, d1]
        exact .refl _ _
      · rw [if_neg z]
        rcases Nat.lt_or_gt_of_ne z with q | q
        · exact ((hz j q).mul (.refl _ _)).trans (.eq (by simp))
        · rw [d2 j q]
          exact .eq (by simp)
    rw [sumN_one hp] at e
    exact e
  obtain ⟨k, hk⟩ := e2.symm.trans e1
  obtain ⟨m, rfl⟩ := xM
  rw [Int.mul_ediv_cancel_left _ (by omega)] at hk
  have hm0 : m ≠ 0 := fun z => by rw [z] at hM; omega
  refine ⟨k, Int.eq_of_mul_eq_mul_left hm0 ?_⟩
  have : r p * m = x * m * k := by rw [hk]; grind
  grind
end Wk

/-! rows put into stairs one behind the other, what is left of them put into stairs of their own -/
namespace Wk
inductive PutsR (M : Int) (W n : Nat) : List Row → List (Option Row) → Prop
  | nil : PutsR M W n [] (List.replicate n none)
  | snoc {L : List Row} {S S' : List (Option Row)} {a r' : Row} : PutsR M W n L S → a.length = W → RRed M a → Ch M S a n S' r' → PutsR M W n (L ++ [a]) S'
theorem none_rep {n q : Nat} {s : Row} (h : (List.replicate n (none : Option Row))[q]? = some (some s)) : False := by
  rw [List.getElem?_replicate] at h
  split at h <;> cases h
theorem PutsR.wf {M : Int} (hM : 2 ≤ M) {W n : Nat} {L : List Row} {S : List (Option Row)} (p : PutsR M W n L S) : WF M W n S := by
  induction p with
  | nil => exact ⟨by simp, fun i s e => (none_rep e).elim⟩
  | snoc p h h2 c ih => exact (c.wf hM ih h h2).1
theorem PutsR.rows {M : Int} {W n : Nat} {L : List Row} {S : List (Option Row)} (p : PutsR M W n L S) : ∀ a ∈ L, a.length = W ∧ RRed M a := by
  induction p with
  | nil => exact fun a h => nomatch h
  | snoc p h h2 c ih =>
    intro a ha
    rcases List.mem_append.mp ha with ha | ha
    · exact ih a ha
    · rw [List.mem_singleton.mp ha]
      exact ⟨h, h2⟩
theorem PutsR.span {M : Int} (hM : 2 ≤ M) {W n : Nat} {L : List Row} {S : List (Option Row)} (p : PutsR M W n L S) : (∀ a ∈ L, InS M n (GS S 0) (fn a)) ∧ JJ M n S := by
  induction p with
  | nil => exact ⟨(fun a h => nomatch h), fun q s x h => (none_rep h).elim⟩
  | snoc p h h2 c ih =>
    obtain ⟨i1, i2⟩ := ih
    obtain ⟨d1, d2⟩ := c.done hM (p.wf hM) h h2 i2
    refine ⟨fun b hb => ?_, d2⟩
    rcases List.mem_append.mp hb with hb | hb
    · exact (i1 b hb).trans fun v hv => d1 v (.inl hv)
    · rw [List.mem_singleton.mp hb]
      exact d1 _ (.inr rfl)
theorem PutsR.closed {M : Int} {Pd : Row → Prop} {W n : Nat} {L : List Row} {S : List (Option Row)} (hm : ∀ f r, Pd r → Pd (mulRow M f r)) (hc : ∀ f r g s, Pd r → Pd s → Pd (comb M f r g s)) (p : PutsR M W n L S)
    (hL : ∀ a ∈ L, Pd a) : ∀ (q : Nat) (s : Row), S[q]? = some (some s) → Pd s := by
  induction p with
  | nil => exact fun q s h => (none_rep h).elim
  | snoc p h h2 c ih => exact (c.closed hm hc (ih fun a ha => hL a (List.mem_append_left _ ha)) (hL _ (List.mem_append_right _ (List.mem_singleton.mpr rfl)))).1
theorem PutsR.iff {M : Int} (hM : 2 ≤ M) {W n : Nat} {L : List Row} {S : List (Option Row)} (p : PutsR M W n L S) (v : Vec) : InS M n (GS S 0) v ↔ InS M n (RW L) v := by
  have hc := p.closed (Pd := fun r => r.length = W ∧ InS M n (RW L) (fn r)) (fun f r h => ⟨by simp [mulRow, h.1], h.2.scale f fun j _ => mul_fn j⟩) (fun f r g s h h2 => ⟨by simp [comb, h.1, h2.1], h.2.comb f g h2.2 fun j _ => comb_fn (by rw [h.1, h2.1]) j⟩)
    (fun a ha => ⟨(p.rows a ha).1, .of ⟨a, ha, rfl⟩⟩)
  refine ⟨fun h => h.trans fun u hu => ?_, fun h => h.trans fun u hu => ?_⟩
  · obtain ⟨q, s, _, h2, rfl⟩ := hu
    exact (hc q s h2).2
  · obtain ⟨a, ha, rfl⟩ := hu
    exact (p.span hM).1 a ha
/-! stairs and, behind them, stairs for what is left -/
def liftK (w : Nat) (K : List (Option Row)) : List (Option Row) := K.map (Option.map (List.replicate w 0 ++ ·))
theorem liftK_at {w : Nat} {K : List (Option Row)} {q : Nat} : (liftK w K)[q]? = K[q]?.map (Option.map (List.replicate w 0 ++ ·)) := List.getElem?_map ..
theorem PutStep.left {M : Int} {p : Nat} {S S' T : List (Option Row)} {r r' : Row} {N : Int} (h : PutStep M p S r N S' r') (hp : p < S.length) : PutStep M p (S ++ T) r N (S' ++ T) r' := by
  rcases h with ⟨e0, g, lf, f, hg, g1, hbz, rfl, rfl⟩ | ⟨s, P, e0, hP, ⟨h0, rfl, rfl⟩ | ⟨g, lf, f, hg, g1, hbz, rfl, rfl⟩⟩
  · exact .inl ⟨by rw [List.getElem?_append_left hp]; exact e0, g, lf, f, hg, g1, hbz, by rw [List.set_append_left _ _ hp], rfl⟩
  · exact .inr ⟨s, P, by rw [List.getElem?_append_left hp]; exact e0, hP, .inl ⟨h0, rfl, rfl⟩⟩
  · exact .inr ⟨s, P, by rw [List.getElem?_append_left hp]; exact e0, hP, .inr ⟨g, lf, f, hg, g1, hbz, by rw [List.set_append_left _ _ hp], rfl⟩⟩
theorem PutStep.len {M : Int} {p : Nat} {S S' : List (Option Row)} {r r' : Row} {N : Int} (h : PutStep M p S r N S' r') : S'.length = S.length := by
  rcases h with ⟨e0, g, lf, f, hg, g1, hbz, rfl, rfl⟩ | ⟨s, P, e0, hP, ⟨h0, rfl, rfl⟩ | ⟨g, lf, f, hg, g1, hbz, rfl, rfl⟩⟩ <;> simp
theorem PutStep.here {M : Int} {p : Nat} {S S' : List (Option Row)} {r r' : Row} {N : Int} (h : PutStep M p S r N S' r') : p < S.length := by
  rcases h with ⟨e0, _⟩ | ⟨s, P, e0, _⟩ <;> exact (List.getElem?_eq_some_iff.mp e0).1
theorem Ch.len {M : Int} {i : Nat} {S0 S : List (Option Row)} {r0 r : Row} (c : Ch M S0 r0 i S r) : S.length = S0.length := by
  induction c with
  | base => rfl
  | skip c h ih => exact ih
  | step c h h1 st ih => rw [st.len, ih]
theorem Ch.left {M : Int} {i : Nat} {S0 S T : List (Option Row)} {r0 r : Row} (c : Ch M S0 r0 i S r) : Ch M (S0 ++ T) r0 i (S ++ T) r := by
  induction c with
  | base => exact .base
  | skip c h ih => exact .skip ih h
  | step c h h1 st ih => exact .step ih h h1 (st.left st.here)
theorem zpad_mul {M f : Int} {w : Nat} {r : Row} : mulRow M f (List.replicate w 0 ++ r) = List.replicate w 0 ++ mulRow M f r := by
  simp [mulRow]
theorem zpad_comb {M f g : Int} {w : Nat} {r s : Row} : comb M f (List.replicate w 0 ++ r) g (List.replicate w 0 ++ s) = List.replicate w 0 ++ comb M f r g s := by
  unfold comb
  rw [List.zipWith_append (by simp)]
  simp [List.zipWith_replicate]
theorem PutStep.lift {M : Int} {w p : Nat} {S K K' : List (Option Row)} {r r' : Row} {N : Int} (hS : S.length = w) (h : PutStep M p K r N K' r') : PutStep M (w + p) (S ++ liftK w K) (List.replicate w 0 ++ r) N (S ++ liftK w K') (List.replicate w 0 ++ r') := by
  have at_ : ∀ {q : Nat}, (S ++ liftK w K)[w + q]? = K[q]?.map (Option.map (List.replicate w 0 ++ ·)) := fun {q} => by
    rw [List.getElem?_append_right (by omega), hS, Nat.add_sub_cancel_left, liftK_at]
  have set_ : ∀ {s : Row}, S ++ liftK w (K.set p (some s)) = (S ++ liftK w K).set (w + p) (some (List.replicate w 0 ++ s)) := fun {s} => by
    rw [List.set_append_right _ _ (by omega), hS, Nat.add_sub_cancel_left]
    unfold liftK
    rw [List.map_set]
    rfl
  have get_ : ∀ {s : Row} {P : Int}, s[p]? = some P → (List.replicate w (0 : Int) ++ s)[w + p]? = some P := fun {s P} e => by
    rw [List.getElem?_append_right (by simp), List.length_replicate, Nat.add_sub_cancel_left]
    exact e
  rcases h with ⟨e0, g, lf, f, hg, g1, hbz, rfl, rfl⟩ | ⟨s, P, e0, hP, ⟨h0, rfl, rfl⟩ | ⟨g, lf, f, hg, g1, hbz, rfl, rfl⟩⟩
  · exact .inl ⟨by rw [at_, e0]; rfl, g, lf, f, hg, g1, hbz, by rw [set_, zpad_mul], zpad_mul.symm⟩
  · exact .inr ⟨_, P, by rw [at_, e0]; rfl, get_ hP, .inl ⟨h0, rfl, zpad_comb.symm⟩⟩
  · exact .inr ⟨_, P, by rw [at_, e0]; rfl, get_ hP, .inr ⟨g, lf, f, hg, g1, hbz, by rw [set_, zpad_comb], zpad_comb.symm⟩⟩
theorem zpad_drop {w : Nat} {r : Row} (hz : ∀ j, j < w → r[j]? = some 0) : r = List.replicate w 0 ++ r.drop w := by
  apply List.ext_getElem?
  intro j
  by_cases h : j < w
  · rw [hz j h, List.getElem?_append_left (by simpa using h), List.getElem?_replicate, if_pos h]
  · rw [List.getElem?_append_right (by simp; omega), List.length_replicate, List.getElem?_drop]
    congr 1
    omega
theorem zpad_at {w q : Nat} {r : Row} : (List.replicate w (0 : Int) ++ r)[w + q]? = r[q]? := by
  rw [List.getElem?_append_right (by simp), List.length_replicate, Nat.add_sub_cancel_left]
theorem Ch.join {M : Int} {w : Nat} {S S' : List (Option Row)} {r0 r : Row} (c : Ch M S r0 w S' r) (hS : S.length = w) (hz : ∀ j, j < w → r[j]? = some 0) {K K' : List (Option Row)} {t : Row} {i : Nat} (d : Ch M K (r.drop w) i K' t) :
    Ch M (S ++ liftK w K) r0 (w + i) (S' ++ liftK w K') (List.replicate w 0 ++ t) := by
  have hS' : S'.length = w := by rw [c.len, hS]
  induction d with
  | base =>
    rw [← zpad_drop hz]
    exact c.left
  | skip d h ih => exact .skip (i := w + _) ih (zpad_at.trans h)
  | step d h h1 st ih => exact .step (i := w + _) ih (zpad_at.trans h) h1 (st.lift hS')
inductive Solv (M : Int) (w m : Nat) : List Row → List (Option Row) → List (Option Row) → Prop
  | nil : Solv M w m [] (List.replicate w none) (List.replicate m none)
  | snoc {L : List Row} {S S' K K' : List (Option Row)} {a r t : Row} : Solv M w m L S K → a.length = w + m → RRed M a → Ch M S a w S' r → Ch M K (r.drop w) m K' t → Solv M w m (L ++ [a]) S' K'
theorem Solv.left {M : Int} {w m : Nat} {L : List Row} {S K : List (Option Row)} (p : Solv M w m L S K) : PutsR M (w + m) w L S := by
  induction p with
  | nil => exact .nil
  | snoc p h h2 c d ih => exact .snoc ih h h2 c
theorem Solv.both {M : Int} (hM : 2 ≤ M) {w m : Nat} {L : List Row} {S K : List (Option Row)} (p : Solv M w m L S K) : PutsR M (w + m) (w + m) L (S ++ liftK w K) := by
  induction p with
  | nil =>
    have e : List.replicate w none ++ liftK w (List.replicate m none) = List.replicate (w + m) (none : Option Row) := by
      unfold liftK
      rw [List.map_replicate]
      exact List.replicate_append_replicate
    rw [e]
    exact .nil
  | snoc p h h2 c d ih =>
    have wf := p.left.wf hM
    exact .snoc ih h h2 (c.join wf.len (c.wf hM wf h h2).2.2.2 d)
theorem Solv.lenK {M : Int} {w m : Nat} {L : List Row} {S K : List (Option Row)} (p : Solv M w m L S K) : K.length = m := by
  induction p with
  | nil => simp
  | snoc p h h2 c d ih => rw [d.len, ih]
theorem Solv.wfK {M : Int} (hM : 2 ≤ M) {w m : Nat} {L : List Row} {S K : List (Option Row)} (p : Solv M w m L S K) : WF M m m K := by
  induction p with
  | nil => exact ⟨by simp, fun i s e => (none_rep e).elim⟩
  | snoc p h h2 c d ih =>
    obtain ⟨_, a, b, _⟩ := c.wf hM (p.left.wf hM) h h2
    exact (d.wf hM ih (by simp [a]) fun x hx => b x (List.mem_of_mem_drop hx)).1
theorem both_at {w q : Nat} {S K : List (Option Row)} {s : Row} (hS : S.length = w) : (S ++ liftK w K)[w + q]? = some (some s) ↔ ∃ t, K[q]? = some (some t) ∧ s = List.replicate w 0 ++ t := by
  rw [List.getElem?_append_right (by omega), hS, Nat.add_sub_cancel_left, liftK_at]
  cases K[q]? with
  | none => simp
  | some o => cases o with
    | none => simp
    | some t => simp [eq_comm]
theorem zpad_fn {w : Nat} {t : Row} (j : Nat) : fn (List.replicate w 0 ++ t) (w + j) = fn t j := by
  have := fn_right (a := List.replicate w (0 : Int)) (b := t) (j := j)
  rwa [List.length_replicate] at this
/-- what the rows behind span, by themselves -/
theorem behind_span {M : Int} {w m p : Nat} {S K : List (Option Row)} (hS : S.length = w) {v : Vec} (h : InS M (w + m) (GS (S ++ liftK w K) (w + p)) v) : InS M m (GS K p) fun j => v (w + j) := by
  induction h with
  | zero h => exact .zero fun j hj => h (w + j) (by omega)
  | add c g h f ih =>
    obtain ⟨q, s, h1, h2, rfl⟩ := g
    have eq : q = w + (q - w) := by omega
    rw [eq] at h2
    obtain ⟨t, h3, rfl⟩ := (both_at hS).mp h2
    refine ih.sum ((InS.of (s := fn t) ⟨q - w, t, by omega, h3, rfl⟩).scale c fun j _ => .refl _ _) fun j hj => (f (w + j) (by omega)).trans (.eq ?_)
    rw [zpad_fn]
theorem Solv.jjK {M : Int} (hM : 2 ≤ M) {w m : Nat} {L : List Row} {S K : List (Option Row)} (p : Solv M w m L S K) : JJ M m K := by
  intro q s x hq hx
  have hS := (p.left.wf hM).len
  have := ((p.both hM).span hM).2 (w + q) (List.replicate w 0 ++ s) x ((both_at hS).mpr ⟨s, hq, rfl⟩) (by
    rw [List.getElem?_append_right (by simp), List.length_replicate, Nat.add_sub_cancel_left]
    exact hx)
  refine (behind_span (p := q + 1) hS this).congr fun j hj => .eq ?_
  show _ = M / x * fn (List.replicate w 0 ++ s) (w + j)
  rw [zpad_fn]
/-- the marked rows of a matrix, in any order -/
structure Marks (M : Int) (w m : Nat) (A : Mat) (L : List Row) : Prop where
  of : ∀ a ∈ L, ∃ k r, k < m ∧ A[k]? = some r ∧ a = markOf M m r k
  all : ∀ (k : Nat) (r : Row), A[k]? = some r → markOf M m r k ∈ L
  len : A.length = m
  row : ∀ r ∈ A, r.length = w
theorem Marks.rel {M : Int} {w m : Nat} {A : Mat} {L : List Row} (h : Marks M w m A L) : ∀ a ∈ L, RelM M w m A a := fun a ha => by
  obtain ⟨k, r, hk, hr, rfl⟩ := h.of a ha
  exact .mark hk (h.row r (List.mem_of_getElem? hr)) hr
/-- the stairs for what is left span the rows with which the matrix' rows add up to 0 -/
theorem Solv.kernel {M : Int} (hM : 2 ≤ M) {w m : Nat} {A : Mat} {L : List Row} {S K : List (Option Row)} (p : Solv M w m L S K) (h : Marks M w m A L) (c : Vec) : InS M m (GS K 0) c ↔ ∀ j, j < w → Eqm M (sumN m fun k => c k * ent A k j) 0 := by
  have hS := (p.left.wf hM).len
  have B := p.both hM
  constructor
  · intro hc
    have hrel := B.closed RelM.mul RelM.comb h.rel
    intro j hj
    induction hc with
    | zero z =>
      refine (Eqm.sum (g := fun _ => 0) fun k hk => ((z k hk).mul (.refl _ _)).trans (.eq (by simp))).trans (.eq (sumN_zero m))
    | add d g hh f ih =>
      rename_i s0 v w'
      obtain ⟨q, s, _, h2, rfl⟩ := g
      have r := (hrel (w + q) _ ((both_at hS).mpr ⟨s, h2, rfl⟩)).2 j hj
      have e0 : fn (List.replicate w 0 ++ s) j = 0 := fn_at (by rw [List.getElem?_append_left (by simpa using hj), List.getElem?_replicate, if_pos hj])
      rw [e0] at r
      have r2 : Eqm M (sumN m fun k => fn s k * ent A k j) 0 := by
        refine Eqm.trans (.eq (sumN_congr fun k _ => ?_)) r.symm
        rw [zpad_fn]
      refine (Eqm.sum (g := fun k => v k * ent A k j + d * (fn s k * ent A k j)) fun k hk => ((f k hk).mul (.refl _ (ent A k j))).trans (.eq (by rw [Int.add_mul, Int.mul_assoc]))).trans ?_
      rw [sumN_add, sumN_mul]
      exact (ih.add ((Eqm.refl M d).mul r2)).trans (.eq (by simp))
  · intro hc
    -- (0 | c) is a sum of the marked rows
    let v : Vec := fun j => if j < w then 0 else c (j - w)
    have hv : InS M (w + m) (RW L) v := by
      have e : ∀ k, k < m → ∃ r, A[k]? = some r := fun k hk => ⟨A[k]'(by rw [h.len]; exact hk), List.getElem?_eq_getElem _⟩
      refine InS.sumN (m := m) (v := fun k => fn (markOf M m (A.getD k []) k)) c (fun k hk => ?_) fun j hj => ?_
      · obtain ⟨r, hr⟩ := e k hk
        rw [show A.getD k [] = r by rw [List.getD_eq_getElem?_getD, hr]; rfl]
        exact .of ⟨_, h.all k r hr, rfl⟩
      · by_cases z : j < w
        · show Eqm M (if j < w then 0 else c (j - w)) _
          rw [if_pos z]
          refine ((hc j z).symm).trans (Eqm.sum fun k hk => (Eqm.refl _ _).mul ?_)
          obtain ⟨r, hr⟩ := e k hk
          rw [show A.getD k [] = r by rw [List.getD_eq_getElem?_getD, hr]; rfl, ent_at hr]
          exact (mark_fn (h.row r (List.mem_of_getElem? hr)) z).symm
        · show Eqm M (if j < w then 0 else c (j - w)) _
          rw [if_neg z]
          have e2 : ∀ k, k < m → c k * fn (markOf M m (A.getD k []) k) j = if k = j - w then c (j - w) else 0 := fun k hk => by
            obtain ⟨r, hr⟩ := e k hk
            rw [show A.getD k [] = r by rw [List.getD_eq_getElem?_getD, hr]; rfl]
            have hl := h.row r (List.mem_of_getElem? hr)
            have : fn (markOf M m r k) j = if j - w = k then 1 else 0 := by
              unfold markOf
              have e4 : j = (r.map (· % M)).length + (j - w) := by rw [List.length_map, hl]; omega
              rw [e4, fn_right, fn_unit (by omega), List.length_map, hl, Nat.add_sub_cancel_left]
            rw [this]
            by_cases q : k = j - w
            · rw [if_pos q, if_pos q.symm, q, Int.mul_one]
            · rw [if_neg q, if_neg (Ne.symm q), Int.mul_zero]
          rw [sumN_congr e2, sumN_one (by omega)]
          exact .refl _ _
    have hv2 := (B.iff hM v).mpr hv
    have J := (B.span hM).2
    have wf := B.wf hM
    have down : ∀ i, i ≤ w → InS M (w + m) (GS (S ++ liftK w K) i) v := by
      intro i
      induction i with
      | zero => exact fun _ => hv2
      | succ i ih =>
        intro hi
        refine InS.down wf J (by omega) (ih (by omega)) ?_
        show Eqm M (if i < w then 0 else c (i - w)) 0
        rw [if_pos (by omega)]
        exact .refl _ _
    refine (behind_span (p := 0) hS (down w (Nat.le_refl _))).congr fun j hj => .eq ?_
    show c j = if w + j < w then 0 else c (w + j - w)
    rw [if_neg (by omega), Nat.add_sub_cancel_left]
/-- the settled rows of it are the howell form of all of them -/
theorem Solv.hf {M : Int} (hM : 2 ≤ M) {w m : Nat} {L : List Row} {S K : List (Option Row)} (p : Solv M w m L S K) : HF M m (settle M m K m) := settle_hf hM (p.wfK hM) rfl (p.jjK hM)
theorem Solv.form {M : Int} (hM : 2 ≤ M) {w m : Nat} {A : Mat} {L : List Row} {S K : List (Option Row)} (p : Solv M w m L S K) (h : Marks M w m A L) (c : Vec) : InS M m (GF (settle M m K m) 0) c ↔ ∀ j, j < w → Eqm M (sumN m fun k => c k * ent A k j) 0 :=
  (settle_span hM (p.wfK hM) (Nat.le_refl _) m (Nat.le_refl _) 0 (by omega) c).trans (p.kernel hM h c)
/-- stairs by their first numbers alone -/
def cutS (w : Nat) (S : List (Option Row)) : List (Option Row) := S.map (Option.map (List.take w))
theorem cutS_at {w q : Nat} {S : List (Option Row)} {s : Row} : (cutS w S)[q]? = some (some s) ↔ ∃ t, S[q]? = some (some t) ∧ s = t.take w := by
  unfold cutS
  rw [List.getElem?_map]
  cases S[q]? with
  | none => simp
  | some o => cases o with
    | none => simp
    | some t => simp [eq_comm]
theorem take_fn {w j : Nat} {t : Row} (hj : j < w) : fn (t.take w) j = fn t j := by
  unfold fn
  rw [List.getD_eq_getElem?_getD, List.getD_eq_getElem?_getD, List.getElem?_take, if_pos hj]
theorem cut_span {M : Int} {w p : Nat} {S : List (Option Row)} (v : Vec) : InS M w (GS (cutS w S) p) v ↔ InS M w (GS S p) v := by
  constructor
  · refine fun h => h.trans fun u ⟨q, s, h1, h2, e⟩ => ?_
    obtain ⟨t, h3, rfl⟩ := cutS_at.mp h2
    subst e
    exact (InS.of (s := fn t) ⟨q, t, h1, h3, rfl⟩).congr fun j hj => .eq (take_fn hj)
  · refine fun h => h.trans fun u ⟨q, t, h1, h2, e⟩ => ?_
    subst e
    exact (InS.of (s := fn (t.take w)) ⟨q, _, h1, cutS_at.mpr ⟨t, h2, rfl⟩, rfl⟩).congr fun j hj => .eq (take_fn hj).symm
theorem WF.cut {M : Int} {W w : Nat} {S : List (Option Row)} (wf : WF M W w S) (hW : w ≤ W) : WF M w w (cutS w S) := by
  refine ⟨by unfold cutS; rw [List.length_map]; exact wf.len, fun i s e => ?_⟩
  obtain ⟨t, h, rfl⟩ := cutS_at.mp e
  obtain ⟨a, b, ⟨x, hx, x1, x2⟩, d⟩ := wf.row i t h
  have hi : i < w := by
    have := (List.getElem?_eq_some_iff.mp h).1
    rw [wf.len] at this
    exact this
  exact ⟨by simp [a]; omega, fun y hy => b y (List.mem_of_mem_take hy), ⟨x, by rw [List.getElem?_take, if_pos hi]; exact hx, x1, x2⟩, fun j hj => by rw [List.getElem?_take, if_pos (by omega)]; exact d j hj⟩
theorem JJ.cut {M : Int} {W w : Nat} {S : List (Option Row)} (wf : WF M W w S) (J : JJ M w S) : JJ M w (cutS w S) := by
  intro q s x hq hx
  obtain ⟨t, h, rfl⟩ := cutS_at.mp hq
  have hi : q < w := by
    have := (List.getElem?_eq_some_iff.mp h).1
    rw [wf.len] at this
    exact this
  rw [List.getElem?_take, if_pos hi] at hx
  refine (cut_span _).mpr ((J q t x h hx).congr fun j hj => .eq ?_)
  show M / x * fn (t.take w) j = _
  rw [take_fn hj]
/-- what is not spanned by rows that were put into stairs is parted from them by a row -/
theorem PutsR.dual {M : Int} (hM : 2 ≤ M) {W w : Nat} {L : List Row} {S : List (Option Row)} (p : PutsR M W w L S) (hW : w ≤ W) {v : Vec} (hv : ¬ InS M w (RW L) v) : ∃ d : Vec, (∀ a ∈ L, Eqm M (dotF w (fn a) d) 0) ∧ ¬ Eqm M (dotF w v d) 0 := by
  have wf := p.wf hM
  have J := (p.span hM).2
  have hf := settle_hf hM (wf.cut hW) rfl (J.cut wf)
  have e : ∀ u, InS M w (GF (settle M w (cutS w S) w) 0) u ↔ InS M w (RW L) u := fun u =>
    (settle_span hM (wf.cut hW) (Nat.le_refl _) w (Nat.le_refl _) 0 (by omega) u).trans ((cut_span u).trans (p.iff hM u))
  obtain ⟨d, h1, h2⟩ := hf.dual hM fun z => hv ((e v).mp z)
  exact ⟨d, fun a ha => ((e _).mpr (.of ⟨a, ha, rfl⟩)).dot h1, h2⟩
end Wk

/-! all rows -/
namespace Wk
def exts (M : Int) (r : Row) : List Row := (List.range M.toNat).map fun x : Nat => r ++ [(x : Int)]
/-- all rows of numbers below M -/
def allR (M : Int) : Nat → List Row
  | 0 => [[]]
  | n + 1 => (allR M n).flatMap (exts M)
theorem allR_mem {M : Int} : ∀ {n : Nat} {r : Row}, r ∈ allR M n ↔ r.length = n ∧ RRed M r
  | 0, r => by
    unfold allR
    rw [List.mem_singleton]
    exact ⟨fun h => ⟨by rw [h]; rfl, by rw [h]; exact fun x hx => nomatch hx⟩, fun h => List.length_eq_zero_iff.mp h.1⟩
  | n + 1, r => by
    unfold allR
    rw [List.mem_flatMap]
    constructor
    · rintro ⟨s, hs, h⟩
      obtain ⟨x, hx, rfl⟩ := List.mem_map.mp h
      obtain ⟨a, b⟩ := allR_mem.mp hs
      have hx := List.mem_range.mp hx
      refine ⟨by simp [a], fun y hy => ?_⟩
      rcases List.mem_append.mp hy with hy | hy
      · exact b y hy
      · rw [List.mem_singleton.mp hy]
        omega
    · rintro ⟨h1, h2⟩
      obtain ⟨s, x, rfl⟩ : ∃ s x, r = s ++ [x] := by
        rcases List.eq_nil_or_concat r with rfl | ⟨s, x, rfl⟩
        · cases h1
        · exact ⟨s, x, by simp⟩
      have hx := h2 x (by simp)
      refine ⟨s, allR_mem.mpr ⟨by simpa using h1, fun y hy => h2 y (by simp [hy])⟩, List.mem_map.mpr ⟨x.toNat, List.mem_range.mpr (by omega), ?_⟩⟩
      rw [Int.toNat_of_nonneg hx.1]
theorem exts_nodup {M : Int} (r : Row) : (exts M r).Nodup := by
  unfold exts
  rw [List.nodup_iff_pairwise_ne]
  refine List.Pairwise.map _ (fun x y hxy h => hxy ?_) (List.nodup_iff_pairwise_ne.mp List.nodup_range)
  have := List.append_cancel_left h
  simp at this
  omega
theorem allR_nodup {M : Int} : ∀ n, (allR M n).Nodup
  | 0 => by simp [allR]
  | n + 1 => by
    unfold allR
    have ih := allR_nodup (M := M) n
    generalize allR M n = L at ih
    induction L with
    | nil => simp
    | cons a L ihL =>
      rw [List.nodup_cons] at ih
      rw [List.flatMap_cons, List.nodup_append]
      refine ⟨exts_nodup a, ihL ih.2, ?_⟩
      intro x hx y hy hxy
      subst hxy
      obtain ⟨i, _, rfl⟩ := List.mem_map.mp hx
      obtain ⟨b, hb, h2⟩ := List.mem_flatMap.mp hy
      obtain ⟨j, _, h3⟩ := List.mem_map.mp h2
      have : b = a := (List.append_inj' h3 rfl).1
      exact ih.1 (this ▸ hb)
theorem exts_len {M : Int} (L : List Row) : (L.flatMap (exts M)).length = L.length * M.toNat := by
  induction L with
  | nil => simp
  | cons a L ihL =>
    rw [List.flatMap_cons, List.length_append, ihL, List.length_cons]
    have : (exts M a).length = M.toNat := by simp [exts]
    rw [this, Nat.succ_mul]
    omega
theorem allR_len {M : Int} : ∀ n, (allR M n).length = M.toNat ^ n
  | 0 => rfl
  | n + 1 => by
    unfold allR
    rw [exts_len, allR_len n, Nat.pow_succ]
theorem allR_few {M : Int} (hM : M ≤ 12) {n : Nat} (hn : n ≤ 4) : (allR M n).length ≤ 20736 := by
  rw [allR_len]
  exact Nat.le_trans (Nat.pow_le_pow_left (show M.toNat ≤ 12 by omega) n) (Nat.pow_le_pow_right (by decide) hn)
theorem nodup_one {α : Type} {L : List α} {a : α} (h : L.Nodup) (ha : a ∈ L) (e : ∀ b ∈ L, b = a) : L.length = 1 := by
  match L, h, ha, e with
  | [x], _, _, _ => rfl
  | x :: y :: L, h, _, e =>
    rw [List.nodup_cons] at h
    have h1 := e x (by simp)
    have h2 := e y (by simp)
    exact absurd (by rw [h1, ← h2]; simp) h.1
theorem two_not_one {α : Type} {L : List α} {a b : α} (ha : a ∈ L) (hb : b ∈ L) (n : a ≠ b) : L.length ≠ 1 := by
  intro z
  match L, z with
  | [x], _ =>
    rw [List.mem_singleton] at ha hb
    exact n (ha.trans hb.symm)
end Wk

/-! what a matrix takes to 0, by rows -/
namespace Wk
theorem applyM_at {M : Int} {h w : Nat} {A : Mat} (sA : Shp h w A) {r : Row} (lr : r.length = w) {i : Nat} (hi : i < h) : (applyM M A r)[i]? = some ((sumN w fun k => ent A i k * fn r k) % M) := by
  obtain ⟨l, hl, ll⟩ := shp_at sA hi
  unfold applyM
  rw [List.getElem?_map, hl]
  show some (dotZ l r % M) = _
  rw [dot_sum w l r ll lr]
  congr 2
  exact sumN_congr fun k _ => by rw [ent_at hl]; rfl
theorem applyM_zero {M : Int} (hM : 2 ≤ M) {h w : Nat} {A : Mat} (sA : Shp h w A) {r : Row} (lr : r.length = w) : applyM M A r = List.replicate h 0 ↔ ∀ i, i < h → Eqm M (sumN w fun k => ent A i k * fn r k) 0 := by
  constructor
  · intro e i hi
    have := applyM_at (M := M) sA lr hi
    rw [e, List.getElem?_replicate, if_pos hi] at this
    exact eqm_dvd.mpr (Int.dvd_of_emod_eq_zero (Option.some.inj this).symm)
  · intro e
    apply List.ext_getElem?
    intro i
    by_cases hi : i < h
    · rw [applyM_at sA lr hi, List.getElem?_replicate, if_pos hi, Int.emod_eq_zero_of_dvd (eqm_dvd.mp (e i hi))]
    · rw [List.getElem?_eq_none (by simp [applyM, sA.1]; omega), List.getElem?_eq_none (by simp; omega)]
theorem zeros_mod {M : Int} (h : Nat) : (List.replicate h (0 : Int)).map (· % M) = List.replicate h 0 := by
  rw [List.map_replicate]
  simp
theorem back_of {M : Int} (hM : 2 ≤ M) {h w : Nat} {A B : Mat} (sA : Shp h w A) (sB : Shp w h B) (e : ∀ i j, i < w → j < w → Eqm M (sumN h fun k => ent B i k * ent A k j) (oneF i j)) : prodM M w B A = idM w := by
  refine mat_ext (prod_shp sB) (one_shp w) fun i j hi hj => ?_
  rw [ent_prod sB sA hi hj, one_ent hi hj, (e i j hi hj).emod]
  unfold oneF
  split
  · exact Int.emod_eq_of_lt (by omega) (by omega)
  · simp
theorem len_le {α : Type} [DecidableEq α] : ∀ {L L' : List α}, L.Nodup → (∀ x ∈ L, x ∈ L') → L.length ≤ L'.length
  | [], _, _, _ => Nat.zero_le _
  | a :: L, L', hn, hs => by
    rw [List.nodup_cons] at hn
    have ha := hs a List.mem_cons_self
    have := len_le (L := L) (L' := L'.erase a) hn.2 fun x hx => (List.mem_erase_of_ne (show x ≠ a from fun z => hn.1 (z ▸ hx))).mpr (hs x (List.mem_cons_of_mem _ hx))
    rw [List.length_erase_of_mem ha] at this
    have := List.length_pos_of_mem ha
    rw [List.length_cons]
    omega
theorem map_nodup {α β : Type} {f : α → β} : ∀ {L : List α}, L.Nodup → (∀ x ∈ L, ∀ y ∈ L, f x = f y → x = y) → (L.map f).Nodup
  | [], _, _ => List.nodup_nil
  | a :: L, hn, hf => by
    rw [List.nodup_cons] at hn
    rw [List.map_cons, List.nodup_cons]
    refine ⟨fun h => ?_, map_nodup hn.2 fun x hx y hy => hf x (List.mem_cons_of_mem _ hx) y (List.mem_cons_of_mem _ hy)⟩
    obtain ⟨b, hb, e⟩ := List.mem_map.mp h
    have := hf b (List.mem_cons_of_mem _ hb) a List.mem_cons_self e
    exact hn.1 (this ▸ hb)
/-- a matrix that keeps all rows apart has as many rows as numbers in a row, at least -/
theorem wide_le {M : Int} (hM : 2 ≤ M) {h w : Nat} {A : Mat} (sA : Shp h w A) (hk : ∀ c : Vec, (∀ i, i < h → Eqm M (sumN w fun k => ent A i k * c k) 0) → ∀ k, k < w → Eqm M (c k) 0) : w ≤ h := by
  have key : (allR M w).length ≤ (allR M h).length := by
    have h1 := len_le (L := (allR M w).map (applyM M A)) (L' := allR M h) (map_nodup (allR_nodup w) fun x hx y hy e => ?_) fun z hz => ?_
    · rwa [List.length_map] at h1
    · obtain ⟨lx, rx⟩ := allR_mem.mp hx
      obtain ⟨ly, ry⟩ := allR_mem.mp hy
      refine row_eqm lx ly rx ry fun j hj => ?_
      have := hk (fun k => fn x k - fn y k) (fun i hi => ?_) j hj
      · obtain ⟨a, ha⟩ := this
        exact ⟨a, by omega⟩
      · have e1 := applyM_at (M := M) sA lx hi
        rw [e, applyM_at sA ly hi] at e1
        have e2 := Eqm.of (Option.some.inj e1).symm
        have e3 : (sumN w fun k => ent A i k * (fn x k - fn y k)) = (sumN w fun k => ent A i k * fn x k) + -1 * sumN w fun k => ent A i k * fn y k := by
          rw [← sumN_mul, ← sumN_add]
          exact sumN_congr fun k _ => by grind
        rw [e3]
        obtain ⟨a, ha⟩ := e2
        exact ⟨a, by rw [ha]; grind⟩
    · obtain ⟨x, hx, rfl⟩ := List.mem_map.mp hz
      refine allR_mem.mpr ⟨by simp [applyM, sA.1], fun v hv => ?_⟩
      obtain ⟨l, _, rfl⟩ := List.mem_map.mp hv
      exact mod_red (by omega) _
  rw [allR_len, allR_len] at key
  exact (Nat.pow_le_pow_iff_right (show 1 < M.toNat by omega)).mp key
end Wk

/-! kernels as howell forms, wishes, how many solutions -/
namespace Wk
def Rels (M : Int) (h m : Nat) (A : Mat) (c : Vec) : Prop := ∀ j, j < h → Eqm M (sumN m fun k => c k * ent A k j) 0
theorem ent_cols {h w : Nat} {A : Mat} (s : Shp h w A) {i k : Nat} (hi : i < h) (hk : k < w) : ent (colsOf w A) k i = ent A i k := by
  obtain ⟨r, e, _⟩ := shp_at s hi
  unfold colsOf
  rw [ent_at (r := A.map fun r => r.getD k 0) (by rw [List.getElem?_map, List.getElem?_range hk]; rfl), ent_at e, List.getD_eq_getElem?_getD, List.getElem?_map, e]
  rfl
theorem rels_cols {M : Int} {h w : Nat} {A : Mat} (s : Shp h w A) (c : Vec) : Rels M h w (colsOf w A) c ↔ ∀ i, i < h → Eqm M (sumN w fun k => ent A i k * c k) 0 := by
  have e : ∀ i, i < h → (sumN w fun k => c k * ent (colsOf w A) k i) = sumN w fun k => ent A i k * c k := fun i hi => sumN_congr fun k hk => by rw [ent_cols s hi hk, Int.mul_comm]
  exact ⟨fun z i hi => e i hi ▸ z i hi, fun z i hi => (e i hi).symm ▸ z i hi⟩
theorem colsOf_shp {h w : Nat} {A : Mat} (s : A.length = h) : Shp w h (colsOf w A) := ⟨by simp [colsOf], fun r hr => by
  obtain ⟨j, _, rfl⟩ := List.mem_map.mp hr
  simp [s]⟩
/-- the howell form of all rows that A takes to 0 -/
def KerOf (M : Int) (h w : Nat) (A : Mat) (F : List (Nat × Row)) : Prop := HF M w F ∧ ∀ c, InS M w (GF F 0) c ↔ ∀ i, i < h → Eqm M (sumN w fun k => ent A i k * c k) 0
theorem KerOf.one {M : Int} (hM : 2 ≤ M) {h w : Nat} {A : Mat} {F F' : List (Nat × Row)} (a : KerOf M h w A F) (b : KerOf M h w A F') : F = F' := a.1.unique hM b.1 fun v => (a.2 v).trans (b.2 v).symm
/-- a solution -/
def Sol (M : Int) (h w : Nat) (A : Mat) (wish c : Vec) : Prop := ∀ i, i < h → Eqm M (sumN w fun k => ent A i k * c k) (wish i)
/-- a row that shows that there is none -/
def NoSol (M : Int) (h w : Nat) (A : Mat) (wish left : Vec) : Prop := (∀ j, j < w → Eqm M (sumN h fun i => left i * ent A i j) 0) ∧ ¬ Eqm M (sumN h fun i => left i * wish i) 0
theorem NoSol.no {M : Int} {h w : Nat} {A : Mat} {wish left c : Vec} (n : NoSol M h w A wish left) (s : Sol M h w A wish c) : False := by
  apply n.2
  have e1 : Eqm M (sumN h fun i => left i * wish i) (sumN h fun i => sumN w fun k => left i * ent A i k * c k) := Eqm.sum fun i hi => by
    refine ((Eqm.refl M (left i)).mul (s i hi).symm).trans (.eq ?_)
    rw [← sumN_mul]
    exact sumN_congr fun k _ => by grind
  refine e1.trans ?_
  rw [sumN_comm]
  refine (Eqm.sum (g := fun _ => 0) fun k hk => ?_).trans (.eq (sumN_zero w))
  have e2 : (sumN h fun i => left i * ent A i k * c k) = c k * sumN h fun i => left i * ent A i k := by
    rw [← sumN_mul]
    exact sumN_congr fun i _ => by grind
  rw [e2]
  exact ((Eqm.refl M (c k)).mul (n.1 k hk)).trans (.eq (by simp))
theorem Marks.span {M : Int} {w m : Nat} {A : Mat} {L : List Row} (h : Marks M w m A L) (v : Vec) : InS M w (RW L) v ↔ InS M w (RW A) v := by
  constructor
  · refine fun z => z.trans fun u ⟨a, ha, e⟩ => ?_
    obtain ⟨k, r, hk, hr, rfl⟩ := h.of a ha
    subst e
    exact (InS.of (s := fn r) ⟨r, List.mem_of_getElem? hr, rfl⟩).congr fun j hj => mark_fn (h.row r (List.mem_of_getElem? hr)) hj
  · refine fun z => z.trans fun u ⟨r, hr, e⟩ => ?_
    subst e
    obtain ⟨k, hk⟩ := List.mem_iff_getElem?.mp hr
    exact (InS.of (s := fn (markOf M m r k)) ⟨_, h.all k r hk, rfl⟩).congr fun j hj => (mark_fn (h.row r hr) hj).symm
/-- wishes that the columns do not span have no solution -/
theorem span_sol {M : Int} {h w : Nat} {A : Mat} (s : Shp h w A) {wish : Vec} : InS M h (RW (colsOf w A)) wish ↔ ∃ c, Sol M h w A wish c := by
  obtain ⟨cl, cw⟩ := colsOf_shp (A := A) (w := w) s.1
  constructor
  · intro z
    obtain ⟨c, hc⟩ := z.coef
    rw [cl] at hc
    refine ⟨c, fun i hi => ((hc i hi).trans (.eq (sumN_congr fun k hk => ?_))).symm⟩
    rw [ent_cols s hi hk, Int.mul_comm]
  · rintro ⟨c, hc⟩
    refine InS.sums c fun i hi => ((hc i hi).symm).trans (.eq ?_)
    rw [cl]
    exact sumN_congr fun k hk => by rw [ent_cols s hi hk, Int.mul_comm]
/-- among the rows that part, one parts the wish -/
theorem witness_row {M : Int} (hM : 2 ≤ M) {h : Nat} {F G : List (Nat × Row)} (hF : HF M h F) (hG : HF M h G) (e : ∀ c, InS M h (GF G 0) c ↔ ∀ q s, (q, s) ∈ F → Eqm M (dotF h (fn s) c) 0) {wish : Vec} (hw : ¬ InS M h (GF F 0) wish) : ∃ q s, (q, s) ∈ G ∧ ¬ Eqm M (dotF h wish (fn s)) 0 := by
  obtain ⟨d, d1, d2⟩ := hF.dual hM hw
  apply Classical.byContradiction
  intro hn
  have hd : InS M h (GF G 0) d := (e d).mpr fun q s hq => d1 _ ⟨q, s, hq, Nat.zero_le _, rfl⟩
  apply d2
  have comm : ∀ a b : Vec, dotF h a b = dotF h b a := fun a b => sumN_congr fun k _ => Int.mul_comm _ _
  rw [comm]
  refine hd.dot fun u ⟨q, s, hq, _, z⟩ => ?_
  subst z
  rw [comm]
  apply Classical.byContradiction
  intro hne
  exact hn ⟨q, s, hq, hne⟩
def subRow (M : Int) (x y : Row) : Row := List.zipWith (fun a b => (a - b) % M) x y
def addR (M : Int) (x y : Row) : Row := List.zipWith (fun a b => (a + b) % M) x y
theorem zip_fn {f : Int → Int → Int} {x y : Row} {w : Nat} (hx : x.length = w) (hy : y.length = w) {j : Nat} (hj : j < w) : fn (List.zipWith f x y) j = f (fn x j) (fn y j) := by
  refine fn_at ?_
  rw [List.getElem?_zipWith, at_fn (show j < x.length by omega), at_fn (show j < y.length by omega)]
theorem zip_red {M : Int} (hM : 1 ≤ M) {f : Int → Int → Int} (x y : Row) : RRed M (List.zipWith (fun a b => f a b % M) x y) := fun z hz => by
  obtain ⟨k, hk⟩ := List.mem_iff_getElem?.mp hz
  rw [List.getElem?_zipWith] at hk
  split at hk
  · cases hk
    exact mod_red hM _
  · cases hk
def solL (M : Int) (w : Nat) (A : Mat) (wish : Row) : List Row := (allR M w).filter fun r => decide (applyM M A r = wish.map (· % M))
theorem applyM_wish {M : Int} (hM : 2 ≤ M) {h w : Nat} {A : Mat} (sA : Shp h w A) {r wish : Row} (lr : r.length = w) (lw : wish.length = h) : applyM M A r = wish.map (· % M) ↔ Sol M h w A (fn wish) (fn r) := by
  constructor
  · intro e i hi
    have := applyM_at (M := M) sA lr hi
    rw [e, List.getElem?_map, at_fn (show i < wish.length by omega)] at this
    exact (Eqm.of (Option.some.inj this)).symm
  · intro e
    apply List.ext_getElem?
    intro i
    by_cases hi : i < h
    · rw [applyM_at sA lr hi, List.getElem?_map, at_fn (show i < wish.length by omega)]
      exact congrArg some (e i hi).emod
    · rw [List.getElem?_eq_none (by simp [applyM, sA.1]; omega), List.getElem?_eq_none (by simp; omega)]
theorem sol_memW {M : Int} (hM : 2 ≤ M) {h w : Nat} {A : Mat} (sA : Shp h w A) {r wish : Row} (lw : wish.length = h) : r ∈ solL M w A wish ↔ r.length = w ∧ RRed M r ∧ Sol M h w A (fn wish) (fn r) := by
  unfold solL
  rw [List.mem_filter, allR_mem]
  constructor
  · rintro ⟨⟨a, b⟩, c⟩
    exact ⟨a, b, (applyM_wish hM sA a lw).mp (of_decide_eq_true c)⟩
  · rintro ⟨a, b, c⟩
    exact ⟨⟨a, b⟩, decide_eq_true ((applyM_wish hM sA a lw).mpr c)⟩
theorem solL_nodup {M : Int} {w : Nat} {A : Mat} {wish : Row} : (solL M w A wish).Nodup := (allR_nodup w).filter _
theorem Sol.add {M : Int} {h w : Nat} {A : Mat} {a b c d e : Vec} (s : Sol M h w A a c) (t : Sol M h w A b d) (f : Int) (he : ∀ k, k < w → Eqm M (e k) (c k + f * d k)) : Sol M h w A (fun i => a i + f * b i) e := fun i hi => by
  refine (Eqm.sum (g := fun k => ent A i k * c k + f * (ent A i k * d k)) fun k hk => ((Eqm.refl M (ent A i k)).mul (he k hk)).trans (.eq (by grind))).trans ?_
  rw [sumN_add, sumN_mul]
  exact (s i hi).add ((Eqm.refl M f).mul (t i hi))
theorem zip_of {M : Int} {f : Int} {x y : Row} {w : Nat} (hx : x.length = w) (hy : y.length = w) {j : Nat} (hj : j < w) : Eqm M (fn (List.zipWith (fun a b => (a + f * b) % M) x y) j) (fn x j + f * fn y j) := by
  rw [zip_fn hx hy hj]
  exact Eqm.mod _ _
/-- as many solutions as for 0 -/
theorem sol_count {M : Int} (hM : 2 ≤ M) {h w : Nat} {A : Mat} (sA : Shp h w A) {wish x0 : Row} (lw : wish.length = h) (h0 : x0 ∈ solL M w A wish) : (solL M w A wish).length = (solL M w A (List.replicate h 0)).length := by
  have lz : (List.replicate h (0 : Int)).length = h := by simp
  obtain ⟨l0, r0, s0⟩ := (sol_memW hM sA lw).mp h0
  have key : ∀ (f : Int) (L L' : List Row), L.Nodup → (∀ x ∈ L, x.length = w ∧ RRed M x) → (∀ x ∈ L, List.zipWith (fun a b => (a + f * b) % M) x x0 ∈ L') → L.length ≤ L'.length := by
    intro f L L' hn hL hm
    have := len_le (L := L.map fun x => List.zipWith (fun a b => (a + f * b) % M) x x0) (L' := L') (map_nodup hn fun x hx y hy e => ?_) fun z hz => ?_
    · rwa [List.length_map] at this
    · obtain ⟨lx, rx⟩ := hL x hx
      obtain ⟨ly, ry⟩ := hL y hy
      refine row_eqm lx ly rx ry fun j hj => ?_
      have e1 := zip_of (M := M) (f := f) lx l0 hj
      have e2 := zip_of (M := M) (f := f) ly l0 hj
      rw [e] at e1
      obtain ⟨a, ha⟩ := e1.symm.trans e2
      exact ⟨a, by omega⟩
    · obtain ⟨x, hx, rfl⟩ := List.mem_map.mp hz
      exact hm x hx
  have zf : ∀ i, fn (List.replicate h (0 : Int)) i = 0 := fun i => zeros_fn h i
  apply Nat.le_antisymm
  · refine key (-1) _ _ solL_nodup (fun x hx => ?_) fun x hx => ?_
    · obtain ⟨a, b, _⟩ := (sol_memW hM sA lw).mp hx
      exact ⟨a, b⟩
    · obtain ⟨a, b, c⟩ := (sol_memW hM sA lw).mp hx
      refine (sol_memW hM sA lz).mpr ⟨by simp [a, l0], zip_red (by omega) (f := fun a b => a + -1 * b) _ _, fun i hi => ?_⟩
      refine (Sol.add c s0 (-1) (fun k hk => zip_of a l0 hk) i hi).trans (.eq ?_)
      rw [zf]
      show fn wish i + -1 * fn wish i = 0
      omega
  · refine key 1 _ _ solL_nodup (fun x hx => ?_) fun x hx => ?_
    · obtain ⟨a, b, _⟩ := (sol_memW hM sA lz).mp hx
      exact ⟨a, b⟩
    · obtain ⟨a, b, c⟩ := (sol_memW hM sA lz).mp hx
      refine (sol_memW hM sA lw).mpr ⟨by simp [a, l0], zip_red (by omega) (f := fun a b => a + 1 * b) _ _, fun i hi => ?_⟩
      refine (Sol.add c s0 1 (fun k hk => zip_of a l0 hk) i hi).trans (.eq ?_)
      show fn (List.replicate h (0 : Int)) i + 1 * fn wish i = fn wish i
      rw [zf]
      omega
theorem ker_count {M : Int} (hM : 2 ≤ M) {h w : Nat} {A : Mat} (sA : Shp h w A) {F : List (Nat × Row)} (k : KerOf M h w A F) : sizeF M (F.map (·.2)) = ((solL M w A (List.replicate h 0)).length : Int) := by
  refine hf_size hM k.1 solL_nodup fun v => ?_
  rw [sol_memW hM sA (by simp), k.2]
  exact ⟨fun ⟨a, b, c⟩ => ⟨a, b, fun i hi => (c i hi).trans (.eq (zeros_fn h i))⟩, fun ⟨a, b, c⟩ => ⟨a, b, fun i hi => (c i hi).trans (.eq (zeros_fn h i).symm)⟩⟩
theorem HF.few {M : Int} {w : Nat} {F : List (Nat × Row)} (h : HF M w F) : F.length ≤ w := by
  have key : ∀ {G : List (Nat × Row)} {b : Nat}, G.Pairwise (fun a b => a.1 < b.1 ∧ fn a.2 b.1 < fn b.2 b.1) → (∀ q s, (q, s) ∈ G → b ≤ q ∧ q < w) → G.length + b ≤ max w b := by
    intro G
    induction G with
    | nil => exact fun _ _ => by simp; omega
    | cons a G ih =>
      intro b hp hq
      rw [List.pairwise_cons] at hp
      have h1 := hq a.1 a.2 List.mem_cons_self
      have h2 := ih (b := a.1 + 1) hp.2 fun q s hs => ⟨(hp.1 _ hs).1, (hq q s (List.mem_cons_of_mem _ hs)).2⟩
      rw [List.length_cons]
      omega
  have := key (b := 0) h.up fun q s hs => ⟨Nat.zero_le _, (h.row q s hs).1⟩
  omega
end Wk

/-! enumerate of a list or a tuple, of the kind that the flag tells; isinstance -/
namespace Wk
open PySem PySem.Spec PyProof.Rows L2
def JEn (t : Bool) (K : PySem.W.Frag) (a : Addr) : It := if t = true then ZM.ItE K a else Ite K a
def iEnSq (t : Bool) (K : PySem.W.Frag) (ta : TA) : TI := fun σ H R => ta σ H fun vs H1 => ∃ a xs, vs = [.ref a] ∧ ZM.SqK t K H1 a xs ∧ R (JEn t K a) H1
theorem pi_enSqK {X : Cx} {K : PySem.W.Frag} (hK : X.K = K) (t : Bool) {e : Expr} {ta : TA} {p pos tpos : PySem.Pos} {elts : List Expr} {kk : Nat} (hg : Gl X "enumerate") (hm : X.mg "enumerate" = none) (ha : PA X [e] ta) (hs : starEach [e] X.env = [(false, eval e X.env)] := by rfl) :
    PI X (.Tuple elts kk tpos) (.Call (.Name "enumerate" p) [e] [] pos) (iEnSq t K ta) := by
  subst hK
  cases t
  · exact pi_enum hg hm ha hs
  · exact ZM.pi_enumT hg hm ha hs
theorem walk_enSq {K : PySem.W.Frag} {t : Bool} {a : Addr} {xs : List V} : Walk (JEn t K a) xs.length (fun H => ZM.SqK t K H a xs) (YPair (fun i => some (.int (i : Nat))) (fun i => xs[i]?)) := by
  cases t
  · exact walk_enum
  · exact ZM.walk_enuT
def tyN (t : Bool) : String := if t = true then "tuple" else "list"
theorem SqK.ty {t : Bool} {K : PySem.W.Frag} {H : Hp} {a : Addr} {xs : List V} (h : ZM.SqK t K H a xs) : TyX K H (.ref a) (.type (tyN t)) := by
  cases t
  · rcases h with (h | ⟨o, h⟩) | ⟨o, _, _, e, c, _⟩
    · exact .base (.lst h)
    · exact .base (.frz h)
    · exact .kList e c
  · rcases h with (h | ⟨o, h⟩) | ⟨o, _, _, e, c, _⟩
    · exact .base (.tup h)
    · exact .fTuple h
    · exact .kTuple e c
theorem kit_lt {K : PySem.W.Frag} (t : Bool) : PySem.W.kitAny K (.type (tyN t)) [.type "list", .type "tuple"] = some true := by
  cases t
  · exact kitAny_cons (b := true) (kit_ty (by decide +kernel)) (fun z => by cases z) (fun _ => rfl)
  · exact kitAny_cons (b := false) (kit_ty (by decide +kernel)) (fun _ => kitAny_cons (b := true) (kit_ty (by decide +kernel)) (fun z => by cases z) (fun _ => rfl)) (fun z => by cases z)
theorem call_isiTK {X : Cx} {K : PySem.W.Frag} (hK : X.K = K) : CallR X (.builtin "isinstance") (rIsiT K) := hK ▸ call_isiT
theorem call_isiK {X : Cx} {K : PySem.W.Frag} (hK : X.K = K) : CallR X (.builtin "isinstance") (rIsi K) := hK ▸ call_isi
/-- a comprehension whose items are rows, new or not -/
theorem lc_rowsT {K : PySem.W.Frag} {J : It} {n : Nat} {G : Hp → Prop} {Y : Nat → Hp → V → Hp → Prop} (w : Walk J n G Y) {g : TG} {tt : TT} {te : TE} {vs : List Nat} {σ : L2.St} {H1 : Hp} {D : Addr} {Qd : Hp → Prop} (hD : H1 D = none) (hn : n ≤ 1000000)
    (A : Mat) (hA : A.length = n) (hG : ∀ H, Same H1 H → G H)
    (hs : ∀ (i : Nat) (r : List Int) (x : V) (H H' : Hp) (Fn : V → Hp → Prop) (Nn : Hp → Prop), i < n → A[i]? = some r → (∀ p H4, Same H H4 → SqT K H4 p (r.map V.int) → Fn (.ref p) H4) → Same H1 H → Y i H x H' → g x (wipe σ vs) H' fun σ2 H2 => wipe σ2 vs = wipe σ vs ∧ tt σ2 H2 fun b H3 => if b = true then te σ2 H3 Fn else Nn H3)
    (hd : ∀ (acc : List V) H, H D = some (.lst acc) → Same H1 H → RowsAre K H acc A → Qd H) :
    ∃ W : Nat → Nat → Hp → Prop, (∃ m, W 0 m (upd H1 D (.lst []))) ∧ ∀ i m H, W i m H →
      (J.stop i H ∧ Qd H) ∨ (J.go i H ∧ ∃ Nx : Hp → Prop, (∀ H', Nx H' → ∃ m', m' < m ∧ W (i + 1) m' H') ∧ ∀ x H', J.yld i H x H' → g x (wipe σ vs) H' fun σ2 H2 => wipe σ2 vs = wipe σ vs ∧ tt σ2 H2 fun b H3 =>
        if b = true then te σ2 H3 fun y H4 => ∃ acc, H4 D = some (.lst acc) ∧ acc.length < sizeLine ∧ Nx (upd H4 D (.lst (acc ++ [y]))) else Nx H3) := by
  refine lc_rel w hD hn (fun (i : Nat) v H => ∃ (p : Addr) (r : List Int), v = V.ref p ∧ A[i]? = some r ∧ SqT K H p (r.map V.int) ∧ (p ≠ D ∨ ∀ H', SqT K H' p (r.map V.int))) (fun i v H H' ⟨p, r, h1, h3, h4, h2⟩ e => ⟨p, r, h1, h3, ?_, h2⟩) hG ?_ ?_
  · rcases h2 with h2 | h2
    · rcases h4 with (h | ⟨o, h⟩) | h
      · exact .inl (.inl (e _ _ h2 h))
      · exact .inl (.inr ⟨o, e _ _ h2 h⟩)
      · exact .inr h
    · exact h2 _
  · intro i x H H' Fn Nn fin hi sm ⟨acc, hacc⟩ hy
    have hAi : A[i]? = some (A[i]'(by omega)) := List.getElem?_eq_getElem (by omega)
    refine hs i _ x H H' Fn Nn hi hAi (fun p H4 s4 hp => fin _ _ s4 ⟨p, _, rfl, hAi, hp, ?_⟩) sm hy
    rcases hp with (h | ⟨o, h⟩) | h
    · exact .inl fun z => by rw [z, s4 _ _ hacc] at h; cases h
    · exact .inl fun z => by rw [z, s4 _ _ hacc] at h; cases h
    · exact .inr fun _ => .inr h
  · intro acc H h1 h2 sm hR
    refine hd acc H h2 sm ?_
    have key : ∀ (vs : List V) (A : Mat), vs.length = A.length → (∀ (j : Nat) (v : V), vs[j]? = some v → ∃ (p : Addr) (r : List Int), v = V.ref p ∧ A[j]? = some r ∧ SqT K H p (r.map V.int)) → RowsAre K H vs A := by
      intro vs
      induction vs with
      | nil =>
        intro A hl _
        cases A with
        | nil => exact .nil
        | cons _ _ => cases hl
      | cons v vs ih =>
        intro A hl hh
        cases A with
        | nil => cases hl
        | cons r A =>
          obtain ⟨p, r', rfl, e, h⟩ := hh 0 v rfl
          cases e
          exact .cons h (ih A (by simpa using hl) fun j v e => hh (j + 1) v e)
    exact key acc A (by omega) fun j v e => by
      obtain ⟨p, r, a, b, c, _⟩ := hR j v e
      exact ⟨p, r, a, b, c⟩
def rIsIB : R2 := fun x y H Q => ∃ (i : Int) (b : Bool), x = .int i ∧ y = .bl b ∧ Q (.bl false) H
theorem op_isIB {X : Cx} : OpR X (compareOp .Is) rIsIB := by
  intro pins s σ H x y v u Q I rx ry h
  obtain ⟨i, b, rfl, rfl, q⟩ := h
  obtain ⟨t, e⟩ := (show ∃ t, v = Value.int i t from rx)
  cases e
  cases (show u = Value.bool b from ry)
  exact wpAny_is_other rfl (fun z => nomatch z) ⟨.bl false, H, I, rfl, q⟩
end Wk

/-! any values: what they are, and as a result keeps them -/
namespace Wk
open PySem L2
abbrev s_is_integer : Stmt := top 25
theorem sc_is_integer : FnScope ["value"] ["value"] (defScope s_is_integer) := ⟨rfl, rfl, rfl, by decide +kernel, rfl, by decide +kernel, by decide +kernel⟩
abbrev s_is_list : Stmt := top 27
theorem sc_is_list : FnScope ["value"] ["value"] (defScope s_is_list) := ⟨rfl, rfl, rfl, by decide +kernel, rfl, by decide +kernel, by decide +kernel⟩

structure TxtV (mg : Str → Option Value) : Prop where
  f_isinstance : mg "isinstance" = none
  f_int : mg "int" = none
  f_bool : mg "bool" = none
  f_list : mg "list" = none
  f_tuple : mg "tuple" = none
  f_dict : mg "dict" = none
  f_len : mg "len" = none
  f_all : mg "all" = none
  f_any : mg "any" = none
def tyD : PyData → String
  | .none => "NoneType"
  | .bool _ => "bool"
  | .int _ => "int"
  | .str _ => "str"
  | .list _ => "list"
  | .tuple _ => "tuple"
  | .dict _ => "dict"
theorem _root_.L2.Dp.ty {K : PySem.W.Frag} {H : Hp} {v : V} {d : PyData} (h : Dp K H v d) : TyX K H v (.type (tyD d)) := by
  cases h with
  | non => exact .base .non
  | bl b => exact .base (.bl b)
  | int i => exact .base (.int i)
  | str x => exact .base (.str x)
  | lst h _ => exact SqK.ty (t := false) h
  | tup h _ => exact SqK.ty (t := true) h
def isIntD : PyData → Bool
  | .int _ => true
  | _ => false
def isBoolD : PyData → Bool
  | .bool _ => true
  | _ => false
def isTupD : PyData → Bool
  | .tuple _ => true
  | _ => false
def isSeqD : PyData → Bool
  | .tuple _ => true
  | .list _ => true
  | _ => false
def isDictD : PyData → Bool
  | .dict _ => true
  | _ => false
def isRowD (n : Nat) : PyData → Bool
  | .tuple ds => decide (ds.length = n) && ds.all isIntD
  | _ => false
def isMatD (h w : Nat) : PyData → Bool
  | .tuple ds => decide (ds.length = h) && ds.all (isRowD w)
  | _ => false
theorem kit_int {K : PySem.W.Frag} (d : PyData) : PySem.W.kitOne K (.type (tyD d)) (.type "int") = some (isIntD d || isBoolD d) := by
  cases d <;> exact kit_ty (by simp only [tyD, isIntD, isBoolD, isTupD, isDictD]; decide +kernel)
theorem kit_bool {K : PySem.W.Frag} (d : PyData) : PySem.W.kitOne K (.type (tyD d)) (.type "bool") = some (isBoolD d) := by
  cases d <;> exact kit_ty (by simp only [tyD, isIntD, isBoolD, isTupD, isDictD]; decide +kernel)
theorem kit_tup {K : PySem.W.Frag} (d : PyData) : PySem.W.kitOne K (.type (tyD d)) (.type "tuple") = some (isTupD d) := by
  cases d <;> exact kit_ty (by simp only [tyD, isIntD, isBoolD, isTupD, isDictD]; decide +kernel)
theorem kit_dict {K : PySem.W.Frag} (d : PyData) : PySem.W.kitOne K (.type (tyD d)) (.type "dict") = some (isDictD d) := by
  cases d <;> exact kit_ty (by simp only [tyD, isIntD, isBoolD, isTupD, isDictD]; decide +kernel)
theorem kit_seq {K : PySem.W.Frag} (d : PyData) : PySem.W.kitAny K (.type (tyD d)) [.type "list", .type "tuple"] = some (isSeqD d) := by
  cases d
  case list => exact kitAny_cons (b := true) (kit_ty (by simp only [tyD]; decide +kernel)) (fun z => by cases z) (fun _ => rfl)
  case tuple => exact kitAny_cons (b := false) (kit_ty (by simp only [tyD]; decide +kernel)) (fun _ => kitAny_cons (b := true) (kit_ty (by simp only [tyD]; decide +kernel)) (fun z => by cases z) (fun _ => rfl)) (fun z => by cases z)
  all_goals exact kitAny_cons (b := false) (kit_ty (by simp only [tyD]; decide +kernel)) (fun _ => kitAny_cons (b := false) (kit_ty (by simp only [tyD]; decide +kernel)) (fun _ => rfl) (fun z => by cases z)) (fun z => by cases z)
mutual
theorem dp_mono {K : PySem.W.Frag} {H H' : Hp} (hl : ∀ a xs, SqL K H a xs → SqL K H' a xs) (ht : ∀ a xs, SqT K H a xs → SqT K H' a xs) : ∀ (d : PyData) (v : V), Dp K H v d → Dp K H' v d
  | .none, _, h => by cases h; exact .non
  | .bool b, _, h => by cases h; exact .bl b
  | .int i, _, h => by cases h; exact .int i
  | .str x, _, h => by cases h; exact .str x
  | .list ds, _, h => by
    cases h with
    | lst hs ha => exact .lst (hl _ _ hs) (dpAll_mono hl ht ds _ ha)
  | .tuple ds, _, h => by
    cases h with
    | tup hs ha => exact .tup (ht _ _ hs) (dpAll_mono hl ht ds _ ha)
  | .dict _, _, h => by cases h
theorem dpAll_mono {K : PySem.W.Frag} {H H' : Hp} (hl : ∀ a xs, SqL K H a xs → SqL K H' a xs) (ht : ∀ a xs, SqT K H a xs → SqT K H' a xs) : ∀ (ds : List PyData) (vs : List V), DpAll K H vs ds → DpAll K H' vs ds
  | [], _, h => by cases h; exact .nil
  | d :: ds, _, h => by
    cases h with
    | cons h1 h2 => exact .cons (dp_mono hl ht d _ h1) (dpAll_mono hl ht ds _ h2)
end
theorem _root_.L2.Dp.same {K : PySem.W.Frag} {H H' : Hp} {v : V} {d : PyData} (h : Dp K H v d) (e : Same H H') : Dp K H' v d :=
  dp_mono (fun _ _ h => SqK.same (t := false) h e) (fun _ _ h => SqT.same h e) d v h
theorem _root_.L2.Dp.pen {K : PySem.W.Frag} {p : Addr} {H H' : Hp} {v : V} {d : PyData} (h : Dp K H v d) (e : But p H H') (hp : ∃ kvs, H p = some (.dK kvs)) : Dp K H' v d := by
  obtain ⟨kvs, hp⟩ := hp
  refine dp_mono (fun a xs h => ?_) (fun a xs h => ?_) d v h
  · rcases h with (h | ⟨o, h⟩) | h
    · exact .inl (.inl (e _ _ (ne_of h hp (by intro z; cases z)) h))
    · exact .inl (.inr ⟨o, e _ _ (ne_of h hp (by intro z; cases z)) h⟩)
    · exact .inr h
  · rcases h with (h | ⟨o, h⟩) | h
    · exact .inl (.inl (e _ _ (ne_of h hp (by intro z; cases z)) h))
    · exact .inl (.inr ⟨o, e _ _ (ne_of h hp (by intro z; cases z)) h⟩)
    · exact .inr h
theorem _root_.L2.Dp.ins {K : PySem.W.Frag} {p C dx : Addr} {fs : List (Str × V)} {H H' : Hp} {v : V} {d : PyData} (h : Dp K H v d) (e : But p H H') (hp : H p = some (.ins C dx fs)) : Dp K H' v d := by
  refine dp_mono (fun a xs h => ?_) (fun a xs h => ?_) d v h
  · rcases h with (h | ⟨o, h⟩) | h
    · exact .inl (.inl (e _ _ (ne_of h hp (by intro z; cases z)) h))
    · exact .inl (.inr ⟨o, e _ _ (ne_of h hp (by intro z; cases z)) h⟩)
    · exact .inr h
  · rcases h with (h | ⟨o, h⟩) | h
    · exact .inl (.inl (e _ _ (ne_of h hp (by intro z; cases z)) h))
    · exact .inl (.inr ⟨o, e _ _ (ne_of h hp (by intro z; cases z)) h⟩)
    · exact .inr h
/-- the heap without an object -/
def wo (D : Addr) (H : Hp) : Hp := fun b => if b = D then none else H b
theorem wo_same {D : Addr} {H : Hp} : Same (wo D H) H := fun b o e => by
  unfold wo at e
  split at e
  · cases e
  · exact e
theorem wo_but {D : Addr} {H H' : Hp} (h : But D H H') : Same (wo D H) (wo D H') := fun b o e => by
  unfold wo at e ⊢
  split at e
  · cases e
  · rename_i hb
    rw [if_neg hb]
    exact h b o hb e
/-- no list in it, so deep -/
def tupD : Nat → PyData → Bool
  | n + 1, .tuple ds => ds.all (tupD n)
  | _, .tuple _ => false
  | _, .list _ => false
  | _, .dict _ => false
  | _, _ => true
theorem _root_.L2.DpAll.length {K : PySem.W.Frag} {H : Hp} : ∀ {vs : List V} {ds : List PyData}, DpAll K H vs ds → vs.length = ds.length
  | _, _, .nil => rfl
  | _, _, .cons _ t => congrArg Nat.succ t.length
theorem _root_.L2.DpAll.at_ {K : PySem.W.Frag} {H : Hp} : ∀ {vs : List V} {ds : List PyData}, DpAll K H vs ds → ∀ {i : Nat} {v : V}, vs[i]? = some v → ∃ d, ds[i]? = some d ∧ Dp K H v d
  | _, _, .nil, i, v, e => by simp at e
  | _, _, .cons h t, 0, v, e => by
    cases e
    exact ⟨_, rfl, h⟩
  | _, _, .cons h t, i + 1, v, e => t.at_ (i := i) e
theorem dpAll_of {K : PySem.W.Frag} {H : Hp} : ∀ {vs : List V} {ds : List PyData}, vs.length = ds.length → (∀ (i : Nat) (v : V), vs[i]? = some v → ∃ d, ds[i]? = some d ∧ Dp K H v d) → DpAll K H vs ds
  | [], [], _, _ => .nil
  | [], _ :: _, h, _ => by cases h
  | _ :: _, [], h, _ => by cases h
  | v :: vs, d :: ds, h, k => by
    obtain ⟨d', e, q⟩ := k 0 v rfl
    cases e
    exact .cons q (dpAll_of (by simpa using h) fun i v e => k (i + 1) v e)
theorem _root_.L2.Dp.wo {K : PySem.W.Frag} {H : Hp} {D : Addr} {acc : List V} (hD : H D = some (.lst acc)) : ∀ (n : Nat) (d : PyData) (v : V), tupD n d = true → Dp K H v d → Dp K (wo D H) v d := by
  intro n
  induction n with
  | zero =>
    intro d v ht h
    cases h with
    | non => exact .non
    | bl b => exact .bl b
    | int i => exact .int i
    | str x => exact .str x
    | lst h _ => cases ht
    | tup h _ => cases ht
  | succ n ih =>
    intro d v ht h
    cases h with
    | non => exact .non
    | bl b => exact .bl b
    | int i => exact .int i
    | str x => exact .str x
    | lst h _ => cases ht
    | tup h ha =>
      rename_i a xs ds
      have ht2 : ds.all (tupD n) = true := ht
      refine .tup ?_ (dpAll_of ha.length fun i v e => ?_)
      · have hk : ∀ o, (∀ xs, o ≠ HO.lst xs) → H a = some o → Wk.wo D H a = some o := fun o hn e => by
          unfold Wk.wo
          rw [if_neg (fun z => by rw [z, hD] at e; cases e; exact hn _ rfl)]
          exact e
        rcases h with (h | ⟨o, h⟩) | h
        · exact .inl (.inl (hk _ (by intro xs z; cases z) h))
        · exact .inl (.inr ⟨o, hk _ (by intro xs z; cases z) h⟩)
        · exact .inr h
      · obtain ⟨d, e2, hd⟩ := ha.at_ e
        exact ⟨d, e2, ih d v (List.all_eq_true.mp ht2 d (List.mem_of_getElem? e2)) hd⟩
/-- as a result keeps it -/
def frzN : Nat → PyData → PyData
  | n + 1, .list ds => .tuple (ds.map (frzN n))
  | n + 1, .tuple ds => .tuple (ds.map (frzN n))
  | _, d => d
/-- so deep, no dicts, not too long -/
def fitD : Nat → PyData → Bool
  | n + 1, .tuple ds => decide (ds.length ≤ 100000) && ds.all (fitD n)
  | n + 1, .list ds => decide (ds.length ≤ 100000) && ds.all (fitD n)
  | 0, .tuple _ => false
  | 0, .list _ => false
  | _, .dict _ => false
  | _, _ => true
theorem frz_tup : ∀ (n : Nat) (d : PyData), fitD n d = true → tupD n (frzN n d) = true
  | 0, d, h => by cases d <;> first | rfl | cases h
  | n + 1, d, h => by
    cases d with
    | list ds =>
      have h2 : (decide (ds.length ≤ 100000) && ds.all (fitD n)) = true := h
      rw [Bool.and_eq_true] at h2
      show (ds.map (frzN n)).all (tupD n) = true
      rw [List.all_map, List.all_eq_true]
      exact fun x hx => frz_tup n x (List.all_eq_true.mp h2.2 x hx)
    | tuple ds =>
      have h2 : (decide (ds.length ≤ 100000) && ds.all (fitD n)) = true := h
      rw [Bool.and_eq_true] at h2
      show (ds.map (frzN n)).all (tupD n) = true
      rw [List.all_map, List.all_eq_true]
      exact fun x hx => frz_tup n x (List.all_eq_true.mp h2.2 x hx)
    | dict _ => cases h
    | _ => rfl
theorem iteT' {c : Prop} [Decidable c] {A B : Prop} (hc : c) (h : A) : if decide c = true then A else B := by
  rw [if_pos (decide_eq_true hc)]
  exact h
theorem iteNot {c : Prop} [Decidable c] {A B : Prop} (hc : ¬ c) (h : B) : if decide c = true then A else B := by
  rw [if_neg (by simpa using hc)]
  exact h
def spIntD (K : PySem.W.Frag) : Sp := fun vs H Q _ => ∃ v d, vs = [v] ∧ Dp K H v d ∧ Q (.bl (isIntD d)) H
def spListD (K : PySem.W.Frag) : Sp := fun vs H Q _ => ∃ v d, vs = [v] ∧ Dp K H v d ∧ ∀ H', Same H H' → Q (.bl (isSeqD d)) H'
def spRowD (K : PySem.W.Frag) : Sp := fun vs H Q _ => ∃ v d, ∃ n : Nat, vs = [v, .int (n : Int)] ∧ Dp K H v d ∧ fitD 2 d = true ∧ ∀ H', Same H H' → Q (.bl (isRowD n d)) H'
def spMatD (K : PySem.W.Frag) : Sp := fun vs H Q _ => ∃ v d, ∃ h n : Nat, vs = [v, .int (h : Int), .int (n : Int)] ∧ Dp K H v d ∧ fitD 3 d = true ∧ ∀ H', Same H H' → Q (.bl (isMatD h n d)) H'
def spFrozen (K : PySem.W.Frag) (n : Nat) : Sp := fun vs H Q _ => ∃ v d, vs = [v] ∧ Dp K H v d ∧ fitD n d = true ∧ ∀ v' H', Same H H' → Dp K H' v' (frzN n d) → Q v' H'
theorem fit_up : ∀ (n : Nat) (d : PyData), fitD n d = true → fitD (n + 1) d = true
  | 0, d, h => by cases d <;> first | rfl | cases h
  | n + 1, d, h => by
    cases d with
    | list ds =>
      have h2 : (decide (ds.length ≤ 100000) && ds.all (fitD n)) = true := h
      rw [Bool.and_eq_true] at h2
      show (decide (ds.length ≤ 100000) && ds.all (fitD (n + 1))) = true
      rw [Bool.and_eq_true]
      exact ⟨h2.1, List.all_eq_true.mpr fun x hx => fit_up n x (List.all_eq_true.mp h2.2 x hx)⟩
    | tuple ds =>
      have h2 : (decide (ds.length ≤ 100000) && ds.all (fitD n)) = true := h
      rw [Bool.and_eq_true] at h2
      show (decide (ds.length ≤ 100000) && ds.all (fitD (n + 1))) = true
      rw [Bool.and_eq_true]
      exact ⟨h2.1, List.all_eq_true.mpr fun x hx => fit_up n x (List.all_eq_true.mp h2.2 x hx)⟩
    | dict _ => cases h
    | _ => rfl
theorem fit_parts {n : Nat} {ds : List PyData} (h : fitD (n + 1) (.tuple ds) = true) : ds.length ≤ 100000 ∧ ∀ x ∈ ds, fitD n x = true := by
  have h2 : (decide (ds.length ≤ 100000) && ds.all (fitD n)) = true := h
  rw [Bool.and_eq_true] at h2
  exact ⟨of_decide_eq_true h2.1, List.all_eq_true.mp h2.2⟩
theorem fit_partsL {n : Nat} {ds : List PyData} (h : fitD (n + 1) (.list ds) = true) : ds.length ≤ 100000 ∧ ∀ x ∈ ds, fitD n x = true := by
  have h2 : (decide (ds.length ≤ 100000) && ds.all (fitD n)) = true := h
  rw [Bool.and_eq_true] at h2
  exact ⟨of_decide_eq_true h2.1, List.all_eq_true.mp h2.2⟩
section
variable {P : Program} {w0 : World} {K : PySem.W.Frag} {mg : Str → Option Value} {base : Heap}
theorem ok_isintD {f : Addr} {fd : FuncData} (F : Fun K "is_integer" "is_integer" s_is_integer f fd) (T : TxtV mg) : FnOk P w0 K mg base CX0 1 f fd ["value"] (spIntD K) := by
  refine F.ok sc_is_integer (fun vs H Q E h => ?_) (fun cdv A outer s H vs Q E hr h => ?_)
  · obtain ⟨v, d, rfl, _⟩ := h
    rfl
  · obtain ⟨v, d, rfl, hd, q⟩ := h
    refine ⟨_, (pss_one (ps_ret (pe_and (pe_callB (call_isiK (K := K) rfl) rfl T.f_isinstance (by decide +kernel) (pa_cons (pv 0) (pa_cons (pe_bltn (v := .ty "int") rfl T.f_int (by decide +kernel) rfl) pa_nil))) (pe_one (pe_not (pe_callB (call_isiK (K := K) rfl) rfl T.f_isinstance (by decide +kernel) (pa_cons (pv 0) (pa_cons (pe_bltn (v := .ty "bool") rfl T.f_bool (by decide +kernel) rfl) pa_nil)))))))), ?_⟩
    refine ⟨_, rfl, _, _, _, _, _, rfl, .ty _, hd.ty, kit_int d, _, rfl, ?_⟩
    cases e : isIntD d || isBoolD d
    · rw [Bool.or_eq_false_iff] at e
      rw [e.1] at q
      exact iteF q
    · refine iteT ⟨_, rfl, _, _, _, _, _, rfl, .ty _, hd.ty, kit_bool d, _, rfl, ?_⟩
      have e2 : isIntD d = !isBoolD d := by cases d <;> first | rfl | cases e
      rw [← e2]
      exact q
theorem ok_islistD {f : Addr} {fd : FuncData} (F : Fun K "is_list" "is_list" s_is_list f fd) (T : TxtV mg) : FnOk P w0 K mg base CX0 1 f fd ["value"] (spListD K) := by
  refine F.ok sc_is_list (fun vs H Q E h => ?_) (fun cdv A outer s H vs Q E hr h => ?_)
  · obtain ⟨v, d, rfl, _⟩ := h
    rfl
  · obtain ⟨v, d, rfl, hd, k⟩ := h
    refine ⟨_, (pss_one (ps_ret (pe_callB (call_isiTK (K := K) rfl) rfl T.f_isinstance (by decide +kernel) (pa_cons (pv 0) (pa_cons (pe_tup (pa_cons (pe_bltn (v := .ty "list") rfl T.f_list (by decide +kernel) rfl) (pa_cons (pe_bltn (v := .ty "tuple") rfl T.f_tuple (by decide +kernel) rfl) pa_nil))) pa_nil))))), ?_⟩
    refine ⟨_, rfl, (by show 2 ≤ sizeLine; decide), fun q nq => ?_⟩
    have s1 := same_upd (o := .tup [.ty "list", .ty "tuple"]) nq
    exact ⟨_, q, _, _, _, _, rfl, upd_same, .cons (.ty _) (.cons (.ty _) .nil), (hd.same s1).ty, kit_seq d, k _ s1⟩
end
end Wk

/-! results that keep what they are given -/
namespace Wk
open PySem L2
structure TxtP (K : PySem.W.Frag) (mg : Str → Option Value) (C fI : Addr) (x : Str) (fs : List Str) : Prop where
  cl : Cls K C
  mgC : mg x = some (.ref C)
  mkr : Mk K C fI
  na : ∀ f ∈ fs, NoAttr K C f
theorem na_nil {K : PySem.W.Frag} {C : Addr} : ∀ f ∈ ([] : List Str), NoAttr K C f := fun f hf => (List.not_mem_nil hf).elim
theorem na_cons {K : PySem.W.Frag} {C : Addr} {x : Str} {xs : List Str} (h : NoAttr K C x) (t : ∀ f ∈ xs, NoAttr K C f) : ∀ f ∈ x :: xs, NoAttr K C f := fun f hf => (List.mem_cons.mp hf).elim (fun e => e ▸ h) (t f)
theorem init_same {H : Hp} {x dx : Addr} {o o2 : HO} {H' : Hp} (nx : H x = none) (nd : H dx = none) (b : But x (upd (upd H dx o) x o2) H') : Same H H' := fun b' o' e => by
  have hx : b' ≠ x := ne_of_none e nx
  have hd : b' ≠ dx := ne_of_none e nd
  refine b b' o' hx ?_
  rw [upd_ne hx, upd_ne hd]
  exact e
theorem new_same {H : Hp} {x dx : Addr} {o o2 : HO} (nx : H x = none) (nd : H dx = none) : Same H (upd (upd H dx o) x o2) := fun b' o' e => by
  rw [upd_ne (ne_of_none e nx), upd_ne (ne_of_none e nd)]
  exact e
theorem PapSame {K : PySem.W.Frag} {C : Addr} {H H' : Hp} {p dx : Addr} {fs : List (Str × V)} (h : H p = some (.ins C dx fs)) (e : Same H H') : H' p = some (.ins C dx fs) := e _ _ h
end Wk

/-! rows and matrices as values -/
namespace Wk
open PySem L2
theorem frz_atom {n : Nat} {i : Int} : frzN n (.int i) = .int i := by cases n <;> rfl
theorem frz_dI {n : Nat} (r : Row) : frzN (n + 1) (dI r) = dI r := by
  show PyData.tuple ((r.map PyData.int).map (frzN n)) = _
  rw [List.map_map]
  exact congrArg _ (List.map_congr_left fun x _ => frz_atom)
theorem frz_dM {n : Nat} (A : Mat) : frzN (n + 2) (dM A) = dM A := by
  show PyData.tuple ((A.map dI).map (frzN (n + 1))) = _
  rw [List.map_map]
  exact congrArg _ (List.map_congr_left fun x _ => frz_dI x)
theorem frz_lM {n : Nat} (A : Mat) : frzN (n + 2) (.list (A.map dI)) = dM A := by
  show PyData.tuple ((A.map dI).map (frzN (n + 1))) = _
  rw [List.map_map]
  exact congrArg _ (List.map_congr_left fun x _ => frz_dI x)
theorem fit_atom {n : Nat} {i : Int} : fitD n (.int i) = true := by cases n <;> rfl
theorem fit_dI {n : Nat} {r : Row} (h : r.length ≤ 100000) : fitD (n + 1) (dI r) = true := by
  show (decide ((r.map PyData.int).length ≤ 100000) && (r.map PyData.int).all (fitD n)) = true
  rw [Bool.and_eq_true, List.length_map, List.all_map]
  exact ⟨decide_eq_true h, List.all_eq_true.mpr fun x _ => fit_atom⟩
theorem fit_dM {n : Nat} {A : Mat} (h : A.length ≤ 100000) (h2 : ∀ r ∈ A, r.length ≤ 100000) : fitD (n + 2) (dM A) = true := by
  show (decide ((A.map dI).length ≤ 100000) && (A.map dI).all (fitD (n + 1))) = true
  rw [Bool.and_eq_true, List.length_map, List.all_map]
  exact ⟨decide_eq_true h, List.all_eq_true.mpr fun x hx => fit_dI (h2 x hx)⟩
theorem fit_lM {n : Nat} {A : Mat} (h : A.length ≤ 100000) (h2 : ∀ r ∈ A, r.length ≤ 100000) : fitD (n + 2) (.list (A.map dI)) = true := by
  show (decide ((A.map dI).length ≤ 100000) && (A.map dI).all (fitD (n + 1))) = true
  rw [Bool.and_eq_true, List.length_map, List.all_map]
  exact ⟨decide_eq_true h, List.all_eq_true.mpr fun x hx => fit_dI (h2 x hx)⟩
def intOfD : PyData → Int
  | .int i => i
  | _ => 0
def rowOfD : PyData → Row
  | .tuple ds => ds.map intOfD
  | _ => []
def matOfD : PyData → Mat
  | .tuple ds => ds.map rowOfD
  | _ => []
theorem int_inv {d : PyData} (h : isIntD d = true) : d = .int (intOfD d) := by
  cases d <;> first | rfl | cases h
theorem row_inv {n : Nat} {d : PyData} (h : isRowD n d = true) : d = dI (rowOfD d) ∧ (rowOfD d).length = n := by
  cases d with
  | tuple ds =>
    have h2 : (decide (ds.length = n) && ds.all isIntD) = true := h
    rw [Bool.and_eq_true] at h2
    refine ⟨?_, by show (ds.map intOfD).length = n; rw [List.length_map]; exact of_decide_eq_true h2.1⟩
    show PyData.tuple ds = .tuple ((ds.map intOfD).map PyData.int)
    rw [List.map_map]
    refine congrArg _ ?_
    exact (List.map_id ds).symm.trans (List.map_congr_left fun x hx => int_inv (List.all_eq_true.mp h2.2 x hx))
  | _ => cases h
theorem mat_inv {m n : Nat} {d : PyData} (h : isMatD m n d = true) : d = dM (matOfD d) ∧ Shp m n (matOfD d) := by
  cases d with
  | tuple ds =>
    have h2 : (decide (ds.length = m) && ds.all (isRowD n)) = true := h
    rw [Bool.and_eq_true] at h2
    refine ⟨?_, by show (ds.map rowOfD).length = m; rw [List.length_map]; exact of_decide_eq_true h2.1, fun r hr => ?_⟩
    · show PyData.tuple ds = .tuple ((ds.map rowOfD).map dI)
      rw [List.map_map]
      refine congrArg _ ?_
      exact (List.map_id ds).symm.trans (List.map_congr_left fun x hx => (row_inv (List.all_eq_true.mp h2.2 x hx)).1)
    · obtain ⟨x, hx, rfl⟩ := List.mem_map.mp hr
      exact (row_inv (List.all_eq_true.mp h2.2 x hx)).2
  | _ => cases h
theorem isRow_dI {n : Nat} {r : Row} : isRowD n (dI r) = decide (r.length = n) := by
  show (decide ((r.map PyData.int).length = n) && (r.map PyData.int).all isIntD) = _
  have e : (r.map PyData.int).all isIntD = true := by
    rw [List.all_map]
    exact List.all_eq_true.mpr fun x _ => rfl
  rw [List.length_map, e, Bool.and_true]
theorem rowOf_dI (r : Row) : rowOfD (dI r) = r := by
  show (r.map PyData.int).map intOfD = r
  rw [List.map_map]
  exact List.map_id r
theorem matOf_dM (A : Mat) : matOfD (dM A) = A := by
  show (A.map dI).map rowOfD = A
  rw [List.map_map]
  exact (List.map_congr_left fun x _ => rowOf_dI x).trans (List.map_id A)
theorem isMat_dM {m n : Nat} {A : Mat} (h : Shp m n A) : isMatD m n (dM A) = true := by
  show (decide ((A.map dI).length = m) && (A.map dI).all (isRowD n)) = true
  rw [Bool.and_eq_true, List.length_map, List.all_map]
  exact ⟨decide_eq_true h.1, List.all_eq_true.mpr fun x hx => isRow_dI.trans (decide_eq_true (h.2 x hx))⟩
theorem dpAll_ints_inv {K : PySem.W.Frag} {H : Hp} : ∀ {r : Row} {xs : List V}, DpAll K H xs (r.map PyData.int) → xs = r.map V.int
  | [], _, h => by cases h; rfl
  | x :: r, _, h => by
    cases h with
    | cons h1 h2 =>
      cases h1
      rw [dpAll_ints_inv h2]
      rfl
theorem _root_.L2.Dp.row {K : PySem.W.Frag} {H : Hp} {v : V} {r : Row} (h : Dp K H v (dI r)) : ∃ a, v = .ref a ∧ RowAt K H a r := by
  cases h with
  | tup hs ha =>
    rw [dpAll_ints_inv ha] at hs
    exact ⟨_, rfl, hs⟩
theorem dpAll_rows_inv {K : PySem.W.Frag} {H : Hp} : ∀ {A : Mat} {xs : List V}, DpAll K H xs (A.map dI) → RowsAre K H xs A
  | [], _, h => by cases h; exact .nil
  | x :: r, _, h => by
    cases h with
    | cons h1 h2 =>
      obtain ⟨a, rfl, ha⟩ := h1.row
      exact .cons ha (dpAll_rows_inv h2)
theorem _root_.L2.Dp.mat {K : PySem.W.Frag} {H : Hp} {v : V} {A : Mat} (h : Dp K H v (dM A)) : ∃ a, v = .ref a ∧ MatAt K H a A := by
  cases h with
  | tup hs ha => exact ⟨_, rfl, _, hs, dpAll_rows_inv ha⟩
theorem _root_.L2.Dp.intV {K : PySem.W.Frag} {H : Hp} {v : V} {i : Int} (h : Dp K H v (.int i)) : v = .int i := by
  cases h
  rfl
theorem rows_ex {K : PySem.W.Frag} {H : Hp} {Pd : Nat → Row → Prop} : ∀ {acc : List V}, (∀ (j : Nat) (v : V), acc[j]? = some v → ∃ (q : Addr) (c : Row), v = .ref q ∧ SqT K H q (c.map V.int) ∧ Pd j c) → ∃ B : Mat, RowsAre K H acc B ∧ ∀ (j : Nat) (c : Row), B[j]? = some c → Pd j c := by
  intro acc
  induction acc generalizing Pd with
  | nil => exact fun _ => ⟨[], .nil, fun j c e => by simp at e⟩
  | cons v acc ih =>
    intro h
    obtain ⟨q, c, rfl, hq, hc⟩ := h 0 v rfl
    obtain ⟨B, h1, h2⟩ := ih (Pd := fun j c => Pd (j + 1) c) fun j v e => h (j + 1) v e
    refine ⟨c :: B, .cons hq h1, fun j c' e => ?_⟩
    cases j with
    | zero =>
      cases e
      exact hc
    | succ j => exact h2 j c' e
end Wk

/-! any(xs) of a list of ints -/
namespace Wk
open PySem PySem.Spec PyProof.Rows L2
theorem truth_ints {prog : Program} {w : World} {A : Around} {ns : List Int} {its : List Value} (r : Vals (ns.map V.int) its) :
    TruthOf prog w A (fun i v => its.toArray[i]? = some v) (fun i => (ns.map fun x => x != 0).getD i false) := fun i v s Q E hv hq => by
  have hv' : its[i]? = some v := by simpa using hv
  have hl := r.length
  rw [List.length_map] at hl
  have hi : i < ns.length := by
    have := (List.getElem?_eq_some_iff.mp hv').1
    omega
  have e : (ns.map V.int)[i]? = some (.int ns[i]) := by rw [List.getElem?_map, List.getElem?_eq_getElem hi]; rfl
  obtain ⟨u, hu, ru⟩ := r.get e
  rw [hv'] at hu
  cases hu
  obtain ⟨t, rfl⟩ := (show ∃ t, v = Value.int ns[i] t from ru)
  have hg : (ns.map fun x => x != 0).getD i false = (ns[i] != 0) := by
    rw [List.getD_eq_getElem?_getD, List.getElem?_map, List.getElem?_eq_getElem hi]
    rfl
  have hq' : Q ((ns.map fun x => x != 0).getD i false) s := hq
  rw [hg] at hq'
  exact PySem.P.truthy_int hq'
def rAnyI (K : PySem.W.Frag) : List V → Hp → VK → Prop := fun vs H Q => ∃ (a : Addr) (ns : List Int), vs = [V.ref a] ∧ SqL K H a (ns.map V.int) ∧ Q (.bl (ns.any fun x => x != 0)) H
theorem cr_anyI {X : Cx} {K : PySem.W.Frag} (hK : X.K = K) (hc : X.calm = true) : CallR X (.builtin "any") (rAnyI K) := by
  subst hK
  intro pins s σ H vs us Q I r h
  obtain ⟨a, ns, rfl, hs, q⟩ := h
  obtain ⟨its, rv, hl, _⟩ := I.list hs
  rw [Vals.ref1 r]
  refine call_any_walk (iter_any hl.isList fun s₂ e2 st hne => ?_)
  subst e2
  refine ⟨_, _, _, _, _, _, _, rfl, Walks.list (A := X.A.in1) (I.ok.hd hc) _ a hne its.toArray, st, truth_ints rv, fun h' tk hk => ?_⟩
  refine ⟨.bl _, H, I.kept fun b o eo => hk b o (fun hmem => ?_) (Heap.get?_push_of_some _ eo), ?_, q⟩
  · rcases List.mem_cons.mp hmem with e1 | hmem
    · exact absurd (e1 ▸ Heap.lt_size eo) (Nat.lt_irrefl _)
    · cases hmem
  · show Value.bool _ = Value.bool _
    have e := any_range (ns.map fun x => x != 0)
    have hl2 := rv.length
    rw [List.length_map] at hl2
    rw [List.length_map, hl2] at e
    rw [List.size_toArray, e, List.any_map]
    rfl
end Wk

/-! matrices that keep all rows apart, or do not -/
namespace Wk
open PySem L2 NumI

def spLostRow (K : PySem.W.Frag) : Sp := fun vs H Q _ => ∃ (M : Int) (a : Addr) (A : Mat) (h m : Nat), vs = [.int M, .ref a] ∧ 2 ≤ M ∧ M < 2 ^ 64 ∧ MatAt K H a A ∧ A.length = m ∧ 1 ≤ m ∧ m ≤ 400 ∧ 1 ≤ h ∧ h ≤ 400 ∧ (∀ r ∈ A, r.length = h) ∧
  (∀ (r : Row) (q : Addr) (H' : Hp), r.length = m → RRed M r → (∃ x ∈ r, x ≠ 0) → Rels M h m A (fn r) → Same H H' → RowAt K H' q r → Q (.ref q) H') ∧ ∀ H', (∀ c, Rels M h m A c → ∀ k, k < m → Eqm M (c k) 0) → Same H H' → Q .non H'
theorem zeros_ch {M : Int} {m : Nat} {S : List (Option Row)} {r : Row} (h : ∀ j, j < m → r[j]? = some 0) : ∀ i, i ≤ m → Ch M S r i S r
  | 0, _ => .base
  | i + 1, hi => .skip (zeros_ch h i (by omega)) (h i (by omega))
def marksTo (M : Int) (m : Nat) (A : Mat) (i : Nat) : List Row := (List.range i).map fun k => markOf M m (A.getD k []) k
theorem marksTo_succ {M : Int} {m : Nat} {A : Mat} {i : Nat} {r : Row} (h : A[i]? = some r) : marksTo M m A (i + 1) = marksTo M m A i ++ [markOf M m r i] := by
  unfold marksTo
  rw [List.range_succ, List.map_append]
  simp [List.getD_eq_getElem?_getD, h]
theorem marks_all {M : Int} {w m : Nat} {A : Mat} (hl : A.length = m) (hr : ∀ r ∈ A, r.length = w) : Marks M w m A (marksTo M m A m) := by
  have e : ∀ k, k < m → ∃ r, A[k]? = some r ∧ A.getD k [] = r := fun k hk => ⟨A[k]'(by omega), List.getElem?_eq_getElem _, by rw [List.getD_eq_getElem?_getD, List.getElem?_eq_getElem (by omega)]; rfl⟩
  refine ⟨fun a ha => ?_, fun k r h => ?_, hl, hr⟩
  · obtain ⟨k, hk, rfl⟩ := List.mem_map.mp ha
    have hk := List.mem_range.mp hk
    obtain ⟨r, h1, h2⟩ := e k hk
    exact ⟨k, r, hk, h1, by rw [h2]⟩
  · have hk : k < m := by
      have := (List.getElem?_eq_some_iff.mp h).1
      omega
    refine List.mem_map.mpr ⟨k, List.mem_range.mpr hk, ?_⟩
    rw [List.getD_eq_getElem?_getD, h]
    rfl
theorem marks_part {M : Int} {w m i : Nat} {A : Mat} (hl : A.length = m) (hi : i ≤ m) (hr : ∀ r ∈ A, r.length = w) : ∀ a ∈ marksTo M m A i, RelM M w m A a := fun a ha => by
  refine (marks_all (M := M) hl hr).rel a ?_
  obtain ⟨k, hk, rfl⟩ := List.mem_map.mp ha
  have hk := List.mem_range.mp hk
  exact List.mem_map.mpr ⟨k, List.mem_range.mpr (by omega), rfl⟩
theorem nones_no {M : Int} {m : Nat} {c : Vec} (h : InS M m (GS (List.replicate m none) 0) c) : ∀ k, k < m → Eqm M (c k) 0 := by
  induction h with
  | zero h => exact h
  | add c g h f ih =>
    obtain ⟨q, s, _, h2, _⟩ := g
    exact (none_rep h2).elim
theorem InS.no {M : Int} {w : Nat} {v d : Vec} {S : List (Option Row)} (wf : WF M w w S) (J : JJ M w S) (hM : 2 ≤ M) (hv : ¬ InS M w (GS S 0) v) : ∃ d : Vec, (∀ u, InS M w (GS S 0) u → Eqm M (dotF w u d) 0) ∧ ¬ Eqm M (dotF w v d) 0 := by
  have hf := settle_hf hM wf rfl J
  have e := fun u => settle_span hM wf (Nat.le_refl _) w (Nat.le_refl _) 0 (by omega) u
  obtain ⟨d, h1, h2⟩ := hf.dual hM fun z => hv ((e v).mp z)
  exact ⟨d, fun u hu => ((e u).mpr hu).dot h1, h2⟩
/-- stairs of rows that part all: what is not spanned is parted -/
theorem stairs_dual {M : Int} {W w : Nat} {S : List (Option Row)} (wf : WF M W w S) (hW : w ≤ W) (J : JJ M w S) (hM : 2 ≤ M) {v : Vec} (hv : ¬ InS M w (GS S 0) v) : ∃ d : Vec, (∀ u, InS M w (GS S 0) u → Eqm M (dotF w u d) 0) ∧ ¬ Eqm M (dotF w v d) 0 := by
  obtain ⟨d, h1, h2⟩ := InS.no (d := v) (wf.cut hW) (J.cut wf) hM (v := v) fun z => hv ((cut_span v).mp z)
  exact ⟨d, fun u hu => h1 u ((cut_span u).mpr hu), h2⟩
theorem drop_fn {w j : Nat} {r : Row} : fn (r.drop w) j = fn r (w + j) := by
  unfold fn
  rw [List.getD_eq_getElem?_getD, List.getD_eq_getElem?_getD, List.getElem?_drop]
theorem cut_drop {r : Row} {w n : Nat} (rl : r.length = w + n) : cutV (r.map V.int) (some (w : Int)) none = (r.drop w).map V.int := by
  have hix : HT.sIx (r.map V.int).length 0 (some (w : Int)) = w := by
    rw [HT.sIx_nat]
    simp [rl]
  unfold cutV
  rw [hix, HT.sIx_none, List.map_drop, List.take_of_length_le (by simp)]
section
variable {P : Program} {w : World} {K : PySem.W.Frag} {mg : Str → Option Value} {base : Heap} {C fI fP fA fS : Addr}
end
end Wk

namespace Wk
open PySem L2 NumI

theorem op_eqDK {X : Cx} {K : PySem.W.Frag} (hK : X.K = K) (hu : X.A.units + 64 < cLine) : OpR X (compareOp .Eq) (rEqD K) := hK ▸ op_eqD hu
theorem op_neDK {X : Cx} {K : PySem.W.Frag} (hK : X.K = K) (hu : X.A.units + 64 < cLine) : OpR X (compareOp .NotEq) (rNeD K) := hK ▸ op_neD hu
theorem eqM_read {K : PySem.W.Frag} {H : Hp} {a b : Addr} {A B : Mat} {Q : VK} (ha : MatAt K H a A) (hb : MatAt K H b B) (q : Q (.bl (decide (A = B))) H) : rEqD K (.ref a) (.ref b) H Q := by
  refine ⟨_, _, ha.dp, hb.dp, dM_shaped _, dM_shaped _, ?_⟩
  rw [dM_eqv]
  exact q
theorem eqR_read {K : PySem.W.Frag} {H : Hp} {a b : Addr} {A B : Row} {Q : VK} (ha : RowAt K H a A) (hb : RowAt K H b B) (q : Q (.bl (decide (A = B))) H) : rEqD K (.ref a) (.ref b) H Q := by
  refine ⟨_, _, ha.dp, hb.dp, dI_shaped _, dI_shaped _, ?_⟩
  rw [dI_eqv]
  exact q
end Wk

namespace Wk
open PySem L2 NumI

-- _law_modulus=0 _law_width=1 _law_found=2 _law_place=3 _law_longer=4 _law_row=5 _law_number=6
-- 
/-- tuples of ints at us -/
def TRows (H : Hp) (us : List V) (A : Mat) : Prop := us.length = A.length ∧ ∀ (k : Nat) (r : Row), A[k]? = some r → ∃ b, us[k]? = some (.ref b) ∧ H b = some (.tup (r.map V.int))
theorem TRows.same {H H' : Hp} {us : List V} {A : Mat} (h : TRows H us A) (e : Same H H') : TRows H' us A := ⟨h.1, fun k r hk => by
  obtain ⟨b, h1, h2⟩ := h.2 k r hk
  exact ⟨b, h1, e _ _ h2⟩⟩
theorem TRows.but {l : Addr} {xs : List V} {H H' : Hp} {us : List V} {A : Mat} (h : TRows H us A) (e : But l H H') (hl : H l = some (.lst xs)) : TRows H' us A := ⟨h.1, fun k r hk => by
  obtain ⟨b, h1, h2⟩ := h.2 k r hk
  exact ⟨b, h1, e _ _ (ne_of h2 hl (by intro z; cases z)) h2⟩⟩
theorem TRows.app {H : Hp} {us us' : List V} {A A' : Mat} (h : TRows H us A) (h' : TRows H us' A') : TRows H (us ++ us') (A ++ A') := by
  refine ⟨by rw [List.length_append, List.length_append, h.1, h'.1], fun k r hk => ?_⟩
  by_cases z : k < A.length
  · rw [List.getElem?_append_left z] at hk
    rw [List.getElem?_append_left (by rw [h.1]; exact z)]
    exact h.2 k r hk
  · rw [List.getElem?_append_right (by omega)] at hk
    rw [List.getElem?_append_right (by rw [h.1]; omega), h.1]
    exact h'.2 _ r hk
theorem TRows.rows {K : PySem.W.Frag} {H : Hp} {us : List V} {A : Mat} (h : TRows H us A) : RowsAre K H us A := by
  refine rows_of h.1 fun k v r hv hr => ?_
  obtain ⟨b, h1, h2⟩ := h.2 k r hr
  rw [hv] at h1
  cases h1
  exact ⟨b, rfl, SqT.of h2⟩
def spRowsAll : Sp := fun vs H Q _ => ∃ (M : Int) (w : Nat), vs = [.int M, .int (w : Int)] ∧ 1 ≤ M ∧ M ≤ 12 ∧ w ≤ 4 ∧ ∀ (l : Addr) (us : List V) (H' : Hp), Same H H' → H l = none → H' l = some (.lst us) → TRows H' us (allR M w) → Q (.ref l) H'
section
variable {P : Program} {w0 : World} {K : PySem.W.Frag} {mg : Str → Option Value} {base : Heap}
theorem ok_rows_all {f : Addr} {fd : FuncData} (F : Fun K "_law_rows_all" "_law_rows_all" s_law_rows_all f fd) (T : TxtL mg) : FnOk P w0 K mg base CX0 1 f fd ["_law_modulus", "_law_width"] spRowsAll := by
  refine F.ok sc_law_rows_all (fun vs H Q E h => ?_) (fun cdv A outer s H vs Q E hr h => ?_)
  · obtain ⟨M, w, rfl, _⟩ := h
    rfl
  · obtain ⟨M, w, rfl, hM, hM2, hw, k⟩ := h
    refine ⟨_, (pss_cons (ps_set (i := 2) sc_law_rows_all.nd rfl (Or.inl rfl) (pe_lst (pa_cons (pe_tup pa_nil) pa_nil)))
        (pss_cons (ps_for PassesOwn.never rfl (pi_range1 rfl T.f_range (pa_cons (pv 1) pa_nil)) (pg_name (i := 3) sc_law_rows_all.nd rfl (Or.inl rfl)) (pss_cons (ps_set (i := 4) sc_law_rows_all.nd rfl (Or.inl rfl) (pe_lst pa_nil))
        (pss_cons (ps_for PassesOwn.never rfl (pi_list (pv 2)) (pg_name (i := 5) sc_law_rows_all.nd rfl (Or.inr rfl)) (pss_one (ps_expr (pe_bm PySem.F.plainAttrs_list PySem.F.slot_list_extend PySem.F.type_list_extend mt_extend (pv 4) (pa_cons (pe_lc (own := [("_law_number", 6)]) (g := gName 6) rfl sc_law_rows_all.nd (pi_range1 rfl T.f_range (pa_cons (pv 0) pa_nil)) (blkOk_by (N := ["_law_modulus", "_law_width", "_law_found", "_law_place", "_law_longer", "_law_row", "_law_number"]) (sc := defScope s_law_rows_all) (by decide +kernel)) (fun _ _ _ _ _ => (pg_name (i := 6) sc_law_rows_all.nd rfl (Or.inl rfl))) (fun _ _ _ _ _ => pts_nil) (fun _ _ _ _ _ => (pe_op (op_catAK (K := K) rfl) (pv 5) (pe_tup (pa_cons (pv 6) pa_nil))))) pa_nil)))))
        (pss_one (ps_set (i := 2) sc_law_rows_all.nd rfl (Or.inl rfl) (pv 4))))))
        (pss_one (ps_ret (pv 2))))), ?_⟩
    refine ⟨(by show 0 ≤ sizeLine; decide), fun t nt => ⟨(by show 1 ≤ sizeLine; decide), fun l nl => ?_⟩⟩
    have s1 : Same H (upd (upd H t (.tup [])) l (.lst [.ref t])) := same_trans (same_upd nt) (same_upd nl)
    have nl0 : H l = none := none_back (same_upd nt) nl
    refine ⟨_, rfl, (w : Int), rfl, by omega, by omega, ?_⟩
    refine for_it (walk_range (lo := 0) (n := w)) (fun i σ H' => ∃ (l : Addr) (us : List V) (x3 x4 x5 : Option V), σ = [some (.int M), some (.int (w : Int)), some (.ref l), x3, x4, x5, none] ∧ Same H H' ∧ H l = none ∧ H' l = some (.lst us) ∧ TRows H' us (allR M i))
      ⟨l, _, none, none, none, rfl, s1, nl0, upd_same, ⟨rfl, fun k r hk => ?_⟩⟩ (fun _ _ _ _ _ => trivial) ?_ ?_
    · match k, hk with
      | 0, hk =>
        cases hk
        exact ⟨t, rfl, same_upd nl _ _ upd_same⟩
      | k + 1, hk => simp [allR] at hk
    · rintro i v σ H2 H2' hi ⟨l, us, x3, x4, x5, rfl, s2, nl, hl, hT⟩ ⟨rfl, rfl⟩
      refine ⟨(by show 0 ≤ sizeLine; decide), fun D nD => ?_⟩
      have sD : Same H2' (upd H2' D (.lst [])) := same_upd nD
      refine ⟨_, rfl, l, rfl, ⟨_, SqL.of (sD _ _ hl)⟩, ?_⟩
      refine for_it (walk_list (xs := us)) (fun j σ H' => ∃ (acc : List V) (x5 : Option V), σ = [some (.int M), some (.int (w : Int)), some (.ref l), some (.int (0 + (i : Int))), some (.ref D), x5, none] ∧ Same H2' H' ∧ H' D = some (.lst acc) ∧ TRows H' acc (((allR M i).take j).flatMap (exts M)))
        ⟨[], x5, rfl, sD, upd_same, ⟨rfl, fun k r hk => by simp at hk⟩⟩ (fun j σ H' _ ⟨_, _, _, s3, _⟩ => SqL.of (s3 _ _ hl)) ?_ ?_
      · rintro j v σ H3 H3' hj ⟨acc, x5, rfl, s3, hD, hTa⟩ ⟨rfl, hx⟩
        have hjl : j < (allR M i).length := by rw [← hT.1]; exact hj
        have hrj : (allR M i)[j]? = some (allR M i)[j] := List.getElem?_eq_getElem hjl
        generalize (allR M i)[j] = r at hrj
        obtain ⟨b, hb1, hb2⟩ := hT.2 j r hrj
        rw [hx] at hb1
        cases hb1
        have hb3 := s3 _ _ hb2
        obtain ⟨lr, _⟩ := allR_mem.mp (List.mem_of_getElem? hrj)
        refine ⟨_, rfl, .inl ⟨rfl, _, SqL.of hD⟩, _, rfl, M, rfl, by omega, by omega, fun D2 hD2 => lc_rel (walk_range (lo := 0) (n := M.toNat)) hD2 (by omega) (fun k v H' => ∃ q, v = .ref q ∧ q ≠ D2 ∧ H' q = some (.tup ((r ++ [(k : Int)]).map V.int))) (fun k v H H' ⟨q, h1, h2, h3⟩ e => ⟨q, h1, h2, e _ _ h2 h3⟩) (fun _ _ => trivial) ?_ ?_⟩
        · rintro k v H4 H4' Fn Nn fin hk sm ⟨acc2, hacc2⟩ ⟨rfl, rfl⟩
          refine ⟨rfl, yesT ⟨_, rfl, _, rfl, (by show 1 ≤ sizeLine; decide), fun t2 nt2 => ?_⟩⟩
          refine cat_read (same_upd nt2 _ _ (sm _ _ hb3)) upd_same (by simp [lr]; omega) fun q G sG hG => fin _ _ (same_trans (same_upd nt2) sG) ⟨q, rfl, fun z => ?_, by rw [hG, List.map_append]; show some (HO.tup (_ ++ [V.int (0 + (k : Int))])) = _; rw [Int.zero_add]; rfl⟩
          rw [z, sG _ _ (same_upd nt2 _ _ hacc2)] at hG
          cases hG
        · intro acc2 H4 a1 a2 s4 hR4
          have hTe : TRows H4 acc2 (exts M r) := by
            refine ⟨by rw [a1]; simp [exts], fun k r' hk => ?_⟩
            have hkM : k < M.toNat := by
              have := (List.getElem?_eq_some_iff.mp hk).1
              simpa [exts] using this
            obtain ⟨q, h1, _, h3⟩ := hR4 k _ (List.getElem?_eq_getElem (show k < acc2.length by omega))
            unfold exts at hk
            rw [List.getElem?_map, List.getElem?_range hkM] at hk
            cases hk
            exact ⟨q, by rw [List.getElem?_eq_getElem (show k < acc2.length by omega), h1], h3⟩
          have hlen : acc.length + acc2.length ≤ 1000000 := by
            rw [hTa.1, exts_len, a1]
            have h4 := allR_few (M := M) hM2 (show i ≤ 4 by omega)
            have h5 : ((allR M i).take j).length ≤ 20736 := by rw [List.length_take]; omega
            have h6 : ((allR M i).take j).length * M.toNat ≤ 20736 * 12 := Nat.mul_le_mul h5 (by omega)
            omega
          refine ⟨D, D2, acc, acc2, rfl, rfl, s4 _ _ hD, a2, Nat.le_trans hlen (by decide), ?_⟩
          have e1 : But D H4 (upd H4 D (.lst (acc ++ acc2))) := fun b o n e => by rw [upd_ne n]; exact e
          refine ⟨acc ++ acc2, _, rfl, fun b o e => ?_, upd_same, ?_⟩
          · have hbD : b ≠ D := ne_of_none e nD
            rw [upd_ne hbD]
            exact s4 _ _ (s3 _ _ e)
          · rw [List.take_add_one, hrj, List.flatMap_append]
            have e2 := (hTa.same s4).but e1 (s4 _ _ hD)
            have e3 := hTe.but e1 (s4 _ _ hD)
            simpa using e2.app e3
      · rintro σ H3 ⟨acc, x5, rfl, s3, hD, hTa⟩
        refine ⟨_, rfl, D, acc, _, _, _, rfl, same_trans s2 s3, none_back s2 nD, hD, ?_⟩
        rw [hT.1, List.take_length] at hTa
        exact hTa
    · rintro σ H2 ⟨l, us, x3, x4, x5, rfl, s2, nl, hl, hT⟩
      exact ⟨_, rfl, k l us H2 s2 nl hl hT⟩
end
end Wk

namespace Wk
open PySem L2 NumI
/-! what is put in may be a list or a tuple -/
def rIxAny (K : PySem.W.Frag) : R2 := fun x y H Q => ∃ t, rIxSq t K x y H Q
theorem ix_anyK {X : Cx} {K : PySem.W.Frag} (hK : X.K = K) : IxR X (rIxAny K) := fun value slice pins s σ H x y v u Q I rx ry ⟨t, h⟩ hs => ix_sqK hK t value slice pins s σ H x y v u Q I rx ry h hs
theorem sqK_butL {t : Bool} {K : PySem.W.Frag} {H H' : Hp} {b l : Addr} {xs vs : List V} (h : ZM.SqK t K H b xs) (hbl : t = false → b ≠ l) (hl : H l = some (.lst vs)) (e : But l H H') : ZM.SqK t K H' b xs := by
  cases t
  · have hbl := hbl rfl
    rcases h with (h | ⟨o, h⟩) | h
    · exact .inl (.inl (e _ _ hbl h))
    · exact .inl (.inr ⟨o, e _ _ hbl h⟩)
    · exact .inr h
  · rcases h with (h | ⟨o, h⟩) | h
    · exact .inl (.inl (e _ _ (ne_of h hl (by intro z; cases z)) h))
    · exact .inl (.inr ⟨o, e _ _ (ne_of h hl (by intro z; cases z)) h⟩)
    · exact .inr h
def spMulT (K : PySem.W.Frag) : Sp := fun vs H Q _ => ∃ (t : Bool) (M f : Int) (b : Addr) (r : List Int), vs = [.int M, .int f, .ref b] ∧ 1 ≤ M ∧ Wd f ∧ ZM.SqK t K H b (r.map V.int) ∧ RWd r ∧ r.length ≤ 1000 ∧ NewLst H (mulRow M f r) Q
def spCombT (K : PySem.W.Frag) : Sp := fun vs H Q _ => ∃ (t : Bool) (M f g : Int) (b c : Addr) (r s : List Int), vs = [.int M, .int f, .ref b, .int g, .ref c] ∧ 1 ≤ M ∧ Wd f ∧ Wd g ∧ ZM.SqK t K H b (r.map V.int) ∧ H c = some (.lst (s.map V.int)) ∧ RWd r ∧ RWd s ∧ r.length = s.length ∧ r.length ≤ 1000 ∧ NewLst H (comb M f r g s) Q
def spPutAtT (K : PySem.W.Frag) (C : Addr) : Sp := fun vs H Q _ => ∃ (t : Bool) (p l b : Addr) (i : Nat) (M N : Int) (W n : Nat) (S : List (Option Row)) (r : Row), vs = [.ref p, .int (i : Int), .ref b] ∧ StAt C H p l M S ∧ 2 ≤ M ∧ M < 2 ^ 64 ∧ W ≤ 1000 ∧ WF M W n S ∧ i < n ∧ r.length = W ∧ RRed M r ∧ r[i]? = some N ∧ 1 ≤ N ∧
  ZM.SqK t K H b (r.map V.int) ∧ (t = false → b ≠ l) ∧ ∀ (S' : List (Option Row)) (r' : Row) (b' : Addr) (H' : Hp), PutStep M i S r N S' r' → But l H H' → StAt C H' p l M S' → H' b' = some (.lst (r'.map V.int)) → b' ≠ l → Q (.ref b') H'
def spPutT (K : PySem.W.Frag) (C : Addr) : Sp := fun vs H Q _ => ∃ (t : Bool) (p l b : Addr) (M : Int) (W n : Nat) (S : List (Option Row)) (r : Row), vs = [.ref p, .ref b] ∧ StAt C H p l M S ∧ 2 ≤ M ∧ M < 2 ^ 64 ∧ W ≤ 1000 ∧ n ≤ W ∧ WF M W n S ∧ r.length = W ∧ RRed M r ∧
  ZM.SqK t K H b (r.map V.int) ∧ (t = false → b ≠ l) ∧ ∀ (S' : List (Option Row)) (r' : Row) (b' : Addr) (H' : Hp), Ch M S r n S' r' → But l H H' → StAt C H' p l M S' → Q (.ref b') H'
section
variable {P : Program} {w : World} {K : PySem.W.Frag} {mg : Str → Option Value} {base : Heap} {C fI fP fA fS : Addr}
theorem ok_multipleT {f : Addr} {fd : FuncData} (F : Fun K "multiple" "multiple" s_multiple f fd) : FnOk P w K mg base CX0 1 f fd ["modulus", "factor", "row"] (spMulT K) := by
  refine F.ok sc_multiple (fun vs H Q E h => ?_) (fun cdv A outer s H vs Q E hr h => ?_)
  · obtain ⟨t, M, f, b, r, rfl, _⟩ := h
    rfl
  · obtain ⟨t, M, f, b, r, rfl, hM, wf, hb, wr, lr, k⟩ := h
    refine ⟨_, (pss_one (ps_ret (pe_lc (own := [("number", 3)]) (g := gName 3) rfl sc_multiple.nd (pi_sqK (K := K) rfl t (pv 2)) (blkOk_by (N := ["modulus", "factor", "row", "number"]) (sc := defScope s_multiple) (by decide +kernel)) (fun _ _ _ _ _ => (pg_name (i := 3) sc_multiple.nd rfl (Or.inl rfl))) (fun _ _ _ _ _ => pts_nil) (fun _ _ _ _ _ => (pe_op op_modN (pe_op op_mulW (pv 1) (pv 3)) (pv 0)))))), ?_⟩
    refine ⟨_, rfl, b, rfl, ⟨_, hb⟩, fun D hD => lc_rel (walk_sq (t := t) (xs := r.map V.int)) hD (by simp; omega) (fun i v _ => ∃ x, r[i]? = some x ∧ v = .int (f * x % M)) (fun i v H H' h _ => h) (fun H1 e => SqK.same hb e) ?_ ?_⟩
    · intro i x H1 H1' Fn Nn fin hi sm hacc hy
      obtain ⟨rfl, hx⟩ := hy
      obtain ⟨x, gx, rfl⟩ := at_ints hx
      refine ⟨rfl, yesT ⟨_, rfl, _, rfl, _, _, rfl, rfl, wd_mul wf (wr _ (List.mem_of_getElem? gx)), _, rfl, _, _, rfl, rfl, by omega, ?_⟩⟩
      dsimp only
      rw [Int.fmod_eq_emod_of_nonneg _ (by omega)]
      exact fin _ _ (fun _ _ e => e) ⟨x, gx, rfl⟩
    · intro acc H1 e1 e2 sm hR
      have e : acc = r.map fun x => V.int (f * x % M) := acc_map (by simpa using e1) hR
      refine k D H1 sm hD ?_
      rw [e2, e]
      simp [mulRow, Function.comp_def]
theorem ok_combinedT {f : Addr} {fd : FuncData} (F : Fun K "combined" "combined" s_combined f fd) (T : TxtM mg) : FnOk P w K mg base CX0 1 f fd ["modulus", "factor", "row", "other_factor", "other"] (spCombT K) := by
  refine F.ok sc_combined (fun vs H Q E h => ?_) (fun cdv A outer s H vs Q E hr h => ?_)
  · obtain ⟨t, M, f, g, b, c, r, s, rfl, _⟩ := h
    rfl
  · obtain ⟨t, M, f, g, b, c, r, s2, rfl, hM, wf, wg, hb, hc, wr, ws, ll, lr, k⟩ := h
    refine ⟨_, (pss_one (ps_ret (pe_lc (own := [("a", 5), ("b", 6)]) (g := gTup K 2 (gCons (gName 5) (gCons (gName 6) gNil))) rfl sc_combined.nd (pi_zip2K (K := K) rfl t false rfl T.f_zip (pa_cons (pv 2) (pa_cons (pv 4) pa_nil))) (blkOk_by (N := ["modulus", "factor", "row", "other_factor", "other", "a", "b"]) (sc := defScope s_combined) (by decide +kernel)) (fun _ _ _ _ _ => (pg_tupK rfl rfl (pgs_cons (pg_name (i := 5) sc_combined.nd rfl (Or.inl rfl)) (pgs_cons (pg_name (i := 6) sc_combined.nd rfl (Or.inl rfl)) pgs_nil)))) (fun _ _ _ _ _ => pts_nil) (fun _ _ _ _ _ => (pe_op op_modN (pe_op op_add (pe_op op_mulW (pv 1) (pv 5)) (pe_op op_mulW (pv 3) (pv 6))) (pv 0)))))), ?_⟩
    refine ⟨_, rfl, _, rfl, b, c, _, _, rfl, hb, SqL.of hc, fun D hD => lc_rel (ZM.walk_two (t := t) (u := false) (n := r.length) (by simp [ll])) hD (by omega) (fun i v _ => ∃ z, (List.zipWith (fun a b => (f * a + g * b) % M) r s2)[i]? = some z ∧ v = .int z) (fun i v H H' h _ => h) (fun H1 e => ⟨SqK.same hb e, SqL.of (e _ _ hc)⟩) ?_ ?_⟩
    · rintro i v H1 H1' Fn Nn fin hi sm hacc ⟨T, x, y, rfl, hT, rfl, hx, hy⟩
      obtain ⟨x, gx, rfl⟩ := at_ints hx
      obtain ⟨y, gy, rfl⟩ := at_ints hy
      refine ⟨T, _, rfl, SqT.of upd_same, rfl, _, _, rfl, _, _, rfl, rfl, rfl, yesT ⟨_, rfl, _, rfl, _, _, rfl, rfl, wd_mul wf (wr _ (List.mem_of_getElem? gx)), _, rfl, _, rfl, _, _, rfl, rfl, wd_mul wg (ws _ (List.mem_of_getElem? gy)), _, _, rfl, rfl, _, rfl, _, _, rfl, rfl, by omega, ?_⟩⟩
      dsimp only
      rw [Int.fmod_eq_emod_of_nonneg _ (by omega)]
      refine fin _ _ (same_upd hT) ⟨_, ?_, rfl⟩
      rw [List.getElem?_zipWith, gx, gy]
    · intro acc H1 e1 e2 sm hR
      have e : acc = (comb M f r g s2).map V.int := acc_map (by simp [comb, e1, ll]) hR
      exact k D H1 sm hD (by rw [e2, e])
theorem ok_put_atT {f fB fM fC : Addr} {fd fdB fdM fdC : FuncData} (F : Fun K "put_at" "Stairs.put_at" s_Stairs_put_at f fd) (T : TxtS K mg C fI fP fA fS)
    (G_bezout : FnOk P w K mg base CX0 1 fB fdB ["one", "other"] spBez) (g_bezout : mg "bezout" = some (.ref fB)) (kp_bezout : PySem.W.keepIn K (.ref fB) = true) (b_bezout : Binds K fdB ["one", "other"] [])
    (G_multiple : FnOk P w K mg base CX0 1 fM fdM ["modulus", "factor", "row"] (spMulT K)) (g_multiple : mg "multiple" = some (.ref fM)) (kp_multiple : PySem.W.keepIn K (.ref fM) = true) (b_multiple : Binds K fdM ["modulus", "factor", "row"] [])
    (G_combined : FnOk P w K mg base CX0 1 fC fdC ["modulus", "factor", "row", "other_factor", "other"] (spCombT K)) (g_combined : mg "combined" = some (.ref fC)) (kp_combined : PySem.W.keepIn K (.ref fC) = true) (b_combined : Binds K fdC ["modulus", "factor", "row", "other_factor", "other"] []) :
    FnOk P w K mg base CX0 2 f fd ["self", "place", "row"] (spPutAtT K C) := by
  refine F.ok sc_Stairs_put_at (fun vs H Q E h => ?_) (fun cdv A outer s H vs Q E hr h => ?_)
  · obtain ⟨fl, p, l, b, i, M, N, W, n, S, r, rfl, _⟩ := h
    rfl
  · obtain ⟨fl, p, l, b, i, M, N, W, n, S, r, rfl, ⟨⟨dx, hp⟩, vs, hl, hS⟩, hM, hM2, hW, wf, hi, hrl, hrr, hN, hN1, hb, hbl, k⟩ := h
    refine ⟨_, (pss_cons (ps_par3 (i := 3) (j := 4) (l := 5) rfl sc_Stairs_put_at.nd rfl rfl rfl (by decide) (by decide) (by decide) rfl rfl rfl (pa_cons (pe_fld (pv 0) rfl) (pa_cons (pe_ix ix_list (pe_fld (pv 0) rfl) (pv 1) (fun _ _ => rfl)) (pa_cons (pe_ix (ix_sqK (K := K) rfl fl) (pv 2) (pv 1) (fun _ _ => rfl)) pa_nil))) (by rfl))
        (pss_cons (ps_if (pt_cmpR op_isN (pv 4) pe_non (nomark _)) (pss_cons (ps_asg (pe_call G_bezout (hr.mono (by decide)) rfl g_bezout kp_bezout b_bezout .nil pass0 (pa_cons (pv 3) (pa_cons (pv 5) pa_nil))) (pg_tup rfl (pgs_cons (pg_name (i := 6) sc_Stairs_put_at.nd rfl (Or.inl rfl)) (pgs_cons (pg_name (i := 7) sc_Stairs_put_at.nd rfl (Or.inl rfl)) (pgs_cons (pg_name (i := 8) sc_Stairs_put_at.nd rfl (Or.inl rfl)) pgs_nil)))))
        (pss_cons (ps_asg (pe_call G_multiple (hr.mono (by decide)) rfl g_multiple kp_multiple b_multiple .nil pass0 (pa_cons (pv 3) (pa_cons (pv 8) (pa_cons (pv 2) pa_nil)))) (pg_sub (pe_fld (pv 0) rfl) (pv 1) set_list))
        (pss_one (ps_ret (pe_call G_multiple (hr.mono (by decide)) rfl g_multiple kp_multiple b_multiple .nil pass0 (pa_cons (pv 3) (pa_cons (pe_op op_fdivW (pv 3) (pv 6)) (pa_cons (pv 2) pa_nil)))))))) pss_nil)
        (pss_cons (ps_set (i := 9) sc_Stairs_put_at.nd rfl (Or.inl rfl) (pe_ix ix_list (pv 4) (pv 1) (fun _ _ => rfl)))
        (pss_cons (ps_if (pt_cmpR op_eq (pe_op op_modN (pv 5) (pv 9)) pe_int (nomark _)) (pss_one (ps_ret (pe_call G_combined (hr.mono (by decide)) rfl g_combined kp_combined b_combined .nil pass0 (pa_cons (pv 3) (pa_cons pe_int (pa_cons (pv 2) (pa_cons (pe_un un_neg (pe_op op_fdivW (pv 5) (pv 9))) (pa_cons (pv 4) pa_nil)))))))) pss_nil)
        (pss_cons (ps_asg (pe_call G_bezout (hr.mono (by decide)) rfl g_bezout kp_bezout b_bezout .nil pass0 (pa_cons (pv 9) (pa_cons (pv 5) pa_nil))) (pg_tup rfl (pgs_cons (pg_name (i := 6) sc_Stairs_put_at.nd rfl (Or.inl rfl)) (pgs_cons (pg_name (i := 10) sc_Stairs_put_at.nd rfl (Or.inl rfl)) (pgs_cons (pg_name (i := 8) sc_Stairs_put_at.nd rfl (Or.inl rfl)) pgs_nil)))))
        (pss_cons (ps_asg (pe_call G_combined (hr.mono (by decide)) rfl g_combined kp_combined b_combined .nil pass0 (pa_cons (pv 3) (pa_cons (pv 8) (pa_cons (pv 2) (pa_cons (pv 10) (pa_cons (pv 4) pa_nil)))))) (pg_sub (pe_fld (pv 0) rfl) (pv 1) set_list))
        (pss_one (ps_ret (pe_call G_combined (hr.mono (by decide)) rfl g_combined kp_combined b_combined .nil pass0 (pa_cons (pv 3) (pa_cons (pe_op op_fdivW (pv 9) (pv 6)) (pa_cons (pv 2) (pa_cons (pe_un un_neg (pe_op op_fdivW (pv 5) (pv 6))) (pa_cons (pv 4) pa_nil)))))))))))))), ?_⟩
    have hSi : S[i]? = some (S[i]'(by rw [wf.len]; exact hi)) := List.getElem?_eq_getElem (by rw [wf.len]; exact hi)
    have hrN : (r.map V.int)[i]? = some (.int N) := by rw [List.getElem?_map, hN]; rfl
    have wr := rred_wd hrr hM2
    have wM : Wd M := by show M.natAbs < 2 ^ 200; omega
    have hNM : N < M := (hrr N (List.mem_of_getElem? hN)).2
    rcases hS.at_ hSi with ⟨e0, ev⟩ | ⟨a, s2, e0, ev, hal, ha⟩
    · refine ⟨_, rfl, p, C, dx, _, _, rfl, hp, T.cl, T.nM, flS_m M l, ?_⟩
      refine ⟨_, rfl, p, C, dx, _, _, rfl, hp, T.cl, T.nS, flS_s M l, _, rfl, l, vs, _, _, rfl, rfl, SqL.of hl, atI_nat ev, ?_⟩
      refine ⟨_, rfl, _, rfl, b, _, _, _, rfl, rfl, hb, atI_nat hrN, _, _, _, rfl, ?_⟩
      refine ⟨_, rfl, rfl, true, congrArg V.bl (decide_eq_true rfl), iteT ?_⟩
      refine ⟨_, rfl, _, rfl, M, N, rfl, by omega, hN1, hM2, by omega, fun g lf f t H1 hg g1 hbz wlf wff sm ht => ?_⟩
      refine ⟨t, _, rfl, SqT.of ht, rfl, _, _, rfl, _, _, rfl, _, _, rfl, rfl, ?_⟩
      refine ⟨_, rfl, _, rfl, _, rfl, fl, M, f, b, r, rfl, by omega, wff, SqK.same hb sm, wr, by omega, fun q H2 s2 nq hq => ?_⟩
      refine ⟨_, rfl, p, C, dx, _, _, rfl, s2 _ _ (sm _ _ hp), T.cl, T.nS, flS_s M l, _, rfl, l, vs, _, i, rfl, rfl, s2 _ _ (sm _ _ hl), ix_at (by rw [hS.length, wf.len]; exact hi), ?_⟩
      have hgM : g.natAbs < 2 ^ 200 := by
        have : Int.gcd M N ≤ M.natAbs := Nat.gcd_le_left _ (by omega)
        omega
      have hql : q ≠ l := fun z => by rw [z, sm _ _ hl] at nq; cases nq
      have hpl : p ≠ l := fun z => by rw [z, hl] at hp; cases hp
      have b1 : But l H (upd H2 l (.lst (vs.set i (.ref q)))) := fun c o n e => by
        rw [upd_ne n]
        exact s2 _ _ (sm _ _ e)
      have st : StAt C (upd H2 l (.lst (vs.set i (.ref q)))) p l M (S.set i (some (mulRow M f r))) := ⟨⟨dx, b1 _ _ hpl hp⟩, _, upd_same, (hS.mono b1).set hql (by rw [upd_ne hql]; exact hq) i⟩
      refine ⟨_, rfl, _, rfl, _, rfl, _, _, rfl, rfl, wide_div (b := 200) (by omega) hgM (by decide) (by decide), _, rfl, fl, M, M / g, b, r, rfl, by omega, ?_, sqK_butL hb hbl hl b1, wr, by omega, fun q2 H3 s3 nq2 hq2 => ?_⟩
      · show (M / g).natAbs < 2 ^ 200
        have := Int.ediv_le_self g (show 0 ≤ M by omega)
        have := Int.ediv_nonneg (show 0 ≤ M by omega) (show 0 ≤ g by omega)
        omega
      · refine k _ _ q2 H3 (.inl ⟨by rw [hSi, e0], g, lf, f, hg, g1, hbz, rfl, rfl⟩) (b1.same s3) (st.same s3) hq2 fun z => ?_
        rw [z, upd_same] at nq2
        cases nq2
    · obtain ⟨hsl, hsr, ⟨P, hP, hP1, _⟩, _⟩ := wf.row i s2 (by rw [hSi, e0])
      have hsP : (s2.map V.int)[i]? = some (.int P) := by rw [List.getElem?_map, hP]; rfl
      have ws := rred_wd hsr hM2
      have hPM : P < M := (hsr P (List.mem_of_getElem? hP)).2
      have hPw : P.natAbs < 2 ^ 200 := by omega
      have hpl : p ≠ l := fun z => by rw [z, hl] at hp; cases hp
      refine ⟨_, rfl, p, C, dx, _, _, rfl, hp, T.cl, T.nM, flS_m M l, ?_⟩
      refine ⟨_, rfl, p, C, dx, _, _, rfl, hp, T.cl, T.nS, flS_s M l, _, rfl, l, vs, _, _, rfl, rfl, SqL.of hl, atI_nat ev, ?_⟩
      refine ⟨_, rfl, _, rfl, b, _, _, _, rfl, rfl, hb, atI_nat hrN, _, _, _, rfl, ?_⟩
      refine ⟨_, rfl, rfl, false, congrArg V.bl (decide_eq_false (by intro z; cases z)), iteF ?_⟩
      refine ⟨_, rfl, _, rfl, a, _, _, _, rfl, rfl, SqL.of ha, atI_nat hsP, ?_⟩
      refine ⟨_, rfl, _, rfl, _, _, rfl, rfl, by omega, rfl, _, rfl, ?_⟩
      have ef : N.fmod P = N % P := Int.fmod_eq_emod_of_nonneg _ (by omega)
      refine ite2 (fun hd => ?_) (fun hd => ?_)
      · have h0 : N % P = 0 := by
          have this : V.int (N.fmod P) = V.int 0 := of_decide_eq_true hd
          rw [ef] at this
          injection this
        refine ⟨_, rfl, _, rfl, _, rfl, _, rfl, _, _, rfl, rfl, wide_div (b := 200) (by omega) hPw (by decide) (by decide), _, rfl, _, rfl, fl, M, 1, -(N / P), b, a, r, s2, rfl, by omega, (by show (1 : Int).natAbs < 2 ^ 200; decide), (zdiv_wd (by omega) (by omega) (by omega)).2, hb, ha, wr, ws, by omega, by omega, fun q H2 s2' nq hq => ?_⟩
        refine k S _ q H2 (.inr ⟨s2, P, by rw [hSi, e0], hP, .inl ⟨h0, rfl, rfl⟩⟩) (fun c o n e => s2' _ _ e) (StAt.same ⟨⟨dx, hp⟩, vs, hl, hS⟩ s2') hq fun z => ?_
        rw [z, hl] at nq
        cases nq
      · refine ⟨_, rfl, _, rfl, P, N, rfl, hP1, hN1, by omega, by omega, fun g lf f t H1 hg g1 hbz wlf wff sm ht => ?_⟩
        refine ⟨t, _, rfl, SqT.of ht, rfl, _, _, rfl, _, _, rfl, _, _, rfl, rfl, ?_⟩
        refine ⟨_, rfl, _, rfl, _, rfl, _, rfl, _, rfl, fl, M, f, lf, b, a, r, s2, rfl, by omega, wff, wlf, SqK.same hb sm, sm _ _ ha, wr, ws, by omega, by omega, fun q H2 s2' nq hq => ?_⟩
        refine ⟨_, rfl, p, C, dx, _, _, rfl, s2' _ _ (sm _ _ hp), T.cl, T.nS, flS_s M l, _, rfl, l, vs, _, i, rfl, rfl, s2' _ _ (sm _ _ hl), ix_at (by rw [hS.length, wf.len]; exact hi), ?_⟩
        have hgM : g.natAbs < 2 ^ 200 := by
          have : Int.gcd P N ≤ P.natAbs := Nat.gcd_le_left _ (by omega)
          omega
        have hql : q ≠ l := fun z => by rw [z, sm _ _ hl] at nq; cases nq
        have b1 : But l H (upd H2 l (.lst (vs.set i (.ref q)))) := fun c o n e => by
          rw [upd_ne n]
          exact s2' _ _ (sm _ _ e)
        have st : StAt C (upd H2 l (.lst (vs.set i (.ref q)))) p l M (S.set i (some (comb M f r lf s2))) := ⟨⟨dx, b1 _ _ hpl hp⟩, _, upd_same, (hS.mono b1).set hql (by rw [upd_ne hql]; exact hq) i⟩
        refine ⟨_, rfl, _, rfl, _, rfl, _, _, rfl, rfl, wide_div (b := 200) (by omega) hgM (by decide) (by decide), _, rfl, _, rfl, _, rfl, _, _, rfl, rfl, wide_div (b := 200) (by omega) hgM (by decide) (by decide), _, rfl, _, rfl, fl, M, P / g, -(N / g), b, a, r, s2, rfl, by omega, (zdiv_wd (by omega) (by omega) (by omega)).1, (zdiv_wd (by omega) (by omega) (by omega)).2, sqK_butL hb hbl hl b1, b1 _ _ hal ha, wr, ws, by omega, by omega, fun q2 H3 s3 nq2 hq2 => ?_⟩
        refine k _ _ q2 H3 (.inr ⟨s2, P, by rw [hSi, e0], hP, .inr ⟨g, lf, f, hg, g1, hbz, rfl, rfl⟩⟩) (b1.same s3) (st.same s3) hq2 fun z => ?_
        rw [z, upd_same] at nq2
        cases nq2
theorem ok_putT {f : Addr} {fd fdA : FuncData} (F : Fun K "put" "Stairs.put" s_Stairs_put f fd) (T : TxtS K mg C fI fP fA fS)
    (G_put_at : FnOk P w K mg base CX0 2 fA fdA ["self", "place", "row"] (spPutAtT K C)) (b_put_at : Binds K fdA ["self", "place", "row"] []) :
    FnOk P w K mg base CX0 3 f fd ["self", "row"] (spPutT K C) := by
  refine F.ok sc_Stairs_put (fun vs H Q E h => ?_) (fun cdv A outer s H vs Q E hr h => ?_)
  · obtain ⟨t, p, l, b, M, W, n, S, r, rfl, _⟩ := h
    rfl
  · obtain ⟨t, p, l, b, M, W, n, S, r, rfl, hSt, hM, hM2, hW, hn, wf, hrl, hrr, hb, hbl, k⟩ := h
    refine ⟨_, (pss_cons (ps_for PassesOwn.never rfl (pi_range1 rfl T.f_range (pa_cons (pe_callB call_len_seq rfl T.f_len PySem.boot_len (pa_cons (pe_fld (pv 0) rfl) pa_nil)) pa_nil)) (pg_name (i := 2) sc_Stairs_put.nd rfl (Or.inl rfl)) (pss_one (ps_if (pt_cmpR op_ne (pe_ix (ix_anyK (K := K) rfl) (pv 1) (pv 2) (fun _ _ => rfl)) pe_int (nomark _)) (pss_one (ps_set (i := 1) sc_Stairs_put.nd rfl (Or.inl rfl) (pe_meth (pv 0) T.cl T.m_put_at G_put_at (hr.mono (by decide)) b_put_at .nil pass0 (pa_cons (pv 2) (pa_cons (pv 1) pa_nil))))) pss_nil)))
        (pss_one (ps_ret (pv 1)))), ?_⟩
    obtain ⟨⟨dx, hp⟩, vs, hl, hS⟩ := id hSt
    have hvl : vs.length = n := hS.length.trans wf.len
    refine ⟨_, rfl, p, C, dx, _, _, rfl, hp, T.cl, T.nS, flS_s M l, _, _, rfl, .inl (SqL.of hl), (n : Int), (by rw [hvl]), by omega, by omega, ?_⟩
    refine for_it (walk_range (lo := 0) (n := n)) (fun i σ H' => ∃ (t : Bool) (x : Option V) (b' : Addr) (S' : List (Option Row)) (r' : Row), σ = [some (.ref p), some (.ref b'), x] ∧ Ch M S r i S' r' ∧ But l H H' ∧ StAt C H' p l M S' ∧ ZM.SqK t K H' b' (r'.map V.int) ∧ (t = false → b' ≠ l)) ⟨t, none, b, S, r, rfl, .base, fun _ _ _ e => e, hSt, hb, hbl⟩ (fun _ _ _ _ _ => trivial) ?_ ?_
    · rintro i v σ H1 H1' hi ⟨t, x, b', S', r', rfl, ch, bt, st, hb', hbl'⟩ ⟨rfl, rfl⟩
      obtain ⟨wf', hl', hr', hz'⟩ := ch.wf hM wf hrl hrr
      have hil : i < r'.length := by omega
      have hri : r'[i]? = some r'[i] := List.getElem?_eq_getElem hil
      have hrN : (r'.map V.int)[i]? = some (.int r'[i]) := by rw [List.getElem?_map, hri]; rfl
      obtain ⟨⟨dx', hp'⟩, _⟩ := id st
      show tIfS _ _ _ _ [some (V.ref p), some (V.ref b'), some (V.int (0 + (i : Int)))] H1'
      rw [Int.zero_add]
      refine ⟨_, rfl, _, rfl, t, b', _, _, _, rfl, rfl, hb', atI_nat hrN, rfl, _, rfl, ?_⟩
      by_cases h0 : r'[i] = 0
      · rw [h0]
        refine iteNS rfl ?_
        exact ⟨t, _, b', S', r', rfl, ch.skip (by rw [hri, h0]), bt, st, hb', hbl'⟩
      · have e3 : (!decide (V.int r'[i] = V.int 0)) = true := by
          have : ¬ V.int r'[i] = V.int 0 := fun z => h0 (by injection z)
          simp [this]
        rw [e3]
        refine iteT ?_
        have hN0 := hr' _ (List.mem_of_getElem? hri)
        refine ⟨_, rfl, p, dx', flS M l, rfl, hp', flS_no M l (by decide +kernel) (by decide +kernel), _, rfl, _, rfl, t, p, l, b', i, M, r'[i], W, n, S', r', rfl, st, hM, hM2, hW, wf', hi, hl', hr', hri, by omega, hb', hbl', fun S2 r2 b2 H2 ps bt2 st2 hb2 hbl2 => ?_⟩
        exact ⟨false, _, b2, S2, r2, rfl, ch.step hri (by omega) ps, bt.trans bt2, st2, SqL.of hb2, fun _ => hbl2⟩
    · rintro σ H1 ⟨t, x, b', S', r', rfl, ch, bt, st, hb', hbl'⟩
      exact ⟨_, rfl, k S' r' b' H1 ch bt st⟩
end
end Wk

namespace Wk
open PySem L2
abbrev s_is_within : Stmt := top 26
theorem sc_is_within : FnScope ["value", "least", "most"] ["value", "least", "most"] (defScope s_is_within) := ⟨rfl, rfl, rfl, by decide +kernel, rfl, by decide +kernel, by decide +kernel⟩
abbrev s_wrong_number : Stmt := top 28
theorem sc_wrong_number : FnScope ["numbers", "many", "modulus", "index", "number"] ["numbers", "many", "modulus"] (defScope s_wrong_number) := ⟨rfl, rfl, rfl, by decide +kernel, rfl, by decide +kernel, by decide +kernel⟩
abbrev s_wrong_row : Stmt := top 29
theorem sc_wrong_row : FnScope ["rows", "many", "width", "modulus", "index", "row"] ["rows", "many", "width", "modulus"] (defScope s_wrong_row) := ⟨rfl, rfl, rfl, by decide +kernel, rfl, by decide +kernel, by decide +kernel⟩
abbrev s_wrong_symbol : Stmt := top 30
theorem sc_wrong_symbol : FnScope ["block", "width", "modulus", "index", "symbol", "number"] ["block", "width", "modulus"] (defScope s_wrong_symbol) := ⟨rfl, rfl, rfl, by decide +kernel, rfl, by decide +kernel, by decide +kernel⟩

structure TxtVa (mg : Str → Option Value) : Prop where
  f_isinstance : mg "isinstance" = none
  f_int : mg "int" = none
  f_bool : mg "bool" = none
  f_list : mg "list" = none
  f_tuple : mg "tuple" = none
  f_len : mg "len" = none
  f_enumerate : mg "enumerate" = none
  f_zip : mg "zip" = none
  f_range : mg "range" = none
def spIntI : Sp := fun vs H Q _ => ∃ i : Int, vs = [.int i] ∧ Q (.bl true) H
def spWithinI : Sp := fun vs H Q _ => ∃ (n lo hi : Int), vs = [.int n, .int lo, .int hi] ∧ Q (.bl (decide (lo ≤ n) && decide (n ≤ hi))) H
def spIsList (K : PySem.W.Frag) : Sp := fun vs H Q _ => ∃ (t : Bool) (a : Addr) (xs : List V), vs = [.ref a] ∧ ZM.SqK t K H a xs ∧ ∀ H', Same H H' → Q (.bl true) H'
def spWNum (K : PySem.W.Frag) : Sp := fun vs H Q _ => ∃ (t : Bool) (a : Addr) (r : Row) (n : Nat) (M : Int), vs = [.ref a, .int (n : Int), .int M] ∧ ZM.SqK t K H a (r.map V.int) ∧ r.length = n ∧ n ≤ 1000 ∧ RRed M r ∧ ∀ H', Same H H' → Q .non H'
/-- a list or tuple of lists or tuples of ints -/
inductive RowsS (u : Bool) (K : PySem.W.Frag) (H : Hp) : List V → Mat → Prop
  | nil : RowsS u K H [] []
  | cons {p : Addr} {r : Row} {vs : List V} {A : Mat} (h : ZM.SqK u K H p (r.map V.int)) (t : RowsS u K H vs A) : RowsS u K H (.ref p :: vs) (r :: A)
theorem RowsS.length {u : Bool} {K : PySem.W.Frag} {H : Hp} : ∀ {vs : List V} {A : Mat}, RowsS u K H vs A → vs.length = A.length
  | _, _, .nil => rfl
  | _, _, .cons _ t => congrArg Nat.succ t.length
theorem RowsS.at_ {u : Bool} {K : PySem.W.Frag} {H : Hp} : ∀ {vs : List V} {A : Mat}, RowsS u K H vs A → ∀ {i : Nat} {x : V}, vs[i]? = some x → ∃ (p : Addr) (l : Row), x = .ref p ∧ A[i]? = some l ∧ ZM.SqK u K H p (l.map V.int)
  | _, _, .nil, i, x, e => by simp at e
  | _, _, .cons h t, 0, x, e => by
    cases e
    exact ⟨_, _, rfl, rfl, h⟩
  | _, _, .cons h t, i + 1, x, e => t.at_ (i := i) e
theorem RowsS.get {u : Bool} {K : PySem.W.Frag} {H : Hp} : ∀ {vs : List V} {A : Mat}, RowsS u K H vs A → ∀ {i : Nat} {l : Row}, A[i]? = some l → ∃ (p : Addr), vs[i]? = some (.ref p) ∧ ZM.SqK u K H p (l.map V.int)
  | _, _, .nil, i, x, e => by simp at e
  | _, _, .cons h t, 0, x, e => by
    cases e
    exact ⟨_, rfl, h⟩
  | _, _, .cons h t, i + 1, x, e => t.get (i := i) e
theorem RowsS.same {u : Bool} {K : PySem.W.Frag} {H H' : Hp} (e : Same H H') : ∀ {vs : List V} {A : Mat}, RowsS u K H vs A → RowsS u K H' vs A
  | _, _, .nil => .nil
  | _, _, .cons h t => .cons (SqK.same h e) (t.same e)
def RowsG (t u : Bool) (K : PySem.W.Frag) (H : Hp) (a : Addr) (A : Mat) : Prop := ∃ vs, ZM.SqK t K H a vs ∧ RowsS u K H vs A
theorem RowsG.same {t u : Bool} {K : PySem.W.Frag} {H H' : Hp} {a : Addr} {A : Mat} (h : RowsG t u K H a A) (e : Same H H') : RowsG t u K H' a A := by
  obtain ⟨vs, h1, h2⟩ := h
  exact ⟨vs, SqK.same h1 e, h2.same e⟩
def spWRow (K : PySem.W.Frag) : Sp := fun vs H Q _ => ∃ (t u : Bool) (a : Addr) (A : Mat) (n w : Nat) (M : Int), vs = [.ref a, .int (n : Int), .int (w : Int), .int M] ∧ RowsG t u K H a A ∧ A.length = n ∧ n ≤ 1000 ∧ w ≤ 1000 ∧ (∀ r ∈ A, r.length = w) ∧ MRed M A ∧ ∀ H', Same H H' → Q .non H'
def spWSym (K : PySem.W.Frag) : Sp := fun vs H Q _ => ∃ (t : Bool) (a : Addr) (A : Mat) (w : Nat) (M : Int), vs = [.ref a, .int (w : Int), .int M] ∧ RowsG t true K H a A ∧ A.length ≤ 100000 ∧ (∀ r ∈ A, r.length = w) ∧ MRed M A ∧ ∀ H', Same H H' → Q .non H'
section
variable {P : Program} {w0 : World} {K : PySem.W.Frag} {mg : Str → Option Value} {base : Heap}
theorem ok_isintI {f : Addr} {fd : FuncData} (F : Fun K "is_integer" "is_integer" s_is_integer f fd) (T : TxtVa mg) : FnOk P w0 K mg base CX0 1 f fd ["value"] spIntI := by
  refine F.ok sc_is_integer (fun vs H Q E h => ?_) (fun cdv A outer s H vs Q E hr h => ?_)
  · obtain ⟨i, rfl, _⟩ := h
    rfl
  · obtain ⟨i, rfl, q⟩ := h
    refine ⟨_, (pss_one (ps_ret (pe_and (pe_callB (call_isiK (K := K) rfl) rfl T.f_isinstance (by decide +kernel) (pa_cons (pv 0) (pa_cons (pe_bltn (v := .ty "int") rfl T.f_int (by decide +kernel) rfl) pa_nil))) (pe_one (pe_not (pe_callB (call_isiK (K := K) rfl) rfl T.f_isinstance (by decide +kernel) (pa_cons (pv 0) (pa_cons (pe_bltn (v := .ty "bool") rfl T.f_bool (by decide +kernel) rfl) pa_nil)))))))), ?_⟩
    exact ⟨_, rfl, _, _, _, _, true, rfl, .ty _, .base (.int i), kit_ty (by decide +kernel), _, rfl, iteT ⟨_, rfl, _, _, _, _, false, rfl, .ty _, .base (.int i), kit_ty (by decide +kernel), _, rfl, q⟩⟩
theorem ok_withinI {f fN : Addr} {fd fdN : FuncData} (F : Fun K "is_within" "is_within" s_is_within f fd)
    (G_is_integer : FnOk P w0 K mg base CX0 1 fN fdN ["value"] spIntI) (g_is_integer : mg "is_integer" = some (.ref fN)) (kp_is_integer : PySem.W.keepIn K (.ref fN) = true) (b_is_integer : Binds K fdN ["value"] []) :
    FnOk P w0 K mg base CX0 2 f fd ["value", "least", "most"] spWithinI := by
  refine F.ok sc_is_within (fun vs H Q E h => ?_) (fun cdv A outer s H vs Q E hr h => ?_)
  · obtain ⟨n, lo, hi, rfl, _⟩ := h
    rfl
  · obtain ⟨n, lo, hi, rfl, k⟩ := h
    refine ⟨_, (pss_one (ps_ret (pe_and (pe_call G_is_integer (hr.mono (by decide)) rfl g_is_integer kp_is_integer b_is_integer .nil pass0 (pa_cons (pv 0) pa_nil)) (pe_one (pe_chain op_le op_le (pv 1) (pv 0) (pv 2)))))), ?_⟩
    refine ⟨_, rfl, n, rfl, true, rfl, iteT ?_⟩
    refine ⟨_, rfl, _, rfl, _, _, rfl, rfl, decide (lo ≤ n), rfl, ?_⟩
    cases e : decide (lo ≤ n)
    · rw [e] at k
      exact iteF k
    · rw [e] at k
      exact iteT ⟨_, rfl, _, _, rfl, rfl, k⟩
theorem ok_islist {f : Addr} {fd : FuncData} (F : Fun K "is_list" "is_list" s_is_list f fd) (T : TxtVa mg) : FnOk P w0 K mg base CX0 1 f fd ["value"] (spIsList K) := by
  refine F.ok sc_is_list (fun vs H Q E h => ?_) (fun cdv A outer s H vs Q E hr h => ?_)
  · obtain ⟨t, a, xs, rfl, _⟩ := h
    rfl
  · obtain ⟨t, a, xs, rfl, hS, k⟩ := h
    refine ⟨_, (pss_one (ps_ret (pe_callB (call_isiTK (K := K) rfl) rfl T.f_isinstance (by decide +kernel) (pa_cons (pv 0) (pa_cons (pe_tup (pa_cons (pe_bltn (v := .ty "list") rfl T.f_list (by decide +kernel) rfl) (pa_cons (pe_bltn (v := .ty "tuple") rfl T.f_tuple (by decide +kernel) rfl) pa_nil))) pa_nil))))), ?_⟩
    refine ⟨_, rfl, (by show 2 ≤ sizeLine; decide), fun q nq => ?_⟩
    have s1 := same_upd (o := .tup [.ty "list", .ty "tuple"]) nq
    exact ⟨_, q, _, _, _, true, rfl, upd_same, .cons (.ty _) (.cons (.ty _) .nil), SqK.ty (SqK.same hS s1), kit_lt t, k _ s1⟩
theorem ok_wnum {f fW : Addr} {fd fdW : FuncData} (F : Fun K "wrong_number" "wrong_number" s_wrong_number f fd) (T : TxtVa mg)
    (G_is_within : FnOk P w0 K mg base CX0 2 fW fdW ["value", "least", "most"] spWithinI) (g_is_within : mg "is_within" = some (.ref fW)) (kp_is_within : PySem.W.keepIn K (.ref fW) = true) (b_is_within : Binds K fdW ["value", "least", "most"] []) :
    FnOk P w0 K mg base CX0 3 f fd ["numbers", "many", "modulus"] (spWNum K) := by
  refine F.ok sc_wrong_number (fun vs H Q E h => ?_) (fun cdv A outer s H vs Q E hr h => ?_)
  · obtain ⟨t, a, r, n, M, rfl, _⟩ := h
    rfl
  · obtain ⟨t, a, r, n, M, rfl, hS, hn, hn2, hR, k⟩ := h
    refine ⟨_, (pss_cons (ps_for PassesOwn.never rfl (pi_enSqK (K := K) rfl t rfl T.f_enumerate (pa_cons (pv 0) pa_nil)) (pg_tup rfl (pgs_cons (pg_name (i := 3) sc_wrong_number.nd rfl (Or.inl rfl)) (pgs_cons (pg_name (i := 4) sc_wrong_number.nd rfl (Or.inl rfl)) pgs_nil))) (pss_one (ps_if (pt_not (pt_val (pe_call G_is_within (hr.mono (by decide)) rfl g_is_within kp_is_within b_is_within .nil pass0 (pa_cons (pv 4) (pa_cons pe_int (pa_cons (pe_op op_sub (pv 2) pe_int) pa_nil)))))) (pss_one (ps_ret (pv 3))) pss_nil)))
        (pss_cons (ps_if (pt_cmpR op_ne (pe_callB (call_lenSqK (K := K) rfl t) rfl T.f_len PySem.boot_len (pa_cons (pv 0) pa_nil)) (pv 1) (nomark _)) (pss_one (ps_ret (pe_callB (call_lenSqK (K := K) rfl t) rfl T.f_len PySem.boot_len (pa_cons (pv 0) pa_nil)))) pss_nil)
        (pss_one (ps_ret pe_non)))), ?_⟩
    refine ⟨_, rfl, a, _, rfl, hS, ?_⟩
    refine for_it walk_enSq (fun i σ H' => ∃ (x3 x4 : Option V), σ = [some (.ref a), some (.int (n : Int)), some (.int M), x3, x4] ∧ Same H H') ⟨none, none, rfl, fun _ _ e => e⟩ (fun i σ H' _ ⟨_, _, _, s1⟩ => SqK.same hS s1) ?_ ?_
    · rintro i v σ H2 H2' hi ⟨x3, x4, rfl, s1⟩ ⟨T0, v1, v2, rfl, hT, rfl, e1, e2⟩
      cases e1
      obtain ⟨z, gz, rfl⟩ := at_ints e2
      have hz := hR z (List.mem_of_getElem? gz)
      have sT : Same H2 (upd H2 T0 (.tup [.int (i : Int), .int z])) := same_upd hT
      refine ⟨T0, _, rfl, SqT.of upd_same, rfl, _, _, rfl, _, _, rfl, rfl, ?_⟩
      refine ⟨_, rfl, _, rfl, _, _, rfl, rfl, z, 0, M - 1, rfl, ?_⟩
      rw [decide_eq_true hz.1, decide_eq_true (show z ≤ M - 1 by omega)]
      exact ⟨true, rfl, iteF ⟨_, _, rfl, same_trans s1 sT⟩⟩
    · rintro σ H2 ⟨x3, x4, rfl, s1⟩
      refine ⟨_, rfl, a, _, rfl, SqK.same hS s1, _, rfl, rfl, _, rfl, ?_⟩
      exact iteNS (show V.int _ = V.int _ by rw [List.length_map, hn]) (k _ s1)
theorem ok_wrow {f fL fN : Addr} {fd fdL fdN : FuncData} (F : Fun K "wrong_row" "wrong_row" s_wrong_row f fd) (T : TxtVa mg)
    (G_is_list : FnOk P w0 K mg base CX0 1 fL fdL ["value"] (spIsList K)) (g_is_list : mg "is_list" = some (.ref fL)) (kp_is_list : PySem.W.keepIn K (.ref fL) = true) (b_is_list : Binds K fdL ["value"] [])
    (G_wrong_number : FnOk P w0 K mg base CX0 3 fN fdN ["numbers", "many", "modulus"] (spWNum K)) (g_wrong_number : mg "wrong_number" = some (.ref fN)) (kp_wrong_number : PySem.W.keepIn K (.ref fN) = true) (b_wrong_number : Binds K fdN ["numbers", "many", "modulus"] []) :
    FnOk P w0 K mg base CX0 4 f fd ["rows", "many", "width", "modulus"] (spWRow K) := by
  refine F.ok sc_wrong_row (fun vs H Q E h => ?_) (fun cdv A outer s H vs Q E hr h => ?_)
  · obtain ⟨t, u, a, r, n, w, M, rfl, _⟩ := h
    rfl
  · obtain ⟨t, u, a, Am, n, w, M, rfl, hS, hn, hn2, hw, hl, hR, k⟩ := h
    refine ⟨_, (pss_cons (ps_for PassesOwn.never rfl (pi_enSqK (K := K) rfl t rfl T.f_enumerate (pa_cons (pv 0) pa_nil)) (pg_tup rfl (pgs_cons (pg_name (i := 4) sc_wrong_row.nd rfl (Or.inl rfl)) (pgs_cons (pg_name (i := 5) sc_wrong_row.nd rfl (Or.inl rfl)) pgs_nil))) (pss_one (ps_if (PW.pt (pw_or (pt_not (pt_val (pe_call G_is_list (hr.mono (by decide)) rfl g_is_list kp_is_list b_is_list .nil pass0 (pa_cons (pv 5) pa_nil)))) (pw_or1 (pt_cmpR op_notN (pe_call G_wrong_number (hr.mono (by decide)) rfl g_wrong_number kp_wrong_number b_wrong_number .nil pass0 (pa_cons (pv 5) (pa_cons (pv 2) (pa_cons (pv 3) pa_nil)))) pe_non (nomark _))))) (pss_one (ps_ret (pv 4))) pss_nil)))
        (pss_cons (ps_if (pt_cmpR op_ne (pe_callB (call_lenSqK (K := K) rfl t) rfl T.f_len PySem.boot_len (pa_cons (pv 0) pa_nil)) (pv 1) (nomark _)) (pss_one (ps_ret (pe_callB (call_lenSqK (K := K) rfl t) rfl T.f_len PySem.boot_len (pa_cons (pv 0) pa_nil)))) pss_nil)
        (pss_one (ps_ret pe_non)))), ?_⟩
    obtain ⟨vs, hv, hA⟩ := hS
    refine ⟨_, rfl, a, _, rfl, hv, ?_⟩
    refine for_it (walk_enSq (xs := vs)) (fun i σ H' => ∃ (x4 x5 : Option V), σ = [some (.ref a), some (.int (n : Int)), some (.int (w : Int)), some (.int M), x4, x5] ∧ Same H H') ⟨none, none, rfl, fun _ _ e => e⟩ (fun i σ H' _ ⟨_, _, _, s1⟩ => SqK.same hv s1) ?_ ?_
    · rintro i v σ H2 H2' hi ⟨x4, x5, rfl, s1⟩ ⟨T0, v1, v2, rfl, hT, rfl, e1, e2⟩
      cases e1
      obtain ⟨p, l, rfl, gl, hp⟩ := hA.at_ e2
      have hml := List.mem_of_getElem? gl
      have sT : Same H2 (upd H2 T0 (.tup [.int (i : Int), .ref p])) := same_upd hT
      refine ⟨T0, _, rfl, SqT.of upd_same, rfl, _, _, rfl, _, _, rfl, rfl, ?_⟩
      refine ⟨_, rfl, u, p, _, rfl, SqK.same hp (same_trans s1 sT), fun H3 s3 => ⟨true, rfl, iteF ?_⟩⟩
      have s4 := same_trans s1 (same_trans sT s3)
      refine ⟨_, rfl, _, rfl, _, rfl, u, p, l, w, M, rfl, SqK.same hp s4, hl _ hml, hw, hR _ hml, fun H4 s5 => ⟨rfl, false, congrArg V.bl (by rfl), iteF ⟨_, _, rfl, same_trans s4 s5⟩⟩⟩
    · rintro σ H2 ⟨x4, x5, rfl, s1⟩
      refine ⟨_, rfl, a, _, rfl, SqK.same hv s1, _, rfl, rfl, _, rfl, ?_⟩
      exact iteNS (show V.int _ = V.int _ by rw [hA.length, hn]) (k _ s1)
theorem ok_wsym {f : Addr} {fd : FuncData} (F : Fun K "wrong_symbol" "wrong_symbol" s_wrong_symbol f fd) (T : TxtVa mg) :
    FnOk P w0 K mg base CX0 1 f fd ["block", "width", "modulus"] (spWSym K) := by
  refine F.ok sc_wrong_symbol (fun vs H Q E h => ?_) (fun cdv A outer s H vs Q E hr h => ?_)
  · obtain ⟨t, a, r, w, M, rfl, _⟩ := h
    rfl
  · obtain ⟨t, a, Am, w, M, rfl, hS, hn2, hl, hR, k⟩ := h
    refine ⟨_, (pss_cons (ps_for PassesOwn.never rfl (pi_enSqK (K := K) rfl t rfl T.f_enumerate (pa_cons (pv 0) pa_nil)) (pg_tup rfl (pgs_cons (pg_name (i := 3) sc_wrong_symbol.nd rfl (Or.inl rfl)) (pgs_cons (pg_name (i := 4) sc_wrong_symbol.nd rfl (Or.inl rfl)) pgs_nil))) (pss_cons (ps_if (PW.pt (pw_or (pt_not (pt_val (pe_callB (call_isiK (K := K) rfl) rfl T.f_isinstance (by decide +kernel) (pa_cons (pv 4) (pa_cons (pe_bltn (v := .ty "tuple") rfl T.f_tuple (by decide +kernel) rfl) pa_nil))))) (pw_or1 (pt_cmpR op_ne (pe_callB call_len_seq rfl T.f_len PySem.boot_len (pa_cons (pv 4) pa_nil)) (pv 1) (nomark _))))) (pss_one (ps_ret (pv 3))) pss_nil)
        (pss_one (ps_for PassesOwn.never rfl (pi_tup (pv 4)) (pg_name (i := 5) sc_wrong_symbol.nd rfl (Or.inl rfl)) (pss_one (ps_if (PW.pt (pw_or (pt_not (pt_val (pe_callB (call_isiK (K := K) rfl) rfl T.f_isinstance (by decide +kernel) (pa_cons (pv 5) (pa_cons (pe_bltn (v := .ty "int") rfl T.f_int (by decide +kernel) rfl) pa_nil))))) (pw_or (pt_cmpR op_isIB (pv 5) pe_bl (nomark _)) (pw_or (pt_cmpR op_isIB (pv 5) pe_bl (nomark _)) (pw_or1 (pt_not (pt_chain op_le op_lt pe_int (pv 5) (pv 2)))))))) (pss_one (ps_ret (pv 3))) pss_nil))))))
        (pss_one (ps_ret pe_non))), ?_⟩
    obtain ⟨vs, hv, hA⟩ := hS
    refine ⟨_, rfl, a, _, rfl, hv, ?_⟩
    refine for_it (walk_enSq (xs := vs)) (fun i σ H' => ∃ (x3 x4 x5 : Option V), σ = [some (.ref a), some (.int (w : Int)), some (.int M), x3, x4, x5] ∧ Same H H') ⟨none, none, none, rfl, fun _ _ e => e⟩ (fun i σ H' _ ⟨_, _, _, _, s1⟩ => SqK.same hv s1) ?_ ?_
    · rintro i v σ H2 H2' hi ⟨x3, x4, x5, rfl, s1⟩ ⟨T0, v1, v2, rfl, hT, rfl, e1, e2⟩
      cases e1
      obtain ⟨p, l, rfl, gl, hp⟩ := hA.at_ e2
      have hml := List.mem_of_getElem? gl
      have sT : Same H2 (upd H2 T0 (.tup [.int (i : Int), .ref p])) := same_upd hT
      refine ⟨T0, _, rfl, SqT.of upd_same, rfl, _, _, rfl, _, _, rfl, rfl, ?_⟩
      have hp2 := SqK.same hp (same_trans s1 sT)
      generalize upd H2 T0 (.tup [.int (i : Int), .ref p]) = H3 at sT hp2 ⊢
      refine ⟨_, rfl, _, _, _, _, true, rfl, .ty _, SqK.ty hp2, kit_ty (by decide +kernel), true, rfl, iteF ?_⟩
      refine ⟨_, rfl, p, _, rfl, .inr hp2, _, rfl, rfl, _, rfl, ?_⟩
      refine iteNS (show V.int _ = V.int _ by rw [List.length_map, hl _ hml]) ?_
      refine ⟨_, rfl, p, rfl, ⟨_, hp2⟩, ?_⟩
      refine for_it (walk_tup (xs := l.map V.int)) (fun j σ H' => ∃ (y : Option V), σ = [some (.ref a), some (.int (w : Int)), some (.int M), some (.int (i : Int)), some (.ref p), y] ∧ H' = H3) ⟨_, rfl, rfl⟩ (fun j σ H' _ ⟨_, _, e⟩ => e ▸ hp2) ?_ ?_
      · rintro j v σ H4 H4' hj ⟨y, rfl, rfl⟩ ⟨rfl, e3⟩
        obtain ⟨z, gz, rfl⟩ := at_ints e3
        have hz := hR _ hml z (List.mem_of_getElem? gz)
        refine ⟨_, rfl, _, _, _, _, true, rfl, .ty _, .base (.int z), kit_ty (by decide +kernel), true, rfl, iteF ?_⟩
        refine ⟨_, rfl, z, true, rfl, rfl, false, rfl, iteF ?_⟩
        refine ⟨_, rfl, z, false, rfl, rfl, false, rfl, iteF ?_⟩
        refine ⟨_, rfl, _, _, rfl, rfl, true, congrArg V.bl (decide_eq_true hz.1), iteT ?_⟩
        exact ⟨_, rfl, _, _, rfl, rfl, true, congrArg V.bl (decide_eq_true hz.2), iteF ⟨_, rfl, rfl⟩⟩
      · rintro σ H4 ⟨y, rfl, rfl⟩
        exact ⟨_, _, _, rfl, same_trans s1 sT⟩
    · rintro σ H2 ⟨x3, x4, x5, rfl, s1⟩
      exact k _ s1
end
end Wk

namespace Wk
open PySem L2
abbrev s_check_modulus : Stmt := top 50
theorem sc_check_modulus : FnScope ["modulus"] ["modulus"] (defScope s_check_modulus) := ⟨rfl, rfl, rfl, by decide +kernel, rfl, by decide +kernel, by decide +kernel⟩
abbrev s_checked_matrix : Stmt := top 51
theorem sc_checked_matrix : FnScope ["rows", "size", "modulus", "wrong", "row"] ["rows", "size", "modulus"] (defScope s_checked_matrix) := ⟨rfl, rfl, rfl, by decide +kernel, rfl, by decide +kernel, by decide +kernel⟩
abbrev s_checked_columns : Stmt := top 52
theorem sc_checked_columns : FnScope ["rows", "size", "modulus", "wrong", "row"] ["rows", "size", "modulus"] (defScope s_checked_columns) := ⟨rfl, rfl, rfl, by decide +kernel, rfl, by decide +kernel, by decide +kernel⟩
abbrev s_beside : Stmt := top 49
theorem sc_beside : FnScope ["one", "other", "row", "more"] ["one", "other"] (defScope s_beside) := ⟨rfl, rfl, rfl, by decide +kernel, rfl, by decide +kernel, by decide +kernel⟩

structure TxtG (mg : Str → Option Value) : Prop extends TxtVa mg where
  gGREATEST_MODULUS : ∃ t, mg "GREATEST_MODULUS" = some (.int 1000000000000000000 t)
  gMOST_NUMBERS : ∃ t, mg "MOST_NUMBERS" = some (.int 16 t)
  gMOST_SYMBOLS : ∃ t, mg "MOST_SYMBOLS" = some (.int 10000 t)
  gGROUP : ∃ t, mg "GROUP" = some (.int 32 t)
  gDOUBLINGS : ∃ t, mg "DOUBLINGS" = some (.int 5 t)
  gWORTH : ∃ t, mg "WORTH" = some (.int 3 t)
def spChkM : Sp := fun vs H Q _ => ∃ M : Int, vs = [.int M] ∧ 2 ≤ M ∧ M ≤ 1000000000000000000 ∧ Q .non H
def spChkA (K : PySem.W.Frag) : Sp := fun vs H Q _ => ∃ (t u : Bool) (a : Addr) (A : Mat) (n : Nat) (M : Int), vs = [.ref a, .int (n : Int), .int M] ∧ RowsG t u K H a A ∧ A.length = n ∧ n ≤ 1000 ∧ (∀ r ∈ A, r.length = n) ∧ MRed M A ∧ NewMat K H A Q
def spChkC (K : PySem.W.Frag) : Sp := fun vs H Q _ => ∃ (t u : Bool) (a : Addr) (A : Mat) (n w : Nat) (M : Int), vs = [.ref a, .int (n : Int), .int M] ∧ RowsG t u K H a A ∧ A.length = n ∧ 1 ≤ n ∧ n ≤ 1000 ∧ 1 ≤ w ∧ w ≤ 16 ∧ (∀ r ∈ A, r.length = w) ∧ MRed M A ∧ NewMat K H A Q
def besideM (A B : Mat) : Mat := List.zipWith (· ++ ·) A B
def spBeside (K : PySem.W.Frag) : Sp := fun vs H Q _ => ∃ (a b : Addr) (A B : Mat), vs = [.ref a, .ref b] ∧ MatAt K H a A ∧ MatAt K H b B ∧ A.length = B.length ∧ A.length ≤ 1000 ∧ (∀ r ∈ A, r.length ≤ 1000) ∧ (∀ r ∈ B, r.length ≤ 1000) ∧ NewMat K H (besideM A B) Q
theorem tup_ofK {u : Bool} {K : PySem.W.Frag} {H : Hp} {p : Addr} {l : Row} {Fn : V → Hp → Prop} (hp : ZM.SqK u K H p (l.map V.int)) (fin : ∀ q H4, Same H H4 → SqT K H4 q (l.map V.int) → Fn (.ref q) H4) : (SqL K H p (l.map V.int) ∧ ∀ q, H q = none → Fn (.ref q) (upd H q (.tup (l.map V.int)))) ∨ (SqT K H p (l.map V.int) ∧ Fn (.ref p) H) := by
  cases u
  · exact .inl ⟨hp, fun q nq => fin q _ (same_upd nq) (SqT.of upd_same)⟩
  · exact .inr ⟨hp, fin p H (fun _ _ e => e) hp⟩
section
variable {P : Program} {w0 : World} {K : PySem.W.Frag} {mg : Str → Option Value} {base : Heap}
theorem ok_chkm {f fW : Addr} {fd fdW : FuncData} (F : Fun K "check_modulus" "check_modulus" s_check_modulus f fd) (T : TxtG mg)
    (G_is_within : FnOk P w0 K mg base CX0 2 fW fdW ["value", "least", "most"] spWithinI) (g_is_within : mg "is_within" = some (.ref fW)) (kp_is_within : PySem.W.keepIn K (.ref fW) = true) (b_is_within : Binds K fdW ["value", "least", "most"] []) :
    FnOk P w0 K mg base CX0 3 f fd ["modulus"] spChkM := by
  refine F.ok sc_check_modulus (fun vs H Q E h => ?_) (fun cdv A outer s H vs Q E hr h => ?_)
  · obtain ⟨M, rfl, _⟩ := h
    rfl
  · obtain ⟨M, rfl, hM, hM2, k⟩ := h
    refine ⟨_, (pss_one (ps_if (pt_not (pt_val (pe_call G_is_within (hr.mono (by decide)) rfl g_is_within kp_is_within b_is_within .nil pass0 (pa_cons (pv 0) (pa_cons pe_int (pa_cons (pe_glob (v := .int 1000000000000000000) rfl T.gGREATEST_MODULUS.choose_spec ⟨_, rfl⟩) pa_nil)))))) (pss_one ps_never) pss_nil)), ?_⟩
    refine ⟨_, rfl, M, 2, 1000000000000000000, rfl, ?_⟩
    rw [decide_eq_true hM, decide_eq_true hM2]
    exact ⟨true, rfl, iteF k⟩
theorem ok_chka {f fW : Addr} {fd fdW : FuncData} (F : Fun K "checked_matrix" "checked_matrix" s_checked_matrix f fd) (T : TxtG mg)
    (G_wrong_row : FnOk P w0 K mg base CX0 4 fW fdW ["rows", "many", "width", "modulus"] (spWRow K)) (g_wrong_row : mg "wrong_row" = some (.ref fW)) (kp_wrong_row : PySem.W.keepIn K (.ref fW) = true) (b_wrong_row : Binds K fdW ["rows", "many", "width", "modulus"] []) :
    FnOk P w0 K mg base CX0 5 f fd ["rows", "size", "modulus"] (spChkA K) := by
  refine F.ok sc_checked_matrix (fun vs H Q E h => ?_) (fun cdv A outer s H vs Q E hr h => ?_)
  · obtain ⟨t, u, a, r, n, M, rfl, _⟩ := h
    rfl
  · obtain ⟨t, u, a, Am, n, M, rfl, hS, hn, hn2, hl, hR, k⟩ := h
    refine ⟨_, (pss_cons (ps_set (i := 3) sc_checked_matrix.nd rfl (Or.inl rfl) (pe_call G_wrong_row (hr.mono (by decide)) rfl g_wrong_row kp_wrong_row b_wrong_row .nil pass0 (pa_cons (pv 0) (pa_cons (pv 1) (pa_cons (pv 1) (pa_cons (pv 2) pa_nil))))))
        (pss_cons (ps_if (pt_cmpR op_notN (pv 3) pe_non (nomark _)) (pss_one ps_never) pss_nil)
        (pss_one (ps_ret (pe_callTy (call_tupleK (K := K) rfl) rfl T.f_tuple (by decide +kernel) (pa_cons (pe_lc (own := [("row", 4)]) (g := gName 4) rfl sc_checked_matrix.nd (pi_sqK (K := K) rfl t (pv 0)) (blkOk_by (N := ["rows", "size", "modulus", "wrong", "row"]) (sc := defScope s_checked_matrix) (by decide +kernel)) (fun _ _ _ _ _ => (pg_name (i := 4) sc_checked_matrix.nd rfl (Or.inl rfl))) (fun _ _ _ _ _ => pts_nil) (fun _ _ _ _ _ => (pe_callTy (call_tupleK (K := K) rfl) rfl T.f_tuple (by decide +kernel) (pa_cons (pv 4) pa_nil)))) pa_nil)))))), ?_⟩
    refine ⟨_, rfl, _, rfl, _, rfl, _, rfl, t, u, a, Am, n, n, M, rfl, hS, hn, hn2, hn2, hl, hR, fun H2 s2 => ?_⟩
    obtain ⟨vs, hv, hA⟩ := hS.same s2
    have hvl := hA.length
    refine ⟨_, rfl, rfl, false, rfl, iteF ?_⟩
    refine ⟨_, rfl, a, rfl, ⟨vs, hv⟩, fun D hD => lc_rowsT (K := K) (walk_sq (t := t) (xs := vs)) hD (by omega) Am hvl.symm (fun H' e => SqK.same hv e) ?_ (fun acc H6 e6 s6 hR6 => tup_read e6 hR6 (same_trans s2 s6) k)⟩
    rintro i r v H6 H6' Fn Nn hi hr3 fin s6 ⟨rfl, hx⟩
    obtain ⟨p, l, rfl, gl, hp⟩ := hA.at_ hx
    rw [gl] at hr3
    cases hr3
    exact ⟨rfl, yesT ⟨_, rfl, p, _, rfl, tup_ofK (SqK.same hp s6) fin⟩⟩
theorem ok_chkc {f fW fL fN : Addr} {fd fdW fdL fdN : FuncData} (F : Fun K "checked_columns" "checked_columns" s_checked_columns f fd) (T : TxtG mg)
    (G_is_list : FnOk P w0 K mg base CX0 1 fL fdL ["value"] (spIsList K)) (g_is_list : mg "is_list" = some (.ref fL)) (kp_is_list : PySem.W.keepIn K (.ref fL) = true) (b_is_list : Binds K fdL ["value"] [])
    (G_is_within : FnOk P w0 K mg base CX0 2 fN fdN ["value", "least", "most"] spWithinI) (g_is_within : mg "is_within" = some (.ref fN)) (kp_is_within : PySem.W.keepIn K (.ref fN) = true) (b_is_within : Binds K fdN ["value", "least", "most"] [])
    (G_wrong_row : FnOk P w0 K mg base CX0 4 fW fdW ["rows", "many", "width", "modulus"] (spWRow K)) (g_wrong_row : mg "wrong_row" = some (.ref fW)) (kp_wrong_row : PySem.W.keepIn K (.ref fW) = true) (b_wrong_row : Binds K fdW ["rows", "many", "width", "modulus"] []) :
    FnOk P w0 K mg base CX0 5 f fd ["rows", "size", "modulus"] (spChkC K) := by
  refine F.ok sc_checked_columns (fun vs H Q E h => ?_) (fun cdv A outer s H vs Q E hr h => ?_)
  · obtain ⟨t, u, a, r, n, w, M, rfl, _⟩ := h
    rfl
  · obtain ⟨t, u, a, Am, n, w, M, rfl, hS, hn, hn1, hn2, hw1, hw2, hl, hR, k⟩ := h
    refine ⟨_, (pss_cons (ps_if (PW.pt (pw_or (pt_cmpR op_eq (pe_callB (call_lenSqK (K := K) rfl t) rfl T.f_len PySem.boot_len (pa_cons (pv 0) pa_nil)) pe_int (nomark _)) (pw_or (pt_not (pt_val (pe_call G_is_list (hr.mono (by decide)) rfl g_is_list kp_is_list b_is_list .nil pass0 (pa_cons (pe_ix (ix_sqK (K := K) rfl t) (pv 0) pe_int (fun _ _ => rfl)) pa_nil)))) (pw_or1 (pt_not (pt_val (pe_call G_is_within (hr.mono (by decide)) rfl g_is_within kp_is_within b_is_within .nil pass0 (pa_cons (pe_callB (call_lenSqK (K := K) rfl u) rfl T.f_len PySem.boot_len (pa_cons (pe_ix (ix_sqK (K := K) rfl t) (pv 0) pe_int (fun _ _ => rfl)) pa_nil)) (pa_cons pe_int (pa_cons (pe_glob (v := .int 16) rfl T.gMOST_NUMBERS.choose_spec ⟨_, rfl⟩) pa_nil)))))))))) (pss_one ps_never) pss_nil)
        (pss_cons (ps_set (i := 3) sc_checked_columns.nd rfl (Or.inl rfl) (pe_call G_wrong_row (hr.mono (by decide)) rfl g_wrong_row kp_wrong_row b_wrong_row .nil pass0 (pa_cons (pv 0) (pa_cons (pv 1) (pa_cons (pe_callB (call_lenSqK (K := K) rfl u) rfl T.f_len PySem.boot_len (pa_cons (pe_ix (ix_sqK (K := K) rfl t) (pv 0) pe_int (fun _ _ => rfl)) pa_nil)) (pa_cons (pv 2) pa_nil))))))
        (pss_cons (ps_if (pt_cmpR op_notN (pv 3) pe_non (nomark _)) (pss_one ps_never) pss_nil)
        (pss_one (ps_ret (pe_callTy (call_tupleK (K := K) rfl) rfl T.f_tuple (by decide +kernel) (pa_cons (pe_lc (own := [("row", 4)]) (g := gName 4) rfl sc_checked_columns.nd (pi_sqK (K := K) rfl t (pv 0)) (blkOk_by (N := ["rows", "size", "modulus", "wrong", "row"]) (sc := defScope s_checked_columns) (by decide +kernel)) (fun _ _ _ _ _ => (pg_name (i := 4) sc_checked_columns.nd rfl (Or.inl rfl))) (fun _ _ _ _ _ => pts_nil) (fun _ _ _ _ _ => (pe_callTy (call_tupleK (K := K) rfl) rfl T.f_tuple (by decide +kernel) (pa_cons (pv 4) pa_nil)))) pa_nil))))))), ?_⟩
    obtain ⟨vs, hv, hA⟩ := id hS
    have hvl := hA.length
    have h0 : Am[0]? = some Am[0] := List.getElem?_eq_getElem (by omega)
    obtain ⟨p0, g0, hp0⟩ := hA.get h0
    have hl0 := hl _ (List.mem_of_getElem? h0)
    generalize Am[0] = r0 at *
    have a0 : atI vs 0 = some (V.ref p0) := atI_nat (j := 0) g0
    refine ⟨_, rfl, a, _, rfl, hv, rfl, false, congrArg V.bl (decide_eq_false fun z => ?_), iteF ?_⟩
    · injection z with z
      omega
    refine ⟨_, rfl, a, vs, 0, _, rfl, rfl, hv, a0, u, p0, _, rfl, hp0, fun H3 s3 => ⟨true, rfl, iteF ?_⟩⟩
    have hv3 := SqK.same hv s3
    have hp3 := SqK.same hp0 s3
    refine ⟨_, rfl, a, vs, 0, _, rfl, rfl, hv3, a0, p0, _, rfl, hp3, (r0.map V.int).length, 1, 16, rfl, ?_⟩
    rw [List.length_map, hl0, decide_eq_true (show (1 : Int) ≤ w by omega), decide_eq_true (show (w : Int) ≤ 16 by omega)]
    refine ⟨true, rfl, iteF ?_⟩
    refine ⟨_, rfl, _, rfl, _, rfl, a, vs, 0, _, rfl, rfl, hv3, a0, p0, _, rfl, hp3, ?_⟩
    rw [List.length_map, hl0]
    refine ⟨_, rfl, t, u, a, Am, n, w, M, rfl, hS.same s3, hn, hn2, by omega, hl, hR, fun H2 s2 => ?_⟩
    have s2 := same_trans s3 s2
    obtain ⟨vs, hv, hA⟩ := hS.same s2
    refine ⟨_, rfl, rfl, false, rfl, iteF ?_⟩
    have hvl := hA.length
    refine ⟨_, rfl, a, rfl, ⟨vs, hv⟩, fun D hD => lc_rowsT (K := K) (walk_sq (t := t) (xs := vs)) hD (by omega) Am hvl.symm (fun H' e => SqK.same hv e) ?_ (fun acc H6 e6 s6 hR6 => tup_read e6 hR6 (same_trans s2 s6) k)⟩
    rintro i r v H6 H6' Fn Nn hi hr3 fin s6 ⟨rfl, hx⟩
    obtain ⟨p, l, rfl, gl, hp⟩ := hA.at_ hx
    rw [gl] at hr3
    cases hr3
    exact ⟨rfl, yesT ⟨_, rfl, p, _, rfl, tup_ofK (SqK.same hp s6) fin⟩⟩
theorem ok_beside {f : Addr} {fd : FuncData} (F : Fun K "beside" "beside" s_beside f fd) (T : TxtG mg) : FnOk P w0 K mg base CX0 1 f fd ["one", "other"] (spBeside K) := by
  refine F.ok sc_beside (fun vs H Q E h => ?_) (fun cdv A outer s H vs Q E hr h => ?_)
  · obtain ⟨a, b, A, B, rfl, _⟩ := h
    rfl
  · obtain ⟨a, b, Am, Bm, rfl, ⟨va, hA, rA⟩, ⟨vb, hB, rB⟩, hl, hn, wa, wb, k⟩ := h
    refine ⟨_, (pss_one (ps_ret (pe_callTy (call_tupleK (K := K) rfl) rfl T.f_tuple (by decide +kernel) (pa_cons (pe_lc (own := [("row", 2), ("more", 3)]) (g := gTup K 2 (gCons (gName 2) (gCons (gName 3) gNil))) rfl sc_beside.nd (pi_zip2K (K := K) rfl true true rfl T.f_zip (pa_cons (pv 0) (pa_cons (pv 1) pa_nil))) (blkOk_by (N := ["one", "other", "row", "more"]) (sc := defScope s_beside) (by decide +kernel)) (fun _ _ _ _ _ => (pg_tupK rfl rfl (pgs_cons (pg_name (i := 2) sc_beside.nd rfl (Or.inl rfl)) (pgs_cons (pg_name (i := 3) sc_beside.nd rfl (Or.inl rfl)) pgs_nil)))) (fun _ _ _ _ _ => pts_nil) (fun _ _ _ _ _ => (pe_op (op_catAK (K := K) rfl) (pv 2) (pv 3)))) pa_nil)))), ?_⟩
    have la := rA.length
    have lb := rB.length
    refine ⟨_, rfl, _, rfl, a, b, _, _, rfl, hA, hB, fun D hD => lc_rowsT (K := K) (ZM.walk_two (t := true) (u := true) (n := Am.length) (by rw [la, lb, ← hl]; simp)) hD (by omega) (besideM Am Bm) (by simp [besideM, hl]) (fun H' e => ⟨SqT.same hA e, SqT.same hB e⟩) ?_ (fun acc H6 e6 s6 hR6 => tup_read e6 hR6 s6 k)⟩
    rintro i r v H6 H6' Fn Nn hi hr3 fin s6 ⟨T2, x, y, rfl, hT2, rfl, hx, hy⟩
    obtain ⟨pa, ra, rfl, ga, ha⟩ := rows_at rA hx
    obtain ⟨pb, rb, rfl, gb, hb⟩ := rows_at rB hy
    have er : r = ra ++ rb := by
      unfold besideM at hr3
      rw [List.getElem?_zipWith, ga, gb] at hr3
      cases hr3
      rfl
    subst er
    have sT := same_upd (o := .tup [.ref pa, .ref pb]) hT2
    refine ⟨T2, _, rfl, SqT.of upd_same, rfl, _, _, rfl, _, _, rfl, rfl, rfl, yesT ?_⟩
    have ea : (ra ++ rb).map V.int = ra.map V.int ++ rb.map V.int := List.map_append
    have wla := wa _ (List.mem_of_getElem? ga)
    have wlb := wb _ (List.mem_of_getElem? gb)
    refine ⟨_, rfl, _, rfl, pa, pb, _, _, rfl, rfl, SqT.same (SqT.same ha s6) sT, SqT.same (SqT.same hb s6) sT, ?_⟩
    have s7 := same_trans s6 sT
    rw [← ea] at *
    have hb7 := SqT.same hb s7
    have ha7 := SqT.same ha s7
    refine ⟨Nat.le_trans (show _ ≤ 2000 by simp; omega) (by decide), fun e => fin _ _ sT ?_, fun _ e => fin _ _ sT ?_, fun _ _ q nq => fin q _ (same_trans sT (same_upd nq)) (SqT.of upd_same)⟩
    · have : ra = [] := List.map_eq_nil_iff.mp e
      rw [this]
      exact hb7
    · have : rb = [] := List.map_eq_nil_iff.mp e
      rw [this, List.append_nil]
      exact ha7
end
end Wk

namespace Wk
open PySem L2
abbrev s_Guard_init : Stmt := inClass (top 46) 0
theorem sc_Guard_init : FnScope ["self", "modulus", "matrix", "columns", "start", "end", "size", "wrong"] ["self", "modulus", "matrix", "columns", "start", "end"] (defScope s_Guard_init) := ⟨rfl, rfl, rfl, by decide +kernel, rfl, by decide +kernel, by decide +kernel⟩
abbrev s_Guard_told : Stmt := inClass (top 46) 2
theorem sc_Guard_told : FnScope ["self", "block", "state", "number", "more"] ["self", "block"] (defScope s_Guard_told) := ⟨rfl, rfl, rfl, by decide +kernel, rfl, by decide +kernel, by decide +kernel⟩
abbrev s_Guard_behind : Stmt := inClass (top 46) 3
theorem sc_Guard_behind : FnScope ["self", "block", "state", "wrong"] ["self", "block", "state"] (defScope s_Guard_behind) := ⟨rfl, rfl, rfl, by decide +kernel, rfl, by decide +kernel, by decide +kernel⟩
abbrev s_state_behind : Stmt := top 47
theorem sc_state_behind : FnScope ["guard", "block", "state", "alone", "step", "symbol", "numbers", "at", "number"] ["guard", "block", "state"] (defScope s_state_behind) := ⟨rfl, rfl, rfl, by decide +kernel, rfl, by decide +kernel, by decide +kernel⟩

/-! ### a guard as an object -/
structure GD where
  M : Int
  A : Mat
  G : Mat
  st : Row
  en : Row
  n : Nat
  w : Nat
def LInv (M : Int) (n : Nat) (A : Mat) : Prop := ∃ B : Fm, EqF M n (mulF n B (ent A)) oneF
structure GOk (D : GD) : Prop where
  m2 : 2 ≤ D.M
  m18 : D.M ≤ 1000000000000000000
  n1 : 1 ≤ D.n
  n16 : D.n ≤ 16
  w1 : 1 ≤ D.w
  w16 : D.w ≤ 16
  sA : Shp D.n D.n D.A
  sG : Shp D.n D.w D.G
  lst : D.st.length = D.n
  len : D.en.length = D.n
  rA : MRed D.M D.A
  rG : MRed D.M D.G
  rst : RRed D.M D.st
  ren : RRed D.M D.en
  inv : LInv D.M D.n D.A
def flG (D : GD) (aM aC aS aE : Addr) : List (Str × V) := [("modulus", .int D.M), ("size", .int (D.n : Int)), ("matrix", .ref aM), ("columns", .ref aC), ("width", .int (D.w : Int)), ("start", .ref aS), ("end", .ref aE)]
structure GuardAt (K : PySem.W.Frag) (C : Addr) (H : Hp) (p : Addr) (D : GD) : Prop where
  ex : ∃ dx aM aC aS aE, H p = some (.ins C dx (flG D aM aC aS aE)) ∧ MatAt K H aM D.A ∧ MatAt K H aC D.G ∧ RowAt K H aS D.st ∧ RowAt K H aE D.en
theorem GuardAt.same {K : PySem.W.Frag} {C : Addr} {H H' : Hp} {p : Addr} {D : GD} (h : GuardAt K C H p D) (e : Same H H') : GuardAt K C H' p D := by
  obtain ⟨dx, aM, aC, aS, aE, h1, h2, h3, h4, h5⟩ := h.ex
  exact ⟨dx, aM, aC, aS, aE, e _ _ h1, h2.same e, h3.same e, SqT.same h4 e, SqT.same h5 e⟩
section
variable {D : GD} {aM aC aS aE : Addr}
theorem flG_m : (flG D aM aC aS aE).lookup ("modulus" : Str) = some (.int D.M) := by rfl
theorem flG_n : (flG D aM aC aS aE).lookup ("size" : Str) = some (.int (D.n : Int)) := by rfl
theorem flG_A : (flG D aM aC aS aE).lookup ("matrix" : Str) = some (.ref aM) := by rfl
theorem flG_G : (flG D aM aC aS aE).lookup ("columns" : Str) = some (.ref aC) := by rfl
theorem flG_w : (flG D aM aC aS aE).lookup ("width" : Str) = some (.int (D.w : Int)) := by rfl
theorem flG_s : (flG D aM aC aS aE).lookup ("start" : Str) = some (.ref aS) := by rfl
theorem flG_e : (flG D aM aC aS aE).lookup ("end" : Str) = some (.ref aE) := by rfl
end
structure TxtGd (K : PySem.W.Frag) (mg : Str → Option Value) (C fI fT fB fQ : Addr) : Prop extends TxtG mg where
  cl : Cls K C
  a_modulus : NoAttr K C "modulus"
  a_size : NoAttr K C "size"
  a_matrix : NoAttr K C "matrix"
  a_columns : NoAttr K C "columns"
  a_width : NoAttr K C "width"
  a_start : NoAttr K C "start"
  a_end : NoAttr K C "end"
  mgC : mg "Guard" = some (.ref C)
  mkr : Mk K C fI
  m_told : Meth K C "told" fT
  m_behind : Meth K C "behind" fB
  m_eq : Meth K C "__eq__" fQ
  ca : PySem.W.findIn K (.ref C) "__class__" = some (some (.builtin "object.__class__"))
  cn : PySem.W.specialIn K (.builtin "object.__class__") "__get__" = some (some (.builtin "getset_descriptor.__get__"))
  ct : PySem.W.takesIn K (.builtin "object.__class__") = some true
  cm : PySem.W.mroIn K C (.type "object") = some true
  k1 : PySem.W.kitOne K (.ref C) (.ref C) = some true
  k2 : PySem.W.kitOne K (.type "list") (.ref C) = some false
  s1 : PySem.W.subIn K (.type "list") (.ref C) = some false
/-- no list and no tuple stands at p -/
def NoSq (H : Hp) (p : Addr) : Prop := ∀ xs o, H p ≠ some (.lst xs) ∧ H p ≠ some (.tup xs) ∧ H p ≠ some (.frz o (.lst xs)) ∧ H p ≠ some (.frz o (.tup xs))
theorem NoSq.ins {H : Hp} {p C dx : Addr} {fs} (h : H p = some (.ins C dx fs)) : NoSq H p := fun xs o => by
  rw [h]
  exact ⟨(fun z => by cases z), (fun z => by cases z), (fun z => by cases z), (fun z => by cases z)⟩
theorem NoSq.dk {H : Hp} {p : Addr} {kvs} (h : H p = some (.dK kvs)) : NoSq H p := fun xs o => by
  rw [h]
  exact ⟨(fun z => by cases z), (fun z => by cases z), (fun z => by cases z), (fun z => by cases z)⟩
theorem SqT.but {K : PySem.W.Frag} {H H' : Hp} {a p : Addr} {xs : List V} (h : SqT K H a xs) (e : But p H H') (n : NoSq H p) : SqT K H' a xs := by
  rcases h with (h | ⟨o, h⟩) | h
  · exact .inl (.inl (e _ _ (fun z => (n xs default).2.1 (z ▸ h)) h))
  · exact .inl (.inr ⟨o, e _ _ (fun z => (n xs o).2.2.2 (z ▸ h)) h⟩)
  · exact .inr h
theorem SqK.but {t : Bool} {K : PySem.W.Frag} {H H' : Hp} {a p : Addr} {xs : List V} (h : ZM.SqK t K H a xs) (e : But p H H') (n : NoSq H p) : ZM.SqK t K H' a xs := by
  cases t
  · rcases h with (h | ⟨o, h⟩) | h
    · exact .inl (.inl (e _ _ (fun z => (n xs default).1 (z ▸ h)) h))
    · exact .inl (.inr ⟨o, e _ _ (fun z => (n xs o).2.2.1 (z ▸ h)) h⟩)
    · exact .inr h
  · exact SqT.but h e n
theorem RowsS.but {u : Bool} {K : PySem.W.Frag} {H H' : Hp} {p : Addr} (e : But p H H') (n : NoSq H p) : ∀ {vs : List V} {A : Mat}, RowsS u K H vs A → RowsS u K H' vs A
  | _, _, .nil => .nil
  | _, _, .cons h t => .cons (SqK.but h e n) (t.but e n)
theorem RowsG.but {t u : Bool} {K : PySem.W.Frag} {H H' : Hp} {a p : Addr} {A : Mat} (h : RowsG t u K H a A) (e : But p H H') (n : NoSq H p) : RowsG t u K H' a A := by
  obtain ⟨vs, h1, h2⟩ := h
  exact ⟨vs, SqK.but h1 e n, h2.but e n⟩
theorem RowsAre.but' {K : PySem.W.Frag} {H H' : Hp} {p : Addr} (e : But p H H') (n : NoSq H p) : ∀ {vs : List V} {A : Mat}, RowsAre K H vs A → RowsAre K H' vs A
  | _, _, .nil => .nil
  | _, _, .cons h t => .cons (SqT.but h e n) (t.but' e n)
theorem MatAt.but' {K : PySem.W.Frag} {H H' : Hp} {a p : Addr} {A : Mat} (h : MatAt K H a A) (e : But p H H') (n : NoSq H p) : MatAt K H' a A := by
  obtain ⟨vs, h1, h2⟩ := h
  exact ⟨vs, SqT.but h1 e n, h2.but' e n⟩
theorem RowsAre.get0 {K : PySem.W.Frag} {H : Hp} : ∀ {vs : List V} {A : Mat}, RowsAre K H vs A → ∀ {i : Nat} {l : Row}, A[i]? = some l → ∃ (p : Addr), vs[i]? = some (.ref p) ∧ SqT K H p (l.map V.int)
  | _, _, .nil, i, x, e => by simp at e
  | _, _, .cons h t, 0, x, e => by
    cases e
    exact ⟨_, rfl, h⟩
  | _, _, .cons h t, i + 1, x, e => t.get0 (i := i) e
theorem tup_ofR {u : Bool} {K : PySem.W.Frag} {H : Hp} {p : Addr} {l : Row} {Q : VK} (hp : ZM.SqK u K H p (l.map V.int)) (fin : ∀ q H4, Same H H4 → SqT K H4 q (l.map V.int) → Q (.ref q) H4) : rTupOf K [.ref p] H Q := ⟨p, _, rfl, tup_ofK hp fin⟩
/-! slices of a list or a tuple -/
def rSlS (t : Bool) (K : PySem.W.Frag) : V → Option Int → Option Int → Hp → VK → Prop := if t = true then rSlA K else rSlL K
theorem sl_sqK {X : Cx} {K : PySem.W.Frag} (hK : X.K = K) (t : Bool) : SlR X (rSlS t K) := by
  subst hK
  cases t
  · exact sl_list
  · exact sl_tupA
theorem cutV_whole {xs : List V} {lo hi : Option Int} (h : HT.sIx xs.length 0 lo = 0 ∧ HT.sIx xs.length xs.length hi = xs.length) : cutV xs lo hi = xs := by
  unfold cutV
  rw [h.1, h.2, List.drop_zero, Nat.sub_zero, List.take_length]
theorem slS_read {t : Bool} {K : PySem.W.Frag} {H : Hp} {a : Addr} {xs : List V} {lo hi : Option Int} {Q : VK} (h : ZM.SqK t K H a xs) (k : ∀ q H', Same H H' → ZM.SqK t K H' q (cutV xs lo hi) → Q (.ref q) H') : rSlS t K (.ref a) lo hi H Q := by
  cases t
  · exact ⟨a, xs, rfl, h, fun p np => k p _ (same_upd np) (.inl (.inl upd_same))⟩
  · exact ⟨a, xs, rfl, h, fun w => k a H (fun _ _ e => e) (by rw [cutV_whole w]; exact h), fun _ p np => k p _ (same_upd np) (.inl (.inl upd_same))⟩
def spGInit (K : PySem.W.Frag) (C : Addr) : Sp := fun vs H Q _ => ∃ (t u t2 u2 t3 t4 : Bool) (p dx aM aC aS aE : Addr) (D : GD), vs = [.ref p, .int D.M, .ref aM, .ref aC, .ref aS, .ref aE] ∧ H p = some (.ins C dx []) ∧ GOk D ∧
  RowsG t u K H aM D.A ∧ RowsG t2 u2 K H aC D.G ∧ ZM.SqK t3 K H aS (D.st.map V.int) ∧ ZM.SqK t4 K H aE (D.en.map V.int) ∧ ∀ H', But p H H' → GuardAt K C H' p D → Q .non H'
section
variable {P : Program} {w0 : World} {K : PySem.W.Frag} {mg : Str → Option Value} {base : Heap} {C fI fT fB fQ : Addr}
theorem ok_ginit {f fm fw fa fu fc fn : Addr} {fd fdm fdw fda fdu fdc fdn : FuncData} (F : Fun K "__init__" "Guard.__init__" s_Guard_init f fd) (T : TxtGd K mg C fI fT fB fQ)
    (G_check_modulus : FnOk P w0 K mg base CX0 3 fm fdm ["modulus"] spChkM) (g_check_modulus : mg "check_modulus" = some (.ref fm)) (kp_check_modulus : PySem.W.keepIn K (.ref fm) = true) (b_check_modulus : Binds K fdm ["modulus"] [])
    (G_is_within : FnOk P w0 K mg base CX0 2 fw fdw ["value", "least", "most"] spWithinI) (g_is_within : mg "is_within" = some (.ref fw)) (kp_is_within : PySem.W.keepIn K (.ref fw) = true) (b_is_within : Binds K fdw ["value", "least", "most"] [])
    (G_checked_matrix : FnOk P w0 K mg base CX0 5 fa fda ["rows", "size", "modulus"] (spChkA K)) (g_checked_matrix : mg "checked_matrix" = some (.ref fa)) (kp_checked_matrix : PySem.W.keepIn K (.ref fa) = true) (b_checked_matrix : Binds K fda ["rows", "size", "modulus"] [])
    (G_undone : FnOk P w0 K mg base CX0 4 fu fdu ["modulus", "matrix"] (spUndone K)) (g_undone : mg "undone" = some (.ref fu)) (kp_undone : PySem.W.keepIn K (.ref fu) = true) (b_undone : Binds K fdu ["modulus", "matrix"] [])
    (G_checked_columns : FnOk P w0 K mg base CX0 5 fc fdc ["rows", "size", "modulus"] (spChkC K)) (g_checked_columns : mg "checked_columns" = some (.ref fc)) (kp_checked_columns : PySem.W.keepIn K (.ref fc) = true) (b_checked_columns : Binds K fdc ["rows", "size", "modulus"] [])
    (G_wrong_number : FnOk P w0 K mg base CX0 3 fn fdn ["numbers", "many", "modulus"] (spWNum K)) (g_wrong_number : mg "wrong_number" = some (.ref fn)) (kp_wrong_number : PySem.W.keepIn K (.ref fn) = true) (b_wrong_number : Binds K fdn ["numbers", "many", "modulus"] []) :
    FnOk P w0 K mg base CX0 6 f fd ["self", "modulus", "matrix", "columns", "start", "end"] (spGInit K C) := by
  refine F.ok sc_Guard_init (fun vs H Q E h => ?_) (fun cdv A outer s H vs Q E hr h => ?_)
  · obtain ⟨t, u, t2, u2, t3, t4, p, dx, aM, aC, aS, aE, D, rfl, _⟩ := h
    rfl
  · obtain ⟨t, u, t2, u2, t3, t4, p, dx, aM, aC, aS, aE, D, rfl, hp, ok, hA, hG, hS, hE, k⟩ := h
    refine ⟨_, (pss_cons (ps_expr (pe_call G_check_modulus (hr.mono (by decide)) rfl g_check_modulus kp_check_modulus b_check_modulus .nil pass0 (pa_cons (pv 1) pa_nil)))
        (pss_cons (ps_set (i := 6) sc_Guard_init.nd rfl (Or.inl rfl) (pe_callB (call_lenSqK (K := K) rfl t) rfl T.f_len PySem.boot_len (pa_cons (pv 2) pa_nil)))
        (pss_cons (ps_if (pt_not (pt_val (pe_call G_is_within (hr.mono (by decide)) rfl g_is_within kp_is_within b_is_within .nil pass0 (pa_cons (pv 6) (pa_cons pe_int (pa_cons (pe_glob (v := .int 16) rfl T.gMOST_NUMBERS.choose_spec ⟨_, rfl⟩) pa_nil)))))) (pss_one ps_never) pss_nil)
        (pss_cons (ps_fld (pv 0) (pv 1) rfl)
        (pss_cons (ps_fld (pv 0) (pv 6) rfl)
        (pss_cons (ps_fld (pv 0) (pe_call G_checked_matrix (hr.mono (by decide)) rfl g_checked_matrix kp_checked_matrix b_checked_matrix .nil pass0 (pa_cons (pv 2) (pa_cons (pv 6) (pa_cons (pv 1) pa_nil)))) rfl)
        (pss_cons (ps_if (pt_cmpR op_isN (pe_call G_undone (hr.mono (by decide)) rfl g_undone kp_undone b_undone .nil pass0 (pa_cons (pv 1) (pa_cons (pe_fld (pv 0) rfl) pa_nil))) pe_non (nomark _)) (pss_one ps_never) pss_nil)
        (pss_cons (ps_fld (pv 0) (pe_call G_checked_columns (hr.mono (by decide)) rfl g_checked_columns kp_checked_columns b_checked_columns .nil pass0 (pa_cons (pv 3) (pa_cons (pv 6) (pa_cons (pv 1) pa_nil)))) rfl)
        (pss_cons (ps_fld (pv 0) (pe_callB call_len_seq rfl T.f_len PySem.boot_len (pa_cons (pe_ix ix_tup (pe_fld (pv 0) rfl) pe_int (fun _ _ => rfl)) pa_nil)) rfl)
        (pss_cons (ps_set (i := 7) sc_Guard_init.nd rfl (Or.inl rfl) (pe_call G_wrong_number (hr.mono (by decide)) rfl g_wrong_number kp_wrong_number b_wrong_number .nil pass0 (pa_cons (pv 4) (pa_cons (pv 6) (pa_cons (pv 1) pa_nil)))))
        (pss_cons (ps_if (pt_cmpR op_notN (pv 7) pe_non (nomark _)) (pss_one ps_never) pss_nil)
        (pss_cons (ps_set (i := 7) sc_Guard_init.nd rfl (Or.inl rfl) (pe_call G_wrong_number (hr.mono (by decide)) rfl g_wrong_number kp_wrong_number b_wrong_number .nil pass0 (pa_cons (pv 5) (pa_cons (pv 6) (pa_cons (pv 1) pa_nil)))))
        (pss_cons (ps_if (pt_cmpR op_notN (pv 7) pe_non (nomark _)) (pss_one ps_never) pss_nil)
        (pss_cons (ps_fld (pv 0) (pe_callTy (call_tupleK (K := K) rfl) rfl T.f_tuple (by decide +kernel) (pa_cons (pv 4) pa_nil)) rfl)
        (pss_one (ps_fld (pv 0) (pe_callTy (call_tupleK (K := K) rfl) rfl T.f_tuple (by decide +kernel) (pa_cons (pv 5) pa_nil)) rfl)))))))))))))))), ?_⟩
    obtain ⟨vs, hv, hr2⟩ := id hA
    have hvl := hr2.length
    refine ⟨_, rfl, D.M, rfl, ok.m2, ok.m18, ?_⟩
    refine ⟨_, rfl, aM, _, rfl, hv, ?_⟩
    rw [hvl, ok.sA.1]
    refine ⟨_, rfl, (D.n : Int), 1, 16, rfl, ?_⟩
    have e1 := ok.n1
    have e2 := ok.n16
    rw [decide_eq_true (show (1 : Int) ≤ D.n by omega), decide_eq_true (show (D.n : Int) ≤ 16 by omega)]
    refine ⟨true, rfl, iteF ?_⟩
    have nq : NoSq H p := .ins hp
    refine ⟨_, rfl, _, rfl, p, C, dx, _, rfl, hp, T.cl, T.a_modulus, (by show 0 < 1000; decide), ?_⟩
    refine ⟨_, rfl, _, rfl, p, C, dx, _, rfl, upd_same, T.cl, T.a_size, (by show 1 < 1000; decide), ?_⟩
    have b1 : But p H (upd (upd H p (.ins C dx (putF "modulus" (.int D.M) []))) p (.ins C dx (putF "size" (.int (D.n : Int)) (putF "modulus" (.int D.M) [])))) := fun b o n e => by rw [upd_ne n, upd_ne n]; exact e
    have g1 : (upd (upd H p (.ins C dx (putF "modulus" (.int D.M) []))) p (.ins C dx (putF "size" (.int (D.n : Int)) (putF "modulus" (.int D.M) [])))) p = some (.ins C dx [("modulus", .int D.M), ("size", .int (D.n : Int))]) := upd_same
    generalize upd (upd H p (.ins C dx (putF "modulus" (.int D.M) []))) p (.ins C dx (putF "size" (.int (D.n : Int)) (putF "modulus" (.int D.M) []))) = H1 at b1 g1 ⊢
    refine ⟨_, rfl, _, rfl, _, rfl, t, u, aM, D.A, D.n, D.M, rfl, hA.but b1 nq, ok.sA.1, by omega, ok.sA.2, ok.rA, fun qM H2 s2 hqM => ⟨_, rfl, p, C, dx, _, rfl, s2 _ _ g1, T.cl, T.a_matrix, (by show 2 < 1000; decide), ?_⟩⟩
    have b2 : But p H (upd H2 p (.ins C dx (putF "matrix" (.ref qM) [("modulus", .int D.M), ("size", .int (D.n : Int))]))) := fun b o n e => by rw [upd_ne n]; exact s2 _ _ (b1 _ _ n e)
    have c2 : But p H2 (upd H2 p (.ins C dx (putF "matrix" (.ref qM) [("modulus", .int D.M), ("size", .int (D.n : Int))]))) := fun b o n e => by rw [upd_ne n]; exact e
    have g2 : (upd H2 p (.ins C dx (putF "matrix" (.ref qM) [("modulus", .int D.M), ("size", .int (D.n : Int))]))) p = some (.ins C dx [("modulus", .int D.M), ("size", .int (D.n : Int)), ("matrix", .ref qM)]) := upd_same
    have hqM2 := hqM.but' c2 (.ins (s2 _ _ g1))
    generalize upd H2 p (.ins C dx (putF "matrix" (.ref qM) [("modulus", .int D.M), ("size", .int (D.n : Int))])) = H3 at b2 g2 hqM2 ⊢
    clear c2 hqM s2 g1 b1
    refine ⟨_, rfl, _, rfl, p, C, dx, _, _, rfl, g2, T.cl, T.a_matrix, rfl, D.M, qM, D.A, D.n, rfl, ok.m2, by have := ok.m18; omega, hqM2, ok.sA.1, ok.sA.2, ok.n1, by omega, ?_⟩
    refine ⟨fun S H' hPu bad _ => ?_, fun S q H4 _ _ s4 _ => ?_⟩
    · obtain ⟨B, hB⟩ := ok.inv
      exact (und_bad ok.m2 ok.sA hPu bad B hB).elim
    refine ⟨rfl, false, rfl, iteF ?_⟩
    have b4 : But p H H4 := b2.same s4
    have g4 := s4 _ _ g2
    have hM4 := hqM2.same s4
    refine ⟨_, rfl, _, rfl, _, rfl, t2, u2, aC, D.G, D.n, D.w, D.M, rfl, hG.but b4 nq, ok.sG.1, ok.n1, by omega, ok.w1, ok.w16, ok.sG.2, ok.rG, fun qC H5 s5 hqC => ⟨_, rfl, p, C, dx, _, rfl, s5 _ _ g4, T.cl, T.a_columns, (by show 3 < 1000; decide), ?_⟩⟩
    have b6 : But p H (upd H5 p (.ins C dx (putF "columns" (.ref qC) [("modulus", .int D.M), ("size", .int (D.n : Int)), ("matrix", .ref qM)]))) := fun b o n e => by rw [upd_ne n]; exact s5 _ _ (b4 _ _ n e)
    have c6 : But p H5 (upd H5 p (.ins C dx (putF "columns" (.ref qC) [("modulus", .int D.M), ("size", .int (D.n : Int)), ("matrix", .ref qM)]))) := fun b o n e => by rw [upd_ne n]; exact e
    have g6 : (upd H5 p (.ins C dx (putF "columns" (.ref qC) [("modulus", .int D.M), ("size", .int (D.n : Int)), ("matrix", .ref qM)]))) p = some (.ins C dx [("modulus", .int D.M), ("size", .int (D.n : Int)), ("matrix", .ref qM), ("columns", .ref qC)]) := upd_same
    have hM6 := (hM4.same s5).but' c6 (.ins (s5 _ _ g4))
    have hC6 := hqC.but' c6 (.ins (s5 _ _ g4))
    generalize upd H5 p (.ins C dx (putF "columns" (.ref qC) [("modulus", .int D.M), ("size", .int (D.n : Int)), ("matrix", .ref qM)])) = H6 at b6 g6 hM6 hC6 ⊢
    obtain ⟨vc, hvc, hrc⟩ := id hC6
    have h0 : D.G[0]? = some (D.G[0]'(by have := ok.sG.1; omega)) := List.getElem?_eq_getElem _
    obtain ⟨p0, a0, hp0⟩ := hrc.get0 h0
    have hl0 := ok.sG.2 _ (List.mem_of_getElem? h0)
    generalize D.G[0]'(by have := ok.sG.1; omega) = r0 at *
    refine ⟨_, rfl, p, C, dx, _, _, rfl, g6, T.cl, T.a_columns, rfl, qC, vc, 0, _, rfl, rfl, hvc, atI_nat (j := 0) a0, p0, _, rfl, .inr hp0, _, rfl, p, C, dx, _, rfl, g6, T.cl, T.a_width, (by show 4 < 1000; decide), ?_⟩
    rw [List.length_map, hl0]
    have b8 : But p H (upd H6 p (.ins C dx (putF "width" (.int (D.w : Int)) [("modulus", .int D.M), ("size", .int (D.n : Int)), ("matrix", .ref qM), ("columns", .ref qC)]))) := fun b o n e => by rw [upd_ne n]; exact b6 _ _ n e
    have c8 : But p H6 (upd H6 p (.ins C dx (putF "width" (.int (D.w : Int)) [("modulus", .int D.M), ("size", .int (D.n : Int)), ("matrix", .ref qM), ("columns", .ref qC)]))) := fun b o n e => by rw [upd_ne n]; exact e
    have g8 : (upd H6 p (.ins C dx (putF "width" (.int (D.w : Int)) [("modulus", .int D.M), ("size", .int (D.n : Int)), ("matrix", .ref qM), ("columns", .ref qC)]))) p = some (.ins C dx [("modulus", .int D.M), ("size", .int (D.n : Int)), ("matrix", .ref qM), ("columns", .ref qC), ("width", .int (D.w : Int))]) := upd_same
    have hM8 := hM6.but' c8 (.ins g6)
    have hC8 := hC6.but' c8 (.ins g6)
    generalize upd H6 p (.ins C dx (putF "width" (.int (D.w : Int)) [("modulus", .int D.M), ("size", .int (D.n : Int)), ("matrix", .ref qM), ("columns", .ref qC)])) = H8 at b8 g8 hM8 hC8 ⊢
    refine ⟨_, rfl, _, rfl, _, rfl, t3, aS, D.st, D.n, D.M, rfl, SqK.but hS b8 nq, ok.lst, by omega, ok.rst, fun H9 s9 => ?_⟩
    refine ⟨_, rfl, rfl, false, rfl, iteF ?_⟩
    have b9 := b8.same s9
    refine ⟨_, rfl, _, rfl, _, rfl, t4, aE, D.en, D.n, D.M, rfl, SqK.but hE b9 nq, ok.len, by omega, ok.ren, fun H10 s10 => ?_⟩
    refine ⟨_, rfl, rfl, false, rfl, iteF ?_⟩
    have b10 := b9.same s10
    have s11 := same_trans s9 s10
    have g10 := s11 _ _ g8
    have hM10 := hM8.same s11
    have hC10 := hC8.same s11
    refine ⟨_, rfl, ?_⟩
    dsimp only [tNil]
    refine tup_ofR (SqK.but hS b10 nq) fun qS H11 s11 hqS => ⟨_, rfl, p, C, dx, _, rfl, s11 _ _ g10, T.cl, T.a_start, (by show 5 < 1000; decide), ?_⟩
    have b12 : But p H (upd H11 p (.ins C dx (putF "start" (.ref qS) [("modulus", .int D.M), ("size", .int (D.n : Int)), ("matrix", .ref qM), ("columns", .ref qC), ("width", .int (D.w : Int))]))) := fun b o n e => by rw [upd_ne n]; exact s11 _ _ (b10 _ _ n e)
    have c12 : But p H11 (upd H11 p (.ins C dx (putF "start" (.ref qS) [("modulus", .int D.M), ("size", .int (D.n : Int)), ("matrix", .ref qM), ("columns", .ref qC), ("width", .int (D.w : Int))]))) := fun b o n e => by rw [upd_ne n]; exact e
    have g12 : (upd H11 p (.ins C dx (putF "start" (.ref qS) [("modulus", .int D.M), ("size", .int (D.n : Int)), ("matrix", .ref qM), ("columns", .ref qC), ("width", .int (D.w : Int))]))) p = some (.ins C dx [("modulus", .int D.M), ("size", .int (D.n : Int)), ("matrix", .ref qM), ("columns", .ref qC), ("width", .int (D.w : Int)), ("start", .ref qS)]) := upd_same
    have n11 : NoSq H11 p := .ins (s11 _ _ g10)
    have hM12 := (hM10.same s11).but' c12 n11
    have hC12 := (hC10.same s11).but' c12 n11
    have hS12 := SqT.but hqS c12 n11
    generalize upd H11 p (.ins C dx (putF "start" (.ref qS) [("modulus", .int D.M), ("size", .int (D.n : Int)), ("matrix", .ref qM), ("columns", .ref qC), ("width", .int (D.w : Int))])) = H12 at b12 g12 hM12 hC12 hS12 ⊢
    refine ⟨_, rfl, ?_⟩
    dsimp only [tNil]
    refine tup_ofR (SqK.but hE b12 nq) fun qE H13 s13 hqE => ⟨_, rfl, p, C, dx, _, rfl, s13 _ _ g12, T.cl, T.a_end, (by show 6 < 1000; decide), ?_⟩
    have n13 : NoSq H13 p := .ins (s13 _ _ g12)
    have c14 : But p H13 (upd H13 p (.ins C dx (putF "end" (.ref qE) [("modulus", .int D.M), ("size", .int (D.n : Int)), ("matrix", .ref qM), ("columns", .ref qC), ("width", .int (D.w : Int)), ("start", .ref qS)]))) := fun b o n e => by rw [upd_ne n]; exact e
    exact k _ (fun b o n e => by rw [upd_ne n]; exact s13 _ _ (b12 _ _ n e)) ⟨dx, qM, qC, qS, qE, upd_same, (hM12.same s13).but' c14 n13, (hC12.same s13).but' c14 n13, SqT.but (SqT.same hS12 s13) c14 n13, SqT.but hqE c14 n13⟩
end
end Wk

namespace Wk
open PySem L2
def spTrnL (K : PySem.W.Frag) : Sp := fun vs H Q _ => ∃ (a : Addr) (B : Mat) (n : Nat), vs = [.ref a] ∧ RowsG false true K H a B ∧ 1 ≤ B.length ∧ B.length ≤ 16 ∧ n ≤ 1000 ∧ (∀ r ∈ B, r.length = n) ∧ NewMat K H (colsOf n B) Q
theorem RowsS.are {K : PySem.W.Frag} {H : Hp} : ∀ {vs : List V} {A : Mat}, RowsS true K H vs A → RowsAre K H vs A
  | _, _, .nil => .nil
  | _, _, .cons h t => .cons h t.are
section
variable {P : Program} {w0 : World} {K : PySem.W.Frag} {mg : Str → Option Value} {base : Heap}
theorem ok_transL {f : Addr} {fd : FuncData} (F : Fun K "transposed" "transposed" s_transposed f fd) (T : TxtM mg) : FnOk P w0 K mg base CX0 1 f fd ["matrix"] (spTrnL K) := by
  refine F.ok sc_transposed (fun vs H Q E h => ?_) (fun cdv A outer s H vs Q E hr h => ?_)
  · obtain ⟨a, B, n, rfl, _⟩ := h
    rfl
  · obtain ⟨a, B, n, rfl, ⟨vs, hB, hRs⟩, h1, h8, n2, hw, k⟩ := h
    have hR := hRs.are
    refine ⟨_, (pss_one (ps_ret (pe_trn rfl rfl T.f_tuple rfl T.f_zip (pv 0)))), ?_⟩
    obtain ⟨ls, rfl, hl, hh⟩ := rows_refs hR
    refine ⟨_, rfl, a, ls, B.map (fun r => r.map V.int), n, rfl, .inr hB, by simp [hl], by omega, by omega, Nat.zero_le _, n2, fun i l r e1 e2 => ?_, fun as p H2 sm has hp hc => ?_⟩
    · rw [List.getElem?_map] at e2
      cases e : B[i]? with
      | none => rw [e] at e2; cases e2
      | some r0 =>
        rw [e] at e2
        cases e2
        exact ⟨hh i l r0 e1 e, by rw [List.length_map]; exact hw _ (List.mem_of_getElem? e)⟩
    · refine k p H2 sm ⟨as.map V.ref, SqT.of hp, rows_of (by simp [colsOf, has]) fun i v r e1 e2 => ?_⟩
      rw [List.getElem?_map] at e1
      cases ea : as[i]? with
      | none => rw [ea] at e1; cases e1
      | some b =>
        rw [ea] at e1
        cases e1
        have hi : i < n := by
          rw [← has]
          exact (List.getElem?_eq_some_iff.mp ea).1
        refine ⟨b, rfl, SqT.of ((hc i b ea).trans ?_)⟩
        have er : r = B.map fun r => r.getD i 0 := by
          simp only [colsOf, List.getElem?_map, List.getElem?_range hi, Option.map_some, Option.some.injEq] at e2
          exact e2.symm
        rw [er, List.map_map, List.map_map]
        congr 2
        refine List.map_congr_left fun q hq => ?_
        have hql := hw q hq
        have hq2 : i < q.length := by omega
        simp [List.getD_eq_getElem?_getD, List.getElem?_eq_getElem hq2]
end
end Wk

/-! tuples put together and cut -/
namespace Wk
open PySem L2
theorem catS_read {K : PySem.W.Frag} {H : Hp} {Q : VK} {a b : Addr} {xs ys : List V} (ha : SqT K H a xs) (hb : SqT K H b ys) (hn : xs.length + ys.length ≤ 1000000) (tail : ∀ q G, Same H G → SqT K G q (xs ++ ys) → Q (.ref q) G) : rCatA K (.ref a) (.ref b) H Q := by
  refine ⟨a, b, xs, ys, rfl, rfl, ha, hb, Nat.le_trans hn (by decide), fun z => ?_, fun _ z => ?_, fun _ _ p np => tail p _ (same_upd np) (SqT.of upd_same)⟩
  · subst z
    exact tail b H (fun _ _ e => e) hb
  · subst z
    rw [List.append_nil] at tail
    exact tail a H (fun _ _ e => e) ha
theorem slT_read {K : PySem.W.Frag} {H : Hp} {Q : VK} {a : Addr} {xs : List V} {lo hi : Option Int} (ha : SqT K H a xs) (tail : ∀ q G, Same H G → SqT K G q (cutV xs lo hi) → Q (.ref q) G) : rSlA K (.ref a) lo hi H Q := by
  refine ⟨a, xs, rfl, ha, fun z => ?_, fun _ p np => tail p _ (same_upd np) (SqT.of upd_same)⟩
  refine tail a H (fun _ _ e => e) ?_
  have : cutV xs lo hi = xs := by
    unfold cutV
    rw [z.1, z.2]
    simp
  rw [this]
  exact ha
theorem cut_mem {xs : List V} {lo hi : Option Int} {v : V} (h : v ∈ cutV xs lo hi) : v ∈ xs := by
  unfold cutV at h
  exact List.mem_of_mem_drop (List.mem_of_mem_take h)
theorem cut_len (xs : List V) (lo hi : Option Int) : (cutV xs lo hi).length ≤ xs.length := by
  unfold cutV
  rw [List.length_take, List.length_drop]
  omega
theorem cut_ints {r : Row} {lo hi : Option Int} : ∃ r' : Row, cutV (r.map V.int) lo hi = r'.map V.int ∧ (∀ x ∈ r', x ∈ r) ∧ r'.length ≤ r.length := by
  refine ⟨(r.drop (HT.sIx (r.map V.int).length 0 lo)).take (HT.sIx (r.map V.int).length (r.map V.int).length hi - HT.sIx (r.map V.int).length 0 lo), by unfold cutV; rw [List.map_take, List.map_drop], fun x hx => List.mem_of_mem_drop (List.mem_of_mem_take hx), ?_⟩
  rw [List.length_take, List.length_drop]
  omega
end Wk

/-! solutions of equations -/
namespace Wk
open PySem L2 NumI
abbrev s_solved : Stmt := top 33
theorem sc_solved : FnScope ["modulus", "columns", "height", "many", "stairs", "kernel", "index"] ["modulus", "columns"] (defScope s_solved) := ⟨rfl, rfl, rfl, by decide +kernel, rfl, by decide +kernel, by decide +kernel⟩
abbrev s_kernel_of : Stmt := top 34
theorem sc_kernel_of : FnScope ["modulus", "matrix", "_", "kernel"] ["modulus", "matrix"] (defScope s_kernel_of) := ⟨rfl, rfl, rfl, by decide +kernel, rfl, by decide +kernel, by decide +kernel⟩

-- modulus=0 columns=1 height=2 many=3 stairs=4 kernel=5 index=6
-- 
-- 
-- 
def spSolvedP (K : PySem.W.Frag) (C : Addr) : Sp := fun vs H Q _ => ∃ (M : Int) (a : Addr) (A : Mat) (h m : Nat), vs = [.int M, .ref a] ∧ 2 ≤ M ∧ M < 2 ^ 64 ∧ MatAt K H a A ∧ A.length = m ∧ 1 ≤ m ∧ m ≤ 400 ∧ 1 ≤ h ∧ h ≤ 400 ∧ (∀ r ∈ A, r.length = h) ∧
  ∀ (t x l q : Addr) (L : List Row) (S Ks : List (Option Row)) (H' : Hp), Solv M h m L S Ks → Marks M h m A L → Same H H' → H' t = some (.tup [.ref x, .ref q]) → StAt C H' x l M S → MatAt K H' q ((settle M m Ks m).map (·.2)) → Q (.ref t) H'
def marksRev (M : Int) (m : Nat) (A : Mat) (i : Nat) : List Row := (List.range i).map fun k => markOf M m (A.getD (m - 1 - k) []) (m - 1 - k)
theorem marksRev_succ {M : Int} {m : Nat} {A : Mat} {i : Nat} {r : Row} (h : A[m - 1 - i]? = some r) : marksRev M m A (i + 1) = marksRev M m A i ++ [markOf M m r (m - 1 - i)] := by
  unfold marksRev
  rw [List.range_succ, List.map_append]
  simp [List.getD_eq_getElem?_getD, h]
theorem marksRev_all {M : Int} {w m : Nat} {A : Mat} (hl : A.length = m) (hr : ∀ r ∈ A, r.length = w) : Marks M w m A (marksRev M m A m) := by
  have e : ∀ k, k < m → ∃ r, A[k]? = some r ∧ A.getD k [] = r := fun k hk => ⟨A[k]'(by omega), List.getElem?_eq_getElem _, by rw [List.getD_eq_getElem?_getD, List.getElem?_eq_getElem (by omega)]; rfl⟩
  refine ⟨fun a ha => ?_, fun k r h => ?_, hl, hr⟩
  · obtain ⟨k, hk, rfl⟩ := List.mem_map.mp ha
    have hk := List.mem_range.mp hk
    obtain ⟨r, h1, h2⟩ := e (m - 1 - k) (by omega)
    exact ⟨_, r, by omega, h1, by rw [h2]⟩
  · have hk : k < m := by
      have := (List.getElem?_eq_some_iff.mp h).1
      omega
    refine List.mem_map.mpr ⟨m - 1 - k, List.mem_range.mpr (by omega), ?_⟩
    rw [show m - 1 - (m - 1 - k) = k by omega, List.getD_eq_getElem?_getD, h]
    rfl
theorem StepsAre.head {l : Addr} {H : Hp} {vs : List V} {S : List (Option Row)} (h : StepsAre l H vs S) (hS : S ≠ []) : ∃ v us, vs = v :: us ∧ ∀ i, v ≠ .int i := by
  cases h with
  | nil => exact absurd rfl hS
  | no _ => exact ⟨_, _, rfl, fun i z => by cases z⟩
  | yes _ _ _ => exact ⟨_, _, rfl, fun i z => by cases z⟩
/-- other stairs stay -/
theorem StAt.other {C : Addr} {H H' : Hp} {p p2 l l2 : Addr} {M M2 : Int} {S S2 : List (Option Row)} (h : StAt C H p l M S) (h2 : StAt C H p2 l2 M2 S2) (hS : S ≠ []) (hl : l ≠ l2) (e : But l H H') : StAt C H' p2 l2 M2 S2 := by
  obtain ⟨⟨dx, hp⟩, vs, hv, hs⟩ := h
  obtain ⟨⟨dx2, hp2⟩, vs2, hv2, hs2⟩ := h2
  obtain ⟨v, us, e1, e2⟩ := hs.head hS
  refine ⟨⟨dx2, e _ _ (ne_of hp2 hv (by intro z; cases z)) hp2⟩, vs2, e _ _ (Ne.symm hl) hv2, ?_⟩
  have key : ∀ {a : Addr} {r : Row}, H a = some (.lst (r.map V.int)) → a ≠ l := fun {a r} ha z => by
    rw [z, hv, e1] at ha
    injection ha with ha
    injection ha with ha
    cases r with
    | nil => cases ha
    | cons x r =>
      injection ha with ha _
      exact e2 x ha
  clear hv2 hp2
  induction hs2 with
  | nil => exact .nil
  | no _ ih => exact .no ih
  | yes h1 h3 _ ih => exact .yes h1 (e _ _ (key h3) h3) ih
section
variable {P : Program} {w : World} {K : PySem.W.Frag} {mg : Str → Option Value} {base : Heap} {C fI fP fA fS : Addr}
theorem ok_solvedP {f fMk : Addr} {fd fdI fdP fdS fdMk : FuncData} (F : Fun K "solved" "solved" s_solved f fd) (T : TxtS K mg C fI fP fA fS)
    (G_init : FnOk P w K mg base CX0 1 fI fdI ["self", "modulus", "places"] (spStInit C)) (b_init : Binds K fdI ["self", "modulus", "places"] [])
    (G_put : FnOk P w K mg base CX0 3 fP fdP ["self", "row"] (spPut C)) (b_put : Binds K fdP ["self", "row"] [])
    (G_settled : FnOk P w K mg base CX0 2 fS fdS ["self"] (spSettled K C)) (b_settled : Binds K fdS ["self"] [])
    (G_marked : FnOk P w K mg base CX0 2 fMk fdMk ["modulus", "rows", "index"] (spMarked K)) (g_marked : mg "marked" = some (.ref fMk)) (kp_marked : PySem.W.keepIn K (.ref fMk) = true) (b_marked : Binds K fdMk ["modulus", "rows", "index"] []) :
    FnOk P w K mg base CX0 4 f fd ["modulus", "columns"] (spSolvedP K C) := by
  refine F.ok sc_solved (fun vs H Q E h => ?_) (fun cdv A outer s H vs Q E hr h => ?_)
  · obtain ⟨M, a, A, h, m, rfl, _⟩ := h
    rfl
  · obtain ⟨M, a, Am, h, m, rfl, hM, hM2, hA, lA, m1, m4, h1, h4, hAh, kY⟩ := h
    refine ⟨_, (pss_cons (ps_par (i := 2) (j := 3) rfl sc_solved.nd rfl rfl (by decide) rfl rfl (pa_cons (pe_callB call_len_seq rfl T.f_len PySem.boot_len (pa_cons (pe_ix ix_tup (pv 1) pe_int (fun _ _ => rfl)) pa_nil)) (pa_cons (pe_callB call_len_seq rfl T.f_len PySem.boot_len (pa_cons (pv 1) pa_nil)) pa_nil)) (by rfl))
        (pss_cons (ps_par (i := 4) (j := 5) rfl sc_solved.nd rfl rfl (by decide) rfl rfl (pa_cons (pe_make T.mkr G_init (hr.mono (by decide)) rfl T.mgC b_init .nil pass0 (pa_cons (pv 0) (pa_cons (pv 2) pa_nil))) (pa_cons (pe_make T.mkr G_init (hr.mono (by decide)) rfl T.mgC b_init .nil pass0 (pa_cons (pv 0) (pa_cons (pv 3) pa_nil))) pa_nil)) (by rfl))
        (pss_cons (ps_for PassesOwn.never rfl (pi_revR rfl T.f_reversed (prg_1 rfl T.f_range (pv 3))) (pg_name (i := 6) sc_solved.nd rfl (Or.inl rfl)) (pss_one (ps_expr (pe_meth (pv 5) T.cl T.m_put G_put (hr.mono (by decide)) b_put .nil pass0 (pa_cons (pe_slice sl_list (pe_meth (pv 4) T.cl T.m_put G_put (hr.mono (by decide)) b_put .nil pass0 (pa_cons (pe_call G_marked (hr.mono (by decide)) rfl g_marked kp_marked b_marked .nil pass0 (pa_cons (pv 0) (pa_cons (pv 1) (pa_cons (pv 6) pa_nil)))) pa_nil)) (po_some (pv 2)) po_none) pa_nil)))))
        (pss_one (ps_ret (pe_tup (pa_cons (pv 4) (pa_cons (pe_meth0 (pv 5) T.cl T.m_settled G_settled (hr.mono (by decide)) b_settled .nil pass0) pa_nil)))))))), ?_⟩
    obtain ⟨vs, hAv, hR⟩ := id hA
    have hvl := hR.length
    obtain ⟨q0, r0, e0, e1, hq0⟩ := hR.at_ (i := 0) (List.getElem?_eq_getElem (by omega))
    have l0 : r0.length = h := hAh _ (List.mem_of_getElem? e1)
    have a0 : vs[0]? = some (.ref q0) := by rw [List.getElem?_eq_getElem (by omega), e0]
    have hbl : (r0.map V.int).length = h := by simp [l0]
    refine ⟨_, rfl, a, vs, 0, _, rfl, rfl, hAv, atI_nat (j := 0) a0, q0, _, rfl, .inr hq0, ?_⟩
    rw [hbl]
    refine ⟨_, rfl, a, vs, rfl, .inr hAv, _, _, rfl, ?_⟩
    rw [hvl, lA]
    refine ⟨_, rfl, _, rfl, fun x dx nx nd ne => ⟨x, dx, M, h, rfl, upd_same, by omega, fun l H1 b1 nl st => ⟨rfl, ?_⟩⟩⟩
    have sI := init_same nx nd b1
    have hHl : H l = none := by
      cases z : H l with
      | none => rfl
      | some o =>
        rw [upd_ne (ne_of_none z nx), upd_ne (ne_of_none z nd), z] at nl
        cases nl
    refine ⟨_, rfl, _, rfl, fun y dy ny ndy ney => ⟨y, dy, M, m, rfl, upd_same, by omega, fun l2 H2 b2 nl2 st2 => ⟨rfl, ?_⟩⟩⟩
    have sJ := init_same ny ndy b2
    have hHl2 : H1 l2 = none := by
      cases z : H1 l2 with
      | none => rfl
      | some o =>
        rw [upd_ne (ne_of_none z ny), upd_ne (ne_of_none z ndy), z] at nl2
        cases nl2
    have hll : l ≠ l2 := fun z => by
      obtain ⟨_, vs, hv, _⟩ := id st
      rw [z, hHl2] at hv
      cases hv
    have hH2l : H l2 = none := none_back sI hHl2
    have hS0 : (List.replicate h (none : Option Row)) ≠ [] := by
      intro z
      have := congrArg List.length z
      simp at this
      omega
    have st' : StAt C H2 x l M (List.replicate h none) := st.same sJ
    have sK := same_trans sI sJ
    refine ⟨_, _, rfl, _, rfl, (m : Int), rfl, by omega, by omega, by omega, by omega, ?_⟩
    refine for_it (walk_rangeC (c := -1) (n := m)) (fun i σ H' => ∃ (x6 : Option V) (S Ks : List (Option Row)), σ = [some (.int M), some (.ref a), some (.int (h : Int)), some (.int (m : Int)), some (.ref x), some (.ref y), x6] ∧ Solv M h m (marksRev M m Am i) S Ks ∧ Same H H' ∧ StAt C H' x l M S ∧ StAt C H' y l2 M Ks) ⟨none, _, _, rfl, .nil, sK, st', st2⟩ (fun _ _ _ _ _ => trivial) ?_ ?_
    · rintro i v σ H3 H3' hi ⟨x6, S, Ks, rfl, hp, s1, st1, sk1⟩ ⟨rfl, rfl⟩
      have ep : (0 + (((m : Int) - 0).toNat : Nat) - 1 + (i : Nat) * (-1) : Int) = ((m - 1 - i : Nat) : Int) := by omega
      have wfS := hp.left.wf hM
      have wfK := hp.wfK hM
      have hSne : S ≠ [] := fun z => by
        have := wfS.len
        rw [z] at this
        simp at this
        omega
      have hKne : Ks ≠ [] := fun z => by
        have := wfK.len
        rw [z] at this
        simp at this
        omega
      have hkr : Am[m - 1 - i]? = some (Am[m - 1 - i]'(by omega)) := List.getElem?_eq_getElem (by omega)
      have hrw : (Am[m - 1 - i]'(by omega)).length = h := hAh _ (List.getElem_mem (by omega))
      generalize Am[m - 1 - i]'(by omega) = rk at hkr hrw
      obtain ⟨⟨dx2, hx2⟩, vs2, hl2, hS2⟩ := id st1
      obtain ⟨⟨dy2, hy2⟩, vs3, hl3, hS3⟩ := id sk1
      refine ⟨_, rfl, y, dy2, flS M l2, rfl, hy2, flS_no M l2 (by decide +kernel) (by decide +kernel), ?_⟩
      refine ⟨_, rfl, x, dx2, flS M l, rfl, hx2, flS_no M l (by decide +kernel) (by decide +kernel), ?_⟩
      refine ⟨_, rfl, _, rfl, _, rfl, true, M, a, Am, m - 1 - i, rk, by show [V.int M, V.ref a, V.int (0 + (((m : Int) - 0).toNat : Nat) - 1 + (i : Nat) * (-1))] = _; rw [ep], hM, (RowsIn.same (t := true) hA s1), hkr, by omega, by omega, fun p3 H4 s3 np3 h3 => ?_⟩
      rw [lA] at h3
      obtain ⟨w1, w2⟩ := markOf_ok (m := m) (k := m - 1 - i) hM hrw
      have hpl : p3 ≠ l := fun z => by
        rw [z, hl2] at np3
        cases np3
      refine ⟨x, l, p3, M, h + m, h, S, _, rfl, st1.same s3, hM, hM2, by omega, by omega, wfS, w1, w2, h3, hpl, fun S' r' b' H5 ch bt st5 hb' hbl' => ?_⟩
      have s5 : Same H H5 := fun b o e => bt b o (ne_of_none e hHl) (s3 _ _ (s1 _ _ e))
      have sk5 : StAt C H5 y l2 M Ks := StAt.other (st1.same s3) (sk1.same s3) hSne hll bt
      obtain ⟨wf', rl, rr, rz⟩ := ch.wf hM wfS w1 w2
      have hS'ne : S' ≠ [] := fun z => by
        have := wf'.len
        rw [z] at this
        simp at this
        omega
      refine ⟨_, rfl, h, rfl, b', _, rfl, SqL.of hb', fun D2 nD2 => ?_⟩
      rw [cut_drop rl]
      have g6 : (upd H5 D2 (.lst ((r'.drop h).map V.int))) D2 = some (.lst ((r'.drop h).map V.int)) := upd_same
      have s6 : Same H5 (upd H5 D2 (.lst ((r'.drop h).map V.int))) := same_upd nD2
      generalize upd H5 D2 (.lst ((r'.drop h).map V.int)) = H6 at s6 g6 ⊢
      have hD2 : D2 ≠ l2 := fun z => by
        obtain ⟨_, vs, hv, _⟩ := id sk5
        rw [z, hv] at nD2
        cases nD2
      refine ⟨y, l2, D2, M, m, m, Ks, r'.drop h, rfl, sk5.same s6, hM, hM2, by omega, Nat.le_refl _, wfK, by simp [rl], fun z hz => rr z (List.mem_of_mem_drop hz), g6, hD2, fun K' t' b7 H7 ch7 bt7 st7 _ _ => ?_⟩
      refine ⟨_, S', K', rfl, ?_, fun b o e => bt7 b o (ne_of_none e hH2l) (s6 _ _ (s5 _ _ e)), StAt.other (sk5.same s6) (st5.same s6) hKne (Ne.symm hll) bt7, st7⟩
      rw [marksRev_succ hkr]
      exact .snoc hp w1 w2 ch ch7
    · rintro σ H3 ⟨x6, S, Ks, rfl, hp, s1, st1, sk1⟩
      obtain ⟨⟨dy2, hy2⟩, _⟩ := id sk1
      refine ⟨_, rfl, _, rfl, y, dy2, flS M l2, rfl, hy2, flS_no M l2 (by decide +kernel) (by decide +kernel), ?_⟩
      refine ⟨y, l2, M, m, m, Ks, rfl, sk1, hM, hM2, by omega, Nat.le_refl _, hp.wfK hM, fun q H4 s4 hq => ⟨(by show 2 ≤ sizeLine; decide), fun t nt => ?_⟩⟩
      have s5 := same_trans s4 (same_upd (o := .tup [.ref x, .ref q]) nt)
      exact kY t x l q _ S Ks _ hp (marksRev_all lA hAh) (same_trans s1 s5) upd_same (st1.same s5) (hq.same (same_upd nt))
def spKernelOf (K : PySem.W.Frag) : Sp := fun vs H Q _ => ∃ (M : Int) (a : Addr) (A : Mat) (h w : Nat), vs = [.int M, .ref a] ∧ 2 ≤ M ∧ M < 2 ^ 64 ∧ MatAt K H a A ∧ Shp h w A ∧ 1 ≤ h ∧ h ≤ 8 ∧ 1 ≤ w ∧ w ≤ 400 ∧
  ∀ (F : List (Nat × Row)) (q : Addr) (H' : Hp), KerOf M h w A F → Same H H' → MatAt K H' q (F.map (·.2)) → Q (.ref q) H'
theorem Solv.ker {M : Int} (hM : 2 ≤ M) {h w : Nat} {A : Mat} {L : List Row} {S Ks : List (Option Row)} (sA : Shp h w A) (hp : Solv M h w L S Ks) (hm : Marks M h w (colsOf w A) L) : KerOf M h w A (settle M w Ks w) :=
  ⟨hp.hf hM, fun c => (hp.form hM hm c).trans (rels_cols sA c)⟩
theorem ok_kernel_of {f fS2 fT : Addr} {fd fdS2 fdT : FuncData} (F : Fun K "kernel_of" "kernel_of" s_kernel_of f fd)
    (G_solved : FnOk P w K mg base CX0 4 fS2 fdS2 ["modulus", "columns"] (spSolvedP K C)) (g_solved : mg "solved" = some (.ref fS2)) (kp_solved : PySem.W.keepIn K (.ref fS2) = true) (b_solved : Binds K fdS2 ["modulus", "columns"] [])
    (G_transposed : FnOk P w K mg base CX0 1 fT fdT ["matrix"] (spTrn K)) (g_transposed : mg "transposed" = some (.ref fT)) (kp_transposed : PySem.W.keepIn K (.ref fT) = true) (b_transposed : Binds K fdT ["matrix"] []) :
    FnOk P w K mg base CX0 5 f fd ["modulus", "matrix"] (spKernelOf K) := by
  refine F.ok sc_kernel_of (fun vs H Q E h => ?_) (fun cdv A outer s H vs Q E hr h => ?_)
  · obtain ⟨M, a, A, h, m, rfl, _⟩ := h
    rfl
  · obtain ⟨M, a, Am, h, w, rfl, hM, hM2, hA, sA, h1, h8, w1, w4, kY⟩ := h
    refine ⟨_, (pss_cons (ps_asg (pe_call G_solved (hr.mono (by decide)) rfl g_solved kp_solved b_solved .nil pass0 (pa_cons (pv 0) (pa_cons (pe_call G_transposed (hr.mono (by decide)) rfl g_transposed kp_transposed b_transposed .nil pass0 (pa_cons (pv 1) pa_nil)) pa_nil))) (pg_tup rfl (pgs_cons (pg_name (i := 2) sc_kernel_of.nd rfl (Or.inl rfl)) (pgs_cons (pg_name (i := 3) sc_kernel_of.nd rfl (Or.inl rfl)) pgs_nil))))
        (pss_one (ps_ret (pv 3)))), ?_⟩
    obtain ⟨lA, hAw⟩ := id sA
    obtain ⟨cl, cw⟩ := colsOf_shp (A := Am) (w := w) lA
    refine ⟨_, rfl, _, rfl, a, Am, w, rfl, hA, by omega, by omega, w1, by omega, hAw, fun qT H1 s1 hT => ?_⟩
    refine ⟨M, qT, colsOf w Am, h, w, rfl, hM, hM2, hT, cl, w1, by omega, h1, by omega, cw, fun t x l q L S Ks H2 hp hm s2 ht st hq => ?_⟩
    refine ⟨t, _, rfl, SqT.of ht, rfl, _, _, rfl, _, _, rfl, rfl, ?_⟩
    exact ⟨_, rfl, kY _ q H2 (hp.ker hM sA hm) (same_trans s1 s2) hq⟩
theorem solv_rel {M : Int} {h m : Nat} {A : Mat} {L : List Row} {S Ks : List (Option Row)} (hp : Solv M h m L S Ks) (hm : Marks M h m A L) : ∀ (q : Nat) (s : Row), S[q]? = some (some s) → RelM M h m A s := hp.left.closed RelM.mul RelM.comb hm.rel
theorem solv_bad {M : Int} (hM : 2 ≤ M) {h m : Nat} {A : Mat} {L : List Row} {S Ks : List (Option Row)} {row : Row} (hp : Solv M h m L S Ks) (hm : Marks M h m A L) (lr : row.length = h) (bad : RestBad M S (row.map (· % M) ++ List.replicate m 0)) : ¬ InS M h (RW A) (fn row) := fun z => by
  have hrd : RRed M (row.map (· % M) ++ List.replicate m 0) := fun x hx => by
    rcases List.mem_append.mp hx with hx | hx
    · obtain ⟨y, _, rfl⟩ := List.mem_map.mp hx
      exact mod_red (by omega) y
    · rw [List.eq_of_mem_replicate hx]
      omega
  refine bad.no hM (hp.left.wf hM) (by simp [lr]) hrd (hp.left.span hM).2 (((hp.left.iff hM _).mpr ((hm.span _).mpr z)).congr fun j hj => ?_)
  rw [fn_left (by simpa [lr] using hj)]
  exact fn_map j
end
end Wk

/-! what is put in can be put in; the rows that part what is not spanned; pairs -/
namespace Wk
theorem bez_int {a b : Int} (ha : 1 ≤ a) (hb : 1 ≤ b) : ∃ x y : Int, x * a + y * b = (Int.gcd a b : Int) := by
  obtain ⟨x, y, e⟩ := bez_ex b.toNat a.toNat
  refine ⟨x, y, ?_⟩
  have h1 : (a.toNat : Int) = a := by omega
  have h2 : (b.toNat : Int) = b := by omega
  have h3 : Nat.gcd a.toNat b.toNat = Int.gcd a b := by
    unfold Int.gcd
    rw [show a.natAbs = a.toNat by omega, show b.natAbs = b.toNat by omega]
  rw [h1, h2, h3] at e
  exact e
theorem gcd_one_le {a b : Int} (ha : 1 ≤ a) : 1 ≤ (Int.gcd a b : Int) := by
  have : 0 < Int.gcd a b := Int.gcd_pos_of_ne_zero_left _ (by omega)
  omega
theorem ch_ex {M : Int} (hM : 2 ≤ M) {W n : Nat} {S : List (Option Row)} {r : Row} (wf : WF M W n S) (hr : r.length = W) (rr : RRed M r) (hn : n ≤ W) : ∀ i, i ≤ n → ∃ S' r', Ch M S r i S' r'
  | 0, _ => ⟨S, r, .base⟩
  | i + 1, hi => by
    obtain ⟨S', r', c⟩ := ch_ex hM wf hr rr hn i (by omega)
    obtain ⟨wf', hl, hr', _⟩ := c.wf hM wf hr rr
    have hil : i < r'.length := by omega
    have e : r'[i]? = some r'[i] := List.getElem?_eq_getElem hil
    generalize r'[i] = N at e
    by_cases h0 : N = 0
    · exact ⟨S', r', c.skip (by rw [e, h0])⟩
    · have hN := hr' _ (List.mem_of_getElem? e)
      have hS : S'[i]? = some (S'[i]'(by rw [wf'.len]; omega)) := List.getElem?_eq_getElem _
      generalize S'[i]'(by rw [wf'.len]; omega) = o at hS
      cases o with
      | none =>
        obtain ⟨x, y, hb⟩ := bez_int (a := M) (b := N) (by omega) (by omega)
        exact ⟨_, _, c.step e (by omega) (.inl ⟨hS, _, x, y, rfl, gcd_one_le (by omega), hb, rfl, rfl⟩)⟩
      | some s =>
        obtain ⟨_, _, ⟨P, hP, hP1, _⟩, _⟩ := wf'.row i s hS
        by_cases hd : N % P = 0
        · exact ⟨_, _, c.step e (by omega) (.inr ⟨s, P, hS, hP, .inl ⟨hd, rfl, rfl⟩⟩)⟩
        · obtain ⟨x, y, hb⟩ := bez_int (a := P) (b := N) (by omega) (by omega)
          exact ⟨_, _, c.step e (by omega) (.inr ⟨s, P, hS, hP, .inr ⟨_, x, y, rfl, gcd_one_le (by omega), hb, rfl, rfl⟩⟩)⟩
theorem puts_ex {M : Int} (hM : 2 ≤ M) {W n : Nat} (hn : n ≤ W) {L : List Row} (h : ∀ a ∈ L, a.length = W ∧ RRed M a) : ∀ k, k ≤ L.length → ∃ S, PutsR M W n (L.take k) S
  | 0, _ => ⟨_, .nil⟩
  | k + 1, hk => by
    obtain ⟨S, p⟩ := puts_ex hM hn h k (by omega)
    have e : L[k]? = some L[k] := List.getElem?_eq_getElem (by omega)
    obtain ⟨h1, h2⟩ := h _ (List.mem_of_getElem? e)
    obtain ⟨S', r', c⟩ := ch_ex hM (p.wf hM) h1 h2 hn n (Nat.le_refl _)
    rw [List.take_add_one, e]
    exact ⟨S', .snoc p h1 h2 c⟩
theorem mat_dual {M : Int} (hM : 2 ≤ M) {w : Nat} {L : List Row} (h : ∀ a ∈ L, a.length = w ∧ RRed M a) {v : Vec} (hv : ¬ InS M w (RW L) v) : ∃ d : Vec, (∀ a ∈ L, Eqm M (dotF w (fn a) d) 0) ∧ ¬ Eqm M (dotF w v d) 0 := by
  obtain ⟨S, p⟩ := puts_ex hM (Nat.le_refl w) h L.length (Nat.le_refl _)
  rw [List.take_length] at p
  exact p.dual hM (Nat.le_refl _) hv
/-- the last pivots are 1 just where all is spanned -/
theorem span_all {M : Int} (hM : 2 ≤ M) {w : Nat} {L : List Row} {S : List (Option Row)} (p : PutsR M w w L S) : (∀ i, i < w → ∃ s, S[i]? = some (some s) ∧ s[i]? = some 1) ↔ ∀ v, InS M w (RW L) v := by
  have wf := p.wf hM
  constructor
  · intro g v
    rw [← p.iff hM v]
    have key : ∀ k, k ≤ w → ∀ v : Vec, (∀ j, j < w - k → Eqm M (v j) 0) → InS M w (GS S (w - k)) v := by
      intro k
      induction k with
      | zero => exact fun _ v hv => .zero hv
      | succ k ih =>
        intro hk v hv
        obtain ⟨s, h1, h2⟩ := g (w - (k + 1)) (by omega)
        obtain ⟨_, _, _, hz⟩ := wf.row _ _ h1
        have h3 := ih (by omega) (fun j => v j - v (w - (k + 1)) * fn s j) fun j hj => by
          by_cases c : j < w - (k + 1)
          · rw [fn_at (hz j c)]
            simpa using hv j c
          · obtain rfl : j = w - (k + 1) := by omega
            rw [fn_at h2]
            exact .eq (by omega)
        exact .add (v (w - (k + 1))) ⟨_, s, Nat.le_refl _, h1, rfl⟩ (h3.mono fun t ⟨q, u, a, b, c⟩ => ⟨q, u, by omega, b, c⟩) fun j hj => .eq (by omega)
    have := key w (Nat.le_refl _) v (fun j hj => by omega)
    rwa [Nat.sub_self] at this
  · intro g i hi
    have hS : S[i]? = some (S[i]'(by rw [wf.len]; omega)) := List.getElem?_eq_getElem _
    generalize S[i]'(by rw [wf.len]; omega) = o at hS
    have bad : (o = none ∨ ∃ s x, o = some s ∧ s[i]? = some x ∧ x ≠ 1 ∧ 1 ≤ x) → False := fun b => by
      have hu : (unitRow w i).length = w := by simp [unitRow]
      have ru : RRed M (unitRow w i) := fun x hx => by
        obtain ⟨j, _, rfl⟩ := List.mem_map.mp hx
        split <;> omega
      have ua : ∀ j, j < w → (unitRow w i)[j]? = some (if j = i then 1 else 0) := fun j hj => by
        rw [← fn_unit hj]
        exact at_fn (by omega)
      have rt : ∀ k, k ≤ i → RestTo M S (unitRow w i) k (unitRow w i) := by
        intro k
        induction k with
        | zero => exact fun _ => .base
        | succ k ih => exact fun hk => .skip (ih (by omega)) (by rw [ua k (by omega), if_neg (by omega)])
      refine RestBad.no (M := M) (W := w) (w := w) (S := S) (r0 := unitRow w i) ⟨i, _, 1, by rw [wf.len]; exact hi, rt i (Nat.le_refl _), by rw [ua i hi, if_pos rfl], by decide, ?_⟩ hM wf hu ru (p.span hM).2 ((p.iff hM _).mpr (g _))
      rcases b with rfl | ⟨s, x, rfl, hx, h1, h2⟩
      · exact .inl hS
      · refine .inr ⟨s, x, hS, hx, ?_⟩
        rw [Int.emod_eq_of_lt (by omega) (by omega)]
        decide
    cases o with
    | none => exact (bad (.inl rfl)).elim
    | some s =>
      obtain ⟨_, _, ⟨x, hx, hx1, _⟩, _⟩ := wf.row i s hS
      by_cases c : x = 1
      · exact ⟨s, hS, by rw [hx, c]⟩
      · exact (bad (.inr ⟨s, x, rfl, hx, c, hx1⟩)).elim
/-- no pair goes unseen: B what becomes of the columns G -/
def PairSeen (M : Int) (n w : Nat) (G B : Fm) : Prop := ∀ x y : Vec, (∀ i, i < n → Eqm M ((sumN w fun j => B i j * x j) + sumN w fun j => G i j * y j) 0) → (∀ j, j < w → Eqm M (x j) 0) ∧ ∀ j, j < w → Eqm M (y j) 0
theorem sum_swap (n w : Nat) (a : Vec) (B : Fm) (x : Vec) : (sumN w fun j => (sumN n fun k => a k * B k j) * x j) = sumN n fun k => a k * sumN w fun j => B k j * x j := by
  have e1 : (sumN w fun j => (sumN n fun k => a k * B k j) * x j) = sumN w fun j => sumN n fun k => a k * B k j * x j := sumN_congr fun j _ => by
    rw [Int.mul_comm, ← sumN_mul]
    exact sumN_congr fun k _ => Int.mul_comm _ _
  rw [e1, sumN_comm]
  refine sumN_congr fun k _ => ?_
  rw [← sumN_mul]
  exact sumN_congr fun j _ => Int.mul_assoc _ _ _
theorem unit_dot {w i : Nat} (hi : i < w) (x : Vec) : dotF w (fn (unitRow w i)) x = x i := by
  unfold dotF
  rw [sumN_congr (g := fun j => if j = i then x i else 0) fun j hj => ?_, sumN_one hi]
  rw [fn_unit hj]
  by_cases c : j = i
  · rw [if_pos c, if_pos c, c]; simp
  · rw [if_neg c, if_neg c]; simp
theorem pair_iff {M : Int} (hM : 2 ≤ M) {n w : Nat} {G : Mat} {B : Fm} (sG : Shp n w G) (rG : MRed M G) {F : List (Nat × Row)} (hF : KerOf M w n (colsOf w G) F) (hGB : ∀ y : Vec, (∀ i, i < n → Eqm M (sumN w fun j => ent G i j * y j) 0) → ∀ i, i < n → Eqm M (sumN w fun j => B i j * y j) 0)
    {L : List Row} (l1 : ∀ a ∈ L, a.length = w ∧ RRed M a ∧ ∃ q κ, (q, κ) ∈ F ∧ ∀ j, j < w → Eqm M (fn a j) (sumN n fun k => fn κ k * B k j)) (l2 : ∀ q κ, (q, κ) ∈ F → ∃ a ∈ L, ∀ j, j < w → Eqm M (fn a j) (sumN n fun k => fn κ k * B k j)) :
    (∀ v, InS M w (RW L) v) ↔ PairSeen M n w (ent G) B := by
  have ker : ∀ q κ, (q, κ) ∈ F → ∀ j, j < w → Eqm M (sumN n fun k => fn κ k * ent G k j) 0 := fun q κ h j hj => by
    have := (hF.2 (fn κ)).mp (.of ⟨q, κ, h, Nat.zero_le _, rfl⟩) j hj
    refine (Eqm.eq (sumN_congr fun k hk => ?_)).trans this
    rw [ent_cols sG hk hj, Int.mul_comm]
  constructor
  · intro g
    have K : ∀ x y : Vec, (∀ i, i < n → Eqm M ((sumN w fun j => B i j * x j) + sumN w fun j => ent G i j * y j) 0) → ∀ j, j < w → Eqm M (x j) 0 := fun x y h j hj => by
      have hd : ∀ s, RW L s → Eqm M (dotF w s x) 0 := by
        rintro s ⟨a, ha, rfl⟩
        obtain ⟨_, _, q, κ, hq, e⟩ := l1 a ha
        refine (Eqm.sum fun j hj => (e j hj).mul (.refl _ _)).trans ?_
        rw [sum_swap]
        have e2 : Eqm M (sumN n fun k => fn κ k * sumN w fun j => ent G k j * y j) 0 := by
          rw [← sum_swap]
          refine (Eqm.sum (g := fun _ => 0) fun j hj => ?_).trans (.eq (sumN_zero w))
          exact ((ker q κ hq j hj).mul (.refl _ (y j))).trans (.eq (by simp))
        have e3 : Eqm M ((sumN n fun k => fn κ k * sumN w fun j => B k j * x j) + sumN n fun k => fn κ k * sumN w fun j => ent G k j * y j) 0 := by
          rw [← sumN_add]
          refine (Eqm.sum (g := fun _ => 0) fun k hk => ?_).trans (.eq (sumN_zero n))
          rw [← Int.mul_add]
          exact ((Eqm.refl M (fn κ k)).mul (h k hk)).trans (.eq (by simp))
        obtain ⟨c, hc⟩ := e2
        obtain ⟨d, hd⟩ := e3
        exact ⟨d - c, by rw [Int.mul_sub]; omega⟩
      have := (g (fn (unitRow w j))).dot hd
      rwa [unit_dot hj] at this
    intro x y h
    have hx := K x y h
    refine ⟨hx, ?_⟩
    have hGy : ∀ i, i < n → Eqm M (sumN w fun j => ent G i j * y j) 0 := fun i hi => by
      have e0 : Eqm M (sumN w fun j => B i j * x j) 0 := (Eqm.sum (g := fun _ => 0) fun j hj => ((Eqm.refl M (B i j)).mul (hx j hj)).trans (.eq (by simp))).trans (.eq (sumN_zero w))
      obtain ⟨c, hc⟩ := e0
      obtain ⟨d, hd⟩ := h i hi
      exact ⟨d - c, by rw [Int.mul_sub]; omega⟩
    have hBy := hGB y hGy
    exact K y (fun _ => 0) fun i hi => by
      have e0 : (sumN w fun j => ent G i j * (0 : Int)) = 0 := by
        rw [sumN_congr (g := fun _ => 0) fun _ _ => by simp]
        exact sumN_zero w
      rw [e0, Int.add_zero]
      exact hBy i hi
  · intro hp v
    refine Classical.byContradiction fun hv => ?_
    obtain ⟨d, d1, d2⟩ := mat_dual hM (fun a ha => ⟨(l1 a ha).1, (l1 a ha).2.1⟩) hv
    have kd : ∀ q κ, (q, κ) ∈ F → Eqm M (sumN n fun k => fn κ k * sumN w fun j => B k j * d j) 0 := fun q κ h => by
      obtain ⟨a, ha, e⟩ := l2 q κ h
      rw [← sum_swap]
      exact (Eqm.sum fun j hj => (e j hj).symm.mul (.refl _ _)).trans (d1 a ha)
    have inG : InS M n (RW (colsOf w G)) fun k => sumN w fun j => B k j * d j := by
      refine Classical.byContradiction fun hn => ?_
      have hc := colsOf_shp (w := w) sG.1
      have red : ∀ a ∈ colsOf w G, RRed M a := fun a ha x hx => by
        obtain ⟨j, hj, rfl⟩ := List.mem_map.mp ha
        obtain ⟨r, hr, rfl⟩ := List.mem_map.mp hx
        have hj := List.mem_range.mp hj
        have : r.getD j 0 = fn r j := rfl
        rw [this]
        exact fn_red (rG r hr) (by rw [sG.2 r hr]; exact hj)
      obtain ⟨e, e1, e2⟩ := mat_dual hM (L := colsOf w G) (fun a ha => ⟨hc.2 a ha, red a ha⟩) hn
      have he : InS M n (GF F 0) e := (hF.2 e).mpr fun j hj => by
        obtain ⟨r, er, _⟩ := shp_at hc hj
        have := e1 r (List.mem_of_getElem? er)
        refine (Eqm.eq (sumN_congr fun k hk => ?_)).trans this
        rw [ent_at er]
        rfl
      refine e2 ?_
      have h0 := he.dot (d := fun k => sumN w fun j => B k j * d j) fun s ⟨q, κ, hq, _, es⟩ => by rw [es]; exact kd q κ hq
      refine (Eqm.eq ?_).trans h0
      exact sumN_congr fun k _ => Int.mul_comm _ _
    obtain ⟨c, hc⟩ := inG.coef
    have lc : (colsOf w G).length = w := (colsOf_shp sG.1).1
    have := (hp d (fun j => -c j) fun i hi => by
      have h1 := hc i hi
      rw [lc] at h1
      have h2 : (sumN w fun k => c k * ent (colsOf w G) k i) = - sumN w fun j => ent G i j * -c j := by
        have : (sumN w fun j => ent G i j * -c j) = (-1) * sumN w fun k => c k * ent (colsOf w G) k i := by
          rw [← sumN_mul]
          exact sumN_congr fun k hk => by rw [ent_cols sG hi hk, Int.mul_comm (c k), Int.mul_neg]; omega
        omega
      obtain ⟨z, hz⟩ := h1
      exact ⟨z, by rw [hz, h2]; omega⟩).1
    refine d2 ?_
    exact (Eqm.sum (g := fun _ => 0) fun j hj => ((Eqm.refl M (v j)).mul (this j hj)).trans (.eq (by simp))).trans (.eq (sumN_zero w))
end Wk

namespace Wk
open PySem L2
/-! values that are no integers; errors with one field -/
/-- neither an int, or a bool -/
def NoI (K : PySem.W.Frag) (H : Hp) (v : V) : Prop := ∃ (t : Value) (b1 b2 : Bool), TyX K H v t ∧ PySem.W.kitOne K t (.type "int") = some b1 ∧ PySem.W.kitOne K t (.type "bool") = some b2 ∧ (b1 && !b2) = false
theorem NoI.non {K : PySem.W.Frag} {H : Hp} : NoI K H .non := ⟨_, false, false, .base .non, kit_ty (by decide +kernel), kit_ty (by decide +kernel), rfl⟩
theorem NoI.bl {K : PySem.W.Frag} {H : Hp} (b : Bool) : NoI K H (.bl b) := ⟨_, true, true, .base (.bl b), kit_ty (by decide +kernel), kit_ty (by decide +kernel), rfl⟩
theorem NoI.str {K : PySem.W.Frag} {H : Hp} (x : Str) : NoI K H (.str x) := ⟨_, false, false, .base (.str x), kit_ty (by decide +kernel), kit_ty (by decide +kernel), rfl⟩
theorem NoI.lst {K : PySem.W.Frag} {H : Hp} {a : Addr} {xs : List V} (h : H a = some (.lst xs)) : NoI K H (.ref a) := ⟨_, false, false, .base (.lst h), kit_ty (by decide +kernel), kit_ty (by decide +kernel), rfl⟩
theorem NoI.tup {K : PySem.W.Frag} {H : Hp} {a : Addr} {xs : List V} (h : H a = some (.tup xs)) : NoI K H (.ref a) := ⟨_, false, false, .base (.tup h), kit_ty (by decide +kernel), kit_ty (by decide +kernel), rfl⟩
theorem NoI.dic {K : PySem.W.Frag} {H : Hp} {a : Addr} {xs : List (Key × V)} (h : H a = some (.dK xs)) : NoI K H (.ref a) := ⟨_, false, false, .base (.dK h), kit_ty (by decide +kernel), kit_ty (by decide +kernel), rfl⟩
/-- no integer from lo to hi -/
def NoW (K : PySem.W.Frag) (H : Hp) (v : V) (lo hi : Int) : Prop := (∃ i : Int, v = .int i ∧ ¬ (lo ≤ i ∧ i ≤ hi)) ∨ NoI K H v
def spIntA (K : PySem.W.Frag) : Sp := fun vs H Q _ => ∃ v : V, vs = [v] ∧ ((∃ i : Int, v = .int i ∧ Q (.bl true) H) ∨ (NoI K H v ∧ Q (.bl false) H))
/-- b tells whether v is an integer from lo to hi -/
def WIs (K : PySem.W.Frag) (H : Hp) (v : V) (lo hi : Int) (b : Bool) : Prop := (∃ n : Int, v = .int n ∧ b = (decide (lo ≤ n) && decide (n ≤ hi))) ∨ (NoI K H v ∧ b = false)
theorem WIs.yes {K : PySem.W.Frag} {H : Hp} {i lo hi : Int} (h1 : lo ≤ i) (h2 : i ≤ hi) : WIs K H (.int i) lo hi true := .inl ⟨i, rfl, by rw [decide_eq_true h1, decide_eq_true h2]; rfl⟩
theorem NoW.is {K : PySem.W.Frag} {H : Hp} {v : V} {lo hi : Int} (h : NoW K H v lo hi) : WIs K H v lo hi false := by
  rcases h with ⟨i, rfl, h1⟩ | h
  · refine .inl ⟨i, rfl, ?_⟩
    have e : (decide (lo ≤ i) && decide (i ≤ hi)) = false := by
      rw [Bool.and_eq_false_iff, decide_eq_false_iff_not, decide_eq_false_iff_not]
      omega
    rw [e]
  · exact .inr ⟨h, rfl⟩
def spWithinA (K : PySem.W.Frag) : Sp := fun vs H Q _ => ∃ (v : V) (lo hi : Int), vs = [v, .int lo, .int hi] ∧ ∃ b, WIs K H v lo hi b ∧ Q (.bl b) H
/-- an error's class with one field -/
structure Err1 (K : PySem.W.Frag) (mg : Str → Option Value) (name f : Str) (C fI CS : Addr) : Prop where
  g : mg name = some (.ref C)
  o : OexC K C
  i : PySem.W.findIn K (.ref C) "__init__" = some (some (.ref fI))
  t : PySem.W.typeIn K (.ref fI) = some (.type "function")
  no : PySem.W.findIn K (.ref C) f = some none
  ec : ExcC K C
  xf : XfC K C
  kS : PySem.W.kitOne K (.ref C) (.ref CS) = some true
def spE1 (C : Addr) (f : Str) : Sp := fun vs H Q _ => ∃ (e : Addr) (y : V), vs = [.ref e, y] ∧ H e = some (exo e C none) ∧ ∀ dx, H dx = none → dx ≠ e → Q .non (upd (upd H dx (exd dx [(f, y)])) e (exo e C (some dx)))
/-- what is raised: the class, and its one field's value -/
def Rsd (H : Hp) (C : Addr) (f : Str) (v : V) (E : XK) : Prop := ∀ (d : Addr) (H' : Hp), Same H H' → H' d = some (.xd [(f, v)]) → E (.ref C) (some d) H'
theorem raised {H : Hp} {C a d : Addr} {f : Str} {v : V} {E : XK} (k : Rsd H C f v E) (ha : H a = none) (hd : upd H a (exo a C none) d = none) (hda : d ≠ a) :
    E (.ref C) (some d) (upd (del (upd (upd (upd H a (exo a C none)) d (exd d [(f, v)])) a (exo a C (some d))) a) d (.xd [(f, v)])) := by
  have h1 : H d = none := by rw [upd_ne hda] at hd; exact hd
  refine k d _ (fun b o e => ?_) upd_same
  have hb : b ≠ a := ne_of_none e ha
  have hbd : b ≠ d := ne_of_none e h1
  rw [upd_ne hbd, del_ne hb, upd_ne hb, upd_ne hbd, upd_ne hb]
  exact e
section
variable {P : Program} {w0 : World} {K : PySem.W.Frag} {mg : Str → Option Value} {base : Heap}
theorem ok_isintA {f : Addr} {fd : FuncData} (F : Fun K "is_integer" "is_integer" s_is_integer f fd) (T : TxtVa mg) : FnOk P w0 K mg base CX0 1 f fd ["value"] (spIntA K) := by
  refine F.ok sc_is_integer (fun vs H Q E h => ?_) (fun cdv A outer s H vs Q E hr h => ?_)
  · obtain ⟨v, rfl, _⟩ := h
    rfl
  · obtain ⟨v, rfl, h⟩ := h
    refine ⟨_, (pss_one (ps_ret (pe_and (pe_callB (call_isiK (K := K) rfl) rfl T.f_isinstance (by decide +kernel) (pa_cons (pv 0) (pa_cons (pe_bltn (v := .ty "int") rfl T.f_int (by decide +kernel) rfl) pa_nil))) (pe_one (pe_not (pe_callB (call_isiK (K := K) rfl) rfl T.f_isinstance (by decide +kernel) (pa_cons (pv 0) (pa_cons (pe_bltn (v := .ty "bool") rfl T.f_bool (by decide +kernel) rfl) pa_nil)))))))), ?_⟩
    rcases h with ⟨i, rfl, q⟩ | ⟨⟨t, b1, b2, ty, k1, k2, e⟩, q⟩
    · exact ⟨_, rfl, _, _, _, _, true, rfl, .ty _, .base (.int i), kit_ty (by decide +kernel), _, rfl, iteT ⟨_, rfl, _, _, _, _, false, rfl, .ty _, .base (.int i), kit_ty (by decide +kernel), _, rfl, q⟩⟩
    · cases b1 with
      | false => exact ⟨_, rfl, _, _, _, _, false, rfl, .ty _, ty, k1, _, rfl, iteF q⟩
      | true =>
        cases b2 with
        | false => cases e
        | true => exact ⟨_, rfl, _, _, _, _, true, rfl, .ty _, ty, k1, _, rfl, iteT ⟨_, rfl, _, _, _, _, true, rfl, .ty _, ty, k2, _, rfl, q⟩⟩
theorem ok_withinA {f fN : Addr} {fd fdN : FuncData} (F : Fun K "is_within" "is_within" s_is_within f fd)
    (G_is_integer : FnOk P w0 K mg base CX0 1 fN fdN ["value"] (spIntA K)) (g_is_integer : mg "is_integer" = some (.ref fN)) (kp_is_integer : PySem.W.keepIn K (.ref fN) = true) (b_is_integer : Binds K fdN ["value"] []) :
    FnOk P w0 K mg base CX0 2 f fd ["value", "least", "most"] (spWithinA K) := by
  refine F.ok sc_is_within (fun vs H Q E h => ?_) (fun cdv A outer s H vs Q E hr h => ?_)
  · obtain ⟨v, lo, hi, rfl, _⟩ := h
    rfl
  · obtain ⟨v, lo, hi, rfl, b, h, k⟩ := h
    refine ⟨_, (pss_one (ps_ret (pe_and (pe_call G_is_integer (hr.mono (by decide)) rfl g_is_integer kp_is_integer b_is_integer .nil pass0 (pa_cons (pv 0) pa_nil)) (pe_one (pe_chain op_le op_le (pv 1) (pv 0) (pv 2)))))), ?_⟩
    rcases h with ⟨n, rfl, rfl⟩ | ⟨hn, rfl⟩
    · refine ⟨_, rfl, _, rfl, .inl ⟨n, rfl, true, rfl, iteT ?_⟩⟩
      refine ⟨_, rfl, _, rfl, _, _, rfl, rfl, decide (lo ≤ n), rfl, ?_⟩
      cases e : decide (lo ≤ n)
      · rw [e] at k
        exact iteF k
      · rw [e] at k
        exact iteT ⟨_, rfl, _, _, rfl, rfl, k⟩
    · exact ⟨_, rfl, _, rfl, .inr ⟨hn, false, rfl, iteF k⟩⟩
end
end Wk

namespace Wk
open PySem L2 NumI
abbrev s_spans_all : Stmt := top 38
theorem sc_spans_all : FnScope ["modulus", "rows", "width", "stairs", "row", "place", "step"] ["modulus", "rows", "width"] (defScope s_spans_all) := ⟨rfl, rfl, rfl, by decide +kernel, rfl, by decide +kernel, by decide +kernel⟩
abbrev s_first_pair : Stmt := top 37
theorem sc_first_pair : FnScope ["guard", "most", "columns", "keepers", "size", "kept", "column"] ["guard", "most"] (defScope s_first_pair) := ⟨rfl, rfl, rfl, by decide +kernel, rfl, by decide +kernel, by decide +kernel⟩
abbrev s_BadSize_init : Stmt := inClass (top 6) 0
theorem sc_BadSize_init : FnScope ["self", "size"] ["self", "size"] (defScope s_BadSize_init) := ⟨rfl, rfl, rfl, by decide +kernel, rfl, by decide +kernel, by decide +kernel⟩

-- modulus=0 rows=1 width=2 stairs=3 row=4 place=5 step=6
-- guard=0 most=1 columns=2 keepers=3 size=4 kept=5 column=6
def iAny (K : PySem.W.Frag) (tl : TE) : TI := fun σ H R => ∃ t, iSq t K tl σ H R
theorem pi_anyK {X : Cx} {K : PySem.W.Frag} (hK : X.K = K) {tg l : Expr} {tl : TE} (hl : PE X l tl) : PI X tg l (iAny K tl) := ⟨fun pins s σ H R I ⟨t, h⟩ => (pi_sqK hK t hl).1 pins s σ H R I h⟩
def spSpans (K : PySem.W.Frag) : Sp := fun vs H Q _ => ∃ (M : Int) (a : Addr) (A : Mat) (w : Nat), vs = [.int M, .ref a, .int (w : Int)] ∧ 2 ≤ M ∧ M < 2 ^ 64 ∧ MatAt K H a A ∧ (∀ r ∈ A, r.length = w ∧ RRed M r) ∧ A.length ≤ 400 ∧ w ≤ 400 ∧
  ∀ (b : Bool) (H' : Hp), Same H H' → (b = true ↔ ∀ v, InS M w (RW A) v) → Q (.bl b) H'
/-! what becomes of the columns -/
def aheadM (D : GD) : Nat → Mat
  | 0 => D.G
  | s + 1 => prodM D.M D.w D.A (aheadM D s)
def PSeen (D : GD) (s : Nat) : Prop := PairSeen D.M D.n D.w (ent D.G) (ent (aheadM D s))
/-- what first_pair tells -/
def FirstP (D : GD) (most : Int) (v : V) : Prop := (∃ s : Nat, v = .int (s : Int) ∧ 1 ≤ s ∧ (s : Int) ≤ most ∧ ¬ PSeen D s ∧ ∀ t, 1 ≤ t → t < s → PSeen D t) ∨ (v = .non ∧ ∀ t : Nat, 1 ≤ t → (t : Int) ≤ most → PSeen D t)
theorem FirstP.one {D : GD} {m : Int} {v u : V} (a : FirstP D m v) (b : FirstP D m u) : v = u := by
  rcases a with ⟨s, rfl, s1, s2, s3, s4⟩ | ⟨rfl, h⟩
  · rcases b with ⟨t, rfl, t1, t2, t3, t4⟩ | ⟨rfl, h⟩
    · rcases Nat.lt_trichotomy s t with z | z | z
      · exact absurd (t4 s s1 z) s3
      · rw [z]
      · exact absurd (s4 t t1 z) t3
    · exact absurd (h s s1 s2) s3
  · rcases b with ⟨t, rfl, t1, t2, t3, t4⟩ | ⟨rfl, _⟩
    · exact absurd (h t t1 t2) t3
    · rfl
theorem ahead_shp {D : GD} (ok : GOk D) : ∀ s, Shp D.n D.w (aheadM D s) ∧ MRed D.M (aheadM D s)
  | 0 => ⟨ok.sG, ok.rG⟩
  | s + 1 => ⟨prod_shp ok.sA, prod_red (by have := ok.m2; omega)⟩
theorem ahead_ent {D : GD} (ok : GOk D) (s : Nat) {i j : Nat} (hi : i < D.n) (hj : j < D.w) : Eqm D.M (ent (aheadM D (s + 1)) i j) (sumN D.n fun k => ent D.A i k * ent (aheadM D s) k j) := by
  show Eqm D.M (ent (prodM D.M D.w D.A (aheadM D s)) i j) _
  rw [ent_prod ok.sA (ahead_shp ok s).1 hi hj]
  exact .mod _ _
theorem ahead_zero {D : GD} (ok : GOk D) {y : Vec} (h : ∀ i, i < D.n → Eqm D.M (sumN D.w fun j => ent D.G i j * y j) 0) : ∀ s i, i < D.n → Eqm D.M (sumN D.w fun j => ent (aheadM D s) i j * y j) 0
  | 0, i, hi => h i hi
  | s + 1, i, hi => by
    refine (Eqm.sum fun j hj => (ahead_ent ok s hi hj).mul (.refl _ _)).trans ?_
    rw [sum_swap]
    exact (Eqm.sum (g := fun _ => 0) fun k hk => ((Eqm.refl D.M (ent D.A i k)).mul (ahead_zero ok h s k hk)).trans (.eq (by simp))).trans (.eq (sumN_zero _))
theorem dotZ_comm : ∀ a b : Row, dotZ a b = dotZ b a := by
  intro a b
  unfold dotZ
  rw [List.zipWith_comm]
  congr 1
  congr 1
  funext x y
  exact Int.mul_comm _ _
theorem cols_prod {M : Int} {n w : Nat} {A X : Mat} (sA : Shp n n A) : colsOf w (prodM M w A X) = (colsOf w X).map (applyM M A) := by
  unfold colsOf prodM
  rw [List.map_map]
  refine List.map_congr_left fun j hj => ?_
  have hj := List.mem_range.mp hj
  show (A.map fun r => applyM M ((List.range w).map fun j => X.map fun r => r.getD j 0) r).map (fun r => r.getD j 0) = applyM M A (X.map fun r => r.getD j 0)
  unfold applyM
  rw [List.map_map]
  refine List.map_congr_left fun r hr => ?_
  show (((List.range w).map fun j => X.map fun r => r.getD j 0).map fun l => dotZ l r % M).getD j 0 = _
  rw [List.map_map, List.getD_eq_getElem?_getD, List.getElem?_map, List.getElem?_range hj]
  show dotZ _ r % M = _
  rw [dotZ_comm]
def keptR (D : GD) (F : List (Nat × Row)) (s : Nat) : Mat := (colsOf D.w (aheadM D s)).map (applyM D.M (F.map (·.2)))
theorem kept_rows {D : GD} (ok : GOk D) {F : List (Nat × Row)} (hF : HF D.M D.n F) (s : Nat) : ∀ r ∈ keptR D F s, r.length = F.length ∧ RRed D.M r := fun r hr => by
  obtain ⟨c, _, rfl⟩ := List.mem_map.mp hr
  refine ⟨by simp [applyM], fun x hx => ?_⟩
  obtain ⟨l, _, rfl⟩ := List.mem_map.mp hx
  exact mod_red (by have := ok.m2; omega) _
theorem kept_fn {D : GD} (ok : GOk D) {F : List (Nat × Row)} (hF : HF D.M D.n F) (s : Nat) {t q : Nat} {κ : Row} (ht : F[t]? = some (q, κ)) {j : Nat} (hj : j < D.w) : Eqm D.M (ent (keptR D F s) j t) (sumN D.n fun k => fn κ k * ent (aheadM D s) k j) := by
  have sX := (ahead_shp ok s).1
  have hc := colsOf_shp (w := D.w) sX.1
  obtain ⟨c, ec, lc⟩ := shp_at hc hj
  have e1 : (keptR D F s)[j]? = some (applyM D.M (F.map (·.2)) c) := by
    unfold keptR
    rw [List.getElem?_map, ec]
    rfl
  rw [ent_at e1]
  unfold applyM
  rw [List.getD_eq_getElem?_getD, List.getElem?_map, List.getElem?_map, ht]
  show Eqm D.M (dotZ κ c % D.M) _
  refine (Eqm.mod _ _).trans (.eq ?_)
  rw [dot_sum D.n κ c (hF.row q κ (List.mem_of_getElem? ht)).2.1 lc]
  refine sumN_congr fun k hk => ?_
  rw [← ent_cols sX hk hj, ent_at ec]
  rfl
theorem first_iff {D : GD} (ok : GOk D) {F : List (Nat × Row)} (hF : KerOf D.M D.w D.n (colsOf D.w D.G) F) (s : Nat) : (∀ v, InS D.M D.w (RW (colsOf F.length (keptR D F s))) v) ↔ PSeen D s := by
  have sX := (ahead_shp ok s).1
  have hc := colsOf_shp (w := D.w) sX.1
  have lk : (keptR D F s).length = D.w := by
    unfold keptR
    rw [List.length_map, hc.1]
  have sk : Shp D.w F.length (keptR D F s) := ⟨lk, fun r hr => (kept_rows ok hF.1 s r hr).1⟩
  have st := colsOf_shp (w := F.length) lk
  have at_ : ∀ t, t < F.length → ∃ a, (colsOf F.length (keptR D F s))[t]? = some a ∧ ∀ j, j < D.w → fn a j = ent (keptR D F s) j t := fun t ht => by
    obtain ⟨a, ea, la⟩ := shp_at st ht
    refine ⟨a, ea, fun j hj => ?_⟩
    rw [← ent_cols sk hj ht, ent_at ea]
    rfl
  refine pair_iff ok.m2 ok.sG ok.rG hF (fun y hy i hi => ahead_zero ok hy s i hi) (fun a ha => ?_) (fun q κ hq => ?_)
  · obtain ⟨t, ht⟩ := List.mem_iff_getElem?.mp ha
    have htl : t < F.length := by
      have := (List.getElem?_eq_some_iff.mp ht).1
      rw [st.1] at this
      exact this
    obtain ⟨a2, ea, hf⟩ := at_ t htl
    rw [ht] at ea
    cases ea
    refine ⟨st.2 a ha, fun x hx => ?_, F[t].1, F[t].2, List.getElem_mem htl, fun j hj => ?_⟩
    · obtain ⟨j, hj⟩ := List.mem_iff_getElem?.mp hx
      have hjl : j < D.w := by
        have := (List.getElem?_eq_some_iff.mp hj).1
        rw [st.2 a ha] at this
        exact this
      have := hf j hjl
      rw [fn_at hj] at this
      rw [this]
      exact mred_ent sk (fun r hr => (kept_rows ok hF.1 s r hr).2) hjl htl
    · rw [hf j hj]
      exact kept_fn ok hF.1 s (List.getElem?_eq_getElem htl) hj
  · obtain ⟨t, ht⟩ := List.mem_iff_getElem?.mp hq
    have htl := (List.getElem?_eq_some_iff.mp ht).1
    obtain ⟨a, ea, hf⟩ := at_ t htl
    exact ⟨a, List.mem_of_getElem? ea, fun j hj => by rw [hf j hj]; exact kept_fn ok hF.1 s ht hj⟩
def goodB (S : List (Option Row)) (i : Nat) : Bool := match S[i]? with
  | some (some s) => decide (s[i]? = some 1)
  | _ => false
theorem goodB_iff {S : List (Option Row)} {i : Nat} : goodB S i = true ↔ ∃ s, S[i]? = some (some s) ∧ s[i]? = some 1 := by
  unfold goodB
  cases e : S[i]? with
  | none => simp
  | some o =>
    cases o with
    | none => simp
    | some s => simp
theorem rowsS_of {K : PySem.W.Frag} {H : Hp} : ∀ {vs : List V} {A : Mat}, RowsAre K H vs A → RowsS true K H vs A
  | _, _, .nil => .nil
  | _, _, .cons h t => .cons h (rowsS_of t)
def spFirst (K : PySem.W.Frag) (CG CE : Addr) : Sp := fun vs H Q E => ∃ (g : Addr) (D : GD) (vm : V), vs = [.ref g, vm] ∧ GuardAt K CG H g D ∧ GOk D ∧ D.w ≤ 8 ∧
  ((∃ most : Int, vm = .int most ∧ 1 ≤ most ∧ most ≤ 2000 ∧ ∀ v H', Same H H' → FirstP D most v → Q v H') ∨ (NoW K H vm 1 2000 ∧ Rsd H CE "size" vm E))
section
variable {P : Program} {w : World} {K : PySem.W.Frag} {mg : Str → Option Value} {base : Heap} {C fI fP fA fS CG gI gT gB gQ : Addr}
theorem ok_spans {f : Addr} {fd fdI fdP : FuncData} (F : Fun K "spans_all" "spans_all" s_spans_all f fd) (T : TxtS K mg C fI fP fA fS) (T_all : mg "all" = none)
    (G_init : FnOk P w K mg base CX0 1 fI fdI ["self", "modulus", "places"] (spStInit C)) (b_init : Binds K fdI ["self", "modulus", "places"] [])
    (G_put : FnOk P w K mg base CX0 3 fP fdP ["self", "row"] (spPutT K C)) (b_put : Binds K fdP ["self", "row"] []) :
    FnOk P w K mg base CX0 4 f fd ["modulus", "rows", "width"] (spSpans K) := by
  refine F.ok sc_spans_all (fun vs H Q E h => ?_) (fun cdv A outer s H vs Q E hr h => ?_)
  · obtain ⟨M, a, A, w, rfl, _⟩ := h
    rfl
  · obtain ⟨M, a, Am, w, rfl, hM, hM2, ⟨vs, hA, hR⟩, hrow, lA, hw, k⟩ := h
    refine ⟨_, (pss_cons (ps_set (i := 3) sc_spans_all.nd rfl (Or.inl rfl) (pe_make T.mkr G_init (hr.mono (by decide)) rfl T.mgC b_init .nil pass0 (pa_cons (pv 0) (pa_cons (pv 2) pa_nil))))
        (pss_cons (ps_for PassesOwn.never rfl (pi_tup (pv 1)) (pg_name (i := 4) sc_spans_all.nd rfl (Or.inl rfl)) (pss_one (ps_expr (pe_meth (pv 3) T.cl T.m_put G_put (hr.mono (by decide)) b_put .nil pass0 (pa_cons (pv 4) pa_nil)))))
        (pss_one (ps_ret (pe_callB (cr_all rfl) rfl T_all (by decide +kernel) (pa_cons (pe_lc (own := [("place", 5), ("step", 6)]) (g := gTup K 2 (gCons (gName 5) (gCons (gName 6) gNil))) rfl sc_spans_all.nd (pi_enum rfl T.f_enumerate (pa_cons (pe_fld (pv 3) rfl) pa_nil)) (blkOk_by (N := ["modulus", "rows", "width", "stairs", "row", "place", "step"]) (sc := defScope s_spans_all) (by decide +kernel)) (fun _ _ _ _ _ => (pg_tupK rfl rfl (pgs_cons (pg_name (i := 5) sc_spans_all.nd rfl (Or.inl rfl)) (pgs_cons (pg_name (i := 6) sc_spans_all.nd rfl (Or.inl rfl)) pgs_nil)))) (fun _ _ _ _ _ => pts_nil) (fun _ _ _ _ _ => (pe_and (pe_cmpR op_notN (pv 6) pe_non (nomark _)) (pe_one (pe_cmpR op_eq (pe_ix (ix_listK (K := K) rfl) (pv 6) (pv 5) (fun _ _ => rfl)) pe_int (nomark _)))))) pa_nil)))))), ?_⟩
    have hvl := hR.length
    refine ⟨_, rfl, _, rfl, fun x dx nx nd ne => ⟨x, dx, M, w, rfl, upd_same, by omega, fun l H1 b1 nl st => ⟨rfl, ?_⟩⟩⟩
    have sI : Same H H1 := init_same nx nd b1
    have hHl : H l = none := by
      cases z : H l with
      | none => rfl
      | some o =>
        rw [upd_ne (ne_of_none z nx), upd_ne (ne_of_none z nd), z] at nl
        cases nl
    refine ⟨_, rfl, a, rfl, ⟨_, SqT.same hA sI⟩, ?_⟩
    refine for_it (walk_tup (xs := vs)) (fun i σ H' => ∃ (x4 : Option V) (S : List (Option Row)), σ = [some (.int M), some (.ref a), some (.int (w : Int)), some (.ref x), x4, none, none] ∧ PutsR M w w (Am.take i) S ∧ Same H H' ∧ StAt C H' x l M S) ⟨none, _, rfl, .nil, sI, st⟩ (fun i σ H' _ ⟨_, _, _, _, s1, _⟩ => SqT.same hA s1) ?_ ?_
    · rintro i v σ H2 H2' hi ⟨x4, S, rfl, hp, s1, st1⟩ ⟨rfl, hv⟩
      obtain ⟨q, r, rfl, er, hq⟩ := hR.at_ hv
      obtain ⟨lr, rr⟩ := hrow _ (List.mem_of_getElem? er)
      obtain ⟨⟨dx2, hx2⟩, vs2, hl2, hS2⟩ := id st1
      refine ⟨_, rfl, x, dx2, flS M l, rfl, hx2, flS_no M l (by decide +kernel) (by decide +kernel), _, rfl, true, x, l, q, M, w, w, S, r, rfl, st1, hM, hM2, by omega, Nat.le_refl _, hp.wf hM, lr, rr, SqT.same hq s1, fun z => Bool.noConfusion z, fun S' r' b' H3 ch bt st3 => ?_⟩
      refine ⟨_, S', rfl, ?_, fun b o e => bt b o (ne_of_none e hHl) (s1 _ _ e), st3⟩
      rw [List.take_add_one, er]
      exact .snoc hp lr rr ch
    · rintro σ H2 ⟨x4, S, rfl, hp, s1, st1⟩
      obtain ⟨⟨dx2, hx2⟩, vs2, hl2, hS2⟩ := id st1
      have hvl2 : vs2.length = w := hS2.length.trans (hp.wf hM).len
      rw [hvl, List.take_length] at hp
      have wf := hp.wf hM
      refine ⟨_, rfl, x, C, dx2, _, _, rfl, hx2, T.cl, T.nS, flS_s M l, l, vs2, rfl, SqL.of hl2, fun D nD => lc_rel (walk_enum (xs := vs2)) nD (by omega) (fun i v _ => ∃ j, (List.range w)[i]? = some j ∧ v = .bl (goodB S j)) (fun i v H H' h _ => h) (fun H' e => SqL.of (e _ _ hl2)) ?_ ?_⟩
      · rintro i v H3 H3' Fn Nn fin hi s3 hacc ⟨T0, v1, v2, rfl, hT, rfl, e1, e2⟩
        cases e1
        have hiw : i < w := by omega
        have sT : Same H3 (upd H3 T0 (.tup [.int (i : Int), v2])) := same_upd hT
        have gT : (upd H3 T0 (.tup [.int (i : Int), v2])) T0 = some (.tup [.int (i : Int), v2]) := upd_same
        generalize upd H3 T0 (.tup [.int (i : Int), v2]) = H4 at sT gT ⊢
        have hSi : S[i]? = some (S[i]'(by rw [wf.len]; exact hiw)) := List.getElem?_eq_getElem (by rw [wf.len]; exact hiw)
        refine ⟨T0, _, rfl, SqT.of gT, rfl, _, _, rfl, _, _, rfl, rfl, rfl, yesT ?_⟩
        have e3 : vs2[i]? = some v2 := e2
        have done : ∀ b, b = goodB S i → Fn (.bl b) H4 := fun b eb => fin _ _ sT ⟨i, List.getElem?_range hiw, by rw [eb]⟩
        rcases hS2.at_ hSi with ⟨e0, ev⟩ | ⟨b, r, e0, ev, hbl, hb⟩
        · rw [e3] at ev
          cases ev
          refine ⟨_, rfl, rfl, false, congrArg V.bl (by simp), iteF (done false ?_)⟩
          unfold goodB
          rw [hSi, e0]
        · rw [e3] at ev
          cases ev
          obtain ⟨rl, rr, ⟨y, hy, y1, _⟩, _⟩ := wf.row _ _ (hSi.trans (by rw [e0]))
          have hyV : (r.map V.int)[i]? = some (.int y) := by rw [List.getElem?_map, hy]; rfl
          refine ⟨_, rfl, rfl, true, congrArg V.bl (by simp), iteT ?_⟩
          refine ⟨_, rfl, _, rfl, b, _, _, _, rfl, rfl, SqL.of (sT _ _ (s3 _ _ hb)), atI_nat hyV, rfl, done _ ?_⟩
          unfold goodB
          rw [hSi, e0]
          show decide (V.int y = V.int 1) = decide (r[i]? = some 1)
          rw [hy]
          by_cases c : y = 1
          · rw [c]; simp
          · rw [decide_eq_false (by intro z; injection z with z; exact c z), decide_eq_false (by intro z; injection z with z; exact c z)]
      · intro acc H3 a1 a2 s3 hR3
        have ea : acc = ((List.range w).map (goodB S)).map V.bl := by
          rw [acc_map (as := List.range w) (f := fun j => V.bl (goodB S j)) (by simp; omega) hR3, List.map_map]
          rfl
        rw [ea] at a2
        refine ⟨D, _, rfl, SqL.of a2, k _ H3 (same_trans s1 s3) ?_⟩
        rw [← span_all hM hp, List.all_eq_true]
        constructor
        · intro h i hi
          have := h (goodB S i) (List.mem_map.mpr ⟨i, List.mem_range.mpr hi, rfl⟩)
          exact goodB_iff.mp this
        · intro h b hb
          obtain ⟨i, hi, rfl⟩ := List.mem_map.mp hb
          exact goodB_iff.mpr (h i (List.mem_range.mp hi))
theorem ok_first {f f0 fT fK fA fS2 iE CE CS : Addr} {fd fd0 fdT fdK fdA fdS fdE : FuncData} (F : Fun K "first_pair" "first_pair" s_first_pair f fd) (T : TxtM mg) (TG : TxtGd K mg CG gI gT gB gQ) (gMP : ∃ t, mg "MOST_PAIR" = some (.int 2000 t)) (ES : Err1 K mg "BadSize" "size" CE iE CS)
    (GES : FnOk P w K mg base CX0 1 iE fdE ["self", "size"] (spE1 CE "size")) (bES : Binds K fdE ["self", "size"] [])
    (G_is_within : FnOk P w K mg base CX0 2 f0 fd0 ["value", "least", "most"] (spWithinA K)) (g_is_within : mg "is_within" = some (.ref f0)) (kp_is_within : PySem.W.keepIn K (.ref f0) = true) (b_is_within : Binds K fd0 ["value", "least", "most"] [])
    (G_transposed : FnOk P w K mg base CX0 1 fT fdT ["matrix"] (spTrn K)) (G_transposedL : FnOk P w K mg base CX0 1 fT fdT ["matrix"] (spTrnL K)) (g_transposed : mg "transposed" = some (.ref fT)) (kp_transposed : PySem.W.keepIn K (.ref fT) = true) (b_transposed : Binds K fdT ["matrix"] [])
    (G_kernel_of : FnOk P w K mg base CX0 5 fK fdK ["modulus", "matrix"] (spKernelOf K)) (g_kernel_of : mg "kernel_of" = some (.ref fK)) (kp_kernel_of : PySem.W.keepIn K (.ref fK) = true) (b_kernel_of : Binds K fdK ["modulus", "matrix"] [])
    (G_applied : FnOk P w K mg base CX0 1 fA fdA ["modulus", "matrix", "row"] (spApplied K)) (g_applied : mg "applied" = some (.ref fA)) (kp_applied : PySem.W.keepIn K (.ref fA) = true) (b_applied : Binds K fdA ["modulus", "matrix", "row"] [])
    (G_spans_all : FnOk P w K mg base CX0 4 fS2 fdS ["modulus", "rows", "width"] (spSpans K)) (g_spans_all : mg "spans_all" = some (.ref fS2)) (kp_spans_all : PySem.W.keepIn K (.ref fS2) = true) (b_spans_all : Binds K fdS ["modulus", "rows", "width"] []) :
    FnOk P w K mg base (L2.CX P w) 6 f fd ["guard", "most"] (spFirst K CG CE) := by
  refine F.okX sc_first_pair (fun vs H Q E h => ?_) (fun cdv A outer s H vs Q E hr h => ?_)
  · obtain ⟨g, D, vm, rfl, _⟩ := h
    rfl
  · obtain ⟨g, D, vm, rfl, hG, ok, w8, ways⟩ := h
    refine ⟨_, (pss_cons (ps_if (pt_not (pt_val (pe_call G_is_within (hr.mono (by decide)) rfl g_is_within kp_is_within b_is_within .nil pass0 (pa_cons (pv 1) (pa_cons pe_int (pa_cons (pe_glob (v := .int 2000) rfl gMP.choose_spec ⟨_, rfl⟩) pa_nil)))))) (pss_one (ps_raise rfl (takes_of rfl rfl rfl rfl) (pmk_oex ES.o ES.i ES.t GES (hr.mono (by decide)) bES .nil pass0 rfl ES.g (pa_cons (pv 1) pa_nil)))) pss_nil)
        (pss_cons (ps_set (i := 2) sc_first_pair.nd rfl (Or.inl rfl) (pe_call G_transposed (hr.mono (by decide)) rfl g_transposed kp_transposed b_transposed .nil pass0 (pa_cons (pe_fld (pv 0) rfl) pa_nil)))
        (pss_cons (ps_set (i := 3) sc_first_pair.nd rfl (Or.inr rfl) (pe_call G_kernel_of (hr.mono (by decide)) rfl g_kernel_of kp_kernel_of b_kernel_of .nil pass0 (pa_cons (pe_fld (pv 0) rfl) (pa_cons (pv 2) pa_nil))))
        (pss_cons (ps_for (passes_of rfl) rfl (pi_range2 rfl T.f_range (pa_cons pe_int (pa_cons (pe_op op_add (pv 1) pe_int) pa_nil))) (pg_name (i := 4) sc_first_pair.nd rfl (Or.inl rfl)) (pss_cons (ps_setLc (i := 2) (own := [("column", 6)]) (g := gName 6) rfl sc_first_pair.nd rfl rfl (sw_true rfl rfl rfl (by decide +kernel)) (pi_anyK (K := K) rfl (pv 2)) (blkOk_by (N := ["guard", "most", "columns", "keepers", "size", "kept", "column"]) (sc := defScope s_first_pair) (by decide +kernel)) (fun _ _ _ _ _ => (pg_name (i := 6) sc_first_pair.nd rfl (Or.inl rfl))) (fun _ _ _ _ _ => pts_nil) (fun _ _ _ _ _ => (pe_call G_applied (hr.mono (by decide)) rfl g_applied kp_applied b_applied .nil pass0 (pa_cons (pe_fldK (K := K) rfl (pv 0) rfl) (pa_cons (pe_fldK (K := K) rfl (pv 0) rfl) (pa_cons (pv 6) pa_nil))))))
        (pss_cons (ps_setLc (i := 5) (own := [("column", 6)]) (g := gName 6) rfl sc_first_pair.nd rfl rfl (sw_true rfl rfl rfl (by decide +kernel)) (pi_anyK (K := K) rfl (pv 2)) (blkOk_by (N := ["guard", "most", "columns", "keepers", "size", "kept", "column"]) (sc := defScope s_first_pair) (by decide +kernel)) (fun _ _ _ _ _ => (pg_name (i := 6) sc_first_pair.nd rfl (Or.inl rfl))) (fun _ _ _ _ _ => pts_nil) (fun _ _ _ _ _ => (pe_call G_applied (hr.mono (by decide)) rfl g_applied kp_applied b_applied .nil pass0 (pa_cons (pe_fldK (K := K) rfl (pv 0) rfl) (pa_cons (pv 3) (pa_cons (pv 6) pa_nil))))))
        (pss_one (ps_if (pt_not (pt_val (pe_call G_spans_all (hr.mono (by decide)) rfl g_spans_all kp_spans_all b_spans_all .nil pass0 (pa_cons (pe_fld (pv 0) rfl) (pa_cons (pe_call G_transposedL (hr.mono (by decide)) rfl g_transposed kp_transposed b_transposed .nil pass0 (pa_cons (pv 5) pa_nil)) (pa_cons (pe_fld (pv 0) rfl) pa_nil)))))) (pss_one (ps_ret (pv 4))) pss_nil)))))
        (pss_one (ps_ret pe_non)))))), ?_⟩
    obtain ⟨dx, aM, aC, aS, aE, hp, hA, hC, hS, hE⟩ := hG.ex
    have hM2 := ok.m2
    have hn1 := ok.n1
    have hn16 := ok.n16
    have hw1 := ok.w1
    have hM64 : D.M < 2 ^ 64 := Int.lt_of_le_of_lt ok.m18 (by decide)
    rcases ways with ⟨most, rfl, m1, m2, k⟩ | ⟨hw, k⟩
    rotate_left
    · refine ⟨_, rfl, _, 1, 2000, rfl, false, hw.is, ?_⟩
      refine ⟨_, rfl, iteT ?_⟩
      exact ⟨_, rfl, (by show 1 ≤ 1000; decide), fun a ha => ⟨a, _, rfl, upd_same, fun d hd hda => ⟨rfl, d, _, upd_same, (by rw [upd_ne hda]; exact upd_same), (by rw [upd_ne hda] at hd; exact hd), raised k ha hd hda⟩⟩⟩
    refine ⟨_, rfl, _, 1, 2000, rfl, true, .yes m1 m2, ?_⟩
    refine ⟨_, rfl, iteF ?_⟩
    have sG := ok.sG
    refine ⟨_, rfl, g, CG, dx, _, _, rfl, hp, TG.cl, TG.a_columns, flG_G, aC, D.G, D.w, rfl, hC, by rw [sG.1]; exact hn1, by rw [sG.1]; exact hn16, hw1, by omega, sG.2, fun qC H1 s1 hC1 => ?_⟩
    have scl := colsOf_shp (w := D.w) sG.1
    refine ⟨_, rfl, g, CG, dx, _, _, rfl, s1 _ _ hp, TG.cl, TG.a_modulus, flG_m, _, rfl, D.M, qC, colsOf D.w D.G, D.w, D.n, rfl, hM2, hM64, hC1, scl, hw1, w8, hn1, by omega, fun F qK H2 hF s2 hK => ?_⟩
    obtain ⟨m, rfl⟩ : ∃ m : Nat, most = (m : Int) := ⟨most.toNat, by omega⟩
    have s02 := same_trans s1 s2
    have lF : F.length ≤ D.n := hF.1.few
    have sK : (F.map (·.2)).length = F.length := by simp
    have wK : ∀ l ∈ F.map (·.2), l.length = D.n ∧ RRed D.M l := fun l hl => by
      obtain ⟨⟨q, κ⟩, hq, rfl⟩ := List.mem_map.mp hl
      exact ⟨(hF.1.row q κ hq).2.1, (hF.1.row q κ hq).2.2.1⟩
    refine ⟨_, rfl, _, _, rfl, rfl, 1, (m : Int) + 1, rfl, ⟨by omega, by omega, by omega, by omega⟩, ?_⟩
    rw [show ((m : Int) + 1 - 1).toNat = m by omega]
    refine for_it (walk_range (lo := 1) (n := m)) (fun i σ H' => ∃ (x4 x5 : Option V) (u : Bool) (q : Addr), σ = [some (.ref g), some (.int (m : Int)), some (.ref q), some (.ref qK), x4, x5, none] ∧ Same H2 H' ∧ RowsIn u K H' q (colsOf D.w (aheadM D i)) ∧ ∀ t, 1 ≤ t → t ≤ i → PSeen D t) ⟨none, none, true, qC, rfl, fun _ _ e => e, hC1.same s2, fun t h1 h2 => absurd h2 (by omega)⟩ (fun _ _ _ _ _ => trivial) ?_ ?_
    · rintro i v σ H3 H3' hi ⟨x4, x5, u, q, rfl, s3, hq, hseen⟩ ⟨rfl, rfl⟩
      have s03 := same_trans s02 s3
      obtain ⟨vs, hvs, hRv⟩ := id hq
      have sX := ahead_shp ok i
      have sX1 := ahead_shp ok (i + 1)
      have hc := colsOf_shp (w := D.w) sX.1.1
      have hc1 := colsOf_shp (w := D.w) sX1.1.1
      have red : ∀ s, ∀ c ∈ colsOf D.w (aheadM D s), RRed D.M c := fun s c hc x hx => by
        obtain ⟨j, hj, rfl⟩ := List.mem_map.mp hc
        obtain ⟨r, hr, rfl⟩ := List.mem_map.mp hx
        exact fn_red ((ahead_shp ok s).2 r hr) (by rw [(ahead_shp ok s).1.2 r hr]; exact List.mem_range.mp hj)
      have lvs : vs.length = D.w := hRv.length.trans hc.1
      refine ⟨u, _, rfl, q, rfl, ⟨_, hvs⟩, fun L nL => lc_rows (K := K) (walk_sq (t := u) (xs := vs)) nL (by omega) (colsOf D.w (aheadM D (i + 1))) (by rw [hc1.1, lvs]) (fun H' e => SqK.same hvs e) ?_ fun acc H4 a1 s4 hR4 => ?_⟩
      · rintro j r v H4 H4' Fn Nn hj hr3 fin s4 ⟨rfl, hv⟩
        obtain ⟨b, c, rfl, ec, hb⟩ := hRv.at_ hv
        refine ⟨rfl, yesT ⟨_, rfl, g, CG, dx, _, _, rfl, s4 _ _ (s03 _ _ hp), TG.cl, TG.a_modulus, flG_m, _, rfl, g, CG, dx, _, _, rfl, s4 _ _ (s03 _ _ hp), TG.cl, TG.a_matrix, flG_A, _, rfl, D.M, aM, b, D.A, c, rfl, by omega, hA.same (same_trans s03 s4), SqT.same hb s4, (fun r hr => rred_wd (ok.rA r hr) hM64), rred_wd (red i c (List.mem_of_getElem? ec)) hM64, by rw [ok.sA.1]; omega, by rw [hc.2 c (List.mem_of_getElem? ec)]; omega, fun l hl => by rw [ok.sA.2 l hl, hc.2 c (List.mem_of_getElem? ec)], fun p5 H5 s5 g5 => fin p5 H5 s5 ?_⟩⟩
        have : r = applyM D.M D.A c := by
          have e1 := hr3
          rw [show aheadM D (i + 1) = prodM D.M D.w D.A (aheadM D i) from rfl, cols_prod ok.sA, List.getElem?_map, ec] at e1
          exact (Option.some.inj e1).symm
        rw [this]
        exact g5
      have s04 := same_trans s03 s4
      refine ⟨false, _, rfl, L, rfl, ⟨_, SqL.of a1⟩, fun L2 nL2 => lc_rows (K := K) (walk_list (xs := acc)) nL2 (by rw [hR4.length, hc1.1]; omega) (keptR D F (i + 1)) (by unfold keptR; rw [List.length_map, hR4.length]) (fun H' e => SqL.of (e _ _ a1)) ?_ fun acc2 H5 a2 s5 hR5 => ?_⟩
      · rintro j r v H5 H5' Fn Nn hj hr3 fin s5 ⟨rfl, hv⟩
        obtain ⟨b, c, rfl, ec, hb⟩ := hR4.at_ hv
        refine ⟨rfl, yesT ⟨_, rfl, g, CG, dx, _, _, rfl, s5 _ _ (s04 _ _ hp), TG.cl, TG.a_modulus, flG_m, _, rfl, _, rfl, D.M, qK, b, F.map (·.2), c, rfl, by omega, ((hK.same s3).same s4).same s5, SqT.same hb s5, fun r hr => rred_wd (wK r hr).2 hM64, rred_wd (red (i + 1) c (List.mem_of_getElem? ec)) hM64, by rw [sK]; omega, by rw [hc1.2 c (List.mem_of_getElem? ec)]; omega, fun l hl => by rw [(wK l hl).1, hc1.2 c (List.mem_of_getElem? ec)], fun p5 H5 s5 g5 => fin p5 H5 s5 ?_⟩⟩
        have : r = applyM D.M (F.map (·.2)) c := by
          unfold keptR at hr3
          rw [List.getElem?_map, ec] at hr3
          exact (Option.some.inj hr3).symm
        rw [this]
        exact g5
      have s05 := same_trans s04 s5
      have lkep : (keptR D F (i + 1)).length = D.w := by unfold keptR; rw [List.length_map, hc1.1]
      have hkr := kept_rows ok hF.1 (i + 1)
      have stc := colsOf_shp (w := F.length) lkep
      refine ⟨_, rfl, g, CG, dx, _, _, rfl, s05 _ _ hp, TG.cl, TG.a_modulus, flG_m, _, rfl, L2, keptR D F (i + 1), F.length, rfl, ⟨acc2, SqL.of a2, rowsS_of hR5⟩, by rw [lkep]; exact hw1, by rw [lkep]; omega, by omega, fun r hr => (hkr r hr).1, fun q6 H6 s6 h6 => ?_⟩
      refine ⟨_, rfl, g, CG, dx, _, _, rfl, s6 _ _ (s05 _ _ hp), TG.cl, TG.a_width, flG_w, D.M, q6, colsOf F.length (keptR D F (i + 1)), D.w, rfl, hM2, hM64, h6, fun r hr => ⟨stc.2 r hr, ?_⟩, by rw [stc.1]; omega, by omega, fun b H7 s7 hb => ?_⟩
      · intro x hx
        obtain ⟨j, hj, rfl⟩ := List.mem_map.mp hr
        obtain ⟨r2, hr2, rfl⟩ := List.mem_map.mp hx
        exact fn_red (hkr r2 hr2).2 (by rw [(hkr r2 hr2).1]; exact List.mem_range.mp hj)
      rw [first_iff ok hF (i + 1)] at hb
      have s47 := same_trans s5 (same_trans s6 s7)
      have s07 := same_trans s04 s47
      refine ⟨b, rfl, ?_⟩
      have et : (1 : Int) + (i : Int) = ((i + 1 : Nat) : Int) := by omega
      cases b with
      | false =>
        refine iteT ⟨_, rfl, k _ H7 s07 (.inl ⟨i + 1, congrArg V.int et, by omega, by omega, fun z => ?_, fun t h1 h2 => hseen t h1 (by omega)⟩)⟩
        have := hb.mpr z
        cases this
      | true =>
        refine iteF ⟨_, _, false, L, rfl, same_trans s3 (same_trans s4 s47), ⟨acc, SqL.of (s47 _ _ a1), hR4.same s47⟩, fun t h1 h2 => ?_⟩
        rcases Nat.lt_or_ge t (i + 1) with c | c
        · exact hseen t h1 (by omega)
        · rw [show t = i + 1 by omega]
          exact hb.mp rfl
    · rintro σ H3 ⟨x4, x5, u, q, rfl, s3, hq, hseen⟩
      exact k _ H3 (same_trans s02 s3) (.inr ⟨rfl, fun t h1 h2 => hseen t h1 (by omega)⟩)
end
end Wk

namespace Wk
open PySem L2
abbrev s_law_world_of : Stmt := top 64
theorem sc_law_world_of : FnScope ["_law_pen", "_law_most", "_law_size", "_law_width", "_law_modulus", "_law_world", "_law_name", "_law_k"] ["_law_pen", "_law_most", "_law_size", "_law_width"] (defScope s_law_world_of) := ⟨rfl, rfl, rfl, by decide +kernel, rfl, by decide +kernel, by decide +kernel⟩
abbrev s_law_guard_of : Stmt := top 65
theorem sc_law_guard_of : FnScope ["_law_world"] ["_law_world"] (defScope s_law_guard_of) := ⟨rfl, rfl, rfl, by decide +kernel, rfl, by decide +kernel, by decide +kernel⟩
abbrev s_law_beside : Stmt := top 66
theorem sc_law_beside : FnScope ["_law_one", "_law_other", "_law_row", "_law_more"] ["_law_one", "_law_other"] (defScope s_law_beside) := ⟨rfl, rfl, rfl, by decide +kernel, rfl, by decide +kernel, by decide +kernel⟩
abbrev s_law_is_passed : Stmt := top 67
theorem sc_law_is_passed : FnScope ["_law_modulus", "_law_matrix", "_law_zero", "_law_row"] ["_law_modulus", "_law_matrix"] (defScope s_law_is_passed) := ⟨rfl, rfl, rfl, by decide +kernel, rfl, by decide +kernel, by decide +kernel⟩
abbrev s_law_first : Stmt := top 68
theorem sc_law_first : FnScope ["_law_world", "_law_most", "_law_ahead", "_law_size"] ["_law_world", "_law_most"] (defScope s_law_first) := ⟨rfl, rfl, rfl, by decide +kernel, rfl, by decide +kernel, by decide +kernel⟩

-- _law_pen=0 _law_most=1 _law_size=2 _law_width=3 _law_modulus=4 _law_world=5 _law_name=6 _law_k=7
-- _law_modulus=0 _law_matrix=1 _law_zero=2 _law_row=3
-- _law_world=0 _law_most=1 _law_ahead=2 _law_size=3
/-! what a guard is made of -/
def w3 (M : Int) (aM aC : Addr) : List (Key × V) := [(.inr "modulus", .int M), (.inr "matrix", .ref aM), (.inr "columns", .ref aC)]
def w4 (M : Int) (aM aC aS : Addr) : List (Key × V) := [(.inr "modulus", .int M), (.inr "matrix", .ref aM), (.inr "columns", .ref aC), (.inr "start", .ref aS)]
def w5 (M : Int) (aM aC aS aE : Addr) : List (Key × V) := [(.inr "modulus", .int M), (.inr "matrix", .ref aM), (.inr "columns", .ref aC), (.inr "start", .ref aS), (.inr "end", .ref aE)]
theorem kw12 : ¬ Str.ofString "modulus" = Str.ofString "matrix" := by decide +kernel
theorem kw13 : ¬ Str.ofString "modulus" = Str.ofString "columns" := by decide +kernel
theorem kw14 : ¬ Str.ofString "modulus" = Str.ofString "start" := by decide +kernel
theorem kw15 : ¬ Str.ofString "modulus" = Str.ofString "end" := by decide +kernel
theorem kw23 : ¬ Str.ofString "matrix" = Str.ofString "columns" := by decide +kernel
theorem kw24 : ¬ Str.ofString "matrix" = Str.ofString "start" := by decide +kernel
theorem kw25 : ¬ Str.ofString "matrix" = Str.ofString "end" := by decide +kernel
theorem kw34 : ¬ Str.ofString "columns" = Str.ofString "start" := by decide +kernel
theorem kw35 : ¬ Str.ofString "columns" = Str.ofString "end" := by decide +kernel
theorem kw45 : ¬ Str.ofString "start" = Str.ofString "end" := by decide +kernel
theorem put_w3 (M : Int) (aM aC : Addr) : putK [(.inr "modulus", .int M), (.inr "matrix", .ref aM)] (.inr "columns" : Key) (.ref aC) = w3 M aM aC := by simp [putK, w3, kw13, kw23]
theorem put_w4 (M : Int) (aM aC aS : Addr) : putK (w3 M aM aC) (.inr "start" : Key) (.ref aS) = w4 M aM aC aS := by simp [putK, w3, w4, kw14, kw24, kw34]
theorem put_w5 (M : Int) (aM aC aS aE : Addr) : putK (w4 M aM aC aS) (.inr "end" : Key) (.ref aE) = w5 M aM aC aS aE := by simp [putK, w4, w5, kw15, kw25, kw35, kw45]
theorem merge_w2 (M : Int) (aM : Addr) : mergeK [] [((.inr "modulus" : Key), V.int M), (.inr "matrix", .ref aM)] = [(.inr "modulus", .int M), (.inr "matrix", .ref aM)] := by simp [mergeK, putK, kw12]
section
variable {M : Int} {aM aC aS aE : Addr}
theorem get_m : valV (w5 M aM aC aS aE) (.inr "modulus") = some (.int M) := valV_pos rfl
theorem get_A : valV (w5 M aM aC aS aE) (.inr "matrix") = some (.ref aM) := by simp [valV, w5, List.find?_cons, kw12]
theorem get_G : valV (w5 M aM aC aS aE) (.inr "columns") = some (.ref aC) := by simp [valV, w5, List.find?_cons, kw13, kw23]
theorem get_s : valV (w5 M aM aC aS aE) (.inr "start") = some (.ref aS) := by simp [valV, w5, List.find?_cons, kw14, kw24, kw34]
theorem get_e : valV (w5 M aM aC aS aE) (.inr "end") = some (.ref aE) := by simp [valV, w5, List.find?_cons, kw15, kw25, kw35, kw45]
end
def WorldAt (K : PySem.W.Frag) (H : Hp) (q : Addr) (D : GD) : Prop := ∃ aM aC aS aE, H q = some (.dK (w5 D.M aM aC aS aE)) ∧ MatAt K H aM D.A ∧ MatAt K H aC D.G ∧ RowAt K H aS D.st ∧ RowAt K H aE D.en
theorem WorldAt.same {K : PySem.W.Frag} {H H' : Hp} {q : Addr} {D : GD} (h : WorldAt K H q D) (e : Same H H') : WorldAt K H' q D := by
  obtain ⟨aM, aC, aS, aE, h1, h2, h3, h4, h5⟩ := h
  exact ⟨aM, aC, aS, aE, e _ _ h1, h2.same e, h3.same e, SqT.same h4 e, SqT.same h5 e⟩
theorem pen_ne {H : Hp} {p c q : Addr} {ns : List Int} {n : Nat} (P : Pen H p c ns n) {kvs : List (Key × V)} (h : H q = some (.dK kvs)) (hk : kvs = [] ∨ ∃ v r, kvs = ((.inr "modulus" : Key), v) :: r) : q ≠ p := fun z => by
  obtain ⟨i, l, a, _⟩ := P
  have := a.pen
  rw [← z, h] at this
  injection this with this
  have e : kvs = penL c i l := by injection this
  rcases hk with rfl | ⟨v, r, rfl⟩
  · cases e
  · unfold penL at e
    injection e with e _
    injection e with e _
    exact absurd e (by decide +kernel)
theorem WorldAt.pen {K : PySem.W.Frag} {H H' : Hp} {q p c : Addr} {ns : List Int} {n : Nat} {D : GD} (h : WorldAt K H q D) (e : But p H H') (P : Pen H p c ns n) : WorldAt K H' q D := by
  obtain ⟨aM, aC, aS, aE, h1, h2, h3, h4, h5⟩ := h
  exact ⟨aM, aC, aS, aE, e _ _ (pen_ne P h1 (.inr ⟨_, _, rfl⟩)) h1, h2.pen e P, h3.pen e P, SqT.pen h4 e P, SqT.pen h5 e P⟩
theorem GuardAt.pen {K : PySem.W.Frag} {C : Addr} {H H' : Hp} {g p c : Addr} {ns : List Int} {n : Nat} {D : GD} (h : GuardAt K C H g D) (e : But p H H') (P : Pen H p c ns n) : GuardAt K C H' g D := by
  obtain ⟨dx, aM, aC, aS, aE, h1, m1, m2, h4, h5⟩ := h.ex
  obtain ⟨i, l, a, _⟩ := id P
  exact ⟨dx, aM, aC, aS, aE, e _ _ (fun z => by rw [z, a.pen] at h1; cases h1) h1, m1.pen e P, m2.pen e P, SqT.pen h4 e P, SqT.pen h5 e P⟩
theorem rred_wd12 {M : Int} {r : Row} (h : RRed M r) (hM : M ≤ 12) : RWd r := fun x hx => by
  have := h x hx
  show x.natAbs < 2 ^ 200
  omega
theorem sumN_two (a b : Nat) (f : Nat → Int) : sumN (a + b) f = sumN a f + sumN b fun k => f (a + k) := by
  induction b with
  | zero => show sumN a f = sumN a f + 0; omega
  | succ b ih =>
    show sumN (a + b) f + f (a + b) = _
    rw [ih]
    show _ = sumN a f + (sumN b (fun k => f (a + k)) + f (a + b))
    omega
theorem beside_ok {M : Int} {n w w2 : Nat} {A B : Mat} (sA : Shp n w A) (sB : Shp n w2 B) (rA : MRed M A) (rB : MRed M B) : Shp n (w + w2) (besideM A B) ∧ MRed M (besideM A B) ∧ ∀ i, i < n → (∀ j, j < w → ent (besideM A B) i j = ent A i j) ∧ ∀ j, j < w2 → ent (besideM A B) i (w + j) = ent B i j := by
  have at_ : ∀ i, i < n → ∃ a b, A[i]? = some a ∧ B[i]? = some b ∧ a.length = w ∧ b.length = w2 ∧ (besideM A B)[i]? = some (a ++ b) := fun i hi => by
    obtain ⟨a, ea, la⟩ := shp_at sA hi
    obtain ⟨b, eb, lb⟩ := shp_at sB hi
    exact ⟨a, b, ea, eb, la, lb, by unfold besideM; rw [List.getElem?_zipWith, ea, eb]⟩
  have lb : (besideM A B).length = n := by simp [besideM, sA.1, sB.1]
  have key : ∀ r ∈ besideM A B, ∃ a b, a ∈ A ∧ b ∈ B ∧ r = a ++ b := fun r hr => by
    obtain ⟨i, hi⟩ := List.mem_iff_getElem?.mp hr
    obtain ⟨a, b, ea, eb, _, _, e⟩ := at_ i (by rw [← lb]; exact (List.getElem?_eq_some_iff.mp hi).1)
    rw [hi] at e
    exact ⟨a, b, List.mem_of_getElem? ea, List.mem_of_getElem? eb, Option.some.inj e⟩
  refine ⟨⟨lb, fun r hr => ?_⟩, fun r hr x hx => ?_, fun i hi => ?_⟩
  · obtain ⟨a, b, ha, hb, rfl⟩ := key r hr
    rw [List.length_append, sA.2 a ha, sB.2 b hb]
  · obtain ⟨a, b, ha, hb, rfl⟩ := key r hr
    rcases List.mem_append.mp hx with h | h
    · exact rA a ha x h
    · exact rB b hb x h
  · obtain ⟨a, b, ea, eb, la, lb2, e⟩ := at_ i hi
    refine ⟨fun j hj => ?_, fun j hj => ?_⟩
    · rw [ent_at e, ent_at ea]
      exact fn_left (by omega)
    · rw [ent_at e, ent_at eb, ← la]
      exact fn_right
theorem passed_iff {M : Int} (hM : 2 ≤ M) {n w : Nat} {X G C : Mat} (sb : Shp n (w + w) C) (eb : ∀ i, i < n → (∀ j, j < w → ent C i j = ent X i j) ∧ ∀ j, j < w → ent C i (w + j) = ent G i j) :
    (∃ r : Row, r.length = w + w ∧ RRed M r ∧ (∃ x ∈ r, x ≠ 0) ∧ applyM M C r = List.replicate n 0) ↔ ¬ PairSeen M n w (ent G) (ent X) := by
  have sum : ∀ (c : Vec) i, i < n → (sumN (w + w) fun k => ent C i k * c k) = (sumN w fun j => ent X i j * c j) + sumN w fun j => ent G i j * c (w + j) := fun c i hi => by
    rw [sumN_two]
    congr 1
    · exact sumN_congr fun j hj => by rw [(eb i hi).1 j hj]
    · exact sumN_congr fun j hj => by rw [(eb i hi).2 j hj]
  constructor
  · rintro ⟨r, lr, rr, ⟨x, hx, h0⟩, ha⟩ hp
    have ha := (applyM_zero hM sb lr).mp ha
    obtain ⟨p1, p2⟩ := hp (fn r) (fun j => fn r (w + j)) fun i hi => by rw [← sum _ i hi]; exact ha i hi
    obtain ⟨t, ht⟩ := List.mem_iff_getElem?.mp hx
    have htl : t < w + w := by rw [← lr]; exact (List.getElem?_eq_some_iff.mp ht).1
    have hz : Eqm M (fn r t) 0 := by
      rcases Nat.lt_or_ge t w with c | c
      · exact p1 t c
      · have := p2 (t - w) (by omega)
        rwa [show w + (t - w) = t by omega] at this
    rw [fn_at ht] at hz
    exact h0 (hz.red (rr x hx) ⟨Int.le_refl _, by omega⟩)
  · intro hn
    refine Classical.byContradiction fun hx => hn fun x y h => ?_
    have key : ∀ t, t < w + w → Eqm M ((fun k => if k < w then x k else y (k - w)) t) 0 := fun t ht => by
      obtain ⟨l1, l2, l3⟩ := rowMod_ok (M := M) (by omega) (w + w) fun k => if k < w then x k else y (k - w)
      refine Classical.byContradiction fun hne => hx ⟨_, l1, l2, ⟨fn (rowMod M (w + w) fun k => if k < w then x k else y (k - w)) t, List.mem_of_getElem? (at_fn (by omega)), fun z => hne ?_⟩, (applyM_zero hM sb l1).mpr fun i hi => ?_⟩
      · rw [l3 t ht] at z
        exact (Eqm.mod M _).symm.trans (.eq z)
      · refine (Eqm.sum fun k hk => (Eqm.refl M (ent C i k)).mul ((Eqm.eq (l3 k hk)).trans (Eqm.mod M _))).trans ?_
        rw [sum _ i hi]
        refine Eqm.trans (.eq ?_) (h i hi)
        congr 1
        · exact sumN_congr fun j hj => by rw [if_pos hj]
        · exact sumN_congr fun j hj => by rw [if_neg (by omega), show w + j - w = j by omega]
    refine ⟨fun j hj => ?_, fun j hj => ?_⟩
    · have := key j (by omega)
      simpa [hj] using this
    · have := key (w + j) (by omega)
      simpa [show ¬ (w + j < w) by omega] using this
theorem own_same {H : Hp} {x dx C : Addr} (nx : H x = none) (nd : H dx = none) : Same H (upd (upd H dx (.own x)) x (.ins C dx [])) := new_same nx nd
theorem pen_upd {H : Hp} {p c q : Addr} {ns : List Int} {n : Nat} {o : HO} {kvs : List (Key × V)} (P : Pen H p c ns n) (h : H q = some (.dK kvs)) (qp : q ≠ p) : Pen (upd H q o) p c ns n := by
  obtain ⟨i, l, a, b⟩ := P
  exact ⟨i, l, ⟨by rw [upd_ne (Ne.symm qp)]; exact a.pen, by rw [upd_ne (ne_of a.cells h (by intro z; cases z))]; exact a.cells, a.i0, a.l0, a.i1⟩, b⟩
def WD (K : PySem.W.Frag) (M : Int) (n : Nat) (q aM aC : Addr) : Nat → Hp → Prop
  | 0, H => H q = some (.dK (w3 M aM aC))
  | 1, H => ∃ (aS : Addr) (st : Row), H q = some (.dK (w4 M aM aC aS)) ∧ RowAt K H aS st ∧ st.length = n ∧ RRed M st
  | _ + 2, H => ∃ (aS aE : Addr) (st en : Row), H q = some (.dK (w5 M aM aC aS aE)) ∧ RowAt K H aS st ∧ RowAt K H aE en ∧ st.length = n ∧ en.length = n ∧ RRed M st ∧ RRed M en
def spWorld (K : PySem.W.Frag) : Sp := fun vs H Q _ => ∃ (p c : Addr) (ns : List Int) (m n w : Nat) (most : Int), vs = [.ref p, .int most, .int (n : Int), .int (w : Int)] ∧ Pen H p c ns m ∧ m < 70000 ∧ 2 ≤ most ∧ most ≤ 1000 ∧ 1 ≤ n ∧ n ≤ 8 ∧ 1 ≤ w ∧ w ≤ 8 ∧
  ∀ q H' D, But p H H' → H q = none → Pen H' p c ns (m + 1200) → WorldAt K H' q D → GOk D → D.n = n → D.w = w → D.M ≤ most → Inv2 D.M D.n (ent D.A) → Q (.ref q) H'
def spGuardOf (K : PySem.W.Frag) (C : Addr) : Sp := fun vs H Q _ => ∃ (q : Addr) (D : GD), vs = [.ref q] ∧ WorldAt K H q D ∧ GOk D ∧ ∀ g H', Same H H' → GuardAt K C H' g D → Q (.ref g) H'
def spPassed (K : PySem.W.Frag) : Sp := fun vs H Q _ => ∃ (M : Int) (a : Addr) (B : Mat) (h w : Nat), vs = [.int M, .ref a] ∧ 2 ≤ M ∧ M ≤ 12 ∧ MatAt K H a B ∧ Shp h w B ∧ MRed M B ∧ 1 ≤ h ∧ h ≤ 8 ∧ w ≤ 4 ∧
  ∀ (b : Bool) (H' : Hp), Same H H' → (b = true ↔ ∃ r : Row, r.length = w ∧ RRed M r ∧ (∃ x ∈ r, x ≠ 0) ∧ applyM M B r = List.replicate h 0) → Q (.bl b) H'
def spLFirst (K : PySem.W.Frag) : Sp := fun vs H Q _ => ∃ (q : Addr) (D : GD) (most : Nat), vs = [.ref q, .int (most : Int)] ∧ WorldAt K H q D ∧ GOk D ∧ D.M ≤ 12 ∧ D.n ≤ 8 ∧ D.w ≤ 2 ∧ most ≤ 1000 ∧ ∀ v H', Same H H' → FirstP D most v → Q v H'
theorem allR_head {M : Int} (hM : 1 ≤ M) : ∀ n, ∃ L, allR M n = List.replicate n 0 :: L
  | 0 => ⟨[], rfl⟩
  | n + 1 => by
    obtain ⟨L, e⟩ := allR_head hM n
    obtain ⟨k, hk⟩ : ∃ k, M.toNat = k + 1 := ⟨M.toNat - 1, by omega⟩
    unfold allR
    rw [e, List.flatMap_cons]
    unfold exts
    rw [hk, List.range_succ_eq_map, List.map_cons]
    rw [List.cons_append]
    exact ⟨_, by rw [List.replicate_succ']; rfl⟩
theorem allR_tail {M : Int} (hM : 1 ≤ M) {n : Nat} {r : Row} : r ∈ (allR M n).drop 1 ↔ r.length = n ∧ RRed M r ∧ ∃ x ∈ r, x ≠ 0 := by
  obtain ⟨L, e⟩ := allR_head hM n
  have nd := allR_nodup (M := M) n
  rw [e] at nd
  have h1 : r ∈ allR M n ↔ r = List.replicate n 0 ∨ r ∈ L := by rw [e, List.mem_cons]
  rw [e]
  show r ∈ L ↔ _
  rw [allR_mem] at h1
  have hz : r.length = n → (r = List.replicate n 0 ↔ ¬ ∃ x ∈ r, x ≠ 0) := fun hl => by
    rw [List.eq_replicate_iff]
    exact ⟨fun z ⟨x, hx, h0⟩ => h0 (z.2 x hx), fun z => ⟨hl, fun x hx => Classical.byContradiction fun h0 => z ⟨x, hx, h0⟩⟩⟩
  constructor
  · intro h
    obtain ⟨a, b⟩ := h1.mpr (.inr h)
    refine ⟨a, b, Classical.byContradiction fun z => ?_⟩
    rw [(hz a).mpr z] at h
    exact (List.nodup_cons.mp nd).1 h
  · rintro ⟨a, b, c⟩
    rcases h1.mp ⟨a, b⟩ with h | h
    · exact absurd c ((hz a).mp h)
    · exact h
section
variable {P : Program} {w0 : World} {K : PySem.W.Frag} {mg : Str → Option Value} {base : Heap} {C fI fT fB fQ : Addr}
theorem ok_lbeside {f : Addr} {fd : FuncData} (F : Fun K "_law_beside" "_law_beside" s_law_beside f fd) (T : TxtG mg) : FnOk P w0 K mg base CX0 1 f fd ["_law_one", "_law_other"] (spBeside K) := by
  refine F.ok sc_law_beside (fun vs H Q E h => ?_) (fun cdv A outer s H vs Q E hr h => ?_)
  · obtain ⟨a, b, A, B, rfl, _⟩ := h
    rfl
  · obtain ⟨a, b, Am, Bm, rfl, ⟨va, hA, rA⟩, ⟨vb, hB, rB⟩, hl, hn, wa, wb, k⟩ := h
    refine ⟨_, (pss_one (ps_ret (pe_callTy (call_tupleK (K := K) rfl) rfl T.f_tuple (by decide +kernel) (pa_cons (pe_lc (own := [("_law_row", 2), ("_law_more", 3)]) (g := gTup K 2 (gCons (gName 2) (gCons (gName 3) gNil))) rfl sc_law_beside.nd (pi_zip2K (K := K) rfl true true rfl T.f_zip (pa_cons (pv 0) (pa_cons (pv 1) pa_nil))) (blkOk_by (N := ["_law_one", "_law_other", "_law_row", "_law_more"]) (sc := defScope s_law_beside) (by decide +kernel)) (fun _ _ _ _ _ => (pg_tupK rfl rfl (pgs_cons (pg_name (i := 2) sc_law_beside.nd rfl (Or.inl rfl)) (pgs_cons (pg_name (i := 3) sc_law_beside.nd rfl (Or.inl rfl)) pgs_nil)))) (fun _ _ _ _ _ => pts_nil) (fun _ _ _ _ _ => (pe_op (op_catAK (K := K) rfl) (pv 2) (pv 3)))) pa_nil)))), ?_⟩
    have la := rA.length
    have lb := rB.length
    refine ⟨_, rfl, _, rfl, a, b, _, _, rfl, hA, hB, fun D hD => lc_rowsT (K := K) (ZM.walk_two (t := true) (u := true) (n := Am.length) (by rw [la, lb, ← hl]; simp)) hD (by omega) (besideM Am Bm) (by simp [besideM, hl]) (fun H' e => ⟨SqT.same hA e, SqT.same hB e⟩) ?_ (fun acc H6 e6 s6 hR6 => tup_read e6 hR6 s6 k)⟩
    rintro i r v H6 H6' Fn Nn hi hr3 fin s6 ⟨T2, x, y, rfl, hT2, rfl, hx, hy⟩
    obtain ⟨pa, ra, rfl, ga, ha⟩ := rows_at rA hx
    obtain ⟨pb, rb, rfl, gb, hb⟩ := rows_at rB hy
    have er : r = ra ++ rb := by
      unfold besideM at hr3
      rw [List.getElem?_zipWith, ga, gb] at hr3
      cases hr3
      rfl
    subst er
    have sT := same_upd (o := .tup [.ref pa, .ref pb]) hT2
    refine ⟨T2, _, rfl, SqT.of upd_same, rfl, _, _, rfl, _, _, rfl, rfl, rfl, yesT ?_⟩
    have ea : (ra ++ rb).map V.int = ra.map V.int ++ rb.map V.int := List.map_append
    have wla := wa _ (List.mem_of_getElem? ga)
    have wlb := wb _ (List.mem_of_getElem? gb)
    refine ⟨_, rfl, _, rfl, pa, pb, _, _, rfl, rfl, SqT.same (SqT.same ha s6) sT, SqT.same (SqT.same hb s6) sT, ?_⟩
    have s7 := same_trans s6 sT
    rw [← ea] at *
    have hb7 := SqT.same hb s7
    have ha7 := SqT.same ha s7
    refine ⟨Nat.le_trans (show _ ≤ 2000 by simp; omega) (by decide), fun e => fin _ _ sT ?_, fun _ e => fin _ _ sT ?_, fun _ _ q nq => fin q _ (same_trans sT (same_upd nq)) (SqT.of upd_same)⟩
    · have : ra = [] := List.map_eq_nil_iff.mp e
      rw [this]
      exact hb7
    · have : rb = [] := List.map_eq_nil_iff.mp e
      rw [this, List.append_nil]
      exact ha7
theorem ok_lguard {f : Addr} {fd fdI : FuncData} (F : Fun K "_law_guard_of" "_law_guard_of" s_law_guard_of f fd) (TG : TxtGd K mg C fI fT fB fQ)
    (G_ginit : FnOk P w0 K mg base CX0 6 fI fdI ["self", "modulus", "matrix", "columns", "start", "end"] (spGInit K C)) (b_ginit : Binds K fdI ["self", "modulus", "matrix", "columns", "start", "end"] []) :
    FnOk P w0 K mg base CX0 8 f fd ["_law_world"] (spGuardOf K C) := by
  refine F.ok sc_law_guard_of (fun vs H Q E h => ?_) (fun cdv A outer s H vs Q E hr h => ?_)
  · obtain ⟨q, D, rfl, _⟩ := h
    rfl
  · obtain ⟨q, D, rfl, hW, ok, k⟩ := h
    have hu := hu_of hr
    refine ⟨_, (pss_one (ps_ret (pe_make TG.mkr G_ginit (hr.mono (by decide)) rfl TG.mgC b_ginit .nil pass0 (pa_cons (pe_dget hu (pv 0) pe_str (fun _ _ => rfl)) (pa_cons (pe_dget hu (pv 0) pe_str (fun _ _ => rfl)) (pa_cons (pe_dget hu (pv 0) pe_str (fun _ _ => rfl)) (pa_cons (pe_dget hu (pv 0) pe_str (fun _ _ => rfl)) (pa_cons (pe_dget hu (pv 0) pe_str (fun _ _ => rfl)) pa_nil)))))))), ?_⟩
    obtain ⟨aM, aC, aS, aE, hq, hA, hC, hS, hE⟩ := id hW
    have gm := get_m ▸ DGet.k (k := .inr "modulus") hq
    have gA := get_A ▸ DGet.k (k := .inr "matrix") hq
    have gG := get_G ▸ DGet.k (k := .inr "columns") hq
    have gs := get_s ▸ DGet.k (k := .inr "start") hq
    have ge := get_e ▸ DGet.k (k := .inr "end") hq
    refine ⟨_, rfl, q, _, rfl, gm, _, rfl, q, _, rfl, gA, _, rfl, q, _, rfl, gG, _, rfl, q, _, rfl, gs, _, rfl, q, _, rfl, ge, fun x dx nx nd ne => ?_⟩
    have sI := own_same (C := C) nx nd
    have rG : ∀ {a A}, MatAt K H a A → RowsG true true K (upd (upd H dx (HO.own x)) x (HO.ins C dx [])) a A := fun {a A} h => by
      obtain ⟨vs, h1, h2⟩ := h.same sI
      exact ⟨vs, h1, rowsS_of h2⟩
    refine ⟨true, true, true, true, true, true, x, dx, aM, aC, aS, aE, D, rfl, upd_same, ok, rG hA, rG hC, SqT.same hS sI, SqT.same hE sI, fun H' b' hg => ⟨rfl, k x H' ?_ hg⟩⟩
    exact init_same nx nd b'
theorem ok_world {f f0 f1 f2 : Addr} {fd fd0 fd1 fd2 : FuncData} (F : Fun K "_law_world_of" "_law_world_of" s_law_world_of f fd) (T : TxtL mg)
    (G__law_draw : FnOk P w0 K mg base CX0 1 f0 fd0 ["_law_pen", "_law_many"] spDraw) (g__law_draw : mg "_law_draw" = some (.ref f0)) (kp__law_draw : PySem.W.keepIn K (.ref f0) = true) (b__law_draw : Binds K fd0 ["_law_pen", "_law_many"] [])
    (G__law_undone_of : FnOk P w0 K mg base CX0 2 f1 fd1 ["_law_pen", "_law_modulus", "_law_size"] (spUndOf K)) (g__law_undone_of : mg "_law_undone_of" = some (.ref f1)) (kp__law_undone_of : PySem.W.keepIn K (.ref f1) = true) (b__law_undone_of : Binds K fd1 ["_law_pen", "_law_modulus", "_law_size"] [])
    (G__law_matrix_of : FnOk P w0 K mg base CX0 2 f2 fd2 ["_law_pen", "_law_modulus", "_law_height", "_law_width"] (spMat K)) (g__law_matrix_of : mg "_law_matrix_of" = some (.ref f2)) (kp__law_matrix_of : PySem.W.keepIn K (.ref f2) = true) (b__law_matrix_of : Binds K fd2 ["_law_pen", "_law_modulus", "_law_height", "_law_width"] []) :
    FnOk P w0 K mg base CX0 3 f fd ["_law_pen", "_law_most", "_law_size", "_law_width"] (spWorld K) := by
  refine F.ok sc_law_world_of (fun vs H Q E h => ?_) (fun cdv A outer s H vs Q E hr h => ?_)
  · obtain ⟨p, c, ns, m, n, w, most, rfl, _⟩ := h
    rfl
  · obtain ⟨p, c, ns, m, n, w, most, rfl, P0, hm, m2, m3, n1, n8, w1, w8, k⟩ := h
    have hu := hu_of hr
    refine ⟨_, (pss_cons (ps_set (i := 4) sc_law_world_of.nd rfl (Or.inr rfl) (pe_op op_add pe_int (pe_call G__law_draw (hr.mono (by decide)) rfl g__law_draw kp__law_draw b__law_draw .nil pass0 (pa_cons (pv 0) (pa_cons (pe_op op_sub (pv 1) pe_int) pa_nil)))))
        (pss_cons (ps_set (i := 5) sc_law_world_of.nd rfl (Or.inl rfl) (pe_disp (pps_cons pe_str (pv 4) (pps_cons pe_str (pe_call G__law_undone_of (hr.mono (by decide)) rfl g__law_undone_of kp__law_undone_of b__law_undone_of .nil pass0 (pa_cons (pv 0) (pa_cons (pv 4) (pa_cons (pv 2) pa_nil)))) pps_nil)) (by rfl) (by rfl) (fun z => by cases z) (by decide)))
        (pss_cons (ps_dput hu (pv 5) pe_str (pe_call G__law_matrix_of (hr.mono (by decide)) rfl g__law_matrix_of kp__law_matrix_of b__law_matrix_of .nil pass0 (pa_cons (pv 0) (pa_cons (pv 4) (pa_cons (pv 2) (pa_cons (pv 3) pa_nil))))) rfl)
        (pss_cons (ps_for PassesOwn.never rfl (pi_list (pe_lst (pa_cons pe_str (pa_cons pe_str pa_nil)))) (pg_name (i := 6) sc_law_world_of.nd rfl (Or.inl rfl)) (pss_one (ps_dput hu (pv 5) (pv 6) (pe_callTy (call_tupleK (K := K) rfl) rfl T.f_tuple (by decide +kernel) (pa_cons (pe_lc (own := [("_law_k", 7)]) (g := gName 7) rfl sc_law_world_of.nd (pi_range1 rfl T.f_range (pa_cons (pv 2) pa_nil)) (blkOk_by (N := ["_law_pen", "_law_most", "_law_size", "_law_width", "_law_modulus", "_law_world", "_law_name", "_law_k"]) (sc := defScope s_law_world_of) (by decide +kernel)) (fun _ _ _ _ _ => (pg_name (i := 7) sc_law_world_of.nd rfl (Or.inl rfl))) (fun _ _ _ _ _ => pts_nil) (fun _ _ _ _ _ => (pe_call G__law_draw (hr.mono (by decide)) rfl g__law_draw kp__law_draw b__law_draw .nil pass0 (pa_cons (pv 0) (pa_cons (pv 4) pa_nil))))) pa_nil)) rfl)))
        (pss_one (ps_ret (pv 5))))))), ?_⟩
    refine ⟨_, rfl, _, rfl, _, _, rfl, rfl, ?_⟩
    dsimp only [tNil]
    refine draw_read P0 (by omega) (by omega) (by omega) fun d H1 d0 d1 P1 b1 => ⟨_, _, rfl, rfl, ?_⟩
    obtain ⟨M, hMd⟩ : ∃ M, M = 2 + d := ⟨_, rfl⟩
    have eM : (fun i j => V.int (i + j)) 2 d = V.int M := congrArg V.int hMd.symm
    rw [eM]
    have hM2 : 2 ≤ M := by omega
    have hMm : M ≤ most := by omega
    have hM64 : M < 2 ^ 64 := by omega
    clear eM hMd d0 d1
    refine fun q nq => ?_
    have sq := same_upd (o := .dK []) nq
    have hq0 : (upd H1 q (.dK [])) q = some (.dK []) := upd_same
    have P1' := P1.same sq
    have qp : q ≠ p := pen_ne P1' hq0 (.inl rfl)
    have hHq : H q = none := by
      cases z : H q with
      | none => rfl
      | some o => rw [b1 q o qp z] at nq; cases nq
    have b1' : But p H (upd H1 q (.dK [])) := b1.same sq
    revert hq0 P1' b1'
    generalize upd H1 q (.dK []) = H2
    intro hq0 P2 b2
    clear sq nq P1 b1
    refine ⟨_, rfl, _, rfl, _, rfl, _, rfl, p, c, ns, _, n, M, rfl, P2, by omega, hM2, hM64, n1, by omega, fun aM H3 Am b3 P3 hA sA rA IA => ?_⟩
    have hq3 := b3 _ _ qp hq0
    refine ⟨hq3, [(.inr "modulus", .int M), (.inr "matrix", .ref aM)], rfl, by show 2 ≤ 15; decide, ?_⟩
    rw [merge_w2]
    have hA4 : MatAt K (upd H3 q (.dK [(.inr "modulus", .int M), (.inr "matrix", .ref aM)])) aM Am := hA.but' (fun b o nb e => by rw [upd_ne nb]; exact e) (.dk hq3)
    have P4 : Pen (upd H3 q (.dK [(.inr "modulus", .int M), (.inr "matrix", .ref aM)])) p c ns (m + 101) := (pen_upd P3 hq3 qp).le (by omega)
    have hq4 : (upd H3 q (.dK [(.inr "modulus", .int M), (.inr "matrix", .ref aM)])) q = some (.dK [(.inr "modulus", .int M), (.inr "matrix", .ref aM)]) := upd_same
    have b4 : But p H (upd H3 q (.dK [(.inr "modulus", .int M), (.inr "matrix", .ref aM)])) := fun b o nb e => by
      rw [upd_ne (fun z => by rw [z, hHq] at e; cases e)]
      exact b3 _ _ nb (b2 _ _ nb e)
    revert hA4 P4 hq4 b4
    generalize upd H3 q (.dK [(.inr "modulus", .int M), (.inr "matrix", .ref aM)]) = H4
    intro hA4 P4 hq4 b4
    clear hq3 hA P3 b3 hq0 P2 b2
    refine ⟨_, rfl, _, rfl, _, rfl, _, rfl, p, c, ns, _, n, w, M, rfl, P4, by omega, by omega, hM64, by omega, by omega, fun aC H5 Gm b5 P5 hG sG rG _ => ?_⟩
    have hq5 := b5 _ _ qp hq4
    refine ⟨_, rfl, q, _, rfl, DPut.k (k := .inr "columns") hq5 (by show 2 < sizeLine; decide), ?_⟩
    rw [put_w3]
    have nb6 : But q H5 (upd H5 q (.dK (w3 M aM aC))) := fun b o nb e => by rw [upd_ne nb]; exact e
    have hA6 := (hA4.pen b5 P4).but' nb6 (.dk hq5)
    have hG6 := hG.but' nb6 (.dk hq5)
    have P6 : Pen (upd H5 q (.dK (w3 M aM aC))) p c ns (m + 1101) := (pen_upd P5 hq5 qp).le (by omega)
    have hq6 : (upd H5 q (.dK (w3 M aM aC))) q = some (.dK (w3 M aM aC)) := upd_same
    have b6 : But p H (upd H5 q (.dK (w3 M aM aC))) := fun b o nb e => by
      rw [upd_ne (fun z => by rw [z, hHq] at e; cases e)]
      exact b5 _ _ nb (b4 _ _ nb e)
    revert hA6 hG6 P6 hq6 b6
    clear nb6
    generalize upd H5 q (.dK (w3 M aM aC)) = H6
    intro hA6 hG6 P6 hq6 b6
    clear hq5 hG P5 b5 hq4 P4 b4 hA4
    refine ⟨by show 2 ≤ sizeLine; decide, fun L nL => ⟨L, rfl, ⟨_, SqL.of upd_same⟩, ?_⟩⟩
    have sL := same_upd (o := .lst [V.str "start", V.str "end"]) nL
    have gL : (upd H6 L (.lst [V.str "start", V.str "end"])) L = some (.lst [V.str "start", V.str "end"]) := upd_same
    have hA7 := hA6.same sL
    have hG7 := hG6.same sL
    have P7 := P6.same sL
    have hq7 := sL _ _ hq6
    have b7 := b6.same sL
    revert gL hA7 hG7 P7 hq7 b7
    generalize upd H6 L (.lst [V.str "start", V.str "end"]) = H7
    intro gL hA7 hG7 P7 hq7 b7
    clear sL nL hA6 hG6 P6 hq6 b6
    have Lp : L ≠ p := fun z => by
      obtain ⟨i, l, a, _⟩ := P7
      have := a.pen
      rw [← z, gL] at this
      cases this
    have Lq : L ≠ q := fun z => by rw [z, hq7] at gL; cases gL
    refine for_it (walk_list (xs := [V.str "start", V.str "end"])) (fun i σ H' => ∃ (x6 : Option V), σ = [some (.ref p), some (.int most), some (.int (n : Int)), some (.int (w : Int)), some (.int M), some (.ref q), x6, none] ∧ But p H H' ∧ Pen H' p c ns (m + 1101 + 8 * i) ∧ H' L = some (.lst [V.str "start", V.str "end"]) ∧ MatAt K H' aM Am ∧ MatAt K H' aC Gm ∧ WD K M n q aM aC i H') ⟨none, rfl, b7, P7, gL, hA7, hG7, hq7⟩ (fun i σ H' _ h => ?_) ?_ ?_
    · obtain ⟨_, _, _, _, g, _⟩ := h
      exact SqL.of g
    · rintro i v σ H8 H8' hi ⟨x6, rfl, b8, P8, gL8, hA8, hG8, hW⟩ ⟨rfl, hv⟩
      have hi2 : i < 2 := hi
      refine ⟨_, rfl, (n : Int), rfl, by omega, by omega, fun D nD => lc_pen (walk_range (lo := 0) (n := n)) 1 P8 nD (by omega) (fun j v _ => ∃ x : Int, v = .int x ∧ 0 ≤ x ∧ x < M) (fun j v H H' h _ => h) (fun _ _ => trivial) ?_ ?_⟩
      · rintro j y H9 H9' Fn Nn fin hj b9 P9 hacc ⟨rfl, rfl⟩
        refine ⟨rfl, yesT ⟨_, rfl, _, rfl, ?_⟩⟩
        dsimp only [tNil]
        refine draw_read P9 (by omega) (by omega) hM64 fun e H10 e0 e1 P10 b10 => ?_
        exact fin _ _ b10 (P10.le (by omega)) ⟨e, rfl, e0, e1⟩
      · intro acc H9 a1 a2 b9 P9 hR
        obtain ⟨r, rfl, lr, hr⟩ := ints_of (R := fun _ x => 0 ≤ x ∧ x < M) a1 hR
        have rr : RRed M r := fun x hx => by
          obtain ⟨j, hj⟩ := List.mem_iff_getElem?.mp hx
          exact hr j x hj
        refine ⟨D, _, rfl, .inl ⟨SqL.of a2, fun u nu => ?_⟩⟩
        have su := same_upd (o := .tup (r.map V.int)) nu
        have hu9 : RowAt K (upd H9 u (.tup (r.map V.int))) u r := SqT.of upd_same
        have b10 : But p H8' (upd H9 u (.tup (r.map V.int))) := b9.same su
        have P10 := P9.same su
        revert hu9 b10 P10
        generalize upd H9 u (.tup (r.map V.int)) = H10
        intro hu10 b10 P10
        clear su nu b9 P9 a2
        have gL10 := b10 _ _ Lp gL8
        have hA10 := hA8.pen b10 P8
        have hG10 := hG8.pen b10 P8
        have bb10 : But p H H10 := fun b o nb e => b10 _ _ nb (b8 _ _ nb e)
        have fin : ∀ kvs kvs' : List (Key × V), H10 q = some (.dK kvs) → ∀ (Z : Hp → Prop), (RowAt K (upd H10 q (.dK kvs')) u r → (∀ b x, RowAt K H10 b x → RowAt K (upd H10 q (.dK kvs')) b x) → WD K M n q aM aC (i + 1) (upd H10 q (.dK kvs'))) →
            ∃ (x6 : Option V), ([some (.ref p), some (.int most), some (.int (n : Int)), some (.int (w : Int)), some (.int M), some (.ref q), some v, none] : L2.St) = [some (.ref p), some (.int most), some (.int (n : Int)), some (.int (w : Int)), some (.int M), some (.ref q), x6, none] ∧ But p H (upd H10 q (.dK kvs')) ∧ Pen (upd H10 q (.dK kvs')) p c ns (m + 1101 + 8 * (i + 1)) ∧ (upd H10 q (.dK kvs')) L = some (.lst [V.str "start", V.str "end"]) ∧ MatAt K (upd H10 q (.dK kvs')) aM Am ∧ MatAt K (upd H10 q (.dK kvs')) aC Gm ∧ WD K M n q aM aC (i + 1) (upd H10 q (.dK kvs')) := fun kvs kvs' hq _ hw => by
          have nb : But q H10 (upd H10 q (.dK kvs')) := fun b o nb e => by rw [upd_ne nb]; exact e
          refine ⟨_, rfl, fun b o nb2 e => ?_, (pen_upd P10 hq qp).le (by omega), by rw [upd_ne Lq]; exact gL10, hA10.but' nb (.dk hq), hG10.but' nb (.dk hq), hw (SqT.but hu10 nb (.dk hq)) fun b x h => SqT.but h nb (.dk hq)⟩
          rw [upd_ne (fun z => by rw [z, hHq] at e; cases e)]
          exact bb10 _ _ nb2 e
        obtain rfl | rfl : i = 0 ∨ i = 1 := by omega
        · cases hv
          have hq10 := b10 _ _ qp hW
          refine ⟨_, rfl, _, rfl, q, _, rfl, DPut.k (k := .inr "start") hq10 (by show 3 < sizeLine; decide), ?_⟩
          rw [put_w4]
          exact fin _ _ hq10 (fun _ => True) fun hr _ => ⟨u, r, upd_same, hr, lr, rr⟩
        · cases hv
          obtain ⟨aS, st, hq, hS, ls, rs⟩ := hW
          have hq10 := b10 _ _ qp hq
          refine ⟨_, rfl, _, rfl, q, _, rfl, DPut.k (k := .inr "end") hq10 (by show 4 < sizeLine; decide), ?_⟩
          rw [put_w5]
          exact fin _ _ hq10 (fun _ => True) fun hr hk => ⟨aS, u, st, r, upd_same, hk _ _ (SqT.pen hS b10 P8), hr, ls, lr, rs, rr⟩
    · rintro σ H8 ⟨x6, rfl, b8, P8, gL8, hA8, hG8, aS, aE, st, en, hq, hS, hE, ls, le, rs, re⟩
      obtain ⟨Ci, c1, c2⟩ := id IA
      exact ⟨_, rfl, k q H8 ⟨M, Am, Gm, st, en, n, w⟩ b8 hHq (P8.le (show m + 1101 + 8 * 2 ≤ m + 1200 by omega)) ⟨aM, aC, aS, aE, hq, hA8, hG8, hS, hE⟩ ⟨hM2, Int.le_trans hMm (by omega), n1, by show n ≤ 16; omega, w1, by show w ≤ 16; omega, sA, sG, ls, le, rA, rG, rs, re, ⟨Ci, c1⟩⟩ rfl rfl hMm IA⟩
theorem ok_lpassed {f f0 f1 : Addr} {fd fd0 fd1 : FuncData} (F : Fun K "_law_is_passed" "_law_is_passed" s_law_is_passed f fd) (T : TxtL mg) (T_any : mg "any" = none)
    (G__law_rows_all : FnOk P w0 K mg base CX0 1 f0 fd0 ["_law_modulus", "_law_width"] spRowsAll) (g__law_rows_all : mg "_law_rows_all" = some (.ref f0)) (kp__law_rows_all : PySem.W.keepIn K (.ref f0) = true) (b__law_rows_all : Binds K fd0 ["_law_modulus", "_law_width"] [])
    (G__law_applied : FnOk P w0 K mg base CX0 1 f1 fd1 ["_law_modulus", "_law_matrix", "_law_row"] (spApplied K)) (g__law_applied : mg "_law_applied" = some (.ref f1)) (kp__law_applied : PySem.W.keepIn K (.ref f1) = true) (b__law_applied : Binds K fd1 ["_law_modulus", "_law_matrix", "_law_row"] []) :
    FnOk P w0 K mg base CX0 3 f fd ["_law_modulus", "_law_matrix"] (spPassed K) := by
  refine F.ok sc_law_is_passed (fun vs H Q E h => ?_) (fun cdv A outer s H vs Q E hr h => ?_)
  · obtain ⟨M, a, B, h, w, rfl, _⟩ := h
    rfl
  · obtain ⟨M, a, B, h, w, rfl, hM, hM12, hB, sB, rB, h1, h8, w4, k⟩ := h
    refine ⟨_, (pss_cons (ps_set (i := 2) sc_law_is_passed.nd rfl (Or.inr rfl) (pe_op (op_repAK (K := K) rfl) (pe_tup (pa_cons pe_int pa_nil)) (pe_callB call_len_seq rfl T.f_len PySem.boot_len (pa_cons (pv 1) pa_nil))))
        (pss_one (ps_ret (pe_callB (cr_any rfl) rfl T_any (by decide +kernel) (pa_cons (pe_lc (own := [("_law_row", 3)]) (g := gName 3) rfl sc_law_is_passed.nd (pi_list (pe_slice sl_list (pe_call G__law_rows_all (hr.mono (by decide)) rfl g__law_rows_all kp__law_rows_all b__law_rows_all .nil pass0 (pa_cons (pv 0) (pa_cons (pe_callB call_len_seq rfl T.f_len PySem.boot_len (pa_cons (pe_ix ix_tup (pv 1) pe_int (fun _ _ => rfl)) pa_nil)) pa_nil))) (po_some pe_int) po_none)) (blkOk_by (N := ["_law_modulus", "_law_matrix", "_law_zero", "_law_row"]) (sc := defScope s_law_is_passed) (by decide +kernel)) (fun _ _ _ _ _ => (pg_name (i := 3) sc_law_is_passed.nd rfl (Or.inl rfl))) (fun _ _ _ _ _ => pts_nil) (fun _ _ _ _ _ => (pe_cmpR (op_eqDK (K := K) rfl hr.units) (pe_call G__law_applied (hr.mono (by decide)) rfl g__law_applied kp__law_applied b__law_applied .nil pass0 (pa_cons (pv 0) (pa_cons (pv 1) (pa_cons (pv 3) pa_nil)))) (pv 2) (nomark _)))) pa_nil))))), ?_⟩
    obtain ⟨vs, hvs, hRv⟩ := id hB
    have lvs : vs.length = h := hRv.length.trans sB.1
    obtain ⟨b0, r0, e0, er0, h0⟩ := hRv.at_ (i := 0) (List.getElem?_eq_getElem (by omega))
    have lr0 : r0.length = w := sB.2 _ (List.mem_of_getElem? er0)
    have a0 : vs[0]? = some (.ref b0) := by rw [List.getElem?_eq_getElem (by omega), e0]
    refine ⟨by show 1 ≤ sizeLine; decide, fun t nt => ⟨_, rfl, a, vs, rfl, .inr (SqT.same hvs (same_upd nt)), ?_⟩⟩
    have st := same_upd (o := .tup [V.int 0]) nt
    refine rep_read (k := (vs.length : Int)) upd_same (by omega) (by omega) fun z G1 s1 gz => ?_
    have s01 := same_trans st s1
    have hz : RowAt K G1 z (List.replicate h 0) := SqT.of (by rw [gz, Int.toNat_natCast, lvs, List.map_replicate])
    refine ⟨_, rfl, _, rfl, a, vs, 0, _, rfl, rfl, SqT.same hvs s01, atI_nat (j := 0) a0, b0, _, rfl, .inr (SqT.same h0 s01), M, w, by show [V.int M, V.int ((r0.map V.int).length : Int)] = _; rw [List.length_map, lr0], by omega, hM12, w4, fun l us H2 s2 nl gl hT => ?_⟩
    refine ⟨1, rfl, l, us, rfl, SqL.of gl, fun D2 nD2 => ?_⟩
    have ec : cutV us (some (1 : Int)) none = us.drop 1 := by
      unfold cutV
      rw [HT.sIx_none, show (1 : Int) = ((1 : Nat) : Int) from rfl, HT.sIx_nat]
      by_cases h : 1 ≤ us.length
      · rw [Nat.min_eq_left h, List.take_of_length_le (by simp)]
      · rw [Nat.min_eq_right (by omega), List.drop_eq_nil_of_le (Nat.le_refl _), List.drop_eq_nil_of_le (by omega)]
        simp
    rw [ec]
    have s03 := same_trans s01 (same_trans s2 (same_upd (o := .lst (us.drop 1)) nD2))
    have g3 : (upd H2 D2 (.lst (us.drop 1))) D2 = some (.lst (us.drop 1)) := upd_same
    have hT3 := hT.same (same_upd (o := .lst (us.drop 1)) nD2)
    have hz3 := SqT.same hz (same_trans s2 (same_upd (o := .lst (us.drop 1)) nD2))
    revert s03 g3 hT3 hz3
    generalize upd H2 D2 (.lst (us.drop 1)) = H3
    intro s03 g3 hT3 hz3
    have lus : us.length = (allR M w).length := hT.1
    have few := allR_few hM12 w4
    refine ⟨D2, rfl, ⟨_, SqL.of g3⟩, fun D3 nD3 => lc_rel (walk_list (xs := us.drop 1)) nD3 (by simp; omega) (fun i v _ => ∃ r, ((allR M w).drop 1)[i]? = some r ∧ v = .bl (decide (applyM M B r = List.replicate h 0))) (fun i v H H' h _ => h) (fun H' e => SqL.of (e _ _ g3)) ?_ ?_⟩
    · rintro i v H4 H4' Fn Nn fin hi s4 hacc ⟨rfl, hv⟩
      have hi2 : 1 + i < us.length := by
        have := (List.getElem?_eq_some_iff.mp hv).1
        rw [List.length_drop] at this
        omega
      rw [List.getElem?_drop] at hv
      have hr : (allR M w)[1 + i]? = some ((allR M w)[1 + i]'(by omega)) := List.getElem?_eq_getElem _
      generalize (allR M w)[1 + i]'(by omega) = r at hr
      obtain ⟨b, eb, hb⟩ := hT3.2 _ r hr
      rw [hv] at eb
      cases eb
      obtain ⟨lr, rr⟩ := allR_mem.mp (List.mem_of_getElem? hr)
      refine ⟨rfl, yesT ⟨_, rfl, _, rfl, _, rfl, M, a, b, B, r, rfl, by omega, (hB.same s03).same s4, SqT.of (s4 _ _ hb), fun t ht => rred_wd12 (rB t ht) hM12, rred_wd12 rr hM12, by rw [sB.1]; omega, by omega, fun t ht => by rw [sB.2 t ht, lr], fun p5 H5 s5 g5 => ⟨_, rfl, ?_⟩⟩⟩
      exact eqR_read (SqT.of g5) (SqT.same (SqT.same hz3 s4) s5) (fin _ _ s5 ⟨r, by rw [List.getElem?_drop, hr], rfl⟩)
    · intro acc H4 a1 a2 s4 hR4
      have ea : acc = (((allR M w).drop 1).map fun r => decide (applyM M B r = List.replicate h 0)).map V.bl := by
        rw [acc_map (as := (allR M w).drop 1) (f := fun r => V.bl (decide (applyM M B r = List.replicate h 0))) (by rw [a1]; simp [lus]) hR4, List.map_map]
        rfl
      rw [ea] at a2
      refine ⟨D3, _, rfl, SqL.of a2, k _ H4 (same_trans s03 s4) ?_⟩
      rw [List.any_eq_true]
      constructor
      · rintro ⟨b, hb, hbt⟩
        obtain ⟨r, hr, rfl⟩ := List.mem_map.mp hb
        obtain ⟨l1, l2, l3⟩ := (allR_tail (by omega)).mp hr
        exact ⟨r, l1, l2, l3, of_decide_eq_true hbt⟩
      · rintro ⟨r, l1, l2, l3, l4⟩
        exact ⟨_, List.mem_map.mpr ⟨r, (allR_tail (by omega)).mpr ⟨l1, l2, l3⟩, rfl⟩, decide_eq_true l4⟩
theorem ok_lfirst {f f0 f1 f2 : Addr} {fd fd0 fd1 fd2 : FuncData} (F : Fun K "_law_first" "_law_first" s_law_first f fd) (T : TxtL mg)
    (G__law_product : FnOk P w0 K mg base CX0 1 f0 fd0 ["_law_modulus", "_law_one", "_law_other"] (spProd K)) (g__law_product : mg "_law_product" = some (.ref f0)) (kp__law_product : PySem.W.keepIn K (.ref f0) = true) (b__law_product : Binds K fd0 ["_law_modulus", "_law_one", "_law_other"] [])
    (G__law_beside : FnOk P w0 K mg base CX0 1 f1 fd1 ["_law_one", "_law_other"] (spBeside K)) (g__law_beside : mg "_law_beside" = some (.ref f1)) (kp__law_beside : PySem.W.keepIn K (.ref f1) = true) (b__law_beside : Binds K fd1 ["_law_one", "_law_other"] [])
    (G__law_is_passed : FnOk P w0 K mg base CX0 3 f2 fd2 ["_law_modulus", "_law_matrix"] (spPassed K)) (g__law_is_passed : mg "_law_is_passed" = some (.ref f2)) (kp__law_is_passed : PySem.W.keepIn K (.ref f2) = true) (b__law_is_passed : Binds K fd2 ["_law_modulus", "_law_matrix"] []) :
    FnOk P w0 K mg base CX0 4 f fd ["_law_world", "_law_most"] (spLFirst K) := by
  refine F.ok sc_law_first (fun vs H Q E h => ?_) (fun cdv A outer s H vs Q E hr h => ?_)
  · obtain ⟨q, D, most, rfl, _⟩ := h
    rfl
  · obtain ⟨q, D, most, rfl, hW, ok, m12, n8, w2, hm, k⟩ := h
    have hu := hu_of hr
    refine ⟨_, (pss_cons (ps_set (i := 2) sc_law_first.nd rfl (Or.inl rfl) (pe_dget hu (pv 0) pe_str (fun _ _ => rfl)))
        (pss_cons (ps_for PassesOwn.never rfl (pi_range2 rfl T.f_range (pa_cons pe_int (pa_cons (pe_op op_add (pv 1) pe_int) pa_nil))) (pg_name (i := 3) sc_law_first.nd rfl (Or.inl rfl)) (pss_cons (ps_set (i := 2) sc_law_first.nd rfl (Or.inl rfl) (pe_call G__law_product (hr.mono (by decide)) rfl g__law_product kp__law_product b__law_product .nil pass0 (pa_cons (pe_dget hu (pv 0) pe_str (fun _ _ => rfl)) (pa_cons (pe_dget hu (pv 0) pe_str (fun _ _ => rfl)) (pa_cons (pv 2) pa_nil)))))
        (pss_one (ps_if (pt_val (pe_call G__law_is_passed (hr.mono (by decide)) rfl g__law_is_passed kp__law_is_passed b__law_is_passed .nil pass0 (pa_cons (pe_dget hu (pv 0) pe_str (fun _ _ => rfl)) (pa_cons (pe_call G__law_beside (hr.mono (by decide)) rfl g__law_beside kp__law_beside b__law_beside .nil pass0 (pa_cons (pv 2) (pa_cons (pe_dget hu (pv 0) pe_str (fun _ _ => rfl)) pa_nil))) pa_nil)))) (pss_one (ps_ret (pv 3))) pss_nil))))
        (pss_one (ps_ret pe_non)))), ?_⟩
    obtain ⟨aM, aC, aS, aE, hq, hA, hC, hS, hE⟩ := id hW
    have gm := get_m ▸ DGet.k (k := .inr "modulus") hq
    have gA := get_A ▸ DGet.k (k := .inr "matrix") hq
    have gG := get_G ▸ DGet.k (k := .inr "columns") hq
    refine ⟨_, rfl, q, _, rfl, gG, ?_⟩
    have hM2 := ok.m2
    have hn1 := ok.n1
    have hw1 := ok.w1
    have hM64 : D.M < 2 ^ 64 := by omega
    refine ⟨_, rfl, _, _, rfl, rfl, 1, (most : Int) + 1, rfl, ⟨by omega, by omega, by omega, by omega⟩, ?_⟩
    rw [show ((most : Int) + 1 - 1).toNat = most by omega]
    refine for_it (walk_range (lo := 1) (n := most)) (fun i σ H' => ∃ (qa : Addr) (x3 : Option V), σ = [some (.ref q), some (.int (most : Int)), some (.ref qa), x3] ∧ Same H H' ∧ MatAt K H' qa (aheadM D i) ∧ ∀ t, 1 ≤ t → t ≤ i → PSeen D t) ⟨aC, none, rfl, fun _ _ e => e, hC, fun t h1 h2 => absurd h2 (by omega)⟩ (fun _ _ _ _ _ => trivial) ?_ ?_
    · rintro i v σ H1 H1' hi ⟨qa, x3, rfl, s1, hqa, hseen⟩ ⟨rfl, rfl⟩
      obtain ⟨sX, rX⟩ := ahead_shp ok i
      obtain ⟨sX1, rX1⟩ := ahead_shp ok (i + 1)
      have wd : ∀ {X : Mat}, MRed D.M X → MWd X := fun h r hr => rred_wd12 (h r hr) m12
      have gt : ∀ {H' : Hp} {y : V} {o : Option V}, DGet H q y o → Same H H' → DGet H' q y o := fun h e => by
        rcases h with ⟨kvs, k, h1, h2, h3⟩ | ⟨kvs, k, b, h1, h2, h3, h4⟩
        · refine .inl ⟨kvs, k, ?_, h2, h3⟩
          rcases h1 with h1 | ⟨o, h1⟩
          · exact .inl (e _ _ h1)
          · exact .inr ⟨o, e _ _ h1⟩
        · refine .inr ⟨kvs, k, b, ?_, h2, e _ _ h3, h4⟩
          rcases h1 with h1 | ⟨o, h1⟩
          · exact .inl (e _ _ h1)
          · exact .inr ⟨o, e _ _ h1⟩
      refine ⟨_, rfl, q, _, rfl, gt gm s1, _, rfl, q, _, rfl, gt gA s1, _, rfl, D.M, aM, qa, D.A, aheadM D i, D.w, rfl, by omega, hA.same s1, hqa, wd ok.rA, wd rX, by rw [sX.1]; exact hn1, by rw [sX.1]; omega, hw1, by omega, by rw [ok.sA.1]; omega, sX.2, fun r hr => by rw [ok.sA.2 r hr, sX.1], fun q2 H2 s2 h2 => ?_⟩
      replace h2 : MatAt K H2 q2 (aheadM D (i + 1)) := h2
      have s02 := same_trans s1 s2
      refine ⟨_, rfl, q, _, rfl, gt gm s02, _, rfl, _, rfl, q, _, rfl, gt gG s02, q2, aC, aheadM D (i + 1), D.G, rfl, h2, hC.same s02, by rw [sX1.1, ok.sG.1], by rw [sX1.1]; omega, fun r hr => by rw [sX1.2 r hr]; omega, fun r hr => by rw [ok.sG.2 r hr]; omega, fun q3 H3 s3 h3 => ?_⟩
      obtain ⟨sb, rb, eb⟩ := beside_ok sX1 ok.sG rX1 ok.rG
      refine ⟨D.M, q3, besideM (aheadM D (i + 1)) D.G, D.n, D.w + D.w, rfl, hM2, m12, h3, sb, rb, hn1, n8, by omega, fun b H4 s4 hb => ⟨b, rfl, ?_⟩⟩
      rw [passed_iff hM2 sb (fun i hi => eb i hi)] at hb
      have s04 := same_trans s02 (same_trans s3 s4)
      have et : (1 : Int) + (i : Int) = ((i + 1 : Nat) : Int) := by omega
      cases b with
      | true => exact iteT ⟨_, rfl, k _ H4 s04 (.inl ⟨i + 1, congrArg V.int et, by omega, by omega, hb.mp rfl, fun t h1 h2 => hseen t h1 (by omega)⟩)⟩
      | false =>
        refine iteF ⟨q2, _, rfl, s04, (h2.same s3).same s4, fun t h1 h2 => ?_⟩
        rcases Nat.lt_or_ge t (i + 1) with c | c
        · exact hseen t h1 (by omega)
        · rw [show t = i + 1 by omega]
          exact Classical.byContradiction fun z => by have := hb.mpr z; cases this
    · rintro σ H1 ⟨qa, x3, rfl, s1, hqa, hseen⟩
      exact k _ H1 s1 (.inr ⟨rfl, fun t h1 h2 => hseen t h1 (by omega)⟩)
end
end Wk

/-! repr of data -/
namespace Wk
open PySem PySem.Spec PyProof.Rows L2
mutual
/-- data that one can look at: of none, bools, ints, texts, lists, tuples, the empty dict -/
inductive Dq (H : Hp) : V → PyData → Prop
  | non : Dq H .non .none
  | bl (b : Bool) : Dq H (.bl b) (.bool b)
  | int (i : Int) : Dq H (.int i) (.int i)
  | str (x : Str) : Dq H (.str x) (.str x)
  | lst {a : Addr} {xs : List V} {ds : List PyData} : H a = some (.lst xs) → DqAll H xs ds → Dq H (.ref a) (.list ds)
  | tup {a : Addr} {xs : List V} {ds : List PyData} : H a = some (.tup xs) → DqAll H xs ds → Dq H (.ref a) (.tuple ds)
  | dic {a : Addr} : H a = some (.dK []) → Dq H (.ref a) (.dict [])
inductive DqAll (H : Hp) : List V → List PyData → Prop
  | nil : DqAll H [] []
  | cons {v : V} {vs : List V} {d : PyData} {ds : List PyData} : Dq H v d → DqAll H vs ds → DqAll H (v :: vs) (d :: ds)
end
mutual
theorem Dq.same {H H' : Hp} (e : ∀ b o, H b = some o → H' b = some o) : ∀ {v : V} {d : PyData}, Dq H v d → Dq H' v d
  | _, _, .non => .non
  | _, _, .bl b => .bl b
  | _, _, .int i => .int i
  | _, _, .str x => .str x
  | _, _, .lst h a => .lst (e _ _ h) (DqAll.same e a)
  | _, _, .tup h a => .tup (e _ _ h) (DqAll.same e a)
  | _, _, .dic h => .dic (e _ _ h)
theorem DqAll.same {H H' : Hp} (e : ∀ b o, H b = some o → H' b = some o) : ∀ {v : List V} {d : List PyData}, DqAll H v d → DqAll H' v d
  | _, _, .nil => .nil
  | _, _, .cons a b => .cons (Dq.same e a) (DqAll.same e b)
end
section
variable {X : Cx} {pins : List (Addr × Obj)} {σ : L2.St} {H : Hp} {s : Shared}
mutual
theorem Dq.reads (I : Inv X pins σ H s) (hs : ∃ o es m, X.base.get? sysModules = some o ∧ o.data = .dict es m) : ∀ (d : PyData) (v : V) (u : Value), Dq H v d → RelV v u → ∃ as, Reads s.heap u d as ∧ sysModules ∉ as
  | .none, _, _, h, r => by
    cases h
    cases r
    exact ⟨_, .none, List.not_mem_nil⟩
  | .bool b, _, _, h, r => by
    cases h
    cases r
    exact ⟨_, .bool b, List.not_mem_nil⟩
  | .int i, _, _, h, r => by
    cases h
    obtain ⟨t, rfl⟩ := r
    exact ⟨_, .int i t, List.not_mem_nil⟩
  | .str x, _, _, h, r => by
    cases h
    obtain ⟨t, rfl⟩ := r
    exact ⟨_, .str x t, List.not_mem_nil⟩
  | .list ds, _, _, h, r => by
    cases h with
    | lst hh ha =>
      cases r
      obtain ⟨its, rv, ⟨o, n, ho, hc, _, hd⟩, _⟩ := I.list (SqL.of hh)
      obtain ⟨as, hr, nm⟩ := Dq.readsAll I hs ds _ its ha rv
      refine ⟨_, .list ho hc hd hr, fun z => ?_⟩
      rcases List.mem_cons.mp z with z | z
      · obtain ⟨o2, es, m, e2, d2⟩ := hs
        have e3 := I.bk _ _ e2
        rw [z, ho] at e3
        cases e3
        rw [hd] at d2
        cases d2
      · exact nm z
  | .tuple ds, _, _, h, r => by
    cases h with
    | tup hh ha =>
      cases r
      obtain ⟨its, rv, ⟨o, ho, hc, n, hd⟩, _⟩ := I.tuple (SqT.of hh)
      obtain ⟨as, hr, nm⟩ := Dq.readsAll I hs ds _ its ha rv
      exact ⟨_, .tuple ho hc hd hr, nm⟩
  | .dict kvs, _, _, h, r => by
    cases h with
    | dic hh =>
      cases r
      have ob := I.hok _ _ hh
      obtain ⟨_, ns, vs, rv, o, es, ep, ho, ex, hd, _, hp, _⟩ := ob
      unfold KV at rv
      cases rv
      have e0 : es.toList = [] := by
        cases q : es.toList with
        | nil => rfl
        | cons z r => rw [q] at hp; cases hp
      refine ⟨_, .dict ho ex.1 hd (by rw [e0]; exact .nil) (by rw [e0]; exact .nil), fun z => ?_⟩
      simp at z
      rw [z] at ns
      simp at ns
theorem Dq.readsAll (I : Inv X pins σ H s) (hs : ∃ o es m, X.base.get? sysModules = some o ∧ o.data = .dict es m) : ∀ (ds : List PyData) (vs : List V) (us : List Value), DqAll H vs ds → Vals vs us → ∃ as, ReadsAll s.heap us ds as ∧ sysModules ∉ as
  | [], _, _, h, r => by
    cases h
    cases r
    exact ⟨_, .nil, List.not_mem_nil⟩
  | d :: ds, _, _, h, r => by
    cases h with
    | cons h1 h2 =>
      cases r with
      | cons r1 r2 =>
        obtain ⟨as, q1, n1⟩ := Dq.reads I hs d _ _ h1 r1
        obtain ⟨bs, q2, n2⟩ := Dq.readsAll I hs ds _ _ h2 r2
        exact ⟨_, .cons q1 q2, fun z => (List.mem_append.mp z).elim n1 n2⟩
end
/-- repr(x), x data -/
theorem call_reprD (hg : X.A.guards = some []) (hu : X.A.units + 64 < cLine) (hs : ∃ o es m, X.base.get? sysModules = some o ∧ o.data = .dict es m) : CallR X (.builtin "repr") (fun xs H Q => ∃ x d, xs = [x] ∧ Dq H x d ∧ d.showable = true ∧ d.depth ≤ 60 ∧ d.shown.length ≤ sizeLine ∧ Q (.str d.shown) H) := by
  intro pins s σ H xs us Q I r h
  obtain ⟨x, d, rfl, hd, sh, dp, sz, q⟩ := h
  obtain ⟨u, rfl, ru⟩ := vals1 r
  obtain ⟨as, rd, nm⟩ := Dq.reads I hs d x u hd ru
  cases hd with
  | non =>
    cases ru
    exact PySem.P.repr_of_none ⟨.str _, H, I.tok _, ⟨_, rfl⟩, by simpa [PyData.shown] using q⟩
  | bl b =>
    cases ru
    exact PySem.P.repr_of_bool ⟨.str _, H, I.tok _, ⟨_, rfl⟩, by simpa [PyData.shown] using q⟩
  | int i =>
    obtain ⟨t, rfl⟩ := ru
    exact PySem.P.repr_of_int (by simpa [PyData.showable] using sh) ⟨.str _, H, I.tok _, ⟨_, rfl⟩, by simpa [PyData.shown] using q⟩
  | str y =>
    obtain ⟨t, rfl⟩ := ru
    exact PySem.P.repr_of_str ⟨.str _, H, I.tok _, ⟨_, rfl⟩, by simpa [PyData.shown] using q⟩ (by simpa [PyData.shown] using sz)
  | lst _ _ | tup _ _ | dic _ =>
    cases ru
    exact repr_of_reads' (h₀ := s.heap) rd sh (fun _ => nm) hg (by omega) (fun _ _ e => e) (fun h' u tk k => ⟨.str _, H, I.kept (t' := tk) k, ⟨u, rfl⟩, q⟩) sz
end
end Wk

namespace Wk
open PySem L2
/-! ### defs that want to know that no repr is under way -/
structure FnG (P : Program) (w : World) (K : PySem.W.Frag) (mg : Str → Option Value) (base : Heap) (k : Nat) (f : Addr) (fd : FuncData) (ps : List Str) (sp : Sp) : Prop where
  len : ∀ vs H Q E, sp vs H Q E → vs.length = ps.length
  run : ∀ (A : Around) (outer : List Env) (s : Shared) (H : Hp) (us : List Value) (vs : List V) (Q : VK), Room k A → A.guards = some [] → Env0 P w K mg base A outer s H → BindsTo s fd ⟨us, []⟩ (ps.zip us) → Vals vs us → sp vs H Q E0 → codeAny (model P w) A (.call (.ref f) ⟨us, []⟩) (CR CX0 outer P w H s Q E0) s
section
variable {P : Program} {w : World} {K : PySem.W.Frag} {mg : Str → Option Value} {base : Heap}
theorem fun_okG {x qual : Str} {st : Stmt} {f : Addr} {fd : FuncData} {N ps : List Str} {k : Nat} {sp : Sp} (F : Fun K x qual st f fd) (S : FnScope N ps (defScope st)) (len : ∀ vs H Q E, sp vs H Q E → vs.length = ps.length)
    (hbody : ∀ (cdv : Value) (A : Around) (outer : List Env) (s : Shared) (H : Hp) (vs : List V) (Q : VK), Room k (A.deeper (PyProof.Rows.envOfC qual (defScope st) s.heap.objs.size f cdv)) → A.guards = some [] → sp vs H Q E0 →
      ∃ t, PSs (cxOf CX0 P w K mg base N qual (defScope st) f cdv A outer s H E0).nox (defBody st) t ∧ t { nx := fun _ H' => Q .non H', rt := Q } (start N vs) H) : FnG P w K mg base (k + 1) f fd ps sp := by
  obtain ⟨oc, od, kV, doc, pm, an, cdv, ct, osl, rfl, lk, hcd⟩ := F.ex
  refine ⟨len, fun A outer s H us vs Q hr hg e0 hb r h => LamX.run_ofS lk hcd S hr e0 hb r (len _ _ _ _ h) fun hr2 => ?_⟩
  obtain ⟨t, h1, h2⟩ := hbody cdv A outer s H vs Q hr2 hg h
  exact ⟨t, h1.nox, h2⟩
end
section
variable {X : Cx} {k : Nat} {f : Addr} {fd : FuncData} {ps : List Str} {sp : Sp} {x : Str} {e : Expr} {es : List Expr} {t : TA} {p pos : Pos}
theorem pe_callG (F : FnG X.prog X.w X.K X.mg X.base k f fd ps sp) (hr : Room k X.A) (hG : X.A.guards = some []) (hg : Gl X x) (hm : X.mg x = some (.ref f)) (hk : PySem.W.keepIn X.K (.ref f) = true) (hb : Binds X.K fd ps []) (ha : PA X (e :: es) t)
    (hdb : (x == ("__debug__" : Str)) = false := by decide) (he : starEach (e :: es) X.env = (false, eval e X.env) :: starEach es X.env := by rfl) (hpl : (backTo pos (starEach es X.env)).any (·.1) = false := by rfl) :
    PE X (.Call (.Name x p) (e :: es) [] pos) (fun σ H Q => t σ H fun vs H1 => sp vs H1 Q E0) := by
  refine ⟨fun pins s σ H Q I h => wpAny_Call_Name_kw (ld_glob I hg hm (PySem.W.callWith_K (h₀ := X.base) I.ok.mod.kin hk (thn (ha.run pos pins s σ H _ I h) fun us s1 ⟨vs, H1, I1, r, q⟩ => ⟨I1.kIn, ?_⟩) he hpl) hdb)⟩
  have hl : us.length = ps.length := r.length.symm.trans (F.len _ _ _ _ q)
  have b := hb s1 us I1.kIn (by rw [List.append_nil]; exact hl)
  rw [List.append_nil] at b
  refine wpAny_call (codeAny_mono (F.run X.A X.stack s1 H1 us vs Q hr hG I1.env0 b r q) fun r s' z => ?_)
  rcases r with er | (_ | _ | _ | u)
  · exact z.elim
  · exact False.elim z
  · exact False.elim z
  · exact False.elim z
  · exact I1.after z
end
/-- isinstance(e, c), e the caught error, with its dict -/
def rIsD (K : PySem.W.Frag) (a : Addr) (cls : Value) (d : Option Addr) : List V → Hp → VK → Prop := fun xs H Q => ∃ (D : Addr) (c : V) (cv : Value) (b : Bool), xs = [.ref a, c] ∧ cls = .ref D ∧ ExcC K D ∧ (∀ x, d = some x → ∃ fs, H x = some (.xd fs)) ∧ (∀ u, RelV c u → u = cv) ∧ PySem.W.kitOne K (.ref D) cv = some b ∧ Q (.bl b) H
theorem call_isD {X : Cx} {a : Addr} {oe : Obj} {cls : Value} {d : Option Addr} {pn : List (Addr × Obj)} (hz : Zc cls d oe) (hf : ∃ vs, oe.data = .fields vs) : CallR (X.suite a ((a, oe) :: pn)) (.builtin "isinstance") (rIsD X.K a cls d) := by
  intro pins s σ H xs us Q I r h
  obtain ⟨D, c, cv, b, rfl, rfl, T, hd, hcv, e, q⟩ := h
  cases r with
  | cons rx rr =>
    cases rr with
    | cons rt rr =>
      cases rr
      cases rx
      have ec := hcv _ rt
      subst ec
      obtain ⟨hget, _⟩ := I.pin (a, oe) (List.mem_append.mpr (.inl List.mem_cons_self))
      obtain ⟨vs, hv⟩ := hf
      have J : ∃ od, PySem.W.InstAt s.heap a oe D od := by
        obtain ⟨oc, od, oda, osl⟩ := oe
        obtain ⟨h1, h2⟩ := hz
        dsimp only at h1 h2 hv
        subst h1 h2 hv
        cases od with
        | none => exact ⟨none, hget, rfl, rfl, trivial⟩
        | some dx =>
          obtain ⟨fs, ef⟩ := hd dx rfl
          have ob : ObjOk X.prog X.w H s.heap dx (.xd fs) := I.hok _ _ ef
          obtain ⟨mA, hns, _⟩ := ob
          obtain ⟨od, hod, _⟩ := lookIn_ns hns
          exact ⟨some od, hget, rfl, rfl, hod⟩
      obtain ⟨od, J⟩ := J
      have hc : (PySem.W.clsIn X.K D).isSome = true := by
        have z := T.hd
        unfold PySem.W.hasDictIn at z
        cases q : PySem.W.clsIn X.K D with
        | none => rw [q] at z; cases z
        | some _ => rfl
      exact PySem.W.kia_one (PySem.W.kitx_exc hc T.hg T.hk T.hs T.ha T.hn T.ht T.hm) I.kIn J e (fun z => nomatch z) fun tk => ⟨.bl b, H, I.kept (t' := tk) fun _ _ z => z, rfl, q⟩
/-! ### a def with lambdas: its code object -/
structure FunL (K : PySem.W.Frag) (x : Str) (st : Stmt) (f : Addr) (fd : FuncData) (c : Addr) : Prop where
  ex : ∃ (oc : Value) (od : Option Addr) (kV doc pm : Value) (an : Option Addr) (ct : Value) (osl : Array (Option Value)),
    fd = PySem.W.fnOf x x (defArgs st) (defBody st) (defScope st) .none kV doc pm an (.ref c) ct ∧ K.lookup f = some ⟨oc, od, .func fd, osl⟩ ∧ PySem.W.codeIn K (.ref c) x = true
theorem funL_of {K : PySem.W.Frag} {x : Str} {st : Stmt} {fd : FuncData} (F : Fun K x x st (He.fAd K (x, none)) fd) : FunL K x st (He.fAd K (x, none)) fd (He.codeOf K (x, none)) := by
  obtain ⟨oc, od, kV, doc, pm, an, cdv, ct, osl, rfl, lk, hcd⟩ := F.ex
  obtain ⟨c, rfl⟩ := He.codeIn_ref hcd
  have e : He.codeOf K (x, none) = c := He.codeOf_eq lk rfl
  rw [e]
  exact ⟨oc, od, kV, doc, pm, an, ct, osl, rfl, lk, hcd⟩
section
variable {P : Program} {w : World} {K : PySem.W.Frag} {mg : Str → Option Value} {base : Heap}
theorem fun_okL {x : Str} {st : Stmt} {f c : Addr} {fd : FuncData} {N ps : List Str} {k : Nat} {sp : Sp} (F : FunL K x st f fd c) (S : FnScope N ps (defScope st)) (len : ∀ vs H Q E, sp vs H Q E → vs.length = ps.length)
    (hbody : ∀ (A : Around) (outer : List Env) (s : Shared) (H : Hp) (vs : List V) (Q : VK), Room k (A.deeper (PyProof.Rows.envOfC x (defScope st) s.heap.objs.size f (.ref c))) → A.guards = some [] → sp vs H Q E0 →
      ∃ t, PSs (cxOf CX0 P w K mg base N x (defScope st) f (.ref c) A outer s H E0).nox (defBody st) t ∧ t { nx := fun _ H' => Q .non H', rt := Q } (start N vs) H) : FnG P w K mg base (k + 1) f fd ps sp := by
  obtain ⟨oc, od, kV, doc, pm, an, ct, osl, rfl, lk, hcd⟩ := F.ex
  refine ⟨len, fun A outer s H us vs Q hr hg e0 hb r h => LamX.run_ofS lk hcd S hr e0 hb r (len _ _ _ _ h) fun hr2 => ?_⟩
  obtain ⟨t, h1, h2⟩ := hbody A outer s H vs Q hr2 hg h
  exact ⟨t, h1.nox, h2⟩
end
/-- a def as it stands: what a call of it with a lambda wants -/
structure LamAt (K : PySem.W.Frag) (mg : Str → Option Value) (x : Str) (st : Stmt) (ps : List Str) : Prop where
  ex : ∃ (g : Addr) (oc : Value) (od : Option Addr) (kV doc pm : Value) (an : Option Addr) (cdv ct : Value) (osl : Array (Option Value)), mg x = some (.ref g) ∧ PySem.W.keepIn K (.ref g) = true ∧
    K.lookup g = some ⟨oc, od, .func (PySem.W.fnOf x x (defArgs st) (defBody st) (defScope st) .none kV doc pm an cdv ct), osl⟩ ∧ PySem.W.codeIn K cdv x = true ∧
    Binds K (PySem.W.fnOf x x (defArgs st) (defBody st) (defScope st) .none kV doc pm an cdv ct) ps []
theorem lamAt_of {K : PySem.W.Frag} {mg : Str → Option Value} {x : Str} {st : Stmt} {ps : List Str} {g : Addr} {fd : FuncData} (F : Fun K x x st g fd) (hm : mg x = some (.ref g)) (kp : PySem.W.keepIn K (.ref g) = true) (b : Binds K fd ps []) : LamAt K mg x st ps := by
  obtain ⟨oc, od, kV, doc, pm, an, cdv, ct, osl, rfl, lk, hcd⟩ := F.ex
  exact ⟨g, oc, od, kV, doc, pm, an, cdv, ct, osl, hm, kp, lk, hcd, b⟩
def lamQ (x : Str) : Str := x ++ ".<locals>." ++ "<lambda>"
theorem Tabs.same {T : List (Addr × Str)} {H H' : Hp} (t : LamX.Tabs T H) (e : Same H H') : LamX.Tabs T H' := t.ext e
/-- all but the tables of code is kept -/
theorem ext_same {H H' : Hp} (s : Same H H') : LamX.ExtN H H' := fun b o e _ => s b o e
theorem NoI.ext {K : PySem.W.Frag} {H H' : Hp} {v : V} (h : NoI K H v) (e : ∀ b o, H b = some o → (∀ ps, o ≠ .tbl ps) → H' b = some o) (hv : v = .non ∨ (∃ b, v = .bl b) ∨ (∃ x, v = .str x) ∨ ∃ a, v = .ref a ∧ ((∃ xs, H a = some (.lst xs)) ∨ (∃ xs, H a = some (.tup xs)) ∨ ∃ xs, H a = some (.dK xs))) : NoI K H' v := by
  rcases hv with rfl | ⟨b, rfl⟩ | ⟨x, rfl⟩ | ⟨a, rfl, ⟨xs, h⟩ | ⟨xs, h⟩ | ⟨xs, h⟩⟩
  · exact .non
  · exact .bl b
  · exact .str x
  · exact .lst (e _ _ h fun _ z => by cases z)
  · exact .tup (e _ _ h fun _ z => by cases z)
  · exact .dic (e _ _ h fun _ z => by cases z)
end Wk

namespace Wk
open PySem L2
abbrev s_law_refused : Stmt := top 69
theorem sc_law_refused : FnScope ["_law_guard", "_law_value", "_law_told", "e"] ["_law_guard", "_law_value"] (defScope s_law_refused) := ⟨rfl, rfl, rfl, by decide +kernel, rfl, by decide +kernel, by decide +kernel⟩

-- _law_guard=0 _law_value=1 _law_told=2 e=3
structure TxtE (K : PySem.W.Frag) (mg : Str → Option Value) (CM CS : Addr) : Prop where
  gM : mg "BadSize" = some (.ref CM)
  gS : mg "SumsError" = some (.ref CS)
  f_isinstance : mg "isinstance" = none
  f_repr : mg "repr" = none
  te : PySem.W.exmOne K (.ref CM) (.ref CM) = some true
  kS : PySem.W.kitOne K (.ref CM) (.ref CS) = some true
  ec : ExcC K CM
  xf : XfC K CM
  no : PySem.W.findIn K (.ref CM) "size" = some none
def spRefused (K : PySem.W.Frag) (CG : Addr) : Sp := fun vs H Q _ => ∃ (g : Addr) (D : GD) (v : V) (d : PyData), vs = [.ref g, v] ∧ GuardAt K CG H g D ∧ GOk D ∧ D.w ≤ 8 ∧ NoW K H v 1 2000 ∧ Dq H v d ∧ d.showable = true ∧ d.depth ≤ 60 ∧ d.shown.length ≤ sizeLine ∧ ∀ H', Same H H' → Q (.str d.shown) H'
section
variable {P : Program} {w : World} {K : PySem.W.Frag} {mg : Str → Option Value} {base : Heap} {CG CM CS : Addr}
theorem ok_refused {f fP : Addr} {fd fdP : FuncData} {k : Nat} (F : Fun K "_law_refused" "_law_refused" s_law_refused f fd) (T : TxtE K mg CM CS) (GP : FnOk P w K mg base (L2.CX P w) k fP fdP ["guard", "most"] (spFirst K CG CM)) (gP : mg "first_pair" = some (.ref fP)) (kP : PySem.W.keepIn K (.ref fP) = true)
    (bP : Binds K fdP ["guard", "most"] []) (hS : ∃ o es m, base.get? sysModules = some o ∧ o.data = .dict es m) : FnG P w K mg base (k + 1) f fd ["_law_guard", "_law_value"] (spRefused K CG) := by
  refine fun_okG F sc_law_refused (fun vs H Q E h => ?_) (fun cdv A outer s H vs Q hr hG h => ?_)
  · obtain ⟨g, D, v, d, rfl, _⟩ := h
    rfl
  · obtain ⟨g, D, v, d, rfl, hGu, ok, w8, ho, hq, h1, h2, h3, q⟩ := h
    refine ⟨_, pss_cons (ps_set (i := 2) sc_law_refused.nd rfl (Or.inl rfl) pe_non) (pss_cons (ps_try_as (i := 3) (c := .ref CM) (tb := fun W => tDrop (tCallS (spFirst K CG CM) (WE W) (tCons (tVar 0) (tCons (tVar 1) tNil))))
      (ts := fun a cls d => tAsg (tIf (tB (tCB (rIsD K a cls d) (tCons (tVar 3) (tCons (tC (.ref CS)) tNil)))) (tCB (fun xs H Q => ∃ x d, xs = [x] ∧ Dq H x d ∧ d.showable = true ∧ d.depth ≤ 60 ∧ d.shown.length ≤ sizeLine ∧ Q (.str d.shown) H) (tCons (tXf a cls d CM "size" (tVar 3)) tNil)) (tC .non)) (gName 2))
      (Wout := fun _ _ _ _ => False) rfl rfl sc_law_refused.nd rfl rfl ⟨rfl, by decide, .inl T.gM⟩ takes0
      (fun W pn xe tk _ => pss_one (ps_expr (by exact (pe_callS GP hr rfl gP kP bP (fun σ => passAt tk σ) (by exact (pa_cons (pv 0) (pa_cons (pv 1) pa_nil)))))))
      (fun a oe cls d pn hz hf => pss_one (ps_set (i := 2) sc_law_refused.nd rfl (Or.inl rfl) (pe_ifExp (pt_val (pe_callB (call_isD hz hf) rfl T.f_isinstance (by decide +kernel) (pa_cons (pv 3) (pa_cons (pe_glob (v := .ref CS) rfl T.gS rfl) pa_nil))))
        (pe_callB (call_reprD hG hr.units hS) rfl T.f_repr (by decide +kernel) (by exact (pa_cons (pe_xf T.xf T.no hz hf (pv 3)) pa_nil))) pe_non)))) (pss_one (ps_ret (pv 2)))), ?_⟩
    refine ⟨_, rfl, _, rfl, g, D, v, rfl, hGu, ok, w8, .inr ⟨ho, fun dx H' sH hd => ⟨true, T.te, fun _ a ha => ?_, fun z => Bool.noConfusion z⟩⟩⟩
    refine ⟨_, rfl, CM, .ref CS, .ref CS, true, rfl, rfl, T.ec, fun x z => by cases z; exact ⟨_, hd⟩, fun u z => z, T.kS, _, rfl, iteT ?_⟩
    refine ⟨_, rfl, rfl, rfl, dx, _, v, rfl, hd, by rw [lookup_put, if_pos rfl], v, d, rfl, hq.same sH, h1, h2, h3, ?_⟩
    exact ⟨_, rfl, q H' sH⟩
end
section
variable {P : Program} {w0 : World} {K : PySem.W.Frag} {mg : Str → Option Value} {base : Heap}
theorem okE_BadSize {f : Addr} {fd : FuncData} {C fI CS : Addr} (F : FunD K "__init__" "BadSize.__init__" (defArgs s_BadSize_init) (defBody s_BadSize_init) (defScope s_BadSize_init) [] [] f fd) (e1 : Err1 K mg "BadSize" "size" C fI CS) : FnOk P w0 K mg base CX0 1 f fd ["self", "size"] (spE1 C "size") := by
  refine F.ok sc_BadSize_init (fun vs H Q E h => ?_) (fun cdv A outer s H vs Q E hr h => ?_)
  · obtain ⟨e, y, rfl, _⟩ := h
    rfl
  · obtain ⟨e, y, rfl, he, k⟩ := h
    exact ⟨_, PSs.nox (pss_one (ps_ost (pv 0) (pv 1))), _, rfl, _, rfl, e, C, rfl, e1.o, e1.no, .inl ⟨he, fun dx h1 h2 => k dx h1 h2⟩⟩
end
end Wk

namespace Wk
open PySem L2
/-! sums of numbers, and of these sums -/
def sumsD (M s0 : Int) : GD := ⟨M, [[1, 0], [1, 1]], [[1], [1]], [s0, 0], [0, 0], 2, 1⟩
theorem sums_ok {M s0 : Int} (h2 : 2 ≤ M) (h18 : M ≤ 1000000000000000000) (h0 : 0 ≤ s0) (h1 : s0 < M) : GOk (sumsD M s0) := by
  have r1 : ∀ x ∈ [(0 : Int), 1], 0 ≤ x ∧ x < M := fun x hx => by
    simp only [List.mem_cons, List.not_mem_nil, or_false] at hx
    rcases hx with rfl | rfl <;> omega
  refine ⟨h2, h18, by show 1 ≤ 2; decide, by show 2 ≤ 16; decide, by show 1 ≤ 1; decide, by show 1 ≤ 16; decide, ⟨rfl, fun r hr => ?_⟩, ⟨rfl, fun r hr => ?_⟩, rfl, rfl, fun r hr x hx => r1 x ?_, fun r hr x hx => r1 x ?_, fun x hx => ?_, fun x hx => r1 x ?_, ⟨fun i j => if i = 0 then (if j = 0 then 1 else 0) else (if j = 0 then -1 else 1), fun i j hi hj => ?_⟩⟩
  · simp only [sumsD, List.mem_cons, List.not_mem_nil, or_false] at hr
    rcases hr with rfl | rfl <;> rfl
  · simp only [sumsD, List.mem_cons, List.not_mem_nil, or_false] at hr
    rcases hr with rfl | rfl <;> rfl
  · simp only [sumsD, List.mem_cons, List.not_mem_nil, or_false] at hr
    rcases hr with rfl | rfl <;> (simp only [List.mem_cons, List.not_mem_nil, or_false] at hx ⊢; rcases hx with rfl | rfl <;> simp)
  · simp only [sumsD, List.mem_cons, List.not_mem_nil, or_false] at hr
    rcases hr with rfl | rfl <;> (simp only [List.mem_cons, List.not_mem_nil, or_false] at hx ⊢; subst hx; simp)
  · simp only [sumsD, List.mem_cons, List.not_mem_nil, or_false] at hx
    rcases hx with rfl | rfl
    · exact ⟨h0, h1⟩
    · exact ⟨Int.le_refl _, by show 0 < M; omega⟩
  · simp only [sumsD, List.mem_cons, List.not_mem_nil, or_false] at hx
    rcases hx with rfl | rfl <;> simp
  · have hi2 : i < 2 := hi
    have hj2 : j < 2 := hj
    refine .eq ?_
    obtain rfl | rfl : i = 0 ∨ i = 1 := by omega
    all_goals obtain rfl | rfl : j = 0 ∨ j = 1 := by omega
    all_goals rfl
theorem sums_ent {M s0 : Int} (ok : GOk (sumsD M s0)) : ∀ s : Nat, Eqm M (ent (aheadM (sumsD M s0) s) 0 0) 1 ∧ Eqm M (ent (aheadM (sumsD M s0) s) 1 0) (s + 1)
  | 0 => ⟨.eq rfl, .eq rfl⟩
  | s + 1 => by
    obtain ⟨h1, h2⟩ := sums_ent ok s
    have e1 := ahead_ent ok s (i := 0) (j := 0) (show 0 < 2 by decide) (show 0 < 1 by decide)
    have e2 := ahead_ent ok s (i := 1) (j := 0) (show 1 < 2 by decide) (show 0 < 1 by decide)
    refine ⟨e1.trans ?_, e2.trans ?_⟩
    · show Eqm M ((0 + 1 * ent (aheadM (sumsD M s0) s) 0 0) + 0 * ent (aheadM (sumsD M s0) s) 1 0) 1
      obtain ⟨k, hk⟩ := h1
      exact ⟨k, by rw [hk]; omega⟩
    · show Eqm M ((0 + 1 * ent (aheadM (sumsD M s0) s) 0 0) + 1 * ent (aheadM (sumsD M s0) s) 1 0) (((s + 1 : Nat) : Int) + 1)
      obtain ⟨k, hk⟩ := h1
      obtain ⟨l, hl⟩ := h2
      exact ⟨k + l, by rw [hk, hl]; grind⟩
theorem sums_eq {M s0 : Int} (ok : GOk (sumsD M s0)) (s : Nat) (x y : Vec) : (∀ i, i < 2 → Eqm M ((sumN 1 fun j => ent (aheadM (sumsD M s0) s) i j * x j) + sumN 1 fun j => ent (sumsD M s0).G i j * y j) 0) ↔ Eqm M (x 0 + y 0) 0 ∧ Eqm M ((s + 1) * x 0 + y 0) 0 := by
  obtain ⟨h1, h2⟩ := sums_ent ok s
  have e0 : Eqm M ((sumN 1 fun j => ent (aheadM (sumsD M s0) s) 0 j * x j) + sumN 1 fun j => ent (sumsD M s0).G 0 j * y j) (x 0 + y 0) := by
    show Eqm M ((0 + ent (aheadM (sumsD M s0) s) 0 0 * x 0) + (0 + 1 * y 0)) _
    exact (((Eqm.refl M 0).add (h1.mul (.refl _ (x 0)))).add (.refl _ _)).trans (.eq (by omega))
  have e1 : Eqm M ((sumN 1 fun j => ent (aheadM (sumsD M s0) s) 1 j * x j) + sumN 1 fun j => ent (sumsD M s0).G 1 j * y j) ((s + 1) * x 0 + y 0) := by
    show Eqm M ((0 + ent (aheadM (sumsD M s0) s) 1 0 * x 0) + (0 + 1 * y 0)) _
    exact (((Eqm.refl M 0).add (h2.mul (.refl _ (x 0)))).add (.refl _ _)).trans (.eq (by omega))
  constructor
  · intro h
    exact ⟨e0.symm.trans (h 0 (by decide)), e1.symm.trans (h 1 (by decide))⟩
  · rintro ⟨a, b⟩ i hi
    obtain rfl | rfl : i = 0 ∨ i = 1 := by omega
    · exact e0.trans a
    · exact e1.trans b
theorem sums_seen {M s0 : Int} (ok : GOk (sumsD M s0)) {s : Nat} (h1 : 1 ≤ s) (hg : Int.gcd (s : Int) M = 1) : PSeen (sumsD M s0) s := by
  intro x y h
  obtain ⟨a, b⟩ := (sums_eq ok s x y).mp h
  have hM : 2 ≤ M := ok.m2
  obtain ⟨u, v, hb⟩ := bez_int (a := (s : Int)) (b := M) (by omega) (by omega)
  rw [hg] at hb
  have hx : Eqm M (x 0) 0 := by
    obtain ⟨k, hk⟩ := a
    obtain ⟨l, hl⟩ := b
    refine ⟨u * (l - k) + v * x 0, ?_⟩
    have e : x 0 = (u * s + v * M) * x 0 := by rw [hb]; simp
    have e2 : (s : Int) * x 0 = M * (l - k) := by
      rw [Int.mul_sub]
      have : ((s : Int) + 1) * x 0 = s * x 0 + x 0 := by rw [Int.add_mul]; omega
      omega
    rw [Int.add_mul, Int.mul_assoc u, e2] at e
    rw [e]
    grind
  have hy : Eqm M (y 0) 0 := by
    obtain ⟨k, hk⟩ := a
    obtain ⟨l, hl⟩ := hx
    exact ⟨k - l, by rw [Int.mul_sub]; omega⟩
  have D1 : (sumsD M s0).w = 1 := rfl
  refine ⟨fun j hj => ?_, fun j hj => ?_⟩
  · obtain rfl : j = 0 := by omega
    exact hx
  · obtain rfl : j = 0 := by omega
    exact hy
theorem sums_un {s0 : Int} (ok : GOk (sumsD 65535 s0)) : ¬ PSeen (sumsD 65535 s0) 3 := fun h => by
  have := (h (fun _ => 21845) (fun _ => -21845) ((sums_eq ok 3 _ _).mpr ⟨⟨0, by decide +kernel⟩, ⟨1, by decide +kernel⟩⟩)).1 0 (show 0 < 1 by decide)
  obtain ⟨k, hk⟩ := this
  have hk : (21845 : Int) = 0 + 65535 * k := hk
  omega
theorem gcd_100 : ∀ t : Fin 101, t.val = 0 ∨ Int.gcd (t.val : Int) 65521 = 1 := by decide +kernel
theorem sums_read {K : PySem.W.Frag} {CG : Addr} {M s0 : Int} {σ : L2.St} {H : Hp} {Q : VK} (ok : GOk (sumsD M s0)) (k : ∀ g H', Same H H' → GuardAt K CG H' g (sumsD M s0) → Q (.ref g) H') :
    tMake CG (spGInit K CG) [] E0 (tCons (tC (.int M)) (tCons (tTup (tCons (tTup (tCons (tC (.int 1)) (tCons (tC (.int 0)) tNil))) (tCons (tTup (tCons (tC (.int 1)) (tCons (tC (.int 1)) tNil))) tNil)))
      (tCons (tTup (tCons (tTup (tCons (tC (.int 1)) tNil)) (tCons (tTup (tCons (tC (.int 1)) tNil)) tNil))) (tCons (tTup (tCons (tC (.int s0)) (tCons (tC (.int 0)) tNil))) (tCons (tTup (tCons (tC (.int 0)) (tCons (tC (.int 0)) tNil))) tNil))))) σ H Q := by
  refine ⟨by show 2 ≤ sizeLine; decide, fun a1 n1 => ⟨by show 2 ≤ sizeLine; decide, fun a2 n2 => ⟨by show 2 ≤ sizeLine; decide, fun a3 n3 => ?_⟩⟩⟩
  have u1 := same_upd (o := .tup [V.int 1, V.int 0]) n1
  have u2 := same_upd (o := .tup [V.int 1, V.int 1]) n2
  have u3 := same_upd (o := .tup [V.ref a1, V.ref a2]) n3
  have g1 := u3 _ _ (u2 _ _ (upd_same (H := H) (a := a1) (o := .tup [V.int 1, V.int 0])))
  have g2 := u3 _ _ (upd_same (H := upd H a1 (.tup [V.int 1, V.int 0])) (a := a2) (o := .tup [V.int 1, V.int 1]))
  have g3 := upd_same (H := upd (upd H a1 (.tup [V.int 1, V.int 0])) a2 (.tup [V.int 1, V.int 1])) (a := a3) (o := .tup [V.ref a1, V.ref a2])
  have s3 := same_trans u1 (same_trans u2 u3)
  revert g1 g2 g3 s3
  generalize upd (upd (upd H a1 (.tup [V.int 1, V.int 0])) a2 (.tup [V.int 1, V.int 1])) a3 (.tup [V.ref a1, V.ref a2]) = H3
  intro g1 g2 g3 s3
  have hA : MatAt K H3 a3 (sumsD M s0).A := ⟨_, SqT.of g3, .cons (SqT.of g1) (.cons (SqT.of g2) .nil)⟩
  clear u1 u2 u3 n1 n2 n3 g1 g2 g3
  refine ⟨by show 1 ≤ sizeLine; decide, fun b1 n1 => ⟨by show 1 ≤ sizeLine; decide, fun b2 n2 => ⟨by show 2 ≤ sizeLine; decide, fun b3 n3 => ?_⟩⟩⟩
  have u1 := same_upd (o := .tup [V.int 1]) n1
  have u2 := same_upd (o := .tup [V.int 1]) n2
  have u3 := same_upd (o := .tup [V.ref b1, V.ref b2]) n3
  have g1 := u3 _ _ (u2 _ _ (upd_same (H := H3) (a := b1) (o := .tup [V.int 1])))
  have g2 := u3 _ _ (upd_same (H := upd H3 b1 (.tup [V.int 1])) (a := b2) (o := .tup [V.int 1]))
  have g3 := upd_same (H := upd (upd H3 b1 (.tup [V.int 1])) b2 (.tup [V.int 1])) (a := b3) (o := .tup [V.ref b1, V.ref b2])
  have s36 := same_trans u1 (same_trans u2 u3)
  revert g1 g2 g3 s36
  generalize upd (upd (upd H3 b1 (.tup [V.int 1])) b2 (.tup [V.int 1])) b3 (.tup [V.ref b1, V.ref b2]) = H6
  intro g1 g2 g3 s36
  have hC : MatAt K H6 b3 (sumsD M s0).G := ⟨_, SqT.of g3, .cons (SqT.of g1) (.cons (SqT.of g2) .nil)⟩
  replace hA := hA.same s36
  have s6 := same_trans s3 s36
  clear u1 u2 u3 n1 n2 n3 g1 g2 g3 s36 s3
  refine ⟨by show 2 ≤ sizeLine; decide, fun c1 n1 => ⟨by show 2 ≤ sizeLine; decide, fun c2 n2 => fun x dx nx nd ne => ?_⟩⟩
  have u1 := same_upd (o := .tup [V.int s0, V.int 0]) n1
  have u2 := same_upd (o := .tup [V.int 0, V.int 0]) n2
  have hS : RowAt K _ c1 (sumsD M s0).st := SqT.of (u2 _ _ (upd_same (H := H6) (a := c1) (o := .tup [V.int s0, V.int 0])))
  have hE : RowAt K _ c2 (sumsD M s0).en := SqT.of (upd_same (H := upd H6 c1 (.tup [V.int s0, V.int 0])) (a := c2) (o := .tup [V.int 0, V.int 0]))
  have s68 := same_trans u1 u2
  revert hS hE s68 nx nd
  generalize upd (upd H6 c1 (.tup [V.int s0, V.int 0])) c2 (.tup [V.int 0, V.int 0]) = H8
  intro nx nd hS hE s68
  replace hA := hA.same s68
  replace hC := hC.same s68
  have sI := own_same (C := CG) nx nd
  have rG : ∀ {a A}, MatAt K H8 a A → RowsG true true K (upd (upd H8 dx (HO.own x)) x (HO.ins CG dx [])) a A := fun {a A} h => by
    obtain ⟨vs, h1, h2⟩ := h.same sI
    exact ⟨vs, h1, rowsS_of h2⟩
  refine ⟨true, true, true, true, true, true, x, dx, a3, b3, c1, c2, sumsD M s0, rfl, upd_same, ok, rG hA, rG hC, SqT.same hS sI, SqT.same hE sI, fun H' b' hg => ⟨rfl, k x H' ?_ hg⟩⟩
  exact same_trans (same_trans s6 s68) (init_same nx nd b')
end Wk

namespace Wk
open PySem L2
abbrev s_law : Stmt := top 70
theorem sc_law : FnScope ["_law_script", "_law_pen", "_law_turn", "_law_most", "_law_width", "_law_world", "_law_guard", "_law_last", "_law_due", "_law_sums", "_law_odd"] ["_law_script"] (defScope s_law) := ⟨rfl, rfl, rfl, by decide +kernel, rfl, by decide +kernel, by decide +kernel⟩

-- _law_script=0 _law_pen=1 _law_turn=2 _law_most=3 _law_width=4 _law_world=5 _law_guard=6 _law_last=7 _law_due=8 _law_sums=9 _law_odd=10
structure DnG (P : Program) (w : World) (K : PySem.W.Frag) (mg : Str → Option Value) (base : Heap) (k : Nat) (x : Str) (ps : List Str) (sp : Sp) : Prop where
  ex : ∃ (f : Addr) (fd : FuncData), FnG P w K mg base k f fd ps sp ∧ mg x = some (.ref f) ∧ PySem.W.keepIn K (.ref f) = true ∧ Binds K fd ps []
section
variable {P : Program} {w : World} {K : PySem.W.Frag} {mg : Str → Option Value} {base : Heap} {CG gI gT gB gQ CE : Addr}
theorem law_run {fdI : FuncData} {f : Addr} {fd : FuncData} (F : Fun K "law" "law" s_law f fd) (hb : ∀ (s : Shared) (u : Value), BindsTo s fd ⟨[u], []⟩ [("_law_script", u)]) (T : TxtL mg) (TG : TxtGd K mg CG gI gT gB gQ) (f_repr : mg "repr" = none)
    (G_ginit : FnOk P w K mg base CX0 6 gI fdI ["self", "modulus", "matrix", "columns", "start", "end"] (spGInit K CG)) (b_ginit : Binds K fdI ["self", "modulus", "matrix", "columns", "start", "end"] [])
    (d1 : Dn P w K mg base CX0 1 "_law_pen_of" ["_law_script"] (spPen K)) (d2 : Dn P w K mg base CX0 1 "_law_draw" ["_law_pen", "_law_many"] spDraw) (d3 : Dn P w K mg base CX0 2 "_law_pick" ["_law_pen", "_law_items"] (spPick K))
    (d4 : Dn P w K mg base CX0 3 "_law_world_of" ["_law_pen", "_law_most", "_law_size", "_law_width"] (spWorld K)) (d5 : Dn P w K mg base CX0 8 "_law_guard_of" ["_law_world"] (spGuardOf K CG)) (d6 : Dn P w K mg base CX0 4 "_law_first" ["_law_world", "_law_most"] (spLFirst K))
    (d7 : Dn P w K mg base (L2.CX P w) 6 "first_pair" ["guard", "most"] (spFirst K CG CE)) (d8 : DnG P w K mg base 7 "_law_refused" ["_law_guard", "_law_value"] (spRefused K CG)) (hS : ∃ o es m, base.get? sysModules = some o ∧ o.data = .dict es m)
    {s : Shared} {H : Hp} {a : Addr} {ns : List Int} (e0 : Env0 P w K mg base callerA [] s H) (hL : SqL K H a (ns.map V.int)) : codeAny (model P w) callerA (.call (.ref f) ⟨[.ref a], []⟩) (CR CX0 [] P w H s (fun v _ => v = .bl true) E0) s := by
  obtain ⟨f1, fd1, G__law_pen_of, g__law_pen_of, kp__law_pen_of, b__law_pen_of⟩ := d1.ex
  obtain ⟨f2, fd2, G__law_draw, g__law_draw, kp__law_draw, b__law_draw⟩ := d2.ex
  obtain ⟨f3, fd3, G__law_pick, g__law_pick, kp__law_pick, b__law_pick⟩ := d3.ex
  obtain ⟨f4, fd4, G__law_world_of, g__law_world_of, kp__law_world_of, b__law_world_of⟩ := d4.ex
  obtain ⟨f5, fd5, G__law_guard_of, g__law_guard_of, kp__law_guard_of, b__law_guard_of⟩ := d5.ex
  obtain ⟨f6, fd6, G__law_first, g__law_first, kp__law_first, b__law_first⟩ := d6.ex
  obtain ⟨f7, fd7, G_first_pair, g_first_pair, kp_first_pair, b_first_pair⟩ := d7.ex
  obtain ⟨f8, fd8, G__law_refused, g__law_refused, kp__law_refused, b__law_refused⟩ := d8.ex
  obtain ⟨oc, od, kV, doc, pm, an, cdv, ct, osl, rfl, lk, hcd⟩ := F.ex
  refine LamX.run_ofS (k := 9) (us := [.ref a]) (vs := [.ref a]) lk hcd sc_law ⟨rfl, by decide, by decide⟩ e0 (hb s (.ref a)) (.cons rfl .nil) rfl fun hr => ?_
  have hu := hu_of hr
  refine ⟨_, PSs.nox ((pss_cons (ps_set (i := 1) sc_law.nd rfl (Or.inl rfl) (pe_call G__law_pen_of (hr.mono (by decide)) rfl g__law_pen_of kp__law_pen_of b__law_pen_of .nil pass0 (pa_cons (pv 0) pa_nil)))
        (pss_cons (ps_for PassesOwn.never rfl (pi_range1 rfl T.f_range (pa_cons pe_int pa_nil)) (pg_name (i := 2) sc_law.nd rfl (Or.inl rfl)) (pss_cons (ps_set (i := 3) sc_law.nd rfl (Or.inl rfl) (pe_op op_add pe_int (pe_call G__law_draw (hr.mono (by decide)) rfl g__law_draw kp__law_draw b__law_draw .nil pass0 (pa_cons (pv 1) (pa_cons pe_int pa_nil)))))
        (pss_cons (ps_set (i := 4) sc_law.nd rfl (Or.inl rfl) (pe_op op_add pe_int (pe_call G__law_draw (hr.mono (by decide)) rfl g__law_draw kp__law_draw b__law_draw .nil pass0 (pa_cons (pv 1) (pa_cons (pe_ifExp (pt_cmpR op_lt (pv 3) pe_int (nomark _)) pe_int pe_int) pa_nil)))))
        (pss_cons (ps_set (i := 5) sc_law.nd rfl (Or.inl rfl) (pe_call G__law_world_of (hr.mono (by decide)) rfl g__law_world_of kp__law_world_of b__law_world_of .nil pass0 (pa_cons (pv 1) (pa_cons (pv 3) (pa_cons (pe_op op_add pe_int (pe_call G__law_draw (hr.mono (by decide)) rfl g__law_draw kp__law_draw b__law_draw .nil pass0 (pa_cons (pv 1) (pa_cons pe_int pa_nil)))) (pa_cons (pv 4) pa_nil))))))
        (pss_cons (ps_par (i := 6) (j := 7) rfl sc_law.nd rfl rfl (by decide) rfl rfl (pa_cons (pe_call G__law_guard_of (hr.mono (by decide)) rfl g__law_guard_of kp__law_guard_of b__law_guard_of .nil pass0 (pa_cons (pv 5) pa_nil)) (pa_cons (pe_op op_add pe_int (pe_call G__law_draw (hr.mono (by decide)) rfl g__law_draw kp__law_draw b__law_draw .nil pass0 (pa_cons (pv 1) (pa_cons pe_int pa_nil)))) pa_nil)) (by rfl))
        (pss_cons (ps_set (i := 8) sc_law.nd rfl (Or.inl rfl) (pe_call G__law_first (hr.mono (by decide)) rfl g__law_first kp__law_first b__law_first .nil pass0 (pa_cons (pv 5) (pa_cons (pv 7) pa_nil))))
        (pss_cons (ps_if (PW.pt (pw_or (pt_cmpR op_ne (pe_call G_first_pair (hr.mono (by decide)) rfl g_first_pair kp_first_pair b_first_pair .nil passL (pa_cons (pv 6) (pa_cons (pv 7) pa_nil))) (pv 8) (nomark _)) (pw_or1 (PW.pt (pw_and (pt_cmpR op_notN (pv 8) pe_non (nomark _)) (pw_and1 (pt_cmpR (op_neD hr.units) (pe_tup (pa_cons (pe_call G_first_pair (hr.mono (by decide)) rfl g_first_pair kp_first_pair b_first_pair .nil passL (pa_cons (pv 6) (pa_cons (pv 8) pa_nil))) (pa_cons (pe_cmpR op_gt (pv 8) (pv 7) (nomark _)) pa_nil))) (pe_tup (pa_cons (pv 8) (pa_cons pe_bl pa_nil))) (nomark _)))))))) (pss_one (ps_ret pe_bl)) pss_nil)
        (pss_one (ps_if (PW.pt (pw_and (pt_cmpR op_notN (pv 8) pe_non (nomark _)) (pw_and (pt_cmpR op_gt (pv 8) pe_int (nomark _)) (pw_and1 (pt_cmpR op_notN (pe_call G_first_pair (hr.mono (by decide)) rfl g_first_pair kp_first_pair b_first_pair .nil passL (pa_cons (pv 6) (pa_cons (pe_op op_sub (pv 8) pe_int) pa_nil))) pe_non (nomark _)))))) (pss_one (ps_ret pe_bl)) pss_nil)))))))))
        (pss_cons (ps_set (i := 9) sc_law.nd rfl (Or.inl rfl) (pe_make TG.mkr G_ginit (hr.mono (by decide)) rfl TG.mgC b_ginit .nil pass0 (pa_cons pe_int (pa_cons (pe_tup (pa_cons (pe_tup (pa_cons pe_int (pa_cons pe_int pa_nil))) (pa_cons (pe_tup (pa_cons pe_int (pa_cons pe_int pa_nil))) pa_nil))) (pa_cons (pe_tup (pa_cons (pe_tup (pa_cons pe_int pa_nil)) (pa_cons (pe_tup (pa_cons pe_int pa_nil)) pa_nil))) (pa_cons (pe_tup (pa_cons pe_int (pa_cons pe_int pa_nil))) (pa_cons (pe_tup (pa_cons pe_int (pa_cons pe_int pa_nil))) pa_nil)))))))
        (pss_cons (ps_if (pt_cmpR (op_neD hr.units) (pe_lst (pa_cons (pe_call G_first_pair (hr.mono (by decide)) rfl g_first_pair kp_first_pair b_first_pair .nil passL (pa_cons (pv 9) (pa_cons pe_int pa_nil))) (pa_cons (pe_call G_first_pair (hr.mono (by decide)) rfl g_first_pair kp_first_pair b_first_pair .nil passL (pa_cons (pv 9) (pa_cons pe_int pa_nil))) (pa_cons (pe_call G_first_pair (hr.mono (by decide)) rfl g_first_pair kp_first_pair b_first_pair .nil passL (pa_cons (pv 9) (pa_cons pe_int pa_nil))) pa_nil)))) (pe_lst (pa_cons pe_non (pa_cons pe_int (pa_cons pe_int pa_nil)))) (nomark _)) (pss_one (ps_ret pe_bl)) pss_nil)
        (pss_cons (ps_set (i := 9) sc_law.nd rfl (Or.inl rfl) (pe_make TG.mkr G_ginit (hr.mono (by decide)) rfl TG.mgC b_ginit .nil pass0 (pa_cons pe_int (pa_cons (pe_tup (pa_cons (pe_tup (pa_cons pe_int (pa_cons pe_int pa_nil))) (pa_cons (pe_tup (pa_cons pe_int (pa_cons pe_int pa_nil))) pa_nil))) (pa_cons (pe_tup (pa_cons (pe_tup (pa_cons pe_int pa_nil)) (pa_cons (pe_tup (pa_cons pe_int pa_nil)) pa_nil))) (pa_cons (pe_tup (pa_cons pe_int (pa_cons pe_int pa_nil))) (pa_cons (pe_tup (pa_cons pe_int (pa_cons pe_int pa_nil))) pa_nil)))))))
        (pss_cons (ps_if (pt_cmpR op_notN (pe_call G_first_pair (hr.mono (by decide)) rfl g_first_pair kp_first_pair b_first_pair .nil passL (pa_cons (pv 9) (pa_cons pe_int pa_nil))) pe_non (nomark _)) (pss_one (ps_ret pe_bl)) pss_nil)
        (pss_cons (ps_set (i := 10) sc_law.nd rfl (Or.inl rfl) (pe_call G__law_pick (hr.mono (by decide)) rfl g__law_pick kp__law_pick b__law_pick .nil pass0 (pa_cons (pv 1) (pa_cons (pe_lst (pa_cons pe_int (pa_cons (pe_un un_neg pe_int) (pa_cons pe_int (pa_cons pe_bl (pa_cons pe_non (pa_cons pe_str (pa_cons (pe_lst (pa_cons pe_int pa_nil)) (pa_cons (pe_op op_pow pe_int pe_int) pa_nil))))))))) pa_nil))))
        (pss_one (ps_ret (pe_and (pe_cmpR op_eq (pe_callG G__law_refused (hr.mono (by decide)) rfl rfl g__law_refused kp__law_refused b__law_refused (pa_cons (pv 9) (pa_cons (pv 10) pa_nil))) (pe_callB (call_reprD rfl hr.units hS) rfl f_repr (by decide +kernel) (pa_cons (pv 10) pa_nil)) (nomark _)) (pe_one (pe_cmpR op_eq (pe_callG G__law_refused (hr.mono (by decide)) rfl rfl g__law_refused kp__law_refused b__law_refused (pa_cons (pv 9) (pa_cons pe_int pa_nil))) pe_str (nomark _)))))))))))))), ?_⟩
  refine ⟨_, rfl, a, ns, rfl, hL, fun p c ns' H1 s1 P1 => ?_⟩
  refine ⟨(6 : Int), rfl, by decide, by decide, ?_⟩
  refine for_it (walk_range (lo := 0) (n := 6)) (fun i σ H' => ∃ (x2 x3 x4 x5 x6 x7 x8 : Option V), σ = [some (.ref a), some (.ref p), x2, x3, x4, x5, x6, x7, x8, none, none] ∧ Pen H' p c ns' (2000 * i)) ⟨none, none, none, none, none, none, none, rfl, ⟨0, 0, P1, by decide⟩⟩ (fun _ _ _ _ _ => trivial) ?_ ?_
  · rintro i v σ H2 H2' hi ⟨x2, x3, x4, x5, x6, x7, x8, rfl, P2⟩ ⟨rfl, rfl⟩
    refine ⟨_, rfl, ?_⟩
    dsimp only [tNil, tCons, tC]
    refine draw_read P2 (by omega) (by omega) (by omega) fun d H3 d0 d1 P3 b3 => ⟨_, _, rfl, rfl, ?_⟩
    obtain ⟨most, hmost⟩ : ∃ most, most = 2 + d := ⟨_, rfl⟩
    have em : (fun i j => V.int (i + j)) 2 d = V.int most := congrArg V.int hmost.symm
    rw [em]
    have hm2 : 2 ≤ most := by omega
    have hm9 : most ≤ 9 := by omega
    clear em hmost d0 d1
    refine ⟨_, rfl, ?_⟩
    refine if_const (fun K hK => ⟨_, rfl, _, _, rfl, rfl, _, rfl, hK _⟩) fun v hv => ?_
    obtain ⟨wm, rfl, wm1, wm2⟩ : ∃ wm : Int, v = .int wm ∧ 1 ≤ wm ∧ wm ≤ 2 := by
      rcases hv with rfl | rfl
      · exact ⟨2, rfl, by decide, by decide⟩
      · exact ⟨1, rfl, by decide, by decide⟩
    dsimp only [tNil]
    refine draw_read P3 (by omega) (by omega) (by omega) fun dw H4 d0 d1 P4 b4 => ⟨_, _, rfl, rfl, ?_⟩
    obtain ⟨w, hw⟩ : ∃ w : Nat, (w : Int) = 1 + dw := ⟨(1 + dw).toNat, by omega⟩
    have ew : (fun i j => V.int (i + j)) 1 dw = V.int (w : Int) := congrArg V.int hw.symm
    rw [ew]
    have hw1 : 1 ≤ w := by omega
    have hw2 : w ≤ 2 := by omega
    clear ew hw d0 d1 hv wm1 wm2 b3 b4 P2
    refine ⟨_, rfl, _, rfl, _, rfl, ?_⟩
    dsimp only [tNil, tCons, tC]
    refine draw_read P4 (by omega) (by omega) (by omega) fun dn H5 d0 d1 P5 b5 => ⟨_, _, rfl, rfl, _, rfl, ?_⟩
    obtain ⟨n, hn⟩ : ∃ n : Nat, (n : Int) = 1 + dn := ⟨(1 + dn).toNat, by omega⟩
    refine ⟨p, c, ns', _, n, w, most, by show [V.ref p, V.int most, V.int (1 + dn), V.int (w : Int)] = _; rw [hn], P5, by omega, hm2, by omega, by omega, by omega, hw1, by omega, fun q H6 D b6 _ P6 hW ok en ew eM IA => ?_⟩
    have hD3 : D.n ≤ 3 := by omega
    have hDw : D.w ≤ 2 := by omega
    have hDM : D.M ≤ 12 := by omega
    clear hn d0 d1 b5 P5 P4 P3 b6 en ew
    refine ⟨_, rfl, q, D, rfl, hW, ok, fun g H7 s7 hG => ?_⟩
    have P7 := P6.same s7
    refine ⟨_, rfl, ?_⟩
    dsimp only [tNil, tCons, tC]
    refine draw_read P7 (by omega) (by omega) (by omega) fun dl H8 d0 d1 P8 b8 => ⟨_, _, rfl, rfl, _, _, rfl, ?_⟩
    obtain ⟨L, hL2⟩ : ∃ L : Nat, (L : Int) = 1 + dl := ⟨(1 + dl).toNat, by omega⟩
    have eL : (fun i j => V.int (i + j)) 1 dl = V.int (L : Int) := congrArg V.int hL2.symm
    have hL1 : 1 ≤ L := by omega
    have hL40 : L ≤ 40 := by omega
    have hG8 := hG.pen b8 P7
    have hW8 := (hW.same s7).pen b8 P7
    dsimp only [List.set_cons_succ, List.set_cons_zero]
    clear hL2 d0 d1 b8 P7 P6 s7 hW hG
    rw [show V.int (1 + dl) = V.int (L : Int) from eL]
    clear eL
    refine ⟨_, rfl, _, rfl, q, D, L, rfl, hW8, ok, hDM, by omega, hDw, by omega, fun due H9 s9 hdue => ?_⟩
    have hG9 := hG8.same s9
    have P9 := P8.same s9
    have nxt : ∀ (H' : Hp) (x2 x3 x4 x5 x6 x7 x8 : Option V), Pen H' p c ns' (2000 * i + 1204) → ∃ (y2 y3 y4 y5 y6 y7 y8 : Option V), ([some (.ref a), some (.ref p), x2, x3, x4, x5, x6, x7, x8, none, none] : L2.St) = [some (.ref a), some (.ref p), y2, y3, y4, y5, y6, y7, y8, none, none] ∧ Pen H' p c ns' (2000 * (i + 1)) := fun H' x2 x3 x4 x5 x6 x7 x8 h => ⟨_, _, _, _, _, _, _, rfl, h.le (by omega)⟩
    refine ⟨_, rfl, _, rfl, g, D, _, rfl, hG9, ok, by omega, .inl ⟨(L : Int), rfl, by omega, by omega, fun v H10 s10 hv => ?_⟩⟩
    obtain rfl : v = due := hv.one hdue
    have P10 := P9.same s10
    have hG10 := hG9.same s10
    rcases hdue with ⟨sz, rfl, z1, z2, z3, z4⟩ | ⟨rfl, hno⟩
    rotate_left
    · refine ⟨_, rfl, rfl, false, congrArg V.bl (by simp), iteF ?_⟩
      refine ⟨_, rfl, rfl, false, congrArg V.bl (by simp), iteF (iteF ?_)⟩
      refine ⟨_, rfl, rfl, false, congrArg V.bl (by simp), iteF (iteF ?_)⟩
      exact nxt _ _ _ _ _ _ _ _ (P10.le (by omega))
    refine ⟨_, rfl, rfl, false, congrArg V.bl (by simp), iteF ?_⟩
    refine ⟨_, rfl, rfl, true, congrArg V.bl (by simp), iteT ?_⟩
    refine ⟨_, rfl, _, rfl, g, D, _, rfl, hG10, ok, by omega, .inl ⟨(sz : Int), rfl, by omega, by omega, fun v H11 s11 hv => ?_⟩⟩
    obtain rfl := hv.one (.inl ⟨sz, rfl, z1, Int.le_refl _, z3, z4⟩)
    have P11 := P10.same s11
    have hG11 := hG10.same s11
    have ed : (fun i j => V.bl (decide (j < i))) (sz : Int) (L : Int) = V.bl false := congrArg V.bl (decide_eq_false (by omega))
    refine ⟨_, rfl, _, rfl, _, _, rfl, rfl, by show 2 ≤ sizeLine; decide, fun t1 nt1 => ?_⟩
    rw [ed]
    refine ⟨_, rfl, by show 2 ≤ sizeLine; decide, fun t2 nt2 => ?_⟩
    have u1 := same_upd (o := .tup [V.int (sz : Int), V.bl false]) nt1
    have u2 := same_upd (o := .tup [V.int (sz : Int), V.bl false]) nt2
    have g1 : (upd (upd H11 t1 (.tup [V.int (sz : Int), V.bl false])) t2 (.tup [V.int (sz : Int), V.bl false])) t1 = some (.tup [V.int (sz : Int), V.bl false]) := u2 _ _ upd_same
    have g2 : (upd (upd H11 t1 (.tup [V.int (sz : Int), V.bl false])) t2 (.tup [V.int (sz : Int), V.bl false])) t2 = some (.tup [V.int (sz : Int), V.bl false]) := upd_same
    have u12 := same_trans u1 u2
    revert g1 g2 u12
    generalize upd (upd H11 t1 (.tup [V.int (sz : Int), V.bl false])) t2 (.tup [V.int (sz : Int), V.bl false]) = H12
    intro g1 g2 u12
    have P12 := P11.same u12
    have hG12 := hG11.same u12
    refine ⟨.tuple [.int (sz : Int), .bool false], .tuple [.int (sz : Int), .bool false], .tup (SqT.of g1) (.cons (.int _) (.cons (.bl _) .nil)), .tup (SqT.of g2) (.cons (.int _) (.cons (.bl _) .nil)), by rfl, by rfl, false, congrArg V.bl (by simp [PyData.eqv, PyData.eqvAll]), iteF ?_⟩
    refine ⟨_, rfl, rfl, true, congrArg V.bl (by simp), iteT ?_⟩
    refine ⟨_, rfl, _, _, rfl, rfl, ?_⟩
    by_cases c1 : (1 : Int) < (sz : Int)
    · refine ⟨true, congrArg V.bl (decide_eq_true c1), iteT ?_⟩
      have e1 : (sz : Int) - 1 = ((sz - 1 : Nat) : Int) := by omega
      refine ⟨_, rfl, _, rfl, _, _, rfl, rfl, g, D, _, rfl, hG12, ok, by omega, .inl ⟨((sz - 1 : Nat) : Int), congrArg V.int e1, by omega, by omega, fun v H13 s13 hv => ?_⟩⟩
      obtain rfl := hv.one (.inr ⟨rfl, fun t h1 h2 => z4 t h1 (by omega)⟩)
      refine ⟨rfl, false, congrArg V.bl (by simp), iteF ?_⟩
      exact nxt _ _ _ _ _ _ _ _ ((P12.same s13).le (by omega))
    · refine ⟨false, congrArg V.bl (decide_eq_false c1), iteF (iteF ?_)⟩
      exact nxt _ _ _ _ _ _ _ _ (P12.le (by omega))
  · rintro σ H2 ⟨x2, x3, x4, x5, x6, x7, x8, rfl, P2⟩
    have ok1 : GOk (sumsD 65535 0) := sums_ok (by decide) (by decide) (by decide) (by decide)
    unfold tSeq tAsg
    dsimp only
    refine sums_read ok1 fun g H3 s3 hG => ?_
    have P3 := P2.same s3
    have se : ∀ t : Nat, 1 ≤ t → t < 3 → PSeen (sumsD 65535 0) t := fun t h1 h2 => sums_seen ok1 h1 (by
      obtain rfl | rfl : t = 1 ∨ t = 2 := by omega
      · decide +kernel
      · decide +kernel)
    have w8 : (sumsD 65535 0).w ≤ 8 := (show 1 ≤ 8 by decide)
    have f2 : ∀ v, FirstP (sumsD 65535 0) 2 v → v = .non := fun v hv => hv.one (.inr ⟨rfl, fun t h1 h2 => se t h1 (by omega)⟩)
    have f3 : ∀ (m : Int) v, 3 ≤ m → FirstP (sumsD 65535 0) m v → v = .int 3 := fun m v hm hv => hv.one (.inl ⟨3, rfl, by decide, hm, sums_un ok1, se⟩)
    refine ⟨_, rfl, g, _, _, rfl, hG, ok1, w8, .inl ⟨2, rfl, by decide, by decide, fun v H4 s4 hv => ?_⟩⟩
    obtain rfl := f2 v hv
    have hG4 := hG.same s4
    refine ⟨_, rfl, g, _, _, rfl, hG4, ok1, w8, .inl ⟨3, rfl, by decide, by decide, fun v H5 s5 hv => ?_⟩⟩
    obtain rfl := f3 3 v (by decide) hv
    have hG5 := hG4.same s5
    refine ⟨_, rfl, g, _, _, rfl, hG5, ok1, w8, .inl ⟨2000, rfl, by decide, by decide, fun v H6 s6 hv => ?_⟩⟩
    obtain rfl := f3 2000 v (by decide) hv
    have P6 := P3.same (same_trans s4 (same_trans s5 s6))
    clear hG hG4 hG5 s3 s4 s5 s6 P3 P2 se f2 f3 ok1 w8
    refine ⟨by show 3 ≤ sizeLine; decide, fun l1 n1 => ?_⟩
    refine ⟨by show 3 ≤ sizeLine; decide, fun l2 n2 => ?_⟩
    have u1 := same_upd (o := .lst [V.non, V.int 3, V.int 3]) n1
    have u2 := same_upd (o := .lst [V.non, V.int 3, V.int 3]) n2
    have g1 := u2 _ _ (upd_same (H := H6) (a := l1) (o := .lst [V.non, V.int 3, V.int 3]))
    have g2 := upd_same (H := upd H6 l1 (.lst [V.non, V.int 3, V.int 3])) (a := l2) (o := .lst [V.non, V.int 3, V.int 3])
    have P7 := (P6.same u1).same u2
    revert g1 g2 P7
    generalize upd (upd H6 l1 (.lst [V.non, V.int 3, V.int 3])) l2 (.lst [V.non, V.int 3, V.int 3]) = H7
    intro g1 g2 P7
    clear u1 u2 n1 n2 P6
    refine ⟨.list [.none, .int 3, .int 3], .list [.none, .int 3, .int 3], .lst (SqL.of g1) (.cons .non (.cons (.int _) (.cons (.int _) .nil))), .lst (SqL.of g2) (.cons .non (.cons (.int _) (.cons (.int _) .nil))), by rfl, by rfl, false, congrArg V.bl (by decide +kernel), iteF ?_⟩
    clear g1 g2
    unfold tNext
    dsimp only
    have ok1 : GOk (sumsD 65521 1) := sums_ok (by decide) (by decide) (by decide) (by decide)
    refine sums_read ok1 fun g H8 s8 hG => ?_
    have P8 := P7.same s8
    have w8 : (sumsD 65521 1).w ≤ 8 := (show 1 ≤ 8 by decide)
    have se : ∀ t : Nat, 1 ≤ t → (t : Int) ≤ 100 → PSeen (sumsD 65521 1) t := fun t h1 h2 => sums_seen ok1 h1 (by
      rcases gcd_100 ⟨t, by omega⟩ with z | z
      · have : t = 0 := z
        omega
      · exact z)
    refine ⟨_, rfl, g, _, _, rfl, hG, ok1, w8, .inl ⟨100, rfl, by decide, by decide, fun v H9 s9 hv => ?_⟩⟩
    obtain rfl := hv.one (.inr ⟨rfl, se⟩)
    have hG9 := hG.same s9
    have P9 := P8.same s9
    clear hG P8 P7 s8 se
    refine ⟨rfl, false, congrArg V.bl (by simp), iteF ?_⟩
    dsimp only
    refine ⟨_, rfl, _, rfl, by show 1 ≤ sizeLine; decide, fun l6 h6 => ?_⟩
    refine ⟨_, _, rfl, rfl, ⟨by decide, by decide, by decide⟩, by show 8 ≤ sizeLine; decide, fun L hL => ?_⟩
    dsimp only [tNil]
    have u1 := same_upd (o := .lst [V.int 3]) h6
    have g1 := upd_same (H := H9) (a := l6) (o := .lst [V.int 3])
    have P10 := P9.same u1
    have hG10 := hG9.same u1
    revert hL g1 P10 hG10
    generalize upd H9 l6 (.lst [V.int 3]) = H10
    intro hL g1 P10 hG10
    clear u1 h6 P9 hG9
    obtain ⟨xs, hxs⟩ : ∃ xs : List V, xs = [V.int 0, V.int (-1), V.int 2001, V.bl true, V.non, V.str (Str.ofString "3"), V.ref l6, V.int (10 ^ (30 : Int).toNat)] := ⟨_, rfl⟩
    rw [← hxs]
    have u1 := same_upd (o := .lst xs) hL
    have gx := upd_same (H := H10) (a := L) (o := .lst xs)
    have P11 := P10.same u1
    have hG11 := hG10.same u1
    have g11 := u1 _ _ g1
    revert gx P11 hG11 g11
    generalize upd H10 L (.lst xs) = H11
    intro gx P11 hG11 g11
    clear u1 hL P10 hG10 g1
    refine pick_read P11 (by omega) gx (by rw [hxs]; exact fun z => by cases z) (by rw [hxs]; show 8 ≤ 100000; decide) fun v H12 hv P12 b12 => ?_
    have hG12 := hG11.pen b12 P11
    have g12 : H12 l6 = some (.lst [V.int 3]) := b12 _ _ (fun z => by
      obtain ⟨i, l, a, _⟩ := id P11
      rw [z, a.pen] at g11
      cases g11) g11
    clear b12 P11 hG11 g11 gx P12
    have odds : ∃ d : PyData, NoW K H12 v 1 2000 ∧ Dq H12 v d ∧ d.showable = true ∧ d.depth ≤ 60 ∧ d.shown.length ≤ sizeLine := by
      rw [hxs] at hv
      simp only [List.mem_cons, List.not_mem_nil, or_false] at hv
      rcases hv with rfl | rfl | rfl | rfl | rfl | rfl | rfl | rfl
      · exact ⟨.int 0, .inl ⟨0, rfl, by decide⟩, .int 0, by decide +kernel, by decide +kernel, by decide +kernel⟩
      · exact ⟨.int (-1), .inl ⟨-1, rfl, by decide⟩, .int (-1), by decide +kernel, by decide +kernel, by decide +kernel⟩
      · exact ⟨.int 2001, .inl ⟨2001, rfl, by decide⟩, .int 2001, by decide +kernel, by decide +kernel, by decide +kernel⟩
      · exact ⟨.bool true, .inr (.bl true), .bl true, by decide +kernel, by decide +kernel, by decide +kernel⟩
      · exact ⟨.none, .inr .non, .non, by decide +kernel, by decide +kernel, by decide +kernel⟩
      · exact ⟨.str (Str.ofString "3"), .inr (.str _), .str _, by decide +kernel, by decide +kernel, by decide +kernel⟩
      · exact ⟨.list [.int 3], .inr (.lst g12), .lst g12 (.cons (.int 3) .nil), by decide +kernel, by decide +kernel, by decide +kernel⟩
      · exact ⟨.int (10 ^ (30 : Int).toNat), .inl ⟨_, rfl, by decide +kernel⟩, .int _, by decide +kernel, by decide +kernel, by decide +kernel⟩
    obtain ⟨d, o1, o2, o3, o4, o5⟩ := odds
    clear hv hxs g12
    refine ⟨_, rfl, _, rfl, g, _, v, d, rfl, hG12, ok1, w8, o1, o2, o3, o4, o5, fun H13 s13 => ?_⟩
    refine ⟨_, rfl, v, d, rfl, o2.same s13, o3, o4, o5, rfl, true, congrArg V.bl (decide_eq_true rfl), iteT ?_⟩
    refine ⟨_, rfl, g, _, .int 0, .int 0, rfl, hG12.same s13, ok1, w8, .inl ⟨0, rfl, by decide⟩, .int 0, by decide +kernel, by decide +kernel, by decide +kernel, fun H14 s14 => ⟨rfl, ?_⟩⟩
    exact congrArg V.bl (decide_eq_true (congrArg V.str (by decide +kernel)))
end
end Wk

namespace Wk
open PySem PySem.Spec PyProof.Rows L2
theorem fun_at {K : PySem.W.Frag} {x qual : Str} {st : Stmt} {f : Addr} {fd : FuncData} (F : FunD K x qual (defArgs st) (defBody st) (defScope st) [] [] f fd) : Fun K x qual st f fd := by
  obtain ⟨oc, od, dV, kV, doc, pm, an, cdv, ct, osl, e, l, c, hd, _⟩ := F.ex
  rcases hd with ⟨_, e2⟩ | ⟨e2, _⟩
  · subst e2
    exact ⟨⟨oc, od, kV, doc, pm, an, cdv, ct, osl, e, l, c⟩, F.kp⟩
  · exact absurd rfl e2
section
variable {w : World} {K : PySem.W.Frag} {mg : Str → Option Value} {h : Heap}
theorem law_at (X : K.In h) (G : h.Ns mainGlobals mg) {fL : Addr} (hfa : mg "law" = some (.ref fL)) (c : He.SaysX fas fns [] [] exB w h K) {base : Heap} (hm : ∃ o es m, h.get? sysModules = some o ∧ o.data = .dict es m) (bb : ∀ b o, h.get? b = some o → (∀ us m, o.data ≠ .seq us m) → base.get? b = some o) {s : Shared} {H : Hp} {a : Addr} {ns : List Int}
    (e0 : Env0 PySem.Challenge.rw_guardsums_k33_first_pairs.prog w K mg base callerA [] s H) (hL : SqL K H a (ns.map V.int)) :
    codeAny (model PySem.Challenge.rw_guardsums_k33_first_pairs.prog w) callerA (.call (.ref fL) ⟨[.ref a], []⟩) (CR CX0 [] PySem.Challenge.rw_guardsums_k33_first_pairs.prog w H s (fun v _ => v = .bl true) E0) s := by
  have cd := c.t.d
  have eL := hfa.symm.trans (He.glo_ok X G (cd.fact 59 (f := .glo "law") rfl))
  cases eL
  have hS : ∃ o es m, base.get? sysModules = some o ∧ o.data = .dict es m := by
    obtain ⟨o, es, m, e, d⟩ := hm
    exact ⟨o, es, m, bb _ _ e (fun us n z => by rw [d] at z; cases z), d⟩
  obtain ⟨d_Stairs_init, F_Stairs_init⟩ := cd.def_ 0 (d := mkM "Stairs" "__init__" "Stairs.__init__" h_Stairs_init) rfl
  obtain ⟨d_Stairs_put, F_Stairs_put⟩ := cd.def_ 1 (d := mkM "Stairs" "put" "Stairs.put" h_Stairs_put) rfl
  obtain ⟨d_Stairs_put_at, F_Stairs_put_at⟩ := cd.def_ 2 (d := mkM "Stairs" "put_at" "Stairs.put_at" h_Stairs_put_at) rfl
  obtain ⟨d_Stairs_settled, F_Stairs_settled⟩ := cd.def_ 3 (d := mkM "Stairs" "settled" "Stairs.settled" h_Stairs_settled) rfl
  obtain ⟨d_Guard_init, F_Guard_init⟩ := cd.def_ 4 (d := mkM "Guard" "__init__" "Guard.__init__" h_Guard_init) rfl
  obtain ⟨d_BadSize_init, F_BadSize_init⟩ := cd.def_ 5 (d := mkM "BadSize" "__init__" "BadSize.__init__" h_BadSize_init) rfl
  obtain ⟨d_bezout, F_bezout⟩ := cd.def_ 6 (d := mkD "bezout" h_bezout) rfl
  obtain ⟨d_multiple, F_multiple⟩ := cd.def_ 7 (d := mkD "multiple" h_multiple) rfl
  obtain ⟨d_combined, F_combined⟩ := cd.def_ 8 (d := mkD "combined" h_combined) rfl
  obtain ⟨d_applied, F_applied⟩ := cd.def_ 9 (d := mkD "applied" h_applied) rfl
  obtain ⟨d_transposed, F_transposed⟩ := cd.def_ 10 (d := mkD "transposed" h_transposed) rfl
  obtain ⟨d_unit, F_unit⟩ := cd.def_ 11 (d := mkD "unit" h_unit) rfl
  obtain ⟨d_undone, F_undone⟩ := cd.def_ 12 (d := mkD "undone" h_undone) rfl
  obtain ⟨d_is_integer, F_is_integer⟩ := cd.def_ 13 (d := mkD "is_integer" h_is_integer) rfl
  obtain ⟨d_is_within, F_is_within⟩ := cd.def_ 14 (d := mkD "is_within" h_is_within) rfl
  obtain ⟨d_is_list, F_is_list⟩ := cd.def_ 15 (d := mkD "is_list" h_is_list) rfl
  obtain ⟨d_wrong_number, F_wrong_number⟩ := cd.def_ 16 (d := mkD "wrong_number" h_wrong_number) rfl
  obtain ⟨d_wrong_row, F_wrong_row⟩ := cd.def_ 17 (d := mkD "wrong_row" h_wrong_row) rfl
  obtain ⟨d_marked, F_marked⟩ := cd.def_ 18 (d := mkD "marked" h_marked) rfl
  obtain ⟨d_solved, F_solved⟩ := cd.def_ 19 (d := mkD "solved" h_solved) rfl
  obtain ⟨d_kernel_of, F_kernel_of⟩ := cd.def_ 20 (d := mkD "kernel_of" h_kernel_of) rfl
  obtain ⟨d_first_pair, F_first_pair⟩ := cd.def_ 21 (d := mkD "first_pair" h_first_pair) rfl
  obtain ⟨d_spans_all, F_spans_all⟩ := cd.def_ 22 (d := mkD "spans_all" h_spans_all) rfl
  obtain ⟨d_check_modulus, F_check_modulus⟩ := cd.def_ 23 (d := mkD "check_modulus" h_check_modulus) rfl
  obtain ⟨d_checked_matrix, F_checked_matrix⟩ := cd.def_ 24 (d := mkD "checked_matrix" h_checked_matrix) rfl
  obtain ⟨d_checked_columns, F_checked_columns⟩ := cd.def_ 25 (d := mkD "checked_columns" h_checked_columns) rfl
  obtain ⟨d_law_pen_of, F_law_pen_of⟩ := cd.def_ 26 (d := mkD "_law_pen_of" h_law_pen_of) rfl
  obtain ⟨d_law_draw, F_law_draw⟩ := cd.def_ 27 (d := mkD "_law_draw" h_law_draw) rfl
  obtain ⟨d_law_pick, F_law_pick⟩ := cd.def_ 28 (d := mkD "_law_pick" h_law_pick) rfl
  obtain ⟨d_law_matrix_of, F_law_matrix_of⟩ := cd.def_ 29 (d := mkD "_law_matrix_of" h_law_matrix_of) rfl
  obtain ⟨d_law_common, F_law_common⟩ := cd.def_ 30 (d := mkD "_law_common" h_law_common) rfl
  obtain ⟨d_law_identity, F_law_identity⟩ := cd.def_ 31 (d := mkD "_law_identity" h_law_identity) rfl
  obtain ⟨d_law_undone_of, F_law_undone_of⟩ := cd.def_ 32 (d := mkD "_law_undone_of" h_law_undone_of) rfl
  obtain ⟨d_law_applied, F_law_applied⟩ := cd.def_ 33 (d := mkD "_law_applied" h_law_applied) rfl
  obtain ⟨d_law_product, F_law_product⟩ := cd.def_ 34 (d := mkD "_law_product" h_law_product) rfl
  obtain ⟨d_law_rows_all, F_law_rows_all⟩ := cd.def_ 35 (d := mkD "_law_rows_all" h_law_rows_all) rfl
  obtain ⟨d_law_world_of, F_law_world_of⟩ := cd.def_ 36 (d := mkD "_law_world_of" h_law_world_of) rfl
  obtain ⟨d_law_guard_of, F_law_guard_of⟩ := cd.def_ 37 (d := mkD "_law_guard_of" h_law_guard_of) rfl
  obtain ⟨d_law_beside, F_law_beside⟩ := cd.def_ 38 (d := mkD "_law_beside" h_law_beside) rfl
  obtain ⟨d_law_is_passed, F_law_is_passed⟩ := cd.def_ 39 (d := mkD "_law_is_passed" h_law_is_passed) rfl
  obtain ⟨d_law_first, F_law_first⟩ := cd.def_ 40 (d := mkD "_law_first" h_law_first) rfl
  obtain ⟨d_law_refused, F_law_refused⟩ := cd.def_ 41 (d := mkD "_law_refused" h_law_refused) rfl
  obtain ⟨d_law, F_law⟩ := cd.def_ 42 (d := mkD "law" h_law) rfl
  have b_Stairs_init : Binds K d_Stairs_init ["self", "modulus", "places"] [] := (FunD.bindsN F_Stairs_init fun _ _ _ _ _ _ us hl => match us, hl with | [_, _, _], _ => rfl)
  have b_Stairs_put : Binds K d_Stairs_put ["self", "row"] [] := (FunD.bindsN F_Stairs_put fun _ _ _ _ _ _ us hl => match us, hl with | [_, _], _ => rfl)
  have b_Stairs_put_at : Binds K d_Stairs_put_at ["self", "place", "row"] [] := (FunD.bindsN F_Stairs_put_at fun _ _ _ _ _ _ us hl => match us, hl with | [_, _, _], _ => rfl)
  have b_Stairs_settled : Binds K d_Stairs_settled ["self"] [] := (FunD.bindsN F_Stairs_settled fun _ _ _ _ _ _ us hl => match us, hl with | [_], _ => rfl)
  have b_Guard_init : Binds K d_Guard_init ["self", "modulus", "matrix", "columns", "start", "end"] [] := (FunD.bindsN F_Guard_init fun _ _ _ _ _ _ us hl => match us, hl with | [_, _, _, _, _, _], _ => rfl)
  have b_BadSize_init : Binds K d_BadSize_init ["self", "size"] [] := (FunD.bindsN F_BadSize_init fun _ _ _ _ _ _ us hl => match us, hl with | [_, _], _ => rfl)
  have b_bezout : Binds K d_bezout ["one", "other"] [] := (FunD.bindsN F_bezout fun _ _ _ _ _ _ us hl => match us, hl with | [_, _], _ => rfl)
  have b_multiple : Binds K d_multiple ["modulus", "factor", "row"] [] := (FunD.bindsN F_multiple fun _ _ _ _ _ _ us hl => match us, hl with | [_, _, _], _ => rfl)
  have b_combined : Binds K d_combined ["modulus", "factor", "row", "other_factor", "other"] [] := (FunD.bindsN F_combined fun _ _ _ _ _ _ us hl => match us, hl with | [_, _, _, _, _], _ => rfl)
  have b_applied : Binds K d_applied ["modulus", "matrix", "row"] [] := (FunD.bindsN F_applied fun _ _ _ _ _ _ us hl => match us, hl with | [_, _, _], _ => rfl)
  have b_transposed : Binds K d_transposed ["matrix"] [] := (FunD.bindsN F_transposed fun _ _ _ _ _ _ us hl => match us, hl with | [_], _ => rfl)
  have b_unit : Binds K d_unit ["size", "place"] [] := (FunD.bindsN F_unit fun _ _ _ _ _ _ us hl => match us, hl with | [_, _], _ => rfl)
  have b_undone : Binds K d_undone ["modulus", "matrix"] [] := (FunD.bindsN F_undone fun _ _ _ _ _ _ us hl => match us, hl with | [_, _], _ => rfl)
  have b_is_integer : Binds K d_is_integer ["value"] [] := (FunD.bindsN F_is_integer fun _ _ _ _ _ _ us hl => match us, hl with | [_], _ => rfl)
  have b_is_within : Binds K d_is_within ["value", "least", "most"] [] := (FunD.bindsN F_is_within fun _ _ _ _ _ _ us hl => match us, hl with | [_, _, _], _ => rfl)
  have b_is_list : Binds K d_is_list ["value"] [] := (FunD.bindsN F_is_list fun _ _ _ _ _ _ us hl => match us, hl with | [_], _ => rfl)
  have b_wrong_number : Binds K d_wrong_number ["numbers", "many", "modulus"] [] := (FunD.bindsN F_wrong_number fun _ _ _ _ _ _ us hl => match us, hl with | [_, _, _], _ => rfl)
  have b_wrong_row : Binds K d_wrong_row ["rows", "many", "width", "modulus"] [] := (FunD.bindsN F_wrong_row fun _ _ _ _ _ _ us hl => match us, hl with | [_, _, _, _], _ => rfl)
  have b_marked : Binds K d_marked ["modulus", "rows", "index"] [] := (FunD.bindsN F_marked fun _ _ _ _ _ _ us hl => match us, hl with | [_, _, _], _ => rfl)
  have b_solved : Binds K d_solved ["modulus", "columns"] [] := (FunD.bindsN F_solved fun _ _ _ _ _ _ us hl => match us, hl with | [_, _], _ => rfl)
  have b_kernel_of : Binds K d_kernel_of ["modulus", "matrix"] [] := (FunD.bindsN F_kernel_of fun _ _ _ _ _ _ us hl => match us, hl with | [_, _], _ => rfl)
  have b_first_pair : Binds K d_first_pair ["guard", "most"] [] := (FunD.bindsN F_first_pair fun _ _ _ _ _ _ us hl => match us, hl with | [_, _], _ => rfl)
  have b_spans_all : Binds K d_spans_all ["modulus", "rows", "width"] [] := (FunD.bindsN F_spans_all fun _ _ _ _ _ _ us hl => match us, hl with | [_, _, _], _ => rfl)
  have b_check_modulus : Binds K d_check_modulus ["modulus"] [] := (FunD.bindsN F_check_modulus fun _ _ _ _ _ _ us hl => match us, hl with | [_], _ => rfl)
  have b_checked_matrix : Binds K d_checked_matrix ["rows", "size", "modulus"] [] := (FunD.bindsN F_checked_matrix fun _ _ _ _ _ _ us hl => match us, hl with | [_, _, _], _ => rfl)
  have b_checked_columns : Binds K d_checked_columns ["rows", "size", "modulus"] [] := (FunD.bindsN F_checked_columns fun _ _ _ _ _ _ us hl => match us, hl with | [_, _, _], _ => rfl)
  have b_law_pen_of : Binds K d_law_pen_of ["_law_script"] [] := (FunD.bindsN F_law_pen_of fun _ _ _ _ _ _ us hl => match us, hl with | [_], _ => rfl)
  have b_law_draw : Binds K d_law_draw ["_law_pen", "_law_many"] [] := (FunD.bindsN F_law_draw fun _ _ _ _ _ _ us hl => match us, hl with | [_, _], _ => rfl)
  have b_law_pick : Binds K d_law_pick ["_law_pen", "_law_items"] [] := (FunD.bindsN F_law_pick fun _ _ _ _ _ _ us hl => match us, hl with | [_, _], _ => rfl)
  have b_law_matrix_of : Binds K d_law_matrix_of ["_law_pen", "_law_modulus", "_law_height", "_law_width"] [] := (FunD.bindsN F_law_matrix_of fun _ _ _ _ _ _ us hl => match us, hl with | [_, _, _, _], _ => rfl)
  have b_law_common : Binds K d_law_common ["_law_one", "_law_other"] [] := (FunD.bindsN F_law_common fun _ _ _ _ _ _ us hl => match us, hl with | [_, _], _ => rfl)
  have b_law_identity : Binds K d_law_identity ["_law_size"] [] := (FunD.bindsN F_law_identity fun _ _ _ _ _ _ us hl => match us, hl with | [_], _ => rfl)
  have b_law_undone_of : Binds K d_law_undone_of ["_law_pen", "_law_modulus", "_law_size"] [] := (FunD.bindsN F_law_undone_of fun _ _ _ _ _ _ us hl => match us, hl with | [_, _, _], _ => rfl)
  have b_law_applied : Binds K d_law_applied ["_law_modulus", "_law_matrix", "_law_row"] [] := (FunD.bindsN F_law_applied fun _ _ _ _ _ _ us hl => match us, hl with | [_, _, _], _ => rfl)
  have b_law_product : Binds K d_law_product ["_law_modulus", "_law_one", "_law_other"] [] := (FunD.bindsN F_law_product fun _ _ _ _ _ _ us hl => match us, hl with | [_, _, _], _ => rfl)
  have b_law_rows_all : Binds K d_law_rows_all ["_law_modulus", "_law_width"] [] := (FunD.bindsN F_law_rows_all fun _ _ _ _ _ _ us hl => match us, hl with | [_, _], _ => rfl)
  have b_law_world_of : Binds K d_law_world_of ["_law_pen", "_law_most", "_law_size", "_law_width"] [] := (FunD.bindsN F_law_world_of fun _ _ _ _ _ _ us hl => match us, hl with | [_, _, _, _], _ => rfl)
  have b_law_guard_of : Binds K d_law_guard_of ["_law_world"] [] := (FunD.bindsN F_law_guard_of fun _ _ _ _ _ _ us hl => match us, hl with | [_], _ => rfl)
  have b_law_beside : Binds K d_law_beside ["_law_one", "_law_other"] [] := (FunD.bindsN F_law_beside fun _ _ _ _ _ _ us hl => match us, hl with | [_, _], _ => rfl)
  have b_law_is_passed : Binds K d_law_is_passed ["_law_modulus", "_law_matrix"] [] := (FunD.bindsN F_law_is_passed fun _ _ _ _ _ _ us hl => match us, hl with | [_, _], _ => rfl)
  have b_law_first : Binds K d_law_first ["_law_world", "_law_most"] [] := (FunD.bindsN F_law_first fun _ _ _ _ _ _ us hl => match us, hl with | [_, _], _ => rfl)
  have b_law_refused : Binds K d_law_refused ["_law_guard", "_law_value"] [] := (FunD.bindsN F_law_refused fun _ _ _ _ _ _ us hl => match us, hl with | [_, _], _ => rfl)
  have EX_BadSize : Err1 K mg "BadSize" "size" (He.ga K "BadSize") (He.ma K (He.ga K "BadSize") "__init__") (He.ga K "SumsError") := { g := (He.glo_ok X G (cd.fact 21 (f := .glo "BadSize") rfl)), o := ⟨oexB_ok (of_decide_eq_true (ex_at c.more 8)), (of_decide_eq_true (ex_at c.more 9)), (of_decide_eq_true (ex_at c.more 10)), (of_decide_eq_true (ex_at c.more 11)), (of_decide_eq_true (ex_at c.more 12))⟩, i := (of_decide_eq_true (ex_at c.more 16)), t := (of_decide_eq_true (ex_at c.more 17)), no := (of_decide_eq_true (ex_at c.more 18)), ec := excB_ok (of_decide_eq_true (ex_at c.more 13)), xf := xfB_ok (of_decide_eq_true (ex_at c.more 14)), kS := (of_decide_eq_true (ex_at c.more 15)) }
  have G_BadSize_init := okE_BadSize (P := PySem.Challenge.rw_guardsums_k33_first_pairs.prog) (w0 := w) (base := base) F_BadSize_init EX_BadSize
  have TM : TxtM mg := ⟨(He.free_ok X G (cd.fact 66 (f := .free "tuple") rfl)), (He.free_ok X G (cd.fact 71 (f := .free "zip") rfl)), (He.free_ok X G (cd.fact 70 (f := .free "sum") rfl)), (He.free_ok X G (cd.fact 63 (f := .free "range") rfl)), (He.free_ok X G (cd.fact 68 (f := .free "len") rfl))⟩
  have TA : TxtA mg := ⟨(He.free_ok X G (cd.fact 61 (f := .free "int") rfl)), (He.free_ok X G (cd.fact 68 (f := .free "len") rfl)), (He.free_ok X G (cd.fact 69 (f := .free "abs") rfl))⟩
  have TL : TxtL mg := ⟨(He.free_ok X G (cd.fact 66 (f := .free "tuple") rfl)), (He.free_ok X G (cd.fact 67 (f := .free "list") rfl)), (He.free_ok X G (cd.fact 61 (f := .free "int") rfl)), (He.free_ok X G (cd.fact 71 (f := .free "zip") rfl)), (He.free_ok X G (cd.fact 70 (f := .free "sum") rfl)), (He.free_ok X G (cd.fact 63 (f := .free "range") rfl)), (He.free_ok X G (cd.fact 68 (f := .free "len") rfl)), (He.free_ok X G (cd.fact 75 (f := .free "min") rfl)), (He.free_ok X G (cd.fact 76 (f := .free "max") rfl)), (He.free_ok X G (cd.fact 64 (f := .free "all") rfl)), (He.free_ok X G (cd.fact 69 (f := .free "abs") rfl)), (He.free_ok X G (cd.fact 60 (f := .free "isinstance") rfl))⟩
  have FAny := (He.free_ok X G (cd.fact 65 (f := .free "any") rfl))
  have FAll := (He.free_ok X G (cd.fact 64 (f := .free "all") rfl))
  have FP := (He.free_ok X G (cd.fact 74 (f := .free "repr") rfl))
  have GMP := He.int_ok X G (cd.fact 83 (f := .int "MOST_PAIR" 2000) rfl)
  have TS : TxtS K mg (He.ga K "Stairs") (He.ma K (He.ga K "Stairs") "__init__") (He.ma K (He.ga K "Stairs") "put") (He.ma K (He.ga K "Stairs") "put_at") (He.ma K (He.ga K "Stairs") "settled") := { cl := He.cls_ok (cd.fact 0 (f := .cls "Stairs") rfl), nM := He.noat_ok (cd.fact 1 (f := .noat "Stairs" "modulus") rfl), nS := He.noat_ok (cd.fact 2 (f := .noat "Stairs" "steps") rfl), mgC := (He.glo_ok X G (cd.fact 7 (f := .glo "Stairs") rfl)), mkr := He.mkr_ok (cd.fact 3 (f := .mkr "Stairs") rfl), m_put := (He.meth_ok (cd.fact 4 (f := .meth "Stairs" "put") rfl)), m_put_at := (He.meth_ok (cd.fact 5 (f := .meth "Stairs" "put_at") rfl)), m_settled := (He.meth_ok (cd.fact 6 (f := .meth "Stairs" "settled") rfl)), f_tuple := (He.free_ok X G (cd.fact 66 (f := .free "tuple") rfl)), f_range := (He.free_ok X G (cd.fact 63 (f := .free "range") rfl)), f_len := (He.free_ok X G (cd.fact 68 (f := .free "len") rfl)), f_reversed := (He.free_ok X G (cd.fact 73 (f := .free "reversed") rfl)), f_list := (He.free_ok X G (cd.fact 67 (f := .free "list") rfl)), f_enumerate := (He.free_ok X G (cd.fact 72 (f := .free "enumerate") rfl)) }
  have TG : TxtGd K mg (He.ga K "Guard") (He.ma K (He.ga K "Guard") "__init__") (He.ma K (He.ga K "Guard") "told") (He.ma K (He.ga K "Guard") "behind") (He.ma K (He.ga K "Guard") "__eq__") := { f_isinstance := (He.free_ok X G (cd.fact 60 (f := .free "isinstance") rfl)), f_int := (He.free_ok X G (cd.fact 61 (f := .free "int") rfl)), f_bool := (He.free_ok X G (cd.fact 62 (f := .free "bool") rfl)), f_list := (He.free_ok X G (cd.fact 67 (f := .free "list") rfl)), f_tuple := (He.free_ok X G (cd.fact 66 (f := .free "tuple") rfl)), f_len := (He.free_ok X G (cd.fact 68 (f := .free "len") rfl)), f_enumerate := (He.free_ok X G (cd.fact 72 (f := .free "enumerate") rfl)), f_zip := (He.free_ok X G (cd.fact 71 (f := .free "zip") rfl)), f_range := (He.free_ok X G (cd.fact 63 (f := .free "range") rfl)), gGREATEST_MODULUS := He.int_ok X G (cd.fact 77 (f := .int "GREATEST_MODULUS" 1000000000000000000) rfl), gMOST_NUMBERS := He.int_ok X G (cd.fact 78 (f := .int "MOST_NUMBERS" 16) rfl), gMOST_SYMBOLS := He.int_ok X G (cd.fact 79 (f := .int "MOST_SYMBOLS" 10000) rfl), gGROUP := He.int_ok X G (cd.fact 80 (f := .int "GROUP" 32) rfl), gDOUBLINGS := He.int_ok X G (cd.fact 81 (f := .int "DOUBLINGS" 5) rfl), gWORTH := He.int_ok X G (cd.fact 82 (f := .int "WORTH" 3) rfl), cl := He.cls_ok (cd.fact 8 (f := .cls "Guard") rfl), a_modulus := He.noat_ok (cd.fact 9 (f := .noat "Guard" "modulus") rfl), a_size := He.noat_ok (cd.fact 10 (f := .noat "Guard" "size") rfl), a_matrix := He.noat_ok (cd.fact 11 (f := .noat "Guard" "matrix") rfl), a_columns := He.noat_ok (cd.fact 12 (f := .noat "Guard" "columns") rfl), a_width := He.noat_ok (cd.fact 13 (f := .noat "Guard" "width") rfl), a_start := He.noat_ok (cd.fact 14 (f := .noat "Guard" "start") rfl), a_end := He.noat_ok (cd.fact 15 (f := .noat "Guard" "end") rfl), mgC := (He.glo_ok X G (cd.fact 20 (f := .glo "Guard") rfl)), mkr := He.mkr_ok (cd.fact 16 (f := .mkr "Guard") rfl), m_told := (He.meth_ok (cd.fact 18 (f := .meth "Guard" "told") rfl)), m_behind := (He.meth_ok (cd.fact 19 (f := .meth "Guard" "behind") rfl)), m_eq := (He.meth_ok (cd.fact 17 (f := .meth "Guard" "__eq__") rfl)), ca := (of_decide_eq_true (ex_at c.more 0)), cn := (of_decide_eq_true (ex_at c.more 2)), ct := (of_decide_eq_true (ex_at c.more 3)), cm := (of_decide_eq_true (ex_at c.more 1)), k1 := (of_decide_eq_true (ex_at c.more 4)), k2 := (of_decide_eq_true (ex_at c.more 5)), s1 := (of_decide_eq_true (ex_at c.more 6)) }
  have TVa := TG.toTxtG.toTxtVa
  have TW := TG.toTxtG
  have TE : TxtE K mg (He.ga K "BadSize") (He.ga K "SumsError") := { gM := (He.glo_ok X G (cd.fact 21 (f := .glo "BadSize") rfl)), gS := (He.glo_ok X G (cd.fact 22 (f := .glo "SumsError") rfl)), f_isinstance := (He.free_ok X G (cd.fact 60 (f := .free "isinstance") rfl)), f_repr := (He.free_ok X G (cd.fact 74 (f := .free "repr") rfl)), te := (of_decide_eq_true (ex_at c.more 7)), kS := (of_decide_eq_true (ex_at c.more 15)), ec := excB_ok (of_decide_eq_true (ex_at c.more 13)), xf := xfB_ok (of_decide_eq_true (ex_at c.more 14)), no := (of_decide_eq_true (ex_at c.more 18)) }
  have G_law_pen_of := ok_pen (P := PySem.Challenge.rw_guardsums_k33_first_pairs.prog) (w := w) (base := base) (fun_at F_law_pen_of) (He.free_ok X G (cd.fact 67 (f := .free "list") rfl))
  have G_law_draw := ok_draw (P := PySem.Challenge.rw_guardsums_k33_first_pairs.prog) (w := w) (base := base) (fun_at F_law_draw) TA
  have G_law_pick := ok_pick (fun_at F_law_pick) TA G_law_draw (He.glo_ok X G (cd.fact 44 (f := .glo "_law_draw") rfl)) F_law_draw.kp b_law_draw
  have G_unit := ok_unit (P := PySem.Challenge.rw_guardsums_k33_first_pairs.prog) (w := w) (base := base) (mg := mg) (fun_at F_unit)
  have G_transposed := ok_transposed (P := PySem.Challenge.rw_guardsums_k33_first_pairs.prog) (w := w) (base := base) (fun_at F_transposed) TM
  have G_transposedL := ok_transL (P := PySem.Challenge.rw_guardsums_k33_first_pairs.prog) (w0 := w) (base := base) (fun_at F_transposed) TM
  have G_applied := ok_applied (P := PySem.Challenge.rw_guardsums_k33_first_pairs.prog) (w := w) (base := base) (fun_at F_applied) TM
  have G_bezout := ok_bezout (P := PySem.Challenge.rw_guardsums_k33_first_pairs.prog) (w := w) (base := base) (mg := mg) (fun_at F_bezout)
  have G_multiple := ok_multiple (P := PySem.Challenge.rw_guardsums_k33_first_pairs.prog) (w := w) (base := base) (mg := mg) (fun_at F_multiple)
  have G_combined := ok_combined (P := PySem.Challenge.rw_guardsums_k33_first_pairs.prog) (w := w) (base := base) (fun_at F_combined) TM
  have G_multipleT := ok_multipleT (P := PySem.Challenge.rw_guardsums_k33_first_pairs.prog) (w := w) (base := base) (mg := mg) (fun_at F_multiple)
  have G_combinedT := ok_combinedT (P := PySem.Challenge.rw_guardsums_k33_first_pairs.prog) (w := w) (base := base) (fun_at F_combined) TM
  have G_put_at := ok_put_at (fun_at F_Stairs_put_at) TS G_bezout (He.glo_ok X G (cd.fact 23 (f := .glo "bezout") rfl)) F_bezout.kp b_bezout G_multiple (He.glo_ok X G (cd.fact 24 (f := .glo "multiple") rfl)) F_multiple.kp b_multiple G_combined (He.glo_ok X G (cd.fact 25 (f := .glo "combined") rfl)) F_combined.kp b_combined
  have G_put_atT := ok_put_atT (fun_at F_Stairs_put_at) TS G_bezout (He.glo_ok X G (cd.fact 23 (f := .glo "bezout") rfl)) F_bezout.kp b_bezout G_multipleT (He.glo_ok X G (cd.fact 24 (f := .glo "multiple") rfl)) F_multiple.kp b_multiple G_combinedT (He.glo_ok X G (cd.fact 25 (f := .glo "combined") rfl)) F_combined.kp b_combined
  have G_st_init := ok_st_init (P := PySem.Challenge.rw_guardsums_k33_first_pairs.prog) (w := w) (base := base) (fun_at F_Stairs_init) TS
  have G_put := ok_put (fun_at F_Stairs_put) TS G_put_at b_Stairs_put_at
  have G_putT := ok_putT (fun_at F_Stairs_put) TS G_put_atT b_Stairs_put_at
  have G_settled := ok_settled (fun_at F_Stairs_settled) TS G_combined (He.glo_ok X G (cd.fact 25 (f := .glo "combined") rfl)) F_combined.kp b_combined
  have G_marked := ok_marked (fun_at F_marked) TS G_unit (He.glo_ok X G (cd.fact 28 (f := .glo "unit") rfl)) F_unit.kp b_unit
  have G_undone := ok_undone (fun_at F_undone) TS G_st_init b_Stairs_init G_put b_Stairs_put G_settled b_Stairs_settled G_unit (He.glo_ok X G (cd.fact 28 (f := .glo "unit") rfl)) F_unit.kp b_unit
  have G_solved := ok_solvedP (fun_at F_solved) TS G_st_init b_Stairs_init G_put b_Stairs_put G_settled b_Stairs_settled G_marked (He.glo_ok X G (cd.fact 35 (f := .glo "marked") rfl)) F_marked.kp b_marked
  have G_kernel_of := ok_kernel_of (fun_at F_kernel_of) G_solved (He.glo_ok X G (cd.fact 36 (f := .glo "solved") rfl)) F_solved.kp b_solved G_transposed (He.glo_ok X G (cd.fact 27 (f := .glo "transposed") rfl)) F_transposed.kp b_transposed
  have G_spans_all := ok_spans (fun_at F_spans_all) TS FAll G_st_init b_Stairs_init G_putT b_Stairs_put
  have G_is_integer := ok_isintI (P := PySem.Challenge.rw_guardsums_k33_first_pairs.prog) (w0 := w) (base := base) (fun_at F_is_integer) TVa
  have G_is_integerA := ok_isintA (P := PySem.Challenge.rw_guardsums_k33_first_pairs.prog) (w0 := w) (base := base) (fun_at F_is_integer) TVa
  have G_is_within := ok_withinI (P := PySem.Challenge.rw_guardsums_k33_first_pairs.prog) (w0 := w) (base := base) (fun_at F_is_within) G_is_integer (He.glo_ok X G (cd.fact 30 (f := .glo "is_integer") rfl)) F_is_integer.kp b_is_integer
  have G_is_withinA := ok_withinA (fun_at F_is_within) G_is_integerA (He.glo_ok X G (cd.fact 30 (f := .glo "is_integer") rfl)) F_is_integer.kp b_is_integer
  have G_is_list := ok_islist (P := PySem.Challenge.rw_guardsums_k33_first_pairs.prog) (w0 := w) (base := base) (fun_at F_is_list) TVa
  have G_wrong_number := ok_wnum (fun_at F_wrong_number) TVa G_is_within (He.glo_ok X G (cd.fact 31 (f := .glo "is_within") rfl)) F_is_within.kp b_is_within
  have G_wrong_row := ok_wrow (fun_at F_wrong_row) TVa G_is_list (He.glo_ok X G (cd.fact 32 (f := .glo "is_list") rfl)) F_is_list.kp b_is_list G_wrong_number (He.glo_ok X G (cd.fact 33 (f := .glo "wrong_number") rfl)) F_wrong_number.kp b_wrong_number
  have G_check_modulus := ok_chkm (fun_at F_check_modulus) TW G_is_within (He.glo_ok X G (cd.fact 31 (f := .glo "is_within") rfl)) F_is_within.kp b_is_within
  have G_checked_matrix := ok_chka (fun_at F_checked_matrix) TW G_wrong_row (He.glo_ok X G (cd.fact 34 (f := .glo "wrong_row") rfl)) F_wrong_row.kp b_wrong_row
  have G_checked_columns := ok_chkc (fun_at F_checked_columns) TW G_is_list (He.glo_ok X G (cd.fact 32 (f := .glo "is_list") rfl)) F_is_list.kp b_is_list G_is_within (He.glo_ok X G (cd.fact 31 (f := .glo "is_within") rfl)) F_is_within.kp b_is_within G_wrong_row (He.glo_ok X G (cd.fact 34 (f := .glo "wrong_row") rfl)) F_wrong_row.kp b_wrong_row
  have G_ginit := ok_ginit (fun_at F_Guard_init) TG G_check_modulus (He.glo_ok X G (cd.fact 40 (f := .glo "check_modulus") rfl)) F_check_modulus.kp b_check_modulus G_is_within (He.glo_ok X G (cd.fact 31 (f := .glo "is_within") rfl)) F_is_within.kp b_is_within G_checked_matrix (He.glo_ok X G (cd.fact 41 (f := .glo "checked_matrix") rfl)) F_checked_matrix.kp b_checked_matrix G_undone (He.glo_ok X G (cd.fact 29 (f := .glo "undone") rfl)) F_undone.kp b_undone G_checked_columns (He.glo_ok X G (cd.fact 42 (f := .glo "checked_columns") rfl)) F_checked_columns.kp b_checked_columns G_wrong_number (He.glo_ok X G (cd.fact 33 (f := .glo "wrong_number") rfl)) F_wrong_number.kp b_wrong_number
  have G_first_pair := ok_first (fun_at F_first_pair) TM TG GMP EX_BadSize G_BadSize_init b_BadSize_init G_is_withinA (He.glo_ok X G (cd.fact 31 (f := .glo "is_within") rfl)) F_is_within.kp b_is_within G_transposed G_transposedL (He.glo_ok X G (cd.fact 27 (f := .glo "transposed") rfl)) F_transposed.kp b_transposed G_kernel_of (He.glo_ok X G (cd.fact 37 (f := .glo "kernel_of") rfl)) F_kernel_of.kp b_kernel_of G_applied (He.glo_ok X G (cd.fact 26 (f := .glo "applied") rfl)) F_applied.kp b_applied G_spans_all (He.glo_ok X G (cd.fact 39 (f := .glo "spans_all") rfl)) F_spans_all.kp b_spans_all
  have G_law_matrix_of := ok_matrix_of (fun_at F_law_matrix_of) TL G_law_draw (He.glo_ok X G (cd.fact 44 (f := .glo "_law_draw") rfl)) F_law_draw.kp b_law_draw
  have G_law_common := ok_gcd (P := PySem.Challenge.rw_guardsums_k33_first_pairs.prog) (w := w) (base := base) (fun_at F_law_common) TL
  have G_law_identity := ok_law_identity (P := PySem.Challenge.rw_guardsums_k33_first_pairs.prog) (w := w) (base := base) (fun_at F_law_identity) TL
  have G_law_applied := ok_law_applied (P := PySem.Challenge.rw_guardsums_k33_first_pairs.prog) (w := w) (base := base) (fun_at F_law_applied) TL
  have G_law_product := ok_law_product (P := PySem.Challenge.rw_guardsums_k33_first_pairs.prog) (w := w) (base := base) (fun_at F_law_product) TL
  have G_law_undone_of := ok_undone_of (fun_at F_law_undone_of) TL G_law_identity (He.glo_ok X G (cd.fact 48 (f := .glo "_law_identity") rfl)) F_law_identity.kp b_law_identity G_law_draw (He.glo_ok X G (cd.fact 44 (f := .glo "_law_draw") rfl)) F_law_draw.kp b_law_draw G_law_common (He.glo_ok X G (cd.fact 47 (f := .glo "_law_common") rfl)) F_law_common.kp b_law_common
  have G_law_rows_all := ok_rows_all (P := PySem.Challenge.rw_guardsums_k33_first_pairs.prog) (w0 := w) (base := base) (fun_at F_law_rows_all) TL
  have G_law_world_of := ok_world (fun_at F_law_world_of) TL G_law_draw (He.glo_ok X G (cd.fact 44 (f := .glo "_law_draw") rfl)) F_law_draw.kp b_law_draw G_law_undone_of (He.glo_ok X G (cd.fact 49 (f := .glo "_law_undone_of") rfl)) F_law_undone_of.kp b_law_undone_of G_law_matrix_of (He.glo_ok X G (cd.fact 46 (f := .glo "_law_matrix_of") rfl)) F_law_matrix_of.kp b_law_matrix_of
  have G_law_guard_of := ok_lguard (fun_at F_law_guard_of) TG G_ginit b_Guard_init
  have G_law_beside := ok_lbeside (P := PySem.Challenge.rw_guardsums_k33_first_pairs.prog) (w0 := w) (base := base) (fun_at F_law_beside) TW
  have G_law_is_passed := ok_lpassed (fun_at F_law_is_passed) TL FAny G_law_rows_all (He.glo_ok X G (cd.fact 52 (f := .glo "_law_rows_all") rfl)) F_law_rows_all.kp b_law_rows_all G_law_applied (He.glo_ok X G (cd.fact 50 (f := .glo "_law_applied") rfl)) F_law_applied.kp b_law_applied
  have G_law_first := ok_lfirst (fun_at F_law_first) TL G_law_product (He.glo_ok X G (cd.fact 51 (f := .glo "_law_product") rfl)) F_law_product.kp b_law_product G_law_beside (He.glo_ok X G (cd.fact 55 (f := .glo "_law_beside") rfl)) F_law_beside.kp b_law_beside G_law_is_passed (He.glo_ok X G (cd.fact 56 (f := .glo "_law_is_passed") rfl)) F_law_is_passed.kp b_law_is_passed
  have G_law_refused := ok_refused (fun_at F_law_refused) TE G_first_pair (He.glo_ok X G (cd.fact 38 (f := .glo "first_pair") rfl)) F_first_pair.kp b_first_pair hS
  have bl : ∀ (s : Shared) (u : Value), BindsTo s d_law ⟨[u], []⟩ [("_law_script", u)] := fun s u => (FunD.bindsA (ps := ["_law_script"]) F_law fun _ _ _ _ _ _ us hl => match us, hl with | [_], _ => rfl) s [u] rfl
  exact law_run (fun_at F_law) bl TL TG FP G_ginit b_Guard_init ⟨⟨_, _, G_law_pen_of, (He.glo_ok X G (cd.fact 43 (f := .glo "_law_pen_of") rfl)), F_law_pen_of.kp, b_law_pen_of⟩⟩ ⟨⟨_, _, G_law_draw, (He.glo_ok X G (cd.fact 44 (f := .glo "_law_draw") rfl)), F_law_draw.kp, b_law_draw⟩⟩ ⟨⟨_, _, G_law_pick, (He.glo_ok X G (cd.fact 45 (f := .glo "_law_pick") rfl)), F_law_pick.kp, b_law_pick⟩⟩ ⟨⟨_, _, G_law_world_of, (He.glo_ok X G (cd.fact 53 (f := .glo "_law_world_of") rfl)), F_law_world_of.kp, b_law_world_of⟩⟩ ⟨⟨_, _, G_law_guard_of, (He.glo_ok X G (cd.fact 54 (f := .glo "_law_guard_of") rfl)), F_law_guard_of.kp, b_law_guard_of⟩⟩ ⟨⟨_, _, G_law_first, (He.glo_ok X G (cd.fact 57 (f := .glo "_law_first") rfl)), F_law_first.kp, b_law_first⟩⟩ ⟨⟨_, _, G_first_pair, (He.glo_ok X G (cd.fact 38 (f := .glo "first_pair") rfl)), F_first_pair.kp, b_first_pair⟩⟩ ⟨⟨_, _, G_law_refused, (He.glo_ok X G (cd.fact 58 (f := .glo "_law_refused") rfl)), F_law_refused.kp, b_law_refused⟩⟩ hS e0 hL
end
end Wk
open PySem PySem.W PySem.Calls PyProof.Rows
theorem PySem.Challenge.cw_guardsums_k33_first_pairs_holds : PySem.Challenge.rw_guardsums_k33_first_pairs.Holds := by
  w_on; o_law
  refine HandSHeadRun.head_imp (r := Wk.RW21) (q := view Wk.RW21.prog [70]) (H := Wk.hk) (ob := Wk.obS 5 Wk.fas Wk.fns Wk.exB) (M := 20000) (loose := Wk.names) (d := HandSHeadRun.topDef Wk.RW21.prog 70) (kwd := []) Wk.obS_eq Wk.run
    (by kernel_rfl) (by kernel_rfl) (by kernel_rfl) (by rfl) (by first | assumption | decide +kernel) (by decide +kernel) ⟨rfl, rfl, rfl, rfl, rfl, by decide +kernel⟩ ?hw ?hc
  case hw => w_witness2
  case hc =>
    refine Wk.walk_here (l := PySem.Challenge.rw_guardsums_k33_first_pairs) (n := 63) rfl (by decide) (by kernel_rfl) ?F
    intro w mg fa h Y G hmg0
    obtain ⟨⟨K, KX, c⟩, hm⟩ := Y
    have hmg : mg ("law" : PySem.Str) = some (.ref fa) := by
      have e : (HandSHeadRun.topDef Wk.RW21.prog 70).name = ("law" : PySem.Str) := by kernel_rfl
      rw [← e]
      exact hmg0
    exact ⟨K, KX, fun base s H a ns _ _ _ bb e0 hL => Wk.law_at KX G hmg c hm bb e0 hL⟩

