import PyProof.Rows.All
import Wide.All
import OpenK.AllK
import Wide.FinOn
import HandS.Words
import HandS.EndBits
import HandS.EndTab
import HandS.HeadHook4
import HandS.Head0
import HandS.Head1
import HandS.Head2
import HandS.Head3
import PySem.Challenge.RW_guardsums_k22_whole_howell_forms
import HandS.ForMost
import HandS.ForExc
import HandS.Wide
import PyProof.ZipIter
import PyProof.TupleOfGen
import PyProof.CollectWalk
import HandS.Zip0
import KE.KDictZip
import HandS.Zip
import HandS.Walk
import HandS.TupMul
import HandS.TupAny
import HandS.Style
import HandS.RevRange
import HandS.Conv
import KE.KDictDisplayH
import HandS.TupLen
import HandS.IsInst
import HandS.Lambda
import HandS.TryOnly
import HandS.Set
import HandS.SetFor
import HandS.Strs
import HandS.TupSets
import HandS.Iter
import KE.KStateDown
import HandS.HeadEnd
import HandS.HeadHook1
import HandS.HeadHook2
import HandS.HeadHook3
import HandS.HeadWalk
set_option Elab.async false
set_option linter.all false
set_option maxRecDepth 100000
set_option maxHeartbeats 0
/-! the end of a law whose own def wants to know the caller -/
namespace Wk
open PySem PySem.Spec PyProof.Rows L2
/-- the law's def is run where the claim's caller stands -/
theorem call_here {P : Program} {w : World} {K : PySem.W.Frag} {mg mb : Str → Option Value} {fa a : Addr} {s : Shared} {vs : List Value} {ns : List Int} (KX : K.In s.heap) (hG : s.heap.Ns mainGlobals mg) (hB : s.heap.Ns builtinsNs mb) (hb : ∀ x : Str, x ≠ "__name__" → mb x = bootBuiltins x)
    (hL : s.heap.NoLimit) (hg : s.gens = #[]) (ha : s.heap.get? a = some { cls := .type "list", data := .seq vs.toArray }) (hi : IntsAre vs ns) (hl : ns.length ≤ sizeLine)
    (F : ∀ (base : Heap) (H : Hp), K.In base → base.Ns mainGlobals mg → (∀ b o, s.heap.get? b = some o → (∀ us m, o.data ≠ .seq us m) → base.get? b = some o) → Env0 P w K mg base callerA [] s H → SqL K H a (ns.map V.int) → codeAny (model P w) callerA (.call (.ref fa) ⟨[.ref a], []⟩) (CR CX0 [] P w H s (fun v _ => v = .bl true) E0) s) :
    codeAny (model P w) callerA (.call (.ref fa) ⟨[.ref a], []⟩) (fun r s' => r = .ok (.ret (.bool true)) ∧ OldK s.heap s'.heap ∧ s'.os = s.os ∧ AllBare s'.gens) s := by
  have rel := vals_ints hi
  have main : ∀ H : Hp, (∀ b, H b = none ∨ (b = a ∧ ∃ o xs, H b = some (.frz o (.lst xs)))) → SqL K H a (ns.map V.int) → HOk P w H s.heap → (H a ≠ none → K.lookup a = none) →
      codeAny (model P w) callerA (.call (.ref fa) ⟨[.ref a], []⟩) (fun r s' => r = .ok (.ret (.bool true)) ∧ OldK s.heap s'.heap ∧ s'.os = s.os ∧ AllBare s'.gens) s := by
    intro H hO hS hok hK
    -- what is no list is not tracked
    have un0 : ∀ b o, s.heap.get? b = some o → (∀ us m, o.data ≠ .seq us m) → H b = none := fun b o e nd => (hO b).elim id fun ⟨eb, _⟩ => by
      subst eb
      rw [ha] at e
      cases e
      exact absurd rfl (nd _ _)
    have bas : ∀ b o, s.heap.get? b = some o → (∀ us m, o.data ≠ .seq us m) → (hidT s.heap H).get? b = some o := fun b o e nd => hidT_get e (un0 b o e nd)
    have spaces : ∀ {b : Addr} {m : Str → Option Value}, s.heap.Ns b m → (hidT s.heap H).Ns b m := fun {b m} ⟨o, es, ep, e, d, r⟩ => ⟨o, es, ep, bas b o e (fun us m z => by rw [d] at z; cases z), d, r⟩
    have frag : K.In (hidT s.heap H) := fun b o e => hidT_get (KX b o e) (by
      rcases hO b with z | ⟨eb, z⟩
      · exact z
      · subst eb
        cases q : H b with
        | none => rfl
        | some u =>
          rw [hK (by rw [q]; exact fun y => nomatch y)] at e
          cases e)
    obtain ⟨mc, l1, l2⟩ := hL
    have env : Env0 P w K mg (hidT s.heap H) callerA [] s H :=
      ⟨rfl, ⟨frag, spaces hG, ⟨mb, spaces hB, hb⟩, ⟨mc, spaces l1, l2⟩⟩, fun b o e => of_hidT e, Nat.le_of_eq (hidT_size s.heap H), trivial, fun b z => absurd (show b ∈ ([] : List Addr) from z) List.not_mem_nil, hok, .of_eq hg⟩
    refine codeAny_mono (F _ H frag (spaces hG) bas env hS) fun r s' z => ?_
    match r, z with
    | .ok (.ret u), z =>
      obtain ⟨v, H', os, bare, U, hok', ru, q⟩ := z
      subst q
      obtain rfl : u = Value.bool true := ru
      have keep : ∀ b o, s.heap.get? b = some o → s'.heap.get? b = some o := fun b o e => by
        rcases hO b with z | ⟨eb, ob, xs, z⟩
        · exact U.keep b o e z (fun y => absurd (show b ∈ ([] : List Addr) from y) List.not_mem_nil) List.not_mem_nil
        · obtain ⟨e2, _⟩ := hok' b _ (U.frzs b ob _ z)
          obtain ⟨e1, _⟩ := hok b _ z
          exact (e2.trans e1.symm).trans e
      exact ⟨rfl, .of_keep keep, os, bare⟩
    | .ok .next, z => exact False.elim z
    | .ok .brk, z => exact False.elim z
    | .ok .cont, z => exact False.elim z
    | .error e, z => exact False.elim z
  cases hk : K.lookup a with
  | some o =>
    have e := KX a o hk
    rw [ha] at e
    cases e
    refine main (fun _ => none) (fun _ => .inl rfl) (.inr ⟨_, vs.toArray, _, hk, rfl, rfl, rfl, ?_, by simpa using rel⟩) (fun b u z => nomatch z) fun z => absurd rfl z
    rw [List.size_toArray, hi.length]
    exact hl
  | none =>
    refine main (fun b => if b = a then some (.frz { cls := .type "list", data := .seq vs.toArray } (.lst (ns.map V.int))) else none) (fun b => ?_) (.inl (.inr ⟨_, if_pos rfl⟩)) (fun b u z => ?_) fun _ => hk
    · by_cases h : b = a
      · exact .inr ⟨h, _, _, if_pos h⟩
      · exact .inl (if_neg h)
    · by_cases h : b = a
      · have z2 := (if_pos h).symm.trans z
        cases z2
        rw [h]
        exact ⟨ha, by rw [List.length_map]; exact hl, vs, _, rel, ha⟩
      · cases (if_neg h).symm.trans z
/-- the walk of such a law -/
theorem walk_here {l : PySem.W.OpenLaw} {n : Nat} {q : Program} {loose : List Str} {XP : (Str → Option Value) → Heap → Prop} {YP : World → Heap → Prop} {d : DefRec} (hn : l.most = some n) (hn2 : n ≤ sizeLine) (hdf : d.params.defaults = [])
    (F : ∀ (w : World) (mg : Str → Option Value) (fa : Addr) (h : Heap), YP w h → h.Ns mainGlobals mg → mg d.name = some (.ref fa) → ∃ K : PySem.W.Frag, K.In h ∧ ∀ (base : Heap) (s : Shared) (H : Hp) (a : Addr) (ns : List Int), s.heap = h → K.In base → base.Ns mainGlobals mg →
      (∀ b o, h.get? b = some o → (∀ us m, o.data ≠ .seq us m) → base.get? b = some o) → Env0 l.prog w K mg base callerA [] s H → SqL K H a (ns.map V.int) → codeAny (model l.prog w) callerA (.call (.ref fa) ⟨[.ref a], []⟩) (CR CX0 [] l.prog w H s (fun v _ => v = .bl true) E0) s) :
    PySem.W.WalkO q loose XP YP l.row.toRowW d [] (fun f vs => PySem.call f vs) := by
  refine Att.attach_callB hn hdf fun w s₀ s₁ mg mb fa o pm cd doc a vs ns G Y ho hd hcd hmg hobj hints hlen hbits hg => ?_
  obtain ⟨K, KX, hF⟩ := F w mg fa _ Y G.T.g hmg
  exact call_here KX G.T.g G.T.b G.T.builtins G.T.nolimit hg hobj hints (Nat.le_trans hlen hn2) fun base H kb gb bb e0 hS => hF base s₁ H a ns rfl kb gb bb e0 hS
/-! ### the hook, with one more look: the table of modules is there -/
def modsB (g : Addr → Option Obj) : Bool := match g sysModules with
  | some ⟨_, _, .dict _ _, _⟩ => true
  | _ => false
theorem modsB_ok {g : Addr → Option Obj} (h : modsB g = true) : ∃ o es m, g sysModules = some o ∧ o.data = .dict es m := by
  unfold modsB at h
  split at h
  · rename_i e
    exact ⟨_, _, _, e, rfl⟩
  · cases h
def hookS (n : Nat) (fa : List He.Fa) (fn : List He.DefD) (ex : PySem.W.Frag → Bool) : PySem.W.Hook where
  α := He.AlX × Bool
  obs := fun s => (He.obsX n fa fn [] [] ex s.heap.get?, modsB s.heap.get?)
  val := fun w => (He.valX fn [] w, true)
  says := fun w h => (∃ K : PySem.W.Frag, K.In h ∧ He.SaysX fa fn [] [] ex w h K) ∧ ∃ o es m, h.get? sysModules = some o ∧ o.data = .dict es m
  of := fun w s e => ⟨⟨_, He.frT_in, He.saysX_of (congrArg (fun z : He.AlX × Bool => z.1) e)⟩, modsB_ok (congrArg (fun z : He.AlX × Bool => z.2) e)⟩
  keeps := fun w h h' z k => by
    obtain ⟨⟨K, hK, c⟩, o, es, m, e, d⟩ := z
    exact ⟨⟨K, PySem.W.Frag.In.keeps hK k, ⟨c.t, c.more, c.hd, c.out, fun p hp => k _ _ (c.empty p hp)⟩⟩, o, es, m, k _ _ e, d⟩
def obS (n : Nat) (fa : List He.Fa) (fn : List He.DefD) (ex : PySem.W.Frag → Bool) (s : PySem.W.SharedT) : He.AlX × Bool := (He.obsX n fa fn [] [] ex (HandSHeadRun.getT s), modsB (HandSHeadRun.getT s))
theorem obS_eq {n : Nat} {fa : List He.Fa} {fn : List He.DefD} {ex : PySem.W.Frag → Bool} (s : PySem.W.SharedT) : obS n fa fn ex s = (hookS n fa fn ex).obs s.abs := by
  have e : HandSHeadRun.getT s = s.abs.heap.get? := funext (HandSHeadRun.getT_eq s)
  unfold obS
  rw [e]
  rfl
end Wk

namespace Wk
open PySem L2
def top (i : Nat) : Stmt := PySem.Challenge.pw_guardsums_k22_whole_howell_forms.main.body.getD i (.Pass ⟨0, 0, 0, 0⟩)
abbrev s_law_pen_of : Stmt := top 11
theorem sc_law_pen_of : FnScope ["_law_script"] ["_law_script"] (defScope s_law_pen_of) := ⟨rfl, rfl, rfl, by decide +kernel, rfl, by decide +kernel, by decide +kernel⟩
abbrev s_law_draw : Stmt := top 12
theorem sc_law_draw : FnScope ["_law_pen", "_law_many", "_law_digit", "_law_index", "_law_size", "_law_cell", "_law_mixed"] ["_law_pen", "_law_many"] (defScope s_law_draw) := ⟨rfl, rfl, rfl, by decide +kernel, rfl, by decide +kernel, by decide +kernel⟩

local macro_rules | `(tactic| walk_at "rd") => `(tactic| repeat first | refine ⟨_, rfl, ?_⟩ | refine ⟨_, _, rfl, rfl, ?_⟩ | refine ⟨rfl, ?_⟩)
/-! ### the pen -/
def penL (c : Addr) (i l : Int) : List (Key × V) := [(.inr "cells", .ref c), (.inr "next", .int i), (.inr "left", .int l)]
theorem kk1 : ¬ (Sum.inr "cells" : Key) = .inr "next" := by decide +kernel
theorem kk2 : ¬ (Sum.inr "cells" : Key) = .inr "left" := by decide +kernel
theorem kk3 : ¬ (Sum.inr "next" : Key) = .inr "left" := by decide +kernel
theorem kk4 : ¬ (Sum.inr "left" : Key) = .inr "next" := by decide +kernel
theorem ks1 : ¬ Str.ofString "cells" = Str.ofString "next" := by decide +kernel
theorem ks2 : ¬ Str.ofString "cells" = Str.ofString "left" := by decide +kernel
theorem ks3 : ¬ Str.ofString "next" = Str.ofString "left" := by decide +kernel
theorem ks4 : ¬ Str.ofString "left" = Str.ofString "next" := by decide +kernel
theorem pen_cells (c : Addr) (i l : Int) : valV (penL c i l) (.inr "cells") = some (.ref c) := valV_pos rfl
theorem pen_next (c : Addr) (i l : Int) : valV (penL c i l) (.inr "next") = some (.int i) := by
  rw [penL, valV_neg kk1, valV_pos rfl]
theorem pen_left (c : Addr) (i l : Int) : valV (penL c i l) (.inr "left") = some (.int l) := by
  rw [penL, valV_neg kk2, valV_neg kk3, valV_pos rfl]
theorem put_next (c : Addr) (i l j : Int) : putK (penL c i l) (.inr "next") (.int j) = penL c j l := by
  simp [putK, penL, ks1, ks4]
theorem put_left (c : Addr) (i l j : Int) : putK (penL c i l) (.inr "left") (.int j) = penL c i j := by
  simp [putK, penL, ks2, ks3]
structure PenAt (H : Hp) (p c : Addr) (ns : List Int) (i l : Int) : Prop where
  pen : H p = some (.dK (penL c i l))
  cells : H c = some (.lst (ns.map V.int))
  i0 : 0 ≤ i
  l0 : 0 ≤ l
  i1 : i ≤ 100000
theorem PenAt.ne {H : Hp} {p c : Addr} {ns : List Int} {i l : Int} (P : PenAt H p c ns i l) : c ≠ p := ne_of P.cells P.pen (by intro z; cases z)
/-- the pen behind a draw -/
def penTo (H : Hp) (p c : Addr) (i l : Int) : Hp := upd H p (.dK (penL c i l))
theorem PenAt.to {H : Hp} {p c : Addr} {ns : List Int} {i l i' l' : Int} (P : PenAt H p c ns i l) (h0 : 0 ≤ i') (h1 : 0 ≤ l') (h2 : i' ≤ 100000) : PenAt (penTo H p c i' l') p c ns i' l' :=
  ⟨upd_same, by rw [penTo, upd_ne P.ne]; exact P.cells, h0, h1, h2⟩
theorem penTo_to {H : Hp} {p c : Addr} {i l i' l' : Int} : penTo (penTo H p c i l) p c i' l' = penTo H p c i' l' := upd_upd
def spDraw : Sp := fun vs H Q _ => ∃ (p c : Addr) (ns : List Int) (i l m : Int), vs = [.ref p, .int m] ∧ PenAt H p c ns i l ∧ i < 100000 ∧ 1 ≤ m ∧ m.natAbs < 2 ^ 9000 ∧
  ∀ d i' l' : Int, 0 ≤ d → d < m → 0 ≤ i' → i' ≤ i + 1 → 0 ≤ l' → Q (.int d) (penTo H p c i' l')
/-- what the module's names stand for -/
structure TxtA (mg : Str → Option Value) : Prop where
  f_int : mg "int" = none
  f_len : mg "len" = none
  f_abs : mg "abs" = none
section
variable {P : Program} {w : World} {K : PySem.W.Frag} {mg : Str → Option Value} {base : Heap}
theorem small64 {i : Int} (h0 : 0 ≤ i) {n : Int} (h1 : i ≤ n) {k : Nat} (h2 : n.toNat < 2 ^ k) : i.natAbs < 2 ^ k := by omega
theorem fmod_at {a m : Int} (h : 1 ≤ m) : 0 ≤ a.fmod m ∧ a.fmod m < m := by
  rw [Int.fmod_eq_emod_of_nonneg _ (by omega)]
  exact ⟨Int.emod_nonneg _ (by omega), Int.emod_lt_of_pos _ (by omega)⟩
theorem emod_at {a m : Int} (h : 1 ≤ m) : 0 ≤ a % m ∧ a % m < m := ⟨Int.emod_nonneg _ (by omega), Int.emod_lt_of_pos _ (by omega)⟩
/-- a way that two branches share -/
theorem use_tail {B G : Prop} (f : B → G) (b : B) : G := f b
theorem pick2 {c1 : Prop} [Decidable c1] {X A B : Prop} (hB : B) (h1 : c1 → X) : if decide c1 = true then X else if false = true then A else B := by
  by_cases c : c1
  · rw [if_pos (decide_eq_true c)]
    exact h1 c
  · rw [if_neg (by simpa using c)]
    exact iteF hB
theorem mod_word {a b : Int} (hb : 1 ≤ b) (hb2 : b ≤ 4294967296) : ∃ y : Int, a % b = y ∧ 0 ≤ y ∧ y < 4294967296 := ⟨a % b, rfl, Int.emod_nonneg _ (by omega), by
  have := Int.emod_lt_of_pos a (show 0 < b by omega)
  omega⟩
theorem ok_draw {f : Addr} {fd : FuncData} (F : Fun K "_law_draw" "_law_draw" s_law_draw f fd) (T : TxtA mg) : FnOk P w K mg base CX0 1 f fd ["_law_pen", "_law_many"] spDraw := by
  refine F.ok sc_law_draw (fun vs H Q E h => ?_) (fun cdv A outer s H vs Q E hr h => ?_)
  · obtain ⟨p, c, ns, i, l, m, rfl, _⟩ := h
    rfl
  · obtain ⟨p, c, ns, i, l, m, rfl, S, hi, hm, hmw, k⟩ := h
    have hu := hu_of hr
    have hcp := S.ne
    have i0 := S.i0
    have l0 := S.l0
    refine ⟨_, (pss_cons (ps_if (pt_cmpR op_gt (pe_dget hu (pv 0) pe_str (fun _ _ => rfl)) pe_int (nomark _)) (pss_cons (ps_set (i := 2) sc_law_draw.nd rfl (Or.inl rfl) (pe_op op_modN (pe_callTy call_int1 rfl T.f_int (by decide +kernel) (pa_cons (pe_dget hu (pv 0) pe_str (fun _ _ => rfl)) pa_nil)) (pv 1)))
        (pss_cons (ps_dput hu (pv 0) pe_str (pe_op op_fdivW (pe_dget hu (pv 0) pe_str (fun _ _ => rfl)) (pv 1)) rfl)
        (pss_one (ps_ret (pv 2))))) pss_nil)
        (pss_cons (ps_par (i := 3) (j := 4) rfl sc_law_draw.nd rfl rfl (by decide) rfl rfl (pa_cons (pe_dget hu (pv 0) pe_str (fun _ _ => rfl)) (pa_cons (pe_callB call_len_seq rfl T.f_len PySem.boot_len (pa_cons (pe_dget hu (pv 0) pe_str (fun _ _ => rfl)) pa_nil)) pa_nil)) (by rfl))
        (pss_cons (ps_dput hu (pv 0) pe_str (pe_op op_add (pv 3) pe_int) rfl)
        (pss_cons (ps_if (pt_cmpR op_eq (pv 4) pe_int (nomark _)) (pss_one (ps_ret (pe_op op_modN (pe_callTy call_int1 rfl T.f_int (by decide +kernel) (pa_cons (pe_op op_add (pe_op op_mulW pe_int (pv 3)) pe_int) pa_nil)) (pv 1)))) pss_nil)
        (pss_cons (ps_set (i := 5) sc_law_draw.nd rfl (Or.inl rfl) (pe_ix ix_list (pe_dget hu (pv 0) pe_str (fun _ _ => rfl)) (pe_op op_modN (pe_callTy call_int1 rfl T.f_int (by decide +kernel) (pa_cons (pv 3) pa_nil)) (pv 4)) (fun _ _ => rfl)))
        (pss_cons (ps_if (PW.pt (pw_and (pt_cmpR op_lt (pv 3) (pv 4) (nomark _)) (pw_and1 (pt_cmpR op_ge (pe_callB call_abs rfl T.f_abs (by decide +kernel) (pa_cons (pv 5) pa_nil)) (pe_op op_pow pe_int pe_int) (nomark _))))) (pss_cons (ps_dput hu (pv 0) pe_str (pe_op op_fdivW (pe_op op_sub (pe_callB call_abs rfl T.f_abs (by decide +kernel) (pa_cons (pv 5) pa_nil)) (pe_op op_pow pe_int pe_int)) (pv 1)) rfl)
        (pss_one (ps_ret (pe_op op_modN (pe_callTy call_int1 rfl T.f_int (by decide +kernel) (pa_cons (pe_op op_sub (pe_callB call_abs rfl T.f_abs (by decide +kernel) (pa_cons (pv 5) pa_nil)) (pe_op op_pow pe_int pe_int)) pa_nil)) (pv 1))))) pss_nil)
        (pss_cons (ps_set (i := 6) sc_law_draw.nd rfl (Or.inl rfl) (pe_op op_add (pe_op op_mulW (pe_op op_mod (pe_callTy call_int1 rfl T.f_int (by decide +kernel) (pa_cons (pv 5) pa_nil)) pe_int) pe_int) (pe_op op_mulW (pe_op op_mulW pe_int (pv 3)) (pv 3))))
        (pss_cons (ps_set (i := 6) sc_law_draw.nd rfl (Or.inl rfl) (pe_op op_mod (pe_callTy call_int1 rfl T.f_int (by decide +kernel) (pa_cons (pe_op op_add (pe_op op_add (pv 6) (pe_op op_mulW pe_int (pv 3))) pe_int) pa_nil)) pe_int))
        (pss_cons (ps_set (i := 6) sc_law_draw.nd rfl (Or.inl rfl) (pe_op op_mod (pe_callTy call_int1 rfl T.f_int (by decide +kernel) (pa_cons (pe_op op_add (pe_op op_add (pe_op op_add (pe_op op_mulW (pv 6) (pv 6)) (pe_op op_mulW pe_int (pv 6))) (pe_op op_mulW pe_int (pv 3))) pe_int) pa_nil)) pe_int))
        (pss_one (ps_ret (pe_op op_modN (pe_callTy call_int1 rfl T.f_int (by decide +kernel) (pa_cons (pe_op op_fdiv (pe_op op_mod (pe_callTy call_int1 rfl T.f_int (by decide +kernel) (pa_cons (pe_op op_mulW (pv 6) (pe_op op_add (pv 6) pe_int)) pa_nil)) pe_int) pe_int) pa_nil)) (pv 1))))))))))))), ?_⟩
    -- if pen["left"] > 0
    have gL := pen_left c i l ▸ DGet.k (k := .inr "left") S.pen
    have gN := pen_next c i l ▸ DGet.k (k := .inr "next") S.pen
    have gC := pen_cells c i l ▸ DGet.k (k := .inr "cells") S.pen
    have z3 : (penL c i l).length < sizeLine := (by decide : 3 < sizeLine)
    have kR : ∀ (a i' l' : Int) (H' : Hp), 0 ≤ i' → i' ≤ i + 1 → 0 ≤ l' → H' = penTo H p c i' l' → Q (.int (a.fmod m)) H' := fun a i' l' H' h1 h2 h3 e => by
      rw [e]
      exact k _ _ _ (fmod_at hm).1 (fmod_at hm).2 h1 h2 h3
    have dv : ∀ x : Int, 0 ≤ x → 0 ≤ x / m := fun x hx => Int.ediv_nonneg hx (by omega)
    have cdv : ∀ x : Int, CDivW x m := fun x => wide_div (by omega) hmw (by decide) (by decide)
    refine ⟨_, rfl, p, _, rfl, gL, _, _, rfl, rfl, _, rfl, ?_⟩
    refine ite2 (fun hd => ?_) (fun hd => ?_)
    · have hl : 0 < l := of_decide_eq_true hd
      -- digit = int(pen["left"]) % many; pen["left"] = pen["left"] // many; return digit
      refine ⟨_, rfl, p, _, rfl, gL, .inl ⟨_, rfl, ?_⟩⟩
      refine ⟨_, rfl, _, _, rfl, rfl, (by omega), ?_⟩
      refine ⟨_, rfl, p, _, rfl, gL, _, rfl, _, _, rfl, rfl, cdv _, ?_⟩
      refine ⟨_, rfl, p, _, rfl, DPut.k (k := .inr "left") S.pen z3, _, rfl, ?_⟩
      exact kR _ i (l / m) _ i0 (by omega) (dv _ l0) (by rw [put_left]; rfl)
    · -- index, size = pen["next"], len(pen["cells"]); pen["next"] = index + 1
      have S1 : PenAt (penTo H p c (i + 1) l) p c ns (i + 1) l := S.to (by omega) l0 (by omega)
      have gC1 := pen_cells c (i + 1) l ▸ DGet.k (k := .inr "cells") S1.pen
      refine ⟨_, rfl, p, _, rfl, gN, _, rfl, p, _, rfl, gC, _, _, rfl, .inl (SqL.of S.cells), _, _, rfl, ?_⟩
      refine ⟨_, rfl, _, _, rfl, rfl, _, rfl, p, _, rfl, DPut.k (k := .inr "next") S.pen z3, ?_⟩
      rw [put_next]
      show tSeq _ _ _ _ (penTo H p c (i + 1) l)
      have w64 : ∀ {x n : Int}, 0 ≤ x → x ≤ n → n.toNat < 2 ^ 64 → x.natAbs < 2 ^ 64 := fun h0 h1 h2 => small64 h0 h1 h2
      have wi : i.natAbs < 2 ^ 64 := w64 i0 (n := 100000) (by omega) (by decide)
      have wc : ∀ {x y : Int}, x.natAbs < 2 ^ 64 → y.natAbs < 2 ^ 128 → CMulW x y := fun a b => wide_mul a b (by decide) (by decide) (by decide)
      -- if size == 0: return int(7 * index + 3) % many
      refine ⟨_, rfl, rfl, _, rfl, ?_⟩
      refine ite2 (fun he => ?_) (fun he => ?_)
      · refine ⟨_, rfl, _, _, rfl, rfl, wc (by decide) (by omega), _, _, rfl, rfl, .inl ⟨_, rfl, _, rfl, _, _, rfl, rfl, (by omega), ?_⟩⟩
        exact kR _ (i + 1) l _ (by omega) (by omega) l0 rfl
      · have hne : ns.length ≠ 0 := fun z => he (by
          have e : (ns.map V.int).length = 0 := by rw [List.length_map]; exact z
          rw [e]
          exact decide_eq_true rfl)
        have hlen : ((ns.map V.int).length : Int) = ns.length := by rw [List.length_map]
        rw [hlen]
        -- cell = pen["cells"][int(index) % size]
        have hj := fmod_at (a := i) (m := (ns.length : Int)) (by omega)
        obtain ⟨j, hj2⟩ : ∃ j : Nat, i.fmod (ns.length : Int) = j := ⟨(i.fmod (ns.length : Int)).toNat, by omega⟩
        have hjl : j < ns.length := by omega
        have ha : atI (ns.map V.int) (i.fmod (ns.length : Int)) = some (V.int ns[j]) := by
          rw [hj2]
          exact atI_nat (by simp [hjl])
        generalize ns[j] = x at ha
        refine ⟨_, rfl, p, _, rfl, gC1, _, rfl, .inl ⟨_, rfl, _, rfl, _, _, rfl, rfl, (by omega), c, _, _, _, rfl, rfl, SqL.of S1.cells, ha, ?_⟩⟩
        -- if index < size and abs(cell) >= 10 ** 18
        have ten : (0 : Int) ≤ 18 ∧ (18 : Int) ≤ 1000000 ∧ (10 : Int).natAbs < 2 ^ 64 := by decide
        refine ⟨_, rfl, _, rfl, _, _, rfl, rfl, _, rfl, ?_⟩
        refine use_tail (fun hB => pick2 hB fun c1 => ?_) ?tail
        · refine ⟨_, rfl, _, rfl, _, _, rfl, rfl, ten, _, _, rfl, rfl, _, rfl, ?_⟩
          refine ite2 (fun c2 => ?_) (fun _ => hB)
          have c3 := of_decide_eq_true c2
          -- pen["left"] = (abs(cell) - 10 ** 18) // many; return int(abs(cell) - 10 ** 18) % many
          refine ⟨_, rfl, _, rfl, _, _, rfl, rfl, ten, _, _, rfl, rfl, _, rfl, _, _, rfl, rfl, cdv _, ?_⟩
          refine ⟨_, rfl, p, _, rfl, DPut.k (k := .inr "left") S1.pen z3, ?_⟩
          refine ⟨_, rfl, _, rfl, _, _, rfl, rfl, ten, _, _, rfl, rfl, .inl ⟨_, rfl, _, rfl, _, _, rfl, rfl, (by omega), ?_⟩⟩
          rw [put_left]
          exact kR _ (i + 1) _ _ (by omega) (by omega) (dv _ (Int.sub_nonneg_of_le c3)) (by rw [penTo, upd_upd]; rfl)
        · -- mixed = ..
          refine ⟨_, rfl, .inl ⟨_, rfl, _, _, rfl, rfl, (by show (0 : Int) < 4294967197; decide), ?_⟩⟩
          refine ⟨_, _, rfl, rfl, wc (by omega) (by decide), _, rfl, _, _, rfl, rfl, wc (by decide) (by omega), _, rfl, _, _, rfl, rfl, wide_mul (wide_lt (a := 64) (b := 64) (by decide) wi) wi (by decide) (by decide) (by decide), _, _, rfl, rfl, ?_⟩
          refine ⟨_, rfl, _, rfl, _, _, rfl, rfl, wc (by decide) (by omega), _, _, rfl, rfl, _, _, rfl, rfl, .inl ⟨_, rfl, _, _, rfl, rfl, (by show (0 : Int) < 4294967189; decide), ?_⟩⟩
          have q2 := mod_word (a := x % 4294967197 * 52711 + 20353 * i * i + 1531 * i + 11) (b := 4294967189) (by decide) (by decide)
          show tSeq _ _ _ [some (V.ref p), some (V.int m), none, some (V.int i), some (V.int ns.length), some (V.int x), some (V.int ((x % 4294967197 * 52711 + 20353 * i * i + 1531 * i + 11) % 4294967189))] _
          obtain ⟨y2, e2, b3, b4⟩ := q2
          rw [e2]
          refine ⟨_, rfl, _, rfl, _, _, rfl, rfl, wc (by omega) (by omega), _, rfl, _, _, rfl, rfl, wc (by decide) (by omega), _, _, rfl, rfl, _, rfl, _, _, rfl, rfl, wc (by decide) (by omega), _, _, rfl, rfl, _, _, rfl, rfl, .inl ⟨_, rfl, _, _, rfl, rfl, (by show (0 : Int) < 4294967161; decide), ?_⟩⟩
          refine ⟨_, rfl, _, rfl, _, _, rfl, rfl, _, _, rfl, rfl, wc (by omega) (by omega), .inl ⟨_, rfl, _, _, rfl, rfl, (by show (0 : Int) < 4294967143; decide), _, _, rfl, rfl, (by constructor <;> decide), .inl ⟨_, rfl, _, rfl, _, _, rfl, rfl, (by omega), ?_⟩⟩⟩
          exact kR _ (i + 1) l _ (by omega) (by omega) l0 rfl
/-- one of some things: items at a -/
def spPick (K : PySem.W.Frag) : Sp := fun vs H Q _ => ∃ (p c a : Addr) (ns : List Int) (i l : Int) (items : List V), vs = [.ref p, .ref a] ∧ PenAt H p c ns i l ∧ i < 100000 ∧ H a = some (.lst items) ∧ items ≠ [] ∧ items.length ≤ 100000 ∧
  ∀ (v : V) (i' l' : Int), v ∈ items → 0 ≤ i' → i' ≤ i + 1 → 0 ≤ l' → Q v (penTo H p c i' l')
end
end Wk

/-! tuple(zip(*rows)), rows a tuple of tuples -/
namespace ZN
open PySem PySem.Spec PyProof.Rows
open PySem.Sem (wp)
abbrev Held := PySem.IsZipHeld
structure Ap (z TI TO : Addr) (its ls : List Addr) : Prop where
  zO : z ≠ TO
  zi : z ∉ its
  Oi : TO ∉ its
  nd : its.Nodup
  Iz : TI ≠ z
  IO : TI ≠ TO
  Ii : TI ∉ its
  lz : ∀ l ∈ ls, l ≠ z ∧ l ≠ TO ∧ l ∉ its
  ln : ls.length = its.length
def KeepBut (W : List Addr) (h h' : Heap) : Prop := ∀ b o, b ∉ W → h.get? b = some o → h'.get? b = some o
def refs (as : List Addr) : List Value := as.map Value.ref
theorem nd_inj {α : Type} : ∀ {l : List α} {i j : Nat} {a : α}, l.Nodup → l[i]? = some a → l[j]? = some a → i = j
  | [], i, j, a, _, h, _ => by simp at h
  | x :: l, 0, 0, a, _, _, _ => rfl
  | x :: l, 0, j + 1, a, n, h1, h2 => by
    cases h1
    have := (List.nodup_cons.mp n).1
    exact absurd (List.mem_of_getElem? (by simpa using h2)) this
  | x :: l, i + 1, 0, a, n, h1, h2 => by
    cases h2
    have := (List.nodup_cons.mp n).1
    exact absurd (List.mem_of_getElem? (by simpa using h1)) this
  | x :: l, i + 1, j + 1, a, n, h1, h2 => by
    have := nd_inj (i := i) (j := j) (List.nodup_cons.mp n).2 (by simpa using h1) (by simpa using h2)
    omega
/-- the iterators stand at i -/
def ItersAt (h : Heap) (its ls : List Addr) (rows : List (Array Value)) (i : Nat → Nat) : Prop :=
  ∀ k a l r, its[k]? = some a → ls[k]? = some l → rows[k]? = some r → h.IsTupleIter a l (i k) ∧ h.IsTuple l r
section
variable {prog : Program} {w : World} {A : Around} {E : Value → Shared → Prop} {s : Shared}
theorem iter_next {h h' : Heap} {its ls : List Addr} {rows : List (Array Value)} {i : Nat → Nat} {j : Nat} {a l : Addr} {r : Array Value} (I : ItersAt h its ls rows i) (nd : its.Nodup) (hl : ∀ l ∈ ls, l ∉ its) (ha : its[j]? = some a) (hll : ls[j]? = some l) (hr : rows[j]? = some r)
    (hs : Heap.SameBut a h h') (hn : h'.IsTupleIter a l (i j + 1)) : ItersAt h' its ls rows (fun k => if k = j then i j + 1 else i k) := by
  intro k a2 l2 r2 h1 h2 h3
  obtain ⟨q1, q2⟩ := I k a2 l2 r2 h1 h2 h3
  have hla : l2 ≠ a := fun e => hl l2 (List.mem_of_getElem? h2) (e ▸ List.mem_of_getElem? ha)
  refine ⟨?_, q2.extBut hs.extBut hla⟩
  by_cases e : k = j
  · subst e
    dsimp only
    rw [if_pos rfl]
    rw [ha] at h1
    rw [hll] at h2
    cases h1
    cases h2
    exact hn
  · dsimp only
    rw [if_neg e]
    have hne : a2 ≠ a := fun z => by
      subst z
      exact e (nd_inj nd h1 ha)
    obtain ⟨o, ho, r⟩ := q1
    exact ⟨o, hs.extBut _ _ hne ho, r⟩
/-- one iterator's turn -/
theorem turn {its ls : List Addr} {rows : List (Array Value)} {i : Nat} {vals : List Value} {j : Nat} {a : Addr} {Q : Option Value → Shared → Prop} (nd : its.Nodup) (hl : ∀ l ∈ ls, l ∉ its) (hln : ls.length = its.length) (hr : rows.length = its.length) (hv : vals.length = its.length)
    (hx : ∀ (k : Nat) (r : Array Value) (v : Value), rows[k]? = some r → vals[k]? = some v → r[i]? = some v) (I : ItersAt s.heap its ls rows (fun k => if k < j then i + 1 else i)) (ha : its[j]? = some a)
    (h : ∀ (v : Value) (h' : Heap), vals[j]? = some v → ItersAt h' its ls rows (fun k => if k < j + 1 then i + 1 else i) → Heap.SameBut a s.heap h' → Q (some v) { s with heap := h' }) :
    wpAny (model prog w) A (Builtin.SmallTypes.nextOf (.ref a) >>= fun v => pure (some v)) Q E s := by
  have hj : j < its.length := (List.getElem?_eq_some_iff.mp ha).1
  have h1 : ls[j]? = some ls[j] := List.getElem?_eq_getElem (by omega)
  have h2 : rows[j]? = some rows[j] := List.getElem?_eq_getElem (by omega)
  have h3 : vals[j]? = some vals[j] := List.getElem?_eq_getElem (by omega)
  obtain ⟨q1, q2⟩ := I j a _ _ ha h1 h2
  have ej : (if j < j then i + 1 else i) = i := if_neg (Nat.lt_irrefl _)
  dsimp only at q1
  rw [ej] at q1
  refine wpAny_bind (RZ.nextOf_tuple_item q1 q2 (hx j _ _ h2 h3) fun h' hn hs => wpAny_pure (h _ h' h3 ?_ hs))
  have hn2 : h'.IsTupleIter a ls[j] ((fun k => if k < j then i + 1 else i) j + 1) := by dsimp only; rw [ej]; exact hn
  have z := iter_next I nd hl ha h1 h2 hs hn2
  intro k a2 l2 r2 e1 e2 e3
  obtain ⟨y1, y2⟩ := z k a2 l2 r2 e1 e2 e3
  refine ⟨?_, y2⟩
  dsimp only at y1 ⊢
  by_cases e : k = j
  · rw [if_pos e, ej] at y1
    rw [if_pos (by omega)]
    exact y1
  · rw [if_neg e] at y1
    by_cases e4 : k < j
    · rw [if_pos e4] at y1
      rw [if_pos (by omega)]
      exact y1
    · rw [if_neg e4] at y1
      rw [if_neg (by omega)]
      exact y1
theorem refs_drop (its : List Addr) (j : Nat) (x : Value) (rest : List Value) (h : x :: rest = (refs its).drop j) : ∃ a, its[j]? = some a ∧ x = .ref a ∧ rest = (refs its).drop (j + 1) := by
  have hj : j < (refs its).length := by
    have := congrArg List.length h
    simp at this
    omega
  rw [List.drop_eq_getElem_cons hj] at h
  injection h with h1 h2
  have hj2 : j < its.length := by simpa [refs] using hj
  exact ⟨its[j], List.getElem?_eq_getElem hj2, by rw [h1]; simp [refs], h2⟩
theorem refs_dropI (its : List Addr) (j : Nat) (x : Value × Nat) (rest : List (Value × Nat)) (h : x :: rest = (refs its).zipIdx.drop j) : ∃ a, its[j]? = some a ∧ x = (.ref a, j) ∧ rest = (refs its).zipIdx.drop (j + 1) := by
  have hj : j < (refs its).zipIdx.length := by
    have := congrArg List.length h
    simp at this
    simp
    omega
  rw [List.drop_eq_getElem_cons hj] at h
  injection h with h1 h2
  have hj2 : j < its.length := by simpa [refs] using hj
  exact ⟨its[j], List.getElem?_eq_getElem hj2, by rw [h1]; simp [refs], h2⟩
/-- the draw behind the first one -/
theorem held_item {z TI TO T : Addr} {f : Bool} {oT : Obj} {its ls : List Addr} {rows : List (Array Value)} {i : Nat} {vals : List Value} {Q : Value → Shared → Prop} (D : Ap z TI TO its ls) (hne : its ≠ [])
    (hz : Held s.heap z TI TO T f) (hT : s.heap.get? T = some oT) (hTI : s.heap.get? TI = some { cls := .type "tuple", data := .seq (refs its).toArray }) (hI : ItersAt s.heap its ls rows (fun _ => i)) (hr : rows.length = its.length)
    (hv : vals.length = its.length) (hx : ∀ (k : Nat) (r : Array Value) (v : Value), rows[k]? = some r → vals[k]? = some v → r[i]? = some v) (hsz : its.length ≤ 1000)
    (hQ : ∀ h', Held h' z TI TO T true → ItersAt h' its ls rows (fun _ => i + 1) → h'.get? s.heap.objs.size = some { cls := .type "tuple", data := .seq vals.toArray } → h'.objs.size = s.heap.objs.size + 1 →
      KeepBut (z :: its) s.heap h' → Q (.ref s.heap.objs.size) { s with heap := h' }) :
    wpAny (model prog w) A (Builtin.«zip.__next__» ⟨[.ref z], []⟩) (fun fin s' => ∃ v, fin = .done (.ret v) ∧ Q v s') E s := by
  show wpAny _ _ (field (.ref z) 2 >>= _) _ _ _
  refine wpAny_bind (wpAny_field hz rfl (x := .bool false) rfl ?_)
  show wpAny _ _ (field (.ref z) 3 >>= _) _ _ _
  refine wpAny_bind (wpAny_field hz rfl (x := .ref TI) rfl ?_)
  refine wpAny_bind (wpAny_seqItems hTI rfl ?_)
  have he : (refs its).toArray.isEmpty = false := by
    cases its with
    | nil => exact absurd rfl hne
    | cons a r => rfl
  dsimp only
  rw [if_neg (by rw [he]; decide)]
  show wpAny _ _ (Builtin.SmallTypes.ownedTupleIsFree (.ref z) >>= _) _ _ _
  refine wpAny_bind (PySem.wpAny_tupleHeld_zip hz hT fun h₁ hz₁ hs₁ => ?_)
  simp only [Bool.false_eq_true, if_false]
  have hI₁ : ItersAt h₁ its ls rows (fun _ => i) := fun k a l r e1 e2 e3 => by
    obtain ⟨⟨o, ho, q⟩, q2⟩ := hI k a l r e1 e2 e3
    exact ⟨⟨o, hs₁.extBut _ _ (fun y => D.zi (y ▸ List.mem_of_getElem? e1)) ho, q⟩, q2.extBut hs₁.extBut (fun y => (D.lz l (List.mem_of_getElem? e2)).1 y)⟩
  refine wpAny_bind (wpAny_forIn_array' _ (fun rest b s' => ∃ (j : Nat) (h' : Heap), b = ⟨none, (vals.take j).toArray⟩ ∧ rest = (refs its).drop j ∧ j ≤ its.length ∧ s' = { s with heap := h' } ∧ ItersAt h' its ls rows (fun k => if k < j then i + 1 else i) ∧
    KeepBut its h₁ h' ∧ h'.objs.size = h₁.objs.size) _ ?_ ?_ _ _ ⟨0, h₁, rfl, rfl, Nat.zero_le _, rfl, fun k a l r e1 e2 e3 => by dsimp only; rw [if_neg (Nat.not_lt_zero _)]; exact hI₁ k a l r e1 e2 e3, fun b o _ e => e, rfl⟩)
  · rintro x rest b s' ⟨j, h', rfl, hrest, hj, rfl, Ij, hk, hsize⟩
    obtain ⟨a, ha, rfl, hrest2⟩ := refs_drop its j x rest hrest
    refine wpAny_bind (wpAny_holding ?_)
    show wpAny _ _ (Builtin.SmallTypes.nextOf (.ref a) >>= fun v => pure (some v)) _ _ _
    refine turn (s := { s with heap := h' }) (vals := vals) D.nd (fun l hl => (D.lz l hl).2.2) D.ln hr hv hx Ij ha fun v h'' ev I2 hs2 => ?_
    refine wpAny_pure ⟨j + 1, h'', ?_, hrest2, (List.getElem?_eq_some_iff.mp ha).1, rfl, I2, fun b o hb e => hs2.extBut _ _ (fun y => hb (y ▸ List.mem_of_getElem? ha)) (hk b o hb e), hs2.1.trans hsize⟩
    have e1 : vals.take (j + 1) = vals.take j ++ [v] := by rw [List.take_add_one, ev]; rfl
    rw [e1]
    simp
  · rintro b s' ⟨j, h', rfl, hrest, hj, rfl, Ij, hk, hsize⟩
    have hjn : j = its.length := by
      have := congrArg List.length hrest
      simp [refs] at this
      omega
    subst hjn
    dsimp only
    rw [← hv, List.take_length]
    refine wpAny_bind (wpAny_newTuple ?_ (by show vals.length ≤ sizeLine; exact Nat.le_trans (show vals.length ≤ 1000 by omega) (by decide)))
    have hsz2 : h'.objs.size = s.heap.objs.size := hsize.trans hs₁.1
    refine wpAny_pure ⟨_, rfl, ?_⟩
    show Q (.ref h'.objs.size) _
    have g1 : (h'.push { cls := .type "tuple", data := .seq vals.toArray }).get? h'.objs.size = some { cls := .type "tuple", data := .seq vals.toArray } := Heap.get?_push_size _ rfl
    have g2 : (h'.push { cls := .type "tuple", data := .seq vals.toArray }).objs.size = h'.objs.size + 1 := Heap.size_push ..
    have k2 : KeepBut (z :: its) s.heap (h'.push { cls := .type "tuple", data := .seq vals.toArray }) := fun b o hb e => by
      have b1 : b ≠ z := fun y => hb (y ▸ List.mem_cons_self)
      have b2 : b ∉ its := fun y => hb (List.mem_cons_of_mem _ y)
      exact Heap.get?_push_of_some _ (hk b o b2 (hs₁.extBut _ _ b1 e))
    have hz2 : Held (h'.push { cls := .type "tuple", data := .seq vals.toArray }) z TI TO T true := Heap.get?_push_of_some _ (hk z _ D.zi hz₁)
    have I2 : ItersAt (h'.push { cls := .type "tuple", data := .seq vals.toArray }) its ls rows (fun _ => i + 1) := fun k a l r e1 e2 e3 => by
      obtain ⟨⟨o, ho, q⟩, q2⟩ := Ij k a l r e1 e2 e3
      dsimp only at q
      rw [if_pos (by have := (List.getElem?_eq_some_iff.mp e1).1; omega)] at q
      exact ⟨⟨o, Heap.get?_push_of_some _ ho, q⟩, q2.push _⟩
    rw [hsz2] at g1 g2 ⊢
    exact hQ _ hz2 I2 g1 g2 k2
/-- the end behind some draws -/
theorem held_end {z TI TO T a l : Addr} {f : Bool} {oT : Obj} {its ls : List Addr} {rows : List (Array Value)} {i : Nat} {r : Array Value} {Q : Fin → Shared → Prop} (hh : A.handled = none) (D : Ap z TI TO its ls)
    (hz : Held s.heap z TI TO T f) (hT : s.heap.get? T = some oT) (hTI : s.heap.get? TI = some { cls := .type "tuple", data := .seq (refs its).toArray }) (hI : ItersAt s.heap its ls rows (fun _ => i))
    (h1 : its[0]? = some a) (h2 : ls[0]? = some l) (h3 : rows[0]? = some r) (hx : r[i]? = none)
    (hE : ∀ h' e, KeepBut (z :: its) s.heap h' → (∃ o, h'.get? e = some o ∧ o.cls = .type "StopIteration") → E (.ref e) { s with heap := h' }) :
    wpAny (model prog w) A (Builtin.«zip.__next__» ⟨[.ref z], []⟩) Q E s := by
  show wpAny _ _ (field (.ref z) 2 >>= _) _ _ _
  refine wpAny_bind (wpAny_field hz rfl (x := .bool false) rfl ?_)
  show wpAny _ _ (field (.ref z) 3 >>= _) _ _ _
  refine wpAny_bind (wpAny_field hz rfl (x := .ref TI) rfl ?_)
  refine wpAny_bind (wpAny_seqItems hTI rfl ?_)
  obtain ⟨its2, rfl⟩ : ∃ its2, its = a :: its2 := by
    cases its with
    | nil => simp at h1
    | cons x y => simp at h1; exact ⟨y, by rw [h1]⟩
  dsimp only
  rw [if_neg (show ¬ ((refs (a :: its2)).toArray.isEmpty = true) from Bool.false_ne_true)]
  show wpAny _ _ (Builtin.SmallTypes.ownedTupleIsFree (.ref z) >>= _) _ _ _
  refine wpAny_bind (PySem.wpAny_tupleHeld_zip hz hT fun h₁ hz₁ hs₁ => ?_)
  simp only [Bool.false_eq_true, if_false]
  refine wpAny_bind ?_
  rw [← Array.forIn_toList]
  show wpAny _ _ (forIn (Value.ref a :: refs its2) _ _) _ _ _
  rw [List.forIn_cons]
  refine wpAny_bind (wpAny_bind (wpAny_holding ?_))
  show wpAny _ _ (Builtin.SmallTypes.nextOf (.ref a) >>= _) _ _ _
  obtain ⟨⟨o, ho, q⟩, q2⟩ := hI 0 a l r h1 h2 h3
  have hza : a ≠ z := fun y => D.zi (y ▸ List.mem_cons_self)
  refine wpAny_bind (RZ.nextOf_tuple_end (s := { s with heap := h₁ }) hh ⟨o, hs₁.extBut _ _ hza ho, q⟩ (q2.extBut hs₁.extBut (D.lz l (List.mem_of_getElem? h2)).1) hx fun h₂ e hs₂ he => ?_)
  exact hE h₂ e (fun b o hb e => hs₂ _ _ (fun y => hb (by rw [y]; simp)) (hs₁.extBut _ _ (fun y => hb (by rw [y]; simp)) e)) he
def Free (h : Heap) (z TI TO : Addr) : Prop := IsZip h z TI TO .none
/-- the first draw -/
theorem free_item {z TI TO : Addr} {its ls : List Addr} {rows : List (Array Value)} {i : Nat} {vals : List Value} {kept : Array Value} {Q : Value → Shared → Prop} (D : Ap z TI TO its ls) (hne : its ≠ [])
    (hz : Free s.heap z TI TO) (hTI : s.heap.get? TI = some { cls := .type "tuple", data := .seq (refs its).toArray }) (hTO : s.heap.get? TO = some { cls := .type "tuple", data := .seq kept }) (hks : kept.size = its.length) (hI : ItersAt s.heap its ls rows (fun _ => i)) (hr : rows.length = its.length)
    (hv : vals.length = its.length) (hx : ∀ (k : Nat) (r : Array Value) (v : Value), rows[k]? = some r → vals[k]? = some v → r[i]? = some v) (hsz : its.length ≤ 1000)
    (hQ : ∀ h', Held h' z TI TO s.heap.objs.size false → ItersAt h' its ls rows (fun _ => i + 1) → h'.get? s.heap.objs.size = some { cls := .type "tuple", data := .seq vals.toArray } → h'.objs.size = s.heap.objs.size + 1 →
      KeepBut (z :: TO :: its) s.heap h' → Q (.ref s.heap.objs.size) { s with heap := h' }) :
    wpAny (model prog w) A (Builtin.«zip.__next__» ⟨[.ref z], []⟩) (fun fin s' => ∃ v, fin = .done (.ret v) ∧ Q v s') E s := by
  show wpAny _ _ (field (.ref z) 2 >>= _) _ _ _
  refine wpAny_bind (wpAny_field hz rfl (x := .bool false) rfl ?_)
  show wpAny _ _ (field (.ref z) 3 >>= _) _ _ _
  refine wpAny_bind (wpAny_field hz rfl (x := .ref TI) rfl ?_)
  refine wpAny_bind (wpAny_seqItems hTI rfl ?_)
  have he : (refs its).toArray.isEmpty = false := by
    cases its with
    | nil => exact absurd rfl hne
    | cons a r => rfl
  dsimp only
  rw [if_neg (by rw [he]; decide)]
  show wpAny _ _ (Builtin.SmallTypes.ownedTupleIsFree (.ref z) >>= _) _ _ _
  refine wpAny_bind ?_
  unfold Builtin.SmallTypes.ownedTupleIsFree
  refine wpAny_bind (wpAny_field hz rfl (x := .none) rfl (wpAny_pure ?_))
  simp only [if_true]
  refine wpAny_bind (wpAny_rule ?_)
  refine wpAny_bind (wpAny_field hz rfl (x := .ref TO) rfl ?_)
  refine wpAny_bind (wpAny_setField_rec hz (by simp) fun h₁ hz₁ hs₁ => ?_)
  replace hz₁ : IsZip h₁ z TI TO .ellipsis := hz₁
  have hI₁ : ItersAt h₁ its ls rows (fun _ => i) := fun k a l r e1 e2 e3 => by
    obtain ⟨⟨o, ho, q⟩, q2⟩ := hI k a l r e1 e2 e3
    exact ⟨⟨o, hs₁.extBut _ _ (fun y => D.zi (y ▸ List.mem_of_getElem? e1)) ho, q⟩, q2.extBut hs₁.extBut (fun y => (D.lz l (List.mem_of_getElem? e2)).1 y)⟩
  have hTO₁ : h₁.get? TO = some { cls := .type "tuple", data := .seq kept } := hs₁.extBut _ _ (Ne.symm D.zO) hTO
  refine wpAny_bind (wpAny_forIn_list _ (fun rest b s' => ∃ (j : Nat) (h' : Heap) (kp : Array Value), b = ⟨none, ()⟩ ∧ rest = (refs its).zipIdx.drop j ∧ j ≤ its.length ∧ s' = { s with heap := h' } ∧ ItersAt h' its ls rows (fun k => if k < j then i + 1 else i) ∧
    h'.get? TO = some { cls := .type "tuple", data := .seq kp } ∧ kp.size = its.length ∧ (∀ k, k < j → kp[k]? = vals[k]?) ∧ KeepBut (TO :: its) h₁ h' ∧ h'.objs.size = h₁.objs.size) _ ?_ ?_ _ _ ⟨0, h₁, kept, rfl, rfl, Nat.zero_le _, rfl, fun k a l r e1 e2 e3 => by dsimp only; rw [if_neg (Nat.not_lt_zero _)]; exact hI₁ k a l r e1 e2 e3, hTO₁, hks, fun k hk => absurd hk (Nat.not_lt_zero _), fun b o _ e => e, rfl⟩)
  · rintro x rest b s' ⟨j, h', kp, rfl, hrest, hj, rfl, Ij, hkp, hkps, hkv, hk, hsize⟩
    obtain ⟨a, ha, rfl, hrest2⟩ := refs_dropI its j x rest hrest
    refine wpAny_bind (wpAny_onRaise ?_)
    show wpAny _ _ (Builtin.SmallTypes.nextOf (.ref a) >>= fun v => pure (some v)) _ _ _
    refine turn (s := { s with heap := h' }) (vals := vals) D.nd (fun l hl => (D.lz l hl).2.2) D.ln hr hv hx Ij ha fun v h'' ev I2 hs2 => ?_
    have haO : TO ≠ a := fun y => D.Oi (y ▸ List.mem_of_getElem? ha)
    have hkp2 : h''.get? TO = some { cls := .type "tuple", data := .seq kp } := hs2.extBut _ _ haO hkp
    refine wpAny_bind (wpAny_seqItems hkp2 rfl ?_)
    refine wpAny_bind (wpAny_updateSeq hkp2 rfl ?_ (by rw [hkps]; exact Nat.le_trans hsz (by decide)) (by rw [Array.size_setIfInBounds, hkps]; exact Nat.le_trans hsz (by decide)))
    refine wpAny_bind (wpAny_letGo (wpAny_pure ?_))
    have hs3 := Heap.SameBut.update h'' TO (Obj.mapSeq (·.setIfInBounds j v))
    have g3 : (h''.update TO (Obj.mapSeq (·.setIfInBounds j v))).get? TO = some { cls := .type "tuple", data := .seq (kp.setIfInBounds j v) } := by
      rw [Heap.get?_update_self _ hkp2 rfl]
      simp [Obj.mapSeq]
    have hjn : j < its.length := (List.getElem?_eq_some_iff.mp ha).1
    refine ⟨j + 1, _, kp.setIfInBounds j v, rfl, hrest2, hjn, rfl, ?_, g3, by rw [Array.size_setIfInBounds, hkps], ?_, ?_, hs3.1.trans (hs2.1.trans hsize)⟩
    · intro k a2 l2 r2 e1 e2 e3
      obtain ⟨⟨o, ho, q⟩, q2⟩ := I2 k a2 l2 r2 e1 e2 e3
      exact ⟨⟨o, hs3.extBut _ _ (fun y => D.Oi (y ▸ List.mem_of_getElem? e1)) ho, q⟩, q2.extBut hs3.extBut (D.lz l2 (List.mem_of_getElem? e2)).2.1⟩
    · intro k hkj
      by_cases e : k = j
      · subst e
        rw [Array.getElem?_setIfInBounds_self_of_lt (by omega), ev]
      · rw [Array.getElem?_setIfInBounds_ne (by omega)]
        exact hkv k (by omega)
    · intro b o hb e
      have b1 : b ≠ TO := fun y => hb (by rw [y]; simp)
      have b2 : b ∉ its := fun y => hb (List.mem_cons_of_mem _ y)
      exact hs3.extBut _ _ b1 (hs2.extBut _ _ (fun y => b2 (y ▸ List.mem_of_getElem? ha)) (hk b o hb e))
  · rintro b s' ⟨j, h', kp, rfl, hrest, hj, rfl, Ij, hkp, hkps, hkv, hk, hsize⟩
    have hjn : j = its.length := by
      have := congrArg List.length hrest
      simp [refs] at this
      omega
    subst hjn
    dsimp only
    have ekp : kp = vals.toArray := by
      apply Array.ext_getElem?
      intro k
      by_cases hk2 : k < its.length
      · rw [hkv k hk2]
        simp
      · rw [Array.getElem?_eq_none (by omega), Array.getElem?_eq_none (by simp; omega)]
    subst ekp
    refine wpAny_bind (wpAny_seqItems hkp rfl ?_)
    refine wpAny_bind (wpAny_newTuple ?_ (by show vals.length ≤ sizeLine; exact Nat.le_trans (show vals.length ≤ 1000 by omega) (by decide)))
    have hsz2 : h'.objs.size = s.heap.objs.size := hsize.trans hs₁.1
    have hz2 : IsZip h' z TI TO .ellipsis := hk z _ (by simp only [List.mem_cons, not_or]; exact ⟨D.zO, D.zi⟩) hz₁
    have hzlt : z < h'.objs.size := Heap.lt_size hz2
    show wpAny _ _ (Builtin.SmallTypes.ownedTupleHandOut (.ref z) (.ref h'.objs.size) >>= _) _ _ _
    refine wpAny_bind ?_
    unfold Builtin.SmallTypes.ownedTupleHandOut
    have hz3 : IsZip (h'.push { cls := .type "tuple", data := .seq vals.toArray }) z TI TO .ellipsis := Heap.get?_push_of_some _ hz2
    refine wpAny_bind (wpAny_setField_rec hz3 (by simp) fun h₇ hz₇ hs₇ => ?_)
    replace hz₇ : IsZip h₇ z TI TO (rawInt h'.objs.size) := hz₇
    refine wpAny_setField_rec hz₇ (by simp) fun h₈ hz₈ hs₈ => ?_
    replace hz₈ : Held h₈ z TI TO h'.objs.size false := hz₈
    have up : ∀ c o, c ≠ z → h'.get? c = some o → h₈.get? c = some o := fun c o c1 e => hs₈.extBut _ _ c1 (hs₇.extBut _ _ c1 (Heap.get?_push_of_some _ e))
    have hT₈ : h₈.get? h'.objs.size = some { cls := .type "tuple", data := .seq vals.toArray } := hs₈.extBut _ _ (Nat.ne_of_gt hzlt) (hs₇.extBut _ _ (Nat.ne_of_gt hzlt) (Heap.get?_push_size _ rfl))
    have h8s : h₈.objs.size = h'.objs.size + 1 := by rw [hs₈.1, hs₇.1, Heap.size_push]
    refine wpAny_pure ⟨_, rfl, ?_⟩
    show Q (.ref h'.objs.size) _
    have I8 : ItersAt h₈ its ls rows (fun _ => i + 1) := fun k a l r e1 e2 e3 => by
      obtain ⟨⟨o, ho, q⟩, ol, hol, q2⟩ := Ij k a l r e1 e2 e3
      dsimp only at q
      rw [if_pos (List.getElem?_eq_some_iff.mp e1).1] at q
      exact ⟨⟨o, up _ _ (fun y => D.zi (y ▸ List.mem_of_getElem? e1)) ho, q⟩, ol, up _ _ (D.lz l (List.mem_of_getElem? e2)).1 hol, q2⟩
    have k8 : KeepBut (z :: TO :: its) s.heap h₈ := fun b o hb e => by
      have b1 : b ≠ z := fun y => hb (by rw [y]; simp)
      exact up _ _ b1 (hk b o (fun y => hb (List.mem_cons_of_mem _ y)) (hs₁.extBut _ _ b1 e))
    rw [hsz2] at hz₈ hT₈ h8s ⊢
    exact hQ h₈ hz₈ I8 hT₈ h8s k8
/-- the zip behind i draws -/
structure ZSt (z TI TO : Addr) (its ls : List Addr) (rows : List (Array Value)) (h : Heap) (i : Nat) : Prop where
  ti : h.get? TI = some { cls := .type "tuple", data := .seq (refs its).toArray }
  it : ItersAt h its ls rows (fun _ => i)
  st : (Free h z TI TO ∧ i = 0 ∧ ∃ kept : Array Value, h.get? TO = some { cls := .type "tuple", data := .seq kept } ∧ kept.size = its.length) ∨ (∃ T f oT, Held h z TI TO T f ∧ h.get? T = some oT ∧ oT.cls = .type "tuple" ∧ T ∉ z :: TO :: its)
theorem ZSt.zip {z TI TO : Addr} {its ls : List Addr} {rows : List (Array Value)} {i : Nat} (Z : ZSt z TI TO its ls rows s.heap i) : s.TypeIs (.ref z) "zip" := by
  rcases Z.st with ⟨hz, _⟩ | ⟨T, f, oT, hz, _⟩
  · exact ⟨_, hz, rfl⟩
  · exact ⟨_, hz, rfl⟩
/-- what is laid beside changes nothing -/
theorem ZSt.keep {z TI TO : Addr} {its ls : List Addr} {rows : List (Array Value)} {h h' : Heap} {i : Nat} {S : Addr} {oS : Obj} (Z : ZSt z TI TO its ls rows h i) (hS : h.get? S = some oS) (hc : oS.cls = .type "list") (k : ∀ b o, b ≠ S → h.get? b = some o → h'.get? b = some o) : ZSt z TI TO its ls rows h' i := by
  have ne : ∀ {b o}, h.get? b = some o → o.cls ≠ .type "list" → b ≠ S := fun e n y => by
    subst y
    rw [hS] at e
    cases e
    exact n hc
  have tl : Value.type "tuple" ≠ Value.type "list" := by decide
  have zl : Value.type "zip" ≠ Value.type "list" := by decide
  refine ⟨k _ _ (ne Z.ti tl) Z.ti, fun q a l r e1 e2 e3 => ?_, ?_⟩
  · obtain ⟨⟨o, ho, q1, q2⟩, ol, hol, q3, q4⟩ := Z.it q a l r e1 e2 e3
    exact ⟨⟨o, k _ _ (ne ho (by rw [q1]; decide)) ho, q1, q2⟩, ol, k _ _ (ne hol (by rw [q3]; decide)) hol, q3, q4⟩
  · rcases Z.st with ⟨hz, h0, kept, hk, hs⟩ | ⟨T, f, oT, hz, hT, hn⟩
    · exact .inl ⟨k _ _ (ne hz zl) hz, h0, kept, k _ _ (ne hk tl) hk, hs⟩
    · exact .inr ⟨T, f, oT, k _ _ (ne hz zl) hz, k _ _ (ne hT (by rw [hn.1]; exact tl)) hT, hn⟩
theorem draw {z TI TO : Addr} {its ls : List Addr} {rows : List (Array Value)} {i : Nat} {vals : List Value} {Q : Option Value → Shared → Prop} (D : Ap z TI TO its ls) (hne : its ≠ []) (Z : ZSt z TI TO its ls rows s.heap i) (hlt : ∀ b ∈ z :: TO :: its, b < s.heap.objs.size) (hr : rows.length = its.length)
    (hv : vals.length = its.length) (hx : ∀ (k : Nat) (r : Array Value) (v : Value), rows[k]? = some r → vals[k]? = some v → r[i]? = some v) (hsz : its.length ≤ 1000)
    (hQ : ∀ h', ZSt z TI TO its ls rows h' (i + 1) → h'.get? s.heap.objs.size = some { cls := .type "tuple", data := .seq vals.toArray } → h'.objs.size = s.heap.objs.size + 1 → KeepBut (z :: TO :: its) s.heap h' → Q (some (.ref s.heap.objs.size)) { s with heap := h' }) :
    wpAny (model prog w) A (pyNext (.ref z)) Q E s := by
  have hTy := Z.zip
  have hIn : TI ∉ z :: TO :: its := by
    simp only [List.mem_cons, not_or]
    exact ⟨D.Iz, D.IO, D.Ii⟩
  unfold pyNext
  refine wpAny_bind (wpAny_attempt (wpAny_callSpecial?_slot (name := Str.ofString "__next__") hTy F.slot_zip_next (wpAny_call_entry F.slot_zip_next hTy F.entry_zip_next ?_ (F.args_zip_next_1 _))))
  rcases Z.st with ⟨hz, h0, kept, hk, hs⟩ | ⟨T, f, oT, hz, hT, hn⟩
  · exact free_item D hne hz Z.ti hk hs Z.it hr hv hx hsz fun h' a1 a2 a3 a4 a5 => wpAny_pure (hQ h' ⟨a5 _ _ hIn Z.ti, a2, .inr ⟨_, _, _, a1, a3, rfl, fun y => Nat.lt_irrefl _ (hlt _ y)⟩⟩ a3 a4 a5)
  · refine held_item D hne hz hT Z.ti Z.it hr hv hx hsz fun h' a1 a2 a3 a4 a5 => wpAny_pure ?_
    have a6 : KeepBut (z :: TO :: its) s.heap h' := fun b o hb e => a5 b o (fun y => hb (by
      rcases List.mem_cons.mp y with y | y
      · rw [y]
        exact List.mem_cons_self
      · exact List.mem_cons_of_mem _ (List.mem_cons_of_mem _ y))) e
    exact hQ h' ⟨a6 _ _ hIn Z.ti, a2, .inr ⟨_, _, _, a1, a6 _ _ hn.2 hT, hn⟩⟩ a3 a4 a6
theorem stop {z TI TO a l : Addr} {its ls : List Addr} {rows : List (Array Value)} {i : Nat} {r : Array Value} {Q : Option Value → Shared → Prop} (hh : A.handled = none) (D : Ap z TI TO its ls) (Z : ZSt z TI TO its ls rows s.heap i) (hi : 1 ≤ i)
    (h1 : its[0]? = some a) (h2 : ls[0]? = some l) (h3 : rows[0]? = some r) (hx : r[i]? = none) (hQ : ∀ h', KeepBut (z :: TO :: its) s.heap h' → Q none { s with heap := h' }) : wpAny (model prog w) A (pyNext (.ref z)) Q E s := by
  have hTy := Z.zip
  unfold pyNext
  rcases Z.st with ⟨_, h0, _⟩ | ⟨T, f, oT, hz, hT, hn⟩
  · omega
  · refine wpAny_bind (wpAny_attempt (wpAny_callSpecial?_slot (name := Str.ofString "__next__") hTy F.slot_zip_next (wpAny_call_entry F.slot_zip_next hTy F.entry_zip_next (held_end hh D hz hT Z.ti Z.it h1 h2 h3 hx fun h' e hk he => ?_) (F.args_zip_next_1 _))))
    obtain ⟨o, ho, hc⟩ := he
    refine wpAny_bind (wpAny_isInstance (T := "StopIteration") (b := true) ⟨o, ho, hc⟩ isSubtype_stop ?_)
    refine wpAny_pure (hQ _ fun b o hb e => hk b o (fun y => hb ?_) e)
    rcases List.mem_cons.mp y with y | y
    · rw [y]
      exact List.mem_cons_self
    · exact List.mem_cons_of_mem _ (List.mem_cons_of_mem _ y)
/-- the items drawn so far stand at as -/
structure Got (h : Heap) (lo : Nat) (cols : Nat → List Value) (as : List Addr) : Prop where
  at_ : ∀ (j : Nat) (a : Addr), as[j]? = some a → h.get? a = some { cls := .type "tuple", data := .seq (cols j).toArray }
  up : as.Pairwise (· < ·)
  lo_ : ∀ a ∈ as, lo ≤ a ∧ a < h.objs.size
theorem Got.lay {h h' : Heap} {lo : Nat} {cols : Nat → List Value} {as : List Addr} (G : Got h lo cols as) (k : ∀ a ∈ as, ∀ o, h.get? a = some o → h'.get? a = some o) (hs : h.objs.size ≤ h'.objs.size) : Got h' lo cols as :=
  ⟨fun j a e => k a (List.mem_of_getElem? e) _ (G.at_ j a e), G.up, fun a m => ⟨(G.lo_ a m).1, Nat.lt_of_lt_of_le (G.lo_ a m).2 hs⟩⟩
theorem Got.snoc {h h' : Heap} {lo : Nat} {cols : Nat → List Value} {as : List Addr} (G : Got h lo cols as) (k : ∀ a ∈ as, ∀ o, h.get? a = some o → h'.get? a = some o) (hs : h'.objs.size = h.objs.size + 1) (hlo : lo ≤ h.objs.size)
    (new : h'.get? h.objs.size = some { cls := .type "tuple", data := .seq (cols as.length).toArray }) : Got h' lo cols (as ++ [h.objs.size]) := by
  refine ⟨fun j a e => ?_, ?_, fun a m => ?_⟩
  · rcases Nat.lt_or_ge j as.length with hj | hj
    · rw [List.getElem?_append_left hj] at e
      exact k a (List.mem_of_getElem? e) _ (G.at_ j a e)
    · rw [List.getElem?_append_right hj] at e
      have e0 : j - as.length = 0 := by
        rcases Nat.eq_zero_or_pos (j - as.length) with z | z
        · exact z
        · rw [List.getElem?_eq_none (by simp; omega)] at e
          cases e
      rw [e0] at e
      cases e
      rw [show j = as.length by omega]
      exact new
  · rw [List.pairwise_append]
    refine ⟨G.up, by simp, fun a ha b hb => ?_⟩
    rw [List.mem_singleton.mp hb]
    exact (G.lo_ a ha).2
  · rcases List.mem_append.mp m with m | m
    · exact ⟨(G.lo_ a m).1, by rw [hs]; exact Nat.lt_succ_of_lt (G.lo_ a m).2⟩
    · rw [List.mem_singleton.mp m]
      exact ⟨hlo, by rw [hs]; exact Nat.lt_succ_self _⟩
theorem extend_loop {z TI TO S : Addr} {its ls : List Addr} {rows : List (Array Value)} {n lo : Nat} {cols : Nat → List Value} {R : Result → Shared → Prop} (hh : A.in1.handled = none) (D : Ap z TI TO its ls) (hne : its ≠ []) (hr : rows.length = its.length) (h1n : 1 ≤ n) (hn : n ≤ 1000) (hsz : its.length ≤ 1000)
    (hw : ∀ r ∈ rows, r.size = n) (hc : ∀ i, i < n → (cols i).length = its.length ∧ ∀ (k : Nat) (r : Array Value) (v : Value), rows[k]? = some r → (cols i)[k]? = some v → r[i]? = some v) (hSW : S ∉ z :: TO :: its) (res : Value) :
    ∀ (k : Nat) (s : Shared) (as : List Addr) (c : Nat), n - as.length = k → as.length ≤ n → ZSt z TI TO its ls rows s.heap as.length → (∀ b ∈ z :: TO :: its, b < s.heap.objs.size ∧ b < lo) → S < lo → lo ≤ s.heap.objs.size →
    s.heap.get? S = some { cls := .type "list", dict := none, data := .seq (refs as).toArray c, slots := #[] } → Got s.heap lo cols as →
    (∀ h' as' c', as'.length = n → KeepBut (S :: z :: TO :: its) s.heap h' → h'.get? S = some { cls := .type "list", dict := none, data := .seq (refs as').toArray c', slots := #[] } → Got h' lo cols as' → R (.ok (.ret res)) { s with heap := h' }) →
    codeAny (model prog w) A (.builtin "list.extend.loop" ⟨[.ref S, .ref z, res], []⟩) R s := by
  intro k
  induction k with
  | zero =>
    intro s as c hk hle Z hlt hSl hlo hS G hR
    have e : as.length = n := by omega
    obtain ⟨a, ha⟩ : ∃ a, its[0]? = some a := by
      cases its with
      | nil => exact absurd rfl hne
      | cons a r => exact ⟨a, rfl⟩
    have hpos : 0 < its.length := (List.getElem?_eq_some_iff.mp ha).1
    have hln := D.ln
    have h2 : ls[0]? = some (ls[0]'(by omega)) := List.getElem?_eq_getElem (by omega)
    have h3 : rows[0]? = some (rows[0]'(by omega)) := List.getElem?_eq_getElem (by omega)
    refine codeAny_builtin F.entry_extend_loop ?_
    rw [Around.under_plainId F.plain_extend_loop _]
    show wpAny _ A.in1 (pyNext (.ref z) >>= _) _ _ s
    refine wpAny_bind (stop hh D Z (by omega) ha h2 h3 (Array.getElem?_eq_none (by rw [hw _ (List.mem_of_getElem? h3)]; omega)) fun h' hk' => ?_)
    have keepG : ∀ a ∈ as, ∀ o, s.heap.get? a = some o → h'.get? a = some o := fun a m o x => hk' a o (fun y => Nat.lt_irrefl _ (Nat.lt_of_lt_of_le (hlt a y).2 (G.lo_ a m).1)) x
    refine wpAny_pure (hR h' as c e (fun b o hb x => hk' b o (fun y => hb (List.mem_cons_of_mem _ y)) x) (hk' _ _ hSW hS) ⟨fun j a x => keepG a (List.mem_of_getElem? x) _ (G.at_ j a x), G.up, fun a m => ⟨(G.lo_ a m).1, ?_⟩⟩)
    obtain ⟨j, hj⟩ := List.mem_iff_getElem?.mp m
    exact Heap.lt_size (keepG a m _ (G.at_ j a hj))
  | succ k ih =>
    intro s as c hk hle Z hlt hSl hlo hS G hR
    have hi : as.length < n := by omega
    obtain ⟨hcl, hcx⟩ := hc as.length hi
    refine codeAny_builtin F.entry_extend_loop ?_
    rw [Around.under_plainId F.plain_extend_loop _]
    show wpAny _ A.in1 (pyNext (.ref z) >>= _) _ _ s
    refine wpAny_bind (draw D hne Z (fun b m => (hlt b m).1) hr hcl hcx hsz fun h' Z' new hsize hk' => ?_)
    have hS' := hk' _ _ hSW hS
    show wpAny _ A.in1 (updateSeq S (·.push (.ref s.heap.objs.size)) >>= _) _ _ _
    refine wpAny_bind (wpAny_updateSeq hS' rfl ?_ (by simp [refs]; exact Nat.le_trans (show as.length ≤ 1000 by omega) (by decide)) (by rw [Array.size_push]; simp [refs]; exact Nat.le_trans (show as.length ≤ 1000 by omega) (by decide)))
    have hs3 := Heap.SameBut.update h' S (Obj.mapSeq (·.push (Value.ref s.heap.objs.size)))
    have keepG : ∀ a ∈ as, ∀ o, s.heap.get? a = some o → h'.get? a = some o := fun a m o x => hk' a o (fun y => Nat.lt_irrefl _ (Nat.lt_of_lt_of_le (hlt a y).2 (G.lo_ a m).1)) x
    have G' := G.snoc keepG hsize hlo new
    have g3 : ∃ c', (h'.update S (Obj.mapSeq (·.push (Value.ref s.heap.objs.size)))).get? S = some { cls := .type "list", dict := none, data := .seq (refs (as ++ [s.heap.objs.size])).toArray c', slots := #[] } := by
      rw [Heap.get?_update_self _ hS' rfl]
      have e : (refs as).toArray.push (Value.ref s.heap.objs.size) = (refs (as ++ [s.heap.objs.size])).toArray := by simp [refs]
      rw [← e]
      exact ⟨_, rfl⟩
    obtain ⟨c', g3⟩ := g3
    have el : (as ++ [s.heap.objs.size]).length = as.length + 1 := by simp
    refine wpAny_pure ⟨plainId_quiet F.plain_extend_loop _, ih { s with heap := h'.update S (Obj.mapSeq (·.push (Value.ref s.heap.objs.size))) } (as ++ [s.heap.objs.size]) c' (by rw [el]; omega) (by rw [el]; omega) ?_ ?_ hSl ?_ g3 ?_ ?_⟩
    · rw [el]
      exact Z'.keep hS' rfl fun b o hb x => hs3.extBut _ _ hb x
    · intro b m
      refine ⟨?_, (hlt b m).2⟩
      show b < (h'.update S _).objs.size
      rw [hs3.1, hsize]
      exact Nat.lt_succ_of_lt (hlt b m).1
    · show lo ≤ (h'.update S _).objs.size
      rw [hs3.1, hsize]
      exact Nat.le_succ_of_le hlo
    · refine G'.lay (fun a m o x => hs3.extBut _ _ (fun y => ?_) x) (by rw [hs3.1]; exact Nat.le_refl _)
      rw [y] at m
      exact Nat.lt_irrefl _ (Nat.lt_of_lt_of_le hSl (G'.lo_ S m).1)
    · intro h'' as' c'' e1 k1 e2 G2
      refine hR h'' as' c'' e1 (fun b o hb x => k1 b o hb (hs3.extBut _ _ (fun y => hb (by rw [y]; exact List.mem_cons_self)) (hk' b o (fun y => hb (List.mem_cons_of_mem _ y)) x))) e2 G2
theorem no_len : typeLookup (.type "zip") "__len__" = pure none := by rw [typeLookup_type, builtinLookup_eq_fast]; kernel_rfl
theorem no_hint : typeLookup (.type "zip") "__length_hint__" = pure none := by rw [typeLookup_type, builtinLookup_eq_fast]; kernel_rfl
/-- list(zip) as the machine collects it -/
theorem collect_zip {z TI TO : Addr} {its ls : List Addr} {rows : List (Array Value)} {n : Nat} {cols : Nat → List Value} {Q : List Value → Shared → Prop} (hh : A.in1.handled = none) (D : Ap z TI TO its ls) (hne : its ≠ []) (hr : rows.length = its.length) (h1n : 1 ≤ n) (hn : n ≤ 1000) (hsz : its.length ≤ 1000)
    (hw : ∀ r ∈ rows, r.size = n) (hc : ∀ i, i < n → (cols i).length = its.length ∧ ∀ (k : Nat) (r : Array Value) (v : Value), rows[k]? = some r → (cols i)[k]? = some v → r[i]? = some v) (Z : ZSt z TI TO its ls rows s.heap 0) (hlt : ∀ b ∈ z :: TO :: its, b < s.heap.objs.size)
    (hQ : ∀ h' as, as.length = n → KeepBut (z :: TO :: its) s.heap h' → Got h' s.heap.objs.size cols as → Q (refs as) { s with heap := h' }) : wpAny (model prog w) A (collect (.ref z)) Q E s := by
  have hSI : s.heap.objs.size ≠ z := Nat.ne_of_gt (hlt z List.mem_cons_self)
  unfold collect
  refine wpAny_bind (wpAny_runValue (codeAny_builtin F.entry_proto_collect ?_))
  rw [Around.under_plainId F.plain_proto_collect _]
  show wpAny _ A.in1 (newList [] >>= fun l => again (.builtin "list.__iadd__" ⟨[l, .ref z], []⟩)) _ _ s
  refine wpAny_bind (wpAny_newObj_type ?_)
  refine wpAny_pure ⟨plainId_quiet F.plain_list_iadd _, codeAny_builtin F.entry_list_iadd ?_⟩
  rw [Around.under_plainId F.plain_list_iadd _]
  have up : ∀ b o, s.heap.get? b = some o → (s.heap.push { cls := .type "list", data := .seq ([] : List Value).toArray }).get? b = some o := fun b o e => Heap.get?_push_of_some _ e
  have Z1 : ZSt z TI TO its ls rows (s.heap.push { cls := .type "list", data := .seq ([] : List Value).toArray }) 0 := by
    refine ⟨up _ _ Z.ti, fun q a l r e1 e2 e3 => ?_, ?_⟩
    · obtain ⟨⟨o, ho, q1⟩, ol, hol, q3⟩ := Z.it q a l r e1 e2 e3
      exact ⟨⟨o, up _ _ ho, q1⟩, ol, up _ _ hol, q3⟩
    · rcases Z.st with ⟨hz, h0, kept, hk, hs⟩ | ⟨T, f, oT, hz, hT, hn⟩
      · exact .inl ⟨up _ _ hz, h0, kept, up _ _ hk, hs⟩
      · exact .inr ⟨T, f, oT, up _ _ hz, up _ _ hT, hn⟩
  show wpAny _ A.in1 (Builtin.List.listExtendWith (.ref s.heap.objs.size) (.ref z) (.ref s.heap.objs.size)) _ _ _
  unfold Builtin.List.listExtendWith
  refine wpAny_bind (wpAny_typeOf (Z1.zip (s := { s with heap := s.heap.push { cls := .type "list", data := .seq ([] : List Value).toArray } })) ?_)
  have h1 : Builtin.List.listSameRef (.ref s.heap.objs.size) (.ref z) = false := by simp [Builtin.List.listSameRef, hSI]
  have h2 : (Value.type "zip" == Value.type "list") = false := by decide
  have h3 : (Value.type "zip" == Value.type "tuple") = false := by decide
  simp only [h1, h2, h3, Bool.or_false, Bool.false_eq_true, if_false]
  refine wpAny_bind ?_
  have zi : wpAny (model prog w) A.in1 (pyIter (.ref z)) (fun v s' => v = .ref z ∧ s' = { s with heap := s.heap.push { cls := .type "list", data := .seq #[] } }) (fun e s' => E e s') { s with heap := s.heap.push { cls := .type "list", data := .seq #[] } } := by
    rcases Z1.st with ⟨hz, _⟩ | ⟨T, f, oT, hz, _⟩
    · have hT : Shared.TypeIs { s with heap := s.heap.push { cls := .type "list", data := .seq #[] } } (.ref z) "zip" := ⟨_, hz, rfl⟩
      refine wpAny_pyIter_slot hT F.slot_zip_iter (wpAny_call_entry F.slot_zip_iter hT F.entry_zip_iter ?_ (F.args_zip_iter_1 _))
      show wpAny _ _ (ret (.ref z)) _ _ _
      exact wpAny_pure ⟨_, rfl, "zip", _, hT, F.slot_zip_next.lookup, rfl, rfl⟩
    · have hT : Shared.TypeIs { s with heap := s.heap.push { cls := .type "list", data := .seq #[] } } (.ref z) "zip" := ⟨_, hz, rfl⟩
      refine wpAny_pyIter_slot hT F.slot_zip_iter (wpAny_call_entry F.slot_zip_iter hT F.entry_zip_iter ?_ (F.args_zip_iter_1 _))
      show wpAny _ _ (ret (.ref z)) _ _ _
      exact wpAny_pure ⟨_, rfl, "zip", _, hT, F.slot_zip_next.lookup, rfl, rfl⟩
  refine wpAny_mono zi (fun v s' hv => ?_) fun _ _ e => e
  obtain ⟨rfl, rfl⟩ := hv
  refine wpAny_bind (wpAny_holding ?_)
  unfold Builtin.List.listLengthHint
  refine wpAny_bind (wpAny_specialOf (Z1.zip (s := { s with heap := s.heap.push { cls := .type "list", data := .seq ([] : List Value).toArray } })) no_len ?_)
  show wpAny _ A.in1 (specialOf (Value.ref z) (Str.ofString "__length_hint__") >>= _) _ _ _
  refine wpAny_bind (wpAny_specialOf (Z1.zip (s := { s with heap := s.heap.push { cls := .type "list", data := .seq ([] : List Value).toArray } })) no_hint ?_)
  refine wpAny_pure ?_
  rw [Bool.true_or, if_pos rfl]
  refine wpAny_bind (wpAny_rule (wpAny_bind ?_))
  have hS1 : (s.heap.push { cls := .type "list", data := .seq (#[] : Array Value) }).get? s.heap.objs.size = some { cls := .type "list", data := .seq (#[] : Array Value) } := Heap.get?_push_size _ rfl
  show wpAny _ A.in1 (updateSeq s.heap.objs.size (·.push .none) >>= fun _ => updateSeq s.heap.objs.size (·.pop)) _ _ _
  refine wpAny_bind (wpAny_updateSeq hS1 rfl ?_)
  have hS2 := Heap.get?_update_self (Obj.mapSeq (·.push Value.none)) hS1 rfl
  refine wpAny_updateSeq hS2 rfl ?_
  have hS3 := Heap.get?_update_self (Obj.mapSeq (·.pop)) hS2 rfl
  have oth : ∀ b o, b ≠ s.heap.objs.size → (s.heap.push { cls := .type "list", data := .seq (#[] : Array Value) }).get? b = some o →
      (((s.heap.push { cls := .type "list", data := .seq (#[] : Array Value) }).update s.heap.objs.size (Obj.mapSeq (·.push Value.none))).update s.heap.objs.size (Obj.mapSeq (·.pop))).get? b = some o :=
    fun b o hb e => (Heap.get?_update_other _ _ (Ne.symm hb)).trans ((Heap.get?_update_other _ _ (Ne.symm hb)).trans e)
  have size3 : (((s.heap.push { cls := .type "list", data := .seq (#[] : Array Value) }).update s.heap.objs.size (Obj.mapSeq (·.push Value.none))).update s.heap.objs.size (Obj.mapSeq (·.pop))).objs.size = s.heap.objs.size + 1 := by
    rw [(Heap.SameBut.update _ _ _).1, (Heap.SameBut.update _ _ _).1, Heap.size_push]
  have hSW : s.heap.objs.size ∉ z :: TO :: its := fun y => Nat.lt_irrefl _ (hlt _ y)
  obtain ⟨H3, hH3⟩ : ∃ H3, H3 = ((s.heap.push { cls := .type "list", data := .seq (#[] : Array Value) }).update s.heap.objs.size (Obj.mapSeq (·.push Value.none))).update s.heap.objs.size (Obj.mapSeq (·.pop)) := ⟨_, rfl⟩
  rw [← hH3] at hS3 size3
  have oth3 : ∀ b o, b ≠ s.heap.objs.size → (s.heap.push { cls := .type "list", data := .seq (#[] : Array Value) }).get? b = some o → H3.get? b = some o := fun b o hb e => by rw [hH3]; exact oth b o hb e
  obtain ⟨c3, e3⟩ : ∃ c3, H3.get? s.heap.objs.size = some { cls := .type "list", dict := none, data := .seq (refs []).toArray c3, slots := #[] } := ⟨_, hS3⟩
  have Z3 : ZSt z TI TO its ls rows H3 0 := Z1.keep hS1 rfl oth3
  refine wpAny_pure ⟨plainId_quiet F.plain_extend_loop _, ?_⟩
  show codeAny _ _ _ _ { s with heap := ((s.heap.push { cls := .type "list", data := .seq (#[] : Array Value) }).update s.heap.objs.size (Obj.mapSeq (·.push Value.none))).update s.heap.objs.size (Obj.mapSeq (·.pop)) }
  rw [← hH3]
  refine extend_loop (lo := s.heap.objs.size + 1) hh D hne hr h1n hn hsz hw hc hSW _ n { s with heap := H3 } [] c3 rfl (Nat.zero_le _) Z3 (fun b m => ⟨?_, Nat.lt_succ_of_lt (hlt b m)⟩) (Nat.lt_succ_self _) (by show _ ≤ H3.objs.size; rw [size3]; exact Nat.le_refl _) e3 ⟨fun j a e => by simp at e, .nil, fun a m => nomatch m⟩ fun h' as c' hl k1 e1 G => ?_
  · show b < H3.objs.size
    rw [size3]
    exact Nat.lt_succ_of_lt (hlt b m)
  · show wpAny _ A (load s.heap.objs.size >>= _) _ _ _
    refine wpAny_bind (wpAny_load e1 ?_)
    refine wpAny_pure ?_
    show Q (refs as).toArray.toList _
    refine hQ h' as hl (fun b o hb e => ?_) ⟨G.at_, G.up, fun a m => ⟨Nat.le_of_succ_le (G.lo_ a m).1, (G.lo_ a m).2⟩⟩
    have hb2 : b ≠ s.heap.objs.size := Nat.ne_of_lt (Heap.lt_size e)
    exact k1 b o (fun y => (List.mem_cons.mp y).elim hb2 hb) (oth3 b o hb2 (up b o e))
theorem code_tuple {z TI TO : Addr} {its ls : List Addr} {rows : List (Array Value)} {n : Nat} {cols : Nat → List Value} {Q₁ : Value → Shared → Prop} (hh : A.in1.in1.handled = none) (D : Ap z TI TO its ls) (hne : its ≠ []) (hr : rows.length = its.length) (h1n : 1 ≤ n) (hn : n ≤ 1000) (hsz : its.length ≤ 1000)
    (hw : ∀ r ∈ rows, r.size = n) (hc : ∀ i, i < n → (cols i).length = its.length ∧ ∀ (k : Nat) (r : Array Value) (v : Value), rows[k]? = some r → (cols i)[k]? = some v → r[i]? = some v) (Z : ZSt z TI TO its ls rows s.heap 0) (hlt : ∀ b ∈ z :: TO :: its, b < s.heap.objs.size)
    (hQ : ∀ h' as, as.length = n → KeepBut (z :: TO :: its) s.heap h' → Got h' s.heap.objs.size cols as → Q₁ (.ref h'.objs.size) { s with heap := h'.push { cls := .type "tuple", data := .seq (refs as).toArray } }) :
    codeAny (model prog w) A (.call (.builtin "tuple.__new__") ⟨[.type "tuple", .ref z], []⟩) (wants Q₁ E) s := by
  refine codeAny_of_tree ?_
  show wpAny _ A.in1 (do checkBuiltinCall "tuple.__new__" ⟨[.type "tuple", .ref z], []⟩; again (.builtin "tuple.__new__" ⟨[.type "tuple", .ref z], []⟩)) _ _ s
  refine wpAny_bind (wpAny_of_eq (F.newCall_tuple_1 _) (wpAny_pure ⟨plainId_quiet F.plain_tuple_new _, codeAny_builtin F.entry_tuple_new ?_⟩))
  rw [Around.under_plainId F.plain_tuple_new _]
  have hsub := sub_tuple_self
  have hinit := init_tuple_lookup
  have hmh := madeHere_tuple
  have hTI := Z.zip
  wp_walk using wpAny_typeOf hTI, collect_zip hh D hne hr h1n hn hsz hw hc Z hlt
  intro h' as hl k G
  show wpAny _ _ (Builtin.Tuple.tupleExact (refs as).toArray >>= fun v => ret v) _ _ _
  unfold Builtin.Tuple.tupleExact
  refine wpAny_bind (wpAny_newObj_type ?_ (by show (refs as).toArray.size ≤ sizeLine; rw [show (refs as).toArray.size = as.length by simp [refs]]; exact Nat.le_trans (show as.length ≤ 1000 by omega) (by decide)))
  exact wpAny_pure (hQ h' as hl k G)
theorem call_tuple {z TI TO : Addr} {its ls : List Addr} {rows : List (Array Value)} {n : Nat} {cols : Nat → List Value} {Q : Value → Shared → Prop} (hh : A.in1.in1.in1.handled = none) (D : Ap z TI TO its ls) (hne : its ≠ []) (hr : rows.length = its.length) (h1n : 1 ≤ n) (hn : n ≤ 1000) (hsz : its.length ≤ 1000)
    (hw : ∀ r ∈ rows, r.size = n) (hc : ∀ i, i < n → (cols i).length = its.length ∧ ∀ (k : Nat) (r : Array Value) (v : Value), rows[k]? = some r → (cols i)[k]? = some v → r[i]? = some v) (Z : ZSt z TI TO its ls rows s.heap 0) (hlt : ∀ b ∈ z :: TO :: its, b < s.heap.objs.size)
    (hQ : ∀ h' as, as.length = n → KeepBut (z :: TO :: its) s.heap h' → Got h' s.heap.objs.size cols as → Q (.ref h'.objs.size) { s with heap := h'.push { cls := .type "tuple", data := .seq (refs as).toArray } }) :
    wpAny (model prog w) A (call (.type "tuple") [.ref z]) Q E s := by
  refine callType_codes (Q₁ := fun obj s₁ => s₁.TypeIs obj "tuple" ∧ Q obj s₁) F.called_tuple (F.typeCall_tuple_1 _) F.entry_object_init
    (code_tuple hh D hne hr h1n hn hsz hw hc Z hlt fun h' as hl k G => ⟨⟨_, Heap.get?_push_size _ rfl, rfl⟩, hQ h' as hl k G⟩) fun obj s₁ h₁ => ?_
  exact ⟨h₁.1, F.args_object_init_2 obj _, object_init_meets F.called_tuple.init.lookup F.called_tuple.made (by decide) prog w A.in1 _ s₁ ⟨h₁.1, rfl, h₁.2⟩⟩
end
end ZN

/-! for a, b in zip(xs, ys), each of both a tuple or a list -/
namespace ZM
open PySem PySem.Spec PyProof.Rows L2
open PySem.Sem (wp)
def Pos : Bool → Heap → Addr → Addr → Nat → Prop
  | true, h, a, l, i => h.IsTupleIter a l i
  | false, h, a, l, i => h.IsListIter a l i
def Row : Bool → Heap → Addr → Array Value → Prop
  | true, h, l, r => h.IsTuple l r
  | false, h, l, r => h.IsList l r
theorem Pos.to {k : Bool} {h h' : Heap} {a l : Addr} {i : Nat} (p : Pos k h a l i) (e : ∀ o, h.get? a = some o → h'.get? a = some o) : Pos k h' a l i := by
  cases k
  · obtain ⟨o, ho, r⟩ := p
    exact ⟨o, e _ ho, r⟩
  · obtain ⟨o, ho, r⟩ := p
    exact ⟨o, e _ ho, r⟩
theorem Row.to {k : Bool} {h h' : Heap} {l : Addr} {r : Array Value} (p : Row k h l r) (e : ∀ o, h.get? l = some o → h'.get? l = some o) : Row k h' l r := by
  cases k
  · obtain ⟨o, ho, r⟩ := p
    exact ⟨o, e _ ho, r⟩
  · obtain ⟨o, ho, r⟩ := p
    exact ⟨o, e _ ho, r⟩
theorem Pos.obj {k : Bool} {h : Heap} {a l : Addr} {i : Nat} (p : Pos k h a l i) : ∃ o, h.get? a = some o ∧ ∀ v, o.data ≠ .cell v := by
  cases k <;>
  · obtain ⟨o, ho, _, d⟩ := p
    exact ⟨o, ho, fun v q => by rw [d] at q; cases q⟩
theorem Row.lt {k : Bool} {h : Heap} {l : Addr} {r : Array Value} (p : Row k h l r) : l < h.objs.size := by
  cases k <;>
  · obtain ⟨o, ho, _⟩ := p
    exact Heap.lt_size ho
section
variable {prog : Program} {w : World} {A : Around} {E : Value → Shared → Prop} {s : Shared}
theorem next_item {k : Bool} {a l : Addr} {i : Nat} {r : Array Value} {x : Value} {Q : Value → Shared → Prop} (p : Pos k s.heap a l i) (q : Row k s.heap l r) (hx : r[i]? = some x) (h : ∀ h', Pos k h' a l (i + 1) → Heap.SameBut a s.heap h' → Q x { s with heap := h' }) :
    wpAny (model prog w) A (Builtin.SmallTypes.nextOf (.ref a)) Q E s := by
  cases k
  · exact wpAny_nextOf_list_item p q hx h
  · exact RZ.nextOf_tuple_item p q hx h
theorem next_end {k : Bool} {a l : Addr} {i : Nat} {r : Array Value} {Q : Value → Shared → Prop} (hh : A.handled = none) (p : Pos k s.heap a l i) (q : Row k s.heap l r) (hx : r[i]? = none) (h : ∀ h' e, Heap.ExtBut a s.heap h' → (∃ o, h'.get? e = some o ∧ o.cls = .type "StopIteration") → E (.ref e) { s with heap := h' }) :
    wpAny (model prog w) A (Builtin.SmallTypes.nextOf (.ref a)) Q E s := by
  cases k
  · exact wpAny_nextOf_list_end hh p q hx h
  · exact RZ.nextOf_tuple_end hh p q hx h
/-- a new iterator -/
theorem iter_new {k : Bool} {l : Addr} {r : Array Value} {Q : Value → Shared → Prop} (q : Row k s.heap l r) (h : ∀ h', Pos k h' s.heap.objs.size l 0 → h'.objs.size = s.heap.objs.size + 1 → (∀ b o, s.heap.get? b = some o → h'.get? b = some o) → Q (.ref s.heap.objs.size) { s with heap := h' }) :
    wpAny (model prog w) A (pyIter (.ref l)) Q E s := by
  cases k
  · exact wpAny_pyIter_list q (h _ ⟨_, Heap.get?_push_size _ rfl, rfl, rfl⟩ (Heap.size_push ..) fun b o e => Heap.get?_push_of_some _ e)
  · exact wpAny_pyIter_tuple q (h _ ⟨_, Heap.get?_push_size _ rfl, rfl, rfl⟩ (Heap.size_push ..) fun b o e => Heap.get?_push_of_some _ e)
/-- where a two-armed zip stands -/
structure Two (z TI TO i1 i2 l1 l2 : Addr) (k1 k2 : Bool) (n : Nat) (h : Heap) : Prop where
  hz : IsZip h z TI TO .none
  ti : IsPair h TI (.ref i1) (.ref i2)
  to : ∃ x y, IsPair h TO x y
  p1 : Pos k1 h i1 l1 n
  p2 : Pos k2 h i2 l2 n
theorem Two.keep {z TI TO i1 i2 l1 l2 : Addr} {k1 k2 : Bool} {n : Nat} {h h' : Heap} (t : Two z TI TO i1 i2 l1 l2 k1 k2 n h) (k : ∀ c ∈ [z, TI, TO, i1, i2], ∀ o, h.get? c = some o → h'.get? c = some o) : Two z TI TO i1 i2 l1 l2 k1 k2 n h' := by
  obtain ⟨x, y, e⟩ := t.to
  exact ⟨k z (by simp) _ t.hz, k TI (by simp) _ t.ti, ⟨x, y, k TO (by simp) _ e⟩, t.p1.to (k i1 (by simp)), t.p2.to (k i2 (by simp))⟩
/-- one pair is handed out -/
theorem two_item {z TI TO i1 i2 l1 l2 : Addr} {k1 k2 : Bool} {n : Nat} {xs ys : Array Value} {x y : Value} {Q : Value → Shared → Prop} (D : ZipApart z TI TO i1 i2 l1 l2) (t : Two z TI TO i1 i2 l1 l2 k1 k2 n s.heap)
    (q1 : Row k1 s.heap l1 xs) (q2 : Row k2 s.heap l2 ys) (hx : xs[n]? = some x) (hy : ys[n]? = some y)
    (hQ : ∀ h', IsZip h' z TI TO (rawInt s.heap.objs.size) → IsPair h' TO x y → Pos k1 h' i1 l1 (n + 1) → Pos k2 h' i2 l2 (n + 1) → IsPair h' s.heap.objs.size x y → h'.objs.size = s.heap.objs.size + 1 →
      (∀ c o, c ≠ z → c ≠ TO → c ≠ i1 → c ≠ i2 → s.heap.get? c = some o → h'.get? c = some o) → Q (.ref s.heap.objs.size) { s with heap := h' }) :
    wpAny (model prog w) A (Builtin.«zip.__next__» ⟨[.ref z], []⟩) (fun fin s' => ∃ v, fin = .done (.ret v) ∧ Q v s') E s := by
  obtain ⟨hz, hTI, ⟨a, b, hTO⟩, p1, p2⟩ := t
  show wpAny _ _ (field (.ref z) 2 >>= _) _ _ _
  refine wpAny_bind (wpAny_field hz rfl (x := .bool false) rfl ?_)
  show wpAny _ _ (field (.ref z) 3 >>= _) _ _ _
  refine wpAny_bind (wpAny_field hz rfl (x := .ref TI) rfl (wpAny_bind (wpAny_seqItems hTI rfl ?_)))
  show wpAny _ _ (Builtin.SmallTypes.ownedTupleIsFree (.ref z) >>= _) _ _ _
  refine wpAny_bind ?_
  unfold Builtin.SmallTypes.ownedTupleIsFree
  refine wpAny_bind (wpAny_field hz rfl (x := .none) rfl (wpAny_pure ?_))
  simp only [if_true]
  refine wpAny_bind (wpAny_rule (wpAny_bind (wpAny_field hz rfl (x := .ref TO) rfl ?_)))
  refine wpAny_bind (wpAny_setField_rec hz (by simp) fun hA zA sA => ?_)
  have zA : IsZip hA z TI TO .ellipsis := zA
  simp only [List.zipIdx_cons, List.zipIdx_nil, List.forIn_cons, List.forIn_nil]
  refine wpAny_bind (wpAny_bind (wpAny_bind (wpAny_onRaise ?_)))
  show wpAny _ _ (Builtin.SmallTypes.nextOf (.ref i1) >>= _) _ _ _
  refine wpAny_bind (next_item (s := { s with heap := hA }) (p1.to fun o => sA.extBut _ o D.i1z) (q1.to fun o => sA.extBut _ o D.l1z) hx fun hB pB sB => wpAny_pure ?_)
  have oB : IsPair hB TO a b := sB.extBut _ _ D.TOi1 (sA.extBut _ _ D.TOz hTO)
  refine wpAny_bind (wpAny_seqItems oB rfl (wpAny_bind (wpAny_updateSeq_pair oB fun hC oC sC => ?_)))
  have oC : IsPair hC TO x b := oC
  refine wpAny_bind (wpAny_letGo (wpAny_pure (wpAny_bind (wpAny_bind (wpAny_onRaise ?_)))))
  show wpAny _ _ (Builtin.SmallTypes.nextOf (.ref i2) >>= _) _ _ _
  refine wpAny_bind (next_item (s := { s with heap := hC }) (p2.to fun o e => sC.extBut _ _ D.TOi2.symm (sB.extBut _ _ D.i12.symm (sA.extBut _ _ D.i2z e))) (q2.to fun o e => sC.extBut _ _ D.l2TO (sB.extBut _ _ D.l2i1 (sA.extBut _ _ D.l2z e))) hy fun hD pD sD => wpAny_pure ?_)
  have oD : IsPair hD TO x b := sD.extBut _ _ D.TOi2 oC
  refine wpAny_bind (wpAny_seqItems oD rfl (wpAny_bind (wpAny_updateSeq_pair oD fun hF oF sF => ?_)))
  have oF : IsPair hF TO x y := oF
  refine wpAny_bind (wpAny_letGo (wpAny_pure (wpAny_pure ?_)))
  refine wpAny_bind (wpAny_seqItems oF rfl (wpAny_bind (wpAny_newTuple ?_)))
  have size : hF.objs.size = s.heap.objs.size := by rw [sF.1, sD.1, sC.1, sB.1, sA.1]
  have zF : IsZip hF z TI TO .ellipsis := sF.extBut _ _ D.TOz.symm (sD.extBut _ _ D.i2z.symm (sC.extBut _ _ D.TOz.symm (sB.extBut _ _ D.i1z.symm zA)))
  have kF : ∀ c o, c ≠ z → c ≠ TO → c ≠ i1 → c ≠ i2 → s.heap.get? c = some o → hF.get? c = some o := fun c o n1 n2 n3 n4 e => sF.extBut _ _ n2 (sD.extBut _ _ n4 (sC.extBut _ _ n2 (sB.extBut _ _ n3 (sA.extBut _ _ n1 e))))
  have pF1 : Pos k1 hF i1 l1 (n + 1) := pB.to fun o e => sF.extBut _ _ D.TOi1.symm (sD.extBut _ _ D.i12 (sC.extBut _ _ D.TOi1.symm e))
  have pF2 : Pos k2 hF i2 l2 (n + 1) := pD.to fun o e => sF.extBut _ _ D.TOi2.symm e
  show wpAny _ _ (Builtin.SmallTypes.ownedTupleHandOut (.ref z) (.ref hF.objs.size) >>= _) _ _ _
  refine wpAny_bind ?_
  unfold Builtin.SmallTypes.ownedTupleHandOut
  have zG : IsZip (hF.push { cls := .type "tuple", data := .seq #[x, y] }) z TI TO .ellipsis := Heap.get?_push_of_some _ zF
  refine wpAny_bind (wpAny_setField_rec zG (by simp) fun hI zI sI => ?_)
  have zI : IsZip hI z TI TO (rawInt hF.objs.size) := zI
  refine wpAny_setField_rec zI (by simp) fun hJ zJ sJ => wpAny_pure ⟨_, rfl, ?_⟩
  have zJ : IsZip hJ z TI TO (rawInt hF.objs.size) := zJ
  have zlt : z ≠ hF.objs.size := Nat.ne_of_lt (Heap.lt_size zF)
  have up : ∀ c o, c ≠ z → hF.get? c = some o → hJ.get? c = some o := fun c o n1 e => sJ.extBut _ _ n1 (sI.extBut _ _ n1 (Heap.get?_push_of_some _ e))
  have tJ : IsPair hJ hF.objs.size x y := sJ.extBut _ _ zlt.symm (sI.extBut _ _ zlt.symm (Heap.get?_push_size _ rfl))
  have nJ : hJ.objs.size = hF.objs.size + 1 := by rw [sJ.1, sI.1, Heap.size_push]
  show Q (.ref hF.objs.size) _
  rw [size] at zJ tJ nJ ⊢
  exact hQ hJ zJ (up _ _ D.TOz oF) (pF1.to fun o => up _ o D.i1z) (pF2.to fun o => up _ o D.i2z) tJ nJ fun c o n1 n2 n3 n4 e => up c o n1 (kF c o n1 n2 n3 n4 e)
/-- the shorter one is at its end -/
theorem two_end {z TI TO i1 i2 l1 l2 : Addr} {k1 k2 : Bool} {n : Nat} {xs ys : Array Value} {Q : Fin → Shared → Prop} (hh : A.handled = none) (D : ZipApart z TI TO i1 i2 l1 l2) (t : Two z TI TO i1 i2 l1 l2 k1 k2 n s.heap)
    (q1 : Row k1 s.heap l1 xs) (q2 : Row k2 s.heap l2 ys) (hend : xs[n]? = none ∨ ys[n]? = none)
    (hE : ∀ h' e, (∀ c o, c ≠ z → c ≠ TO → c ≠ i1 → c ≠ i2 → s.heap.get? c = some o → h'.get? c = some o) → (∃ o, h'.get? e = some o ∧ o.cls = .type "StopIteration") → E (.ref e) { s with heap := h' }) :
    wpAny (model prog w) A (Builtin.«zip.__next__» ⟨[.ref z], []⟩) Q E s := by
  obtain ⟨hz, hTI, ⟨a, b, hTO⟩, p1, p2⟩ := t
  show wpAny _ _ (field (.ref z) 2 >>= _) _ _ _
  refine wpAny_bind (wpAny_field hz rfl (x := .bool false) rfl ?_)
  show wpAny _ _ (field (.ref z) 3 >>= _) _ _ _
  refine wpAny_bind (wpAny_field hz rfl (x := .ref TI) rfl (wpAny_bind (wpAny_seqItems hTI rfl ?_)))
  show wpAny _ _ (Builtin.SmallTypes.ownedTupleIsFree (.ref z) >>= _) _ _ _
  refine wpAny_bind ?_
  unfold Builtin.SmallTypes.ownedTupleIsFree
  refine wpAny_bind (wpAny_field hz rfl (x := .none) rfl (wpAny_pure ?_))
  simp only [if_true]
  refine wpAny_bind (wpAny_rule (wpAny_bind (wpAny_field hz rfl (x := .ref TO) rfl ?_)))
  refine wpAny_bind (wpAny_setField_rec hz (by simp) fun hA zA sA => ?_)
  have zA : IsZip hA z TI TO .ellipsis := zA
  simp only [List.zipIdx_cons, List.zipIdx_nil, List.forIn_cons, List.forIn_nil]
  refine wpAny_bind (wpAny_bind (wpAny_bind (wpAny_onRaise ?_)))
  show wpAny _ _ (Builtin.SmallTypes.nextOf (.ref i1) >>= _) _ _ _
  have pA := p1.to fun o => sA.extBut _ o D.i1z
  have rA := q1.to fun o => sA.extBut _ o D.l1z
  cases hx : xs[n]? with
  | none =>
    refine wpAny_bind (next_end (s := { s with heap := hA }) hh pA rA hx fun hB e sB he => ?_)
    obtain ⟨oe, hoe, hce⟩ := he
    have zB : IsZip hB z TI TO .ellipsis := sB _ _ D.i1z.symm zA
    have ne : e ≠ z := fun q => by
      rw [q, zB] at hoe
      cases hoe
      simp at hce
    exact wpAny_setField_rec zB (by simp) fun hC _ sC => hE hC e (fun c o n1 _ n3 _ q => sC.extBut _ _ n1 (sB _ _ n3 (sA.extBut _ _ n1 q))) ⟨oe, sC.extBut _ _ ne hoe, hce⟩
  | some x =>
    have hy : ys[n]? = none := hend.resolve_left fun q => by rw [hx] at q; cases q
    refine wpAny_bind (next_item (s := { s with heap := hA }) pA rA hx fun hB pB sB => wpAny_pure ?_)
    have oB : IsPair hB TO a b := sB.extBut _ _ D.TOi1 (sA.extBut _ _ D.TOz hTO)
    refine wpAny_bind (wpAny_seqItems oB rfl (wpAny_bind (wpAny_updateSeq_pair oB fun hC oC sC => ?_)))
    refine wpAny_bind (wpAny_letGo (wpAny_pure (wpAny_bind (wpAny_bind (wpAny_onRaise ?_)))))
    show wpAny _ _ (Builtin.SmallTypes.nextOf (.ref i2) >>= _) _ _ _
    refine wpAny_bind (next_end (s := { s with heap := hC }) hh (p2.to fun o e => sC.extBut _ _ D.TOi2.symm (sB.extBut _ _ D.i12.symm (sA.extBut _ _ D.i2z e))) (q2.to fun o e => sC.extBut _ _ D.l2TO (sB.extBut _ _ D.l2i1 (sA.extBut _ _ D.l2z e))) hy fun hD e sD he => ?_)
    obtain ⟨oe, hoe, hce⟩ := he
    have zD : IsZip hD z TI TO .ellipsis := sD _ _ D.i2z.symm (sC.extBut _ _ D.TOz.symm (sB.extBut _ _ D.i1z.symm zA))
    have ne : e ≠ z := fun q => by
      rw [q, zD] at hoe
      cases hoe
      simp at hce
    exact wpAny_setField_rec zD (by simp) fun hF _ sF => hE hF e (fun c o n1 n2 n3 n4 q => sF.extBut _ _ n1 (sD _ _ n4 (sC.extBut _ _ n2 (sB.extBut _ _ n3 (sA.extBut _ _ n1 q))))) ⟨oe, sF.extBut _ _ ne hoe, hce⟩
theorem pull_item {z TI TO i1 i2 l1 l2 : Addr} {k1 k2 : Bool} {n : Nat} {xs ys : Array Value} {x y : Value} {Q : Option Value → Shared → Prop} (D : ZipApart z TI TO i1 i2 l1 l2) (t : Two z TI TO i1 i2 l1 l2 k1 k2 n s.heap)
    (q1 : Row k1 s.heap l1 xs) (q2 : Row k2 s.heap l2 ys) (hx : xs[n]? = some x) (hy : ys[n]? = some y)
    (hQ : ∀ h', IsZip h' z TI TO (rawInt s.heap.objs.size) → IsPair h' TO x y → Pos k1 h' i1 l1 (n + 1) → Pos k2 h' i2 l2 (n + 1) → IsPair h' s.heap.objs.size x y → h'.objs.size = s.heap.objs.size + 1 →
      (∀ c o, c ≠ z → c ≠ TO → c ≠ i1 → c ≠ i2 → s.heap.get? c = some o → h'.get? c = some o) → Q (some (.ref s.heap.objs.size)) { s with heap := h' }) : wpAny (model prog w) A (pyNext (.ref z)) Q E s := by
  have ty : s.TypeIs (.ref z) "zip" := ⟨_, t.hz, rfl⟩
  unfold pyNext
  exact wpAny_bind (wpAny_attempt (wpAny_callSpecial?_slot (name := Str.ofString "__next__") ty F.slot_zip_next (wpAny_call_entry F.slot_zip_next ty F.entry_zip_next (two_item D t q1 q2 hx hy fun h' b1 b2 b3 b4 b5 b6 b7 => wpAny_pure (hQ h' b1 b2 b3 b4 b5 b6 b7)) (F.args_zip_next_1 _))))
theorem pull_end {z TI TO i1 i2 l1 l2 : Addr} {k1 k2 : Bool} {n : Nat} {xs ys : Array Value} {Q : Option Value → Shared → Prop} (hh : A.handled = none) (D : ZipApart z TI TO i1 i2 l1 l2) (t : Two z TI TO i1 i2 l1 l2 k1 k2 n s.heap)
    (q1 : Row k1 s.heap l1 xs) (q2 : Row k2 s.heap l2 ys) (hend : xs[n]? = none ∨ ys[n]? = none)
    (hQ : ∀ h', (∀ c o, c ≠ z → c ≠ TO → c ≠ i1 → c ≠ i2 → s.heap.get? c = some o → h'.get? c = some o) → Q none { s with heap := h' }) : wpAny (model prog w) A (pyNext (.ref z)) Q E s := by
  have ty : s.TypeIs (.ref z) "zip" := ⟨_, t.hz, rfl⟩
  unfold pyNext
  refine wpAny_bind (wpAny_attempt (wpAny_callSpecial?_slot (name := Str.ofString "__next__") ty F.slot_zip_next (wpAny_call_entry F.slot_zip_next ty F.entry_zip_next (two_end hh D t q1 q2 hend fun h' e hk he => ?_) (F.args_zip_next_1 _))))
  obtain ⟨o, ho, hc⟩ := he
  exact wpAny_bind (wpAny_isInstance (T := "StopIteration") (b := true) ⟨o, ho, hc⟩ isSubtype_stop (wpAny_pure (hQ _ hk)))
end
end ZM

namespace ZM
open PySem PySem.Spec PyProof.Rows L2
open PySem.Sem (wp)
def itO (k : Bool) (l : Addr) : Obj := { cls := .type (if k then "tuple_iterator" else "list_iterator"), data := .fields #[.ref l, .int 0 0] }
theorem iter_c {prog : Program} {w : World} {A : Around} {E : Value → Shared → Prop} {s : Shared} {k : Bool} {l : Addr} {r : Array Value} {Q : Value → Shared → Prop} (q : Row k s.heap l r) (h : Q (.ref s.heap.objs.size) { s with heap := s.heap.push (itO k l) }) :
    wpAny (model prog w) A (pyIter (.ref l)) Q E s := by
  cases k
  · exact wpAny_pyIter_list q h
  · exact wpAny_pyIter_tuple q h
theorem itO_pos {k : Bool} {l : Addr} {h : Heap} {a : Addr} (e : h.get? a = some (itO k l)) : Pos k h a l 0 := by
  cases k
  · exact ⟨_, e, rfl, rfl⟩
  · exact ⟨_, e, rfl, rfl⟩
abbrev hA (h : Heap) (k1 k2 : Bool) (l1 l2 : Addr) : Heap := (h.push (itO k1 l1)).push (itO k2 l2)
abbrev hB (h : Heap) (k1 k2 : Bool) (l1 l2 : Addr) : Heap := (hA h k1 k2 l1 l2).push { cls := .type "tuple", data := .seq #[.ref h.objs.size, .ref (h.push (itO k1 l1)).objs.size] }
abbrev hC (h : Heap) (k1 k2 : Bool) (l1 l2 : Addr) : Heap := (hB h k1 k2 l1 l2).push { cls := .type "tuple", data := .seq #[.none, .none] }
abbrev hD (h : Heap) (k1 k2 : Bool) (l1 l2 : Addr) : Heap := (hC h k1 k2 l1 l2).push { cls := .type "zip", data := .fields #[.none, .bool false, .bool false, .ref (hA h k1 k2 l1 l2).objs.size, .ref (hB h k1 k2 l1 l2).objs.size] }
theorem meets_two (l1 l2 : Addr) (k1 k2 : Bool) (xs ys : Array Value) :
    Meets (Builtin.«zip.__new__» ⟨[.type "zip", .ref l1, .ref l2], []⟩) (fun _ R s => Row k1 s.heap l1 xs ∧ Row k2 s.heap l2 ys ∧
      R (.ok (.ret (.ref (hC s.heap k1 k2 l1 l2).objs.size))) { s with heap := hD s.heap k1 k2 l1 l2 }) :=
  .of_wp fun prog w A R s h => by
    obtain ⟨hp, g, d, tk, os⟩ := s
    obtain ⟨q1, q2, h⟩ := h
    have hsub := sub_zip
    have r1 : Row k1 (Shared.heap ⟨hp, g, d, tk, os⟩) l1 xs := q1
    have r2 : Row k2 (Shared.heap ⟨hp.push (itO k1 l1), g, d, tk, os⟩) l2 ys := Row.to q2 fun o e => Heap.get?_push_of_some _ e
    wp_walk using iter_c r1, iter_c r2
    exact ⟨_, rfl, h⟩
section
variable {prog : Program} {w : World} {A : Around} {E : Value → Shared → Prop} {s : Shared}
theorem call_two {l1 l2 : Addr} {k1 k2 : Bool} {xs ys : Array Value} {Q : Value → Shared → Prop} (q1 : Row k1 s.heap l1 xs) (q2 : Row k2 s.heap l2 ys)
    (h : ∀ h', Two (s.heap.objs.size + 4) (s.heap.objs.size + 2) (s.heap.objs.size + 3) s.heap.objs.size (s.heap.objs.size + 1) l1 l2 k1 k2 0 h' → (∀ b o, s.heap.get? b = some o → h'.get? b = some o) → Q (.ref (s.heap.objs.size + 4)) { s with heap := h' }) :
    wpAny (model prog w) A (call (.type "zip") [.ref l1, .ref l2]) Q E s := by
  refine callType_new F.called_zip (by decide) (F.typeCall_zip_2 _ _) (F.newCall_zip_2 _ _) (fun obj => F.args_object_init_3 obj _ _) F.entry_zip_new (meets_two l1 l2 k1 k2 xs ys) ⟨q1, q2, ?_⟩
  have e1 : (s.heap.push (itO k1 l1)).objs.size = s.heap.objs.size + 1 := Heap.size_push ..
  have e2 : (hA s.heap k1 k2 l1 l2).objs.size = s.heap.objs.size + 2 := by rw [Heap.size_push, e1]
  have e3 : (hB s.heap k1 k2 l1 l2).objs.size = s.heap.objs.size + 3 := by rw [Heap.size_push, e2]
  have e4 : (hC s.heap k1 k2 l1 l2).objs.size = s.heap.objs.size + 4 := by rw [Heap.size_push, e3]
  have up4 : ∀ {b o}, (hC s.heap k1 k2 l1 l2).get? b = some o → (hD s.heap k1 k2 l1 l2).get? b = some o := fun e => Heap.get?_push_of_some _ e
  have up3 : ∀ {b o}, (hB s.heap k1 k2 l1 l2).get? b = some o → (hD s.heap k1 k2 l1 l2).get? b = some o := fun e => up4 (Heap.get?_push_of_some _ e)
  have up2 : ∀ {b o}, (hA s.heap k1 k2 l1 l2).get? b = some o → (hD s.heap k1 k2 l1 l2).get? b = some o := fun e => up3 (Heap.get?_push_of_some _ e)
  have up1 : ∀ {b o}, (s.heap.push (itO k1 l1)).get? b = some o → (hD s.heap k1 k2 l1 l2).get? b = some o := fun e => up2 (Heap.get?_push_of_some _ e)
  have g5 := Heap.get?_push_size (hC s.heap k1 k2 l1 l2) (o := { cls := .type "zip", data := .fields #[.none, .bool false, .bool false, .ref (hA s.heap k1 k2 l1 l2).objs.size, .ref (hB s.heap k1 k2 l1 l2).objs.size] }) rfl
  have g4 := up4 (Heap.get?_push_size (hB s.heap k1 k2 l1 l2) (o := { cls := .type "tuple", data := .seq #[.none, .none] }) rfl)
  have g3 := up3 (Heap.get?_push_size (hA s.heap k1 k2 l1 l2) (o := { cls := .type "tuple", data := .seq #[.ref s.heap.objs.size, .ref (s.heap.push (itO k1 l1)).objs.size] }) rfl)
  have g2 := up2 (Heap.get?_push_size (s.heap.push (itO k1 l1)) (o := itO k2 l2) rfl)
  have g1 := up1 (Heap.get?_push_size s.heap (o := itO k1 l1) rfl)
  show _ ∧ _
  rw [e4] at g5 ⊢
  rw [e3] at g4
  rw [e2] at g3
  rw [e1] at g2
  refine ⟨⟨_, g5, rfl⟩, h _ ⟨?_, ?_, ⟨_, _, g4⟩, itO_pos g1, itO_pos g2⟩ fun b o e => up1 (Heap.get?_push_of_some _ e)⟩
  · show Heap.get? _ _ = _
    rw [g5, e2, e3]
  · show Heap.get? _ _ = _
    rw [g3, e1]
end
/-- the sequences at a and b, each of its kind -/
def SqK (t : Bool) (K : PySem.W.Frag) (H : Hp) (a : Addr) (xs : List V) : Prop := if t = true then SqT K H a xs else SqL K H a xs
theorem SqK.row {t : Bool} {X : Cx} {pins : List (Addr × Obj)} {σ : L2.St} {H : Hp} {s : Shared} {a : Addr} {xs : List V} (I : Inv X pins σ H s) (q : SqK t X.K H a xs) : ∃ its, Vals xs its ∧ Row t s.heap a its.toArray := by
  cases t
  · obtain ⟨its, rv, p, _⟩ := I.list q
    exact ⟨its, rv, p.isList⟩
  · obtain ⟨its, rv, p, _⟩ := I.tuple q
    exact ⟨its, rv, p⟩
theorem SqK.inj {t : Bool} {X : Cx} {pins : List (Addr × Obj)} {σ : L2.St} {H : Hp} {s : Shared} {a : Addr} {xs ys : List V} (I : Inv X pins σ H s) (q : SqK t X.K H a xs) (r : SqK t X.K H a ys) : xs = ys := by
  cases t
  · exact I.list_inj q r
  · exact I.tuple_inj q r
def It2 (t u : Bool) (K : PySem.W.Frag) (a b : Addr) : It :=
  ⟨fun i H => ∃ (xs ys : List V) (x y : V), SqK t K H a xs ∧ SqK u K H b ys ∧ xs[i]? = some x ∧ ys[i]? = some y,
    fun i H v H' => ∃ T x y, v = .ref T ∧ H T = none ∧ H' = upd H T (.tup [x, y]) ∧ (∀ xs, SqK t K H a xs → xs[i]? = some x) ∧ ∀ ys, SqK u K H b ys → ys[i]? = some y,
    fun i H => ∃ xs ys : List V, SqK t K H a xs ∧ SqK u K H b ys ∧ (xs.length ≤ i ∨ ys.length ≤ i)⟩
theorem turn_two {P : Program} {w : World} {K : PySem.W.Frag} {elts : List Expr} {kk : Nat} {tpos : PySem.Pos} {t u : Bool} {a b z TI TO i1 i2 : Addr} (D : ZipApart z TI TO i1 i2 a b) :
    Turn P w K (.Tuple elts kk tpos) (It2 t u K a b) [z, TI, TO, i1, i2] z (fun i h => Two z TI TO i1 i2 a b t u i h) where
  mem := by simp
  obj := fun i h st c hc => by
    obtain ⟨x, y, hTO⟩ := st.to
    have e' : c = z ∨ c = TI ∨ c = TO ∨ c = i1 ∨ c = i2 := by simpa using hc
    rcases e' with rfl | rfl | rfl | rfl | rfl
    · exact ⟨_, st.hz, fun v q => nomatch q⟩
    · exact ⟨_, st.ti, fun v q => nomatch q⟩
    · exact ⟨_, hTO, fun v q => nomatch q⟩
    · exact st.p1.obj
    · exact st.p2.obj
  keep := fun i h h' st k => st.keep k
  item := by
    intro X hP hw hK hc i pins s σ H E I hf st hg
    subst hP hw hK
    obtain ⟨xs, ys, x, y, hqx, hqy, hx, hy⟩ := hg
    obtain ⟨its, rv, p⟩ := SqK.row I hqx
    obtain ⟨its2, rv2, p2⟩ := SqK.row I hqy
    obtain ⟨v1, hu, ru⟩ := rv.get hx
    obtain ⟨v2, hu2, ru2⟩ := rv2.get hy
    have zlt : z < s.heap.objs.size := Heap.lt_size st.hz
    refine pull_item D st p p2 (x := v1) (y := v2) (by simpa using hu) (by simpa using hu2) fun h' z' TO' h1' h2' hT hsz hk => ?_
    refine ⟨_, rfl, wpAny_letOwnedTupleGo_zip (s := { s with heap := h' }) z' fun h'' z'' sb => ?_⟩
    have hT2 : h''.get? s.heap.objs.size = some { cls := .type "tuple", data := .seq #[v1, v2] } := (sb.2 _ (Nat.ne_of_gt zlt)).trans hT
    have new : ObjOk X.prog X.w (upd H s.heap.objs.size (.tup [x, y])) h'' s.heap.objs.size (.tup [x, y]) :=
      ⟨by show 2 ≤ sizeLine; decide, [v1, v2], .cons ru (.cons ru2 .nil), ⟨_, hT2, rfl, _, rfl⟩⟩
    have I1 : Inv X pins σ (upd H s.heap.objs.size (.tup [x, y])) { s with heap := h'' } :=
      I.turnedNew (t' := s.toks) (ch := [z, TI, TO, i1, i2]) (fun c o hb q => by
        simp only [List.mem_cons, List.not_mem_nil, or_false, not_or] at hb
        exact (sb.2 c hb.1).trans (hk c o hb.1 hb.2.2.1 hb.2.2.2.1 hb.2.2.2.2 q)) hf (Nat.le_refl _) new
    refine ⟨.ref s.heap.objs.size, _, I1, rfl, ⟨_, x, y, rfl, I.hok.fresh (Nat.le_refl _), rfl, fun l hl => by rw [SqK.inj I hl hqx]; exact hx, fun l hl => by rw [SqK.inj I hl hqy]; exact hy⟩, ⟨z'', ?_, ⟨v1, v2, ?_⟩, ?_, ?_⟩, fun c hcm => ?_⟩
    · exact (sb.2 _ D.TIz).trans (hk _ _ D.TIz D.TITO D.TIi1 D.TIi2 st.ti)
    · exact (sb.2 _ D.TOz).trans TO'
    · exact h1'.to fun o q => (sb.2 _ D.i1z).trans q
    · exact h2'.to fun o q => (sb.2 _ D.i2z).trans q
    · have hlt : c < s.heap.objs.size := by
        obtain ⟨x0, y0, hTO⟩ := st.to
        have e' : c = z ∨ c = TI ∨ c = TO ∨ c = i1 ∨ c = i2 := by simpa using hcm
        rcases e' with rfl | rfl | rfl | rfl | rfl
        · exact zlt
        · exact Heap.lt_size st.ti
        · exact Heap.lt_size hTO
        · obtain ⟨_, e1, _⟩ := st.p1.obj
          exact Heap.lt_size e1
        · obtain ⟨_, e2, _⟩ := st.p2.obj
          exact Heap.lt_size e2
      rw [upd_ne (Nat.ne_of_lt hlt)]
      exact (hf c hcm).1
  done := by
    intro X hP hw hK hc i pins s σ H E I hf st hg
    subst hP hw hK
    obtain ⟨xs, ys, hqx, hqy, hend⟩ := hg
    obtain ⟨its, rv, p⟩ := SqK.row I hqx
    obtain ⟨its2, rv2, p2⟩ := SqK.row I hqy
    have n1 := rv.length
    have n2 := rv2.length
    have he : its.toArray[i]? = none ∨ its2.toArray[i]? = none := by
      rcases hend with q | q
      · exact .inl (by simp; omega)
      · exact .inr (by simp; omega)
    exact pull_end (I.ok.hd hc) D st p p2 he fun h' hk => ⟨rfl, I.turnedL (t' := s.toks) (ch := [z, TI, TO, i1, i2]) (fun c o hb q => by
      simp only [List.mem_cons, List.not_mem_nil, or_false, not_or] at hb
      exact hk c o hb.1 hb.2.2.1 hb.2.2.2.1 hb.2.2.2.2 q) hf⟩
  self := fun A i s Q E st h => wpAny_pyIter_zip st.hz h
def iZip2 (t u : Bool) (K : PySem.W.Frag) (ta : TA) : TI := fun σ H R => ta σ H fun vs H1 => ∃ a b xs ys, vs = [.ref a, .ref b] ∧ SqK t K H1 a xs ∧ SqK u K H1 b ys ∧ R (It2 t u K a b) H1
theorem pi_zip2 (t u : Bool) {X : Cx} {e e2 : Expr} {ta : TA} {p pos tpos : PySem.Pos} {elts : List Expr} {kk : Nat} (hg : Gl X "zip") (hm : X.mg "zip" = none) (ha : PA X [e, e2] ta)
    (hs : starEach [e, e2] X.env = (false, eval e X.env) :: starEach [e2] X.env := by rfl) (hpl : (backTo pos (starEach [e2] X.env)).any (·.1) = false := by rfl) :
    PI X (.Tuple elts kk tpos) (.Call (.Name "zip" p) [e, e2] [] pos) (iZip2 t u X.K ta) := by
  refine ⟨fun pins s σ H R I h => ?_⟩
  refine Call_ (ld_blt I hg hm PyProof.Rows.boot_zip (PyProof.Rows.callWith_type1 (thn (ha.run pos pins s σ H _ I h) fun us s1 ⟨vs, H1, I1, r1, q1⟩ => ?_) hs hpl))
  obtain ⟨a, b, xs, ys, rfl, hqx, hqy, q⟩ := q1
  cases r1 with
  | cons r rr =>
    cases rr with
    | cons r' rr =>
      cases rr
      cases r
      cases r'
      obtain ⟨its, rv, p1⟩ := SqK.row I1 hqx
      obtain ⟨its2, rv2, p2⟩ := SqK.row I1 hqy
      refine call_two p1 p2 fun h' st hk => wpAny_pyIter_zip st.hz ?_
      have I2 : Inv X pins σ H1 { s1 with heap := h' } := I1.kept (t' := s1.toks) hk
      refine ⟨s1.heap.objs.size + 4, [s1.heap.objs.size + 4, s1.heap.objs.size + 2, s1.heap.objs.size + 3, s1.heap.objs.size, s1.heap.objs.size + 1], _, _, H1, rfl, I2, turn_two (PySem.W.ktu_apart s1.heap.objs.size a b p1.lt p2.lt), st, fun c hcm => ?_, q⟩
      have hle : s1.heap.objs.size ≤ c := by
        have e' : c = s1.heap.objs.size + 4 ∨ c = s1.heap.objs.size + 2 ∨ c = s1.heap.objs.size + 3 ∨ c = s1.heap.objs.size ∨ c = s1.heap.objs.size + 1 := by simpa using hcm
        rcases e' with z | z | z | z | z <;> rw [z]
        · exact Nat.le_add_right _ _
        · exact Nat.le_add_right _ _
        · exact Nat.le_add_right _ _
        · exact Nat.le_refl _
        · exact Nat.le_add_right _ _
      exact I1.fpOk hle (I1.hok.fresh hle)
theorem walk_two {t u : Bool} {K : PySem.W.Frag} {a b : Addr} {xs ys : List V} {n : Nat} (hn : n = min xs.length ys.length) : Walk (It2 t u K a b) n (fun H => SqK t K H a xs ∧ SqK u K H b ys) (YPair (fun i => xs[i]?) (fun i => ys[i]?)) := by
  subst hn
  refine ⟨fun i _ hi q => ?_, fun _ q => ⟨xs, ys, q.1, q.2, by omega⟩, fun i H v H' _ q y => ?_⟩
  · have g1 : i < xs.length := by omega
    have g2 : i < ys.length := by omega
    exact ⟨xs, ys, xs[i], ys[i], q.1, q.2, by simp [g1], by simp [g2]⟩
  · obtain ⟨T, x, z, e1, e2, e3, e4, e5⟩ := y
    exact ⟨T, x, z, e1, e2, e3, e4 xs q.1, e5 ys q.2⟩
end ZM

/-! tuple * int, any int up to 1000 -/
namespace Wk
open PySem PySem.Spec PyProof.Rows L2
theorem rep_one (l : Addr) (items : Array Value) (n : Nat) (dd : Option Addr) (sl : Array (Option Value)) (u : Tok) :
    Meets (Builtin.«tuple.__mul__» ⟨[.ref l, .int 1 u], []⟩) (fun _ R s => s.heap.get? l = some { cls := .type "tuple", dict := dd, data := .seq items n, slots := sl } ∧
      R (.ok (.ret (Value.ref l))) { s with toks := s.toks }) :=
  .of_wp fun prog w A R s h => by
    obtain ⟨hp, g, d, tk, os⟩ := s
    obtain ⟨hl, h⟩ := h
    have f1 := AutoSeq1.idx_int
    have e1 : (items.isEmpty || (1 : Int) == 1) = true := by simp
    wp_walk using wpAny_loadPart' hl
    repeat (first
      | (refine wpAny_ite_true (decide_eq_true e1) ?_; wp_walk using wpAny_loadPart' hl)
      | (refine wpAny_ite_false (decide_eq_false (by decide)) ?_; wp_walk using wpAny_loadPart' hl))
    exact ⟨_, rfl, h⟩
theorem rep_none (l : Addr) (items : Array Value) (n : Nat) (dd : Option Addr) (sl : Array (Option Value)) (x : Int) (u : Tok) (c0 : (decide (x < -(2 ^ 63)) || decide (x ≥ 2 ^ 63)) = false) (c1 : (items.isEmpty || x == 1) = false) (c2 : (decide (x ≤ 0) || items.isEmpty) = true) :
    Meets (Builtin.«tuple.__mul__» ⟨[.ref l, .int x u], []⟩) (fun _ R s => s.heap.get? l = some { cls := .type "tuple", dict := dd, data := .seq items n, slots := sl } ∧
      R (.ok (.ret (Value.ref s.heap.objs.size))) { s with heap := s.heap.push { cls := Value.type "tuple", data := Data.seq #[] }, toks := s.toks }) :=
  .of_wp fun prog w A R s h => by
    obtain ⟨hp, g, d, tk, os⟩ := s
    obtain ⟨hl, h⟩ := h
    have f1 := AutoSeq1.idx_int
    wp_walk using wpAny_loadPart' hl
    repeat (first
      | (refine wpAny_ite_false (decide_eq_false (by rw [c0]; exact Bool.false_ne_true)) ?_; wp_walk using wpAny_loadPart' hl)
      | (refine wpAny_ite_false (decide_eq_false (by rw [c1]; exact Bool.false_ne_true)) ?_; wp_walk using wpAny_loadPart' hl)
      | (refine wpAny_ite_true (decide_eq_true (by rw [c2])) ?_; wp_walk using wpAny_loadPart' hl))
    exact ⟨_, rfl, h⟩
def rRepA (K : PySem.W.Frag) : R2 := fun x y H Q => ∃ l k xs, x = .ref l ∧ y = .int k ∧ SqT K H l xs ∧ xs ≠ [] ∧ -(2 ^ 62) ≤ k ∧ k ≤ 1000 ∧ xs.length ≤ 1000 ∧ (k = 1 → Q (.ref l) H) ∧ (k ≠ 1 → ∀ p, H p = none → Q (.ref p) (upd H p (.tup (List.replicate k.toNat xs).flatten)))
theorem op_repA {X : Cx} : OpR X (binaryOp .Mult) (rRepA X.K) := by
  intro pins s σ H x y v u Q I rx ry h
  obtain ⟨l, k, xs, rfl, rfl, hT, hne, h1, h2, hz, q1, q2⟩ := h
  by_cases hk : 2 ≤ k
  · exact op_repT pins s σ H _ _ v u Q I rx ry ⟨l, k, xs, rfl, rfl, hT, hne, hk, h2, hz, q2 (by omega)⟩
  · cases rx
    obtain ⟨t, rfl⟩ := ry
    obtain ⟨its, r, ⟨⟨cls, dd, data, sl⟩, ho, hc, n, hd⟩, hs⟩ := I.tuple hT
    simp only at hc hd
    subst hc hd
    have hn : its ≠ [] := fun e => hne (by
      have hle := r.length
      rw [e] at hle
      exact List.eq_nil_of_length_eq_zero hle)
    have hi : its.toArray.isEmpty = false := by
      cases its with
      | nil => exact absurd rfl hn
      | cons a b => rfl
    by_cases h3 : k = 1
    · subst h3
      refine wpAny_binaryOp_repeat_ref (T := "tuple") (U := "int") (by decide) ⟨_, ho, rfl⟩ (fun s' => typeIs_int s' 1 t) noFill_tuple_mul F.fills_int_mul F.slot_int_rmul repeat_tuple F.slot_int_index.lookup
        (call_meets F.slot_int_rmul (typeIs_int s 1 t) F.entry_int_rmul (F.args_int_rmul_2 _ _) (int_rmul_tuple 1 t l its.toArray n dd sl)
          ⟨ho, rfl, ⟨_, ho, rfl⟩, call_meets F.slot_tuple_mul ⟨_, ho, rfl⟩ F.entry_tuple_mul (F.args_tuple_mul_2 _ _) (rep_one l its.toArray n dd sl t) ⟨ho, ?_⟩⟩)
      exact ⟨.ref l, H, I.tok _, rfl, q1 rfl⟩
    · have c0 : (decide (k < -(2 ^ 63)) || decide (k ≥ 2 ^ 63)) = false := by
        rw [decide_eq_false (by omega), decide_eq_false (by omega)] <;> rfl
      have c1 : (its.toArray.isEmpty || k == 1) = false := by
        rw [hi, Bool.false_or]
        exact beq_eq_false_iff_ne.mpr h3
      have c2 : (decide (k ≤ 0) || its.toArray.isEmpty) = true := by
        rw [decide_eq_true (by omega), Bool.true_or]
      refine wpAny_binaryOp_repeat_ref (T := "tuple") (U := "int") (by decide) ⟨_, ho, rfl⟩ (fun s' => typeIs_int s' k t) noFill_tuple_mul F.fills_int_mul F.slot_int_rmul repeat_tuple F.slot_int_index.lookup
        (call_meets F.slot_int_rmul (typeIs_int s k t) F.entry_int_rmul (F.args_int_rmul_2 _ _) (int_rmul_tuple k t l its.toArray n dd sl)
          ⟨ho, rfl, ⟨_, ho, rfl⟩, call_meets F.slot_tuple_mul ⟨_, ho, rfl⟩ F.entry_tuple_mul (F.args_tuple_mul_2 _ _) (rep_none l its.toArray n dd sl k t c0 c1 c2) ⟨ho, ?_⟩⟩)
      have e0 : (List.replicate k.toNat xs).flatten = [] := by
        rw [show k.toNat = 0 by omega]
        rfl
      have q := q2 h3 _ (I.hok.fresh (Nat.le_refl _))
      rw [e0] at q
      refine ⟨.ref s.heap.objs.size, _, I.laid (t' := s.toks) (o := .tup []) (fun b ob q => Heap.get?_push_of_some _ q) (Nat.le_refl _) ?_, rfl, q⟩
      exact ⟨Nat.zero_le _, [], .nil, IsTup.new _ _⟩
/-! rules of comprehensions within comprehensions: the frame K by name -/
section
variable {X : Cx} {K : PySem.W.Frag}
theorem pg_tupK (hK : X.K = K) {es : List Expr} {k : Nat} {t : TGs} {n : Nat} {pos : PySem.Pos} (hc : X.calm = true) (h : PGs X es t)
    (hn : (assignEach es X.env).length = n := by rfl) (hst : (assignEach es X.env).findIdx? (·.1) = none := by rfl) : PG X (.Tuple es k pos) (gTup K n t) := hK ▸ pg_tup hc h hn hst
theorem pi_listK (hK : X.K = K) {tg l : Expr} {tl : TE} (hl : PE X l tl) : PI X tg l (iList K tl) := hK ▸ pi_list hl
theorem pi_tupK (hK : X.K = K) {tg l : Expr} {tl : TE} (hl : PE X l tl) : PI X tg l (iTup K tl) := hK ▸ pi_tup hl
theorem pi_zip2K (hK : X.K = K) (t u : Bool) {e e2 : Expr} {ta : TA} {p pos tpos : PySem.Pos} {elts : List Expr} {kk : Nat} (hg : Gl X "zip") (hm : X.mg "zip" = none) (ha : PA X [e, e2] ta)
    (hs : starEach [e, e2] X.env = (false, eval e X.env) :: starEach [e2] X.env := by rfl) (hpl : (backTo pos (starEach [e2] X.env)).any (·.1) = false := by rfl) :
    PI X (.Tuple elts kk tpos) (.Call (.Name "zip" p) [e, e2] [] pos) (ZM.iZip2 t u K ta) := hK ▸ ZM.pi_zip2 t u hg hm ha hs hpl
def rTupOf (K : PySem.W.Frag) : List V → Hp → VK → Prop := fun xs H Q => ∃ p ys, xs = [.ref p] ∧ ((SqL K H p ys ∧ ∀ l, H l = none → Q (.ref l) (upd H l (.tup ys))) ∨ (SqT K H p ys ∧ Q (.ref p) H))
theorem call_tupleK (hK : X.K = K) : CallR X (.type "tuple") (rTupOf K) := hK ▸ call_tuple_of
def rLstOf (K : PySem.W.Frag) : List V → Hp → VK → Prop := fun xs H Q => ∃ p ys, xs = [.ref p] ∧ (SqL K H p ys ∨ SqT K H p ys) ∧ ∀ l, H l = none → Q (.ref l) (upd H l (.lst ys))
theorem call_listK (hK : X.K = K) : CallR X (.type "list") (rLstOf K) := hK ▸ call_list_of
theorem cr_minK (hK : X.K = K) (hc : X.calm = true) : CallR X (.builtin "min") (rMin K) := hK ▸ cr_min hc
theorem cr_sumK (hK : X.K = K) (hc : X.calm = true) : CallR X (.builtin "sum") (rSum K) := hK ▸ cr_sum hc
theorem ix_tupK (hK : X.K = K) : IxR X (rIxT K) := hK ▸ ix_tup
theorem ix_listK (hK : X.K = K) : IxR X (rIxL K) := hK ▸ ix_list
end
section
variable {X : Cx} {K : PySem.W.Frag}
theorem op_repAK (hK : X.K = K) : OpR X (binaryOp .Mult) (rRepA K) := hK ▸ op_repA
theorem op_catAK (hK : X.K = K) : OpR X (binaryOp .Add) (rCatA K) := hK ▸ op_catA
theorem sl_tupAK (hK : X.K = K) : SlR X (rSlA K) := hK ▸ sl_tupA
end
/-- all but D stays -/
def But (D : Addr) (H H' : Hp) : Prop := ∀ b o, b ≠ D → H b = some o → H' b = some o
theorem But.same {D : Addr} {H H' H2 : Hp} (h : But D H H') (e : Same H' H2) : But D H H2 := fun b o n q => e b o (h b o n q)
/-- a comprehension whose i-th item stands in R i -/
theorem lc_rel {J : It} {n : Nat} {G : Hp → Prop} {Y : Nat → Hp → V → Hp → Prop} (w : Walk J n G Y) {g : TG} {tt : TT} {te : TE} {vs : List Nat} {σ : L2.St} {H1 : Hp} {D : Addr} {Qd : Hp → Prop} (hD : H1 D = none) (hn : n ≤ 1000000)
    (R : Nat → V → Hp → Prop) (mono : ∀ i v H H', R i v H → But D H H' → R i v H') (hG : ∀ H, Same H1 H → G H)
    (hs : ∀ (i : Nat) (x : V) (H H' : Hp) (Fn : V → Hp → Prop) (Nn : Hp → Prop), (∀ y H4, Same H H4 → R i y H4 → Fn y H4) → i < n → Same H1 H → (∃ acc, H D = some (.lst acc)) → Y i H x H' → g x (wipe σ vs) H' fun σ2 H2 => wipe σ2 vs = wipe σ vs ∧ tt σ2 H2 fun b H3 => if b = true then te σ2 H3 Fn else Nn H3)
    (hd : ∀ (acc : List V) H, acc.length = n → H D = some (.lst acc) → Same H1 H → (∀ j v, acc[j]? = some v → R j v H) → Qd H) :
    ∃ W : Nat → Nat → Hp → Prop, (∃ m, W 0 m (upd H1 D (.lst []))) ∧ ∀ i m H, W i m H →
      (J.stop i H ∧ Qd H) ∨ (J.go i H ∧ ∃ Nx : Hp → Prop, (∀ H', Nx H' → ∃ m', m' < m ∧ W (i + 1) m' H') ∧ ∀ x H', J.yld i H x H' → g x (wipe σ vs) H' fun σ2 H2 => wipe σ2 vs = wipe σ vs ∧ tt σ2 H2 fun b H3 =>
        if b = true then te σ2 H3 fun y H4 => ∃ acc, H4 D = some (.lst acc) ∧ acc.length < sizeLine ∧ Nx (upd H4 D (.lst (acc ++ [y]))) else Nx H3) := by
  refine lc_it w (fun i H => ∃ acc : List V, acc.length = i ∧ H D = some (.lst acc) ∧ Same H1 H ∧ ∀ j v, acc[j]? = some v → R j v H) ⟨[], rfl, upd_same, fun b o e => ?_, fun j v e => by simp at e⟩ (fun i H hi ⟨acc, _, _, h3, _⟩ => hG H h3) ?_ fun H ⟨acc, h1, h2, h3, h4⟩ => hd acc H h1 h2 h3 h4
  · rw [upd_ne (fun z => by rw [z, hD] at e; cases e)]
    exact e
  · intro i x H H' hi ⟨acc, h1, h2, h3, h4⟩ hy
    refine hs i x H H' _ _ (fun y H4 sm hr => ⟨acc, sm _ _ h2, ?_, acc ++ [y], by simp [h1], upd_same, fun b o e => ?_, fun j v e => ?_⟩) hi h3 ⟨acc, h2⟩ hy
    · rw [h1]
      exact Nat.lt_of_lt_of_le hi (Nat.le_trans hn (by decide))
    · rw [upd_ne (fun z => by rw [z, hD] at e; cases e)]
      exact sm _ _ (h3 _ _ e)
    · have b1 : But D H4 (upd H4 D (.lst (acc ++ [y]))) := fun b o n q => by rw [upd_ne n]; exact q
      rcases Nat.lt_trichotomy j acc.length with hj | hj | hj
      · rw [List.getElem?_append_left hj] at e
        exact mono _ _ _ _ (mono _ _ _ _ (h4 j v e) fun b o _ q => sm b o q) b1
      · rw [hj] at e
        simp at e
        rw [hj, h1, ← e]
        exact mono _ _ _ _ hr b1
      · rw [List.getElem?_eq_none (by simp; omega)] at e
        cases e
end Wk

/-! rows and matrices of ints as data -/
namespace Wk
open PySem L2
theorem eqvAll_map {α : Type} (f : α → PyData) (g : α → α → Bool) (h : ∀ a b, PyData.eqv (f a) (f b) = g a b) (hg : ∀ a b, g a b = true ↔ a = b) [DecidableEq α] : ∀ (xs ys : List α), PyData.eqvAll (xs.map f) (ys.map f) = decide (xs = ys)
  | [], [] => by simp [PyData.eqvAll]
  | [], _ :: _ => by simp [PyData.eqvAll]
  | _ :: _, [] => by simp [PyData.eqvAll]
  | x :: xs, y :: ys => by
    simp only [List.map_cons, PyData.eqvAll, h, eqvAll_map f g h hg xs ys]
    have e : g x y = decide (x = y) := by
      by_cases z : x = y
      · rw [(hg x y).mpr z, decide_eq_true z]
      · rw [decide_eq_false z]
        cases q : g x y with
        | false => rfl
        | true => exact absurd ((hg x y).mp q) z
    rw [e]
    by_cases z : x = y <;> by_cases z2 : xs = ys <;> simp [z, z2]
/-- a tuple of ints; a tuple of such -/
def dI (ns : List Int) : PyData := .tuple (ns.map PyData.int)
def dM (ms : List (List Int)) : PyData := .tuple (ms.map dI)
theorem dI_eqv (a b : List Int) : PyData.eqv (dI a) (dI b) = decide (a = b) := by
  unfold dI
  rw [PyData.eqv]
  exact eqvAll_map _ (fun i j => i == j) (fun i j => by simp [PyData.eqv]) (fun i j => by simp) a b
theorem dM_eqv (a b : List (List Int)) : PyData.eqv (dM a) (dM b) = decide (a = b) := by
  unfold dM
  rw [PyData.eqv]
  exact eqvAll_map _ (fun i j => decide (i = j)) dI_eqv (fun i j => by simp) a b
theorem canLayAll_map {α : Type} (f : α → PyData) (h : ∀ a, (f a).canLay0 = true) : ∀ xs : List α, PyData.canLayAll0 (xs.map f) = true
  | [] => by simp [PyData.canLayAll0]
  | x :: xs => by simp [PyData.canLayAll0, h x, canLayAll_map f h xs]
theorem depthAll_map {α : Type} (f : α → PyData) (n : Nat) (h : ∀ a, (f a).depth ≤ n) : ∀ xs : List α, PyData.depthAll (xs.map f) ≤ n
  | [] => by simp [PyData.depthAll]
  | x :: xs => by
    have h1 := h x
    have h2 := depthAll_map f n h xs
    simp only [List.map_cons, PyData.depthAll]
    omega
theorem dI_lay (a : List Int) : (dI a).canLay0 = true := by
  unfold dI
  rw [PyData.canLay0]
  exact canLayAll_map _ (fun i => by simp [PyData.canLay0]) a
theorem dI_depth (a : List Int) : (dI a).depth ≤ 1 := by
  unfold dI
  rw [PyData.depth]
  have := depthAll_map PyData.int 0 (fun i => by simp [PyData.depth]) a
  omega
theorem dM_lay (a : List (List Int)) : (dM a).canLay0 = true := by
  unfold dM
  rw [PyData.canLay0]
  exact canLayAll_map _ dI_lay a
theorem dM_depth (a : List (List Int)) : (dM a).depth ≤ 2 := by
  unfold dM
  rw [PyData.depth]
  have := depthAll_map dI 1 dI_depth a
  omega
theorem dI_shaped (a : List Int) : SeqAt.shaped (dI a) = true := by
  have := dI_depth a
  simp only [SeqAt.shaped, dI_lay, Bool.true_and, decide_eq_true_eq]
  omega
theorem dM_shaped (a : List (List Int)) : SeqAt.shaped (dM a) = true := by
  have := dM_depth a
  simp only [SeqAt.shaped, dM_lay, Bool.true_and, decide_eq_true_eq]
  omega
theorem dpAll_ints {K : PySem.W.Frag} {H : Hp} : ∀ ns : List Int, DpAll K H (ns.map V.int) (ns.map PyData.int)
  | [] => .nil
  | n :: ns => .cons (.int n) (dpAll_ints ns)
/-- a tuple of ints at a -/
def RowAt (K : PySem.W.Frag) (H : Hp) (a : Addr) (ns : List Int) : Prop := SqT K H a (ns.map V.int)
theorem RowAt.dp {K : PySem.W.Frag} {H : Hp} {a : Addr} {ns : List Int} (h : RowAt K H a ns) : Dp K H (.ref a) (dI ns) := .tup h (dpAll_ints ns)
/-- values that are tuples of ints -/
inductive RowsAre (K : PySem.W.Frag) (H : Hp) : List V → List (List Int) → Prop
  | nil : RowsAre K H [] []
  | cons {a : Addr} {ns : List Int} {vs : List V} {ms : List (List Int)} : RowAt K H a ns → RowsAre K H vs ms → RowsAre K H (.ref a :: vs) (ns :: ms)
theorem RowsAre.dp {K : PySem.W.Frag} {H : Hp} : ∀ {vs : List V} {ms : List (List Int)}, RowsAre K H vs ms → DpAll K H vs (ms.map dI)
  | _, _, .nil => .nil
  | _, _, .cons h r => .cons h.dp r.dp
theorem RowsAre.length {K : PySem.W.Frag} {H : Hp} : ∀ {vs : List V} {ms : List (List Int)}, RowsAre K H vs ms → vs.length = ms.length
  | _, _, .nil => rfl
  | _, _, .cons _ r => by simp [r.length]
theorem RowsAre.at_ {K : PySem.W.Frag} {H : Hp} : ∀ {vs : List V} {ms : List (List Int)}, RowsAre K H vs ms → ∀ {i : Nat} {v : V}, vs[i]? = some v → ∃ (a : Addr) (ns : List Int), v = .ref a ∧ ms[i]? = some ns ∧ RowAt K H a ns
  | _, _, .nil, i, v, h => by simp at h
  | _, _, .cons h r, 0, v, e => by cases e; exact ⟨_, _, rfl, rfl, h⟩
  | _, _, .cons h r, i + 1, v, e => r.at_ (i := i) (by simpa using e)
theorem RowsAre.snoc {K : PySem.W.Frag} {H : Hp} {a : Addr} {ns : List Int} (h : RowAt K H a ns) : ∀ {vs : List V} {ms : List (List Int)}, RowsAre K H vs ms → RowsAre K H (vs ++ [.ref a]) (ms ++ [ns])
  | _, _, .nil => .cons h .nil
  | _, _, .cons h' r => .cons h' (r.snoc h)
/-- a tuple of tuples of ints at a -/
def MatAt (K : PySem.W.Frag) (H : Hp) (a : Addr) (ms : List (List Int)) : Prop := ∃ vs, SqT K H a vs ∧ RowsAre K H vs ms
theorem MatAt.dp {K : PySem.W.Frag} {H : Hp} {a : Addr} {ms : List (List Int)} (h : MatAt K H a ms) : Dp K H (.ref a) (dM ms) := by
  obtain ⟨vs, h1, h2⟩ := h
  exact .tup h1 h2.dp
theorem SqT.same {K : PySem.W.Frag} {H H' : Hp} {a : Addr} {xs : List V} (h : SqT K H a xs) (e : Same H H') : SqT K H' a xs := by
  rcases h with h | h
  · rcases h with h | ⟨o, h⟩
    · exact .inl (.inl (e _ _ h))
    · exact .inl (.inr ⟨o, e _ _ h⟩)
  · exact .inr h
theorem RowsAre.same {K : PySem.W.Frag} {H H' : Hp} (e : Same H H') : ∀ {vs : List V} {ms : List (List Int)}, RowsAre K H vs ms → RowsAre K H' vs ms
  | _, _, .nil => .nil
  | _, _, .cons h r => .cons (SqT.same h e) (r.same e)
theorem MatAt.same {K : PySem.W.Frag} {H H' : Hp} {a : Addr} {ms : List (List Int)} (h : MatAt K H a ms) (e : Same H H') : MatAt K H' a ms := by
  obtain ⟨vs, h1, h2⟩ := h
  exact ⟨vs, SqT.same h1 e, h2.same e⟩
end Wk

/-! matrices of ints, their products modulo M -/
namespace Wk
abbrev Mat := List (List Int)
def Wd (n : Int) : Prop := n.natAbs < 2 ^ 200
def RWd (r : List Int) : Prop := ∀ n ∈ r, Wd n
def MWd (A : Mat) : Prop := ∀ r ∈ A, RWd r
def dotZ (a b : List Int) : Int := (List.zipWith (· * ·) a b).sum
def applyM (M : Int) (A : Mat) (r : List Int) : List Int := A.map fun l => dotZ l r % M
def colsOf (n : Nat) (B : Mat) : Mat := (List.range n).map fun j => B.map fun r => r.getD j 0
def prodM (M : Int) (n : Nat) (A B : Mat) : Mat := A.map fun r => applyM M (colsOf n B) r
def unitRow (s p : Nat) : List Int := (List.range s).map fun j => if j = p then 1 else 0
def idM (s : Nat) : Mat := (List.range s).map fun p => unitRow s p
def mpow (M : Int) (n : Nat) (A : Mat) : Nat → Mat
  | 0 => idM n
  | e + 1 => prodM M n (mpow M n A e) A
abbrev Row := List Int
def mulRow (M f : Int) (r : List Int) : List Int := r.map fun x => f * x % M
def comb (M f : Int) (r : List Int) (g : Int) (s : List Int) : List Int := List.zipWith (fun a b => (f * a + g * b) % M) r s
/-- numbers from 0 to M - 1 -/
def RRed (M : Int) (r : Row) : Prop := ∀ x ∈ r, 0 ≤ x ∧ x < M
structure WF (M : Int) (W n : Nat) (S : List (Option Row)) : Prop where
  len : S.length = n
  row : ∀ (i : Nat) (s : Row), S[i]? = some (some s) → s.length = W ∧ RRed M s ∧ (∃ x, s[i]? = some x ∧ 1 ≤ x ∧ x ∣ M) ∧ ∀ j, j < i → s[j]? = some 0
/-- one step of a put -/
def PutStep (M : Int) (p : Nat) (S : List (Option Row)) (r : Row) (N : Int) (S' : List (Option Row)) (r' : Row) : Prop :=
  (S[p]? = some none ∧ ∃ g lf f : Int, g = (Int.gcd M N : Int) ∧ 1 ≤ g ∧ lf * M + f * N = g ∧ S' = S.set p (some (mulRow M f r)) ∧ r' = mulRow M (M / g) r) ∨
  (∃ (s : Row) (P : Int), S[p]? = some (some s) ∧ s[p]? = some P ∧
    ((N % P = 0 ∧ S' = S ∧ r' = comb M 1 r (-(N / P)) s) ∨
     (∃ g lf f : Int, g = (Int.gcd P N : Int) ∧ 1 ≤ g ∧ lf * P + f * N = g ∧ S' = S.set p (some (comb M f r lf s)) ∧ r' = comb M (P / g) r (-(N / g)) s)))
/-- a put, place by place -/
inductive Ch (M : Int) (S0 : List (Option Row)) (r0 : Row) : Nat → List (Option Row) → Row → Prop
  | base : Ch M S0 r0 0 S0 r0
  | skip {i : Nat} {S : List (Option Row)} {r : Row} : Ch M S0 r0 i S r → r[i]? = some 0 → Ch M S0 r0 (i + 1) S r
  | step {i : Nat} {S S' : List (Option Row)} {r r' : Row} {N : Int} : Ch M S0 r0 i S r → r[i]? = some N → 1 ≤ N → PutStep M i S r N S' r' → Ch M S0 r0 (i + 1) S' r'
theorem mod_red {M : Int} (h : 1 ≤ M) (x : Int) : 0 ≤ x % M ∧ x % M < M := ⟨Int.emod_nonneg _ (by omega), Int.emod_lt_of_pos _ (by omega)⟩
theorem mulRow_red {M : Int} (h : 1 ≤ M) (f : Int) (r : Row) : RRed M (mulRow M f r) := fun x hx => by
  obtain ⟨y, _, rfl⟩ := List.mem_map.mp hx
  exact mod_red h _
theorem comb_red {M : Int} (h : 1 ≤ M) (f g : Int) (r s : Row) : RRed M (comb M f r g s) := fun x hx => by
  obtain ⟨k, hk⟩ := List.mem_iff_getElem?.mp hx
  unfold comb at hk
  rw [List.getElem?_zipWith] at hk
  split at hk
  · cases hk
    exact mod_red h _
  · cases hk
theorem mulRow_at {M f : Int} {r : Row} {i : Nat} {x : Int} (h : r[i]? = some x) : (mulRow M f r)[i]? = some (f * x % M) := by
  unfold mulRow
  rw [List.getElem?_map, h]
  rfl
theorem comb_at {M f g : Int} {r s : Row} {i : Nat} {x y : Int} (h : r[i]? = some x) (h2 : s[i]? = some y) : (comb M f r g s)[i]? = some ((f * x + g * y) % M) := by
  unfold comb
  rw [List.getElem?_zipWith, h, h2]
theorem gcd_le_l {a b : Int} (h : 1 ≤ a) : (Int.gcd a b : Int) ≤ a := by
  have : Int.gcd a b ≤ a.natAbs := Nat.gcd_le_left _ (by omega)
  omega
theorem gcd_le_r {a b : Int} (h : 1 ≤ b) : (Int.gcd a b : Int) ≤ b := by
  have : Int.gcd a b ≤ b.natAbs := Nat.gcd_le_right _ (by omega)
  omega
theorem WF.set {M : Int} {W n i : Nat} {S : List (Option Row)} {s : Row} {x : Int} (wf : WF M W n S) (h1 : s.length = W) (h2 : RRed M s) (h3 : s[i]? = some x) (h4 : 1 ≤ x) (h5 : x ∣ M) (h6 : ∀ j, j < i → s[j]? = some 0) : WF M W n (S.set i (some s)) := by
  refine ⟨by rw [List.length_set]; exact wf.len, fun j t e => ?_⟩
  by_cases z : i = j
  · subst z
    by_cases hl : i < S.length
    · rw [List.getElem?_set_self hl] at e
      cases e
      exact ⟨h1, h2, ⟨x, h3, h4, h5⟩, h6⟩
    · rw [List.getElem?_eq_none (by rw [List.length_set]; omega)] at e
      cases e
  · rw [List.getElem?_set_ne z] at e
    exact wf.row j t e
theorem put_wf {M : Int} {W n i : Nat} {S S' : List (Option Row)} {r r' : Row} {N : Int} (hM : 2 ≤ M) (wf : WF M W n S) (hr : r.length = W) (rr : RRed M r) (hz : ∀ j, j < i → r[j]? = some 0) (hN : r[i]? = some N) (h1 : 1 ≤ N) (st : PutStep M i S r N S' r') :
    WF M W n S' ∧ r'.length = W ∧ RRed M r' ∧ ∀ j, j < i + 1 → r'[j]? = some 0 := by
  have hNM : N < M := (rr N (List.mem_of_getElem? hN)).2
  rcases st with ⟨e0, g, lf, f, hg, g1, hbz, rfl, rfl⟩ | ⟨s, P, e0, hP, st⟩
  · have hgM : g ∣ M := hg ▸ Int.gcd_dvd_left ..
    have hgN' : g ∣ N := hg ▸ Int.gcd_dvd_right ..
    have e : f * N = g - lf * M := by omega
    have hgN := gcd_le_r (a := M) (b := N) h1
    have eg : f * N % M = g := by rw [e, Int.sub_mul_emod_self_right, Int.emod_eq_of_lt (by omega) (by omega)]
    refine ⟨wf.set (by simp [mulRow, hr]) (mulRow_red (by omega) _ _) (mulRow_at hN) (by rw [eg]; exact g1) (by rw [eg]; exact hgM) (fun j hj => by rw [mulRow_at (hz j hj)]; simp), by simp [mulRow, hr], mulRow_red (by omega) _ _, fun j hj => ?_⟩
    rcases Nat.lt_or_ge j i with h | h
    · rw [mulRow_at (hz j h)]
      simp
    · have : j = i := by omega
      subst this
      rw [mulRow_at hN]
      obtain ⟨a, rfl⟩ := hgM
      obtain ⟨b, rfl⟩ := hgN'
      rw [Int.mul_ediv_cancel_left _ (by omega), show a * (g * b) = g * a * b by grind, Int.mul_emod_right]
  · obtain ⟨sl, sr, ⟨P', hP', p1, pM⟩, sz⟩ := wf.row i s e0
    rw [hP] at hP'
    cases hP'
    have hPM : P < M := (sr P (List.mem_of_getElem? hP)).2
    have low : ∀ (f g : Int) (j : Nat), j < i → (comb M f r g s)[j]? = some 0 := fun f g j hj => by rw [comb_at (hz j hj) (sz j hj)]; simp
    rcases st with ⟨h0, rfl, rfl⟩ | ⟨g, lf, f, hg, g1, hbz, rfl, rfl⟩
    · refine ⟨wf, by simp [comb, hr, sl], comb_red (by omega) _ _ _ _, fun j hj => ?_⟩
      rcases Nat.lt_or_ge j i with h | h
      · exact low _ _ j h
      · have : j = i := by omega
        subst this
        rw [comb_at hN hP]
        have := Int.emod_add_ediv_mul N P
        rw [show 1 * N + -(N / P) * P = 0 by grind]
        simp
    · have hgP' : g ∣ P := hg ▸ Int.gcd_dvd_left ..
      have hgN' : g ∣ N := hg ▸ Int.gcd_dvd_right ..
      have hgN := gcd_le_l (a := P) (b := N) p1
      have eg : (f * N + lf * P) % M = g := by rw [show f * N + lf * P = g by omega, Int.emod_eq_of_lt (by omega) (by omega)]
      refine ⟨wf.set (by simp [comb, hr, sl]) (comb_red (by omega) _ _ _ _) (comb_at hN hP) (by rw [eg]; exact g1) (by rw [eg]; exact Int.dvd_trans hgP' pM) (low _ _), by simp [comb, hr, sl], comb_red (by omega) _ _ _ _, fun j hj => ?_⟩
      rcases Nat.lt_or_ge j i with h | h
      · exact low _ _ j h
      · have : j = i := by omega
        subst this
        rw [comb_at hN hP]
        obtain ⟨a, rfl⟩ := hgP'
        obtain ⟨b, rfl⟩ := hgN'
        rw [Int.mul_ediv_cancel_left _ (by omega), Int.mul_ediv_cancel_left _ (by omega), show a * (g * b) + -b * (g * a) = 0 by grind]
        simp
theorem Ch.wf {M : Int} {W n i : Nat} {S0 S : List (Option Row)} {r0 r : Row} (c : Ch M S0 r0 i S r) (hM : 2 ≤ M) (wf : WF M W n S0) (hr : r0.length = W) (rr : RRed M r0) : WF M W n S ∧ r.length = W ∧ RRed M r ∧ ∀ j, j < i → r[j]? = some 0 := by
  induction c with
  | base => exact ⟨wf, hr, rr, fun j h => absurd h (Nat.not_lt_zero _)⟩
  | skip c h ih =>
    obtain ⟨a, b, d, e⟩ := ih
    refine ⟨a, b, d, fun j hj => ?_⟩
    rcases Nat.lt_succ_iff_lt_or_eq.mp hj with h2 | h2
    · exact e j h2
    · rw [h2]
      exact h
  | step c h h1 st ih =>
    obtain ⟨a, b, d, e⟩ := ih
    exact put_wf hM a b d e h h1 st
/-- a row of the matrix with its own unit row behind -/
def rowOf (M : Int) (n : Nat) (a : Row) (k : Nat) : Row := a.map (· % M) ++ unitRow n k
inductive Puts (M : Int) (n : Nat) (A : Mat) : Nat → List (Option Row) → Prop
  | zero : Puts M n A 0 (List.replicate n none)
  | succ {k : Nat} {S S' : List (Option Row)} {a r' : Row} : Puts M n A k S → A[k]? = some a → Ch M S (rowOf M n a k) n S' r' → Puts M n A (k + 1) S'
theorem rowOf_ok {M : Int} (hM : 2 ≤ M) {n k : Nat} {a : Row} (h : a.length = n) : (rowOf M n a k).length = 2 * n ∧ RRed M (rowOf M n a k) := by
  refine ⟨by simp [rowOf, unitRow, h]; omega, fun x hx => ?_⟩
  rcases List.mem_append.mp hx with hx | hx
  · obtain ⟨y, _, rfl⟩ := List.mem_map.mp hx
    exact mod_red (by omega) y
  · obtain ⟨j, _, rfl⟩ := List.mem_map.mp hx
    split <;> omega
theorem Puts.wf {M : Int} (hM : 2 ≤ M) {n k : Nat} {A : Mat} {S : List (Option Row)} (hA : ∀ r ∈ A, r.length = n) (p : Puts M n A k S) : WF M (2 * n) n S := by
  induction p with
  | zero => exact ⟨by simp, fun i s e => by
      rw [List.getElem?_replicate] at e
      split at e <;> cases e⟩
  | succ p h c ih =>
    obtain ⟨a, b⟩ := rowOf_ok hM (hA _ (List.mem_of_getElem? h))
    exact (c.wf hM ih a b).1
/-- a row made less by the rows behind it -/
def lessen (M : Int) : Row → List (Nat × Row) → Row
  | r, [] => r
  | r, (q, s) :: L => lessen M (if r.getD q 0 ≥ s.getD q 0 then comb M 1 r (-(r.getD q 0 / s.getD q 0)) s else r) L
/-- the rows made less, from the last place on; i of them looked at -/
def settle (M : Int) (n : Nat) (S : List (Option Row)) : Nat → List (Nat × Row)
  | 0 => []
  | i + 1 => match S.getD (n - 1 - i) none with
    | none => settle M n S i
    | some r => (n - 1 - i, lessen M r (settle M n S i)) :: settle M n S i
/-- what the rows behind must be to make a row less -/
def LOk (M : Int) (W : Nat) (L : List (Nat × Row)) : Prop := ∀ q s, (q, s) ∈ L → s.length = W ∧ RRed M s ∧ q < W ∧ 1 ≤ s.getD q 0
theorem less_step {M : Int} {W : Nat} {r s : Row} {f : Int} (hM : 1 ≤ M) (hr : r.length = W) (hs : s.length = W) : (comb M 1 r f s).length = W ∧ RRed M (comb M 1 r f s) := ⟨by simp [comb, hr, hs], comb_red hM _ _ _ _⟩
theorem lessen_ok {M : Int} {W : Nat} (hM : 1 ≤ M) : ∀ {L : List (Nat × Row)} {r : Row}, LOk M W L → r.length = W → RRed M r → (lessen M r L).length = W ∧ RRed M (lessen M r L) ∧ ∀ (j : Nat) (x : Int), r[j]? = some x → (∀ q s, (q, s) ∈ L → s[j]? = some 0) → (lessen M r L)[j]? = some x
  | [], r, _, h1, h2 => ⟨h1, h2, fun j x h _ => h⟩
  | (q, s) :: L, r, hL, h1, h2 => by
    obtain ⟨a, b, c, e⟩ := hL q s List.mem_cons_self
    have hL2 : LOk M W L := fun q s h => hL q s (List.mem_cons_of_mem _ h)
    unfold lessen
    split
    · obtain ⟨z1, z2⟩ := less_step (f := -(r.getD q 0 / s.getD q 0)) hM h1 a
      obtain ⟨y1, y2, y3⟩ := lessen_ok hM hL2 z1 z2
      refine ⟨y1, y2, fun j x hx hz => y3 j x ?_ fun q s h => hz q s (List.mem_cons_of_mem _ h)⟩
      rw [comb_at hx (hz q s List.mem_cons_self)]
      have := h2 x (List.mem_of_getElem? hx)
      rw [Int.mul_zero, Int.add_zero, Int.one_mul, Int.emod_eq_of_lt this.1 this.2]
    · obtain ⟨y1, y2, y3⟩ := lessen_ok hM hL2 h1 h2
      exact ⟨y1, y2, fun j x hx hz => y3 j x hx fun q s h => hz q s (List.mem_cons_of_mem _ h)⟩
theorem settle_ok {M : Int} {W n : Nat} {S : List (Option Row)} (hM : 2 ≤ M) (wf : WF M W n S) (hn : n ≤ W) : ∀ i, i ≤ n → ∀ q s, (q, s) ∈ settle M n S i → n - i ≤ q ∧ q < n ∧ s.length = W ∧ RRed M s ∧ (∀ j, j < q → s[j]? = some 0) ∧ ∃ r0 x, S[q]? = some (some r0) ∧ r0[q]? = some x ∧ s[q]? = some x ∧ 1 ≤ x
  | 0, _, q, s, h => by simp [settle] at h
  | i + 1, hi, q, s, h => by
    have ih := settle_ok hM wf hn i (by omega)
    have hlt : n - 1 - i < S.length := by rw [wf.len]; omega
    unfold settle at h
    split at h
    · obtain ⟨a, b⟩ := ih q s h
      exact ⟨by omega, b⟩
    · rename_i r e
      have e2 : S[n - 1 - i]? = some (some r) := by
        rw [List.getD_eq_getElem?_getD, List.getElem?_eq_getElem hlt] at e
        rw [List.getElem?_eq_getElem hlt]
        exact congrArg some e
      obtain ⟨a1, a2, ⟨x, a3, a4, a5⟩, a6⟩ := wf.row _ _ e2
      have hL : LOk M W (settle M n S i) := fun q s h => by
        obtain ⟨b1, b2, b3, b4, b5, r0, x, b6, b7, b8, b9⟩ := ih q s h
        refine ⟨b3, b4, by omega, ?_⟩
        rw [List.getD_eq_getElem?_getD, b8]
        exact b9
      have zer : ∀ j, j ≤ n - 1 - i → ∀ q s, (q, s) ∈ settle M n S i → s[j]? = some 0 := fun j hj q s h => by
        obtain ⟨b1, b2, b3, b4, b5, _⟩ := ih q s h
        exact b5 j (by omega)
      obtain ⟨y1, y2, y3⟩ := lessen_ok (show 1 ≤ M by omega) hL a1 a2
      rcases List.mem_cons.mp h with h | h
      · cases h
        exact ⟨by omega, by omega, y1, y2, fun j hj => y3 j 0 (a6 j hj) (zer j (by omega)), r, x, e2, a3, y3 _ x a3 (zer _ (Nat.le_refl _)), a4⟩
      · obtain ⟨a, b⟩ := ih q s h
        exact ⟨by omega, b⟩
theorem settle_len (M : Int) (n : Nat) (S : List (Option Row)) : ∀ i, (settle M n S i).length ≤ i
  | 0 => Nat.le_refl _
  | i + 1 => by
    have := settle_len M n S i
    unfold settle
    split
    · omega
    · simp
      omega
theorem settle_lok {M : Int} {W n : Nat} {S : List (Option Row)} (hM : 2 ≤ M) (wf : WF M W n S) (hn : n ≤ W) {i : Nat} (hi : i ≤ n) : LOk M W (settle M n S i) := fun q s h => by
  obtain ⟨b1, b2, b3, b4, b5, r0, x, b6, b7, b8, b9⟩ := settle_ok hM wf hn i hi q s h
  refine ⟨b3, b4, by omega, ?_⟩
  rw [List.getD_eq_getElem?_getD, b8]
  exact b9
end Wk

namespace Wk
open PySem L2

structure TxtM (mg : Str → Option Value) : Prop where
  f_tuple : mg "tuple" = none
  f_zip : mg "zip" = none
  f_sum : mg "sum" = none
  f_range : mg "range" = none
  f_len : mg "len" = none
theorem yesT {σ : L2.St} {H : Hp} {A : Hp → Prop} {B : Hp → Prop} (h : A H) : tYes σ H fun b H3 => if b = true then A H3 else B H3 := by
  show if true = true then A H else B H
  rw [if_pos rfl]
  exact h
/-- a new tuple of ints -/
def NewRow (H : Hp) (r : List Int) (Q : VK) : Prop := ∀ p H', Same H H' → H' p = some (.tup (r.map V.int)) → Q (.ref p) H'
def spApplied (K : PySem.W.Frag) : Sp := fun vs H Q _ => ∃ (M : Int) (a b : Addr) (A : Mat) (r : List Int), vs = [.int M, .ref a, .ref b] ∧ 1 ≤ M ∧ MatAt K H a A ∧ RowAt K H b r ∧ MWd A ∧ RWd r ∧ A.length ≤ 1000 ∧ r.length ≤ 1000 ∧ (∀ l ∈ A, l.length = r.length) ∧ NewRow H (applyM M A r) Q
theorem rows_at {K : PySem.W.Frag} {H : Hp} {vs : List V} {A : Mat} (h : RowsAre K H vs A) {i : Nat} {x : V} (e : vs[i]? = some x) : ∃ (p : Addr) (l : List Int), x = .ref p ∧ A[i]? = some l ∧ RowAt K H p l := h.at_ e
theorem SqK.same {t : Bool} {K : PySem.W.Frag} {H H' : Hp} {a : Addr} {xs : List V} (h : ZM.SqK t K H a xs) (e : Same H H') : ZM.SqK t K H' a xs := by
  cases t
  · rcases h with (h | ⟨o, h⟩) | h
    · exact .inl (.inl (e _ _ h))
    · exact .inl (.inr ⟨o, e _ _ h⟩)
    · exact .inr h
  · exact SqT.same h e
theorem same_upd {H : Hp} {a : Addr} {o : HO} (h : H a = none) : Same H (upd H a o) := fun b u e => by
  rw [upd_ne (ne_of_none e h)]
  exact e
theorem at_ints {xs : List Int} {i : Nat} {v : V} (h : (xs.map V.int)[i]? = some v) : ∃ x, xs[i]? = some x ∧ v = .int x := by
  rw [List.getElem?_map] at h
  cases e : xs[i]? with
  | none => rw [e] at h; cases h
  | some x => rw [e] at h; cases h; exact ⟨x, rfl, rfl⟩
theorem wd_mul {x y : Int} (hx : Wd x) (hy : Wd y) : CMulW x y := wide_mul (a := 200) (b := 200) hx hy (by decide) (by decide) (by decide)
/-- a list whose items are told one by one -/
theorem acc_map {α : Type} {acc : List V} {as : List α} {f : α → V} (hl : acc.length = as.length) (h : ∀ (j : Nat) (v : V), acc[j]? = some v → ∃ a : α, as[j]? = some a ∧ v = f a) : acc = as.map f := by
  apply List.ext_getElem?
  intro j
  rw [List.getElem?_map]
  cases e : acc[j]? with
  | none =>
    rw [List.getElem?_eq_none_iff] at e
    rw [List.getElem?_eq_none (by omega)]
    rfl
  | some v =>
    obtain ⟨a, h1, h2⟩ := h j v e
    rw [h1, h2]
    rfl
theorem dot_read {K : PySem.W.Frag} {t u : Bool} {a b : Addr} {xs ys : List Int} {p q i j : Nat} {σ : L2.St} {H : Hp} {Q : VK} (hp : σ[p]? = some (some (.ref a))) (hq : σ[q]? = some (some (.ref b))) (sa : ZM.SqK t K H a (xs.map V.int)) (sb : ZM.SqK u K H b (ys.map V.int))
    (hl : xs.length = ys.length) (hn : xs.length ≤ 1000) (wx : RWd xs) (wy : RWd ys) (hw : ∀ x y, wipe (((wipe σ [i, j]).set i (some x)).set j (some y)) [i, j] = wipe σ [i, j]) (h1 : ∀ x y, (((wipe σ [i, j]).set i (some x)).set j (some y))[i]? = some (some x)) (h2 : ∀ x y, (((wipe σ [i, j]).set i (some x)).set j (some y))[j]? = some (some y))
    (k : ∀ H', Same H H' → Q (.int (dotZ xs ys)) H') :
    tCB (rSum K) (tCons (tLc (ZM.iZip2 t u K (tCons (tVar p) (tCons (tVar q) tNil))) (gTup K 2 (gCons (gName i) (gCons (gName j) gNil))) tYes (tOp (rI CMulW fun i j => V.int (i * j)) (tVar i) (tVar j)) [i, j]) tNil) σ H Q := by
  refine ⟨_, hp, _, hq, a, b, _, _, rfl, sa, sb, fun D hD => lc_rel (ZM.walk_two (n := xs.length) (by simp [hl])) hD (by omega) (fun m v _ => ∃ z, (List.zipWith (· * ·) xs ys)[m]? = some z ∧ v = .int z) (fun m v H H' h _ => h) (fun H1 e => ⟨SqK.same sa e, SqK.same sb e⟩) ?_ ?_⟩
  · rintro m v H1 H1' Fn Nn fin hm sm hacc ⟨T, x, y, rfl, hT, rfl, hx, hy⟩
    obtain ⟨x, gx, rfl⟩ := at_ints hx
    obtain ⟨y, gy, rfl⟩ := at_ints hy
    refine ⟨T, _, rfl, SqT.of upd_same, rfl, _, _, rfl, _, _, rfl, rfl, hw _ _, yesT ⟨_, h1 _ _, _, h2 _ _, x, y, rfl, rfl, wd_mul (wx _ (List.mem_of_getElem? gx)) (wy _ (List.mem_of_getElem? gy)), fin _ _ (same_upd hT) ⟨x * y, ?_, rfl⟩⟩⟩
    rw [List.getElem?_zipWith, gx, gy]
  · intro acc H1 e1 e2 sm hR
    have e : acc = (List.zipWith (· * ·) xs ys).map V.int := acc_map (by simp [e1, hl]) hR
    subst e
    exact ⟨D, _, rfl, SqL.of e2, k _ sm⟩
section
variable {P : Program} {w : World} {K : PySem.W.Frag} {mg : Str → Option Value} {base : Heap}
end
end Wk

namespace Wk
open PySem L2
def NewMat (K : PySem.W.Frag) (H : Hp) (A : Mat) (Q : VK) : Prop := ∀ p H', Same H H' → MatAt K H' p A → Q (.ref p) H'
theorem none_back {H H' : Hp} {p : Addr} (e : Same H H') (h : H' p = none) : H p = none := by
  cases z : H p with
  | none => rfl
  | some o => rw [e _ _ z] at h; cases h
theorem same_trans {H H' H2 : Hp} (a : Same H H') (b : Same H' H2) : Same H H2 := fun c o e => b _ _ (a _ _ e)
theorem rows_refs {K : PySem.W.Frag} {H : Hp} : ∀ {vs : List V} {A : Mat}, RowsAre K H vs A → ∃ ls : List Addr, vs = ls.map V.ref ∧ ls.length = A.length ∧ ∀ (k : Nat) (l : Addr) (r : List Int), ls[k]? = some l → A[k]? = some r → RowAt K H l r
  | _, _, .nil => ⟨[], rfl, rfl, fun k l r e => by simp at e⟩
  | _, _, .cons (a := a) h t => by
    obtain ⟨ls, e, hl, hh⟩ := rows_refs t
    refine ⟨a :: ls, by rw [e]; rfl, by simp [hl], fun k l r e1 e2 => ?_⟩
    cases k with
    | zero => cases e1; cases e2; exact h
    | succ k => exact hh k l r (by simpa using e1) (by simpa using e2)
theorem rows_of {K : PySem.W.Frag} {H : Hp} : ∀ {vs : List V} {A : Mat}, vs.length = A.length → (∀ (k : Nat) (v : V) (r : List Int), vs[k]? = some v → A[k]? = some r → ∃ l, v = .ref l ∧ RowAt K H l r) → RowsAre K H vs A
  | [], [], _, _ => .nil
  | [], _ :: _, h, _ => by simp at h
  | _ :: _, [], h, _ => by simp at h
  | v :: vs, r :: A, h, hh => by
    obtain ⟨l, rfl, hl⟩ := hh 0 v r rfl rfl
    exact .cons hl (rows_of (by simpa using h) fun k v' r' e1 e2 => hh (k + 1) v' r' (by simpa using e1) (by simpa using e2))
def spTrn (K : PySem.W.Frag) : Sp := fun vs H Q _ => ∃ (a : Addr) (B : Mat) (n : Nat), vs = [.ref a] ∧ MatAt K H a B ∧ 1 ≤ B.length ∧ B.length ≤ 8 ∧ 1 ≤ n ∧ n ≤ 1000 ∧ (∀ r ∈ B, r.length = n) ∧ NewMat K H (colsOf n B) Q
def spUnit : Sp := fun vs H Q _ => ∃ s p : Nat, vs = [.int (s : Int), .int (p : Int)] ∧ p < s ∧ s ≤ 1000 ∧ NewRow H (unitRow s p) Q
def spIdm (K : PySem.W.Frag) : Sp := fun vs H Q _ => ∃ s : Nat, vs = [.int (s : Int)] ∧ s ≤ 1000 ∧ NewMat K H (idM s) Q
def spProd (K : PySem.W.Frag) : Sp := fun vs H Q _ => ∃ (M : Int) (a b : Addr) (A B : Mat) (n : Nat), vs = [.int M, .ref a, .ref b] ∧ 1 ≤ M ∧ MatAt K H a A ∧ MatAt K H b B ∧ MWd A ∧ MWd B ∧ 1 ≤ B.length ∧ B.length ≤ 8 ∧ 1 ≤ n ∧ n ≤ 1000 ∧ A.length ≤ 1000 ∧ (∀ r ∈ B, r.length = n) ∧ (∀ r ∈ A, r.length = B.length) ∧
  NewMat K H (prodM M n A B) Q
theorem cols_len {n : Nat} {B : Mat} {c : List Int} (h : c ∈ colsOf n B) : c.length = B.length := by
  obtain ⟨j, _, rfl⟩ := List.mem_map.mp h
  simp
theorem cols_wd {n : Nat} {B : Mat} (h : MWd B) : MWd (colsOf n B) := by
  intro c hc x hx
  obtain ⟨j, _, rfl⟩ := List.mem_map.mp hc
  obtain ⟨r, hr, rfl⟩ := List.mem_map.mp hx
  rw [List.getD_eq_getElem?_getD]
  cases e : r[j]? with
  | none => exact (by decide : (0 : Int).natAbs < 2 ^ 200)
  | some y => exact h r hr y (List.mem_of_getElem? e)
/-- tuple * int of a tuple that stands in H -/
theorem rep_read {K : PySem.W.Frag} {H : Hp} {Q : VK} {l : Addr} {x : V} {k : Int} (hl : H l = some (.tup [x])) (h0 : -1000 ≤ k) (h1 : k ≤ 1000) (tail : ∀ q G, Same H G → G q = some (.tup (List.replicate k.toNat x)) → Q (.ref q) G) : rRepA K (.ref l) (.int k) H Q := by
  have e : ∀ n : Nat, (List.replicate n [x]).flatten = List.replicate n x := fun n => by
    induction n with
    | zero => rfl
    | succ n ih => rw [List.replicate_succ, List.flatten_cons, ih]; rfl
  refine ⟨l, k, [x], rfl, rfl, SqT.of hl, by simp, by omega, h1, (by show 1 ≤ 1000; decide), fun z => ?_, fun _ p hp => ?_⟩
  · subst z
    exact tail l H (fun _ _ e => e) hl
  · exact tail p _ (same_upd hp) (by rw [upd_same, e])
theorem cat_read {K : PySem.W.Frag} {H : Hp} {Q : VK} {a b : Addr} {xs ys : List V} (ha : H a = some (.tup xs)) (hb : H b = some (.tup ys)) (hn : xs.length + ys.length ≤ 1000000) (tail : ∀ q G, Same H G → G q = some (.tup (xs ++ ys)) → Q (.ref q) G) : rCatA K (.ref a) (.ref b) H Q := by
  refine ⟨a, b, xs, ys, rfl, rfl, SqT.of ha, SqT.of hb, Nat.le_trans hn (by decide), fun z => ?_, fun _ z => ?_, fun _ _ p hp => ?_⟩
  · subst z
    exact tail b H (fun _ _ e => e) hb
  · subst z
    exact tail a H (fun _ _ e => e) (by rw [ha]; simp)
  · exact tail p _ (same_upd hp) upd_same
theorem unit_eq (s p : Nat) (h : p < s) : (List.replicate p (V.int 0) ++ [V.int 1]) ++ List.replicate (s - p - 1) (V.int 0) = (unitRow s p).map V.int := by
  apply List.ext_getElem
  · simp [unitRow]
    omega
  · intro i h1 h2
    simp only [List.length_append, List.length_replicate, List.length_cons, List.length_nil] at h1
    simp only [unitRow, List.getElem_map, List.getElem_range]
    rcases Nat.lt_trichotomy i p with hi | hi | hi
    · rw [if_neg (by omega), List.getElem_append_left (by simp; omega), List.getElem_append_left (by simpa using hi)]
      simp
    · subst hi
      rw [if_pos rfl, List.getElem_append_left (by simp), List.getElem_append_right (by simp)]
      simp
    · rw [if_neg (by omega), List.getElem_append_right (by simp; omega)]
      simp
/-- tuple(rows), rows a list of new tuples -/
theorem tup_read {K : PySem.W.Frag} {H H' : Hp} {D : Addr} {acc : List V} {A : Mat} {Q : VK} (hD : H' D = some (.lst acc)) (hR : RowsAre K H' acc A) (sm : Same H H') (k : NewMat K H A Q) : rTupOf K [.ref D] H' Q := by
  refine ⟨D, acc, rfl, .inl ⟨SqL.of hD, fun p hp => ?_⟩⟩
  exact k p _ (same_trans sm (same_upd (none_back sm hp |> fun _ => hp))) ⟨acc, SqT.of upd_same, hR.same (same_upd hp)⟩
/-- a comprehension whose items are new rows -/
theorem lc_rows {K : PySem.W.Frag} {J : It} {n : Nat} {G : Hp → Prop} {Y : Nat → Hp → V → Hp → Prop} (w : Walk J n G Y) {g : TG} {tt : TT} {te : TE} {vs : List Nat} {σ : L2.St} {H1 : Hp} {D : Addr} {Qd : Hp → Prop} (hD : H1 D = none) (hn : n ≤ 1000000)
    (A : Mat) (hA : A.length = n) (hG : ∀ H, Same H1 H → G H)
    (hs : ∀ (i : Nat) (r : List Int) (x : V) (H H' : Hp) (Fn : V → Hp → Prop) (Nn : Hp → Prop), i < n → A[i]? = some r → (∀ p H4, Same H H4 → H4 p = some (.tup (r.map V.int)) → Fn (.ref p) H4) → Same H1 H → Y i H x H' → g x (wipe σ vs) H' fun σ2 H2 => wipe σ2 vs = wipe σ vs ∧ tt σ2 H2 fun b H3 => if b = true then te σ2 H3 Fn else Nn H3)
    (hd : ∀ (acc : List V) H, H D = some (.lst acc) → Same H1 H → RowsAre K H acc A → Qd H) :
    ∃ W : Nat → Nat → Hp → Prop, (∃ m, W 0 m (upd H1 D (.lst []))) ∧ ∀ i m H, W i m H →
      (J.stop i H ∧ Qd H) ∨ (J.go i H ∧ ∃ Nx : Hp → Prop, (∀ H', Nx H' → ∃ m', m' < m ∧ W (i + 1) m' H') ∧ ∀ x H', J.yld i H x H' → g x (wipe σ vs) H' fun σ2 H2 => wipe σ2 vs = wipe σ vs ∧ tt σ2 H2 fun b H3 =>
        if b = true then te σ2 H3 fun y H4 => ∃ acc, H4 D = some (.lst acc) ∧ acc.length < sizeLine ∧ Nx (upd H4 D (.lst (acc ++ [y]))) else Nx H3) := by
  refine lc_rel w hD hn (fun i v H => ∃ (p : Addr) (r : List Int), v = .ref p ∧ p ≠ D ∧ A[i]? = some r ∧ H p = some (.tup (r.map V.int))) (fun i v H H' ⟨p, r, h1, h2, h3, h4⟩ e => ⟨p, r, h1, h2, h3, e _ _ h2 h4⟩) hG ?_ ?_
  · intro i x H H' Fn Nn fin hi sm ⟨acc, hacc⟩ hy
    have hr : A[i]? = some (A[i]'(by omega)) := List.getElem?_eq_getElem (by omega)
    refine hs i _ x H H' Fn Nn hi hr (fun p H4 s4 h4 => fin _ _ s4 ⟨p, _, rfl, fun z => ?_, hr, h4⟩) sm hy
    rw [z, s4 _ _ hacc] at h4
    cases h4
  · intro acc H e1 e2 sm hR
    refine hd acc H e2 sm (rows_of (by rw [e1, hA]) fun k v r h1 h2 => ?_)
    obtain ⟨p, r2, rfl, _, h3, h4⟩ := hR k v h1
    rw [h2] at h3
    cases h3
    exact ⟨p, rfl, SqT.of h4⟩
section
variable {P : Program} {w : World} {K : PySem.W.Frag} {mg : Str → Option Value} {base : Heap}
end
end Wk

namespace NumI
/-- while rest != 0 (of inverse): N modulo M -/
structure EInv (N M last rest lf f : Int) : Prop where
  hl : 1 ≤ last
  hr : 0 ≤ rest
  gcd : Int.gcd last rest = Int.gcd N M
  cl : ∃ k, lf * N = last + M * k
  cf : ∃ k, f * N = rest + M * k
  sg : (0 ≤ lf ∧ f ≤ 0) ∨ (lf ≤ 0 ∧ 0 ≤ f)
  sz : (lf.natAbs : Int) * rest + (f.natAbs : Int) * last = M
theorem EInv.start {N M : Int} (h : 2 ≤ M) : EInv N M M (N % M) 0 1 := by
  refine ⟨by omega, Int.emod_nonneg _ (by omega), ?_, ⟨-1, by grind⟩, ⟨N / M, ?_⟩, .inr ⟨by omega, by omega⟩, by simp⟩
  · have e : N % M = N - (N / M) * M := by
      have := Int.emod_add_ediv_mul N M
      omega
    rw [e, Int.gcd_sub_mul_right_right, Int.gcd_comm]
  · have := Int.emod_add_mul_ediv N M
    omega
theorem EInv.f_le {N M last rest lf f : Int} (h : EInv N M last rest lf f) : (f.natAbs : Int) ≤ M ∧ last ≤ M ∨ f = 0 := by
  have h1 : 0 ≤ (lf.natAbs : Int) * rest := Int.mul_nonneg (by omega) h.hr
  have h2 := h.sz
  have h3 := h.hl
  by_cases e : f = 0
  · exact .inr e
  · refine .inl ⟨?_, ?_⟩
    · have : (f.natAbs : Int) * 1 ≤ (f.natAbs : Int) * last := Int.mul_le_mul_of_nonneg_left h3 (by omega)
      omega
    · have : 1 * last ≤ (f.natAbs : Int) * last := Int.mul_le_mul_of_nonneg_right (by omega) (by omega)
      omega
/-- the step of times -/
theorem EInv.step {N M last rest lf f : Int} (h : EInv N M last rest lf f) (h0 : rest ≠ 0) :
    EInv N M rest (last - last / rest * rest) f (lf - last / rest * f) ∧ last - last / rest * rest < rest ∧ 0 ≤ last - last / rest * rest ∧ 0 ≤ last / rest ∧ last / rest ≤ last := by
  have hr := h.hr
  have hl := h.hl
  have ht : 0 ≤ last / rest := Int.ediv_nonneg (by omega) hr
  have e : last - last / rest * rest = last % rest := by
    have := Int.emod_add_ediv_mul last rest
    omega
  have hlt : last % rest < rest := Int.emod_lt_of_pos _ (by omega)
  have hge : 0 ≤ last % rest := Int.emod_nonneg _ (by omega)
  have htl : last / rest ≤ last := Int.ediv_le_self _ (by omega)
  have hsz := h.sz
  obtain ⟨k1, c1⟩ := h.cl
  obtain ⟨k2, c2⟩ := h.cf
  have hsg := h.sg
  have hg := h.gcd
  have e2 := e
  generalize last / rest = t at *
  have key : ((lf - t * f).natAbs : Int) = lf.natAbs + t * f.natAbs := by
    rcases hsg with ⟨a, b⟩ | ⟨a, b⟩
    · have : t * f ≤ 0 := Int.mul_nonpos_of_nonneg_of_nonpos ht b
      have e1 : ((lf - t * f).natAbs : Int) = lf - t * f := by omega
      have e2 : (lf.natAbs : Int) = lf := by omega
      have e3 : (f.natAbs : Int) = - f := by omega
      rw [e1, e2, e3]; grind
    · have : 0 ≤ t * f := Int.mul_nonneg ht b
      have e1 : ((lf - t * f).natAbs : Int) = - (lf - t * f) := by omega
      have e2 : (lf.natAbs : Int) = - lf := by omega
      have e3 : (f.natAbs : Int) = f := by omega
      rw [e1, e2, e3]; grind
  refine ⟨⟨by omega, by omega, ?_, ⟨k2, c2⟩, ⟨k1 - t * k2, by grind⟩, ?_, ?_⟩, by omega, by omega, ht, htl⟩
  · rw [Int.gcd_sub_mul_right_right, Int.gcd_comm, hg]
  · rcases hsg with ⟨a, b⟩ | ⟨a, b⟩
    · have : t * f ≤ 0 := Int.mul_nonpos_of_nonneg_of_nonpos ht b
      exact .inr ⟨b, by omega⟩
    · have : 0 ≤ t * f := Int.mul_nonneg ht b
      exact .inl ⟨b, by omega⟩
  · rw [key]; grind
/-- what is handed back -/
structure InvOf (N M x : Int) : Prop where
  lo : 1 ≤ x
  hi : x < M
  one : x * N % M = 1
theorem EInv.done1 {N M last lf f : Int} (hM : 2 ≤ M) (h : EInv N M last 0 lf f) (h1 : last = 1) : Int.gcd N M = 1 ∧ InvOf N M (lf % M) := by
  have hg := h.gcd
  subst h1
  obtain ⟨k, c⟩ := h.cl
  have ho : lf % M * N % M = 1 := by
    have e : lf % M = lf - M * (lf / M) := by
      have := Int.emod_add_mul_ediv lf M
      omega
    have e2 : lf % M * N = 1 + M * (k - lf / M * N) := by rw [e]; grind
    rw [e2, Int.add_mul_emod_self_left]
    exact Int.emod_eq_of_lt (by omega) (by omega)
  refine ⟨by rw [← hg]; simp, ?_, Int.emod_lt_of_pos _ (by omega), ho⟩
  have h0 := Int.emod_nonneg lf (show M ≠ 0 by omega)
  by_cases z : lf % M = 0
  · rw [z] at ho
    simp at ho
  · omega
theorem EInv.done2 {N M last lf f : Int} (h : EInv N M last 0 lf f) (h1 : last ≠ 1) : Int.gcd N M ≠ 1 := by
  have hg := h.gcd
  have := h.hl
  rw [← hg]
  simp
  omega
end NumI

namespace Wk
open PySem L2 NumI
abbrev s_bezout : Stmt := top 2
theorem sc_bezout : FnScope ["one", "other", "last", "rest", "last_factor", "factor", "times"] ["one", "other"] (defScope s_bezout) := ⟨rfl, rfl, rfl, by decide +kernel, rfl, by decide +kernel, by decide +kernel⟩
abbrev s_multiple : Stmt := top 3
theorem sc_multiple : FnScope ["modulus", "factor", "row", "number"] ["modulus", "factor", "row"] (defScope s_multiple) := ⟨rfl, rfl, rfl, by decide +kernel, rfl, by decide +kernel, by decide +kernel⟩
abbrev s_combined : Stmt := top 4
theorem sc_combined : FnScope ["modulus", "factor", "row", "other_factor", "other", "a", "b"] ["modulus", "factor", "row", "other_factor", "other"] (defScope s_combined) := ⟨rfl, rfl, rfl, by decide +kernel, rfl, by decide +kernel, by decide +kernel⟩
abbrev s_Stairs_init : Stmt := inClass (top 5) 0
theorem sc_Stairs_init : FnScope ["self", "modulus", "places"] ["self", "modulus", "places"] (defScope s_Stairs_init) := ⟨rfl, rfl, rfl, by decide +kernel, rfl, by decide +kernel, by decide +kernel⟩
abbrev s_Stairs_put : Stmt := inClass (top 5) 1
theorem sc_Stairs_put : FnScope ["self", "row", "place"] ["self", "row"] (defScope s_Stairs_put) := ⟨rfl, rfl, rfl, by decide +kernel, rfl, by decide +kernel, by decide +kernel⟩
abbrev s_Stairs_put_at : Stmt := inClass (top 5) 2
theorem sc_Stairs_put_at : FnScope ["self", "place", "row", "modulus", "step", "number", "common", "_", "factor", "pivot", "step_factor"] ["self", "place", "row"] (defScope s_Stairs_put_at) := ⟨rfl, rfl, rfl, by decide +kernel, rfl, by decide +kernel, by decide +kernel⟩
abbrev s_Stairs_settled : Stmt := inClass (top 5) 4
theorem sc_Stairs_settled : FnScope ["self", "lessened", "place", "row", "lower", "step", "_"] ["self"] (defScope s_Stairs_settled) := ⟨rfl, rfl, rfl, by decide +kernel, rfl, by decide +kernel, by decide +kernel⟩
abbrev s_Stairs_rest_of : Stmt := inClass (top 5) 3
theorem sc_Stairs_rest_of : FnScope ["self", "row"] ["self", "row"] (defScope s_Stairs_rest_of) := ⟨rfl, rfl, rfl, by decide +kernel, rfl, by decide +kernel, by decide +kernel⟩

def spBez : Sp := fun vs H Q _ => ∃ a b : Int, vs = [.int a, .int b] ∧ 1 ≤ a ∧ 1 ≤ b ∧ a < 2 ^ 64 ∧ b < 2 ^ 64 ∧
  ∀ (g lf f : Int) (t : Addr) (H' : Hp), (g = (Int.gcd a b : Int)) → 1 ≤ g → lf * a + f * b = g → Wd lf → Wd f → Same H H' → H' t = some (.tup [.int g, .int lf, .int f]) → Q (.ref t) H'
def NewLst (H : Hp) (r : List Int) (Q : VK) : Prop := ∀ p H', Same H H' → H p = none → H' p = some (.lst (r.map V.int)) → Q (.ref p) H'
def spMul (K : PySem.W.Frag) : Sp := fun vs H Q _ => ∃ (M f : Int) (b : Addr) (r : List Int), vs = [.int M, .int f, .ref b] ∧ 1 ≤ M ∧ Wd f ∧ H b = some (.lst (r.map V.int)) ∧ RWd r ∧ r.length ≤ 1000 ∧ NewLst H (mulRow M f r) Q
def spComb (K : PySem.W.Frag) : Sp := fun vs H Q _ => ∃ (M f g : Int) (b c : Addr) (r s : List Int), vs = [.int M, .int f, .ref b, .int g, .ref c] ∧ 1 ≤ M ∧ Wd f ∧ Wd g ∧ H b = some (.lst (r.map V.int)) ∧ H c = some (.lst (s.map V.int)) ∧ RWd r ∧ RWd s ∧ r.length = s.length ∧ r.length ≤ 1000 ∧ NewLst H (comb M f r g s) Q
def mu3s (σ : L2.St) : Nat := match σ[3]? with
  | some (some (V.int y)) => y.toNat
  | _ => 0
theorem bez_last {a b last lf f : Int} (I : EInv a b last 0 lf f) (ha : 1 ≤ a) (hb : 1 ≤ b) (h1 : (lf.natAbs : Int) ≤ b) : lf * a + (last - lf * a) / b * b = last ∧ (((last - lf * a) / b).natAbs : Int) ≤ 2 * a := by
  obtain ⟨k, hk⟩ := I.cl
  have hg := I.gcd
  have hl := I.hl
  have e1 : last - lf * a = b * (-k) := by grind
  have e2 : (last - lf * a) / b = -k := by
    rw [e1]
    exact Int.mul_ediv_cancel_left _ (by omega)
  rw [e2]
  refine ⟨by grind, ?_⟩
  have hla : last ≤ a := by
    have h2 : Int.gcd last 0 = last.natAbs := Int.gcd_zero_right _
    have h3 : Int.gcd a b ≤ a.natAbs := Nat.gcd_le_left _ (by omega)
    omega
  have h4 : b * (k.natAbs : Int) ≤ last + b * a := by
    have h5 : ((b * (-k)).natAbs : Int) = b * (k.natAbs : Int) := by
      rw [Int.natAbs_mul, Int.natAbs_neg]
      have : (b.natAbs : Int) = b := by omega
      rw [Int.natCast_mul, this]
    rw [← h5, ← e1]
    have h6 : ((lf * a).natAbs : Int) ≤ b * a := by
      rw [Int.natAbs_mul, Int.natCast_mul]
      have : (a.natAbs : Int) = a := by omega
      rw [this]
      exact Int.mul_le_mul_of_nonneg_right h1 (by omega)
    omega
  rw [Int.natAbs_neg]
  have h7 : last ≤ b * last := by
    have : 1 * last ≤ b * last := Int.mul_le_mul_of_nonneg_right hb (by omega)
    omega
  have h8 : b * (k.natAbs : Int) ≤ b * (last + a) := by
    rw [Int.mul_add]
    omega
  have h9 : (k.natAbs : Int) ≤ last + a := Int.le_of_mul_le_mul_left h8 (by omega)
  omega
section
variable {P : Program} {w : World} {K : PySem.W.Frag} {mg : Str → Option Value} {base : Heap}
theorem ok_bezout {f : Addr} {fd : FuncData} (F : Fun K "bezout" "bezout" s_bezout f fd) : FnOk P w K mg base CX0 1 f fd ["one", "other"] spBez := by
  refine F.ok sc_bezout (fun vs H Q E h => ?_) (fun cdv A outer s H vs Q E hr h => ?_)
  · obtain ⟨a, b, rfl, _⟩ := h
    rfl
  · obtain ⟨n, m, rfl, hn, hm, zn, zm, k⟩ := h
    refine ⟨_, (pss_cons (ps_par (i := 2) (j := 3) rfl sc_bezout.nd rfl rfl (by decide) rfl rfl (pa_cons (pv 0) (pa_cons (pv 1) pa_nil)) (by rfl))
        (pss_cons (ps_asg (pe_tup (pa_cons pe_int (pa_cons pe_int pa_nil))) (pg_tup rfl (pgs_cons (pg_name (i := 4) sc_bezout.nd rfl (Or.inl rfl)) (pgs_cons (pg_name (i := 5) sc_bezout.nd rfl (Or.inl rfl)) pgs_nil))))
        (pss_cons (ps_while PassesOwn.never (pt_cmpR op_ne (pv 3) pe_int (nomark _)) (pss_cons (ps_set (i := 6) sc_bezout.nd rfl (Or.inl rfl) (pe_op op_fdivW (pv 2) (pv 3)))
        (pss_cons (ps_par (i := 2) (j := 3) rfl sc_bezout.nd rfl rfl (by decide) rfl rfl (pa_cons (pv 3) (pa_cons (pe_op op_sub (pv 2) (pe_op op_mulW (pv 6) (pv 3))) pa_nil)) (by rfl))
        (pss_one (ps_par (i := 4) (j := 5) rfl sc_bezout.nd rfl rfl (by decide) rfl rfl (pa_cons (pv 5) (pa_cons (pe_op op_sub (pv 4) (pe_op op_mulW (pv 6) (pv 5))) pa_nil)) (by rfl))))))
        (pss_one (ps_ret (pe_tup (pa_cons (pv 2) (pa_cons (pv 4) (pa_cons (pe_op op_fdivW (pe_op op_sub (pv 2) (pe_op op_mulW (pv 4) (pv 0))) (pv 1)) pa_nil))))))))), ?_⟩
    have sm : ∀ {x : Int}, (x.natAbs : Int) ≤ 2 * m → x.natAbs < 2 ^ 200 := fun h => by omega
    have sn : ∀ {x : Int}, (x.natAbs : Int) ≤ 2 * n → x.natAbs < 2 ^ 200 := fun h => by omega
    have wm : ∀ {x y : Int}, x.natAbs < 2 ^ 200 → y.natAbs < 2 ^ 200 → CMulW x y := fun a b => wide_mul a b (by decide) (by decide) (by decide)
    refine ⟨_, rfl, _, rfl, _, _, rfl, (by show 2 ≤ sizeLine; decide), fun t ht => ⟨t, _, rfl, SqT.of upd_same, rfl, _, _, rfl, _, _, rfl, rfl, ?_⟩⟩
    have sH : Same H (upd H t (.tup [.int 1, .int 0])) := same_upd ht
    obtain ⟨G, hG⟩ : ∃ G, G = upd H t (.tup [.int 1, .int 0]) := ⟨_, rfl⟩
    rw [← hG] at sH ⊢
    refine while_by (fun σ H' => ∃ (l r lf f : Int) (t : Option V), σ = [some (.int n), some (.int m), some (.int l), some (.int r), some (.int lf), some (.int f), t] ∧ H' = G ∧ EInv n m l r lf f ∧ (lf.natAbs : Int) ≤ m ∧ (f.natAbs : Int) ≤ m ∧ l ≤ n + m ∧ r ≤ n + m)
      (fun σ _ => mu3s σ) ?_ ?_ (fun σ H Q Q' hq ⟨v, hv, sc, k, e, q⟩ => ⟨v, hv, sc, k, e, hq _ _ q⟩)
    · refine ⟨n, m, 1, 0, none, rfl, rfl, ⟨hn, by omega, rfl, ⟨0, by omega⟩, ⟨-1, by omega⟩, .inl ⟨by omega, by omega⟩, by simp⟩, by show ((1 : Int).natAbs : Int) ≤ m; simp; omega, by show ((0 : Int).natAbs : Int) ≤ m; simp; omega, by omega, by omega⟩
    · rintro σ H' ⟨l, r, lf, f, t2, rfl, rfl, I, b1, b2, b3, b4⟩
      have hl := I.hl
      have hr0 := I.hr
      refine ⟨_, rfl, rfl, _, rfl, ?_⟩
      by_cases hz : r = 0
      · subst hz
        refine iteNS rfl ?_
        obtain ⟨z1, z2⟩ := bez_last I hn hm b1
        refine ⟨_, rfl, _, rfl, _, rfl, _, rfl, _, rfl, _, _, rfl, rfl, wm (sm (by omega)) (sn (by omega)), _, _, rfl, rfl, _, rfl, _, _, rfl, rfl, wide_div (b := 200) (by omega) (sm (by omega)) (by decide) (by decide), (by show 3 ≤ sizeLine; decide), fun p hp => ?_⟩
        refine k l lf _ p _ ?_ hl z1 (sm (by omega)) (sn z2) (same_trans sH (same_upd hp)) upd_same
        have := I.gcd
        rw [← this, Int.gcd_zero_right]
        omega
      · have e3 : (!decide (V.int r = V.int 0)) = true := by
          have : ¬ V.int r = V.int 0 := fun z => hz (by injection z)
          simp [this]
        rw [e3]
        refine iteT ?_
        obtain ⟨I2, c1, c2, c3, c4⟩ := I.step hz
        have g3 := I2.f_le
        have g4 : ((lf - l / r * f).natAbs : Int) ≤ m := by
          rcases g3 with g3 | g3
          · exact g3.1
          · rw [g3]
            simp
            omega
        have b5 : r.natAbs < 2 ^ 200 := by omega
        refine ⟨_, rfl, _, rfl, _, _, rfl, rfl, wide_div (b := 200) (by omega) b5 (by decide) (by decide), ?_⟩
        refine ⟨_, rfl, _, rfl, _, rfl, _, rfl, _, _, rfl, rfl, wm (by omega) b5, _, _, rfl, rfl, _, _, rfl, ?_⟩
        refine ⟨_, rfl, _, rfl, _, rfl, _, rfl, _, _, rfl, rfl, wm (by omega) (sm (by omega)), _, _, rfl, rfl, _, _, rfl, ?_⟩
        refine ⟨⟨r, l - l / r * r, f, lf - l / r * f, _, rfl, rfl, I2, b2, g4, b4, by omega⟩, ?_⟩
        show (l - l / r * r).toNat < r.toNat
        omega
theorem ok_multiple {f : Addr} {fd : FuncData} (F : Fun K "multiple" "multiple" s_multiple f fd) : FnOk P w K mg base CX0 1 f fd ["modulus", "factor", "row"] (spMul K) := by
  refine F.ok sc_multiple (fun vs H Q E h => ?_) (fun cdv A outer s H vs Q E hr h => ?_)
  · obtain ⟨M, f, b, r, rfl, _⟩ := h
    rfl
  · obtain ⟨M, f, b, r, rfl, hM, wf, hb, wr, lr, k⟩ := h
    refine ⟨_, (pss_one (ps_ret (pe_lc (own := [("number", 3)]) (g := gName 3) rfl sc_multiple.nd (pi_list (pv 2)) (blkOk_by (N := ["modulus", "factor", "row", "number"]) (sc := defScope s_multiple) (by decide +kernel)) (fun _ _ _ _ _ => (pg_name (i := 3) sc_multiple.nd rfl (Or.inl rfl))) (fun _ _ _ _ _ => pts_nil) (fun _ _ _ _ _ => (pe_op op_modN (pe_op op_mulW (pv 1) (pv 3)) (pv 0)))))), ?_⟩
    refine ⟨_, rfl, b, rfl, ⟨_, SqL.of hb⟩, fun D hD => lc_rel (walk_list (xs := r.map V.int)) hD (by simp; omega) (fun i v _ => ∃ x, r[i]? = some x ∧ v = .int (f * x % M)) (fun i v H H' h _ => h) (fun H1 e => SqL.of (e _ _ hb)) ?_ ?_⟩
    · intro i x H1 H1' Fn Nn fin hi sm hacc hy
      obtain ⟨rfl, hx⟩ := hy
      obtain ⟨x, gx, rfl⟩ := at_ints hx
      refine ⟨rfl, yesT ⟨_, rfl, _, rfl, _, _, rfl, rfl, wd_mul wf (wr _ (List.mem_of_getElem? gx)), _, rfl, _, _, rfl, rfl, by omega, ?_⟩⟩
      dsimp only
      rw [Int.fmod_eq_emod_of_nonneg _ (by omega)]
      exact fin _ _ (fun _ _ e => e) ⟨x, gx, rfl⟩
    · intro acc H1 e1 e2 sm hR
      have e : acc = r.map fun x => V.int (f * x % M) := acc_map (by simpa using e1) hR
      refine k D H1 sm hD ?_
      rw [e2, e]
      simp [mulRow, Function.comp_def]
theorem ok_combined {f : Addr} {fd : FuncData} (F : Fun K "combined" "combined" s_combined f fd) (T : TxtM mg) : FnOk P w K mg base CX0 1 f fd ["modulus", "factor", "row", "other_factor", "other"] (spComb K) := by
  refine F.ok sc_combined (fun vs H Q E h => ?_) (fun cdv A outer s H vs Q E hr h => ?_)
  · obtain ⟨M, f, g, b, c, r, s, rfl, _⟩ := h
    rfl
  · obtain ⟨M, f, g, b, c, r, s2, rfl, hM, wf, wg, hb, hc, wr, ws, ll, lr, k⟩ := h
    refine ⟨_, (pss_one (ps_ret (pe_lc (own := [("a", 5), ("b", 6)]) (g := gTup K 2 (gCons (gName 5) (gCons (gName 6) gNil))) rfl sc_combined.nd (pi_zip2K (K := K) rfl false false rfl T.f_zip (pa_cons (pv 2) (pa_cons (pv 4) pa_nil))) (blkOk_by (N := ["modulus", "factor", "row", "other_factor", "other", "a", "b"]) (sc := defScope s_combined) (by decide +kernel)) (fun _ _ _ _ _ => (pg_tupK rfl rfl (pgs_cons (pg_name (i := 5) sc_combined.nd rfl (Or.inl rfl)) (pgs_cons (pg_name (i := 6) sc_combined.nd rfl (Or.inl rfl)) pgs_nil)))) (fun _ _ _ _ _ => pts_nil) (fun _ _ _ _ _ => (pe_op op_modN (pe_op op_add (pe_op op_mulW (pv 1) (pv 5)) (pe_op op_mulW (pv 3) (pv 6))) (pv 0)))))), ?_⟩
    refine ⟨_, rfl, _, rfl, b, c, _, _, rfl, SqL.of hb, SqL.of hc, fun D hD => lc_rel (ZM.walk_two (n := r.length) (by simp [ll])) hD (by omega) (fun i v _ => ∃ z, (List.zipWith (fun a b => (f * a + g * b) % M) r s2)[i]? = some z ∧ v = .int z) (fun i v H H' h _ => h) (fun H1 e => ⟨SqL.of (e _ _ hb), SqL.of (e _ _ hc)⟩) ?_ ?_⟩
    · rintro i v H1 H1' Fn Nn fin hi sm hacc ⟨T, x, y, rfl, hT, rfl, hx, hy⟩
      obtain ⟨x, gx, rfl⟩ := at_ints hx
      obtain ⟨y, gy, rfl⟩ := at_ints hy
      refine ⟨T, _, rfl, SqT.of upd_same, rfl, _, _, rfl, _, _, rfl, rfl, rfl, yesT ⟨_, rfl, _, rfl, _, _, rfl, rfl, wd_mul wf (wr _ (List.mem_of_getElem? gx)), _, rfl, _, rfl, _, _, rfl, rfl, wd_mul wg (ws _ (List.mem_of_getElem? gy)), _, _, rfl, rfl, _, rfl, _, _, rfl, rfl, by omega, ?_⟩⟩
      dsimp only
      rw [Int.fmod_eq_emod_of_nonneg _ (by omega)]
      refine fin _ _ (same_upd hT) ⟨_, ?_, rfl⟩
      rw [List.getElem?_zipWith, gx, gy]
    · intro acc H1 e1 e2 sm hR
      have e : acc = (comb M f r g s2).map V.int := acc_map (by simp [comb, e1, ll]) hR
      exact k D H1 sm hD (by rw [e2, e])
end
end Wk

namespace Wk
open PySem L2 NumI
/-! ### the stairs as an object -/
theorem kms : ¬ (Str.ofString "modulus" = Str.ofString "steps") := by decide +kernel
def flS (M : Int) (l : Addr) : List (Str × V) := putF "steps" (.ref l) (putF "modulus" (.int M) [])
theorem flS_m (M : Int) (l : Addr) : (flS M l).lookup ("modulus" : Str) = some (V.int M) := by
  unfold flS
  rw [lookup_putF, if_neg kms, lookup_putF, if_pos rfl]
theorem flS_s (M : Int) (l : Addr) : (flS M l).lookup ("steps" : Str) = some (V.ref l) := by
  unfold flS
  rw [lookup_putF, if_pos rfl]
theorem flS_no (M : Int) (l : Addr) {m : Str} (h1 : ¬ m = "modulus") (h2 : ¬ m = "steps") : (flS M l).lookup m = none := by
  unfold flS
  rw [lookup_putF, if_neg h2, lookup_putF, if_neg h1]
  rfl
structure TxtS (K : PySem.W.Frag) (mg : Str → Option Value) (C fI fP fA fS : Addr) : Prop where
  cl : Cls K C
  nM : NoAttr K C "modulus"
  nS : NoAttr K C "steps"
  mgC : mg "Stairs" = some (.ref C)
  mkr : Mk K C fI
  m_put : Meth K C "put" fP
  m_put_at : Meth K C "put_at" fA
  m_settled : Meth K C "settled" fS
  f_tuple : mg "tuple" = none
  f_range : mg "range" = none
  f_len : mg "len" = none
  f_reversed : mg "reversed" = none
  f_list : mg "list" = none
  f_enumerate : mg "enumerate" = none
/-- the steps' list holds None or a list of ints at each place -/
inductive StepsAre (l : Addr) (H : Hp) : List V → List (Option Row) → Prop
  | nil : StepsAre l H [] []
  | no {vs : List V} {S : List (Option Row)} : StepsAre l H vs S → StepsAre l H (.non :: vs) (none :: S)
  | yes {a : Addr} {r : Row} {vs : List V} {S : List (Option Row)} : a ≠ l → H a = some (.lst (r.map V.int)) → StepsAre l H vs S → StepsAre l H (.ref a :: vs) (some r :: S)
theorem StepsAre.length {l : Addr} {H : Hp} : ∀ {vs : List V} {S : List (Option Row)}, StepsAre l H vs S → vs.length = S.length
  | _, _, .nil => rfl
  | _, _, .no h => by simp [h.length]
  | _, _, .yes _ _ h => by simp [h.length]
theorem StepsAre.mono {l : Addr} {H H' : Hp} (e : But l H H') : ∀ {vs : List V} {S : List (Option Row)}, StepsAre l H vs S → StepsAre l H' vs S
  | _, _, .nil => .nil
  | _, _, .no h => .no (h.mono e)
  | _, _, .yes a b h => .yes a (e _ _ a b) (h.mono e)
theorem StepsAre.at_ {l : Addr} {H : Hp} : ∀ {vs : List V} {S : List (Option Row)}, StepsAre l H vs S → ∀ {i : Nat} {o : Option Row}, S[i]? = some o → (o = none ∧ vs[i]? = some .non) ∨ ∃ a r, o = some r ∧ vs[i]? = some (.ref a) ∧ a ≠ l ∧ H a = some (.lst (r.map V.int))
  | _, _, .nil, i, o, h => by simp at h
  | _, _, .no h, 0, o, e => by cases e; exact .inl ⟨rfl, rfl⟩
  | _, _, .yes a b h, 0, o, e => by cases e; exact .inr ⟨_, _, rfl, rfl, a, b⟩
  | _, _, .no h, i + 1, o, e => h.at_ (i := i) (by simpa using e)
  | _, _, .yes _ _ h, i + 1, o, e => h.at_ (i := i) (by simpa using e)
theorem StepsAre.set {l a : Addr} {H : Hp} {r : Row} (n : a ≠ l) (ha : H a = some (.lst (r.map V.int))) : ∀ {vs : List V} {S : List (Option Row)} (i : Nat), StepsAre l H vs S → StepsAre l H (vs.set i (.ref a)) (S.set i (some r))
  | _, _, _, .nil => .nil
  | _, _, 0, .no h => .yes n ha h
  | _, _, 0, .yes _ _ h => .yes n ha h
  | _, _, i + 1, .no h => .no (h.set n ha i)
  | _, _, i + 1, .yes p q h => .yes p q (h.set n ha i)
theorem StepsAre.nones (l : Addr) (H : Hp) : ∀ n : Nat, StepsAre l H (List.replicate n .non) (List.replicate n none)
  | 0 => .nil
  | n + 1 => .no (StepsAre.nones l H n)
def StAt (C : Addr) (H : Hp) (p l : Addr) (M : Int) (S : List (Option Row)) : Prop := (∃ dx, H p = some (.ins C dx (flS M l))) ∧ ∃ vs, H l = some (.lst vs) ∧ StepsAre l H vs S
theorem StAt.same {C : Addr} {H H' : Hp} {p l : Addr} {M : Int} {S : List (Option Row)} (h : StAt C H p l M S) (e : Same H H') : StAt C H' p l M S := by
  obtain ⟨⟨dx, h1⟩, vs, h2, h3⟩ := h
  exact ⟨⟨dx, e _ _ h1⟩, vs, e _ _ h2, h3.mono fun b o _ q => e b o q⟩
def spPutAt (C : Addr) : Sp := fun vs H Q _ => ∃ (p l b : Addr) (i : Nat) (M N : Int) (W n : Nat) (S : List (Option Row)) (r : Row), vs = [.ref p, .int (i : Int), .ref b] ∧ StAt C H p l M S ∧ 2 ≤ M ∧ M < 2 ^ 64 ∧ W ≤ 1000 ∧ WF M W n S ∧ i < n ∧ r.length = W ∧ RRed M r ∧ r[i]? = some N ∧ 1 ≤ N ∧
  H b = some (.lst (r.map V.int)) ∧ b ≠ l ∧ ∀ (S' : List (Option Row)) (r' : Row) (b' : Addr) (H' : Hp), PutStep M i S r N S' r' → But l H H' → StAt C H' p l M S' → H' b' = some (.lst (r'.map V.int)) → b' ≠ l → Q (.ref b') H'
theorem ix_at {n j : Nat} (h : j < n) : ixN n (j : Int) = some j := by
  unfold ixN
  rw [if_pos (by omega), if_pos (by omega), Int.toNat_natCast]
theorem zdiv_wd {a b : Int} (ha : 0 ≤ a) (hb : 0 ≤ b) (h : a < 2 ^ 64) : Wd (a / b) ∧ Wd (-(a / b)) := by
  have := Int.ediv_le_self b ha
  have := Int.ediv_nonneg ha hb
  constructor <;> (show Int.natAbs _ < 2 ^ 200; omega)
theorem rred_wd {M : Int} {r : Row} (h : RRed M r) (hM : M < 2 ^ 64) : RWd r := fun x hx => by
  have := h x hx
  show x.natAbs < 2 ^ 200
  omega
section
variable {P : Program} {w : World} {K : PySem.W.Frag} {mg : Str → Option Value} {base : Heap} {C fI fP fA fS : Addr}
theorem ok_put_at {f fB fM fC : Addr} {fd fdB fdM fdC : FuncData} (F : Fun K "put_at" "Stairs.put_at" s_Stairs_put_at f fd) (T : TxtS K mg C fI fP fA fS)
    (G_bezout : FnOk P w K mg base CX0 1 fB fdB ["one", "other"] spBez) (g_bezout : mg "bezout" = some (.ref fB)) (kp_bezout : PySem.W.keepIn K (.ref fB) = true) (b_bezout : Binds K fdB ["one", "other"] [])
    (G_multiple : FnOk P w K mg base CX0 1 fM fdM ["modulus", "factor", "row"] (spMul K)) (g_multiple : mg "multiple" = some (.ref fM)) (kp_multiple : PySem.W.keepIn K (.ref fM) = true) (b_multiple : Binds K fdM ["modulus", "factor", "row"] [])
    (G_combined : FnOk P w K mg base CX0 1 fC fdC ["modulus", "factor", "row", "other_factor", "other"] (spComb K)) (g_combined : mg "combined" = some (.ref fC)) (kp_combined : PySem.W.keepIn K (.ref fC) = true) (b_combined : Binds K fdC ["modulus", "factor", "row", "other_factor", "other"] []) :
    FnOk P w K mg base CX0 2 f fd ["self", "place", "row"] (spPutAt C) := by
  refine F.ok sc_Stairs_put_at (fun vs H Q E h => ?_) (fun cdv A outer s H vs Q E hr h => ?_)
  · obtain ⟨p, l, b, i, M, N, W, n, S, r, rfl, _⟩ := h
    rfl
  · obtain ⟨p, l, b, i, M, N, W, n, S, r, rfl, ⟨⟨dx, hp⟩, vs, hl, hS⟩, hM, hM2, hW, wf, hi, hrl, hrr, hN, hN1, hb, hbl, k⟩ := h
    refine ⟨_, (pss_cons (ps_par3 (i := 3) (j := 4) (l := 5) rfl sc_Stairs_put_at.nd rfl rfl rfl (by decide) (by decide) (by decide) rfl rfl rfl (pa_cons (pe_fld (pv 0) rfl) (pa_cons (pe_ix ix_list (pe_fld (pv 0) rfl) (pv 1) (fun _ _ => rfl)) (pa_cons (pe_ix ix_list (pv 2) (pv 1) (fun _ _ => rfl)) pa_nil))) (by rfl))
        (pss_cons (ps_if (pt_cmpR op_isN (pv 4) pe_non (nomark _)) (pss_cons (ps_asg (pe_call G_bezout (hr.mono (by decide)) rfl g_bezout kp_bezout b_bezout .nil pass0 (pa_cons (pv 3) (pa_cons (pv 5) pa_nil))) (pg_tup rfl (pgs_cons (pg_name (i := 6) sc_Stairs_put_at.nd rfl (Or.inl rfl)) (pgs_cons (pg_name (i := 7) sc_Stairs_put_at.nd rfl (Or.inl rfl)) (pgs_cons (pg_name (i := 8) sc_Stairs_put_at.nd rfl (Or.inl rfl)) pgs_nil)))))
        (pss_cons (ps_asg (pe_call G_multiple (hr.mono (by decide)) rfl g_multiple kp_multiple b_multiple .nil pass0 (pa_cons (pv 3) (pa_cons (pv 8) (pa_cons (pv 2) pa_nil)))) (pg_sub (pe_fld (pv 0) rfl) (pv 1) set_list))
        (pss_one (ps_ret (pe_call G_multiple (hr.mono (by decide)) rfl g_multiple kp_multiple b_multiple .nil pass0 (pa_cons (pv 3) (pa_cons (pe_op op_fdivW (pv 3) (pv 6)) (pa_cons (pv 2) pa_nil)))))))) pss_nil)
        (pss_cons (ps_set (i := 9) sc_Stairs_put_at.nd rfl (Or.inl rfl) (pe_ix ix_list (pv 4) (pv 1) (fun _ _ => rfl)))
        (pss_cons (ps_if (pt_cmpR op_eq (pe_op op_modN (pv 5) (pv 9)) pe_int (nomark _)) (pss_one (ps_ret (pe_call G_combined (hr.mono (by decide)) rfl g_combined kp_combined b_combined .nil pass0 (pa_cons (pv 3) (pa_cons pe_int (pa_cons (pv 2) (pa_cons (pe_un un_neg (pe_op op_fdivW (pv 5) (pv 9))) (pa_cons (pv 4) pa_nil)))))))) pss_nil)
        (pss_cons (ps_asg (pe_call G_bezout (hr.mono (by decide)) rfl g_bezout kp_bezout b_bezout .nil pass0 (pa_cons (pv 9) (pa_cons (pv 5) pa_nil))) (pg_tup rfl (pgs_cons (pg_name (i := 6) sc_Stairs_put_at.nd rfl (Or.inl rfl)) (pgs_cons (pg_name (i := 10) sc_Stairs_put_at.nd rfl (Or.inl rfl)) (pgs_cons (pg_name (i := 8) sc_Stairs_put_at.nd rfl (Or.inl rfl)) pgs_nil)))))
        (pss_cons (ps_asg (pe_call G_combined (hr.mono (by decide)) rfl g_combined kp_combined b_combined .nil pass0 (pa_cons (pv 3) (pa_cons (pv 8) (pa_cons (pv 2) (pa_cons (pv 10) (pa_cons (pv 4) pa_nil)))))) (pg_sub (pe_fld (pv 0) rfl) (pv 1) set_list))
        (pss_one (ps_ret (pe_call G_combined (hr.mono (by decide)) rfl g_combined kp_combined b_combined .nil pass0 (pa_cons (pv 3) (pa_cons (pe_op op_fdivW (pv 9) (pv 6)) (pa_cons (pv 2) (pa_cons (pe_un un_neg (pe_op op_fdivW (pv 5) (pv 6))) (pa_cons (pv 4) pa_nil)))))))))))))), ?_⟩
    have hSi : S[i]? = some (S[i]'(by rw [wf.len]; exact hi)) := List.getElem?_eq_getElem (by rw [wf.len]; exact hi)
    have hrN : (r.map V.int)[i]? = some (.int N) := by rw [List.getElem?_map, hN]; rfl
    have wr := rred_wd hrr hM2
    have wM : Wd M := by show M.natAbs < 2 ^ 200; omega
    have hNM : N < M := (hrr N (List.mem_of_getElem? hN)).2
    rcases hS.at_ hSi with ⟨e0, ev⟩ | ⟨a, s2, e0, ev, hal, ha⟩
    · refine ⟨_, rfl, p, C, dx, _, _, rfl, hp, T.cl, T.nM, flS_m M l, ?_⟩
      refine ⟨_, rfl, p, C, dx, _, _, rfl, hp, T.cl, T.nS, flS_s M l, _, rfl, l, vs, _, _, rfl, rfl, SqL.of hl, atI_nat ev, ?_⟩
      refine ⟨_, rfl, _, rfl, b, _, _, _, rfl, rfl, SqL.of hb, atI_nat hrN, _, _, _, rfl, ?_⟩
      refine ⟨_, rfl, rfl, true, congrArg V.bl (decide_eq_true rfl), iteT ?_⟩
      refine ⟨_, rfl, _, rfl, M, N, rfl, by omega, hN1, hM2, by omega, fun g lf f t H1 hg g1 hbz wlf wff sm ht => ?_⟩
      refine ⟨t, _, rfl, SqT.of ht, rfl, _, _, rfl, _, _, rfl, _, _, rfl, rfl, ?_⟩
      refine ⟨_, rfl, _, rfl, _, rfl, M, f, b, r, rfl, by omega, wff, sm _ _ hb, wr, by omega, fun q H2 s2 nq hq => ?_⟩
      refine ⟨_, rfl, p, C, dx, _, _, rfl, s2 _ _ (sm _ _ hp), T.cl, T.nS, flS_s M l, _, rfl, l, vs, _, i, rfl, rfl, s2 _ _ (sm _ _ hl), ix_at (by rw [hS.length, wf.len]; exact hi), ?_⟩
      have hgM : g.natAbs < 2 ^ 200 := by
        have : Int.gcd M N ≤ M.natAbs := Nat.gcd_le_left _ (by omega)
        omega
      have hql : q ≠ l := fun z => by rw [z, sm _ _ hl] at nq; cases nq
      have hpl : p ≠ l := fun z => by rw [z, hl] at hp; cases hp
      have b1 : But l H (upd H2 l (.lst (vs.set i (.ref q)))) := fun c o n e => by
        rw [upd_ne n]
        exact s2 _ _ (sm _ _ e)
      have st : StAt C (upd H2 l (.lst (vs.set i (.ref q)))) p l M (S.set i (some (mulRow M f r))) := ⟨⟨dx, b1 _ _ hpl hp⟩, _, upd_same, (hS.mono b1).set hql (by rw [upd_ne hql]; exact hq) i⟩
      refine ⟨_, rfl, _, rfl, _, rfl, _, _, rfl, rfl, wide_div (b := 200) (by omega) hgM (by decide) (by decide), _, rfl, M, M / g, b, r, rfl, by omega, ?_, b1 _ _ hbl hb, wr, by omega, fun q2 H3 s3 nq2 hq2 => ?_⟩
      · show (M / g).natAbs < 2 ^ 200
        have := Int.ediv_le_self g (show 0 ≤ M by omega)
        have := Int.ediv_nonneg (show 0 ≤ M by omega) (show 0 ≤ g by omega)
        omega
      · refine k _ _ q2 H3 (.inl ⟨by rw [hSi, e0], g, lf, f, hg, g1, hbz, rfl, rfl⟩) (b1.same s3) (st.same s3) hq2 fun z => ?_
        rw [z, upd_same] at nq2
        cases nq2
    · obtain ⟨hsl, hsr, ⟨P, hP, hP1, _⟩, _⟩ := wf.row i s2 (by rw [hSi, e0])
      have hsP : (s2.map V.int)[i]? = some (.int P) := by rw [List.getElem?_map, hP]; rfl
      have ws := rred_wd hsr hM2
      have hPM : P < M := (hsr P (List.mem_of_getElem? hP)).2
      have hPw : P.natAbs < 2 ^ 200 := by omega
      have hpl : p ≠ l := fun z => by rw [z, hl] at hp; cases hp
      refine ⟨_, rfl, p, C, dx, _, _, rfl, hp, T.cl, T.nM, flS_m M l, ?_⟩
      refine ⟨_, rfl, p, C, dx, _, _, rfl, hp, T.cl, T.nS, flS_s M l, _, rfl, l, vs, _, _, rfl, rfl, SqL.of hl, atI_nat ev, ?_⟩
      refine ⟨_, rfl, _, rfl, b, _, _, _, rfl, rfl, SqL.of hb, atI_nat hrN, _, _, _, rfl, ?_⟩
      refine ⟨_, rfl, rfl, false, congrArg V.bl (decide_eq_false (by intro z; cases z)), iteF ?_⟩
      refine ⟨_, rfl, _, rfl, a, _, _, _, rfl, rfl, SqL.of ha, atI_nat hsP, ?_⟩
      refine ⟨_, rfl, _, rfl, _, _, rfl, rfl, by omega, rfl, _, rfl, ?_⟩
      have ef : N.fmod P = N % P := Int.fmod_eq_emod_of_nonneg _ (by omega)
      refine ite2 (fun hd => ?_) (fun hd => ?_)
      · have h0 : N % P = 0 := by
          have this : V.int (N.fmod P) = V.int 0 := of_decide_eq_true hd
          rw [ef] at this
          injection this
        refine ⟨_, rfl, _, rfl, _, rfl, _, rfl, _, _, rfl, rfl, wide_div (b := 200) (by omega) hPw (by decide) (by decide), _, rfl, _, rfl, M, 1, -(N / P), b, a, r, s2, rfl, by omega, (by show (1 : Int).natAbs < 2 ^ 200; decide), (zdiv_wd (by omega) (by omega) (by omega)).2, hb, ha, wr, ws, by omega, by omega, fun q H2 s2' nq hq => ?_⟩
        refine k S _ q H2 (.inr ⟨s2, P, by rw [hSi, e0], hP, .inl ⟨h0, rfl, rfl⟩⟩) (fun c o n e => s2' _ _ e) (StAt.same ⟨⟨dx, hp⟩, vs, hl, hS⟩ s2') hq fun z => ?_
        rw [z, hl] at nq
        cases nq
      · refine ⟨_, rfl, _, rfl, P, N, rfl, hP1, hN1, by omega, by omega, fun g lf f t H1 hg g1 hbz wlf wff sm ht => ?_⟩
        refine ⟨t, _, rfl, SqT.of ht, rfl, _, _, rfl, _, _, rfl, _, _, rfl, rfl, ?_⟩
        refine ⟨_, rfl, _, rfl, _, rfl, _, rfl, _, rfl, M, f, lf, b, a, r, s2, rfl, by omega, wff, wlf, sm _ _ hb, sm _ _ ha, wr, ws, by omega, by omega, fun q H2 s2' nq hq => ?_⟩
        refine ⟨_, rfl, p, C, dx, _, _, rfl, s2' _ _ (sm _ _ hp), T.cl, T.nS, flS_s M l, _, rfl, l, vs, _, i, rfl, rfl, s2' _ _ (sm _ _ hl), ix_at (by rw [hS.length, wf.len]; exact hi), ?_⟩
        have hgM : g.natAbs < 2 ^ 200 := by
          have : Int.gcd P N ≤ P.natAbs := Nat.gcd_le_left _ (by omega)
          omega
        have hql : q ≠ l := fun z => by rw [z, sm _ _ hl] at nq; cases nq
        have b1 : But l H (upd H2 l (.lst (vs.set i (.ref q)))) := fun c o n e => by
          rw [upd_ne n]
          exact s2' _ _ (sm _ _ e)
        have st : StAt C (upd H2 l (.lst (vs.set i (.ref q)))) p l M (S.set i (some (comb M f r lf s2))) := ⟨⟨dx, b1 _ _ hpl hp⟩, _, upd_same, (hS.mono b1).set hql (by rw [upd_ne hql]; exact hq) i⟩
        refine ⟨_, rfl, _, rfl, _, rfl, _, _, rfl, rfl, wide_div (b := 200) (by omega) hgM (by decide) (by decide), _, rfl, _, rfl, _, rfl, _, _, rfl, rfl, wide_div (b := 200) (by omega) hgM (by decide) (by decide), _, rfl, _, rfl, M, P / g, -(N / g), b, a, r, s2, rfl, by omega, (zdiv_wd (by omega) (by omega) (by omega)).1, (zdiv_wd (by omega) (by omega) (by omega)).2, b1 _ _ hbl hb, b1 _ _ hal ha, wr, ws, by omega, by omega, fun q2 H3 s3 nq2 hq2 => ?_⟩
        refine k _ _ q2 H3 (.inr ⟨s2, P, by rw [hSi, e0], hP, .inr ⟨g, lf, f, hg, g1, hbz, rfl, rfl⟩⟩) (b1.same s3) (st.same s3) hq2 fun z => ?_
        rw [z, upd_same] at nq2
        cases nq2
end
end Wk

namespace Wk
open PySem L2 NumI
def spStInit (C : Addr) : Sp := fun vs H Q _ => ∃ (p dx : Addr) (M : Int) (n : Nat), vs = [.ref p, .int M, .int (n : Int)] ∧ H p = some (.ins C dx []) ∧ n ≤ 1000 ∧
  ∀ (l : Addr) (H' : Hp), But p H H' → H l = none → StAt C H' p l M (List.replicate n none) → Q .non H'
def spPut (C : Addr) : Sp := fun vs H Q _ => ∃ (p l b : Addr) (M : Int) (W n : Nat) (S : List (Option Row)) (r : Row), vs = [.ref p, .ref b] ∧ StAt C H p l M S ∧ 2 ≤ M ∧ M < 2 ^ 64 ∧ W ≤ 1000 ∧ n ≤ W ∧ WF M W n S ∧ r.length = W ∧ RRed M r ∧
  H b = some (.lst (r.map V.int)) ∧ b ≠ l ∧ ∀ (S' : List (Option Row)) (r' : Row) (b' : Addr) (H' : Hp), Ch M S r n S' r' → But l H H' → StAt C H' p l M S' → H' b' = some (.lst (r'.map V.int)) → b' ≠ l → Q (.ref b') H'
def spSettled (K : PySem.W.Frag) (C : Addr) : Sp := fun vs H Q _ => ∃ (p l : Addr) (M : Int) (W n : Nat) (S : List (Option Row)), vs = [.ref p] ∧ StAt C H p l M S ∧ 2 ≤ M ∧ M < 2 ^ 64 ∧ W ≤ 1000 ∧ n ≤ W ∧ WF M W n S ∧
  NewMat K H ((settle M n S n).map (·.2)) Q
theorem flat_rep {α : Type} {x : α} (n : Nat) : (List.replicate n [x]).flatten = List.replicate n x := by
  induction n with
  | zero => rfl
  | succ n ih => rw [List.replicate_succ, List.flatten_cons, ih]; rfl
theorem But.trans {l : Addr} {H H' H2 : Hp} (a : But l H H') (b : But l H' H2) : But l H H2 := fun c o n e => b c o n (a c o n e)
section
variable {P : Program} {w : World} {K : PySem.W.Frag} {mg : Str → Option Value} {base : Heap} {C fI fP fA fS : Addr}
theorem ok_st_init {f : Addr} {fd : FuncData} (F : Fun K "__init__" "Stairs.__init__" s_Stairs_init f fd) (T : TxtS K mg C fI fP fA fS) : FnOk P w K mg base CX0 1 f fd ["self", "modulus", "places"] (spStInit C) := by
  refine F.ok sc_Stairs_init (fun vs H Q E h => ?_) (fun cdv A outer s H vs Q E hr h => ?_)
  · obtain ⟨p, dx, M, n, rfl, _⟩ := h
    rfl
  · obtain ⟨p, dx, M, n, rfl, hp, hn, k⟩ := h
    refine ⟨_, (pss_cons (ps_fld (pv 0) (pv 1) rfl)
        (pss_one (ps_fld (pv 0) (pe_op op_rep (pe_lst (pa_cons pe_non pa_nil)) (pv 2)) rfl))), ?_⟩
    refine ⟨_, rfl, _, rfl, p, C, dx, _, rfl, hp, T.cl, T.nM, (by show 0 < 1000; decide), ?_⟩
    refine ⟨(by show 1 ≤ sizeLine; decide), fun q hq => ⟨_, rfl, q, n, [.non], rfl, rfl, upd_same, by omega, by omega, Nat.le_trans (by simp; omega) (show 1000 ≤ sizeLine by decide), fun l hl => ⟨_, rfl, p, C, dx, putF "modulus" (.int M) [], rfl, ?_, T.cl, T.nS, (by show 1 < 1000; decide), ?_⟩⟩⟩
    · rw [upd_ne (fun z => by rw [← z, upd_ne (fun y => by rw [← y, upd_same] at hq; cases hq), upd_same] at hl; cases hl), upd_ne (fun y => by rw [← y, upd_same] at hq; cases hq), upd_same]
    · have hqp : p ≠ q := fun y => by rw [← y, upd_same] at hq; cases hq
      have hlp : p ≠ l := fun y => by rw [← y, upd_ne hqp, upd_same] at hl; cases hl
      have hlq : l ≠ q := fun y => by rw [y, upd_same] at hl; cases hl
      refine k l _ (fun b o n e => ?_) ?_ ⟨⟨dx, upd_same⟩, List.replicate n .non, ?_, .nones l _ n⟩
      · have bq : b ≠ q := fun y => by
          subst y
          rw [upd_ne (Ne.symm hqp), e] at hq
          cases hq
        have bl : b ≠ l := fun y => by rw [← y, upd_ne bq, upd_ne n, e] at hl; cases hl
        rw [upd_ne n, upd_ne bl, upd_ne bq, upd_ne n]
        exact e
      · rw [upd_ne hlq, upd_ne (Ne.symm hlp)] at hl
        exact hl
      · rw [upd_ne (Ne.symm hlp), upd_same]
        congr 2
        rw [Int.toNat_natCast]
        exact flat_rep n
theorem ok_put {f : Addr} {fd fdA : FuncData} (F : Fun K "put" "Stairs.put" s_Stairs_put f fd) (T : TxtS K mg C fI fP fA fS)
    (G_put_at : FnOk P w K mg base CX0 2 fA fdA ["self", "place", "row"] (spPutAt C)) (b_put_at : Binds K fdA ["self", "place", "row"] []) :
    FnOk P w K mg base CX0 3 f fd ["self", "row"] (spPut C) := by
  refine F.ok sc_Stairs_put (fun vs H Q E h => ?_) (fun cdv A outer s H vs Q E hr h => ?_)
  · obtain ⟨p, l, b, M, W, n, S, r, rfl, _⟩ := h
    rfl
  · obtain ⟨p, l, b, M, W, n, S, r, rfl, hSt, hM, hM2, hW, hn, wf, hrl, hrr, hb, hbl, k⟩ := h
    refine ⟨_, (pss_cons (ps_for PassesOwn.never rfl (pi_range1 rfl T.f_range (pa_cons (pe_callB call_len_seq rfl T.f_len PySem.boot_len (pa_cons (pe_fld (pv 0) rfl) pa_nil)) pa_nil)) (pg_name (i := 2) sc_Stairs_put.nd rfl (Or.inl rfl)) (pss_one (ps_if (pt_cmpR op_ne (pe_ix ix_list (pv 1) (pv 2) (fun _ _ => rfl)) pe_int (nomark _)) (pss_one (ps_set (i := 1) sc_Stairs_put.nd rfl (Or.inl rfl) (pe_meth (pv 0) T.cl T.m_put_at G_put_at (hr.mono (by decide)) b_put_at .nil pass0 (pa_cons (pv 2) (pa_cons (pv 1) pa_nil))))) pss_nil)))
        (pss_one (ps_ret (pv 1)))), ?_⟩
    obtain ⟨⟨dx, hp⟩, vs, hl, hS⟩ := id hSt
    have hvl : vs.length = n := hS.length.trans wf.len
    refine ⟨_, rfl, p, C, dx, _, _, rfl, hp, T.cl, T.nS, flS_s M l, _, _, rfl, .inl (SqL.of hl), (n : Int), (by rw [hvl]), by omega, by omega, ?_⟩
    refine for_it (walk_range (lo := 0) (n := n)) (fun i σ H' => ∃ (x : Option V) (b' : Addr) (S' : List (Option Row)) (r' : Row), σ = [some (.ref p), some (.ref b'), x] ∧ Ch M S r i S' r' ∧ But l H H' ∧ StAt C H' p l M S' ∧ H' b' = some (.lst (r'.map V.int)) ∧ b' ≠ l) ⟨none, b, S, r, rfl, .base, fun _ _ _ e => e, hSt, hb, hbl⟩ (fun _ _ _ _ _ => trivial) ?_ ?_
    · rintro i v σ H1 H1' hi ⟨x, b', S', r', rfl, ch, bt, st, hb', hbl'⟩ ⟨rfl, rfl⟩
      obtain ⟨wf', hl', hr', hz'⟩ := ch.wf hM wf hrl hrr
      have hil : i < r'.length := by omega
      have hri : r'[i]? = some r'[i] := List.getElem?_eq_getElem hil
      have hrN : (r'.map V.int)[i]? = some (.int r'[i]) := by rw [List.getElem?_map, hri]; rfl
      obtain ⟨⟨dx', hp'⟩, _⟩ := id st
      show tIfS _ _ _ _ [some (V.ref p), some (V.ref b'), some (V.int (0 + (i : Int)))] H1'
      rw [Int.zero_add]
      refine ⟨_, rfl, _, rfl, b', _, _, _, rfl, rfl, SqL.of hb', atI_nat hrN, rfl, _, rfl, ?_⟩
      by_cases h0 : r'[i] = 0
      · rw [h0]
        refine iteNS rfl ?_
        exact ⟨_, b', S', r', rfl, ch.skip (by rw [hri, h0]), bt, st, hb', hbl'⟩
      · have e3 : (!decide (V.int r'[i] = V.int 0)) = true := by
          have : ¬ V.int r'[i] = V.int 0 := fun z => h0 (by injection z)
          simp [this]
        rw [e3]
        refine iteT ?_
        have hN0 := hr' _ (List.mem_of_getElem? hri)
        refine ⟨_, rfl, p, dx', flS M l, rfl, hp', flS_no M l (by decide +kernel) (by decide +kernel), _, rfl, _, rfl, p, l, b', i, M, r'[i], W, n, S', r', rfl, st, hM, hM2, hW, wf', hi, hl', hr', hri, by omega, hb', hbl', fun S2 r2 b2 H2 ps bt2 st2 hb2 hbl2 => ?_⟩
        exact ⟨_, b2, S2, r2, rfl, ch.step hri (by omega) ps, bt.trans bt2, st2, hb2, hbl2⟩
    · rintro σ H1 ⟨x, b', S', r', rfl, ch, bt, st, hb', hbl'⟩
      exact ⟨_, rfl, k S' r' b' H1 ch bt st hb' hbl'⟩
/-- pairs of a place and a row, in a list at t -/
def PairsAre (t : Addr) (H : Hp) (us : List V) (L : List (Nat × Row)) : Prop := us.length = L.length ∧ ∀ (k q : Nat) (s : Row), L[k]? = some (q, s) → ∃ u a, us[k]? = some (.ref u) ∧ u ≠ t ∧ a ≠ t ∧ H u = some (.tup [.int (q : Int), .ref a]) ∧ H a = some (.lst (s.map V.int))
theorem PairsAre.mono {t : Addr} {H H' : Hp} {us : List V} {L : List (Nat × Row)} (h : PairsAre t H us L) (e : But t H H') : PairsAre t H' us L := ⟨h.1, fun k q s z => by
  obtain ⟨u, a, h1, h2, h3, h4, h5⟩ := h.2 k q s z
  exact ⟨u, a, h1, h2, h3, e _ _ h2 h4, e _ _ h3 h5⟩⟩
theorem PairsAre.snoc {t : Addr} {H : Hp} {us : List V} {L : List (Nat × Row)} {u a : Addr} {q : Nat} {s : Row} (h : PairsAre t H us L) (h2 : u ≠ t) (h3 : a ≠ t) (h4 : H u = some (.tup [.int (q : Int), .ref a])) (h5 : H a = some (.lst (s.map V.int))) : PairsAre t H (us ++ [.ref u]) (L ++ [(q, s)]) := by
  refine ⟨by simp [h.1], fun k q2 s2 e => ?_⟩
  rcases Nat.lt_trichotomy k L.length with hk | hk | hk
  · rw [List.getElem?_append_left hk] at e
    obtain ⟨u2, a2, g1, g2⟩ := h.2 k q2 s2 e
    exact ⟨u2, a2, by rw [List.getElem?_append_left (by rw [h.1]; exact hk)]; exact g1, g2⟩
  · rw [hk] at e
    simp at e
    obtain ⟨rfl, rfl⟩ := e
    exact ⟨u, a, by rw [hk, ← h.1]; simp, h2, h3, h4, h5⟩
  · rw [List.getElem?_eq_none (by simp; omega)] at e
    cases e
theorem PairsAre.rev {t : Addr} {H : Hp} {us : List V} {L : List (Nat × Row)} (h : PairsAre t H us L) : PairsAre t H us.reverse L.reverse := by
  refine ⟨by simp [h.1], fun k q s e => ?_⟩
  have hk : k < L.length := by
    have := (List.getElem?_eq_some_iff.mp e).1
    simpa using this
  rw [List.getElem?_reverse hk] at e
  obtain ⟨u, a, g1, g2⟩ := h.2 _ q s e
  exact ⟨u, a, by rw [List.getElem?_reverse (by rw [h.1]; exact hk), h.1]; exact g1, g2⟩
theorem ok_settled {f fC : Addr} {fd fdC : FuncData} (F : Fun K "settled" "Stairs.settled" s_Stairs_settled f fd) (T : TxtS K mg C fI fP fA fS)
    (G_combined : FnOk P w K mg base CX0 1 fC fdC ["modulus", "factor", "row", "other_factor", "other"] (spComb K)) (g_combined : mg "combined" = some (.ref fC)) (kp_combined : PySem.W.keepIn K (.ref fC) = true) (b_combined : Binds K fdC ["modulus", "factor", "row", "other_factor", "other"] []) :
    FnOk P w K mg base CX0 2 f fd ["self"] (spSettled K C) := by
  refine F.ok sc_Stairs_settled (fun vs H Q E h => ?_) (fun cdv A outer s H vs Q E hr h => ?_)
  · obtain ⟨p, l, M, W, n, S, rfl, _⟩ := h
    rfl
  · obtain ⟨p, l, M, W, n, S, rfl, hSt, hM, hM2, hW, hn, wf, k⟩ := h
    refine ⟨_, (pss_cons (ps_set (i := 1) sc_Stairs_settled.nd rfl (Or.inl rfl) (pe_lst pa_nil))
        (pss_cons (ps_for PassesOwn.never rfl (pi_revR rfl T.f_reversed (prg_1 rfl T.f_range (pe_callB call_len_seq rfl T.f_len PySem.boot_len (pa_cons (pe_fld (pv 0) rfl) pa_nil)))) (pg_name (i := 2) sc_Stairs_settled.nd rfl (Or.inl rfl)) (pss_cons (ps_set (i := 3) sc_Stairs_settled.nd rfl (Or.inl rfl) (pe_ix ix_list (pe_fld (pv 0) rfl) (pv 2) (fun _ _ => rfl)))
        (pss_one (ps_if (pt_cmpR op_notN (pv 3) pe_non (nomark _)) (pss_cons (ps_for PassesOwn.never rfl (pi_list (pe_revL (pv 1))) (pg_tup rfl (pgs_cons (pg_name (i := 4) sc_Stairs_settled.nd rfl (Or.inl rfl)) (pgs_cons (pg_name (i := 5) sc_Stairs_settled.nd rfl (Or.inl rfl)) pgs_nil))) (pss_one (ps_if (pt_cmpR op_ge (pe_ix ix_list (pv 3) (pv 4) (fun _ _ => rfl)) (pe_ix ix_list (pv 5) (pv 4) (fun _ _ => rfl)) (nomark _)) (pss_one (ps_set (i := 3) sc_Stairs_settled.nd rfl (Or.inl rfl) (pe_call G_combined (hr.mono (by decide)) rfl g_combined kp_combined b_combined .nil pass0 (pa_cons (pe_fld (pv 0) rfl) (pa_cons pe_int (pa_cons (pv 3) (pa_cons (pe_un un_neg (pe_op op_fdivW (pe_ix ix_list (pv 3) (pv 4) (fun _ _ => rfl)) (pe_ix ix_list (pv 5) (pv 4) (fun _ _ => rfl)))) (pa_cons (pv 5) pa_nil)))))))) pss_nil)))
        (pss_one (ps_expr (pe_bm PySem.F.plainAttrs_list PySem.F.slot_list_append PySem.F.type_list_append mt_append (pv 1) (pa_cons (pe_tup (pa_cons (pv 2) (pa_cons (pv 3) pa_nil))) pa_nil))))) pss_nil))))
        (pss_one (ps_ret (pe_callTy (call_tupleK (K := K) rfl) rfl T.f_tuple (by decide +kernel) (pa_cons (pe_lc (own := [("_", 6), ("row", 3)]) (g := gTup K 2 (gCons (gName 6) (gCons (gName 3) gNil))) rfl sc_Stairs_settled.nd (pi_list (pe_revL (pv 1))) (blkOk_by (N := ["self", "lessened", "place", "row", "lower", "step", "_"]) (sc := defScope s_Stairs_settled) (by decide +kernel)) (fun _ _ _ _ _ => (pg_tupK rfl rfl (pgs_cons (pg_name (i := 6) sc_Stairs_settled.nd rfl (Or.inl rfl)) (pgs_cons (pg_name (i := 3) sc_Stairs_settled.nd rfl (Or.inl rfl)) pgs_nil)))) (fun _ _ _ _ _ => pts_nil) (fun _ _ _ _ _ => (pe_callTy (call_tupleK (K := K) rfl) rfl T.f_tuple (by decide +kernel) (pa_cons (pv 3) pa_nil)))) pa_nil)))))), ?_⟩
    obtain ⟨⟨dx, hp⟩, vs, hl, hS⟩ := id hSt
    have hvl : vs.length = n := hS.length.trans wf.len
    have hpt : ∀ {t}, H t = none → p ≠ t := fun h z => by rw [← z, hp] at h; cases h
    refine ⟨Nat.zero_le _, fun t ht => ?_⟩
    have sG : Same H (upd H t (.lst [])) := same_upd ht
    have gt : (upd H t (.lst [])) t = some (.lst []) := upd_same
    obtain ⟨G, hG⟩ : ∃ G, G = upd H t (.lst []) := ⟨_, rfl⟩
    rw [← hG] at sG gt
    rw [← hG]
    refine ⟨_, rfl, p, C, dx, _, _, rfl, sG _ _ hp, T.cl, T.nS, flS_s M l, _, _, rfl, .inl (SqL.of (sG _ _ hl)), (n : Int), (by rw [hvl]), by omega, by omega, by omega, by omega, ?_⟩
    refine for_it (walk_rangeC (c := -1) (n := n)) (fun i σ H' => ∃ (x2 x3 x4 x5 : Option V) (us : List V), σ = [some (.ref p), some (.ref t), x2, x3, x4, x5, none] ∧ Same H H' ∧ H' t = some (.lst us) ∧ PairsAre t H' us (settle M n S i).reverse) ⟨none, none, none, none, [], rfl, sG, gt, rfl, fun k q s e => by simp [settle] at e⟩ (fun _ _ _ _ _ => trivial) ?_ ?_
    · rintro i v σ H1 H1' hi ⟨x2, x3, x4, x5, us, rfl, s1, h1t, hPr⟩ ⟨rfl, rfl⟩
      have ep : (0 + (((n : Int) - 0).toNat : Nat) - 1 + (i : Nat) * (-1) : Int) = ((n - 1 - i : Nat) : Int) := by omega
      show tSeq _ _ _ [some (V.ref p), some (V.ref t), some (V.int (0 + (((n : Int) - 0).toNat : Nat) - 1 + (i : Nat) * (-1))), x3, x4, x5, none] H1'
      rw [ep]
      have hlt : n - 1 - i < S.length := by rw [wf.len]; omega
      have hSi : S[n - 1 - i]? = some S[n - 1 - i] := List.getElem?_eq_getElem hlt
      have hgD : S.getD (n - 1 - i) none = S[n - 1 - i] := by rw [List.getD_eq_getElem?_getD, hSi]; rfl
      rcases hS.at_ hSi with ⟨e0, ev⟩ | ⟨a, r, e0, ev, hal, ha⟩
      · refine ⟨_, rfl, p, C, dx, _, _, rfl, s1 _ _ hp, T.cl, T.nS, flS_s M l, _, rfl, l, vs, _, _, rfl, rfl, SqL.of (s1 _ _ hl), atI_nat ev, ?_⟩
        refine ⟨_, rfl, rfl, false, congrArg V.bl (by simp), iteF ?_⟩
        refine ⟨_, _, _, _, us, rfl, s1, h1t, ?_⟩
        have : settle M n S (i + 1) = settle M n S i := by
          show (match S.getD (n - 1 - i) none with | none => _ | some r => _) = _
          rw [hgD, e0]
        rw [this]
        exact hPr
      · refine ⟨_, rfl, p, C, dx, _, _, rfl, s1 _ _ hp, T.cl, T.nS, flS_s M l, _, rfl, l, vs, _, _, rfl, rfl, SqL.of (s1 _ _ hl), atI_nat ev, ?_⟩
        refine ⟨_, rfl, rfl, true, congrArg V.bl (by simp), iteT ?_⟩
        have eS : settle M n S (i + 1) = (n - 1 - i, lessen M r (settle M n S i)) :: settle M n S i := by
          show (match S.getD (n - 1 - i) none with | none => _ | some r => _) = _
          rw [hgD, e0]
        obtain ⟨rl, rr, _, _⟩ := wf.row _ _ (hSi.trans (by rw [e0]))
        have hL := settle_lok hM wf hn (show i ≤ n by omega)
        have hLl := settle_len M n S i
        generalize settle M n S i = L at *
        generalize hFin : lessen M r L = rF at *
        have hat : a ≠ t := fun z => by rw [z, ht] at ha; cases ha
        refine ⟨_, rfl, t, us, rfl, SqL.of h1t, fun p2 np2 => ⟨p2, rfl, ⟨_, SqL.of upd_same⟩, ?_⟩⟩
        have s2' : Same H1' (upd H1' p2 (.lst us.reverse)) := same_upd np2
        have g2 : (upd H1' p2 (.lst us.reverse)) p2 = some (.lst us.reverse) := upd_same
        generalize upd H1' p2 (.lst us.reverse) = H2 at s2' g2 ⊢
        have hPr2 : PairsAre t H2 us.reverse L := by
          have := (hPr.mono (fun b o _ e => s2' b o e)).rev
          rw [List.reverse_reverse] at this
          exact this
        refine for_it (walk_list (xs := us.reverse)) (fun k σ H' => ∃ (y4 y5 : Option V) (b : Addr) (cur : Row), σ = [some (.ref p), some (.ref t), some (.int ((n - 1 - i : Nat) : Int)), some (.ref b), y4, y5, none] ∧ Same H2 H' ∧ H' b = some (.lst (cur.map V.int)) ∧ b ≠ t ∧ cur.length = W ∧ RRed M cur ∧ lessen M cur (L.drop k) = rF) ⟨_, _, a, r, rfl, fun _ _ e => e, s2' _ _ (s1 _ _ ha), hat, rl, rr, hFin⟩ (fun k σ H' _ ⟨_, _, _, _, _, s3, _⟩ => SqL.of (s3 _ _ g2)) ?_ ?_
        · rintro k v σ H3 H3' hk ⟨y4, y5, b, cur, rfl, s3, hb, hbt, cl, cr, ce⟩ ⟨rfl, hv⟩
          have hkL : k < L.length := by rw [← hPr2.1]; exact hk
          have hLk : L[k]? = some (L[k].1, L[k].2) := List.getElem?_eq_getElem hkL
          obtain ⟨u, a2, g1, hut, hat2, hu, ha2⟩ := hPr2.2 k _ _ hLk
          rw [g1] at hv
          cases hv
          obtain ⟨sl, sr, hq, hs1⟩ := hL _ _ (List.mem_of_getElem? hLk)
          generalize hq0 : L[k].1 = q at *
          generalize hs0 : L[k].2 = s2 at *
          have hcq : cur[q]? = some (cur.getD q 0) := by rw [List.getD_eq_getElem?_getD, List.getElem?_eq_getElem (by omega)]; rfl
          have hsq : s2[q]? = some (s2.getD q 0) := by rw [List.getD_eq_getElem?_getD, List.getElem?_eq_getElem (by omega)]; rfl
          have hcq' : (cur.map V.int)[q]? = some (.int (cur.getD q 0)) := by rw [List.getElem?_map, hcq]; rfl
          have hsq' : (s2.map V.int)[q]? = some (.int (s2.getD q 0)) := by rw [List.getElem?_map, hsq]; rfl
          have hdrop : L.drop k = (q, s2) :: L.drop (k + 1) := by
            rw [List.drop_eq_getElem_cons hkL, ← hq0, ← hs0]
          have hx := cr _ (List.mem_of_getElem? hcq)
          have hy := sr _ (List.mem_of_getElem? hsq)
          generalize hxe : cur.getD q 0 = x at *
          generalize hye : s2.getD q 0 = y at *
          rw [hdrop] at ce
          unfold lessen at ce
          rw [hxe, hye] at ce
          refine ⟨u, _, rfl, SqT.of (s3 _ _ hu), rfl, _, _, rfl, _, _, rfl, rfl, ?_⟩
          refine ⟨_, rfl, _, rfl, b, _, _, _, rfl, rfl, SqL.of hb, atI_nat hcq', _, rfl, _, rfl, a2, _, _, _, rfl, rfl, SqL.of (s3 _ _ ha2), atI_nat hsq', x, y, rfl, rfl, _, rfl, ?_⟩
          refine ite2 (fun hd => ?_) (fun hd => ?_)
          · have hxy : x ≥ y := of_decide_eq_true hd
            rw [if_pos hxy] at ce
            have hyw : y.natAbs < 2 ^ 200 := by omega
            refine ⟨_, rfl, p, C, dx, _, _, rfl, s3 _ _ (s2' _ _ (s1 _ _ hp)), T.cl, T.nM, flS_m M l, _, rfl, _, rfl, _, rfl, b, _, _, _, rfl, rfl, SqL.of hb, atI_nat hcq', _, rfl, _, rfl, a2, _, _, _, rfl, rfl, SqL.of (s3 _ _ ha2), atI_nat hsq', _, _, rfl, rfl, wide_div (b := 200) (by omega) hyw (by decide) (by decide), _, rfl, _, rfl, M, 1, -(x / y), b, a2, cur, s2, rfl, by omega, (by show (1 : Int).natAbs < 2 ^ 200; decide), (zdiv_wd (by omega) (by omega) (by omega)).2, hb, s3 _ _ ha2, rred_wd cr hM2, rred_wd sr hM2, by omega, by omega, fun b2 H4 s4 nb2 hb2 => ?_⟩
            refine ⟨_, _, b2, _, rfl, same_trans s3 s4, hb2, fun z => ?_, by simp [comb, cl, sl], comb_red (by omega) _ _ _ _, ce⟩
            rw [z, s3 _ _ (s2' _ _ h1t)] at nb2
            cases nb2
          · have hxy : ¬ x ≥ y := fun z => hd (decide_eq_true z)
            rw [if_neg hxy] at ce
            exact ⟨_, _, b, cur, rfl, s3, hb, hbt, cl, cr, ce⟩
        · rintro σ H3 ⟨y4, y5, b, cur, rfl, s3, hb, hbt, cl, cr, ce⟩
          have hkl : us.reverse.length = L.length := hPr2.1
          rw [hkl, List.drop_length] at ce
          have ce : cur = rF := ce
          have g3 : H3 t = some (.lst us) := s3 _ _ (s2' _ _ h1t)
          have sAll : Same H H3 := same_trans s1 (same_trans s2' s3)
          have hP3 : PairsAre t H3 us L.reverse := hPr.mono fun b o _ e => s3 _ _ (s2' _ _ e)
          have hus : us.length ≤ 1000 := by
            have e1 := hPr2.1
            simp at e1
            omega
          refine ⟨_, rfl, .inl ⟨rfl, _, SqL.of g3⟩, _, rfl, _, rfl, (by show 2 ≤ sizeLine; decide), fun u nu => ⟨t, _, _, rfl, rfl, (by rw [upd_ne (ne_of_none g3 nu)]; exact g3), Nat.le_trans (by simp; omega) (show 1001 ≤ sizeLine by decide), ?_⟩⟩
          have hut : u ≠ t := fun z => by rw [z, g3] at nu; cases nu
          have b4 : But t H3 (upd (upd H3 u (.tup [.int ((n - 1 - i : Nat) : Int), .ref b])) t (.lst (us ++ [.ref u]))) := fun c o hc e => by
            rw [upd_ne hc, upd_ne (ne_of_none e nu)]
            exact e
          refine ⟨_, _, _, _, us ++ [.ref u], rfl, fun c o e => b4 c o (ne_of_none e ht) (sAll _ _ e), upd_same, ?_⟩
          rw [eS, List.reverse_cons, ← ce]
          exact (hP3.mono b4).snoc hut hbt (by rw [upd_ne hut, upd_same]) (b4 _ _ hbt hb)
    · rintro σ H1 ⟨x2, x3, x4, x5, us, rfl, s1, h1t, hPr⟩
      refine ⟨_, rfl, t, us, rfl, SqL.of h1t, fun p2 np2 => ⟨p2, rfl, ⟨_, SqL.of upd_same⟩, fun D hD => ?_⟩⟩
      have s2 : Same H1 (upd H1 p2 (.lst us.reverse)) := same_upd np2
      have g2 : (upd H1 p2 (.lst us.reverse)) p2 = some (.lst us.reverse) := upd_same
      generalize upd H1 p2 (.lst us.reverse) = H2 at s2 g2 hD ⊢
      have hPr2 : PairsAre t H2 us.reverse (settle M n S n) := by
        have := (hPr.mono (fun b o _ e => s2 b o e)).rev
        rw [List.reverse_reverse] at this
        exact this
      have hLl := settle_len M n S n
      refine lc_rows (K := K) (walk_list (xs := us.reverse)) hD (by rw [hPr2.1]; omega) ((settle M n S n).map (·.2)) (by rw [List.length_map, hPr2.1]) (fun H' e => SqL.of (e _ _ g2)) ?_ (fun acc H3 e3 s3 hR => tup_read e3 hR (same_trans s1 (same_trans s2 s3)) k)
      rintro i r x H3 H3' Fn Nn hi hr3 fin s3 ⟨rfl, hv⟩
      rw [List.getElem?_map] at hr3
      cases hLi : (settle M n S n)[i]? with
      | none => rw [hLi] at hr3; cases hr3
      | some qs =>
        rw [hLi] at hr3
        cases hr3
        obtain ⟨u, a, g1, hut, hat, hu, ha⟩ := hPr2.2 i qs.1 qs.2 hLi
        rw [g1] at hv
        cases hv
        exact ⟨u, _, rfl, SqT.of (s3 _ _ hu), rfl, _, _, rfl, _, _, rfl, rfl, rfl, yesT ⟨_, rfl, a, _, rfl, .inl ⟨SqL.of (s3 _ _ ha), fun q nq => fin q _ (same_upd nq) upd_same⟩⟩⟩
end
end Wk

/-! sums, products of matrices as functions, modulo M -/
namespace Wk
def sumN : Nat → (Nat → Int) → Int
  | 0, _ => 0
  | n + 1, f => sumN n f + f n
theorem sumN_congr {n : Nat} {f g : Nat → Int} (h : ∀ k, k < n → f k = g k) : sumN n f = sumN n g := by
  induction n with
  | zero => rfl
  | succ n ih => rw [sumN, sumN, ih fun k hk => h k (by omega), h n (by omega)]
theorem sumN_add (n : Nat) (f g : Nat → Int) : sumN n (fun k => f k + g k) = sumN n f + sumN n g := by
  induction n with
  | zero => rfl
  | succ n ih => rw [sumN, sumN, sumN, ih]; omega
theorem sumN_zero (n : Nat) : sumN n (fun _ => 0) = 0 := by
  induction n with
  | zero => rfl
  | succ n ih => rw [sumN, ih]; rfl
theorem sumN_mul (n : Nat) (c : Int) (f : Nat → Int) : sumN n (fun k => c * f k) = c * sumN n f := by
  induction n with
  | zero => simp [sumN]
  | succ n ih => rw [sumN, sumN, ih, Int.mul_add]
theorem sumN_comm (n m : Nat) (f : Nat → Nat → Int) : sumN n (fun i => sumN m fun j => f i j) = sumN m (fun j => sumN n fun i => f i j) := by
  induction n with
  | zero => rw [sumN]; exact (sumN_zero m).symm
  | succ n ih => rw [sumN, ih, ← sumN_add]; rfl
theorem sumN_one {n a : Nat} (h : a < n) (x : Int) : sumN n (fun k => if k = a then x else 0) = x := by
  induction n with
  | zero => omega
  | succ n ih =>
    rw [sumN]
    by_cases e : a = n
    · subst e
      rw [if_pos rfl, sumN_congr (g := fun _ => 0) fun k hk => if_neg (by omega), sumN_zero]
      omega
    · rw [ih (by omega), if_neg (by omega)]
      omega
/-- equal modulo M -/
def Eqm (M a b : Int) : Prop := ∃ k, a = b + M * k
theorem Eqm.refl (M a : Int) : Eqm M a a := ⟨0, by simp⟩
theorem Eqm.symm {M a b : Int} (h : Eqm M a b) : Eqm M b a := by
  obtain ⟨k, e⟩ := h
  exact ⟨-k, by rw [e]; grind⟩
theorem Eqm.trans {M a b c : Int} (h : Eqm M a b) (g : Eqm M b c) : Eqm M a c := by
  obtain ⟨k, e⟩ := h
  obtain ⟨l, f⟩ := g
  exact ⟨k + l, by rw [e, f]; grind⟩
theorem Eqm.add {M a b c d : Int} (h : Eqm M a b) (g : Eqm M c d) : Eqm M (a + c) (b + d) := by
  obtain ⟨k, e⟩ := h
  obtain ⟨l, f⟩ := g
  exact ⟨k + l, by rw [e, f]; grind⟩
theorem Eqm.mul {M a b c d : Int} (h : Eqm M a b) (g : Eqm M c d) : Eqm M (a * c) (b * d) := by
  obtain ⟨k, e⟩ := h
  obtain ⟨l, f⟩ := g
  exact ⟨b * l + k * d + M * k * l, by rw [e, f]; grind⟩
theorem Eqm.mod (M a : Int) : Eqm M (a % M) a := ⟨-(a / M), by have := Int.emod_add_mul_ediv a M; grind⟩
theorem Eqm.eq {M a b : Int} (h : a = b) : Eqm M a b := h ▸ .refl _ _
theorem Eqm.emod {M a b : Int} (h : Eqm M a b) : a % M = b % M := by
  obtain ⟨k, e⟩ := h
  rw [e, Int.add_mul_emod_self_left]
theorem Eqm.of {M a b : Int} (h : a % M = b % M) : Eqm M a b := ((Eqm.mod M a).symm.trans (h ▸ .refl M _)).trans (Eqm.mod M b)
theorem Eqm.red {M a b : Int} (h : Eqm M a b) (ha : 0 ≤ a ∧ a < M) (hb : 0 ≤ b ∧ b < M) : a = b := by
  have := h.emod
  rwa [Int.emod_eq_of_lt ha.1 ha.2, Int.emod_eq_of_lt hb.1 hb.2] at this
theorem Eqm.sum {M : Int} {n : Nat} {f g : Nat → Int} (h : ∀ k, k < n → Eqm M (f k) (g k)) : Eqm M (sumN n f) (sumN n g) := by
  induction n with
  | zero => exact .refl _ _
  | succ n ih => exact (ih fun k hk => h k (by omega)).add (h n (by omega))
abbrev Fm := Nat → Nat → Int
def mulF (n : Nat) (A B : Fm) : Fm := fun i j => sumN n fun k => A i k * B k j
def oneF : Fm := fun i j => if i = j then 1 else 0
/-- equal modulo M on n places -/
def EqF (M : Int) (n : Nat) (A B : Fm) : Prop := ∀ i j, i < n → j < n → Eqm M (A i j) (B i j)
theorem EqF.refl (M : Int) (n : Nat) (A : Fm) : EqF M n A A := fun _ _ _ _ => .refl _ _
theorem EqF.symm {M : Int} {n : Nat} {A B : Fm} (h : EqF M n A B) : EqF M n B A := fun i j a b => (h i j a b).symm
theorem EqF.trans {M : Int} {n : Nat} {A B C : Fm} (h : EqF M n A B) (g : EqF M n B C) : EqF M n A C := fun i j a b => (h i j a b).trans (g i j a b)
theorem EqF.mul {M : Int} {n : Nat} {A B C D : Fm} (h : EqF M n A B) (g : EqF M n C D) : EqF M n (mulF n A C) (mulF n B D) := fun i j a b => Eqm.sum fun k hk => (h i k a hk).mul (g k j hk b)
theorem mulF_assoc (n : Nat) (A B C : Fm) : mulF n (mulF n A B) C = mulF n A (mulF n B C) := by
  funext i j
  show sumN n (fun k => sumN n (fun l => A i l * B l k) * C k j) = sumN n (fun l => A i l * sumN n fun k => B l k * C k j)
  have e1 : ∀ k, sumN n (fun l => A i l * B l k) * C k j = sumN n fun l => A i l * (B l k * C k j) := fun k => by
    rw [Int.mul_comm, ← sumN_mul]
    exact sumN_congr fun l _ => by grind
  have e2 : ∀ l, A i l * sumN n (fun k => B l k * C k j) = sumN n fun k => A i l * (B l k * C k j) := fun l => (sumN_mul n _ _).symm
  rw [sumN_congr fun k _ => e1 k, sumN_comm, sumN_congr fun l _ => (e2 l).symm]
theorem mulF_one {M : Int} (n : Nat) (A : Fm) : EqF M n (mulF n A oneF) A := fun i j hi hj => by
  have : mulF n A oneF i j = A i j := by
    show sumN n (fun k => A i k * oneF k j) = _
    rw [sumN_congr (g := fun k => if k = j then A i j else 0) fun k hk => ?_, sumN_one hj]
    show A i k * (if k = j then 1 else 0) = _
    split
    · rename_i e; rw [e]; simp
    · simp
  rw [this]
  exact .refl _ _
theorem one_mulF {M : Int} (n : Nat) (A : Fm) : EqF M n (mulF n oneF A) A := fun i j hi hj => by
  have : mulF n oneF A i j = A i j := by
    show sumN n (fun k => oneF i k * A k j) = _
    rw [sumN_congr (g := fun k => if k = i then A i j else 0) fun k hk => ?_, sumN_one hi]
    show (if i = k then (1 : Int) else 0) * A k j = _
    by_cases e : k = i
    · subst e; simp
    · rw [if_neg (fun z => e z.symm), if_neg e]; simp
  rw [this]
  exact .refl _ _
def powF (n : Nat) (A : Fm) : Nat → Fm
  | 0 => oneF
  | e + 1 => mulF n (powF n A e) A
theorem powF_add {M : Int} (n : Nat) (A : Fm) (a b : Nat) : EqF M n (powF n A (a + b)) (mulF n (powF n A a) (powF n A b)) := by
  induction b with
  | zero => exact (mulF_one n _).symm
  | succ b ih =>
    show EqF M n (mulF n (powF n A (a + b)) A) (mulF n (powF n A a) (mulF n (powF n A b) A))
    rw [← mulF_assoc]
    exact ih.mul (.refl _ _ _)
theorem powF_sq {M : Int} (n : Nat) (A : Fm) (m : Nat) : EqF M n (powF n (mulF n A A) m) (powF n A (2 * m)) := by
  induction m with
  | zero => exact .refl _ _ _
  | succ m ih =>
    show EqF M n (mulF n (powF n (mulF n A A) m) (mulF n A A)) (powF n A (2 * m + 1 + 1))
    refine (ih.mul (.refl _ _ _)).trans ?_
    rw [← mulF_assoc]
    exact .refl _ _ _
theorem powF_congr {M : Int} {n : Nat} {A B : Fm} (h : EqF M n A B) (m : Nat) : EqF M n (powF n A m) (powF n B m) := by
  induction m with
  | zero => exact .refl _ _ _
  | succ m ih => exact ih.mul h
/-! matrices as lists -/
def ent (A : Mat) : Fm := fun i j => (A.getD i []).getD j 0
def Shp (h w : Nat) (A : Mat) : Prop := A.length = h ∧ ∀ r ∈ A, r.length = w
def MRed (M : Int) (A : Mat) : Prop := ∀ r ∈ A, RRed M r
theorem dot_sum : ∀ (n : Nat) (a b : List Int), a.length = n → b.length = n → dotZ a b = sumN n fun k => a.getD k 0 * b.getD k 0 := by
  intro n
  induction n with
  | zero =>
    intro a b h1 h2
    rw [List.eq_nil_of_length_eq_zero h1]
    rfl
  | succ n ih =>
    intro a b h1 h2
    have ea := List.dropLast_concat_getLast (l := a) (by intro z; rw [z] at h1; simp at h1)
    have eb := List.dropLast_concat_getLast (l := b) (by intro z; rw [z] at h2; simp at h2)
    have la : a.dropLast.length = n := by simp [h1]
    have lb : b.dropLast.length = n := by simp [h2]
    generalize a.getLast _ = x at ea
    generalize b.getLast _ = y at eb
    generalize a.dropLast = a' at *
    generalize b.dropLast = b' at *
    subst ea eb
    unfold dotZ
    rw [List.zipWith_append (by omega), sumN]
    have := ih a' b' la lb
    unfold dotZ at this
    simp only [List.sum_append, this, List.zipWith_cons_cons, List.zipWith_nil_right, List.sum_cons, List.sum_nil, Int.add_zero]
    congr 1
    · refine sumN_congr fun k hk => ?_
      rw [List.getD_eq_getElem?_getD, List.getD_eq_getElem?_getD, List.getD_eq_getElem?_getD, List.getD_eq_getElem?_getD, List.getElem?_append_left (by omega), List.getElem?_append_left (by omega)]
    · simp [List.getD_eq_getElem?_getD, ← la, List.getElem?_append_right]
      rw [show a'.length = b'.length by omega]
      simp
theorem ent_at {A : Mat} {i : Nat} {r : Row} (h : A[i]? = some r) (j : Nat) : ent A i j = r.getD j 0 := by
  have e : A.getD i [] = r := by
    rw [List.getD_eq_getElem?_getD, h]
    rfl
  unfold ent
  rw [e]
theorem shp_at {h w : Nat} {A : Mat} (s : Shp h w A) {i : Nat} (hi : i < h) : ∃ r, A[i]? = some r ∧ r.length = w := ⟨A[i]'(by rw [s.1]; exact hi), List.getElem?_eq_getElem _, s.2 _ (List.getElem_mem _)⟩
theorem mat_ext {h w : Nat} {A B : Mat} (sA : Shp h w A) (sB : Shp h w B) (e : ∀ i j, i < h → j < w → ent A i j = ent B i j) : A = B := by
  apply List.ext_getElem?
  intro i
  by_cases hi : i < h
  · obtain ⟨a, ha, la⟩ := shp_at sA hi
    obtain ⟨b, hb, lb⟩ := shp_at sB hi
    rw [ha, hb]
    congr 1
    apply List.ext_getElem?
    intro j
    by_cases hj : j < w
    · have := e i j hi hj
      rw [ent_at ha, ent_at hb, List.getD_eq_getElem?_getD, List.getD_eq_getElem?_getD, List.getElem?_eq_getElem (by omega), List.getElem?_eq_getElem (by omega)] at this
      rw [List.getElem?_eq_getElem (by omega), List.getElem?_eq_getElem (by omega)]
      exact congrArg some this
    · rw [List.getElem?_eq_none (by omega), List.getElem?_eq_none (by omega)]
  · rw [List.getElem?_eq_none (by rw [sA.1]; omega), List.getElem?_eq_none (by rw [sB.1]; omega)]
theorem prod_shp {M : Int} {h m n : Nat} {A B : Mat} (sA : Shp h m A) : Shp h n (prodM M n A B) := by
  refine ⟨by simp [prodM, sA.1], fun r hr => ?_⟩
  obtain ⟨a, _, rfl⟩ := List.mem_map.mp hr
  simp [applyM, colsOf]
theorem prod_red {M : Int} (hM : 1 ≤ M) {n : Nat} {A B : Mat} : MRed M (prodM M n A B) := fun r hr x hx => by
  obtain ⟨a, _, rfl⟩ := List.mem_map.mp hr
  obtain ⟨c, _, rfl⟩ := List.mem_map.mp hx
  exact mod_red hM _
theorem ent_prod {M : Int} {h m n : Nat} {A B : Mat} (sA : Shp h m A) (sB : Shp m n B) {i j : Nat} (hi : i < h) (hj : j < n) : ent (prodM M n A B) i j = (sumN m fun k => ent A i k * ent B k j) % M := by
  obtain ⟨a, ha, la⟩ := shp_at sA hi
  have e1 : (prodM M n A B)[i]? = some (applyM M (colsOf n B) a) := by simp [prodM, ha]
  rw [ent_at e1]
  have e2 : (applyM M (colsOf n B) a)[j]? = some (dotZ (B.map fun r => r.getD j 0) a % M) := by
    simp [applyM, colsOf, List.getElem?_range hj]
  rw [List.getD_eq_getElem?_getD, e2, Option.getD_some, dot_sum m _ _ (by simp [sB.1]) la]
  congr 1
  refine sumN_congr fun k hk => ?_
  obtain ⟨b, hb, lb⟩ := shp_at sB hk
  rw [ent_at ha, ent_at hb, Int.mul_comm]
  congr 1
  rw [List.getD_eq_getElem?_getD, List.getElem?_map, hb]
  rfl
theorem prod_F {M : Int} {n : Nat} {A B : Mat} (sA : Shp n n A) (sB : Shp n n B) : EqF M n (ent (prodM M n A B)) (mulF n (ent A) (ent B)) := fun i j hi hj => by
  rw [ent_prod sA sB hi hj]
  exact Eqm.mod _ _
theorem one_shp (n : Nat) : Shp n n (idM n) := ⟨by simp [idM], fun r hr => by
  obtain ⟨p, _, rfl⟩ := List.mem_map.mp hr
  simp [unitRow]⟩
theorem one_ent {n i j : Nat} (hi : i < n) (hj : j < n) : ent (idM n) i j = oneF i j := by
  have e : (idM n)[i]? = some (unitRow n i) := by simp [idM, List.getElem?_range hi]
  rw [ent_at e, List.getD_eq_getElem?_getD]
  simp only [unitRow, List.getElem?_map, List.getElem?_range hj, Option.map_some, Option.getD_some]
  show (if j = i then (1 : Int) else 0) = if i = j then 1 else 0
  by_cases e : i = j
  · rw [if_pos e, if_pos e.symm]
  · rw [if_neg e, if_neg (fun z => e z.symm)]
theorem one_red {M : Int} (hM : 2 ≤ M) (n : Nat) : MRed M (idM n) := fun r hr x hx => by
  obtain ⟨p, _, rfl⟩ := List.mem_map.mp hr
  obtain ⟨j, _, rfl⟩ := List.mem_map.mp hx
  split <;> omega
theorem mred_ent {M : Int} {h w : Nat} {A : Mat} (sA : Shp h w A) (r : MRed M A) {i j : Nat} (hi : i < h) (hj : j < w) : 0 ≤ ent A i j ∧ ent A i j < M := by
  obtain ⟨a, ha, la⟩ := shp_at sA hi
  rw [ent_at ha, List.getD_eq_getElem?_getD, List.getElem?_eq_getElem (by omega)]
  exact r a (List.mem_of_getElem? ha) _ (List.getElem_mem _)
theorem mat_eqm {M : Int} {n : Nat} {A B : Mat} (sA : Shp n n A) (sB : Shp n n B) (rA : MRed M A) (rB : MRed M B) (e : EqF M n (ent A) (ent B)) : A = B :=
  mat_ext sA sB fun i j hi hj => (e i j hi hj).red (mred_ent sA rA hi hj) (mred_ent sB rB hi hj)
theorem mpow_ok {M : Int} (hM : 2 ≤ M) {n : Nat} {A : Mat} (sA : Shp n n A) : ∀ e, Shp n n (mpow M n A e) ∧ MRed M (mpow M n A e) ∧ EqF M n (ent (mpow M n A e)) (powF n (ent A) e)
  | 0 => ⟨one_shp n, one_red hM n, fun i j hi hj => by
    show Eqm M (ent (idM n) i j) (oneF i j)
    rw [one_ent hi hj]
    exact .refl _ _⟩
  | e + 1 => by
    obtain ⟨a, b, c⟩ := mpow_ok hM sA e
    exact ⟨prod_shp a, prod_red (by omega), (prod_F a sA).trans (c.mul (.refl _ _ _))⟩
end Wk

/-! what undone finds: spans of rows modulo M -/
namespace Wk
abbrev Vec := Nat → Int
def fn (r : Row) : Vec := fun j => r.getD j 0
inductive InS (M : Int) (n : Nat) (G : Vec → Prop) : Vec → Prop
  | zero {v : Vec} : (∀ j, j < n → Eqm M (v j) 0) → InS M n G v
  | add {s v w : Vec} (c : Int) : G s → InS M n G v → (∀ j, j < n → Eqm M (w j) (v j + c * s j)) → InS M n G w
theorem InS.congr {M : Int} {n : Nat} {G : Vec → Prop} {v w : Vec} (h : InS M n G v) (e : ∀ j, j < n → Eqm M (w j) (v j)) : InS M n G w := by
  cases h with
  | zero h => exact .zero fun j hj => (e j hj).trans (h j hj)
  | add c g h f => exact .add c g h fun j hj => (e j hj).trans (f j hj)
theorem InS.of {M : Int} {n : Nat} {G : Vec → Prop} {s : Vec} (h : G s) : InS M n G s := .add (v := fun _ => 0) 1 h (.zero fun _ _ => .refl _ _) fun j _ => by
  rw [Int.zero_add, Int.one_mul]
  exact .refl _ _
theorem InS.scale {M : Int} {n : Nat} {G : Vec → Prop} {v u : Vec} (a : Int) (h : InS M n G v) (e : ∀ j, j < n → Eqm M (u j) (a * v j)) : InS M n G u := by
  induction h generalizing u with
  | zero h => exact .zero fun j hj => (e j hj).trans (((Eqm.refl M a).mul (h j hj)).trans (.eq (by simp)))
  | add c g h f ih =>
    rename_i s v w
    exact .add (a * c) g (ih (u := fun j => a * v j) fun j _ => .refl _ _) fun j hj => (e j hj).trans (((Eqm.refl M a).mul (f j hj)).trans (.eq (by grind)))
theorem InS.sum {M : Int} {n : Nat} {G : Vec → Prop} {v w u : Vec} (h : InS M n G v) (g : InS M n G w) (e : ∀ j, j < n → Eqm M (u j) (v j + w j)) : InS M n G u := by
  induction h generalizing u with
  | zero h => exact g.congr fun j hj => (e j hj).trans (((h j hj).add (.refl _ _)).trans (.eq (by simp)))
  | add c k h f ih =>
    rename_i s v' w'
    exact .add c k (ih (u := fun j => v' j + w j) fun j _ => .refl _ _) fun j hj => (e j hj).trans (((f j hj).add (.refl _ _)).trans (.eq (by grind)))
theorem InS.comb {M : Int} {n : Nat} {G : Vec → Prop} {v w u : Vec} (a b : Int) (h : InS M n G v) (g : InS M n G w) (e : ∀ j, j < n → Eqm M (u j) (a * v j + b * w j)) : InS M n G u :=
  (h.scale a (u := fun j => a * v j) fun _ _ => .refl _ _).sum (g.scale b (u := fun j => b * w j) fun _ _ => .refl _ _) e
theorem InS.trans {M : Int} {n : Nat} {G G' : Vec → Prop} (t : ∀ s, G s → InS M n G' s) {v : Vec} (h : InS M n G v) : InS M n G' v := by
  induction h with
  | zero h => exact .zero h
  | add c g h f ih => exact ih.comb 1 c (t _ g) fun j hj => (f j hj).trans (.eq (by simp))
theorem InS.mono {M : Int} {n : Nat} {G G' : Vec → Prop} (t : ∀ s, G s → G' s) {v : Vec} (h : InS M n G v) : InS M n G' v := h.trans fun s g => .of (t s g)
theorem InS.sumN {M : Int} {n : Nat} {G : Vec → Prop} {m : Nat} {v : Nat → Vec} (c : Nat → Int) (h : ∀ k, k < m → InS M n G (v k)) {u : Vec} (e : ∀ j, j < n → Eqm M (u j) (sumN m fun k => c k * v k j)) : InS M n G u := by
  induction m generalizing u with
  | zero => exact .zero e
  | succ m ih => exact (ih (fun k hk => h k (by omega)) (u := fun j => Wk.sumN m fun k => c k * v k j) fun _ _ => .refl _ _).comb 1 (c m) (h m (by omega)) fun j hj => (e j hj).trans (.eq (by rw [Wk.sumN]; simp))
/-- the steps from place p on; these and one row more -/
def GS (S : List (Option Row)) (p : Nat) (v : Vec) : Prop := ∃ q s, p ≤ q ∧ S[q]? = some (some s) ∧ v = fn s
def GR (S : List (Option Row)) (p : Nat) (r : Row) (v : Vec) : Prop := GS S p v ∨ v = fn r
theorem mul_fn {M f : Int} {r : Row} (j : Nat) : Eqm M (fn (mulRow M f r) j) (f * fn r j) := by
  unfold fn mulRow
  rw [List.getD_eq_getElem?_getD, List.getD_eq_getElem?_getD, List.getElem?_map]
  cases r[j]? with
  | none => exact .eq (by simp)
  | some x => exact Eqm.mod _ _
theorem comb_fn {M f g : Int} {r s : Row} (h : r.length = s.length) (j : Nat) : Eqm M (fn (Wk.comb M f r g s) j) (f * fn r j + g * fn s j) := by
  unfold fn Wk.comb
  rw [List.getD_eq_getElem?_getD, List.getD_eq_getElem?_getD, List.getD_eq_getElem?_getD, List.getElem?_zipWith]
  by_cases hj : j < r.length
  · rw [List.getElem?_eq_getElem hj, List.getElem?_eq_getElem (by omega)]
    exact Eqm.mod _ _
  · rw [List.getElem?_eq_none (by omega), List.getElem?_eq_none (by omega)]
    exact .eq (by simp)
theorem set_at {S : List (Option Row)} {i q : Nat} {s : Row} (hi : i < S.length) : (S.set i (some s))[q]? = if q = i then some (some s) else S[q]? := by
  by_cases e : q = i
  · subst e
    rw [if_pos rfl, List.getElem?_set_self hi]
  · rw [if_neg e, List.getElem?_set_ne (fun z => e z.symm)]
/-- what a step of a put does: rows of before lie in the span of after -/
theorem swap {M : Int} {W n i : Nat} {S S' : List (Option Row)} {r r' : Row} {N : Int} (wf : WF M W n S) (hi : i < n) (hr : r.length = W) (st : PutStep M i S r N S' r') :
    (∀ p, p ≤ i → ∀ v, GR S p r v → InS M n (GR S' p r') v) ∧ (∀ p, i < p → ∀ v, GS S p v → GS S' p v) ∧
    (∀ q, q ≠ i → S'[q]? = S[q]?) := by
  have hl : i < S.length := by rw [wf.len]; exact hi
  rcases st with ⟨e0, g, lf, f, hg, g1, hbz, rfl, rfl⟩ | ⟨s, P, e0, hP, st⟩
  · have oth : ∀ q, q ≠ i → (S.set i (some (mulRow M f r)))[q]? = S[q]? := fun q hq => by rw [set_at hl, if_neg hq]
    have hgM : g ∣ M := hg ▸ Int.gcd_dvd_left ..
    have hgN : g ∣ N := hg ▸ Int.gcd_dvd_right ..
    refine ⟨fun p hp v hv => ?_, fun p hp v ⟨q, s, h1, h2, h3⟩ => ⟨q, s, h1, by rw [oth q (by omega)]; exact h2, h3⟩, oth⟩
    rcases hv with ⟨q, s, h1, h2, h3⟩ | rfl
    · refine .of (.inl ⟨q, s, h1, ?_, h3⟩)
      rw [oth q (fun z => by rw [z, e0] at h2; cases h2)]
      exact h2
    · have a1 : InS M n (GR (S.set i (some (mulRow M f r))) p (mulRow M (M / g) r)) (fn (mulRow M f r)) := .of (.inl ⟨i, _, hp, by rw [set_at hl, if_pos rfl], rfl⟩)
      have a2 : InS M n (GR (S.set i (some (mulRow M f r))) p (mulRow M (M / g) r)) (fn (mulRow M (M / g) r)) := .of (.inr rfl)
      refine a1.comb (N / g) lf a2 fun j _ => ?_
      obtain ⟨a, rfl⟩ := hgM
      obtain ⟨b, rfl⟩ := hgN
      rw [Int.mul_ediv_cancel_left _ (by omega), Int.mul_ediv_cancel_left _ (by omega)]
      refine Eqm.trans (.eq ?_) (((Eqm.refl _ b).mul (mul_fn j).symm).add ((Eqm.refl _ lf).mul (mul_fn j).symm))
      have e : lf * a + f * b = 1 := by
        have : g * (lf * a + f * b) = g * 1 := by grind
        exact Int.eq_of_mul_eq_mul_left (by omega) this
      have : b * (f * fn r j) + lf * (a * fn r j) = (lf * a + f * b) * fn r j := by grind
      rw [this, e, Int.one_mul]
  · obtain ⟨sl, sr, ⟨P', hP', p1, pM⟩, sz⟩ := wf.row i s e0
    rw [hP] at hP'
    cases hP'
    rcases st with ⟨h0, rfl, rfl⟩ | ⟨g, lf, f, hg, g1, hbz, rfl, rfl⟩
    · refine ⟨fun p hp v hv => ?_, fun p hp v h => h, fun _ _ => rfl⟩
      rcases hv with h | rfl
      · exact .of (.inl h)
      · have a1 : InS M n (GR S' p (Wk.comb M 1 r (-(N / P)) s)) (fn s) := .of (.inl ⟨i, s, hp, e0, rfl⟩)
        have a2 : InS M n (GR S' p (Wk.comb M 1 r (-(N / P)) s)) (fn (Wk.comb M 1 r (-(N / P)) s)) := .of (.inr rfl)
        refine a1.comb (N / P) 1 a2 fun j _ => ?_
        refine Eqm.trans (.eq ?_) ((Eqm.refl _ _).add ((Eqm.refl _ 1).mul (comb_fn (by omega) j).symm))
        grind
    · have oth : ∀ q, q ≠ i → (S.set i (some (Wk.comb M f r lf s)))[q]? = S[q]? := fun q hq => by rw [set_at hl, if_neg hq]
      have hgP : g ∣ P := hg ▸ Int.gcd_dvd_left ..
      have hgN : g ∣ N := hg ▸ Int.gcd_dvd_right ..
      refine ⟨fun p hp v hv => ?_, fun p hp v ⟨q, s, h1, h2, h3⟩ => ⟨q, s, h1, by rw [oth q (by omega)]; exact h2, h3⟩, oth⟩
      have a1 : InS M n (GR (S.set i (some (Wk.comb M f r lf s))) p (Wk.comb M (P / g) r (-(N / g)) s)) (fn (Wk.comb M f r lf s)) := .of (.inl ⟨i, _, hp, by rw [set_at hl, if_pos rfl], rfl⟩)
      have a2 : InS M n (GR (S.set i (some (Wk.comb M f r lf s))) p (Wk.comb M (P / g) r (-(N / g)) s)) (fn (Wk.comb M (P / g) r (-(N / g)) s)) := .of (.inr rfl)
      obtain ⟨a, rfl⟩ := hgP
      obtain ⟨b, rfl⟩ := hgN
      rw [Int.mul_ediv_cancel_left _ (by omega), Int.mul_ediv_cancel_left _ (by omega)] at a1 a2 ⊢
      have e : lf * a + f * b = 1 := by
        have : g * (lf * a + f * b) = g * 1 := by grind
        exact Int.eq_of_mul_eq_mul_left (by omega) this
      rcases hv with ⟨q, t, h1, h2, h3⟩ | rfl
      · by_cases hq : q = i
        · subst hq
          rw [e0] at h2
          cases h2
          subst h3
          refine a1.comb a (-f) a2 fun j _ => ?_
          refine Eqm.trans (.eq ?_) (((Eqm.refl _ a).mul (comb_fn (by omega) j).symm).add ((Eqm.refl _ (-f)).mul (comb_fn (by omega) j).symm))
          have : a * (f * fn r j + lf * fn s j) + -f * (a * fn r j + -b * fn s j) = (lf * a + f * b) * fn s j := by grind
          rw [this, e, Int.one_mul]
        · exact .of (.inl ⟨q, t, h1, by rw [oth q hq]; exact h2, h3⟩)
      · refine a1.comb b lf a2 fun j _ => ?_
        refine Eqm.trans (.eq ?_) (((Eqm.refl _ b).mul (comb_fn (by omega) j).symm).add ((Eqm.refl _ lf).mul (comb_fn (by omega) j).symm))
        have : b * (f * fn r j + lf * fn s j) + lf * (a * fn r j + -b * fn s j) = (lf * a + f * b) * fn r j := by grind
        rw [this, e, Int.one_mul]
/-- each step times the rest of the modulus lies in the span of those behind it -/
def J3 (M : Int) (n i : Nat) (S : List (Option Row)) (r : Row) : Prop := ∀ q s x, S[q]? = some (some s) → s[q]? = some x → (q < i → InS M n (GR S (q + 1) r) fun j => M / x * fn s j) ∧ (i ≤ q → InS M n (GS S (q + 1)) fun j => M / x * fn s j)
theorem J3.step {M : Int} {W n i : Nat} {S S' : List (Option Row)} {r r' : Row} {N : Int} (hM : 2 ≤ M) (wf : WF M W n S) (hi : i < n) (hr : r.length = W) (rr : RRed M r) (hN : r[i]? = some N) (hN1 : 1 ≤ N) (st : PutStep M i S r N S' r') (J : J3 M n i S r) : J3 M n (i + 1) S' r' := by
  obtain ⟨sw, hi2, oth⟩ := swap wf hi hr st
  have hl : i < S.length := by rw [wf.len]; exact hi
  have hNM : N < M := (rr N (List.mem_of_getElem? hN)).2
  intro q t x hq hx
  refine ⟨fun h => ?_, fun h => ?_⟩
  · by_cases e : q = i
    · subst e
      rcases st with ⟨e0, g, lf, f, hg, g1, hbz, rfl, rfl⟩ | ⟨s, P, e0, hP, st⟩
      · rw [set_at hl, if_pos rfl] at hq
        cases hq
        have hgM : g ∣ M := hg ▸ Int.gcd_dvd_left ..
        have hgN := gcd_le_r (a := M) (b := N) hN1
        have ex : x = g := by
          rw [mulRow_at hN] at hx
          cases hx
          rw [show f * N = g - lf * M by omega, Int.sub_mul_emod_self_right, Int.emod_eq_of_lt (by omega) (by omega)]
        subst ex
        have a2 : InS M n (GR (S.set q (some (mulRow M f r))) (q + 1) (mulRow M (M / x) r)) (fn (mulRow M (M / x) r)) := .of (.inr rfl)
        refine a2.scale f fun j _ => ?_
        refine ((Eqm.refl _ _).mul (mul_fn j)).trans (Eqm.trans (.eq ?_) ((Eqm.refl _ f).mul (mul_fn j).symm))
        grind
      · obtain ⟨sl, sr, ⟨P', hP', p1, pM⟩, sz⟩ := wf.row q s e0
        rw [hP] at hP'
        cases hP'
        have hPM : P < M := (sr P (List.mem_of_getElem? hP)).2
        have jq := (J q s P e0 hP).2 (Nat.le_refl _)
        rcases st with ⟨h0, rfl, rfl⟩ | ⟨g, lf, f, hg, g1, hbz, rfl, rfl⟩
        · rw [e0] at hq
          cases hq
          rw [hP] at hx
          cases hx
          exact jq.mono fun v h => .inl h
        · rw [set_at hl, if_pos rfl] at hq
          cases hq
          have hgP := gcd_le_l (a := P) (b := N) p1
          have ex : x = g := by
            rw [comb_at hN hP] at hx
            cases hx
            rw [show f * N + lf * P = g by omega, Int.emod_eq_of_lt (by omega) (by omega)]
          subst ex
          have hgP' : x ∣ P := hg ▸ Int.gcd_dvd_left ..
          have hgN' : x ∣ N := hg ▸ Int.gcd_dvd_right ..
          have a1 : InS M n (GR (S.set q (some (Wk.comb M f r lf s))) (q + 1) (Wk.comb M (P / x) r (-(N / x)) s)) fun j => M / P * fn s j := jq.mono fun v h => .inl (hi2 _ (Nat.lt_succ_self _) v h)
          have a2 : InS M n (GR (S.set q (some (Wk.comb M f r lf s))) (q + 1) (Wk.comb M (P / x) r (-(N / x)) s)) (fn (Wk.comb M (P / x) r (-(N / x)) s)) := .of (.inr rfl)
          refine a1.comb 1 (M / P * f) a2 fun j _ => ?_
          refine ((Eqm.refl _ _).mul (comb_fn (by omega) j)).trans (Eqm.trans (.eq ?_) ((Eqm.refl _ _).add ((Eqm.refl _ (M / P * f)).mul (comb_fn (by omega) j).symm)))
          obtain ⟨a, rfl⟩ := hgP'
          obtain ⟨b, rfl⟩ := hgN'
          obtain ⟨m, rfl⟩ := pM
          rw [Int.mul_ediv_cancel_left _ (by omega), Int.mul_ediv_cancel_left _ (by omega), Int.mul_ediv_cancel_left _ (by omega), Int.mul_assoc x a m, Int.mul_ediv_cancel_left _ (by omega)]
          have e : lf * a + f * b = 1 := by
            have : x * (lf * a + f * b) = x * 1 := by grind
            exact Int.eq_of_mul_eq_mul_left (by omega) this
          have : 1 * (m * fn s j) + m * f * (a * fn r j + -b * fn s j) = m * a * (f * fn r j) + m * (1 - f * b) * fn s j := by grind
          rw [this, show 1 - f * b = lf * a by omega]
          grind
    · rw [oth q e] at hq
      exact ((J q t x hq hx).1 (by omega)).trans (sw (q + 1) (by omega))
  · rw [oth q (by omega)] at hq
    exact ((J q t x hq hx).2 (by omega)).mono (hi2 (q + 1) (by omega))
theorem J3.skip {M : Int} {n i : Nat} {S : List (Option Row)} {r : Row} (J : J3 M n i S r) : J3 M n (i + 1) S r := fun q s x h1 h2 => by
  refine ⟨fun h => ?_, fun h => (J q s x h1 h2).2 (by omega)⟩
  by_cases e : q < i
  · exact (J q s x h1 h2).1 e
  · exact ((J q s x h1 h2).2 (by omega)).mono fun v h => .inl h
theorem Ch.span {M : Int} {W n i : Nat} {S0 S : List (Option Row)} {r0 r : Row} (c : Ch M S0 r0 i S r) (hM : 2 ≤ M) (wf : WF M W n S0) (hr : r0.length = W) (rr : RRed M r0) (hi : i ≤ n) (J : J3 M n 0 S0 r0) :
    (∀ v, GR S0 0 r0 v → InS M n (GR S 0 r) v) ∧ J3 M n i S r := by
  induction c with
  | base => exact ⟨fun v h => .of h, J⟩
  | skip c h ih =>
    obtain ⟨a, b⟩ := ih (by omega)
    exact ⟨a, b.skip⟩
  | step c h h1 st ih =>
    obtain ⟨a, b⟩ := ih (by omega)
    obtain ⟨w1, w2, w3, w4⟩ := c.wf hM wf hr rr
    obtain ⟨sw, _, _⟩ := swap w1 (by omega) w2 st
    exact ⟨fun v hv => (a v hv).trans (sw 0 (Nat.zero_le _)), b.step hM w1 (by omega) w2 w3 h h1 st⟩
/-- behind a put -/
theorem Ch.done {M : Int} {W n : Nat} {S0 S : List (Option Row)} {r0 r : Row} (c : Ch M S0 r0 n S r) (hM : 2 ≤ M) (wf : WF M W n S0) (hr : r0.length = W) (rr : RRed M r0) (J : ∀ q s x, S0[q]? = some (some s) → s[q]? = some x → InS M n (GS S0 (q + 1)) fun j => M / x * fn s j) :
    (∀ v, GR S0 0 r0 v → InS M n (GS S 0) v) ∧ ∀ q s x, S[q]? = some (some s) → s[q]? = some x → InS M n (GS S (q + 1)) fun j => M / x * fn s j := by
  obtain ⟨a, b⟩ := c.span hM wf hr rr (Nat.le_refl _) fun q s x h1 h2 => ⟨fun h => absurd h (Nat.not_lt_zero _), fun _ => J q s x h1 h2⟩
  obtain ⟨w1, w2, w3, w4⟩ := c.wf hM wf hr rr
  have z : ∀ p v, GR S p r v → InS M n (GS S p) v := fun p v h => by
    rcases h with h | rfl
    · exact .of h
    · refine .zero fun j hj => ?_
      unfold fn
      rw [List.getD_eq_getElem?_getD, w4 j hj]
      exact .refl _ _
  refine ⟨fun v h => (a v h).trans (z 0), fun q s x h1 h2 => ?_⟩
  by_cases h : q < n
  · exact ((b q s x h1 h2).1 h).trans (z (q + 1))
  · exact (b q s x h1 h2).2 (by omega)
end Wk

/-! what undone tells -/
namespace Wk
theorem Puts.span {M : Int} (hM : 2 ≤ M) {n k : Nat} {A : Mat} {S : List (Option Row)} (hA : ∀ r ∈ A, r.length = n) (p : Puts M n A k S) :
    (∀ i a, i < k → A[i]? = some a → InS M n (GS S 0) (fn a)) ∧ ∀ q s x, S[q]? = some (some s) → s[q]? = some x → InS M n (GS S (q + 1)) fun j => M / x * fn s j := by
  induction p with
  | zero => exact ⟨fun i a h => absurd h (Nat.not_lt_zero _), fun q s x h => by
      rw [List.getElem?_replicate] at h
      split at h <;> cases h⟩
  | succ p h c ih =>
    rename_i k S S' a r'
    obtain ⟨i1, i2⟩ := ih
    obtain ⟨o1, o2⟩ := rowOf_ok hM (k := k) (hA _ (List.mem_of_getElem? h))
    obtain ⟨d1, d2⟩ := c.done hM (p.wf hM hA) o1 o2 i2
    refine ⟨fun i b hi hb => ?_, d2⟩
    rcases Nat.lt_succ_iff_lt_or_eq.mp hi with z | z
    · exact (i1 i b z hb).trans fun v hv => d1 v (.inl hv)
    · subst z
      rw [h] at hb
      cases hb
      refine (d1 _ (.inr rfl)).congr fun j hj => ?_
      have hal := hA _ (List.mem_of_getElem? h)
      unfold fn rowOf
      rw [List.getD_eq_getElem?_getD, List.getD_eq_getElem?_getD, List.getElem?_append_left (by simp; omega), List.getElem?_map, List.getElem?_eq_getElem (by omega)]
      exact (Eqm.mod _ _).symm
/-- rows of the span that vanish ahead of p lie in the span of the steps from p on -/
theorem InS.split {M : Int} {n p : Nat} {S : List (Option Row)} {v : Vec} (h : InS M n (GS S p) v) : (∃ s c w, S[p]? = some (some s) ∧ InS M n (GS S (p + 1)) w ∧ ∀ j, j < n → Eqm M (v j) (w j + c * fn s j)) ∨ InS M n (GS S (p + 1)) v := by
  induction h with
  | zero h => exact .inr (.zero h)
  | add c g h f ih =>
    rename_i s v w
    obtain ⟨q, t, h1, h2, rfl⟩ := g
    by_cases e : q = p
    · subst e
      rcases ih with ⟨s, d, u, g1, g2, g3⟩ | g2
      · rw [h2] at g1
        cases g1
        exact .inl ⟨t, d + c, u, h2, g2, fun j hj => (f j hj).trans (((g3 j hj).add (.refl _ _)).trans (.eq (by grind)))⟩
      · exact .inl ⟨t, c, v, h2, g2, f⟩
    · have gt : GS S (p + 1) (fn t) := ⟨q, t, by omega, h2, rfl⟩
      rcases ih with ⟨s, d, u, g1, g2, g3⟩ | g2
      · exact .inl ⟨s, d, fun j => u j + c * fn t j, g1, .add c gt g2 fun _ _ => .refl _ _, fun j hj => (f j hj).trans (((g3 j hj).add (.refl _ _)).trans (.eq (by grind)))⟩
      · exact .inr (.add c gt g2 f)
theorem InS.vanish {M : Int} {W n p : Nat} {S : List (Option Row)} (wf : WF M W n S) (hp : p < n) {v : Vec} (h : InS M n (GS S (p + 1)) v) : Eqm M (v p) 0 := by
  induction h with
  | zero h => exact h p hp
  | add c g h f ih =>
    obtain ⟨q, t, h1, h2, rfl⟩ := g
    have hz := (wf.row q t h2).2.2.2 p (by omega)
    have e : fn t p = 0 := by
      unfold fn
      rw [List.getD_eq_getElem?_getD, hz]
      rfl
    refine (f p hp).trans ?_
    rw [e]
    exact (ih.add (.refl _ _)).trans (.eq (by simp))
theorem InS.down {M : Int} {W n p : Nat} {S : List (Option Row)} (wf : WF M W n S) (J : ∀ q s x, S[q]? = some (some s) → s[q]? = some x → InS M n (GS S (q + 1)) fun j => M / x * fn s j) (hp : p < n) {v : Vec} (h : InS M n (GS S p) v) (h0 : Eqm M (v p) 0) : InS M n (GS S (p + 1)) v := by
  rcases h.split with ⟨s, c, w, g1, g2, g3⟩ | g
  · obtain ⟨_, _, ⟨x, hx, x1, xM⟩, _⟩ := wf.row p s g1
    have e1 : fn s p = x := by
      unfold fn
      rw [List.getD_eq_getElem?_getD, hx]
      rfl
    have e2 := ((g3 p hp).symm.trans h0)
    rw [e1] at e2
    have e3 : Eqm M (c * x) 0 := (((g2.vanish wf hp).symm.add (.refl M (c * x))).trans e2 |> fun z => (Eqm.eq (by simp)).trans z)
    obtain ⟨k, e4⟩ := e3
    obtain ⟨m, rfl⟩ := xM
    have e5 : c = m * k := by
      have : x * c = x * (m * k) := by grind
      exact Int.eq_of_mul_eq_mul_left (by omega) this
    have j := J p s x g1 hx
    rw [Int.mul_ediv_cancel_left _ (by omega)] at j
    refine g2.comb 1 k j fun q hq => (g3 q hq).trans (.eq ?_)
    rw [e5]
    grind
  · exact g
theorem und_bad {M : Int} (hM : 2 ≤ M) {n : Nat} {A : Mat} {S : List (Option Row)} (sA : Shp n n A) (p : Puts M n A n S) (bad : ∃ i, i < n ∧ (S[i]? = some none ∨ ∃ s x, S[i]? = some (some s) ∧ s[i]? = some x ∧ x ≠ 1)) (B : Fm) (hB : EqF M n (mulF n B (ent A)) oneF) : False := by
  obtain ⟨i, hi, bad⟩ := bad
  have wf := p.wf hM sA.2
  obtain ⟨s1, J⟩ := p.span hM sA.2
  have e0 : InS M n (GS S 0) (fun j => oneF i j) := by
    refine InS.sumN (m := n) (v := fun k j => ent A k j) (B i) (fun k hk => ?_) fun j hj => (hB i j hi hj).symm
    obtain ⟨a, ha, la⟩ := shp_at sA hk
    exact (s1 k a hk ha).congr fun j _ => .eq (ent_at ha j)
  have ep : ∀ q, q ≤ i → InS M n (GS S q) (fun j => oneF i j) := by
    intro q
    induction q with
    | zero => exact fun _ => e0
    | succ q ih =>
      intro hq
      refine (ih (by omega)).down wf J (by omega) (.eq ?_)
      show (if i = q then (1 : Int) else 0) = 0
      rw [if_neg (by omega)]
  have ei := ep i (Nat.le_refl _)
  have one : oneF i i = 1 := by
    show (if i = i then (1 : Int) else 0) = 1
    rw [if_pos rfl]
  rcases ei.split with ⟨s, c, w, g1, g2, g3⟩ | g
  · obtain ⟨_, _, ⟨x, hx, x1, xM⟩, _⟩ := wf.row i s g1
    have e1 : fn s i = x := by
      unfold fn
      rw [List.getD_eq_getElem?_getD, hx]
      rfl
    have e2 : Eqm M (oneF i i) (w i + c * fn s i) := g3 i hi
    rw [one, e1] at e2
    obtain ⟨k, e3⟩ := (e2.trans ((g2.vanish wf hi).add (.refl M (c * x))))
    have hx1 : x ∣ 1 := by
      obtain ⟨m, rfl⟩ := xM
      exact ⟨c + m * k, by grind⟩
    have hx2 : x = 1 := by
      have := Int.le_of_dvd (by decide) hx1
      omega
    rcases bad with h | ⟨t, y, h1, h2, h3⟩
    · rw [h] at g1
      cases g1
    · rw [h1] at g1
      cases g1
      rw [h2] at hx
      cases hx
      exact h3 hx2
  · have e2 : Eqm M (oneF i i) 0 := g.vanish wf hi
    rw [one] at e2
    obtain ⟨k, e3⟩ := e2
    have : M ∣ 1 := ⟨k, by omega⟩
    have := Int.le_of_dvd (by decide) this
    omega
/-! the rows behind are what the rows ahead are made of -/
def Rel (M : Int) (n : Nat) (A : Mat) (r : Row) : Prop := r.length = 2 * n ∧ ∀ j, j < n → Eqm M (fn r j) (sumN n fun k => fn r (n + k) * ent A k j)
theorem rel_mul {M f : Int} {n : Nat} {A : Mat} {r : Row} (h : Rel M n A r) : Rel M n A (mulRow M f r) := by
  refine ⟨by simp [mulRow, h.1], fun j hj => ?_⟩
  refine (mul_fn j).trans (((Eqm.refl M f).mul (h.2 j hj)).trans ?_)
  rw [← sumN_mul]
  refine Eqm.sum fun k _ => Eqm.trans (.eq (by grind)) ((mul_fn (n + k)).symm.mul (.refl _ _))
theorem rel_comb {M f g : Int} {n : Nat} {A : Mat} {r s : Row} (h : Rel M n A r) (h2 : Rel M n A s) : Rel M n A (comb M f r g s) := by
  have hl : r.length = s.length := by rw [h.1, h2.1]
  refine ⟨by simp [comb, h.1, h2.1], fun j hj => ?_⟩
  refine (comb_fn hl j).trans ((((Eqm.refl M f).mul (h.2 j hj)).add ((Eqm.refl M g).mul (h2.2 j hj))).trans ?_)
  rw [← sumN_mul, ← sumN_mul, ← sumN_add]
  refine Eqm.sum fun k _ => Eqm.trans (.eq (by grind)) ((comb_fn hl (n + k)).symm.mul (.refl _ _))
theorem rel_row {M : Int} {n k : Nat} {A : Mat} (sA : Shp n n A) {a : Row} (hk : k < n) (h : A[k]? = some a) : Rel M n A (rowOf M n a k) := by
  have la := sA.2 a (List.mem_of_getElem? h)
  refine ⟨by simp [rowOf, unitRow, la]; omega, fun j hj => ?_⟩
  have e1 : Eqm M (fn (rowOf M n a k) j) (ent A k j) := by
    rw [ent_at h]
    unfold fn rowOf
    rw [List.getD_eq_getElem?_getD, List.getD_eq_getElem?_getD, List.getElem?_append_left (by simp; omega), List.getElem?_map, List.getElem?_eq_getElem (by omega)]
    exact Eqm.mod _ _
  refine e1.trans (.eq ?_)
  rw [sumN_congr (g := fun q => if q = k then ent A k j else 0) fun q hq => ?_, sumN_one hk]
  have e2 : fn (rowOf M n a k) (n + q) = if q = k then 1 else 0 := by
    unfold fn rowOf
    rw [List.getD_eq_getElem?_getD, List.getElem?_append_right (by simp; omega)]
    simp [unitRow, la, List.getElem?_range hq]
  rw [e2]
  by_cases e : q = k
  · subst e
    simp
  · rw [if_neg e, if_neg e]
    simp
def AllRel (M : Int) (n : Nat) (A : Mat) (S : List (Option Row)) : Prop := ∀ (q : Nat) (s : Row), S[q]? = some (some s) → Rel M n A s
theorem AllRel.set {M : Int} {n : Nat} {A : Mat} {S : List (Option Row)} (h : AllRel M n A S) {s : Row} (hs : Rel M n A s) (i : Nat) : AllRel M n A (S.set i (some s)) := fun q t e => by
  by_cases z : i = q
  · subst z
    by_cases hl : i < S.length
    · rw [List.getElem?_set_self hl] at e
      cases e
      exact hs
    · rw [List.getElem?_eq_none (by rw [List.length_set]; omega)] at e
      cases e
  · rw [List.getElem?_set_ne z] at e
    exact h q t e
theorem Ch.rel {M : Int} {n i : Nat} {A : Mat} {S0 S : List (Option Row)} {r0 r : Row} (c : Ch M S0 r0 i S r) (h0 : AllRel M n A S0) (hr : Rel M n A r0) : AllRel M n A S ∧ Rel M n A r := by
  induction c with
  | base => exact ⟨h0, hr⟩
  | skip c h ih => exact ih
  | step c h h1 st ih =>
    obtain ⟨a, b⟩ := ih
    rcases st with ⟨e0, g, lf, f, hg, g1, hbz, rfl, rfl⟩ | ⟨s, P, e0, hP, st⟩
    · exact ⟨a.set (rel_mul b) _, rel_mul b⟩
    · have hs := a _ _ e0
      rcases st with ⟨_, rfl, rfl⟩ | ⟨g, lf, f, hg, g1, hbz, rfl, rfl⟩
      · exact ⟨a, rel_comb b hs⟩
      · exact ⟨a.set (rel_comb b hs) _, rel_comb b hs⟩
theorem Puts.rel {M : Int} {n k : Nat} {A : Mat} {S : List (Option Row)} (sA : Shp n n A) (p : Puts M n A k S) : AllRel M n A S := by
  induction p with
  | zero =>
    intro q s e
    rw [List.getElem?_replicate] at e
    split at e <;> cases e
  | succ p h c ih =>
    have hk := (List.getElem?_eq_some_iff.mp h).1
    exact (c.rel ih (rel_row sA (by rw [← sA.1]; exact hk) h)).1
theorem lessen_rel {M : Int} {n : Nat} {A : Mat} : ∀ {L : List (Nat × Row)} {r : Row}, (∀ q s, (q, s) ∈ L → Rel M n A s) → Rel M n A r → Rel M n A (lessen M r L)
  | [], r, _, h => h
  | (q, s) :: L, r, hL, h => by
    unfold lessen
    refine lessen_rel (fun q s m => hL q s (List.mem_cons_of_mem _ m)) ?_
    split
    · exact rel_comb h (hL q s List.mem_cons_self)
    · exact h
/-- behind lessen each place of a row behind is less than its pivot -/
theorem lessen_lt {M : Int} {W : Nat} (hM : 1 ≤ M) : ∀ {L : List (Nat × Row)} {r : Row}, LOk M W L → L.Pairwise (fun a b => b.2[a.1]? = some 0) → r.length = W → RRed M r → ∀ q s, (q, s) ∈ L → fn (lessen M r L) q < fn s q
  | [], _, _, _, _, _, q, s, h => by cases h
  | (p, t) :: L, r, hL, hp, h1, h2, q, s, h => by
    obtain ⟨a, b, c, e⟩ := hL p t List.mem_cons_self
    have hL2 : LOk M W L := fun q s h => hL q s (List.mem_cons_of_mem _ h)
    rw [List.pairwise_cons] at hp
    have hg : ∀ {r : Row}, r.length = W → RRed M r → 0 ≤ r.getD p 0 ∧ r.getD p 0 < M ∧ r[p]? = some (r.getD p 0) := fun {r} hl hr => by
      have e1 : r[p]? = some (r.getD p 0) := by rw [List.getD_eq_getElem?_getD, List.getElem?_eq_getElem (by omega)]; rfl
      exact ⟨(hr _ (List.mem_of_getElem? e1)).1, (hr _ (List.mem_of_getElem? e1)).2, e1⟩
    obtain ⟨t0, t1, t2⟩ := hg a b
    obtain ⟨r0, r1, r2⟩ := hg h1 h2
    unfold lessen
    have key : ∃ u : Row, (if r.getD p 0 ≥ t.getD p 0 then comb M 1 r (-(r.getD p 0 / t.getD p 0)) t else r) = u ∧ u.length = W ∧ RRed M u ∧ u.getD p 0 < t.getD p 0 := by
      split
      · obtain ⟨z1, z2⟩ := less_step (f := -(r.getD p 0 / t.getD p 0)) hM h1 a
        refine ⟨_, rfl, z1, z2, ?_⟩
        have e3 := comb_at (M := M) (f := 1) (g := -(r.getD p 0 / t.getD p 0)) r2 t2
        rw [List.getD_eq_getElem?_getD (l := comb M 1 r _ t), e3, Option.getD_some]
        generalize r.getD p 0 = x at *
        generalize t.getD p 0 = y at *
        have m1 := Int.emod_add_mul_ediv x y
        have m2 := Int.emod_lt_of_pos x (show 0 < y by omega)
        have m3 := Int.emod_nonneg x (show y ≠ 0 by omega)
        rw [show 1 * x + -(x / y) * y = x % y by grind, Int.emod_eq_of_lt m3 (by omega)]
        exact m2
      · rename_i hlt
        exact ⟨r, rfl, h1, h2, by omega⟩
    obtain ⟨u, hu, u1, u2, u3⟩ := key
    rw [hu]
    rcases List.mem_cons.mp h with h | h
    · cases h
      obtain ⟨_, _, y3⟩ := lessen_ok hM hL2 u1 u2
      obtain ⟨_, _, v2⟩ := hg u1 u2
      have := y3 p _ v2 fun q s hm => hp.1 (q, s) hm
      unfold fn
      rw [List.getD_eq_getElem?_getD (l := lessen M u L), this]
      exact u3
    · exact lessen_lt hM hL2 hp.2 u1 u2 q s h
theorem settle_full {M : Int} {n : Nat} {S : List (Option Row)} (full : ∀ i, i < n → ∃ s, S[i]? = some (some s)) : ∀ i, i ≤ n → (settle M n S i).map (·.1) = (List.range i).map (n - i + ·)
  | 0, _ => rfl
  | i + 1, hi => by
    obtain ⟨s, hs⟩ := full (n - 1 - i) (by omega)
    have e : S.getD (n - 1 - i) none = some s := by rw [List.getD_eq_getElem?_getD, hs]; rfl
    have ih := settle_full (M := M) full i (by omega)
    have e2 : settle M n S (i + 1) = (n - 1 - i, lessen M s (settle M n S i)) :: settle M n S i := by
      show (match S.getD (n - 1 - i) none with | none => _ | some r => _) = _
      rw [e]
    rw [e2, List.map_cons, ih, List.range_succ_eq_map, List.map_cons, List.map_map]
    congr 1
    · show n - 1 - i = n - (i + 1) + 0
      omega
    · refine List.map_congr_left fun k _ => ?_
      show n - i + k = n - (i + 1) + (k + 1)
      omega
theorem settle_pw {M : Int} {W n : Nat} {S : List (Option Row)} (hM : 2 ≤ M) (wf : WF M W n S) (hn : n ≤ W) : ∀ i, i ≤ n → (settle M n S i).Pairwise (fun a b => b.2[a.1]? = some 0)
  | 0, _ => .nil
  | i + 1, hi => by
    have ih := settle_pw hM wf hn i (by omega)
    unfold settle
    split
    · exact ih
    · rw [List.pairwise_cons]
      refine ⟨fun qs h => ?_, ih⟩
      obtain ⟨b1, _, _, _, b5, _⟩ := settle_ok hM wf hn i (by omega) qs.1 qs.2 h
      exact b5 _ (by show n - 1 - i < qs.1; omega)
theorem settle_rel {M : Int} {n : Nat} {A : Mat} {S : List (Option Row)} (h : AllRel M n A S) : ∀ i q s, (q, s) ∈ settle M n S i → Rel M n A s
  | 0, q, s, m => by simp [settle] at m
  | i + 1, q, s, m => by
    unfold settle at m
    split at m
    · exact settle_rel h i q s m
    · rename_i r e
      rcases List.mem_cons.mp m with m | m
      · cases m
        refine lessen_rel (settle_rel h i) (h (n - 1 - i) r ?_)
        rw [List.getD_eq_getElem?_getD] at e
        cases z : S[n - 1 - i]? with
        | none => rw [z] at e; cases e
        | some o => rw [z] at e; exact congrArg some e
      · exact settle_rel h i q s m
/-- pivots of 1: a settled row is less than 1 at the places of the rows behind -/
theorem settle_one {M : Int} {W n : Nat} {S : List (Option Row)} (hM : 2 ≤ M) (wf : WF M W n S) (hn : n ≤ W) (good : ∀ i, i < n → ∃ s, S[i]? = some (some s) ∧ s[i]? = some 1) : ∀ i, i ≤ n → ∀ q s, (q, s) ∈ settle M n S i → ∀ p, q < p → p < n → fn s p = 0
  | 0, _, q, s, m => by simp [settle] at m
  | i + 1, hi, q, s, m => by
    have ih := settle_one hM wf hn good i (by omega)
    have full : ∀ i, i < n → ∃ s, S[i]? = some (some s) := fun i h => by
      obtain ⟨s, h1, _⟩ := good i h
      exact ⟨s, h1⟩
    have hf := settle_full (M := M) full i (by omega)
    have hL := settle_lok hM wf hn (show i ≤ n by omega)
    have hpw := settle_pw hM wf hn i (by omega)
    have hso := settle_ok hM wf hn i (by omega)
    unfold settle at m
    split at m
    · exact ih q s m
    · rename_i r e
      rcases List.mem_cons.mp m with m | m
      · cases m
        intro p h1 h2
        have e2 : S[n - 1 - i]? = some (some r) := by
          rw [List.getD_eq_getElem?_getD] at e
          cases z : S[n - 1 - i]? with
          | none => rw [z] at e; cases e
          | some o => rw [z] at e; exact congrArg some e
        obtain ⟨a1, a2, _, _⟩ := wf.row _ _ e2
        have hp : p ∈ (settle M n S i).map (·.1) := by
          rw [hf]
          exact List.mem_map.mpr ⟨p - (n - i), List.mem_range.mpr (by omega), by omega⟩
        obtain ⟨⟨p', t⟩, hm, rfl⟩ := List.mem_map.mp hp
        have lt := lessen_lt (show 1 ≤ M by omega) hL hpw a1 a2 _ t hm
        obtain ⟨_, _, _, _, _, r0, x, c1, c2, c3, _⟩ := hso _ t hm
        obtain ⟨s1, d1, d2⟩ := good _ h2
        rw [d1] at c1
        cases c1
        rw [d2] at c2
        cases c2
        have et : fn t p' = 1 := by
          unfold fn
          rw [List.getD_eq_getElem?_getD, c3]
          rfl
        obtain ⟨y1, y2, _⟩ := lessen_ok (show 1 ≤ M by omega) hL a1 a2
        have ge : 0 ≤ fn (lessen M r (settle M n S i)) p' := by
          unfold fn
          rw [List.getD_eq_getElem?_getD, List.getElem?_eq_getElem (by show p' < _; omega)]
          exact (y2 _ (List.getElem_mem _)).1
        have lt' : fn (lessen M r (settle M n S i)) p' < fn t p' := lt
        show fn (lessen M r (settle M n S i)) p' = 0
        omega
      · exact ih q s m
theorem und_good {M : Int} (hM : 2 ≤ M) {n : Nat} {A : Mat} {S : List (Option Row)} (sA : Shp n n A) (p : Puts M n A n S) (good : ∀ i, i < n → ∃ s, S[i]? = some (some s) ∧ s[i]? = some 1) :
    Shp n n ((settle M n S n).map fun qs => qs.2.drop n) ∧ MRed M ((settle M n S n).map fun qs => qs.2.drop n) ∧ EqF M n (mulF n (ent ((settle M n S n).map fun qs => qs.2.drop n)) (ent A)) oneF := by
  have wf := p.wf hM sA.2
  have rel := settle_rel (p.rel sA) n
  have hso := settle_ok hM wf (by omega) n (Nat.le_refl _)
  have h0 := settle_one hM wf (by omega) good n (Nat.le_refl _)
  have full : ∀ i, i < n → ∃ s, S[i]? = some (some s) := fun i h => by
    obtain ⟨s, h1, _⟩ := good i h
    exact ⟨s, h1⟩
  have hf := settle_full (M := M) full n (Nat.le_refl _)
  have hlen : (settle M n S n).length = n := by
    have := congrArg List.length hf
    simpa using this
  refine ⟨⟨by rw [List.length_map, hlen], fun r hr => ?_⟩, fun r hr x hx => ?_, fun i j hi hj => ?_⟩
  · obtain ⟨⟨q, s⟩, hm, rfl⟩ := List.mem_map.mp hr
    obtain ⟨_, _, sl, _⟩ := hso q s hm
    simp [sl]
    omega
  · obtain ⟨⟨q, s⟩, hm, rfl⟩ := List.mem_map.mp hr
    obtain ⟨_, _, _, sr, _⟩ := hso q s hm
    exact sr x (List.mem_of_mem_drop hx)
  · have hi2 : i < (settle M n S n).length := by omega
    have e1 : ((settle M n S n).map (·.1))[i]? = some i := by
      rw [hf, List.getElem?_map, List.getElem?_range hi]
      simp
    rw [List.getElem?_map, List.getElem?_eq_getElem hi2] at e1
    have e2 : ((settle M n S n)[i]).1 = i := by simpa using e1
    have hm := List.getElem_mem hi2
    have hA : ((settle M n S n).map fun qs => qs.2.drop n)[i]? = some (((settle M n S n)[i]).2.drop n) := by
      rw [List.getElem?_map, List.getElem?_eq_getElem hi2]
      rfl
    generalize hqs : (settle M n S n)[i] = qs at *
    obtain ⟨q, s⟩ := qs
    have e2 : q = i := e2
    subst e2
    obtain ⟨_, _, sl, _, sz, r0, x, c1, c2, c3, _⟩ := hso q s hm
    obtain ⟨s1, d1, d2⟩ := good q hi
    rw [d1] at c1
    cases c1
    rw [d2] at c2
    cases c2
    have e3 : fn s j = oneF q j := by
      show _ = if q = j then 1 else 0
      rcases Nat.lt_trichotomy j q with h | h | h
      · rw [if_neg (by omega)]
        unfold fn
        rw [List.getD_eq_getElem?_getD, sz j h]
        rfl
      · subst h
        rw [if_pos rfl]
        unfold fn
        rw [List.getD_eq_getElem?_getD, c3]
        rfl
      · rw [if_neg (by omega)]
        exact h0 q s hm j h hj
    have r1 := (rel q s hm).2 j hj
    rw [e3] at r1
    refine (Eqm.trans (.eq ?_) r1.symm)
    show sumN n (fun k => _) = _
    refine sumN_congr fun k hk => ?_
    rw [ent_at hA]
    congr 1
    unfold fn
    rw [List.getD_eq_getElem?_getD, List.getD_eq_getElem?_getD, List.getElem?_drop]
end Wk

namespace Wk
open PySem L2
abbrev s_law_matrix_of : Stmt := top 13
theorem sc_law_matrix_of : FnScope ["_law_pen", "_law_modulus", "_law_height", "_law_width", "_law_found", "_law_k", "_law_at"] ["_law_pen", "_law_modulus", "_law_height", "_law_width"] (defScope s_law_matrix_of) := ⟨rfl, rfl, rfl, by decide +kernel, rfl, by decide +kernel, by decide +kernel⟩
abbrev s_law_common : Stmt := top 14
theorem sc_law_common : FnScope ["_law_one", "_law_other"] ["_law_one", "_law_other"] (defScope s_law_common) := ⟨rfl, rfl, rfl, by decide +kernel, rfl, by decide +kernel, by decide +kernel⟩
abbrev s_law_span : Stmt := top 15
theorem sc_law_span : FnScope ["_law_modulus", "_law_rows", "_law_width", "_law_found", "_law_row", "_law_one", "_law_often", "_law_a", "_law_b"] ["_law_modulus", "_law_rows", "_law_width"] (defScope s_law_span) := ⟨rfl, rfl, rfl, by decide +kernel, rfl, by decide +kernel, by decide +kernel⟩
abbrev s_law_place : Stmt := top 16
theorem sc_law_place : FnScope ["_law_row", "_law_places", "_law_at"] ["_law_row"] (defScope s_law_place) := ⟨rfl, rfl, rfl, by decide +kernel, rfl, by decide +kernel, by decide +kernel⟩
abbrev s_law_is_howell : Stmt := top 17
theorem sc_law_is_howell : FnScope ["_law_modulus", "_law_form", "_law_span_here", "_law_width", "_law_places", "_law_at", "_law_pivot", "_law_place_here", "_law_later", "_law_row"] ["_law_modulus", "_law_form", "_law_span_here", "_law_width"] (defScope s_law_is_howell) := ⟨rfl, rfl, rfl, by decide +kernel, rfl, by decide +kernel, by decide +kernel⟩
abbrev s_law_other_rows : Stmt := top 18
theorem sc_law_other_rows : FnScope ["_law_pen", "_law_modulus", "_law_rows", "_law_found", "_law_turn", "_law_at", "_law_other", "_law_often", "_law_row", "_law_one", "_law_two", "_law_number"] ["_law_pen", "_law_modulus", "_law_rows"] (defScope s_law_other_rows) := ⟨rfl, rfl, rfl, by decide +kernel, rfl, by decide +kernel, by decide +kernel⟩

structure TxtL (mg : Str → Option Value) : Prop where
  f_tuple : mg "tuple" = none
  f_list : mg "list" = none
  f_int : mg "int" = none
  f_zip : mg "zip" = none
  f_sum : mg "sum" = none
  f_range : mg "range" = none
  f_len : mg "len" = none
  f_min : mg "min" = none
  f_max : mg "max" = none
  f_all : mg "all" = none
  f_abs : mg "abs" = none
  f_isinstance : mg "isinstance" = none
theorem dot_comm (a b : List Int) : dotZ a b = dotZ b a := by
  unfold dotZ
  rw [List.zipWith_comm]
  congr 2
  funext x y
  exact Int.mul_comm _ _
end Wk

namespace Wk
open PySem L2
section
variable {P : Program} {w : World} {K : PySem.W.Frag} {mg : Str → Option Value} {base : Heap}
end
end Wk

namespace Wk
open PySem L2
/-- objects of ints, in a list at F -/
def ObsAre (mk : List V → HO) (F : Addr) (H : Hp) (us : List V) (A : Mat) : Prop := us.length = A.length ∧ ∀ (k : Nat) (r : List Int), A[k]? = some r → ∃ p, us[k]? = some (.ref p) ∧ p ≠ F ∧ H p = some (mk (r.map V.int))
theorem ObsAre.mono {mk : List V → HO} {F : Addr} {H H' : Hp} {us : List V} {A : Mat} (h : ObsAre mk F H us A) (e : But F H H') : ObsAre mk F H' us A := ⟨h.1, fun k r z => by
  obtain ⟨p, a, b, c⟩ := h.2 k r z
  exact ⟨p, a, b, e _ _ b c⟩⟩
theorem ObsAre.nil {mk : List V → HO} {F : Addr} {H : Hp} : ObsAre mk F H [] [] := ⟨rfl, fun k r z => by simp at z⟩
theorem ObsAre.snoc {mk : List V → HO} {F : Addr} {H : Hp} {us : List V} {A : Mat} {p : Addr} {r : List Int} (h : ObsAre mk F H us A) (h1 : p ≠ F) (h2 : H p = some (mk (r.map V.int))) : ObsAre mk F H (us ++ [.ref p]) (A ++ [r]) := by
  refine ⟨by simp [h.1], fun k s z => ?_⟩
  rcases Nat.lt_trichotomy k A.length with hk | hk | hk
  · rw [List.getElem?_append_left hk] at z
    obtain ⟨q, a, b⟩ := h.2 k s z
    exact ⟨q, by rw [List.getElem?_append_left (by rw [h.1]; exact hk)]; exact a, b⟩
  · rw [hk] at z
    simp at z
    subst z
    exact ⟨p, by rw [hk, ← h.1]; simp, h1, h2⟩
  · rw [List.getElem?_eq_none (by simp; omega)] at z
    cases z
theorem ObsAre.set {mk : List V → HO} {F : Addr} {H : Hp} {us : List V} {A : Mat} {p : Addr} {r : List Int} (h : ObsAre mk F H us A) (h1 : p ≠ F) (h2 : H p = some (mk (r.map V.int))) (i : Nat) : ObsAre mk F H (us.set i (.ref p)) (A.set i r) := by
  refine ⟨by simp [h.1], fun k s z => ?_⟩
  by_cases e : i = k
  · subst e
    by_cases hl : i < A.length
    · rw [List.getElem?_set_self hl] at z
      cases z
      exact ⟨p, by rw [List.getElem?_set_self (by rw [h.1]; exact hl)], h1, h2⟩
    · rw [List.getElem?_eq_none (by rw [List.length_set]; omega)] at z
      cases z
  · rw [List.getElem?_set_ne e] at z
    obtain ⟨q, a, b⟩ := h.2 k s z
    exact ⟨q, by rw [List.getElem?_set_ne e]; exact a, b⟩
theorem ObsAre.rows {K : PySem.W.Frag} {F : Addr} {H : Hp} {us : List V} {A : Mat} (h : ObsAre .tup F H us A) : RowsAre K H us A := rows_of h.1 fun k v r h1 h2 => by
  obtain ⟨p, a, b, c⟩ := h.2 k r h2
  rw [a] at h1
  cases h1
  exact ⟨p, rfl, SqT.of c⟩
/-- a comprehension whose items are new lists -/
theorem lc_lists {J : It} {n : Nat} {G : Hp → Prop} {Y : Nat → Hp → V → Hp → Prop} (w : Walk J n G Y) {g : TG} {tt : TT} {te : TE} {vs : List Nat} {σ : L2.St} {H1 : Hp} {D : Addr} {Qd : Hp → Prop} (hD : H1 D = none) (hn : n ≤ 1000000)
    (A : Mat) (hA : A.length = n) (hG : ∀ H, Same H1 H → G H)
    (hs : ∀ (i : Nat) (r : List Int) (x : V) (H H' : Hp) (Fn : V → Hp → Prop) (Nn : Hp → Prop), i < n → A[i]? = some r → (∀ p H4, Same H H4 → H p = none → H4 p = some (.lst (r.map V.int)) → Fn (.ref p) H4) → Same H1 H → Y i H x H' → g x (wipe σ vs) H' fun σ2 H2 => wipe σ2 vs = wipe σ vs ∧ tt σ2 H2 fun b H3 => if b = true then te σ2 H3 Fn else Nn H3)
    (hd : ∀ (acc : List V) H, H D = some (.lst acc) → Same H1 H → ObsAre .lst D H acc A → Qd H) :
    ∃ W : Nat → Nat → Hp → Prop, (∃ m, W 0 m (upd H1 D (.lst []))) ∧ ∀ i m H, W i m H →
      (J.stop i H ∧ Qd H) ∨ (J.go i H ∧ ∃ Nx : Hp → Prop, (∀ H', Nx H' → ∃ m', m' < m ∧ W (i + 1) m' H') ∧ ∀ x H', J.yld i H x H' → g x (wipe σ vs) H' fun σ2 H2 => wipe σ2 vs = wipe σ vs ∧ tt σ2 H2 fun b H3 =>
        if b = true then te σ2 H3 fun y H4 => ∃ acc, H4 D = some (.lst acc) ∧ acc.length < sizeLine ∧ Nx (upd H4 D (.lst (acc ++ [y]))) else Nx H3) := by
  refine lc_rel w hD hn (fun i v H => ∃ (p : Addr) (r : List Int), v = .ref p ∧ p ≠ D ∧ A[i]? = some r ∧ H p = some (.lst (r.map V.int))) (fun i v H H' ⟨p, r, h1, h2, h3, h4⟩ e => ⟨p, r, h1, h2, h3, e _ _ h2 h4⟩) hG ?_ ?_
  · intro i x H H' Fn Nn fin hi sm ⟨acc, hacc⟩ hy
    have hr : A[i]? = some (A[i]'(by omega)) := List.getElem?_eq_getElem (by omega)
    refine hs i _ x H H' Fn Nn hi hr (fun p H4 s4 hp h4 => fin _ _ s4 ⟨p, _, rfl, fun z => ?_, hr, h4⟩) sm hy
    rw [z, hacc] at hp
    cases hp
  · intro acc H e1 e2 sm hR
    refine hd acc H e2 sm ⟨by rw [e1, hA], fun k r h2 => ?_⟩
    have hk : k < acc.length := by
      rw [e1, ← hA]
      exact (List.getElem?_eq_some_iff.mp h2).1
    obtain ⟨p, r2, h1, hD2, h3, h4⟩ := hR k _ (List.getElem?_eq_getElem hk)
    rw [h2] at h3
    cases h3
    exact ⟨p, by rw [List.getElem?_eq_getElem hk, h1], hD2, h4⟩
def spPowL (K : PySem.W.Frag) : Sp := fun vs H Q _ => ∃ (M : Int) (a : Addr) (A : Mat) (n e : Nat), vs = [.int M, .ref a, .int (e : Int)] ∧ 2 ≤ M ∧ M < 2 ^ 64 ∧ MatAt K H a A ∧ Shp n n A ∧ MWd A ∧ 1 ≤ n ∧ n ≤ 8 ∧ e ≤ 1000 ∧ NewMat K H (mpow M n A e) Q
section
variable {P : Program} {w : World} {K : PySem.W.Frag} {mg : Str → Option Value} {base : Heap}
end
end Wk

namespace Wk
open PySem L2
/-- the pen with at most n draws done -/
def Pen (H : Hp) (p c : Addr) (ns : List Int) (n : Nat) : Prop := ∃ i l, PenAt H p c ns i l ∧ i ≤ n
theorem Pen.le {H : Hp} {p c : Addr} {ns : List Int} {n m : Nat} (h : Pen H p c ns n) (e : n ≤ m) : Pen H p c ns m := by
  obtain ⟨i, l, a, b⟩ := h
  exact ⟨i, l, a, by omega⟩
theorem Pen.some {H : Hp} {p c : Addr} {ns : List Int} {n : Nat} (h : Pen H p c ns n) : ∃ o, H p = some o := by
  obtain ⟨i, l, a, b⟩ := h
  exact ⟨_, a.pen⟩
theorem Pen.same {H H' : Hp} {p c : Addr} {ns : List Int} {n : Nat} (h : Pen H p c ns n) (e : Same H H') : Pen H' p c ns n := by
  obtain ⟨i, l, a, b⟩ := h
  exact ⟨i, l, ⟨e _ _ a.pen, e _ _ a.cells, a.i0, a.l0, a.i1⟩, b⟩
theorem drwP {H : Hp} {p c : Addr} {ns : List Int} {n : Nat} {i l i' l' : Int} (a : PenAt H p c ns i l) (b : i ≤ n) (hn : n < 90000) (h0 : 0 ≤ i') (h1 : i' ≤ i + 1) (h2 : 0 ≤ l') : Pen (penTo H p c i' l') p c ns (n + 1) ∧ But p H (penTo H p c i' l') :=
  ⟨⟨i', l', a.to h0 h2 (by omega), by omega⟩, fun b o hb e => by rw [penTo, upd_ne hb]; exact e⟩
theorem w64 {m : Int} (h0 : 1 ≤ m) (h : m < 2 ^ 64) : m.natAbs < 2 ^ 9000 := Nat.lt_trans (show m.natAbs < 2 ^ 64 by omega) (by decide)
theorem MatAt.but {K : PySem.W.Frag} {p : Addr} {H H' : Hp} {a : Addr} {A : Mat} (h : MatAt K H a A) (e : But p H H') (hp : ∃ c i l, H p = some (.dK (penL c i l))) : MatAt K H' a A := by
  obtain ⟨c, i, l, hp⟩ := hp
  have sq : ∀ {b : Addr} {xs : List V}, SqT K H b xs → SqT K H' b xs := fun {b xs} h => by
    rcases h with (h | ⟨o, h⟩) | h
    · exact .inl (.inl (e _ _ (ne_of h hp (by intro z; cases z)) h))
    · exact .inl (.inr ⟨o, e _ _ (ne_of h hp (by intro z; cases z)) h⟩)
    · exact .inr h
  obtain ⟨vs, h1, h2⟩ := h
  refine ⟨vs, sq h1, ?_⟩
  clear h1
  induction h2 with
  | nil => exact .nil
  | cons a _ ih => exact .cons (sq a) ih
theorem Pen.dk {H : Hp} {p c : Addr} {ns : List Int} {n : Nat} (h : Pen H p c ns n) : ∃ c i l, H p = Option.some (.dK (penL c i l)) := by
  obtain ⟨i, l, a, b⟩ := h
  exact ⟨c, i, l, a.pen⟩
theorem MatAt.pen {K : PySem.W.Frag} {p c : Addr} {ns : List Int} {n : Nat} {H H' : Hp} {a : Addr} {A : Mat} (h : MatAt K H a A) (e : But p H H') (hp : Pen H p c ns n) : MatAt K H' a A := h.but e hp.dk
theorem SqT.pen {K : PySem.W.Frag} {p c : Addr} {ns : List Int} {n : Nat} {H H' : Hp} {b : Addr} {xs : List V} (h : SqT K H b xs) (e : But p H H') (hp : Pen H p c ns n) : SqT K H' b xs := by
  obtain ⟨c, i, l, hp⟩ := hp.dk
  rcases h with (h | ⟨o, h⟩) | h
  · exact .inl (.inl (e _ _ (ne_of h hp (by intro z; cases z)) h))
  · exact .inl (.inr ⟨o, e _ _ (ne_of h hp (by intro z; cases z)) h⟩)
  · exact .inr h
/-- a comprehension with draws -/
theorem lc_pen {J : It} {n : Nat} {G : Hp → Prop} {Y : Nat → Hp → V → Hp → Prop} (w : Walk J n G Y) {g : TG} {tt : TT} {te : TE} {vs : List Nat} {σ : L2.St} {H1 : Hp} {D : Addr} {Qd : Hp → Prop} {p c : Addr} {ns : List Int} {m : Nat} (k : Nat) (hP : Pen H1 p c ns m) (hD : H1 D = none) (hn : n ≤ 1000)
    (R : Nat → V → Hp → Prop) (mono : ∀ i v H H', R i v H → (∀ b o, b ≠ D → b ≠ p → H b = some o → H' b = some o) → R i v H') (hG : ∀ H, But p H1 H → G H)
    (hs : ∀ (i : Nat) (x : V) (H H' : Hp) (Fn : V → Hp → Prop) (Nn : Hp → Prop), (∀ y H4, But p H H4 → Pen H4 p c ns (m + k * (i + 1)) → R i y H4 → Fn y H4) → i < n → But p H1 H → Pen H p c ns (m + k * i) → (∃ acc, H D = some (.lst acc)) → Y i H x H' → g x (wipe σ vs) H' fun σ2 H2 => wipe σ2 vs = wipe σ vs ∧ tt σ2 H2 fun b H3 => if b = true then te σ2 H3 Fn else Nn H3)
    (hd : ∀ (acc : List V) H, acc.length = n → H D = some (.lst acc) → But p H1 H → Pen H p c ns (m + k * n) → (∀ j v, acc[j]? = some v → R j v H) → Qd H) :
    ∃ W : Nat → Nat → Hp → Prop, (∃ m, W 0 m (upd H1 D (.lst []))) ∧ ∀ i m H, W i m H →
      (J.stop i H ∧ Qd H) ∨ (J.go i H ∧ ∃ Nx : Hp → Prop, (∀ H', Nx H' → ∃ m', m' < m ∧ W (i + 1) m' H') ∧ ∀ x H', J.yld i H x H' → g x (wipe σ vs) H' fun σ2 H2 => wipe σ2 vs = wipe σ vs ∧ tt σ2 H2 fun b H3 =>
        if b = true then te σ2 H3 fun y H4 => ∃ acc, H4 D = some (.lst acc) ∧ acc.length < sizeLine ∧ Nx (upd H4 D (.lst (acc ++ [y]))) else Nx H3) := by
  have hDp : D ≠ p := fun z => by
    obtain ⟨o, ho⟩ := hP.some
    rw [z, ho] at hD
    cases hD
  have penD : ∀ {H q xs}, Pen H p c ns q → (∃ acc : List V, H D = Option.some (.lst acc)) ∨ H D = none → H1 D = none → (∀ b o, H1 b = Option.some o → b ≠ p → H b = Option.some o) → Pen (upd H D (.lst xs)) p c ns q := fun {H q xs} h _ _ hk => by
    obtain ⟨i, l, a, b⟩ := h
    obtain ⟨_, _, a1, _⟩ := hP
    have hcD : c ≠ D := fun z => by
      have := a1.cells
      rw [z, hD] at this
      cases this
    exact ⟨i, l, ⟨by rw [upd_ne hDp.symm]; exact a.pen, by rw [upd_ne hcD]; exact a.cells, a.i0, a.l0, a.i1⟩, b⟩
  refine lc_it w (fun i H => ∃ acc : List V, acc.length = i ∧ H D = some (.lst acc) ∧ But p H1 H ∧ Pen H p c ns (m + k * i) ∧ ∀ j v, acc[j]? = some v → R j v H) ⟨[], rfl, upd_same, fun b o _ e => ?_, ?_, fun j v e => by simp at e⟩ (fun i H hi ⟨acc, _, _, h3, _⟩ => hG H h3) ?_ fun H ⟨acc, h1, h2, h3, h4, h5⟩ => hd acc H h1 h2 h3 h4 h5
  · rw [upd_ne (fun z => by rw [z, hD] at e; cases e)]
    exact e
  · exact penD (hP.le (by omega)) (.inr hD) hD fun b o e _ => e
  · intro i x H H' hi ⟨acc, h1, h2, h3, h4, h5⟩ hy
    refine hs i x H H' _ _ (fun y H4 sm hp4 hr => ⟨acc, sm _ _ hDp h2, ?_, acc ++ [y], by simp [h1], upd_same, fun b o hb e => ?_, penD hp4 (.inl ⟨acc, sm _ _ hDp h2⟩) hD fun b o e hb => sm _ _ hb (h3 _ _ hb e), fun j v e => ?_⟩) hi h3 h4 ⟨acc, h2⟩ hy
    · rw [h1]
      exact Nat.lt_of_lt_of_le hi (Nat.le_trans hn (by decide))
    · rw [upd_ne (fun z => by rw [z, hD] at e; cases e)]
      exact sm _ _ hb (h3 _ _ hb e)
    · have b1 : ∀ b o, b ≠ D → b ≠ p → H4 b = some o → (upd H4 D (.lst (acc ++ [y]))) b = some o := fun b o n _ q => by rw [upd_ne n]; exact q
      rcases Nat.lt_trichotomy j acc.length with hj | hj | hj
      · rw [List.getElem?_append_left hj] at e
        exact mono _ _ _ _ (mono _ _ _ _ (h5 j v e) fun b o _ hb q => sm b o hb q) b1
      · rw [hj] at e
        simp at e
        rw [hj, h1, ← e]
        exact mono _ _ _ _ hr b1
      · rw [List.getElem?_eq_none (by simp; omega)] at e
        cases e
end Wk

namespace Wk
open PySem L2
/-- a new tuple of new tuples of ints -/
def TupM (H : Hp) (q : Addr) (A : Mat) : Prop := ∃ us : List V, H q = some (.tup us) ∧ us.length = A.length ∧ ∀ (k : Nat) (r : List Int), A[k]? = some r → ∃ b, us[k]? = some (.ref b) ∧ H b = some (.tup (r.map V.int))
def spMat (K : PySem.W.Frag) : Sp := fun vs H Q _ => ∃ (p c : Addr) (ns : List Int) (m h w : Nat) (M : Int), vs = [.ref p, .int M, .int (h : Int), .int (w : Int)] ∧ Pen H p c ns m ∧ m < 80000 ∧ 1 ≤ M ∧ M < 2 ^ 64 ∧ h ≤ 10 ∧ w ≤ 10 ∧
  ∀ q H' A, But p H H' → Pen H' p c ns (m + 200) → MatAt K H' q A → Shp h w A → MRed M A → TupM H' q A → Q (.ref q) H'
def MEq (M : Int) (A A' : Mat) : Prop := A'.length = A.length ∧ ∀ (i : Nat) (r : List Int), A[i]? = some r → ∃ r' : List Int, A'[i]? = some r' ∧ r'.length = r.length ∧ ∀ (j : Nat) (x : Int), r[j]? = some x → ∃ y, r'[j]? = some y ∧ Eqm M y x
def spMoved (K : PySem.W.Frag) : Sp := fun vs H Q _ => ∃ (p c : Addr) (ns : List Int) (m : Nat) (M : Int) (a : Addr) (A : Mat), vs = [.ref p, .int M, .ref a] ∧ Pen H p c ns m ∧ m < 80000 ∧ 1 ≤ M ∧ M < 2 ^ 64 ∧ MatAt K H a A ∧ A.length ≤ 10 ∧ (∀ r ∈ A, r.length ≤ 10) ∧ MRed M A ∧
  ∀ q H' A', But p H H' → Pen H' p c ns (m + 100) → MatAt K H' q A' → MEq M A A' → MWd A' → Q (.ref q) H'
theorem But.of_same {p : Addr} {H H' : Hp} (h : Same H H') : But p H H' := fun b o _ e => h b o e
theorem But.new {p D : Addr} {H H' : Hp} {o : HO} (h : But p H H') (hD : H' D = none) : But p H (upd H' D o) := h.same (same_upd hD)
section
variable {P : Program} {w : World} {K : PySem.W.Frag} {mg : Str → Option Value} {base : Heap}
theorem ok_matrix_of {f fD : Addr} {fd fdD : FuncData} (F : Fun K "_law_matrix_of" "_law_matrix_of" s_law_matrix_of f fd) (T : TxtL mg)
    (G__law_draw : FnOk P w K mg base CX0 1 fD fdD ["_law_pen", "_law_many"] spDraw) (g__law_draw : mg "_law_draw" = some (.ref fD)) (kp__law_draw : PySem.W.keepIn K (.ref fD) = true) (b__law_draw : Binds K fdD ["_law_pen", "_law_many"] []) :
    FnOk P w K mg base CX0 2 f fd ["_law_pen", "_law_modulus", "_law_height", "_law_width"] (spMat K) := by
  refine F.ok sc_law_matrix_of (fun vs H Q E h => ?_) (fun cdv A outer s H vs Q E hr h => ?_)
  · obtain ⟨p, c, ns, m, h, w, M, rfl, _⟩ := h
    rfl
  · obtain ⟨p, c, ns, m, h, w, M, rfl, hP, hm, hM, hM2, hh, hw, k⟩ := h
    refine ⟨_, (pss_cons (ps_set (i := 4) sc_law_matrix_of.nd rfl (Or.inl rfl) (pe_lst pa_nil))
        (pss_cons (ps_for PassesOwn.never rfl (pi_range1 rfl T.f_range (pa_cons (pv 2) pa_nil)) (pg_name (i := 5) sc_law_matrix_of.nd rfl (Or.inl rfl)) (pss_one (ps_expr (pe_bm PySem.F.plainAttrs_list PySem.F.slot_list_append PySem.F.type_list_append mt_append (pv 4) (pa_cons (pe_callTy (call_tupleK (K := K) rfl) rfl T.f_tuple (by decide +kernel) (pa_cons (pe_lc (own := [("_law_at", 6)]) (g := gName 6) rfl sc_law_matrix_of.nd (pi_range1 rfl T.f_range (pa_cons (pv 3) pa_nil)) (blkOk_by (N := ["_law_pen", "_law_modulus", "_law_height", "_law_width", "_law_found", "_law_k", "_law_at"]) (sc := defScope s_law_matrix_of) (by decide +kernel)) (fun _ _ _ _ _ => (pg_name (i := 6) sc_law_matrix_of.nd rfl (Or.inl rfl))) (fun _ _ _ _ _ => pts_nil) (fun _ _ _ _ _ => (pe_op op_mulW (pe_call G__law_draw (hr.mono (by decide)) rfl g__law_draw kp__law_draw b__law_draw .nil pass0 (pa_cons (pv 0) (pa_cons (pv 1) pa_nil))) (pe_callTy call_int1 rfl T.f_int (by decide +kernel) (pa_cons (pe_cmpR op_gt (pe_call G__law_draw (hr.mono (by decide)) rfl g__law_draw kp__law_draw b__law_draw .nil pass0 (pa_cons (pv 0) (pa_cons pe_int pa_nil))) pe_int (nomark _)) pa_nil))))) pa_nil)) pa_nil)))))
        (pss_one (ps_ret (pe_callTy (call_tupleK (K := K) rfl) rfl T.f_tuple (by decide +kernel) (pa_cons (pv 4) pa_nil)))))), ?_⟩
    refine ⟨Nat.zero_le _, fun F0 nF => ⟨_, rfl, (h : Int), rfl, by omega, by omega, ?_⟩⟩
    have sF : Same H (upd H F0 (.lst [])) := same_upd nF
    have gF : (upd H F0 (.lst [])) F0 = some (.lst []) := upd_same
    generalize upd H F0 (.lst []) = H1 at sF gF ⊢
    have hFp : F0 ≠ p := fun z => by
      obtain ⟨o, ho⟩ := hP.some
      rw [z, ho] at nF
      cases nF
    refine for_it (walk_range (lo := 0) (n := h)) (fun i σ H' => ∃ (x5 : Option V) (us : List V) (A : Mat), σ = [some (.ref p), some (.int M), some (.int (h : Int)), some (.int (w : Int)), some (.ref F0), x5, none] ∧ But p H H' ∧ Pen H' p c ns (m + 20 * i) ∧ H' F0 = some (.lst us) ∧ ObsAre .tup F0 H' us A ∧ Shp i w A ∧ MRed M A ∧ ∀ q, (∃ r ∈ us, r = V.ref q) → q ≠ p) ⟨none, [], [], rfl, .of_same sF, (hP.same sF).le (by omega), gF, .nil, ⟨rfl, fun r hr => nomatch hr⟩, (fun r hr => nomatch hr), fun q ⟨r, hr, _⟩ => nomatch hr⟩ (fun _ _ _ _ _ => trivial) ?_ ?_
    · rintro i v σ H2 H2' hi ⟨x5, us, A, rfl, b2, P2, g2, hU, sA, rA, hne⟩ ⟨rfl, rfl⟩
      refine ⟨_, rfl, .inl ⟨rfl, _, SqL.of g2⟩, _, rfl, (w : Int), rfl, by omega, by omega, fun D hD => lc_pen (walk_range (lo := 0) (n := w)) 2 P2 hD (by omega) (fun j v _ => ∃ x : Int, v = .int x ∧ 0 ≤ x ∧ x < M) (fun j v H H' h _ => h) (fun _ _ => trivial) ?_ ?_⟩
      · rintro j v H3 H3' Fn Nn fin hj b3 P3 hacc ⟨rfl, rfl⟩
        refine ⟨rfl, yesT ⟨_, rfl, _, rfl, ?_⟩⟩
        obtain ⟨i3, l3, a3, n3⟩ := P3
        refine ⟨p, c, ns, i3, l3, M, rfl, a3, by omega, hM, w64 hM hM2, fun d i4 l4 d0 d1 z0 z1 z2 => ?_⟩
        obtain ⟨P4, b4⟩ := drwP a3 n3 (by omega) z0 z1 z2
        generalize penTo H3' p c i4 l4 = H4 at P4 b4 ⊢
        obtain ⟨i5, l5, a5, n5⟩ := P4
        refine ⟨_, rfl, p, c, ns, i5, l5, 4, rfl, a5, by omega, by decide, w64 (by decide) (by decide), fun e i6 l6 e0 e1 y0 y1 y2 => ?_⟩
        obtain ⟨P5, b5⟩ := drwP a5 n5 (by omega) y0 y1 y2
        generalize penTo H4 p c i6 l6 = H5 at P5 b5 ⊢
        refine ⟨_, _, rfl, rfl, .inr ⟨_, rfl, ?_⟩⟩
        refine ⟨_, _, rfl, rfl, ?_, ?_⟩
        · refine wide_mul (a := 64) (b := 64) (by omega) ?_ (by decide) (by decide) (by decide)
          split <;> decide
        · refine fin _ _ (b4.trans b5) (P5.le (by omega)) ⟨_, rfl, ?_⟩
          split <;> omega
      · intro acc H3 a1 a2 b3 P3 hR
        obtain ⟨r, hr, hrl, hrr⟩ : ∃ r : List Int, acc = r.map V.int ∧ r.length = w ∧ RRed M r := by
          refine ⟨acc.map fun v => match v with | .int x => x | _ => 0, ?_, by simpa using a1, ?_⟩
          · apply List.ext_getElem?
            intro j
            rw [List.getElem?_map, List.getElem?_map]
            cases e : acc[j]? with
            | none => rfl
            | some v =>
              obtain ⟨x, rfl, _⟩ := hR j v e
              rfl
          · intro x hx
            obtain ⟨v, hv, rfl⟩ := List.mem_map.mp hx
            obtain ⟨j, e⟩ := List.mem_iff_getElem?.mp hv
            obtain ⟨y, rfl, h0⟩ := hR j v e
            exact h0
        have g3 : H3 F0 = some (.lst us) := b3 _ _ hFp g2
        refine ⟨D, acc, rfl, .inl ⟨SqL.of a2, fun u nu => ⟨F0, _, _, rfl, rfl, (by rw [upd_ne (ne_of_none g3 nu)]; exact g3), Nat.le_trans (show us.length.succ ≤ 1001 by rw [hU.1, sA.1]; omega) (show 1001 ≤ sizeLine by decide), ?_⟩⟩⟩
        have huF : u ≠ F0 := fun z => by rw [z, g3] at nu; cases nu
        have hup : u ≠ p := fun z => by
          obtain ⟨o, ho⟩ := P3.some
          rw [z, ho] at nu
          cases nu
        have s4 : ∀ b o, b ≠ F0 → H3 b = some o → (upd (upd H3 u (.tup acc)) F0 (.lst (us ++ [.ref u]))) b = some o := fun b o hb e => by
          rw [upd_ne hb, upd_ne (ne_of_none e nu)]
          exact e
        have hcF : c ≠ F0 := fun z => by
          obtain ⟨i', l', a, _⟩ := hP
          have := a.cells
          rw [z, nF] at this
          cases this
        refine ⟨_, us ++ [.ref u], A ++ [r], rfl, fun b o hb e => s4 b o (ne_of_none e nF) (b3 _ _ hb (b2 _ _ hb e)), ?_, upd_same, ?_, ⟨by simp [sA.1], fun t ht => ?_⟩, fun t ht => ?_, fun q ⟨t, ht, e⟩ => ?_⟩
        · obtain ⟨i', l', a, ha⟩ := P3
          exact ⟨i', l', ⟨s4 _ _ hFp.symm a.pen, s4 _ _ hcF a.cells, a.i0, a.l0, a.i1⟩, by omega⟩
        · refine ObsAre.snoc ⟨hU.1, fun kk rr z => ?_⟩ huF (by rw [upd_ne huF, upd_same, hr])
          obtain ⟨q, e1, e2, e3⟩ := hU.2 kk rr z
          exact ⟨q, e1, e2, s4 _ _ e2 (b3 _ _ (hne q ⟨_, List.mem_of_getElem? e1, rfl⟩) e3)⟩
        · rcases List.mem_append.mp ht with ht | ht
          · exact sA.2 t ht
          · rw [List.mem_singleton.mp ht]
            exact hrl
        · rcases List.mem_append.mp ht with ht | ht
          · exact rA t ht
          · rw [List.mem_singleton.mp ht]
            exact hrr
        · rcases List.mem_append.mp ht with ht | ht
          · exact hne q ⟨t, ht, e⟩
          · rw [List.mem_singleton.mp ht] at e
            cases e
            exact hup
    · rintro σ H2 ⟨x5, us, A, rfl, b2, P2, g2, hU, sA, rA, hne⟩
      refine ⟨_, rfl, F0, us, rfl, .inl ⟨SqL.of g2, fun q nq => k q _ A (b2.same (same_upd nq)) ((P2.same (same_upd nq)).le (by omega)) ⟨us, SqT.of upd_same, (hU.rows (K := K)).same (same_upd nq)⟩ sA rA ⟨us, upd_same, hU.1, fun kk r e => ?_⟩⟩⟩
      obtain ⟨b, e1, _, e3⟩ := hU.2 kk r e
      exact ⟨b, e1, same_upd nq _ _ e3⟩
end
end Wk

/-! matrices that can be undone, by steps; flat ones -/
namespace Wk
def Inv2 (M : Int) (n : Nat) (A : Fm) : Prop := ∃ C : Fm, EqF M n (mulF n C A) oneF ∧ EqF M n (mulF n A C) oneF
theorem Inv2.congr {M : Int} {n : Nat} {A B : Fm} (h : Inv2 M n A) (e : EqF M n B A) : Inv2 M n B := by
  obtain ⟨C, a, b⟩ := h
  exact ⟨C, ((EqF.refl _ _ _).mul e).trans a, (e.mul (.refl _ _ _)).trans b⟩
theorem Inv2.one (M : Int) (n : Nat) : Inv2 M n oneF := ⟨oneF, one_mulF n _, one_mulF n _⟩
theorem Inv2.mul {M : Int} {n : Nat} {E E' A : Fm} (h : Inv2 M n A) (h1 : EqF M n (mulF n E E') oneF) (h2 : EqF M n (mulF n E' E) oneF) : Inv2 M n (mulF n E A) := by
  obtain ⟨C, a, b⟩ := h
  refine ⟨mulF n C E', ?_, ?_⟩
  · rw [mulF_assoc, ← mulF_assoc n E' E A]
    exact ((EqF.refl _ _ _).mul ((h2.mul (.refl _ _ _)).trans (one_mulF n A))).trans a
  · rw [mulF_assoc, ← mulF_assoc n A C E']
    exact ((EqF.refl _ _ _).mul ((b.mul (.refl _ _ _)).trans (one_mulF n E'))).trans h1
/-- one row plus t times another -/
def addE (x y : Nat) (t : Int) : Fm := fun i j => oneF i j + if i = x then (if j = y then t else 0) else 0
theorem addE_mul {n x y : Nat} {t : Int} (hy : y < n) (A : Fm) (i j : Nat) (hi : i < n) : mulF n (addE x y t) A i j = A i j + if i = x then t * A y j else 0 := by
  show sumN n (fun k => addE x y t i k * A k j) = _
  have e : ∀ k, addE x y t i k * A k j = (if k = i then A i j else 0) + (if k = y then (if i = x then t * A y j else 0) else 0) := fun k => by
    show ((if i = k then (1 : Int) else 0) + if i = x then (if k = y then t else 0) else 0) * A k j = _
    by_cases h1 : k = i
    · subst h1
      rw [if_pos rfl, if_pos rfl]
      by_cases h2 : k = x
      · rw [if_pos h2, if_pos h2]
        by_cases h3 : k = y
        · rw [if_pos h3, if_pos h3, ← h3]; grind
        · rw [if_neg h3, if_neg h3]; grind
      · rw [if_neg h2, if_neg h2]
        split <;> grind
    · rw [if_neg (fun z => h1 z.symm), if_neg h1]
      by_cases h2 : i = x
      · rw [if_pos h2, if_pos h2]
        by_cases h3 : k = y
        · rw [if_pos h3, if_pos h3, ← h3]; grind
        · rw [if_neg h3, if_neg h3]; grind
      · rw [if_neg h2, if_neg h2]
        split <;> grind
  rw [sumN_congr fun k _ => e k, sumN_add, sumN_one hi, sumN_one hy]
theorem addE_inv {M : Int} {n x y : Nat} {t : Int} (hy : y < n) (h : x ≠ y) : EqF M n (mulF n (addE x y t) (addE x y (-t))) oneF := fun i j hi hj => by
  rw [addE_mul hy _ i j hi]
  refine .eq ?_
  show (oneF i j + if i = x then (if j = y then -t else 0) else 0) + (if i = x then t * (oneF y j + if y = x then (if j = y then -t else 0) else 0) else 0) = oneF i j
  rw [if_neg (fun z : y = x => h z.symm)]
  by_cases h1 : i = x
  · rw [if_pos h1, if_pos h1]
    show oneF i j + (if j = y then -t else 0) + t * ((if y = j then (1 : Int) else 0) + 0) = _
    by_cases h2 : j = y
    · rw [if_pos h2, if_pos h2.symm]; grind
    · rw [if_neg h2, if_neg (fun z => h2 z.symm)]; grind
  · rw [if_neg h1, if_neg h1]; grind
/-- one row times u -/
def mulE (x : Nat) (u : Int) : Fm := fun i j => if i = j then (if i = x then u else 1) else 0
theorem mulE_mul {n x : Nat} {u : Int} (A : Fm) (i j : Nat) (hi : i < n) : mulF n (mulE x u) A i j = (if i = x then u else 1) * A i j := by
  show sumN n (fun k => mulE x u i k * A k j) = _
  have e : ∀ k, mulE x u i k * A k j = if k = i then (if i = x then u else 1) * A i j else 0 := fun k => by
    show (if i = k then (if i = x then u else 1) else 0) * A k j = _
    by_cases h1 : k = i
    · subst h1; rw [if_pos rfl, if_pos rfl]
    · rw [if_neg (fun z => h1 z.symm), if_neg h1]; simp
  rw [sumN_congr fun k _ => e k, sumN_one hi]
theorem mulE_inv {M : Int} {n x : Nat} {u v : Int} (h : Eqm M (u * v) 1) : EqF M n (mulF n (mulE x u) (mulE x v)) oneF := fun i j hi hj => by
  rw [mulE_mul _ i j hi]
  show Eqm M ((if i = x then u else 1) * if i = j then (if i = x then v else 1) else 0) (if i = j then 1 else 0)
  by_cases h1 : i = j
  · rw [if_pos h1, if_pos h1]
    by_cases h2 : i = x
    · rw [if_pos h2, if_pos h2]; exact h
    · rw [if_neg h2, if_neg h2]; exact .eq (by simp)
  · rw [if_neg h1, if_neg h1]; exact .eq (by simp)
theorem bez_ex : ∀ (b a : Nat), ∃ x y : Int, x * a + y * b = (Nat.gcd a b : Int) := by
  intro b
  induction b using Nat.strongRecOn with
  | ind b ih =>
    intro a
    by_cases h : b = 0
    · subst h
      exact ⟨1, 0, by simp⟩
    · obtain ⟨x, y, e⟩ := ih (a % b) (Nat.mod_lt _ (by omega)) b
      refine ⟨y, x - y * (a / b : Nat), ?_⟩
      have e2 : Nat.gcd b (a % b) = Nat.gcd a b := by
        rw [Nat.gcd_comm a b, Nat.gcd_rec b a, Nat.gcd_comm]
      rw [e2] at e
      rw [← e]
      have e3 : (a : Int) = b * (a / b : Nat) + (a % b : Nat) := by
        have := Nat.div_add_mod a b
        omega
      generalize ((a / b : Nat) : Int) = q at *
      generalize ((a % b : Nat) : Int) = r at *
      rw [e3]
      grind
theorem unit_inv {M u : Int} (hM : 1 ≤ M) (hu : 0 ≤ u) (h : Int.gcd u M = 1) : ∃ v, Eqm M (u * v) 1 := by
  obtain ⟨x, y, e⟩ := bez_ex M.toNat u.toNat
  have h1 : Nat.gcd u.toNat M.toNat = 1 := by
    rw [← h]
    show _ = Nat.gcd u.natAbs M.natAbs
    congr 1 <;> omega
  rw [h1] at e
  have h2 : ((u.toNat : Nat) : Int) = u := by omega
  have h3 : ((M.toNat : Nat) : Int) = M := by omega
  rw [h2, h3] at e
  exact ⟨x, -y, by grind⟩
/-- a matrix whose row x is made of all rows, itself d times or more: it cannot be undone -/
theorem flat_none {M d : Int} (hM : 2 ≤ M) {n x : Nat} {A A' : Fm} {o : Nat → Int} (hx : x < n) (I : Inv2 M n A) (hd : 2 ≤ d) (hdM : d ∣ M) (ho : d ∣ o x)
    (e : ∀ i j, i < n → j < n → Eqm M (A' i j) (if i = x then sumN n (fun k => o k * A k j) else A i j)) : ¬ ∃ B : Fm, EqF M n (mulF n B A') oneF := by
  rintro ⟨B, hB⟩
  obtain ⟨C, h1, h2⟩ := I
  have eF : EqF M n A' (mulF n (fun i j => if i = x then o j else oneF i j) A) := fun i j hi hj => by
    refine (e i j hi hj).trans (.eq ?_)
    show _ = sumN n (fun k => (if i = x then o k else oneF i k) * A k j)
    by_cases h : i = x
    · rw [if_pos h]
      exact sumN_congr fun k _ => by rw [if_pos h]
    · rw [if_neg h, sumN_congr (g := fun k => if k = i then A i j else 0) fun k _ => ?_, sumN_one hi]
      rw [if_neg h]
      show (if i = k then (1 : Int) else 0) * A k j = _
      by_cases z : k = i
      · subst z; rw [if_pos rfl, if_pos rfl]; simp
      · rw [if_neg (fun y => z y.symm), if_neg z]; simp
  have hBF : EqF M n (mulF n B (fun i j => if i = x then o j else oneF i j)) C := by
    have a1 : EqF M n (mulF n (mulF n B (fun i j => if i = x then o j else oneF i j)) A) oneF := by
      rw [mulF_assoc]
      exact ((EqF.refl _ _ _).mul eF.symm).trans hB
    refine (mulF_one n _).symm.trans (((EqF.refl _ _ _).mul h2.symm).trans ?_)
    rw [← mulF_assoc]
    exact (a1.mul (.refl _ _ _)).trans (one_mulF n C)
  obtain ⟨m, hm⟩ := hdM
  obtain ⟨q, hq⟩ := ho
  have col : ∀ i, i < n → Eqm d (C i x) 0 := fun i hi => by
    have a1 := (hBF i x hi hx).symm
    have a2 : mulF n B (fun i j => if i = x then o j else oneF i j) i x = B i x * o x := by
      show sumN n (fun k => B i k * if k = x then o x else oneF k x) = _
      rw [sumN_congr (g := fun k => if k = x then B i x * o x else 0) fun k _ => ?_, sumN_one hx]
      by_cases z : k = x
      · rw [if_pos z, if_pos z, z]
      · rw [if_neg z, if_neg z]
        show B i k * (if k = x then (1 : Int) else 0) = 0
        rw [if_neg z]; simp
    rw [a2] at a1
    obtain ⟨k, e1⟩ := a1
    exact ⟨B i x * q + m * k, by rw [e1, hq, hm]; grind⟩
  have one := h2 x x hx hx
  have a3 : Eqm d (mulF n A C x x) 0 := by
    have : Eqm d (sumN n fun k => A x k * C k x) (sumN n fun _ => 0) := Eqm.sum fun k hk => ((Eqm.refl d (A x k)).mul (col k hk)).trans (.eq (by simp))
    rw [sumN_zero] at this
    exact this
  have e1 : oneF x x = 1 := by
    show (if x = x then (1 : Int) else 0) = 1
    rw [if_pos rfl]
  rw [e1] at one
  obtain ⟨k, e2⟩ := one
  obtain ⟨l, e3⟩ := a3
  have : d ∣ 1 := ⟨l - m * k, by rw [hm] at e2; grind⟩
  have := Int.le_of_dvd (by decide) this
  omega
theorem zero_none {M : Int} (hM : 2 ≤ M) {n : Nat} (hn : 1 ≤ n) {A : Fm} (e : ∀ i j, i < n → j < n → A i j = 0) : ¬ ∃ B : Fm, EqF M n (mulF n B A) oneF := by
  rintro ⟨B, hB⟩
  have h := hB 0 0 (by omega) (by omega)
  have a : mulF n B A 0 0 = 0 := by
    show sumN n (fun k => B 0 k * A k 0) = 0
    rw [sumN_congr (g := fun _ => 0) fun k hk => by rw [e k 0 hk (by omega)]; simp, sumN_zero]
  rw [a] at h
  obtain ⟨k, h⟩ := h
  have h : 0 = 1 + M * k := h
  have : M ∣ 1 := ⟨-k, by grind⟩
  have := Int.le_of_dvd (by decide) this
  omega
/-- what is left of an inverse is right of it, too, and the only one -/
theorem inv_right {M : Int} {n : Nat} {A B : Fm} (I : Inv2 M n A) (h : EqF M n (mulF n B A) oneF) : EqF M n (mulF n A B) oneF := by
  obtain ⟨C, h1, h2⟩ := I
  have e : EqF M n B C := by
    refine (mulF_one n B).symm.trans (((EqF.refl _ _ _).mul h2.symm).trans ?_)
    rw [← mulF_assoc]
    exact (h.mul (.refl _ _ _)).trans (one_mulF n C)
  exact ((EqF.refl _ _ _).mul e).trans h2
theorem inv_unique {M : Int} {n : Nat} {A B D : Fm} (I : Inv2 M n A) (h : EqF M n (mulF n B A) oneF) (g : EqF M n (mulF n D A) oneF) : EqF M n B D := by
  obtain ⟨C, h1, h2⟩ := I
  have e : ∀ {X : Fm}, EqF M n (mulF n X A) oneF → EqF M n X C := fun {X} hX => by
    refine (mulF_one n X).symm.trans (((EqF.refl _ _ _).mul h2.symm).trans ?_)
    rw [← mulF_assoc]
    exact (hX.mul (.refl _ _ _)).trans (one_mulF n C)
  exact (e h).trans (e g).symm
end Wk

namespace Wk
open PySem L2
def spGcd : Sp := fun vs H Q _ => ∃ a b : Int, vs = [.int a, .int b] ∧ Q (.int (Int.gcd a b : Int)) H
def mu1 (σ : St) : Nat := match σ[1]? with
  | some (some (V.int y)) => y.toNat
  | _ => 0
theorem gcd_turn {x y : Int} (hx : 0 ≤ x) (hy : 0 < y) : Int.gcd y (x % y) = Int.gcd x y := by
  have e : x % y = x - (x / y) * y := by
    have := Int.emod_add_ediv_mul x y
    omega
  rw [e, Int.gcd_sub_mul_right_right, Int.gcd_comm]
theorem ObsAre.pen {mk : List V → HO} {F p c : Addr} {ns : List Int} {n : Nat} {H H' : Hp} {us : List V} {A : Mat} (h : ObsAre mk F H us A) (e : But p H H') (hp : Pen H p c ns n) (hm : ∀ xs kvs, mk xs ≠ .dK kvs) : ObsAre mk F H' us A := ⟨h.1, fun k r z => by
  obtain ⟨q, a, b, d⟩ := h.2 k r z
  obtain ⟨c, i, l, hp⟩ := hp.dk
  exact ⟨q, a, b, e _ _ (ne_of d hp (hm _ _)) d⟩⟩
def spUndOf (K : PySem.W.Frag) : Sp := fun vs H Q _ => ∃ (p c : Addr) (ns : List Int) (m n : Nat) (M : Int), vs = [.ref p, .int M, .int (n : Int)] ∧ Pen H p c ns m ∧ m < 80000 ∧ 2 ≤ M ∧ M < 2 ^ 64 ∧ 1 ≤ n ∧ n ≤ 8 ∧
  ∀ q H' A, But p H H' → Pen H' p c ns (m + 100) → MatAt K H' q A → Shp n n A → MRed M A → Inv2 M n (ent A) → Q (.ref q) H'
theorem set_shp {n : Nat} {A : Mat} {r : Row} (s : Shp n n A) (i : Nat) (h : r.length = n) : Shp n n (A.set i r) := ⟨by rw [List.length_set]; exact s.1, fun t ht => by
  rcases List.mem_or_eq_of_mem_set ht with h1 | h1
  · exact s.2 t h1
  · rw [h1]; exact h⟩
theorem set_red {M : Int} {A : Mat} {r : Row} (s : MRed M A) (i : Nat) (h : RRed M r) : MRed M (A.set i r) := fun t ht => by
  rcases List.mem_or_eq_of_mem_set ht with h1 | h1
  · exact s t h1
  · rw [h1]; exact h
theorem set_ent {n : Nat} {A : Mat} {r : Row} (s : Shp n n A) {x : Nat} (hx : x < n) (i j : Nat) : ent (A.set x r) i j = if i = x then r.getD j 0 else ent A i j := by
  by_cases h : i = x
  · subst h
    rw [if_pos rfl, ent_at (List.getElem?_set_self (by rw [s.1]; exact hx))]
  · rw [if_neg h]
    unfold ent
    rw [List.getD_eq_getElem?_getD (l := A.set x r), List.getElem?_set_ne (fun z => h z.symm), ← List.getD_eq_getElem?_getD]
/-- one row plus t times another -/
theorem inv_add {M : Int} {n : Nat} {A : Mat} {x y : Nat} {a b : Row} {t : Int} (s : Shp n n A) (I : Inv2 M n (ent A)) (hx : x < n) (hy : y < n) (hne : x ≠ y) (ha : A[x]? = some a) (hb : A[y]? = some b) : Inv2 M n (ent (A.set x (comb M 1 a t b))) := by
  have la := s.2 a (List.mem_of_getElem? ha)
  have lb := s.2 b (List.mem_of_getElem? hb)
  have h2 := addE_inv (M := M) (t := -t) hy hne
  rw [Int.neg_neg] at h2
  refine (I.mul (addE_inv (M := M) (t := t) hy hne) h2).congr fun i j hi hj => ?_
  rw [addE_mul hy _ i j hi, set_ent s hx]
  by_cases h : i = x
  · subst h
    rw [if_pos rfl, if_pos rfl]
    refine (comb_fn (by omega) j).trans (.eq ?_)
    rw [ent_at ha, ent_at hb]
    show 1 * a.getD j 0 + t * b.getD j 0 = _
    omega
  · rw [if_neg h, if_neg h]
    exact .eq (by simp)
theorem inv_mul {M : Int} (hM : 2 ≤ M) {n : Nat} {A : Mat} {x : Nat} {a : Row} {u : Int} (s : Shp n n A) (I : Inv2 M n (ent A)) (hx : x < n) (ha : A[x]? = some a) (hu : 0 ≤ u) (hg : Int.gcd u M = 1) : Inv2 M n (ent (A.set x (mulRow M u a))) := by
  obtain ⟨v, hv⟩ := unit_inv (by omega) hu hg
  refine (I.mul (mulE_inv (x := x) hv) (mulE_inv (x := x) (by rw [Int.mul_comm]; exact hv))).congr fun i j hi hj => ?_
  rw [mulE_mul _ i j hi, set_ent s hx]
  by_cases h : i = x
  · subst h
    rw [if_pos rfl, if_pos rfl, ent_at ha]
    exact mul_fn j
  · rw [if_neg h, if_neg h]
    exact .eq (by simp)
section
variable {P : Program} {w : World} {K : PySem.W.Frag} {mg : Str → Option Value} {base : Heap}
theorem ok_gcd {f : Addr} {fd : FuncData} (F : Fun K "_law_common" "_law_common" s_law_common f fd) (T : TxtL mg) : FnOk P w K mg base CX0 1 f fd ["_law_one", "_law_other"] spGcd := by
  refine F.ok sc_law_common (fun vs H Q E h => ?_) (fun cdv A outer s H vs Q E hr h => ?_)
  · obtain ⟨a, b, rfl, _⟩ := h
    rfl
  · obtain ⟨a, b, rfl, k⟩ := h
    refine ⟨_, (pss_cons (ps_par (i := 0) (j := 1) rfl sc_law_common.nd rfl rfl (by decide) rfl rfl (pa_cons (pe_callB call_abs rfl T.f_abs (by decide +kernel) (pa_cons (pv 0) pa_nil)) (pa_cons (pe_callB call_abs rfl T.f_abs (by decide +kernel) (pa_cons (pv 1) pa_nil)) pa_nil)) (by rfl))
        (pss_cons (ps_while PassesOwn.never (pt_cmpR op_gt (pv 1) pe_int (nomark _)) (pss_one (ps_par (i := 0) (j := 1) rfl sc_law_common.nd rfl rfl (by decide) rfl rfl (pa_cons (pv 1) (pa_cons (pe_op op_modN (pe_callTy call_int1 rfl T.f_int (by decide +kernel) (pa_cons (pv 0) pa_nil)) (pv 1)) pa_nil)) (by rfl))))
        (pss_one (ps_ret (pv 0))))), ?_⟩
    refine ⟨_, rfl, _, rfl, _, rfl, _, rfl, _, _, rfl, ?_⟩
    refine while_by (fun σ H' => ∃ x y : Int, σ = [some (.int x), some (.int y)] ∧ H' = H ∧ 0 ≤ x ∧ 0 ≤ y ∧ Int.gcd x y = Int.gcd a b)
      (fun σ _ => mu1 σ) ?_ ?_ (fun σ H Q Q' hq ⟨v, hv, i, j, e1, e2, k, e3, q⟩ => ⟨v, hv, i, j, e1, e2, k, e3, hq _ _ q⟩)
    · refine ⟨(a.natAbs : Int), (b.natAbs : Int), ?_, rfl, by omega, by omega, ?_⟩
      · have e1 : ∀ z : Int, (if z < 0 then -z else z) = (z.natAbs : Int) := fun z => by split <;> omega
        rw [← e1 a, ← e1 b]
        rfl
      · show Nat.gcd _ _ = Nat.gcd _ _
        rw [Int.natAbs_natCast, Int.natAbs_natCast]
    · rintro σ H' ⟨x, y, rfl, rfl, hx, hy, hg⟩
      refine ⟨_, rfl, _, _, rfl, rfl, _, rfl, ?_⟩
      refine ite2 (fun hd => ?_) (fun hd => ?_)
      · have hy0 : 0 < y := of_decide_eq_true hd
        have he : x.fmod y = x % y := Int.fmod_eq_emod_of_nonneg _ (by omega)
        refine ⟨_, rfl, _, rfl, .inl ⟨_, rfl, _, rfl, _, _, rfl, rfl, (by omega), _, _, rfl, ⟨y, x.fmod y, rfl, rfl, hy, by rw [he]; exact Int.emod_nonneg _ (by omega), ?_⟩, ?_⟩⟩
        · rw [he, gcd_turn hx hy0, hg]
        · show (x.fmod y).toNat < y.toNat
          rw [he]
          have := Int.emod_lt_of_pos x hy0
          have := Int.emod_nonneg x (show y ≠ 0 by omega)
          omega
      · have hy0 : y = 0 := by
          have : ¬ 0 < y := fun z => hd (decide_eq_true z)
          omega
        subst hy0
        have hxg : x = (Int.gcd a b : Int) := by
          rw [← hg]
          simp
          omega
        rw [hxg]
        exact ⟨_, rfl, k⟩
end
end Wk

/-! for i, x in enumerate(t), t a tuple -/
namespace ZM
open PySem PySem.Spec PyProof.Rows L2
open PySem.Sem (wp)
open AutoSeq1 (wpAny_loadPart')
theorem meets_enuT (l : Addr) (items : Array Value) (n : Nat) (dd : Option Addr) (sl : Array (Option Value)) :
    Meets (Builtin.«enumerate.__new__» ⟨[.type "enumerate", .ref l], []⟩) (fun _ R s => s.heap.get? l = some { cls := .type "tuple", dict := dd, data := .seq items n, slots := sl } ∧
      R (.ok (.ret (.ref (s.heap.push (itO true l)).objs.size))) { s with heap := (s.heap.push (itO true l)).push { cls := .type "enumerate", data := .fields #[.none, .bool false, .ref s.heap.objs.size, rawInt 0, .none, .none] } }) :=
  .of_wp fun prog w A R s h => by
    obtain ⟨hp, g, d, tk, os⟩ := s
    obtain ⟨hl, h⟩ := h
    have hsub := sub_enumerate
    have r1 : Row true (Shared.heap ⟨hp, g, d, tk, os⟩) l items := ⟨_, hl, rfl, n, rfl⟩
    wp_walk using wpAny_loadPart' hl
    refine wpAny_stack_any fun st => wpAny_pure ?_
    split
    · rename_i c _ _ _ _ _
      cases (c == Value.type "enumerate")
      · wp_walk using wpAny_loadPart' hl, iter_c r1
        exact ⟨_, rfl, h⟩
      · wp_walk using wpAny_loadPart' hl, iter_c r1
        exact ⟨_, rfl, h⟩
    · wp_walk using wpAny_loadPart' hl, iter_c r1
      exact ⟨_, rfl, h⟩
section
variable {prog : Program} {w : World} {A : Around} {E : Value → Shared → Prop} {s : Shared}
theorem call_enuT {l : Addr} {items : Array Value} {Q : Value → Shared → Prop} (q : s.heap.IsTuple l items)
    (h : ∀ h', IsEnum h' (s.heap.objs.size + 1) s.heap.objs.size 0 .none → Pos true h' s.heap.objs.size l 0 → (∀ b o, s.heap.get? b = some o → h'.get? b = some o) → Q (.ref (s.heap.objs.size + 1)) { s with heap := h' }) :
    wpAny (model prog w) A (call (.type "enumerate") [.ref l]) Q E s := by
  obtain ⟨⟨cls, dd, data, sl⟩, ho, hc, n, hd⟩ := q
  simp only at hc hd
  subst hc hd
  refine callType_new F.called_enumerate (by decide) (F.typeCall_enumerate_1 _) (F.newCall_enumerate_1 _) (fun obj => F.args_object_init_2 obj _) F.entry_enumerate_new (meets_enuT l items n dd sl) ⟨ho, ?_⟩
  have e1 : (s.heap.push (itO true l)).objs.size = s.heap.objs.size + 1 := Heap.size_push ..
  have g2 := Heap.get?_push_size (s.heap.push (itO true l)) (o := { cls := .type "enumerate", data := .fields #[.none, .bool false, .ref s.heap.objs.size, rawInt 0, .none, .none] }) rfl
  have g1 := Heap.get?_push_of_some ({ cls := .type "enumerate", data := .fields #[.none, .bool false, .ref s.heap.objs.size, rawInt 0, .none, .none] } : Obj) (Heap.get?_push_size s.heap (o := itO true l) rfl)
  show _ ∧ _
  rw [e1] at g2 ⊢
  exact ⟨⟨_, g2, rfl⟩, h _ g2 (itO_pos g1) fun b o e => Heap.get?_push_of_some _ (Heap.get?_push_of_some _ e)⟩
/-- one pair is handed out -/
theorem enu_item {k : Bool} {e it l : Addr} {i : Nat} {items : Array Value} {x old : Value} {Q : Option Value → Shared → Prop}
    (he : IsEnum s.heap e it i old) (p : Pos k s.heap it l i) (q : Row k s.heap l items) (hx : items[i]? = some x) (hne : e ≠ it)
    (hQ : ∀ h', IsEnumOut h' e it ((i : Int) + 1) x s.heap.objs.size → Pos k h' it l (i + 1) →
      h'.get? s.heap.objs.size = some { cls := .type "tuple", data := .seq #[.int i s.toks, x] } → h'.objs.size = s.heap.objs.size + 1 →
      (∀ b o, b ≠ e → b ≠ it → s.heap.get? b = some o → h'.get? b = some o) → Q (some (.ref s.heap.objs.size)) { s with heap := h', toks := s.toks + 1 }) :
    wpAny (model prog w) A (pyNext (.ref e)) Q E s := by
  have ty : s.TypeIs (.ref e) "enumerate" := ⟨_, he, rfl⟩
  unfold pyNext
  refine wpAny_bind (wpAny_attempt (wpAny_callSpecial?_slot (name := Str.ofString "__next__") ty F.slot_enumerate_next (wpAny_call_entry F.slot_enumerate_next ty F.entry_enumerate_next ?_ (F.args_enumerate_next_1 _))))
  obtain ⟨hp, g, d, tk, os⟩ := s
  show wpAny _ _ (field (.ref e) 2 >>= _) _ _ _
  refine wpAny_bind (wpAny_field he rfl (x := .ref it) rfl (wpAny_bind (next_item p q hx fun hA pA sA => ?_)))
  have sA : Heap.SameBut it hp hA := sA
  have eA : IsEnum hA e it i old := (sA.2 e hne).trans he
  show wpAny _ _ (field (.ref e) 3 >>= _) _ _ ⟨hA, g, d, tk, os⟩
  refine wpAny_bind (wpAny_field eA rfl (x := rawInt i) rfl ?_)
  show wpAny _ _ (field (.ref e) 4 >>= _) _ _ ⟨hA, g, d, tk, os⟩
  refine wpAny_bind (wpAny_field eA rfl (x := .none) rfl ?_)
  show wpAny _ _ (mkInt i >>= _) _ _ ⟨hA, g, d, tk, os⟩
  refine wpAny_bind (wpAny_mkInt ?_)
  show wpAny _ _ (setField (.ref e) 3 (rawInt ((i : Int) + 1)) >>= _) _ _ ⟨hA, g, d, tk + 1, os⟩
  refine wpAny_bind (wpAny_setField_rec eA (by simp) fun hB eB sB => ?_)
  have sB : Heap.SameBut e hA hB := sB
  have eB : IsEnum hB e it ((i : Int) + 1) old := eB
  show wpAny _ _ (setField (.ref e) 4 .none >>= _) _ _ ⟨hB, g, d, tk + 1, os⟩
  refine wpAny_bind (wpAny_setField_rec eB (by simp) fun hC eC sC => ?_)
  have sC : Heap.SameBut e hB hC := sC
  have eC : IsEnum hC e it ((i : Int) + 1) old := eC
  show wpAny _ _ (newTuple [.int i tk, x] >>= _) _ _ ⟨hC, g, d, tk + 1, os⟩
  refine wpAny_bind (wpAny_newTuple ?_)
  have size : hC.objs.size = hp.objs.size := by rw [sC.1, sB.1, sA.1]
  have lt : e ≠ hp.objs.size := Nat.ne_of_lt (Heap.lt_size he)
  have eD : IsEnum (hC.push { cls := .type "tuple", data := .seq #[.int i tk, x] }) e it ((i : Int) + 1) old := Heap.get?_push_of_some _ eC
  have tD : (hC.push { cls := .type "tuple", data := .seq #[.int i tk, x] }).get? hp.objs.size = some { cls := .type "tuple", data := .seq #[.int i tk, x] } := by rw [← size]; exact Heap.get?_push_size _ rfl
  have nD : (hC.push { cls := .type "tuple", data := .seq #[.int i tk, x] }).objs.size = hp.objs.size + 1 := by rw [Heap.size_push, size]
  have kD : ∀ b o, b ≠ e → b ≠ it → hp.get? b = some o → (hC.push { cls := .type "tuple", data := .seq #[.int i tk, x] }).get? b = some o := fun b o n1 n2 z => Heap.get?_push_of_some _ (sC.extBut b o n1 (sB.extBut b o n1 (sA.extBut b o n2 z)))
  have pD : Pos k (hC.push { cls := .type "tuple", data := .seq #[.int i tk, x] }) it l (i + 1) := pA.to fun o z => Heap.get?_push_of_some _ (sC.extBut _ _ hne.symm (sB.extBut _ _ hne.symm z))
  rw [size]
  generalize hC.push { cls := .type "tuple", data := .seq #[.int i tk, x] } = hD at eD tD nD kD pD ⊢
  show wpAny _ _ (Builtin.SmallTypes.ownedTupleIsFree (.ref e) >>= _) _ _ ⟨hD, g, d, tk + 1, os⟩
  refine wpAny_bind ?_
  unfold Builtin.SmallTypes.ownedTupleIsFree
  refine wpAny_bind (wpAny_field eD rfl (x := .none) rfl (wpAny_pure ?_))
  simp only [if_true]
  refine wpAny_bind (wpAny_rule (wpAny_bind (wpAny_field eD rfl (x := old) rfl ?_)))
  refine wpAny_bind (wpAny_setField_rec eD (by simp) fun hF eF sF => ?_)
  have sF : Heap.SameBut e hD hF := sF
  have eF : IsEnum hF e it ((i : Int) + 1) x := eF
  show wpAny _ _ (Builtin.SmallTypes.ownedTupleHandOut (.ref e) (.ref hp.objs.size) >>= _) _ _ ⟨hF, g, d, tk + 1, os⟩
  refine wpAny_bind ?_
  unfold Builtin.SmallTypes.ownedTupleHandOut
  refine wpAny_bind (wpAny_setField_rec eF (by simp) fun hG eG sG => ?_)
  have sG : Heap.SameBut e hF hG := sG
  have eG : IsEnumOut hG e it ((i : Int) + 1) x hp.objs.size := eG
  refine wpAny_setField_rec eG (by simp) fun hI eI sI => ?_
  have sI : Heap.SameBut e hG hI := sI
  have eI : IsEnumOut hI e it ((i : Int) + 1) x hp.objs.size := eI
  have up : ∀ b o, b ≠ e → hD.get? b = some o → hI.get? b = some o := fun b o n1 z => sI.extBut _ _ n1 (sG.extBut _ _ n1 (sF.extBut _ _ n1 z))
  refine wpAny_bind (wpAny_letGo (wpAny_pure ⟨_, rfl, wpAny_pure (hQ hI eI (pD.to fun o => up _ o hne.symm) (up _ _ lt.symm tD) ?_ fun b o n1 n2 z => up b o n1 (kD b o n1 n2 z))⟩))
  rw [sI.1, sG.1, sF.1, nD]
theorem enu_end {k : Bool} {e it l : Addr} {i : Nat} {items : Array Value} {old : Value} {Q : Option Value → Shared → Prop} (hh : A.handled = none)
    (he : IsEnum s.heap e it i old) (p : Pos k s.heap it l i) (q : Row k s.heap l items) (hx : items[i]? = none)
    (hQ : ∀ h', Heap.ExtBut it s.heap h' → Q none { s with heap := h' }) : wpAny (model prog w) A (pyNext (.ref e)) Q E s := by
  have ty : s.TypeIs (.ref e) "enumerate" := ⟨_, he, rfl⟩
  unfold pyNext
  refine wpAny_bind (wpAny_attempt (wpAny_callSpecial?_slot (name := Str.ofString "__next__") ty F.slot_enumerate_next (wpAny_call_entry F.slot_enumerate_next ty F.entry_enumerate_next ?_ (F.args_enumerate_next_1 _))))
  show wpAny _ _ (field (.ref e) 2 >>= _) _ _ _
  refine wpAny_bind (wpAny_field he rfl (x := .ref it) rfl (wpAny_bind (next_end hh p q hx fun h' z he' hz' => ?_)))
  obtain ⟨o, ho, hc⟩ := hz'
  exact wpAny_bind (wpAny_isInstance (T := "StopIteration") (b := true) ⟨o, ho, hc⟩ isSubtype_stop (wpAny_pure (hQ _ he')))
end
def ItE (K : PySem.W.Frag) (a : Addr) : It :=
  ⟨fun i H => ∃ (xs : List V) (x : V), SqT K H a xs ∧ xs[i]? = some x, fun i H v H' => ∃ T x, v = .ref T ∧ H T = none ∧ H' = upd H T (.tup [.int (i : Nat), x]) ∧ ∀ xs, SqT K H a xs → xs[i]? = some x, fun i H => ∃ xs : List V, SqT K H a xs ∧ xs.length ≤ i⟩
theorem turn_enuT {P : Program} {w : World} {K : PySem.W.Frag} {elts : List Expr} {kk : Nat} {tpos : PySem.Pos} (a e it : Addr) :
    Turn P w K (.Tuple elts kk tpos) (ItE K a) [e, it] e (fun i h => (∃ old, IsEnum h e it ((i : Nat) : Int) old) ∧ Pos true h it a i ∧ e ≠ it) where
  mem := by simp
  obj := fun i h st b hb => by
    obtain ⟨⟨old, he⟩, p, _⟩ := st
    have e' : b = e ∨ b = it := by simpa using hb
    rcases e' with rfl | rfl
    · exact ⟨_, he, fun v q => nomatch q⟩
    · exact p.obj
  keep := fun i h h' st k => let ⟨⟨old, he⟩, p, hne⟩ := st; ⟨⟨old, k e (by simp) _ he⟩, p.to (k it (by simp)), hne⟩
  item := by
    intro X hP hw hK hc i pins s σ H E I hf st hg
    subst hP hw hK
    obtain ⟨⟨old, he⟩, hit, hne⟩ := st
    obtain ⟨xs, x, hq, hx⟩ := hg
    obtain ⟨its, rv, p, hz⟩ := I.tuple hq
    obtain ⟨u, hu, ru⟩ := rv.get hx
    have elt : e < s.heap.objs.size := Heap.lt_size he
    have ilt : it < s.heap.objs.size := by
      obtain ⟨_, q, _⟩ := hit.obj
      exact Heap.lt_size q
    refine enu_item (k := true) he hit p (x := u) (by simpa using hu) hne fun h' ho hit' hT hsz hk => ?_
    refine ⟨_, rfl, wpAny_letOwnedTupleGo_enum (s := { s with heap := h', toks := s.toks + 1 }) ho fun h'' he' sb => ?_⟩
    have hT2 : h''.get? s.heap.objs.size = some { cls := .type "tuple", data := .seq #[.int i s.toks, u] } := (sb.2 _ (Nat.ne_of_gt elt)).trans hT
    have new : ObjOk X.prog X.w (upd H s.heap.objs.size (.tup [.int (i : Nat), x])) h'' s.heap.objs.size (.tup [.int (i : Nat), x]) :=
      ⟨by show 2 ≤ sizeLine; decide, [.int i s.toks, u], .cons ⟨_, rfl⟩ (.cons ru .nil), ⟨_, hT2, rfl, _, rfl⟩⟩
    have I1 : Inv X pins σ (upd H s.heap.objs.size (.tup [.int (i : Nat), x])) { s with heap := h'', toks := s.toks + 1 } :=
      I.turnedNew (ch := [e, it]) (fun b ob hb q => by
        simp only [List.mem_cons, List.not_mem_nil, or_false, not_or] at hb
        exact (sb.2 b hb.1).trans (hk b ob hb.1 hb.2 q)) hf (Nat.le_refl _) new
    refine ⟨.ref s.heap.objs.size, _, I1, rfl, ⟨_, x, rfl, I.hok.fresh (Nat.le_refl _), rfl, fun ys hy => by rw [I.tuple_inj hy hq]; exact hx⟩, ⟨⟨u, ?_⟩, hit'.to fun o q => (sb.2 it (Ne.symm hne)).trans q, hne⟩, fun b hb => ?_⟩
    · rw [show ((i + 1 : Nat) : Int) = (i : Int) + 1 by omega]
      exact he'
    · have hb' : b < s.heap.objs.size := by
        have e' : b = e ∨ b = it := by simpa using hb
        rcases e' with rfl | rfl
        · exact elt
        · exact ilt
      rw [upd_ne (Nat.ne_of_lt hb')]
      exact (hf b hb).1
  done := by
    intro X hP hw hK hc i pins s σ H E I hf st hg
    subst hP hw hK
    obtain ⟨⟨old, he⟩, hit, hne⟩ := st
    obtain ⟨xs, hq, hx⟩ := hg
    obtain ⟨its, rv, p, hz⟩ := I.tuple hq
    obtain ⟨f0, f1, f2, f3, f4, f5⟩ := hf it (by simp)
    have hl := rv.length
    exact enu_end (k := true) (I.ok.hd hc) he hit p (by simp; omega) fun h' eb => ⟨rfl, I.turned (t' := s.toks) (fun b o hb q => eb b o hb q) f0 f1 f3 f4 f5⟩
  self := fun A i s Q E st h => let ⟨⟨_, he⟩, _⟩ := st; wpAny_pyIter_enum he h
def iEnuT (K : PySem.W.Frag) (ta : TA) : TI := fun σ H R => ta σ H fun vs H1 => ∃ a xs, vs = [.ref a] ∧ SqT K H1 a xs ∧ R (ItE K a) H1
theorem pi_enumT {X : Cx} {e : Expr} {ta : TA} {p pos tpos : PySem.Pos} {elts : List Expr} {kk : Nat} (hg : Gl X "enumerate") (hm : X.mg "enumerate" = none) (ha : PA X [e] ta) (hs : starEach [e] X.env = [(false, eval e X.env)] := by rfl) :
    PI X (.Tuple elts kk tpos) (.Call (.Name "enumerate" p) [e] [] pos) (iEnuT X.K ta) := by
  refine ⟨fun pins s σ H R I h => ?_⟩
  refine Call_ (ld_blt I hg hm boot_enumerate (PyProof.Rows.callWith_type1 (thn (ha.run pos pins s σ H _ I h) fun us s1 ⟨vs, H1, I1, r1, q1⟩ => ?_) hs rfl))
  obtain ⟨a, xs, rfl, hq, q⟩ := q1
  cases r1 with
  | cons r rr =>
    cases rr
    cases r
    obtain ⟨its, rv, p', hz⟩ := I1.tuple hq
    refine call_enuT p' fun h' he hit hk => wpAny_pyIter_enum he ?_
    have I2 : Inv X pins σ H1 { s1 with heap := h' } := I1.kept (t' := s1.toks) hk
    refine ⟨s1.heap.objs.size + 1, [s1.heap.objs.size + 1, s1.heap.objs.size], _, _, H1, rfl, I2, turn_enuT a (s1.heap.objs.size + 1) s1.heap.objs.size, ⟨⟨.none, he⟩, hit, Nat.succ_ne_self _⟩, fun b hb => ?_, q⟩
    have hle : s1.heap.objs.size ≤ b := by
      have e' : b = s1.heap.objs.size + 1 ∨ b = s1.heap.objs.size := by simpa using hb
      rcases e' with z | z <;> rw [z]
      · exact Nat.le_add_right _ _
      · exact Nat.le_refl _
    exact I1.fpOk hle (I1.hok.fresh hle)
theorem walk_enuT {K : PySem.W.Frag} {a : Addr} {xs : List V} : Walk (ItE K a) xs.length (fun H => SqT K H a xs) (YPair (fun i => some (.int (i : Nat))) (fun i => xs[i]?)) := by
  refine ⟨fun i _ hi q => ⟨xs, xs[i], q, by simp [hi]⟩, fun _ q => ⟨xs, q, Nat.le_refl _⟩, fun i H v H' _ q y => ?_⟩
  obtain ⟨T, x, e1, e2, e3, e4⟩ := y
  exact ⟨T, .int (i : Nat), x, e1, e2, e3, rfl, e4 xs q⟩
end ZM

/-! rows put into stairs, what is left of a row, how a row is made of others -/
namespace Wk
def JJ (M : Int) (w : Nat) (S : List (Option Row)) : Prop := ∀ (q : Nat) (s : Row) (x : Int), S[q]? = some (some s) → s[q]? = some x → InS M w (GS S (q + 1)) fun j => M / x * fn s j
def markOf (M : Int) (m : Nat) (a : Row) (k : Nat) : Row := a.map (· % M) ++ unitRow m k
inductive PutsL (M : Int) (w m : Nat) (A : Mat) : Nat → List (Option Row) → Prop
  | zero : PutsL M w m A 0 (List.replicate w none)
  | succ {k : Nat} {S S' : List (Option Row)} {a r' : Row} : PutsL M w m A k S → A[k]? = some a → Ch M S (markOf M m a k) w S' r' → PutsL M w m A (k + 1) S'
theorem fn_at {r : Row} {j : Nat} {x : Int} (h : r[j]? = some x) : fn r j = x := by
  unfold fn
  rw [List.getD_eq_getElem?_getD, h]
  rfl
theorem at_fn {r : Row} {j : Nat} (h : j < r.length) : r[j]? = some (fn r j) := by
  unfold fn
  rw [List.getD_eq_getElem?_getD, List.getElem?_eq_getElem h]
  rfl
theorem fn_map {M : Int} {a : Row} (j : Nat) : Eqm M (fn (a.map (· % M)) j) (fn a j) := by
  unfold fn
  rw [List.getD_eq_getElem?_getD, List.getD_eq_getElem?_getD, List.getElem?_map]
  cases a[j]? with
  | none => exact .refl _ _
  | some x => exact Eqm.mod _ _
theorem fn_left {a b : Row} {j : Nat} (h : j < a.length) : fn (a ++ b) j = fn a j := by
  unfold fn
  rw [List.getD_eq_getElem?_getD, List.getD_eq_getElem?_getD, List.getElem?_append_left h]
theorem fn_right {a b : Row} {j : Nat} : fn (a ++ b) (a.length + j) = fn b j := by
  unfold fn
  rw [List.getD_eq_getElem?_getD, List.getD_eq_getElem?_getD, List.getElem?_append_right (by omega)]
  congr 2
  omega
theorem fn_unit {m k j : Nat} (h : j < m) : fn (unitRow m k) j = if j = k then 1 else 0 := by
  unfold fn unitRow
  rw [List.getD_eq_getElem?_getD, List.getElem?_map, List.getElem?_range h]
  rfl
theorem row_ext {w : Nat} {r s : Row} (h : r.length = w) (g : s.length = w) (e : ∀ j, j < w → fn r j = fn s j) : r = s := by
  apply List.ext_getElem?
  intro j
  by_cases hj : j < w
  · rw [at_fn (by omega), at_fn (by omega), e j hj]
  · rw [List.getElem?_eq_none (by omega), List.getElem?_eq_none (by omega)]
theorem fn_red {M : Int} {r : Row} (h : RRed M r) {j : Nat} (hj : j < r.length) : 0 ≤ fn r j ∧ fn r j < M := h _ (List.mem_of_getElem? (at_fn hj))
theorem row_eqm {M : Int} {w : Nat} {r s : Row} (h : r.length = w) (g : s.length = w) (rr : RRed M r) (rs : RRed M s) (e : ∀ j, j < w → Eqm M (fn r j) (fn s j)) : r = s :=
  row_ext h g fun j hj => (e j hj).red (fn_red rr (by omega)) (fn_red rs (by omega))
theorem markOf_ok {M : Int} (hM : 2 ≤ M) {w m k : Nat} {a : Row} (h : a.length = w) : (markOf M m a k).length = w + m ∧ RRed M (markOf M m a k) := by
  refine ⟨by simp [markOf, unitRow, h], fun x hx => ?_⟩
  rcases List.mem_append.mp hx with hx | hx
  · obtain ⟨y, _, rfl⟩ := List.mem_map.mp hx
    exact mod_red (by omega) y
  · obtain ⟨j, _, rfl⟩ := List.mem_map.mp hx
    split <;> omega
theorem mark_fn {M : Int} {w m k : Nat} {a : Row} (h : a.length = w) {j : Nat} (hj : j < w) : Eqm M (fn (markOf M m a k) j) (fn a j) := by
  unfold markOf
  rw [fn_left (by simpa [h] using hj)]
  exact fn_map j
theorem PutsL.wf {M : Int} (hM : 2 ≤ M) {w m k : Nat} {A : Mat} {S : List (Option Row)} (hA : ∀ r ∈ A, r.length = w) (p : PutsL M w m A k S) : WF M (w + m) w S := by
  induction p with
  | zero => exact ⟨by simp, fun i s e => by
      rw [List.getElem?_replicate] at e
      split at e <;> cases e⟩
  | succ p h c ih =>
    obtain ⟨a, b⟩ := markOf_ok (m := m) hM (hA _ (List.mem_of_getElem? h))
    exact (c.wf hM ih a b).1
theorem PutsL.span {M : Int} (hM : 2 ≤ M) {w m k : Nat} {A : Mat} {S : List (Option Row)} (hA : ∀ r ∈ A, r.length = w) (p : PutsL M w m A k S) :
    (∀ (i : Nat) (a : Row), i < k → A[i]? = some a → InS M w (GS S 0) (fn a)) ∧ JJ M w S := by
  induction p with
  | zero => exact ⟨fun i a h => absurd h (Nat.not_lt_zero _), fun q s x h => by
      rw [List.getElem?_replicate] at h
      split at h <;> cases h⟩
  | succ p h c ih =>
    rename_i k S S' a r'
    obtain ⟨i1, i2⟩ := ih
    have hal := hA _ (List.mem_of_getElem? h)
    obtain ⟨o1, o2⟩ := markOf_ok (m := m) (k := k) hM hal
    obtain ⟨d1, d2⟩ := c.done hM (p.wf hM hA) o1 o2 i2
    refine ⟨fun i b hi hb => ?_, d2⟩
    rcases Nat.lt_succ_iff_lt_or_eq.mp hi with z | z
    · exact (i1 i b z hb).trans fun v hv => d1 v (.inl hv)
    · subst z
      rw [h] at hb
      cases hb
      exact (d1 _ (.inr rfl)).congr fun j hj => (mark_fn hal hj).symm
/-- what multiples and sums keep holds of what is put -/
theorem Ch.closed {M : Int} {Pd : Row → Prop} (hm : ∀ f r, Pd r → Pd (mulRow M f r)) (hc : ∀ f r g s, Pd r → Pd s → Pd (comb M f r g s)) {i : Nat} {S0 S : List (Option Row)} {r0 r : Row} (c : Ch M S0 r0 i S r) (h0 : ∀ (q : Nat) (s : Row), S0[q]? = some (some s) → Pd s) (hr : Pd r0) :
    (∀ (q : Nat) (s : Row), S[q]? = some (some s) → Pd s) ∧ Pd r := by
  have hset : ∀ {S : List (Option Row)} {t : Row} (i : Nat), (∀ (q : Nat) (s : Row), S[q]? = some (some s) → Pd s) → Pd t → ∀ (q : Nat) (s : Row), (S.set i (some t))[q]? = some (some s) → Pd s := fun i a b q s e => by
    by_cases z : i = q
    · subst z
      rw [List.getElem?_set] at e
      simp at e
      obtain ⟨_, rfl⟩ := e
      exact b
    · rw [List.getElem?_set_ne z] at e
      exact a q s e
  induction c with
  | base => exact ⟨h0, hr⟩
  | skip c h ih => exact ih
  | step c h h1 st ih =>
    obtain ⟨a, b⟩ := ih
    rcases st with ⟨e0, g, lf, f, hg, g1, hbz, rfl, rfl⟩ | ⟨s, P, e0, hP, ⟨h0, rfl, rfl⟩ | ⟨g, lf, f, hg, g1, hbz, rfl, rfl⟩⟩
    · exact ⟨hset _ a (hm _ _ b), hm _ _ b⟩
    · exact ⟨a, hc _ _ _ _ b (a _ _ e0)⟩
    · exact ⟨hset _ a (hc _ _ _ _ b (a _ _ e0)), hc _ _ _ _ b (a _ _ e0)⟩
theorem PutsL.closed {M : Int} {Pd : Row → Prop} {w m k : Nat} {A : Mat} {S : List (Option Row)} (hm : ∀ f r, Pd r → Pd (mulRow M f r)) (hc : ∀ f r g s, Pd r → Pd s → Pd (comb M f r g s)) (p : PutsL M w m A k S)
    (hA : ∀ (i : Nat) (a : Row), i < k → A[i]? = some a → Pd (markOf M m a i)) : ∀ (q : Nat) (s : Row), S[q]? = some (some s) → Pd s := by
  induction p with
  | zero =>
    intro q s h
    rw [List.getElem?_replicate] at h
    split at h <;> cases h
  | succ p h c ih =>
    exact (c.closed hm hc (ih fun i a hi => hA i a (by omega)) (hA _ _ (Nat.lt_succ_self _) h)).1
theorem lessen_closed {M : Int} {Pd : Row → Prop} (hc : ∀ f r g s, Pd r → Pd s → Pd (comb M f r g s)) : ∀ {L : List (Nat × Row)} {r : Row}, (∀ q s, (q, s) ∈ L → Pd s) → Pd r → Pd (lessen M r L)
  | [], r, _, h => h
  | (q, s) :: L, r, hL, h => by
    unfold lessen
    refine lessen_closed hc (fun q s h => hL q s (List.mem_cons_of_mem _ h)) ?_
    split
    · exact hc _ _ _ _ h (hL q s List.mem_cons_self)
    · exact h
theorem settle_closed {M : Int} {Pd : Row → Prop} (hc : ∀ f r g s, Pd r → Pd s → Pd (comb M f r g s)) {n : Nat} {S : List (Option Row)} (hS : ∀ (q : Nat) (s : Row), S[q]? = some (some s) → Pd s) : ∀ (i q : Nat) (s : Row), (q, s) ∈ settle M n S i → Pd s
  | 0, q, s, h => by simp [settle] at h
  | i + 1, q, s, h => by
    unfold settle at h
    split at h
    · exact settle_closed hc hS i q s h
    · rename_i r e
      rcases List.mem_cons.mp h with h | h
      · cases h
        refine lessen_closed hc (settle_closed hc hS i) (hS (n - 1 - i) r ?_)
        rw [List.getD_eq_getElem?_getD] at e
        cases z : S[n - 1 - i]? with
        | none => rw [z] at e; cases e
        | some y => rw [z] at e; exact congrArg some e
      · exact settle_closed hc hS i q s h
/-- the rows of a matrix as what spans -/
def RW (A : Mat) (v : Vec) : Prop := ∃ a ∈ A, v = fn a
def InP (M : Int) (w W : Nat) (A : Mat) (r : Row) : Prop := r.length = W ∧ InS M w (RW A) (fn r)
theorem InP.mul {M : Int} {w W : Nat} {A : Mat} (f : Int) (r : Row) (h : InP M w W A r) : InP M w W A (mulRow M f r) := ⟨by simp [mulRow, h.1], h.2.scale f fun j _ => mul_fn j⟩
theorem InP.comb {M : Int} {w W : Nat} {A : Mat} (f : Int) (r : Row) (g : Int) (s : Row) (h : InP M w W A r) (h2 : InP M w W A s) : InP M w W A (comb M f r g s) := ⟨by simp [Wk.comb, h.1, h2.1], h.2.comb f g h2.2 fun j _ => comb_fn (by rw [h.1, h2.1]) j⟩
theorem PutsL.inA {M : Int} {w m k : Nat} {A : Mat} {S : List (Option Row)} (hA : ∀ r ∈ A, r.length = w) (p : PutsL M w m A k S) : ∀ (q : Nat) (s : Row), S[q]? = some (some s) → InP M w (w + m) A s :=
  p.closed InP.mul InP.comb fun i a _ h => ⟨by simp [markOf, unitRow, hA _ (List.mem_of_getElem? h)], .congr (.of ⟨a, List.mem_of_getElem? h, rfl⟩) fun j hj => mark_fn (hA _ (List.mem_of_getElem? h)) hj⟩
/-- the steps and the rows that were put span the same -/
theorem PutsL.iff {M : Int} (hM : 2 ≤ M) {w m : Nat} {A : Mat} {S : List (Option Row)} (hA : ∀ r ∈ A, r.length = w) (p : PutsL M w m A A.length S) (v : Vec) : InS M w (GS S 0) v ↔ InS M w (RW A) v := by
  refine ⟨fun h => h.trans fun u hu => ?_, fun h => h.trans fun u hu => ?_⟩
  · obtain ⟨q, s, _, h2, rfl⟩ := hu
    exact (p.inA hA q s h2).2
  · obtain ⟨a, ha, rfl⟩ := hu
    obtain ⟨i, hi⟩ := List.mem_iff_getElem?.mp ha
    exact (p.span hM hA).1 i a (List.getElem?_eq_some_iff.mp hi).1 hi
/-- sums of multiples -/
theorem InS.sums {M : Int} {w : Nat} {A : Mat} (c : Nat → Int) {v : Vec} (e : ∀ j, j < w → Eqm M (v j) (Wk.sumN A.length fun k => c k * ent A k j)) : InS M w (RW A) v :=
  InS.sumN (m := A.length) (v := fun k => fn (A.getD k [])) c (fun k hk => .of ⟨A[k], List.getElem_mem hk, by rw [List.getD_eq_getElem?_getD, List.getElem?_eq_getElem hk]; rfl⟩) fun j hj => e j hj
theorem InS.coef {M : Int} {w : Nat} {A : Mat} {v : Vec} (h : InS M w (RW A) v) : ∃ c : Nat → Int, ∀ j, j < w → Eqm M (v j) (Wk.sumN A.length fun k => c k * ent A k j) := by
  induction h with
  | zero h => exact ⟨fun _ => 0, fun j hj => (h j hj).trans (.eq (by rw [sumN_congr (g := fun _ => 0) (fun k _ => by simp), sumN_zero]))⟩
  | add c g h f ih =>
    obtain ⟨a, ha, rfl⟩ := g
    obtain ⟨d, hd⟩ := ih
    obtain ⟨i, hi⟩ := List.mem_iff_getElem?.mp ha
    have hil := (List.getElem?_eq_some_iff.mp hi).1
    refine ⟨fun k => d k + if k = i then c else 0, fun j hj => (f j hj).trans (((hd j hj).add (.refl _ _)).trans (.eq ?_))⟩
    have e : ∀ k, (d k + if k = i then c else 0) * ent A k j = d k * ent A k j + if k = i then c * fn a j else 0 := fun k => by
      by_cases z : k = i
      · subst z
        rw [if_pos rfl, if_pos rfl, ent_at hi]
        show _ = _ + c * a.getD j 0
        grind
      · rw [if_neg z, if_neg z]
        simp
    rw [sumN_congr fun k _ => e k, sumN_add, sumN_one hil]
/-! the rows behind are what the rows ahead are made of -/
def RelM (M : Int) (w m : Nat) (A : Mat) (r : Row) : Prop := r.length = w + m ∧ ∀ j, j < w → Eqm M (fn r j) (sumN m fun k => fn r (w + k) * ent A k j)
theorem RelM.mul {M : Int} {w m : Nat} {A : Mat} (f : Int) (r : Row) (h : RelM M w m A r) : RelM M w m A (mulRow M f r) := ⟨by simp [mulRow, h.1], fun j hj => by
  refine (mul_fn j).trans (((Eqm.refl _ f).mul (h.2 j hj)).trans ?_)
  rw [← sumN_mul]
  exact Eqm.sum fun k _ => Eqm.trans (.eq (by grind)) ((mul_fn (w + k)).symm.mul (.refl _ _))⟩
theorem RelM.comb {M : Int} {w m : Nat} {A : Mat} (f : Int) (r : Row) (g : Int) (s : Row) (h : RelM M w m A r) (h2 : RelM M w m A s) : RelM M w m A (comb M f r g s) := ⟨by simp [Wk.comb, h.1, h2.1], fun j hj => by
  have hl : r.length = s.length := by rw [h.1, h2.1]
  refine (comb_fn hl j).trans ((((Eqm.refl _ f).mul (h.2 j hj)).add ((Eqm.refl _ g).mul (h2.2 j hj))).trans ?_)
  rw [← sumN_mul, ← sumN_mul, ← sumN_add]
  exact Eqm.sum fun k _ => Eqm.trans (.eq (by grind)) ((comb_fn hl (w + k)).symm.mul (.refl _ _))⟩
theorem RelM.mark {M : Int} {w m k : Nat} {A : Mat} {a : Row} (hk : k < m) (ha : a.length = w) (h : A[k]? = some a) : RelM M w m A (markOf M m a k) := ⟨by simp [markOf, unitRow, ha], fun j hj => by
  refine (mark_fn ha hj).trans (.eq ?_)
  have e : ∀ l, l < m → fn (markOf M m a k) (w + l) * ent A l j = if l = k then fn a j else 0 := fun l hl => by
    have : fn (markOf M m a k) (w + l) = if l = k then 1 else 0 := by
      unfold markOf
      rw [show w + l = (a.map (· % M)).length + l by simp [ha], fn_right, fn_unit hl]
    rw [this]
    split
    · rename_i z
      rw [z, ent_at h, Int.one_mul]
      rfl
    · rw [Int.zero_mul]
  rw [sumN_congr e, sumN_one hk]⟩
theorem PutsL.rel {M : Int} {w m k : Nat} {A : Mat} {S : List (Option Row)} (hA : ∀ r ∈ A, r.length = w) (hm : A.length = m) (p : PutsL M w m A k S) : ∀ (q : Nat) (s : Row), S[q]? = some (some s) → RelM M w m A s :=
  p.closed RelM.mul RelM.comb fun i a _ h => .mark (by rw [← hm]; exact (List.getElem?_eq_some_iff.mp h).1) (hA _ (List.mem_of_getElem? h)) h
/-- what is left of a row, place by place -/
inductive RestTo (M : Int) (S : List (Option Row)) (r0 : Row) : Nat → Row → Prop
  | base : RestTo M S r0 0 r0
  | skip {i : Nat} {r : Row} : RestTo M S r0 i r → r[i]? = some 0 → RestTo M S r0 (i + 1) r
  | step {i : Nat} {r s : Row} {N x : Int} : RestTo M S r0 i r → r[i]? = some N → N ≠ 0 → S[i]? = some (some s) → s[i]? = some x → N % x = 0 → RestTo M S r0 (i + 1) (comb M 1 r (-(N / x)) s)
/-- the row cannot be made less -/
def RestBad (M : Int) (S : List (Option Row)) (r0 : Row) : Prop := ∃ i r N, i < S.length ∧ RestTo M S r0 i r ∧ r[i]? = some N ∧ N ≠ 0 ∧ (S[i]? = some none ∨ ∃ s x, S[i]? = some (some s) ∧ s[i]? = some x ∧ N % x ≠ 0)
theorem RestTo.ok {M : Int} {W w i : Nat} {S : List (Option Row)} {r0 r : Row} (c : RestTo M S r0 i r) (hM : 2 ≤ M) (wf : WF M W w S) (hr : r0.length = W) (rr : RRed M r0) : r.length = W ∧ RRed M r ∧ ∀ j, j < i → r[j]? = some 0 := by
  induction c with
  | base => exact ⟨hr, rr, fun j h => absurd h (Nat.not_lt_zero _)⟩
  | skip c h ih =>
    obtain ⟨b, d, e⟩ := ih
    refine ⟨b, d, fun j hj => ?_⟩
    rcases Nat.lt_succ_iff_lt_or_eq.mp hj with h2 | h2
    · exact e j h2
    · rw [h2]
      exact h
  | step c h h0 hs hx hm ih =>
    rename_i i r s N x
    obtain ⟨b, d, e⟩ := ih
    obtain ⟨sl, sr, ⟨y, hy, y1, yM⟩, sz⟩ := wf.row _ _ hs
    rw [hx] at hy
    cases hy
    refine ⟨by simp [comb, b, sl], comb_red (by omega) _ _ _ _, fun j hj => ?_⟩
    rcases Nat.lt_succ_iff_lt_or_eq.mp hj with h2 | h2
    · rw [comb_at (e j h2) (sz j h2)]
      simp
    · subst h2
      rw [comb_at h hx]
      have := Int.emod_add_ediv_mul N x
      rw [show 1 * N + -(N / x) * x = 0 by grind]
      simp
theorem RestTo.inS {M : Int} {W w i : Nat} {S : List (Option Row)} {r0 r : Row} (c : RestTo M S r0 i r) (hM : 2 ≤ M) (wf : WF M W w S) (hr : r0.length = W) (rr : RRed M r0) (hi : i ≤ w) (J : JJ M w S) (h0 : InS M w (GS S 0) (fn r0)) : InS M w (GS S i) (fn r) := by
  induction c with
  | base => exact h0
  | skip c h ih => exact InS.down wf J (by omega) (ih (by omega)) (.eq (fn_at h))
  | step c h hN hs hx hm ih =>
    rename_i i r s N x
    obtain ⟨b, d, e⟩ := c.ok hM wf hr rr
    obtain ⟨sl, _⟩ := wf.row _ _ hs
    have c2 := RestTo.step c h hN hs hx hm
    obtain ⟨b2, d2, e2⟩ := c2.ok hM wf hr rr
    refine InS.down wf J (by omega) ?_ (.eq (fn_at (e2 i (by omega))))
    exact (ih (by omega)).comb 1 (-(N / x)) (.of ⟨i, s, Nat.le_refl _, hs, rfl⟩) fun j _ => comb_fn (by omega) j
theorem RestBad.no {M : Int} {W w : Nat} {S : List (Option Row)} {r0 : Row} (b : RestBad M S r0) (hM : 2 ≤ M) (wf : WF M W w S) (hr : r0.length = W) (rr : RRed M r0) (J : JJ M w S) (h0 : InS M w (GS S 0) (fn r0)) : False := by
  obtain ⟨i, r, N, hi, c, hN, h, bad⟩ := b
  rw [wf.len] at hi
  obtain ⟨rl, rd, _⟩ := c.ok hM wf hr rr
  have hNr := rd _ (List.mem_of_getElem? hN)
  have g := c.inS hM wf hr rr (by omega) J h0
  have low : InS M w (GS S (i + 1)) (fn r) → False := fun g => by
    have := g.vanish wf hi
    rw [fn_at hN] at this
    exact h (this.red hNr ⟨Int.le_refl _, by omega⟩)
  rcases g.split with ⟨s, cc, u, g1, g2, g3⟩ | g
  · rcases bad with bad | ⟨s', x, bad, hx, hm⟩
    · rw [bad] at g1
      cases g1
    · rw [bad] at g1
      cases g1
      obtain ⟨_, _, ⟨y, hy, y1, yM⟩, _⟩ := wf.row _ _ bad
      rw [hx] at hy
      cases hy
      have e := g3 i hi
      rw [fn_at hN, fn_at hx] at e
      obtain ⟨k, e⟩ := e.trans ((g2.vanish wf hi).add (.refl _ _))
      obtain ⟨l, rfl⟩ := yM
      apply hm
      rw [e, show 0 + cc * x + x * l * k = x * (cc + l * k) by grind, Int.mul_emod_right]
  · exact low g
/-- how the row is made, of what is left of it -/
theorem RestTo.rel {M : Int} {w m i : Nat} {A : Mat} {S : List (Option Row)} {row r : Row} (hw : row.length = w) (hS : ∀ (q : Nat) (s : Row), S[q]? = some (some s) → RelM M w m A s) (c : RestTo M S (row.map (· % M) ++ List.replicate m 0) i r) :
    r.length = w + m ∧ ∀ j, j < w → Eqm M (fn r j) (fn row j + sumN m fun k => fn r (w + k) * ent A k j) := by
  induction c with
  | base =>
    refine ⟨by simp [hw], fun j hj => ?_⟩
    have e : ∀ k, fn (row.map (· % M) ++ List.replicate m 0) (w + k) = 0 := fun k => by
      rw [show w + k = (row.map (· % M)).length + k by simp [hw], fn_right]
      unfold fn
      rw [List.getD_eq_getElem?_getD, List.getElem?_replicate]
      split <;> rfl
    rw [fn_left (by simpa [hw] using hj), sumN_congr (g := fun _ => 0) fun k _ => by rw [e k, Int.zero_mul], sumN_zero, Int.add_zero]
    exact fn_map j
  | skip c h ih => exact ih
  | step c h hN hs hx hm ih =>
    rename_i i r s N x
    obtain ⟨l1, ih⟩ := ih
    obtain ⟨l2, hr⟩ := hS _ _ hs
    have hl : r.length = s.length := by rw [l1, l2]
    refine ⟨by simp [comb, l1, l2], fun j hj => ?_⟩
    refine (comb_fn hl j).trans ((((Eqm.refl _ 1).mul (ih j hj)).add ((Eqm.refl _ (-(N / x))).mul (hr j hj))).trans ?_)
    have e : sumN m (fun k => fn (comb M 1 r (-(N / x)) s) (w + k) * ent A k j) = sumN m (fun k => fn (comb M 1 r (-(N / x)) s) (w + k) * ent A k j) := rfl
    refine Eqm.trans (.eq ?_) ((Eqm.refl M (fn row j)).add (Eqm.sum fun k _ => (comb_fn hl (w + k)).symm.mul (.refl _ (ent A k j))))
    rw [← sumN_mul, Int.mul_add, Int.add_assoc, ← sumN_mul, ← sumN_add, Int.one_mul]
    congr 1
    exact sumN_congr fun k _ => by grind
def madeOf (M : Int) (w : Nat) (r : Row) : Row := (r.drop w).map fun x => -x % M
theorem madeOf_ok {M : Int} (hM : 2 ≤ M) {w m : Nat} {A : Mat} {S : List (Option Row)} {row r : Row} (wf : WF M (w + m) w S) (hw : row.length = w) (hS : ∀ (q : Nat) (s : Row), S[q]? = some (some s) → RelM M w m A s) (c : RestTo M S (row.map (· % M) ++ List.replicate m 0) w r) :
    (madeOf M w r).length = m ∧ RRed M (madeOf M w r) ∧ ∀ j, j < w → Eqm M (fn row j) (sumN m fun k => fn (madeOf M w r) k * ent A k j) := by
  obtain ⟨l, h⟩ := c.rel hw hS
  have rr : RRed M (row.map (· % M) ++ List.replicate m 0) := fun x hx => by
    rcases List.mem_append.mp hx with hx | hx
    · obtain ⟨y, _, rfl⟩ := List.mem_map.mp hx
      exact mod_red (by omega) y
    · rw [List.eq_of_mem_replicate hx]
      omega
  obtain ⟨_, _, hz⟩ := c.ok hM wf (by simp [hw]) rr
  refine ⟨by simp [madeOf, l], fun x hx => by
    obtain ⟨y, _, rfl⟩ := List.mem_map.mp hx
    exact mod_red (by omega) _, fun j hj => ?_⟩
  have e1 := h j hj
  rw [fn_at (hz j hj)] at e1
  have e2 : ∀ k, k < m → Eqm M (fn (madeOf M w r) k * ent A k j) (-1 * (fn r (w + k) * ent A k j)) := fun k hk => by
    have : fn (madeOf M w r) k = -fn r (w + k) % M := by
      refine fn_at ?_
      unfold madeOf
      rw [List.getElem?_map, List.getElem?_drop, at_fn (by omega)]
      rfl
    rw [this]
    exact ((Eqm.mod M _).mul (.refl _ _)).trans (.eq (by grind))
  refine Eqm.trans ?_ (Eqm.sum e2).symm
  rw [sumN_mul]
  obtain ⟨k, e1⟩ := e1
  exact ⟨-k, by grind⟩
/-! sums of multiples, as the law makes them -/
def addRow (M : Int) (u : Row) (o : Int) (a : Row) : Row := List.zipWith (fun x y => (x + o * y) % M) u a
def addedF (M : Int) (A : Mat) (c : Row) (w : Nat) : Nat → Row
  | 0 => List.replicate w 0
  | k + 1 => addRow M (addedF M A c w k) (c.getD k 0) (A.getD k [])
theorem addRow_at {M o : Int} {u a : Row} {j : Nat} (h1 : j < u.length) (h2 : j < a.length) : fn (addRow M u o a) j = (fn u j + o * fn a j) % M := by
  refine fn_at ?_
  unfold addRow
  rw [List.getElem?_zipWith, at_fn h1, at_fn h2]
theorem addRow_red {M : Int} (h : 1 ≤ M) (u : Row) (o : Int) (a : Row) : RRed M (addRow M u o a) := fun x hx => by
  obtain ⟨k, hk⟩ := List.mem_iff_getElem?.mp hx
  unfold addRow at hk
  rw [List.getElem?_zipWith] at hk
  split at hk
  · cases hk
    exact mod_red h _
  · cases hk
theorem addedF_ok {M : Int} (hM : 2 ≤ M) {A : Mat} {c : Row} {w : Nat} (hA : ∀ r ∈ A, r.length = w) : ∀ k, k ≤ A.length → (addedF M A c w k).length = w ∧ RRed M (addedF M A c w k) ∧ ∀ j, j < w → Eqm M (fn (addedF M A c w k) j) (sumN k fun l => fn c l * ent A l j)
  | 0, _ => ⟨by simp [addedF], fun x hx => by rw [List.eq_of_mem_replicate hx]; omega, fun j hj => .eq (fn_at (r := addedF M A c w 0) (x := 0) (by simp [addedF, List.getElem?_replicate, hj]))⟩
  | k + 1, hk => by
    obtain ⟨a, b, h⟩ := addedF_ok (c := c) hM hA k (by omega)
    have e : A.getD k [] = A[k] := by
      rw [List.getD_eq_getElem?_getD, List.getElem?_eq_getElem (by omega)]
      rfl
    have hl : (A[k]).length = w := hA _ (List.getElem_mem _)
    refine ⟨by unfold addedF; rw [e]; simp [addRow, a, hl], addRow_red (by omega) _ _ _, fun j hj => ?_⟩
    unfold addedF
    rw [addRow_at (by omega) (by rw [e]; omega)]
    exact (Eqm.mod _ _).trans ((h j hj).add (.refl _ _))
/-! all sums of multiples, as the law's dict holds them -/
def ins (L : List Row) (v : Row) : List Row := if v ∈ L then L else L ++ [v]
def spanIn (M : Int) (u a : Row) (L : List Row) : Nat → List Row
  | 0 => L
  | k + 1 => ins (spanIn M u a L k) (addRow M u ((k : Int) + 1) a)
def spanRow (M : Int) (a : Row) (L : List Row) : Nat → List Row
  | 0 => L
  | t + 1 => spanIn M (L.getD t []) a (spanRow M a L t) (M - 1).toNat
def spanD (M : Int) (w : Nat) (A : Mat) : Nat → List Row
  | 0 => [List.replicate w 0]
  | i + 1 => spanRow M (A.getD i []) (spanD M w A i) (spanD M w A i).length
theorem ins_mem {L : List Row} {v u : Row} : u ∈ ins L v ↔ u ∈ L ∨ u = v := by
  unfold ins
  split
  · rename_i h
    exact ⟨.inl, fun z => z.elim id fun z => z ▸ h⟩
  · simp
theorem ins_nodup {L : List Row} {v : Row} (h : L.Nodup) : (ins L v).Nodup := by
  unfold ins
  split
  · exact h
  · rename_i g
    rw [List.nodup_append]
    exact ⟨h, by simp, fun a ha b hb => by
      simp at hb
      rw [hb]
      exact fun z => g (z ▸ ha)⟩
theorem ins_len (L : List Row) (v : Row) : (ins L v).length ≤ L.length + 1 := by
  unfold ins
  split <;> simp
theorem spanIn_mem {M : Int} {u a : Row} {L : List Row} {v : Row} : ∀ k, v ∈ spanIn M u a L k ↔ v ∈ L ∨ ∃ o : Nat, 1 ≤ o ∧ o ≤ k ∧ v = addRow M u o a
  | 0 => ⟨.inl, fun h => h.elim id fun ⟨o, h1, h2, _⟩ => absurd h2 (by omega)⟩
  | k + 1 => by
    unfold spanIn
    rw [ins_mem, spanIn_mem k]
    constructor
    · rintro ((h | ⟨o, h1, h2, h3⟩) | h)
      · exact .inl h
      · exact .inr ⟨o, h1, by omega, h3⟩
      · exact .inr ⟨k + 1, by omega, Nat.le_refl _, h⟩
    · rintro (h | ⟨o, h1, h2, h3⟩)
      · exact .inl (.inl h)
      · by_cases e : o = k + 1
        · subst e
          exact .inr h3
        · exact .inl (.inr ⟨o, h1, by omega, h3⟩)
theorem spanIn_nodup {M : Int} {u a : Row} {L : List Row} (h : L.Nodup) : ∀ k, (spanIn M u a L k).Nodup
  | 0 => h
  | k + 1 => ins_nodup (spanIn_nodup h k)
theorem spanIn_len (M : Int) (u a : Row) (L : List Row) : ∀ k, (spanIn M u a L k).length ≤ L.length + k
  | 0 => Nat.le_refl _
  | k + 1 => Nat.le_trans (ins_len _ _) (by have := spanIn_len M u a L k; omega)
theorem spanRow_mem {M : Int} {a : Row} {L : List Row} {v : Row} : ∀ t, t ≤ L.length → (v ∈ spanRow M a L t ↔ v ∈ L ∨ ∃ i, i < t ∧ ∃ o : Nat, 1 ≤ o ∧ o ≤ (M - 1).toNat ∧ v = addRow M (L.getD i []) o a)
  | 0, _ => ⟨.inl, fun h => h.elim id fun ⟨i, h, _⟩ => absurd h (Nat.not_lt_zero _)⟩
  | t + 1, h => by
    unfold spanRow
    rw [spanIn_mem, spanRow_mem t (by omega)]
    constructor
    · rintro ((h | ⟨i, h1, h2⟩) | ⟨o, h1⟩)
      · exact .inl h
      · exact .inr ⟨i, by omega, h2⟩
      · exact .inr ⟨t, by omega, o, h1⟩
    · rintro (h | ⟨i, h1, h2⟩)
      · exact .inl (.inl h)
      · by_cases e : i = t
        · subst e
          exact .inr h2
        · exact .inl (.inr ⟨i, by omega, h2⟩)
theorem spanRow_nodup {M : Int} {a : Row} {L : List Row} (h : L.Nodup) : ∀ t, (spanRow M a L t).Nodup
  | 0 => h
  | t + 1 => spanIn_nodup (spanRow_nodup h t) _
theorem spanRow_len {M : Int} {m : Nat} (hm : (M - 1).toNat ≤ m) (a : Row) (L : List Row) : ∀ t, (spanRow M a L t).length ≤ L.length + t * m
  | 0 => by simp [spanRow]
  | t + 1 => by
    have h1 := spanIn_len M (L.getD t []) a (spanRow M a L t) (M - 1).toNat
    have h2 := spanRow_len hm a L t
    unfold spanRow
    rw [Nat.add_mul]
    omega
theorem spanD_nodup (M : Int) (w : Nat) (A : Mat) : ∀ i, (spanD M w A i).Nodup
  | 0 => by simp [spanD]
  | i + 1 => spanRow_nodup (spanD_nodup M w A i) _
theorem spanD_len {M : Int} {m : Nat} (hm : (M - 1).toNat ≤ m) (w : Nat) (A : Mat) : ∀ i, (spanD M w A i).length ≤ (m + 1) ^ i
  | 0 => by simp [spanD]
  | i + 1 => by
    have h1 := spanRow_len hm (A.getD i []) (spanD M w A i) (spanD M w A i).length
    have h2 := spanD_len hm w A i
    unfold spanD
    refine Nat.le_trans h1 ?_
    rw [Nat.pow_succ, Nat.mul_add, Nat.mul_one, Nat.add_comm]
    exact Nat.add_le_add (Nat.mul_le_mul_right _ h2) h2
/-- a row of given numbers modulo M -/
def rowMod (M : Int) (w : Nat) (v : Vec) : Row := (List.range w).map fun j => v j % M
theorem rowMod_ok {M : Int} (hM : 1 ≤ M) (w : Nat) (v : Vec) : (rowMod M w v).length = w ∧ RRed M (rowMod M w v) ∧ ∀ j, j < w → fn (rowMod M w v) j = v j % M := by
  refine ⟨by simp [rowMod], fun x hx => ?_, fun j hj => ?_⟩
  · obtain ⟨y, _, rfl⟩ := List.mem_map.mp hx
    exact mod_red hM _
  · refine fn_at ?_
    simp [rowMod, List.getElem?_range hj]
theorem spanD_mem {M : Int} (hM : 2 ≤ M) {w : Nat} {A : Mat} (hA : ∀ r ∈ A, r.length = w) {v : Row} : ∀ i, i ≤ A.length → (v ∈ spanD M w A i ↔ v.length = w ∧ RRed M v ∧ ∃ c : Nat → Int, ∀ j, j < w → Eqm M (fn v j) (sumN i fun k => c k * ent A k j))
  | 0, _ => by
    unfold spanD
    constructor
    · intro h
      simp at h
      subst h
      exact ⟨by simp, fun x hx => by rw [List.eq_of_mem_replicate hx]; omega, fun _ => 0, fun j hj => .eq (fn_at (x := 0) (by simp [List.getElem?_replicate, hj]))⟩
    · rintro ⟨h1, h2, c, h3⟩
      simp
      refine row_eqm (w := w) h1 (by simp) h2 (fun x hx => by rw [List.eq_of_mem_replicate hx]; omega) fun j hj => (h3 j hj).trans (.eq (fn_at (by simp [List.getElem?_replicate, hj, sumN])).symm)
  | i + 1, hi => by
    have hil : i < A.length := by omega
    have ea : A.getD i [] = A[i] := by
      rw [List.getD_eq_getElem?_getD, List.getElem?_eq_getElem hil]
      rfl
    have hl : (A[i]).length = w := hA _ (List.getElem_mem _)
    have ee : ∀ j, ent A i j = fn A[i] j := fun j => ent_at (List.getElem?_eq_getElem hil) j
    unfold spanD
    rw [spanRow_mem _ (Nat.le_refl _), ea]
    constructor
    · rintro (h | ⟨t, ht, o, o1, o2, rfl⟩)
      · obtain ⟨h1, h2, c, h3⟩ := (spanD_mem hM hA i (by omega)).mp h
        refine ⟨h1, h2, fun k => if k = i then 0 else c k, fun j hj => (h3 j hj).trans (.eq ?_)⟩
        rw [sumN]
        dsimp only
        rw [if_pos rfl, Int.zero_mul, Int.add_zero]
        exact sumN_congr fun k hk => by rw [if_neg (by omega)]
      · have hu : (spanD M w A i).getD t [] ∈ spanD M w A i := by
          rw [List.getD_eq_getElem?_getD, List.getElem?_eq_getElem ht]
          exact List.getElem_mem _
        obtain ⟨h1, h2, c, h3⟩ := (spanD_mem hM hA i (by omega)).mp hu
        generalize (spanD M w A i).getD t [] = u at *
        refine ⟨by simp [addRow, h1, hl], addRow_red (by omega) _ _ _, fun k => if k = i then (o : Int) else c k, fun j hj => ?_⟩
        rw [addRow_at (by omega) (by omega), sumN]
        dsimp only
        rw [if_pos rfl, ee]
        refine (Eqm.mod _ _).trans (Eqm.add ((h3 j hj).trans (.eq ?_)) (.refl _ _))
        exact sumN_congr fun k hk => by rw [if_neg (by omega)]
    · rintro ⟨h1, h2, c, h3⟩
      obtain ⟨u1, u2, u3⟩ := rowMod_ok (show 1 ≤ M by omega) w fun j => sumN i fun k => c k * ent A k j
      generalize hu : rowMod M w (fun j => sumN i fun k => c k * ent A k j) = u at *
      have um : u ∈ spanD M w A i := (spanD_mem hM hA i (by omega)).mpr ⟨u1, u2, c, fun j hj => by rw [u3 j hj]; exact Eqm.mod _ _⟩
      have hr := mod_red (show 1 ≤ M by omega) (c i)
      by_cases e : c i % M = 0
      · refine .inl ?_
        have : v = u := row_eqm (w := w) h1 u1 h2 u2 fun j hj => by
          refine (h3 j hj).trans ?_
          rw [sumN, u3 j hj]
          refine Eqm.trans ?_ (Eqm.mod M _).symm
          have := ((Eqm.mod M (c i)).symm.trans (.eq e)).mul (Eqm.refl M (ent A i j))
          exact ((Eqm.refl _ _).add this).trans (.eq (by simp))
        rw [this]
        exact um
      · obtain ⟨t, ht⟩ := List.mem_iff_getElem?.mp um
        refine .inr ⟨t, (List.getElem?_eq_some_iff.mp ht).1, (c i % M).toNat, by omega, by omega, ?_⟩
        rw [List.getD_eq_getElem?_getD, ht]
        refine row_eqm (w := w) h1 (by simp [addRow, u1, hl]) h2 (addRow_red (by omega) _ _ _) fun j hj => ?_
        show Eqm M _ (fn (addRow M u _ A[i]) j)
        rw [addRow_at (by omega) (by omega)]
        refine (h3 j hj).trans (Eqm.trans ?_ (Eqm.mod M _).symm)
        rw [sumN, ee, u3 j hj, Int.toNat_of_nonneg hr.1]
        exact (Eqm.mod M _).symm.add ((Eqm.mod M _).symm.mul (.refl _ _))
/-- the dict holds just the span -/
theorem spanD_iff {M : Int} (hM : 2 ≤ M) {w : Nat} {A : Mat} (hA : ∀ r ∈ A, r.length = w) {v : Row} : v ∈ spanD M w A A.length ↔ v.length = w ∧ RRed M v ∧ InS M w (RW A) (fn v) := by
  rw [spanD_mem hM hA _ (Nat.le_refl _)]
  exact ⟨fun ⟨a, b, c, d⟩ => ⟨a, b, InS.sums c d⟩, fun ⟨a, b, c⟩ => ⟨a, b, c.coef⟩⟩
end Wk

namespace Wk
open PySem L2 NumI
theorem iteNN {c A B : Prop} [Decidable c] (hc : ¬ c) (h : A) : if (!decide c) = true then A else B := by
  rw [decide_eq_false hc]
  exact iteT h
def spRestOf (C : Addr) : Sp := fun vs H Q _ => ∃ (p l b : Addr) (M : Int) (W n : Nat) (S : List (Option Row)) (r : Row), vs = [.ref p, .ref b] ∧ StAt C H p l M S ∧ 2 ≤ M ∧ M < 2 ^ 64 ∧ W ≤ 1000 ∧ n ≤ W ∧ WF M W n S ∧ r.length = W ∧ RRed M r ∧
  H b = some (.lst (r.map V.int)) ∧ (∀ (r' : Row) (b' : Addr) (H' : Hp), RestTo M S r n r' → Same H H' → H' b' = some (.lst (r'.map V.int)) → Q (.ref b') H') ∧ ∀ H', RestBad M S r → Same H H' → Q .non H'
section
variable {P : Program} {w : World} {K : PySem.W.Frag} {mg : Str → Option Value} {base : Heap} {C fI fP fA fS : Addr}
end
end Wk

/-! a list or a tuple, of the kind that the flag tells -/
namespace Wk
open PySem PySem.Spec PyProof.Rows L2
def Jsq (t : Bool) (K : PySem.W.Frag) (a : Addr) : It := if t = true then Itt K a else Itl K a
def iSq (t : Bool) (K : PySem.W.Frag) (tl : TE) : TI := fun σ H R => tl σ H fun x H1 => ∃ a, x = .ref a ∧ (∃ xs, ZM.SqK t K H1 a xs) ∧ R (Jsq t K a) H1
theorem pi_sqK {X : Cx} {K : PySem.W.Frag} (hK : X.K = K) (t : Bool) {tg l : Expr} {tl : TE} (hl : PE X l tl) : PI X tg l (iSq t K tl) := by
  subst hK
  cases t
  · exact pi_list hl
  · exact pi_tup hl
theorem walk_sq {K : PySem.W.Frag} {t : Bool} {a : Addr} {xs : List V} : Walk (Jsq t K a) xs.length (fun H => ZM.SqK t K H a xs) (YAt xs) := by
  cases t
  · exact walk_list
  · exact walk_tup
def rIxSq (t : Bool) (K : PySem.W.Frag) : R2 := fun x y H Q => ∃ p xs i v, x = .ref p ∧ y = .int i ∧ ZM.SqK t K H p xs ∧ atI xs i = some v ∧ Q v H
theorem ix_sqK {X : Cx} {K : PySem.W.Frag} (hK : X.K = K) (t : Bool) : IxR X (rIxSq t K) := by
  subst hK
  cases t
  · exact ix_list
  · exact ix_tup
def rLenSq (t : Bool) (K : PySem.W.Frag) : List V → Hp → VK → Prop := fun xs H Q => ∃ p ys, xs = [.ref p] ∧ ZM.SqK t K H p ys ∧ Q (.int ys.length) H
theorem call_lenSqK {X : Cx} {K : PySem.W.Frag} (hK : X.K = K) (t : Bool) : CallR X (.builtin "len") (rLenSq t K) := by
  subst hK
  intro pins s σ H xs us Q I r h
  obtain ⟨p, ys, e, hs, q⟩ := h
  refine call_len_seq pins s σ H xs us Q I r ⟨p, ys, e, ?_, q⟩
  cases t
  · exact .inl hs
  · exact .inr hs
theorem pe_fldK {X : Cx} {K : PySem.W.Frag} (hK : X.K = K) {e : Expr} {f : Str} {pos : PySem.Pos} {ta : TE} (he : PE X e ta) (hb : attributeBase e f X.env (eval e X.env) = eval e X.env) : PE X (.Attribute e f pos) (tFld K ta f) := hK ▸ pe_fld he hb
/-- a comprehension that keeps what a test tells -/
theorem lc_fil {α : Type} {J : It} {n : Nat} {G : Hp → Prop} {Y : Nat → Hp → V → Hp → Prop} (w : Walk J n G Y) {g : TG} {tt : TT} {te : TE} {vs : List Nat} {σ : L2.St} {H1 : Hp} {D : Addr} {Qd : Hp → Prop} (hD : H1 D = none) (hn : n ≤ 1000000) (as : List α) (ha : as.length = n) (p : α → Bool) (f : α → V)
    (hG : ∀ H, Same H1 H → G H)
    (hs : ∀ (i : Nat) (a : α) (x : V) (H H' : Hp) (Fn : V → Hp → Prop) (Nn : Hp → Prop), as[i]? = some a → (∀ H4, Same H H4 → p a = true → Fn (f a) H4) → (∀ H4, Same H H4 → p a = false → Nn H4) → Same H1 H → Y i H x H' → g x (wipe σ vs) H' fun σ2 H2 => wipe σ2 vs = wipe σ vs ∧ tt σ2 H2 fun b H3 => if b = true then te σ2 H3 Fn else Nn H3)
    (hd : ∀ H, H D = some (.lst ((as.filter p).map f)) → Same H1 H → Qd H) :
    ∃ W : Nat → Nat → Hp → Prop, (∃ m, W 0 m (upd H1 D (.lst []))) ∧ ∀ i m H, W i m H →
      (J.stop i H ∧ Qd H) ∨ (J.go i H ∧ ∃ Nx : Hp → Prop, (∀ H', Nx H' → ∃ m', m' < m ∧ W (i + 1) m' H') ∧ ∀ x H', J.yld i H x H' → g x (wipe σ vs) H' fun σ2 H2 => wipe σ2 vs = wipe σ vs ∧ tt σ2 H2 fun b H3 =>
        if b = true then te σ2 H3 fun y H4 => ∃ acc, H4 D = some (.lst acc) ∧ acc.length < sizeLine ∧ Nx (upd H4 D (.lst (acc ++ [y]))) else Nx H3) := by
  refine lc_it w (fun i H => H D = some (.lst (((as.take i).filter p).map f)) ∧ ∀ b o, b ≠ D → H1 b = some o → H b = some o) ⟨by rw [upd_same]; rfl, fun b o n e => by rw [upd_ne n]; exact e⟩ (fun i H hi h => hG H fun b o e => h.2 b o (fun z => by rw [z, hD] at e; cases e) e) ?_ fun H h => hd H ?_ ?_
  · intro i x H H' hi ⟨h1, h2⟩ hy
    have hia : as[i]? = some (as[i]'(by omega)) := List.getElem?_eq_getElem (by omega)
    have ht : as.take (i + 1) = as.take i ++ [as[i]'(by omega)] := by
      rw [List.take_succ, hia]
      rfl
    have sm : Same H1 H := fun b o e => h2 b o (fun z => by rw [z, hD] at e; cases e) e
    refine hs i _ x H H' _ _ hia (fun H4 s4 hp => ⟨_, s4 _ _ h1, ?_, ?_, fun b o nb e => ?_⟩) (fun H4 s4 hp => ⟨?_, fun b o nb e => s4 _ _ (h2 b o nb e)⟩) sm hy
    · have l1 := List.length_filter_le p (as.take i)
      rw [List.length_map]
      rw [List.length_take] at l1
      exact Nat.lt_of_lt_of_le (show _ < 1000001 by omega) (by decide)
    · rw [upd_same, ht, List.filter_append, List.map_append]
      congr 3
      rw [List.filter_cons_of_pos hp]
      rfl
    · rw [upd_ne nb]
      exact s4 _ _ (h2 b o nb e)
    · rw [ht, List.filter_append, List.filter_cons_of_neg (by rw [hp]; exact Bool.false_ne_true)]
      simp only [List.filter_nil, List.append_nil]
      exact s4 _ _ h1
  · rw [← ha, List.take_length] at h
    exact h.1
  · exact fun b o e => h.2 b o (fun z => by rw [z, hD] at e; cases e) e
end Wk

/-! one row on one place alone; the size of a form -/
namespace Wk
def scaled (w p : Nat) (x : Int) : Row := (List.range w).map fun j => x * (if j = p then 1 else 0)
theorem scaled_fn {w p j : Nat} {x : Int} (hj : j < w) : fn (scaled w p x) j = if j = p then x else 0 := by
  refine fn_at ?_
  unfold scaled
  rw [List.getElem?_map, List.getElem?_range hj]
  show some (x * (if j = p then 1 else 0)) = _
  split <;> simp
theorem zeros_fn (w j : Nat) : fn (List.replicate w (0 : Int)) j = 0 := by
  unfold fn
  rw [List.getD_eq_getElem?_getD, List.getElem?_replicate]
  split <;> rfl
def aloneA (w p : Nat) (x : Int) : Mat := [scaled w p x, List.replicate w 0]
theorem aloneA_w {w p : Nat} {x : Int} : ∀ r ∈ aloneA w p x, r.length = w := fun r hr => by
  simp [aloneA] at hr
  rcases hr with rfl | rfl <;> simp [scaled]
theorem aloneA_in {M : Int} {w p : Nat} {x : Int} {v : Vec} : InS M w (RW (aloneA w p x)) v ↔ ∃ c, ∀ j, j < w → Eqm M (v j) (if j = p then c * x else 0) := by
  have e : ∀ (c : Nat → Int) (j : Nat), j < w → (sumN 2 fun k => c k * ent (aloneA w p x) k j) = if j = p then c 0 * x else 0 := fun c j hj => by
    have e0 : ent (aloneA w p x) 0 j = if j = p then x else 0 := by
      rw [ent_at (r := scaled w p x) rfl]
      exact scaled_fn hj
    have e1 : ent (aloneA w p x) 1 j = 0 := by
      rw [ent_at (r := List.replicate w 0) rfl]
      exact zeros_fn w j
    rw [sumN, sumN, sumN, e0, e1]
    split <;> simp
  constructor
  · intro h
    obtain ⟨c, hc⟩ := h.coef
    exact ⟨c 0, fun j hj => (hc j hj).trans (.eq (e c j hj))⟩
  · rintro ⟨c, hc⟩
    exact InS.sums (A := aloneA w p x) (fun _ => c) fun j hj => (hc j hj).trans (.eq (e (fun _ => c) j hj).symm)
theorem alone_unit {M : Int} (hM : 2 ≤ M) {w p : Nat} (hp : p < w) {x : Int} (hx : 0 ≤ x) : InS M w (RW (aloneA w p x)) (fn (unitRow w p)) ↔ Int.gcd x M = 1 := by
  rw [aloneA_in]
  constructor
  · rintro ⟨c, h⟩
    obtain ⟨k, e⟩ := h p hp
    rw [fn_unit hp, if_pos rfl, if_pos rfl] at e
    have h1 : (Int.gcd x M : Int) ∣ 1 := by
      rw [e]
      exact Int.dvd_add (Int.dvd_trans (Int.gcd_dvd_left ..) (Int.dvd_mul_left ..)) (Int.dvd_trans (Int.gcd_dvd_right ..) (Int.dvd_mul_right ..))
    have := Int.eq_one_of_dvd_one (by omega) h1
    omega
  · intro h
    obtain ⟨v, hv⟩ := unit_inv (M := M) (by omega) hx h
    refine ⟨v, fun j hj => ?_⟩
    rw [fn_unit hj]
    split
    · exact hv.symm.trans (.eq (Int.mul_comm _ _))
    · exact .refl _ _
def pivotOf (r : Row) : Int := (r.filter (fun x => decide (x ≠ 0))).headD 0
def sizeF (M : Int) (F : List Row) : Int := F.foldl (fun z r => z * (M / pivotOf r)) 1
theorem pivot_at : ∀ {q : Nat} {r : Row} {x : Int}, (∀ j, j < q → r[j]? = some 0) → r[q]? = some x → x ≠ 0 → pivotOf r = x ∧ ∃ l, r.filter (fun x => decide (x ≠ 0)) = x :: l
  | 0, [], x, _, h, _ => by cases h
  | 0, a :: r, x, _, h, hx => by
    cases h
    have : (a :: r).filter (fun x => decide (x ≠ 0)) = a :: r.filter (fun x => decide (x ≠ 0)) := List.filter_cons_of_pos (by simpa using hx)
    unfold pivotOf
    rw [this]
    exact ⟨rfl, _, rfl⟩
  | q + 1, [], x, _, h, _ => by cases h
  | q + 1, a :: r, x, hz, h, hx => by
    have ha : a = 0 := by
      have := hz 0 (by omega)
      cases this
      rfl
    subst ha
    obtain ⟨h1, l, h2⟩ := pivot_at (q := q) (r := r) (fun j hj => hz (j + 1) (by omega)) h hx
    have : ((0 : Int) :: r).filter (fun x => decide (x ≠ 0)) = r.filter (fun x => decide (x ≠ 0)) := List.filter_cons_of_neg (by simp)
    unfold pivotOf at h1 ⊢
    rw [this]
    exact ⟨h1, l, h2⟩
theorem settle_single {M : Int} {n p : Nat} {S : List (Option Row)} {o : Option Row} (hl : S.length = n) (hp : S[p]? = some o) (hn : ∀ q, q ≠ p → q < n → S[q]? = some none) : ∀ i, i ≤ n → settle M n S i = if n - i ≤ p then (match o with | none => [] | some s => [(p, s)]) else []
  | 0, _ => by
    have : p < n := by
      rw [← hl]
      exact (List.getElem?_eq_some_iff.mp hp).1
    rw [if_neg (by omega)]
    rfl
  | i + 1, hi => by
    have ih := settle_single (M := M) hl hp hn i (by omega)
    have hpn : p < n := by
      rw [← hl]
      exact (List.getElem?_eq_some_iff.mp hp).1
    unfold settle
    by_cases e : n - 1 - i = p
    · rw [List.getD_eq_getElem?_getD, e, hp, Option.getD_some]
      cases o with
      | none =>
        simp only [ih]
        split <;> split <;> rfl
      | some s =>
        simp only [ih]
        rw [if_neg (by omega), if_pos (by omega)]
        rfl
    · rw [List.getD_eq_getElem?_getD, hn _ e (by omega), Option.getD_some]
      simp only [ih]
      by_cases z : n - i ≤ p
      · rw [if_pos z, if_pos (by omega)]
      · rw [if_neg z, if_neg (by omega)]
theorem alone_size {M : Int} (hM : 2 ≤ M) {w p : Nat} (hp : p < w) {x : Int} (hx : 0 ≤ x ∧ x < M) {S : List (Option Row)} (c : PutsL M w 0 (aloneA w p x) 2 S) : sizeF M ((settle M w S w).map (·.2)) = M / (Int.gcd x M : Int) := by
  have wf := c.wf hM aloneA_w
  have sp := c.iff hM aloneA_w
  have oth : ∀ (q : Nat) (s : Row), S[q]? = some (some s) → ∀ j, j < w → j ≠ p → fn s j = 0 := fun q s h j hj hjp => by
    obtain ⟨sl, sr, _⟩ := wf.row q s h
    have g : InS M w (RW (aloneA w p x)) (fn s) := (sp _).mp (.of ⟨q, s, Nat.zero_le _, h, rfl⟩)
    obtain ⟨cc, e⟩ := aloneA_in.mp g
    have := e j hj
    rw [if_neg hjp] at this
    exact this.red (fn_red sr (by omega)) ⟨Int.le_refl _, by omega⟩
  have hn : ∀ q, q ≠ p → q < w → S[q]? = some none := fun q hq hqw => by
    have hlt : q < S.length := by rw [wf.len]; exact hqw
    cases z : S[q] with
    | none => rw [List.getElem?_eq_getElem hlt, z]
    | some s =>
      have e : S[q]? = some (some s) := by rw [List.getElem?_eq_getElem hlt, z]
      obtain ⟨sl, sr, ⟨y, hy, y1, _⟩, _⟩ := wf.row q s e
      have := oth q s e q hqw hq
      rw [fn_at hy] at this
      omega
  have hlt : p < S.length := by rw [wf.len]; exact hp
  have hS := settle_single (M := M) wf.len (List.getElem?_eq_getElem hlt) hn w (Nat.le_refl _)
  rw [hS, if_pos (by omega)]
  have gx : InS M w (GS S 0) (fn (scaled w p x)) := (sp _).mpr (.of ⟨_, List.mem_cons_self, rfl⟩)
  cases z : S[p] with
  | none =>
    have low : ∀ q, q ≤ w → InS M w (GS S q) (fn (scaled w p x)) := by
      intro q
      induction q with
      | zero => exact fun _ => gx
      | succ q ih =>
        intro hq
        rcases (ih (by omega)).split with ⟨s, _, _, g1, _⟩ | g
        · by_cases e : q = p
          · subst e
            rw [List.getElem?_eq_getElem hlt, z] at g1
            cases g1
          · rw [hn q e (by omega)] at g1
            cases g1
        · exact g
    have := (low (p + 1) (by omega)).vanish wf hp
    rw [scaled_fn hp, if_pos rfl] at this
    have x0 : x = 0 := this.red hx ⟨Int.le_refl _, by omega⟩
    subst x0
    show (1 : Int) = _
    rw [Int.gcd_zero_left, Int.natAbs_of_nonneg (by omega), Int.ediv_self (by omega)]
  | some s =>
    have e : S[p]? = some (some s) := by rw [List.getElem?_eq_getElem hlt, z]
    obtain ⟨sl, sr, ⟨y, hy, y1, yM⟩, sz⟩ := wf.row p s e
    have py := (pivot_at sz hy (by omega)).1
    show 1 * (M / pivotOf s) = _
    rw [py, Int.one_mul]
    congr 1
    have d1 : (Int.gcd x M : Int) ∣ y := by
      obtain ⟨cc, h⟩ := aloneA_in.mp ((sp _).mp (.of ⟨p, s, Nat.zero_le _, e, rfl⟩))
      obtain ⟨k, h⟩ := h p hp
      rw [fn_at hy, if_pos rfl] at h
      rw [h]
      exact Int.dvd_add (Int.dvd_trans (Int.gcd_dvd_left ..) (Int.dvd_mul_left ..)) (Int.dvd_trans (Int.gcd_dvd_right ..) (Int.dvd_mul_right ..))
    have low : ∀ q, q ≤ p → InS M w (GS S q) (fn (scaled w p x)) := by
      intro q
      induction q with
      | zero => exact fun _ => gx
      | succ q ih =>
        intro hq
        rcases (ih (by omega)).split with ⟨s, _, _, g1, _⟩ | g
        · rw [hn q (by omega) (by omega)] at g1
          cases g1
        · exact g
    have d2 : y ∣ x := by
      rcases (low p (Nat.le_refl _)).split with ⟨t, cc, u, g1, g2, g3⟩ | g
      · rw [e] at g1
        cases g1
        have h := (g3 p hp).trans ((g2.vanish wf hp).add (.refl _ _))
        rw [scaled_fn hp, if_pos rfl, fn_at hy] at h
        obtain ⟨k, h⟩ := h
        rw [h]
        exact Int.dvd_add (Int.dvd_add (Int.dvd_zero _) (Int.dvd_mul_left ..)) (Int.dvd_trans yM (Int.dvd_mul_right ..))
      · have := g.vanish wf hp
        rw [scaled_fn hp, if_pos rfl] at this
        rw [this.red hx ⟨Int.le_refl _, by omega⟩]
        exact Int.dvd_zero _
    have d3 : y ∣ (Int.gcd x M : Int) := Int.dvd_coe_gcd d2 yM
    have g0 : 0 ≤ (Int.gcd x M : Int) := by omega
    exact Int.dvd_antisymm (by omega) g0 d3 d1
end Wk

namespace Wk
open PySem L2 NumI
abbrev s_howell : Stmt := top 7
theorem sc_howell : FnScope ["modulus", "rows", "width", "stairs", "row", "number"] ["modulus", "rows", "width"] (defScope s_howell) := ⟨rfl, rfl, rfl, by decide +kernel, rfl, by decide +kernel, by decide +kernel⟩
abbrev s_span_size : Stmt := top 8
theorem sc_span_size : FnScope ["modulus", "rows", "width"] ["modulus", "rows", "width"] (defScope s_span_size) := ⟨rfl, rfl, rfl, by decide +kernel, rfl, by decide +kernel, by decide +kernel⟩
abbrev s_form_size : Stmt := top 9
theorem sc_form_size : FnScope ["modulus", "form", "size", "row", "pivot", "number"] ["modulus", "form"] (defScope s_form_size) := ⟨rfl, rfl, rfl, by decide +kernel, rfl, by decide +kernel, by decide +kernel⟩

def RowsIn (t : Bool) (K : PySem.W.Frag) (H : Hp) (a : Addr) (A : Mat) : Prop := ∃ vs, ZM.SqK t K H a vs ∧ RowsAre K H vs A
theorem RowsIn.same {t : Bool} {K : PySem.W.Frag} {H H' : Hp} {a : Addr} {A : Mat} (h : RowsIn t K H a A) (e : Same H H') : RowsIn t K H' a A := by
  obtain ⟨vs, h1, h2⟩ := h
  exact ⟨vs, SqK.same h1 e, h2.same e⟩
def spMarked (K : PySem.W.Frag) : Sp := fun vs H Q _ => ∃ (t : Bool) (M : Int) (a : Addr) (A : Mat) (k : Nat) (r : Row), vs = [.int M, .ref a, .int (k : Int)] ∧ 2 ≤ M ∧ RowsIn t K H a A ∧ A[k]? = some r ∧ A.length ≤ 400 ∧ r.length ≤ 400 ∧ NewLst H (markOf M A.length r k) Q
def spMade (K : PySem.W.Frag) (C : Addr) : Sp := fun vs H Q _ => ∃ (p l b : Addr) (M : Int) (w m : Nat) (S : List (Option Row)) (r : Row), vs = [.ref p, .ref b, .int (m : Int)] ∧ StAt C H p l M S ∧ 2 ≤ M ∧ M < 2 ^ 64 ∧ w ≤ 400 ∧ m ≤ 400 ∧ WF M (w + m) w S ∧ r.length = w ∧ RowAt K H b r ∧
  (∀ (r' : Row) (q : Addr) (H' : Hp), RestTo M S (r.map (· % M) ++ List.replicate m 0) w r' → Same H H' → H' q = some (.tup ((madeOf M w r').map V.int)) → Q (.ref q) H') ∧ ∀ H', RestBad M S (r.map (· % M) ++ List.replicate m 0) → Same H H' → Q .non H'
def spCombination (K : PySem.W.Frag) : Sp := fun vs H Q _ => ∃ (t : Bool) (M : Int) (a b : Addr) (A : Mat) (w : Nat) (r : Row), vs = [.int M, .ref a, .ref b] ∧ 2 ≤ M ∧ M < 2 ^ 64 ∧ RowsIn t K H a A ∧ RowAt K H b r ∧ A.length ≤ 400 ∧ w ≤ 400 ∧ r.length = w ∧ (∀ x ∈ A, x.length = w) ∧
  (∀ (c : Row) (q : Addr) (H' : Hp), c.length = A.length → RRed M c → (∀ j, j < w → Eqm M (fn r j) (sumN A.length fun k => fn c k * ent A k j)) → Same H H' → H' q = some (.tup (c.map V.int)) → Q (.ref q) H') ∧ ∀ H', ¬ InS M w (RW A) (fn r) → Same H H' → Q .non H'
def spHowell (K : PySem.W.Frag) : Sp := fun vs H Q _ => ∃ (t : Bool) (M : Int) (a : Addr) (A : Mat) (w : Nat), vs = [.int M, .ref a, .int (w : Int)] ∧ 2 ≤ M ∧ M < 2 ^ 64 ∧ RowsIn t K H a A ∧ A.length ≤ 100000 ∧ w ≤ 400 ∧ (∀ x ∈ A, x.length = w) ∧
  ∀ S, PutsL M w 0 A A.length S → NewMat K H ((settle M w S w).map (·.2)) Q
def spFormSize (K : PySem.W.Frag) : Sp := fun vs H Q _ => ∃ (M : Int) (a : Addr) (A : Mat), vs = [.int M, .ref a] ∧ 2 ≤ M ∧ M < 2 ^ 64 ∧ MatAt K H a A ∧ A.length ≤ 60 ∧ (∀ r ∈ A, r.length ≤ 400 ∧ RRed M r ∧ ∃ x ∈ r, x ≠ 0) ∧ ∀ H', Same H H' → Q (.int (sizeF M A)) H'
def spSpanSize (K : PySem.W.Frag) : Sp := fun vs H Q _ => ∃ (t : Bool) (M : Int) (a : Addr) (A : Mat) (w : Nat), vs = [.int M, .ref a, .int (w : Int)] ∧ 2 ≤ M ∧ M < 2 ^ 64 ∧ RowsIn t K H a A ∧ A.length ≤ 100000 ∧ w ≤ 60 ∧ (∀ x ∈ A, x.length = w) ∧
  ∀ S H', PutsL M w 0 A A.length S → Same H H' → Q (.int (sizeF M ((settle M w S w).map (·.2)))) H'
section
variable {P : Program} {w : World} {K : PySem.W.Frag} {mg : Str → Option Value} {base : Heap} {C fI fP fA fS : Addr}
theorem ok_howell {f : Addr} {fd fdI fdP fdS : FuncData} (F : Fun K "howell" "howell" s_howell f fd) (T : TxtS K mg C fI fP fA fS)
    (G_init : FnOk P w K mg base CX0 1 fI fdI ["self", "modulus", "places"] (spStInit C)) (b_init : Binds K fdI ["self", "modulus", "places"] [])
    (G_put : FnOk P w K mg base CX0 3 fP fdP ["self", "row"] (spPut C)) (b_put : Binds K fdP ["self", "row"] [])
    (G_settled : FnOk P w K mg base CX0 2 fS fdS ["self"] (spSettled K C)) (b_settled : Binds K fdS ["self"] []) :
    FnOk P w K mg base CX0 4 f fd ["modulus", "rows", "width"] (spHowell K) := by
  refine F.ok sc_howell (fun vs H Q E h => ?_) (fun cdv A outer s H vs Q E hr h => ?_)
  · obtain ⟨t, M, a, A, w, rfl, _⟩ := h
    rfl
  · obtain ⟨t, M, a, Am, w, rfl, hM, hM2, hA, lA, hw, hAw, kY⟩ := h
    refine ⟨_, (pss_cons (ps_set (i := 3) sc_howell.nd rfl (Or.inl rfl) (pe_make T.mkr G_init (hr.mono (by decide)) rfl T.mgC b_init .nil pass0 (pa_cons (pv 0) (pa_cons (pv 2) pa_nil))))
        (pss_cons (ps_for PassesOwn.never rfl (pi_sqK (K := K) rfl t (pv 1)) (pg_name (i := 4) sc_howell.nd rfl (Or.inl rfl)) (pss_one (ps_expr (pe_meth (pv 3) T.cl T.m_put G_put (hr.mono (by decide)) b_put .nil pass0 (pa_cons (pe_lc (own := [("number", 5)]) (g := gName 5) rfl sc_howell.nd (pi_tup (pv 4)) (blkOk_by (N := ["modulus", "rows", "width", "stairs", "row", "number"]) (sc := defScope s_howell) (by decide +kernel)) (fun _ _ _ _ _ => (pg_name (i := 5) sc_howell.nd rfl (Or.inl rfl))) (fun _ _ _ _ _ => pts_nil) (fun _ _ _ _ _ => (pe_op op_modN (pv 5) (pv 0)))) pa_nil)))))
        (pss_one (ps_ret (pe_meth0 (pv 3) T.cl T.m_settled G_settled (hr.mono (by decide)) b_settled .nil pass0))))), ?_⟩
    obtain ⟨vs, hAv, hR⟩ := id hA
    have hvl := hR.length
    refine ⟨_, rfl, _, rfl, fun x dx nx nd ne => ⟨x, dx, M, w, rfl, upd_same, by omega, fun l H1 b1 nl st => ⟨rfl, ?_⟩⟩⟩
    have sI : Same H H1 := fun b o e => by
      have hbx : b ≠ x := ne_of_none e nx
      refine b1 b o hbx ?_
      rw [upd_ne hbx, upd_ne (ne_of_none e nd)]
      exact e
    have hHl : H l = none := by
      cases z : H l with
      | none => rfl
      | some o =>
        rw [upd_ne (ne_of_none z nx), upd_ne (ne_of_none z nd), z] at nl
        cases nl
    refine ⟨_, rfl, a, rfl, ⟨vs, SqK.same hAv sI⟩, ?_⟩
    refine for_it (walk_sq (xs := vs)) (fun k σ H' => ∃ (x4 : Option V) (S : List (Option Row)), σ = [some (.int M), some (.ref a), some (.int (w : Int)), some (.ref x), x4, none] ∧ PutsL M w 0 Am k S ∧ Same H H' ∧ StAt C H' x l M S) ⟨none, _, rfl, .zero, sI, st⟩ (fun k σ H' _ ⟨_, _, _, _, s1, _⟩ => SqK.same hAv s1) ?_ ?_
    · rintro k v σ H2 H2' hk ⟨x4, S, rfl, hp, s1, st1⟩ ⟨rfl, hv⟩
      obtain ⟨q, r, rfl, hkr, hq⟩ := rows_at hR hv
      have hrw : r.length = w := hAw _ (List.mem_of_getElem? hkr)
      have hq2 : RowAt K H2' q r := SqT.same hq s1
      obtain ⟨⟨dx2, hx2⟩, vs2, hl2, hS2⟩ := id st1
      refine ⟨_, rfl, x, dx2, flS M l, rfl, hx2, flS_no M l (by decide +kernel) (by decide +kernel), ?_⟩
      refine ⟨_, rfl, q, rfl, ⟨_, hq2⟩, fun D hD => lc_rel (walk_tup (xs := r.map V.int)) hD (by simp; omega) (fun i v _ => ∃ z, r[i]? = some z ∧ v = .int (z % M)) (fun i v H H' h _ => h) (fun H1 e => SqT.same hq2 e) ?_ ?_⟩
      · intro i v H4 H4' Fn Nn fin hi sm hacc hy
        obtain ⟨rfl, hx⟩ := hy
        obtain ⟨z, gz, rfl⟩ := at_ints hx
        refine ⟨rfl, yesT ⟨_, rfl, _, rfl, _, _, rfl, rfl, by omega, ?_⟩⟩
        dsimp only
        rw [Int.fmod_eq_emod_of_nonneg _ (by omega)]
        exact fin _ _ (fun _ _ e => e) ⟨z, gz, rfl⟩
      · intro acc H4 a1 a2 s4 hR4
        have ea : acc = (markOf M 0 r k).map V.int := by
          rw [acc_map (f := fun z => V.int (z % M)) (by simpa using a1) hR4]
          simp [markOf, unitRow]
        obtain ⟨w1, w2⟩ := markOf_ok (m := 0) (k := k) hM hrw
        have hDl : D ≠ l := fun z => by
          rw [z, hl2] at hD
          cases hD
        refine ⟨x, l, D, M, w + 0, w, S, _, rfl, st1.same s4, hM, hM2, by omega, by omega, hp.wf hM hAw, w1, w2, (by rw [a2, ea]), hDl, fun S' r' b' H5 ch bt st5 _ _ => ?_⟩
        exact ⟨_, S', rfl, .succ hp hkr ch, fun b o e => bt b o (ne_of_none e hHl) (s4 _ _ (s1 _ _ e)), st5⟩
    · rintro σ H2 ⟨x4, S, rfl, hp, s1, st1⟩
      rw [hvl] at hp
      obtain ⟨⟨dx2, hx2⟩, vs2, hl2, hS2⟩ := id st1
      refine ⟨_, rfl, x, dx2, flS M l, rfl, hx2, flS_no M l (by decide +kernel) (by decide +kernel), x, l, M, w + 0, w, S, rfl, st1, hM, hM2, by omega, by omega, hp.wf hM hAw, fun p5 H5 s5 hm => ?_⟩
      exact kY S hp p5 H5 (same_trans s1 s5) hm
theorem ok_form_size {f : Addr} {fd : FuncData} (F : Fun K "form_size" "form_size" s_form_size f fd) :
    FnOk P w K mg base CX0 1 f fd ["modulus", "form"] (spFormSize K) := by
  refine F.ok sc_form_size (fun vs H Q E h => ?_) (fun cdv A outer s H vs Q E hr h => ?_)
  · obtain ⟨M, a, A, rfl, _⟩ := h
    rfl
  · obtain ⟨M, a, Am, rfl, hM, hM2, hA, lA, hrow, k⟩ := h
    refine ⟨_, (pss_cons (ps_set (i := 2) sc_form_size.nd rfl (Or.inl rfl) pe_int)
        (pss_cons (ps_for PassesOwn.never rfl (pi_tup (pv 1)) (pg_name (i := 3) sc_form_size.nd rfl (Or.inl rfl)) (pss_cons (ps_set (i := 4) sc_form_size.nd rfl (Or.inl rfl) (pe_ix ix_list (pe_lc (own := [("number", 5)]) (g := gName 5) rfl sc_form_size.nd (pi_tup (pv 3)) (blkOk_by (N := ["modulus", "form", "size", "row", "pivot", "number"]) (sc := defScope s_form_size) (by decide +kernel)) (fun _ _ _ _ _ => (pg_name (i := 5) sc_form_size.nd rfl (Or.inl rfl))) (fun _ _ _ _ _ => (pts_one (pt_cmpR op_ne (pv 5) pe_int (nomark _)))) (fun _ _ _ _ _ => (pv 5))) pe_int (fun _ _ => rfl)))
        (pss_one (ps_set (i := 2) sc_form_size.nd rfl (Or.inl rfl) (pe_op op_mulW (pv 2) (pe_op op_fdivW (pv 0) (pv 4)))))))
        (pss_one (ps_ret (pv 2))))), ?_⟩
    obtain ⟨vs, hAv, hR⟩ := id hA
    have hvl := hR.length
    refine ⟨_, rfl, a, rfl, ⟨vs, hAv⟩, ?_⟩
    refine for_it (walk_tup (xs := vs)) (fun k σ H' => ∃ (z : Int) (x3 x4 : Option V), σ = [some (.int M), some (.ref a), some (.int z), x3, x4, none] ∧ Same H H' ∧ z = sizeF M (Am.take k) ∧ z.natAbs ≤ 2 ^ (64 * k)) ⟨1, none, none, rfl, fun _ _ e => e, rfl, by simp⟩ (fun k σ H' _ ⟨_, _, _, _, s1, _⟩ => SqT.same hAv s1) ?_ ?_
    · rintro k v σ H2 H2' hk ⟨z, x3, x4, rfl, s1, hz, hzw⟩ ⟨rfl, hv⟩
      obtain ⟨q, r, rfl, hkr, hq⟩ := rows_at hR hv
      have hq2 : RowAt K H2' q r := SqT.same hq s1
      obtain ⟨rl, rr, y, hy, hy0⟩ := hrow _ (List.mem_of_getElem? hkr)
      refine ⟨_, rfl, q, rfl, ⟨_, hq2⟩, fun D hD => lc_fil (walk_tup (xs := r.map V.int)) hD (by simp; omega) r (by simp) (fun x => decide (x ≠ 0)) V.int (fun H1 e => SqT.same hq2 e) ?_ ?_⟩
      · rintro i x v H3 H3' Fn Nn hi yes no sm ⟨rfl, hx⟩
        rw [List.getElem?_map, hi] at hx
        cases hx
        refine ⟨rfl, _, rfl, rfl, _, rfl, ?_⟩
        by_cases h0 : x = 0
        · exact iteNS (show V.int x = V.int 0 by rw [h0]) (no _ (fun _ _ e => e) (by simp [h0]))
        · exact iteNN (fun z => h0 (by have z : V.int x = V.int 0 := z; injection z)) ⟨_, rfl, yes _ (fun _ _ e => e) (by simp [h0])⟩
      · intro H3 g3 s3
        have hne : r.filter (fun x => decide (x ≠ 0)) ≠ [] := fun z => by
          have := List.mem_filter (p := fun x => decide (x ≠ 0)).mpr ⟨hy, by simpa using hy0⟩
          rw [z] at this
          exact nomatch this
        obtain ⟨v, vl, hvl2⟩ : ∃ v vl, r.filter (fun x => decide (x ≠ 0)) = v :: vl := by
          cases e : r.filter (fun x => decide (x ≠ 0)) with
          | nil => exact absurd e hne
          | cons v vl => exact ⟨v, vl, rfl⟩
        have hpv : pivotOf r = v := by
          unfold pivotOf
          rw [hvl2]
          rfl
        have hvm : v ∈ r.filter (fun x => decide (x ≠ 0)) := by rw [hvl2]; exact List.mem_cons_self
        have hv0 : v ≠ 0 := by simpa using (List.mem_filter.mp hvm).2
        have hvr := rr v (List.mem_filter.mp hvm).1
        rw [hvl2] at g3
        have hdiv : (M / v).natAbs < 2 ^ 64 := by
          have := Int.ediv_le_self v (show 0 ≤ M by omega)
          have := Int.ediv_nonneg (show 0 ≤ M by omega) (show 0 ≤ v by omega)
          omega
        have hkk : k < 60 := by omega
        refine ⟨D, _, ((0 : Nat) : Int), .int v, rfl, rfl, SqL.of g3, atI_nat (j := 0) rfl, ?_⟩
        refine ⟨_, rfl, _, rfl, _, rfl, _, _, rfl, rfl, wide_div (b := 64) (by omega) (by omega) (by decide) (by decide), _, _, rfl, rfl, wide_mul (a := 64 * k + 1) (b := 64) (Nat.lt_of_le_of_lt hzw (by rw [Nat.pow_succ]; have := Nat.two_pow_pos (64 * k); omega)) hdiv (by omega) (by decide) (by omega), ?_⟩
        refine ⟨_, _, _, rfl, same_trans s1 s3, ?_, ?_⟩
        · rw [List.take_succ, hkr, hz]
          unfold sizeF
          rw [List.foldl_append]
          show _ = _ * (M / pivotOf r)
          rw [hpv]
        · rw [Int.natAbs_mul, show 64 * (k + 1) = 64 * k + 64 by omega, Nat.pow_add]
          exact Nat.mul_le_mul hzw (Nat.le_of_lt hdiv)
    · rintro σ H2 ⟨z, x3, x4, rfl, s1, hz, hzw⟩
      rw [hvl, List.take_length] at hz
      subst hz
      exact ⟨_, rfl, k H2 s1⟩
theorem ok_span_size {f fH fF : Addr} {fd fdH fdF : FuncData} (F : Fun K "span_size" "span_size" s_span_size f fd)
    (G_howell : FnOk P w K mg base CX0 4 fH fdH ["modulus", "rows", "width"] (spHowell K)) (g_howell : mg "howell" = some (.ref fH)) (kp_howell : PySem.W.keepIn K (.ref fH) = true) (b_howell : Binds K fdH ["modulus", "rows", "width"] [])
    (G_form_size : FnOk P w K mg base CX0 1 fF fdF ["modulus", "form"] (spFormSize K)) (g_form_size : mg "form_size" = some (.ref fF)) (kp_form_size : PySem.W.keepIn K (.ref fF) = true) (b_form_size : Binds K fdF ["modulus", "form"] []) :
    FnOk P w K mg base CX0 5 f fd ["modulus", "rows", "width"] (spSpanSize K) := by
  refine F.ok sc_span_size (fun vs H Q E h => ?_) (fun cdv A outer s H vs Q E hr h => ?_)
  · obtain ⟨t, M, a, A, w, rfl, _⟩ := h
    rfl
  · obtain ⟨t, M, a, Am, w, rfl, hM, hM2, hA, lA, hw, hAw, kY⟩ := h
    refine ⟨_, (pss_one (ps_ret (pe_call G_form_size (hr.mono (by decide)) rfl g_form_size kp_form_size b_form_size .nil pass0 (pa_cons (pv 0) (pa_cons (pe_call G_howell (hr.mono (by decide)) rfl g_howell kp_howell b_howell .nil pass0 (pa_cons (pv 0) (pa_cons (pv 1) (pa_cons (pv 2) pa_nil)))) pa_nil))))), ?_⟩
    refine ⟨_, rfl, _, rfl, _, rfl, _, rfl, t, M, a, Am, w, rfl, hM, hM2, hA, lA, by omega, hAw, fun S hp p H' s1 hm => ?_⟩
    have wf := hp.wf hM hAw
    have hl := settle_len M w S w
    refine ⟨M, p, _, rfl, hM, hM2, hm, by rw [List.length_map]; omega, fun r hr2 => ?_, fun H2 s2 => kY S H2 hp (same_trans s1 s2)⟩
    obtain ⟨⟨q, s0⟩, hq, rfl⟩ := List.mem_map.mp hr2
    obtain ⟨_, _, b3, b4, _, r0, x, _, _, b8, b9⟩ := settle_ok hM wf (by omega) w (Nat.le_refl _) q s0 hq
    exact ⟨by show s0.length ≤ 400; omega, b4, x, List.mem_of_getElem? b8, by omega⟩
end
end Wk

/-! {t: v}, a display of one pair whose key is a tuple -/
namespace Wk
open PySem PySem.Spec PyProof.Rows L2
def tDispT (tk tv : TE) : TE := fun σ H Q => ∀ p, H p = none → tk σ (upd H p (.dT [])) fun y H1 => tv σ H1 fun v H2 => ∃ (b : Addr) (k : List Key), y = .ref b ∧ H2 p = some (.dT []) ∧ H2 b = some (.tup (k.map kV)) ∧ Q (.ref p) (upd H2 p (.dT [(k, v)]))
theorem pe_dispT {X : Cx} {k v : Expr} {pos : Pos} {tk tv : TE} (hu : X.A.units + 1 < cLine) (hk : PE X k tk) (hv : PE X v tv) : PE X (.Dict [some k] [v] pos) (tDispT tk tv) := by
  refine ⟨fun pins s σ H Q I q => ?_⟩
  have hn := I.hok.fresh (Nat.le_refl s.heap.objs.size)
  have I1 := I.laid (a := s.heap.objs.size) (o := .dT []) (h' := s.heap.push { cls := .type "dict", data := .dict #[] }) (t' := s.toks) (fun _ _ q => Heap.get?_push_of_some _ q) (Nat.le_refl _) (dt_empty s.heap I.big)
  have hroom : (tupleKind (mixKind X.prog X.w)).room X.A := show X.A.units < cLine by omega
  rw [arm_eval_Dict, zip_pairTrees [some k] [v] X.env pos rfl rfl, dictDisplay_pairs _ (by intro z; cases z) (by show 1 < 17; decide)]
  refine wpAny_bind (wpAny_standAt (wpAny_bind ?_))
  refine wpAny_subDictH (knd := tupleKind (mixKind X.prog X.w)) (Q := fun d s' => wpAny (model X.prog X.w) X.A (pure (Value.ref d)) _ X.xe s') hroom (by show 1 ≤ 15; decide) ?_
  refine pairTrees_cons_walk (thn (hk.run pins _ σ _ _ I1 (q _ hn)) fun u s1 ⟨y, H1, I2, ry, q1⟩ => thn (hv.run pins s1 σ H1 _ I2 q1) fun w2 s2 ⟨x, H2, I3, rx, b, kk, ey, hp, hb, q2⟩ => pairTrees_nil_walk ?_)
  subst ey
  obtain rfl : u = Value.ref b := ry
  obtain ⟨z, hd, ys, rel, dd⟩ := dt_of I3.hok hp
  cases rel
  refine ⟨[(kk, b, w2)], ⟨rfl, rfl, key_of I3.hok hb, trivial⟩, dd, fun h' tk' dk hs => wpAny_pure ⟨.ref s.heap.objs.size, _, ?_, rfl, q2⟩⟩
  obtain ⟨q, es, ep, hq, h2, h3, h4, _, h5⟩ := dk
  refine d_write I3 (by rw [hp]; exact True.intro) hs ⟨q, hq⟩ ⟨by rw [sizeLine_eq]; simp, hd, _, .cons ⟨rfl, ?_, rx⟩ .nil, q, es, ep, hq, h2, h3, h4, h5⟩
  rw [upd_ne (ne_of hb hp (fun z => nomatch z))]
  exact hb
end Wk

namespace Wk
open PySem L2
def keyOf (r : Row) : List Key := r.map Sum.inl
def dictOf (L : List Row) : List (List Key × V) := L.map fun r => (keyOf r, .bl true)
theorem keyOf_kV (r : Row) : (keyOf r).map kV = r.map V.int := by
  unfold keyOf
  rw [List.map_map]
  rfl
theorem keyOf_inj {a b : Row} (h : keyOf a = keyOf b) : a = b := by
  unfold keyOf at h
  exact (List.map_inj_right (fun x y e => by injection e)).mp h
theorem dictOf_len (L : List Row) : (dictOf L).length = L.length := by simp [dictOf]
theorem dict_any (L : List Row) (v : Row) : ((dictOf L).any fun kv => decide (kv.1 = keyOf v)) = decide (v ∈ L) := by
  unfold dictOf
  rw [List.any_map]
  rw [Bool.eq_iff_iff, List.any_eq_true, decide_eq_true_eq]
  constructor
  · rintro ⟨r, hr, e⟩
    have := keyOf_inj (of_decide_eq_true e)
    exact this ▸ hr
  · intro h
    exact ⟨v, h, decide_eq_true rfl⟩
theorem dict_put (L : List Row) (v : Row) : putK (dictOf L) (keyOf v) (.bl true) = dictOf (ins L v) := by
  unfold putK ins
  rw [dict_any]
  by_cases h : v ∈ L
  · rw [decide_eq_true h, if_pos rfl, if_pos h]
    unfold dictOf
    rw [List.map_map]
    refine List.map_congr_left fun r hr => ?_
    show (if keyOf r = keyOf v then _ else _) = _
    split <;> rfl
  · rw [decide_eq_false h, if_neg Bool.false_ne_true, if_neg h]
    simp [dictOf]
theorem dict_val (L : List Row) (v : Row) : (valV (dictOf L) (keyOf v)).isSome = decide (v ∈ L) := by
  rw [← valV_any, dict_any]
theorem keys_at {H : Hp} : ∀ {L : List Row} {bs : List Addr}, IsKeys H (dictOf L) bs → bs.length = L.length ∧ ∀ (t : Nat) (r : Row), L[t]? = some r → ∃ b, bs[t]? = some b ∧ H b = some (.tup (r.map V.int))
  | [], [], _ => ⟨rfl, fun t r e => by simp at e⟩
  | [], _ :: _, h => nomatch h
  | _ :: _, [], h => nomatch h
  | r :: L, b :: bs, h => by
    cases h with
    | cons h1 h2 =>
      obtain ⟨i1, i2⟩ := keys_at (L := L) (bs := bs) h2
      refine ⟨by simp [i1], fun t s e => ?_⟩
      cases t with
      | zero =>
        cases e
        have h1 : H b = some (.tup ((keyOf r).map kV)) := h1
        rw [keyOf_kV] at h1
        exact ⟨b, rfl, h1⟩
      | succ t =>
        obtain ⟨b2, e1, e2⟩ := i2 t s (by simpa using e)
        exact ⟨b2, by simpa using e1, e2⟩
def spSpan (K : PySem.W.Frag) : Sp := fun vs H Q _ => ∃ (t : Bool) (M : Int) (a : Addr) (A : Mat) (w : Nat), vs = [.int M, .ref a, .int (w : Int)] ∧ 2 ≤ M ∧ M ≤ 12 ∧ RowsIn t K H a A ∧ A.length ≤ 6 ∧ w ≤ 10 ∧ (∀ x ∈ A, x.length = w) ∧ MWd A ∧
  ∀ d H', Same H H' → H d = none → H' d = some (.dT (dictOf (spanD M w A A.length))) → Q (.ref d) H'
theorem pow12 {i : Nat} (h : i ≤ 6) : 12 ^ i ≤ 12 ^ 6 := Nat.pow_le_pow_right (by decide) h
theorem call_isiK {X : Cx} {K : PySem.W.Frag} (hK : X.K = K) : CallR X (.builtin "isinstance") (rIsi K) := hK ▸ call_isi
theorem tyx {K : PySem.W.Frag} {H : Hp} {a : Addr} {xs : List V} (h : SqT K H a xs) : TyX K H (.ref a) (.type "tuple") := by
  rcases h with (h | ⟨o, h⟩) | ⟨o, its, n, e, c, _⟩
  · exact .base (.tup h)
  · exact .fTuple h
  · exact .kTuple e c
def spAdded (K : PySem.W.Frag) : Sp := fun vs H Q _ => ∃ (t u : Bool) (M : Int) (a b : Addr) (A : Mat) (c : Row) (w : Nat), vs = [.int M, .ref a, .ref b, .int (w : Int)] ∧ 2 ≤ M ∧ M < 2 ^ 64 ∧ RowsIn t K H a A ∧ ZM.SqK u K H b (c.map V.int) ∧ c.length = A.length ∧ A.length ≤ 100 ∧ w ≤ 100 ∧ (∀ x ∈ A, x.length = w) ∧ MWd A ∧ RWd c ∧
  NewRow H (addedF M A c w A.length) Q
def spIsTold (K : PySem.W.Frag) : Sp := fun vs H Q _ => ∃ (M : Int) (a b d : Addr) (A : Mat) (r c : Row) (w : Nat), vs = [.int M, .ref a, .ref b, .ref d] ∧ 2 ≤ M ∧ M < 2 ^ 64 ∧ RowsIn false K H a A ∧ RowAt K H b r ∧ RowAt K H d c ∧ c.length = A.length ∧ A.length ≤ 100 ∧ w ≤ 100 ∧ (∀ x ∈ A, x.length = w) ∧ MWd A ∧ r.length = w ∧ RRed M c ∧
  (∀ j, j < w → Eqm M (fn r j) (sumN A.length fun k => fn c k * ent A k j)) ∧ ∀ H', Same H H' → Q (.bl true) H'
section
variable {P : Program} {w : World} {K : PySem.W.Frag} {mg : Str → Option Value} {base : Heap}
theorem ok_span {f : Addr} {fd : FuncData} (F : Fun K "_law_span" "_law_span" s_law_span f fd) (T : TxtL mg) : FnOk P w K mg base CX0 1 f fd ["_law_modulus", "_law_rows", "_law_width"] (spSpan K) := by
  refine F.ok sc_law_span (fun vs H Q E h => ?_) (fun cdv A outer s H vs Q E hr h => ?_)
  · obtain ⟨t, M, a, A, w, rfl, _⟩ := h
    rfl
  · obtain ⟨t, M, a, Am, w, rfl, hM, hM2, hA, lA, hw, hAw, wA, k⟩ := h
    have hu := hu_of hr
    refine ⟨_, (pss_cons (ps_set (i := 3) sc_law_span.nd rfl (Or.inl rfl) (pe_dispT hu (pe_op (op_repAK (K := K) rfl) (pe_tup (pa_cons pe_int pa_nil)) (pv 2)) pe_bl))
        (pss_cons (ps_for PassesOwn.never rfl (pi_sqK (K := K) rfl t (pv 1)) (pg_name (i := 4) sc_law_span.nd rfl (Or.inl rfl)) (pss_one (ps_for PassesOwn.never rfl (pi_list (pe_callTy (call_list_dT rfl) rfl T.f_list (by decide +kernel) (pa_cons (pv 3) pa_nil))) (pg_name (i := 5) sc_law_span.nd rfl (Or.inl rfl)) (pss_one (ps_for PassesOwn.never rfl (pi_range2 rfl T.f_range (pa_cons pe_int (pa_cons (pv 0) pa_nil))) (pg_name (i := 6) sc_law_span.nd rfl (Or.inr rfl)) (pss_one (ps_dput hu (pv 3) (pe_callTy (call_tupleK (K := K) rfl) rfl T.f_tuple (by decide +kernel) (pa_cons (pe_lc (own := [("_law_a", 7), ("_law_b", 8)]) (g := gTup K 2 (gCons (gName 7) (gCons (gName 8) gNil))) rfl sc_law_span.nd (pi_zip2K (K := K) rfl true true rfl T.f_zip (pa_cons (pv 5) (pa_cons (pv 4) pa_nil))) (blkOk_by (N := ["_law_modulus", "_law_rows", "_law_width", "_law_found", "_law_row", "_law_one", "_law_often", "_law_a", "_law_b"]) (sc := defScope s_law_span) (by decide +kernel)) (fun _ _ _ _ _ => (pg_tupK rfl rfl (pgs_cons (pg_name (i := 7) sc_law_span.nd rfl (Or.inl rfl)) (pgs_cons (pg_name (i := 8) sc_law_span.nd rfl (Or.inl rfl)) pgs_nil)))) (fun _ _ _ _ _ => pts_nil) (fun _ _ _ _ _ => (pe_op op_modN (pe_callTy call_int1 rfl T.f_int (by decide +kernel) (pa_cons (pe_op op_add (pv 7) (pe_op op_mulW (pv 6) (pv 8))) pa_nil)) (pv 0)))) pa_nil)) pe_bl rfl)))))))
        (pss_one (ps_ret (pv 3))))), ?_⟩
    obtain ⟨vs, hAv, hR⟩ := id hA
    have hvl := hR.length
    intro d nd
    have sd : ∀ {G : Hp} {o : HO}, Same H G → Same H (upd G d o) := fun {G o} s b u e => by
      rw [upd_ne (ne_of_none e nd)]
      exact s b u e
    have s0 : Same H (upd H d (.dT [])) := sd fun _ _ e => e
    have g0 : (upd H d (.dT [])) d = some (.dT []) := upd_same
    generalize upd H d (.dT []) = G0 at s0 g0 ⊢
    refine ⟨by decide, fun t1 n1 => ⟨_, rfl, rep_read upd_same (by omega) (by omega) fun q1 G1 s1 g1 => ⟨q1, keyOf (List.replicate w 0), rfl, s1 _ _ (same_upd n1 _ _ g0), ?_, ?_⟩⟩⟩
    · rw [keyOf_kV, List.map_replicate]
      exact g1
    have s2 : Same H (upd G1 d (.dT [(keyOf (List.replicate w 0), .bl true)])) := sd (same_trans s0 (same_trans (same_upd n1) s1))
    have g2 : (upd G1 d (.dT [(keyOf (List.replicate w 0), .bl true)])) d = some (.dT (dictOf (spanD M w Am 0))) := upd_same
    generalize upd G1 d (.dT [(keyOf (List.replicate w 0), .bl true)]) = G2 at s2 g2 ⊢
    refine ⟨_, rfl, a, rfl, ⟨vs, SqK.same hAv s2⟩, ?_⟩
    refine for_it (walk_sq (xs := vs)) (fun i σ H' => ∃ (x4 x5 x6 : Option V), σ = [some (.int M), some (.ref a), some (.int (w : Int)), some (.ref d), x4, x5, x6, none, none] ∧ Same H H' ∧ H' d = some (.dT (dictOf (spanD M w Am i)))) ⟨none, none, none, rfl, s2, g2⟩ (fun k σ H' _ ⟨_, _, _, _, s1, _⟩ => SqK.same hAv s1) ?_ ?_
    · rintro i v σ H2 H2' hi ⟨x4, x5, x6, rfl, s3, g3⟩ ⟨rfl, hv⟩
      obtain ⟨q, r, rfl, hkr, hq⟩ := rows_at hR hv
      have hrw : r.length = w := hAw _ (List.mem_of_getElem? hkr)
      have hwr : RWd r := wA _ (List.mem_of_getElem? hkr)
      have er : Am.getD i [] = r := by
        rw [List.getD_eq_getElem?_getD, hkr]
        rfl
      have hil : i < Am.length := (List.getElem?_eq_some_iff.mp hkr).1
      have hLl := spanD_len (show (M - 1).toNat ≤ 11 by omega) w Am i
      have hLl2 : (spanD M w Am i).length ≤ 12 ^ 5 := Nat.le_trans hLl (Nat.pow_le_pow_right (by decide) (by omega))
      have hLm : ∀ u ∈ spanD M w Am i, u.length = w ∧ RRed M u := fun u hu => by
        obtain ⟨h1, h2, _⟩ := (spanD_mem hM hAw i (by omega)).mp hu
        exact ⟨h1, h2⟩
      have eS : spanD M w Am (i + 1) = spanRow M r (spanD M w Am i) (spanD M w Am i).length := by
        show spanRow M (Am.getD i []) _ _ = _
        rw [er]
      generalize spanD M w Am i = L at *
      refine ⟨_, rfl, d, _, rfl, .inl g3, fun p bs np hks => ⟨p, rfl, ⟨_, SqL.of upd_same⟩, ?_⟩⟩
      obtain ⟨hbl, hkeys⟩ := keys_at hks
      have s4' : Same H2' (upd H2' p (.lst (bs.map V.ref))) := same_upd np
      have g4 : (upd H2' p (.lst (bs.map V.ref))) p = some (.lst (bs.map V.ref)) := upd_same
      have hpd : p ≠ d := fun z => by rw [z, g3] at np; cases np
      generalize upd H2' p (.lst (bs.map V.ref)) = H3 at s4' g4 ⊢
      have bd : ∀ {b : Addr} {xs : List V}, H2' b = some (.tup xs) → b ≠ d := fun {b xs} e z => by rw [z, g3] at e; cases e
      refine for_it (walk_list (xs := bs.map V.ref)) (fun t' σ H' => ∃ (x5 x6 : Option V), σ = [some (.int M), some (.ref a), some (.int (w : Int)), some (.ref d), some (.ref q), x5, x6, none, none] ∧ Same H H' ∧ But d H3 H' ∧ H' d = some (.dT (dictOf (spanRow M r L t')))) ⟨_, _, rfl, same_trans s3 s4', fun _ _ _ e => e, s4' _ _ g3⟩ (fun t' σ H' _ ⟨_, _, _, _, b1, _⟩ => SqL.of (b1 _ _ hpd g4)) ?_ ?_
      · rintro t' v σ H4 H4' ht ⟨x5, x6, rfl, s5, b5, g5⟩ ⟨rfl, hv2⟩
        have htL : t' < L.length := by simpa [hbl] using ht
        have hLt : L[t']? = some L[t'] := List.getElem?_eq_getElem htL
        obtain ⟨b, hb1, hb2⟩ := hkeys t' _ hLt
        have hv3 : v = .ref b := by
          rw [List.getElem?_map, hb1] at hv2
          cases hv2
          rfl
        subst hv3
        obtain ⟨ul, ur⟩ := hLm _ (List.getElem_mem htL)
        have eu : L.getD t' [] = L[t'] := by
          rw [List.getD_eq_getElem?_getD, hLt]
          rfl
        have eR : spanRow M r L (t' + 1) = spanIn M L[t'] r (spanRow M r L t') (M - 1).toNat := by
          show spanIn M (L.getD t' []) r _ _ = _
          rw [eu]
        have hSl := spanRow_len (show (M - 1).toNat ≤ 11 by omega) r L t'
        generalize L[t'] = u at *
        generalize spanRow M r L t' = R at *
        have hb5 : ∀ {G : Hp}, But d H4' G → RowAt K G b u := fun {G} e => SqT.of (e _ _ (bd hb2) (b5 _ _ (bd hb2) (s4' _ _ hb2)))
        refine ⟨_, rfl, 1, M, rfl, ⟨by omega, by omega, by omega, by omega⟩, ?_⟩
        refine for_it (walk_range (lo := 1) (n := (M - 1).toNat)) (fun k σ H' => ∃ (x6 : Option V), σ = [some (.int M), some (.ref a), some (.int (w : Int)), some (.ref d), some (.ref q), some (.ref b), x6, none, none] ∧ Same H H' ∧ But d H4' H' ∧ H' d = some (.dT (dictOf (spanIn M u r R k)))) ⟨_, rfl, s5, fun _ _ _ e => e, g5⟩ (fun _ _ _ _ _ => trivial) ?_ ?_
        · rintro k v σ H5 H5' hk ⟨x6, rfl, s6, b6, g6⟩ ⟨rfl, rfl⟩
          have hub := hb5 b6
          have hrb : RowAt K H5' q r := SqT.same hq s6
          refine ⟨_, rfl, ?_⟩
          have eo : (1 + (k : Int)) = (k : Int) + 1 := by omega
          show tCB (rTupOf K) _ [some (V.int M), some (V.ref a), some (V.int (w : Int)), some (V.ref d), some (V.ref q), some (V.ref b), some (V.int (1 + (k : Int))), none, none] _ _
          rw [eo]
          refine ⟨_, rfl, _, rfl, b, q, _, _, rfl, hub, hrb, fun D hD => lc_rel (ZM.walk_two (n := w) (by simp [ul, hrw])) hD (by omega) (fun i v _ => ∃ z, (addRow M u ((k : Int) + 1) r)[i]? = some z ∧ v = .int z) (fun i v H H' h _ => h) (fun H1 e => ⟨SqT.same hub e, SqT.same hrb e⟩) ?_ ?_⟩
          · rintro j v H6 H6' Fn Nn fin hj sm hacc ⟨T0, x, y, rfl, hT, rfl, hx, hy⟩
            obtain ⟨x, gx, rfl⟩ := at_ints hx
            obtain ⟨y, gy, rfl⟩ := at_ints hy
            have hxr := ur _ (List.mem_of_getElem? gx)
            refine ⟨T0, _, rfl, SqT.of upd_same, rfl, _, _, rfl, _, _, rfl, rfl, rfl, yesT ⟨_, rfl, _, rfl, _, rfl, _, _, rfl, rfl, wd_mul (show ((k : Int) + 1).natAbs < 2 ^ 200 by omega) (hwr _ (List.mem_of_getElem? gy)), _, _, rfl, rfl, .inl ⟨_, rfl, _, rfl, _, _, rfl, rfl, by omega, ?_⟩⟩⟩
            dsimp only
            rw [Int.fmod_eq_emod_of_nonneg _ (by omega)]
            refine fin _ _ (same_upd hT) ⟨_, ?_, rfl⟩
            unfold addRow
            rw [List.getElem?_zipWith, gx, gy]
          · intro acc H6 a1 a2 s6' hR6
            have ea : acc = (addRow M u ((k : Int) + 1) r).map V.int := acc_map (by simp [addRow, a1, ul, hrw]) hR6
            refine ⟨D, acc, rfl, .inl ⟨SqL.of a2, fun p7 np7 => ?_⟩⟩
            have s7 : Same H6 (upd H6 p7 (.tup acc)) := same_upd np7
            have g7 : (upd H6 p7 (.tup acc)) p7 = some (.tup ((addRow M u ((k : Int) + 1) r).map V.int)) := by rw [upd_same, ea]
            generalize upd H6 p7 (.tup acc) = H7 at s7 g7 ⊢
            have sA := same_trans s6' s7
            have gd := sA _ _ g6
            have hIl := spanIn_len M u r R k
            refine ⟨d, _, rfl, DPut.t (k := keyOf (addRow M u ((k : Int) + 1) r)) gd (by rw [keyOf_kV]; exact g7) ?_, ?_⟩
            · rw [dictOf_len]
              have : 12 ^ 5 = 248832 := by decide
              exact Nat.lt_of_le_of_lt (show _ ≤ 248832 * 13 by omega) (by decide)
            · rw [dict_put]
              exact ⟨_, rfl, sd (same_trans s6 sA), fun b o n e => by rw [upd_ne n]; exact sA _ _ (b6 _ _ n e), upd_same⟩
        · rintro σ H5 ⟨x6, rfl, s6, b6, g6⟩
          rw [← eR] at g6
          exact ⟨_, _, rfl, s6, fun b o n e => b6 _ _ n (b5 _ _ n e), g6⟩
      · rintro σ H4 ⟨x5, x6, rfl, s5, b5, g5⟩
        have el : (bs.map V.ref).length = L.length := by simp [hbl]
        rw [el, ← eS] at g5
        exact ⟨_, _, _, rfl, s5, g5⟩
    · rintro σ H2 ⟨x4, x5, x6, rfl, s3, g3⟩
      rw [hvl] at g3
      exact ⟨_, rfl, k d H2 s3 nd g3⟩
end
end Wk

namespace Wk
open PySem L2
def spPen (K : PySem.W.Frag) : Sp := fun vs H Q _ => ∃ (a : Addr) (ns : List Int), vs = [.ref a] ∧ SqL K H a (ns.map V.int) ∧ ∀ p c ns' H', Same H H' → PenAt H' p c ns' 0 0 → Q (.ref p) H'
theorem sqL_same {K : PySem.W.Frag} {H H' : Hp} {a : Addr} {xs : List V} (h : SqL K H a xs) (e : Same H H') : SqL K H' a xs := by
  rcases h with h | h
  · rcases h with h | ⟨o, h⟩
    · exact .inl (.inl (e _ _ h))
    · exact .inl (.inr ⟨o, e _ _ h⟩)
  · exact .inr h
structure Dn (P : Program) (w : World) (K : PySem.W.Frag) (mg : Str → Option Value) (base : Heap) (CX : CXT) (k : Nat) (x : Str) (ps : List Str) (sp : Sp) : Prop where
  ex : ∃ (f : Addr) (fd : FuncData), FnOk P w K mg base CX k f fd ps sp ∧ mg x = some (.ref f) ∧ PySem.W.keepIn K (.ref f) = true ∧ Binds K fd ps []
theorem same_rows {K : PySem.W.Frag} {H : Hp} {a b : Addr} {r s : List Int} (ha : RowAt K H a r) (hb : RowAt K H b s) (e : r = s) {Q : VK} (q : Q (.bl false) H) : rNeD K (.ref a) (.ref b) H Q := by
  subst e
  refine ⟨_, _, ha.dp, hb.dp, dI_shaped _, dI_shaped _, ?_⟩
  rw [dI_eqv, decide_eq_true rfl]
  exact q
theorem same_mats {K : PySem.W.Frag} {H : Hp} {a b : Addr} {A B : Mat} (ha : MatAt K H a A) (hb : MatAt K H b B) (e : A = B) {Q : VK} (q : Q (.bl false) H) : rNeD K (.ref a) (.ref b) H Q := by
  subst e
  refine ⟨_, _, ha.dp, hb.dp, dM_shaped _, dM_shaped _, ?_⟩
  rw [dM_eqv, decide_eq_true rfl]
  exact q
theorem ints_of {acc : List V} {n : Nat} {R : Nat → Int → Prop} (hl : acc.length = n) (h : ∀ (j : Nat) (v : V), acc[j]? = some v → ∃ x : Int, v = .int x ∧ R j x) : ∃ r : List Int, acc = r.map V.int ∧ r.length = n ∧ ∀ (j : Nat) (x : Int), r[j]? = some x → R j x := by
  refine ⟨acc.map fun v => match v with | .int x => x | _ => 0, ?_, by simpa using hl, ?_⟩
  · apply List.ext_getElem?
    intro j
    rw [List.getElem?_map, List.getElem?_map]
    cases e : acc[j]? with
    | none => rfl
    | some v =>
      obtain ⟨x, rfl, _⟩ := h j v e
      rfl
  · intro j x e
    rw [List.getElem?_map] at e
    cases e2 : acc[j]? with
    | none => rw [e2] at e; cases e
    | some v =>
      obtain ⟨y, rfl, hy⟩ := h j v e2
      rw [e2] at e
      cases e
      exact hy
theorem draw_read {H : Hp} {p c : Addr} {ns : List Int} {n : Nat} {m : Int} {Q : VK} (P : Pen H p c ns n) (hn : n < 90000) (hm : 1 ≤ m) (hm2 : m < 2 ^ 64) (k : ∀ (d : Int) (H' : Hp), 0 ≤ d → d < m → Pen H' p c ns (n + 1) → But p H H' → Q (.int d) H') : spDraw [.ref p, .int m] H Q E0 := by
  obtain ⟨i, l, a, b⟩ := P
  refine ⟨p, c, ns, i, l, m, rfl, a, by omega, hm, w64 hm hm2, fun d i' l' d0 d1 z0 z1 z2 => ?_⟩
  obtain ⟨P2, b2⟩ := drwP a b hn z0 z1 z2
  exact k d _ d0 d1 P2 b2
theorem pick_read {K : PySem.W.Frag} {H : Hp} {p c a : Addr} {ns : List Int} {n : Nat} {items : List V} {Q : VK} (P : Pen H p c ns n) (hn : n < 90000) (ha : H a = some (.lst items)) (h0 : items ≠ []) (hl : items.length ≤ 100000) (k : ∀ (v : V) (H' : Hp), v ∈ items → Pen H' p c ns (n + 1) → But p H H' → Q v H') : spPick K [.ref p, .ref a] H Q E0 := by
  obtain ⟨i, l, e, b⟩ := P
  refine ⟨p, c, a, ns, i, l, items, rfl, e, by omega, ha, h0, hl, fun v i' l' hv z0 z1 z2 => ?_⟩
  obtain ⟨P2, b2⟩ := drwP e b hn z0 z1 z2
  exact k v _ hv P2 b2
theorem if_const {t : TT} {a b : V} {σ : L2.St} {H : Hp} {Q : VK} (hw : ∀ K : Bool → Hp → Prop, (∀ k, K k H) → t σ H K) (hq : ∀ v, v = a ∨ v = b → Q v H) : tIf t (tC a) (tC b) σ H Q :=
  hw _ fun k => by cases k <;> first | exact iteF (hq _ (.inr rfl)) | exact iteT (hq _ (.inl rfl))
theorem nx_cut {s1 s2 : TS} {D : Ends} {r b c} {σ : L2.St} {H : Hp} (Post : L2.St → Hp → Prop) (h1 : ∀ D' : Ends, (∀ σ H, Post σ H → D'.nx σ H) → s1 D' σ H) (h2 : ∀ σ H, Post σ H → s2 D σ H) : (Ends.mk (tSeq s1 s2 D) r b c).nx σ H := h1 _ h2
theorem unit_if (j q : Nat) : (if decide (V.int (0 + (j : Int)) = V.int (q : Int)) = true then (1 : Int) else 0) = if j = q then 1 else 0 := by
  by_cases e : j = q
  · subst e
    rw [if_pos rfl, if_pos (decide_eq_true (by rw [Int.zero_add]))]
  · rw [if_neg e, if_neg]
    intro z
    have z := of_decide_eq_true z
    injection z with z
    omega
theorem range_acc {acc : List V} {n : Nat} {f : Nat → V} (h : acc.length = n) (hR : ∀ j v, acc[j]? = some v → v = f j) : acc = (List.range n).map f :=
  acc_map (as := List.range n) (f := f) (by simpa using h) fun j v e => ⟨j, List.getElem?_range (by rw [← h]; exact (List.getElem?_eq_some_iff.mp e).1), hR j v e⟩
theorem gn_cut {n : Nat} {v : V} {s1 s2 : TS} {D : Ends} {r b c} {σ : L2.St} {H : Hp} (Post : L2.St → Hp → Prop) (h1 : ∀ D' : Ends, (∀ σ H, Post σ H → D'.nx σ H) → s1 D' (σ.set n (some v)) H) (h2 : ∀ σ H, Post σ H → s2 D σ H) : gName n v σ H (Ends.mk (tSeq s1 s2 D) r b c).nx := h1 _ h2
theorem lp_cut {n : Nat} {v : V} {s1 s2 : TS} {D : Ends} {σ : L2.St} {H : Hp} (Post : L2.St → Hp → Prop) (h1 : ∀ D' : Ends, (∀ σ H, Post σ H → D'.nx σ H) → s1 D' (σ.set n (some v)) H) (h2 : ∀ σ H, Post σ H → s2 D σ H) : gName n v σ H (fun σ2 H2 => tSeq s1 s2 D σ2 H2) := h1 _ h2
theorem seq_cut {s1 s2 : TS} {D : Ends} {σ : L2.St} {H : Hp} (Post : L2.St → Hp → Prop) (h1 : ∀ D' : Ends, (∀ σ H, Post σ H → D'.nx σ H) → s1 D' σ H) (h2 : ∀ σ H, Post σ H → s2 D σ H) : tSeq s1 s2 D σ H := h1 _ h2
theorem SqK.pen {t : Bool} {K : PySem.W.Frag} {p c : Addr} {ns : List Int} {n : Nat} {H H' : Hp} {b : Addr} {xs : List V} (h : ZM.SqK t K H b xs) (e : But p H H') (hp : Pen H p c ns n) : ZM.SqK t K H' b xs := by
  cases t
  · obtain ⟨c, i, l, hp⟩ := hp.dk
    rcases h with (h | ⟨o, h⟩) | h
    · exact .inl (.inl (e _ _ (ne_of h hp (by intro z; cases z)) h))
    · exact .inl (.inr ⟨o, e _ _ (ne_of h hp (by intro z; cases z)) h⟩)
    · exact .inr h
  · exact SqT.pen h e hp
theorem RowsAre.pen {K : PySem.W.Frag} {p c : Addr} {ns : List Int} {n : Nat} {H H' : Hp} (e : But p H H') (hp : Pen H p c ns n) : ∀ {vs : List V} {A : Mat}, RowsAre K H vs A → RowsAre K H' vs A
  | _, _, .nil => .nil
  | _, _, .cons h r => .cons (SqT.pen h e hp) (r.pen e hp)
theorem RowsIn.pen {t : Bool} {K : PySem.W.Frag} {p c : Addr} {ns : List Int} {n : Nat} {H H' : Hp} {a : Addr} {A : Mat} (h : RowsIn t K H a A) (e : But p H H') (hp : Pen H p c ns n) : RowsIn t K H' a A := by
  obtain ⟨vs, h1, h2⟩ := h
  exact ⟨vs, SqK.pen h1 e hp, h2.pen e hp⟩
theorem RowsIn.of_mat {K : PySem.W.Frag} {H : Hp} {a : Addr} {A : Mat} (h : MatAt K H a A) : RowsIn true K H a A := h
section
variable {P : Program} {w : World} {K : PySem.W.Frag} {mg : Str → Option Value} {base : Heap}
theorem ok_pen {f : Addr} {fd : FuncData} (F : Fun K "_law_pen_of" "_law_pen_of" s_law_pen_of f fd) (flist : mg "list" = none) : FnOk P w K mg base CX0 1 f fd ["_law_script"] (spPen K) := by
  refine F.ok sc_law_pen_of (fun vs H Q E h => ?_) (fun cdv A outer s H vs Q E hr h => ?_)
  · obtain ⟨a, ns, rfl, _⟩ := h
    rfl
  · obtain ⟨a, ns, rfl, hS, k⟩ := h
    refine ⟨_, PSs.nox ((pss_one (ps_ret (pe_disp (pps_cons pe_str (pe_callTy (call_listK (K := K) rfl) rfl flist (by decide +kernel) (pa_cons (pe_slice sl_list (pv 0) po_none (po_some pe_int)) pa_nil)) (pps_cons pe_str pe_int (pps_cons pe_str pe_int pps_nil))) (by rfl) (by rfl) (fun z => by cases z) (by decide))))), ?_⟩
    refine fun p hp => ?_
    have hS := sqL_same hS (same_upd (o := .dK []) hp)
    refine ⟨_, rfl, _, rfl, _, _, rfl, hS, fun q hq => ⟨_, _, rfl, .inl (SqL.of upd_same), fun c hc => ?_⟩⟩
    have hqp : q ≠ p := fun z => by rw [z, upd_same] at hq; cases hq
    have hcq : c ≠ q := fun z => by rw [z, upd_same] at hc; cases hc
    have hcp : c ≠ p := fun z => by rw [z, upd_ne (Ne.symm hqp), upd_same] at hc; cases hc
    obtain ⟨l, ecut⟩ : ∃ l : List Int, cutV (ns.map V.int) none (some 63) = l.map V.int :=
      ⟨(ns.drop (HT.sIx (ns.map V.int).length 0 none)).take (HT.sIx (ns.map V.int).length (ns.map V.int).length (some 63) - HT.sIx (ns.map V.int).length 0 none), by unfold cutV; rw [List.map_take, List.map_drop]⟩
    rw [ecut]
    refine ⟨by rw [upd_ne (Ne.symm hcp), upd_ne (Ne.symm hqp)]; exact upd_same, penL c 0 0, rfl, (by show 3 ≤ 15; decide), ?_⟩
    refine k p c l _ ?_ ⟨?_, ?_, by decide, by decide, by decide⟩
    · intro b o e
      have hb := ne_of_none e hp
      rw [upd_ne hb, upd_ne (ne_of_none (by rw [upd_ne (ne_of_none (by rw [upd_ne hb]; exact e) hq), upd_ne hb]; exact e) hc), upd_ne (ne_of_none (by rw [upd_ne hb]; exact e) hq), upd_ne hb]
      exact e
    · rw [upd_same]
      rfl
    · rw [upd_ne hcp]
      exact upd_same
end
end Wk

/-! t in d, t any tuple that is to be read; comprehensions that keep some; lists of ints as data -/
namespace Wk
open PySem PySem.Spec PyProof.Rows L2
theorem key_sq {X : Cx} {pins : List (Addr × Obj)} {σ : L2.St} {H : Hp} {s : Shared} {b : Addr} {ks : List Key} (I : Inv X pins σ H s) (h : SqT X.K H b (ks.map kV)) : (tupleKind (mixKind X.prog X.w)).is s.heap ks b := by
  obtain ⟨its, r, ⟨o, ho, hc, n, hd⟩, hs⟩ := I.tuple h
  exact ⟨o, its.toArray, n, ho, hc, hd, by simpa using items_are r⟩
def tDInS (K : PySem.W.Frag) (ty td : TE) : TE := fun σ H Q => ty σ H fun y H1 => td σ H1 fun x H2 => ∃ (a : Addr) (kvs : List (List Key × V)) (k : List Key) (b : Addr), x = .ref a ∧ Rd H2 a (.dT kvs) ∧ y = .ref b ∧ SqT K H2 b (k.map kV) ∧ Q (.bl (valV kvs k).isSome) H2
def tDNotInS (K : PySem.W.Frag) (ty td : TE) : TE := fun σ H Q => ty σ H fun y H1 => td σ H1 fun x H2 => ∃ (a : Addr) (kvs : List (List Key × V)) (k : List Key) (b : Addr), x = .ref a ∧ Rd H2 a (.dT kvs) ∧ y = .ref b ∧ SqT K H2 b (k.map kV) ∧ Q (.bl (!(valV kvs k).isSome)) H2
theorem pc_dinS {X : Cx} {K : PySem.W.Frag} {i o : Expr} {ty td : TE} (hK : X.K = K) (hu : X.A.units + 1 < cLine) (hi : PE X i ty) (ho : PE X o td) : PC X .In i o (tDInS K ty td) := by
  subst hK
  refine ⟨fun pins s σ H Q I h => ?_⟩
  refine thn (hi.run pins s σ H _ I h) fun iv s1 ⟨y, H1, I1, ry, q1⟩ => thn (ho.run pins s1 σ H1 _ I1 q1) fun u s2 ⟨x, H2, I2, rx, a, kvs, k, b, ex, hd, ey, hb, q2⟩ => ?_
  subst ex ey
  obtain rfl : u = Value.ref a := rx
  obtain rfl : iv = Value.ref b := ry
  obtain ⟨z, hds, xs, rel, dd⟩ := dt_rd I2.hok hd
  refine wpAny_in_heap (tupleKind_room_in1 hu) (key_sq I2 hb) hds dd ?_
  have q := (rel.val k).isSome_eq
  rw [Option.isSome_map] at q
  rw [← q]
  exact ⟨.bl (valV kvs k).isSome, H2, I2.tok _, rfl, q2⟩
theorem pc_dnotinS {X : Cx} {K : PySem.W.Frag} {i o : Expr} {ty td : TE} (hK : X.K = K) (hu : X.A.units + 1 < cLine) (hi : PE X i ty) (ho : PE X o td) : PC X .NotIn i o (tDNotInS K ty td) := by
  subst hK
  refine ⟨fun pins s σ H Q I h => ?_⟩
  refine thn (hi.run pins s σ H _ I h) fun iv s1 ⟨y, H1, I1, ry, q1⟩ => thn (ho.run pins s1 σ H1 _ I1 q1) fun u s2 ⟨x, H2, I2, rx, a, kvs, k, b, ex, hd, ey, hb, q2⟩ => ?_
  subst ex ey
  obtain rfl : u = Value.ref a := rx
  obtain rfl : iv = Value.ref b := ry
  obtain ⟨z, hds, xs, rel, dd⟩ := dt_rd I2.hok hd
  refine wpAny_notIn_heap (tupleKind_room_in1 hu) (key_sq I2 hb) hds dd ?_
  have q := (rel.val k).isSome_eq
  rw [Option.isSome_map] at q
  rw [← q]
  exact ⟨.bl (!(valV kvs k).isSome), H2, I2.tok _, rfl, q2⟩
/-- a comprehension that keeps what a test tells, its items told by a relation -/
theorem lc_filR {α : Type} {J : It} {n : Nat} {G : Hp → Prop} {Y : Nat → Hp → V → Hp → Prop} (w : Walk J n G Y) {g : TG} {tt : TT} {te : TE} {vs : List Nat} {σ : L2.St} {H1 : Hp} {D : Addr} {Qd : Hp → Prop} (hD : H1 D = none) (hn : n ≤ 1000000) (as : List α) (ha : as.length = n) (p : α → Bool) (R : α → V → Hp → Prop)
    (mono : ∀ a v H H', R a v H → But D H H' → R a v H') (hG : ∀ H, Same H1 H → G H)
    (hs : ∀ (i : Nat) (a : α) (x : V) (H H' : Hp) (Fn : V → Hp → Prop) (Nn : Hp → Prop), as[i]? = some a → (∀ y H4, Same H H4 → p a = true → R a y H4 → Fn y H4) → (∀ H4, Same H H4 → p a = false → Nn H4) → Same H1 H → Y i H x H' → g x (wipe σ vs) H' fun σ2 H2 => wipe σ2 vs = wipe σ vs ∧ tt σ2 H2 fun b H3 => if b = true then te σ2 H3 Fn else Nn H3)
    (hd : ∀ (acc : List V) H, H D = some (.lst acc) → Same H1 H → acc.length = (as.filter p).length → (∀ (k : Nat) (a : α), (as.filter p)[k]? = some a → ∃ v, acc[k]? = some v ∧ R a v H) → Qd H) :
    ∃ W : Nat → Nat → Hp → Prop, (∃ m, W 0 m (upd H1 D (.lst []))) ∧ ∀ i m H, W i m H →
      (J.stop i H ∧ Qd H) ∨ (J.go i H ∧ ∃ Nx : Hp → Prop, (∀ H', Nx H' → ∃ m', m' < m ∧ W (i + 1) m' H') ∧ ∀ x H', J.yld i H x H' → g x (wipe σ vs) H' fun σ2 H2 => wipe σ2 vs = wipe σ vs ∧ tt σ2 H2 fun b H3 =>
        if b = true then te σ2 H3 fun y H4 => ∃ acc, H4 D = some (.lst acc) ∧ acc.length < sizeLine ∧ Nx (upd H4 D (.lst (acc ++ [y]))) else Nx H3) := by
  refine lc_it w (fun i H => ∃ acc : List V, H D = some (.lst acc) ∧ (∀ b o, b ≠ D → H1 b = some o → H b = some o) ∧ acc.length = ((as.take i).filter p).length ∧ ∀ (k : Nat) (a : α), ((as.take i).filter p)[k]? = some a → ∃ v, acc[k]? = some v ∧ R a v H) ⟨[], upd_same, fun b o n e => by rw [upd_ne n]; exact e, rfl, fun k a e => by simp at e⟩ (fun i H hi ⟨acc, _, h, _⟩ => hG H fun b o e => h b o (fun z => by rw [z, hD] at e; cases e) e) ?_ fun H ⟨acc, h1, h2, h3, h4⟩ => ?_
  · intro i x H H' hi ⟨acc, h1, h2, h3, h4⟩ hy
    have hia : as[i]? = some (as[i]'(by omega)) := List.getElem?_eq_getElem (by omega)
    have ht : as.take (i + 1) = as.take i ++ [as[i]'(by omega)] := by
      rw [List.take_succ, hia]
      rfl
    have sm : Same H1 H := fun b o e => h2 b o (fun z => by rw [z, hD] at e; cases e) e
    refine hs i _ x H H' _ _ hia (fun y H4 s4 hp hr => ⟨acc, s4 _ _ h1, ?_, acc ++ [y], upd_same, fun b o nb e => ?_, ?_, fun k a e => ?_⟩) (fun H4 s4 hp => ⟨acc, s4 _ _ h1, fun b o nb e => s4 _ _ (h2 b o nb e), ?_, fun k a e => ?_⟩) sm hy
    · rw [h3]
      have l1 := List.length_filter_le p (as.take i)
      rw [List.length_take] at l1
      exact Nat.lt_of_lt_of_le (show _ < 1000001 by omega) (by decide)
    · rw [upd_ne nb]
      exact s4 _ _ (h2 b o nb e)
    · rw [ht, List.filter_append, List.filter_cons_of_pos hp]
      simp [h3]
    · have b1 : But D H4 (upd H4 D (.lst (acc ++ [y]))) := fun b o n q => by rw [upd_ne n]; exact q
      rw [ht, List.filter_append, List.filter_cons_of_pos hp, List.filter_nil] at e
      rcases Nat.lt_trichotomy k acc.length with hk | hk | hk
      · rw [List.getElem?_append_left (by omega)] at e
        obtain ⟨v, e1, e2⟩ := h4 k a e
        exact ⟨v, by rw [List.getElem?_append_left hk]; exact e1, mono _ _ _ _ (mono _ _ _ _ e2 fun b o _ q => s4 b o q) b1⟩
      · rw [hk, h3] at e
        simp at e
        subst e
        exact ⟨y, by rw [hk]; simp, mono _ _ _ _ hr b1⟩
      · rw [List.getElem?_eq_none (by simp; omega)] at e
        cases e
    · rw [ht, List.filter_append, List.filter_cons_of_neg (by rw [hp]; exact Bool.false_ne_true)]
      simp [h3]
    · rw [ht, List.filter_append, List.filter_cons_of_neg (by rw [hp]; exact Bool.false_ne_true)] at e
      simp only [List.filter_nil, List.append_nil] at e
      obtain ⟨v, e1, e2⟩ := h4 k a e
      exact ⟨v, e1, mono _ _ _ _ e2 fun b o _ q => s4 b o q⟩
  · rw [← ha, List.take_length] at h3 h4
    exact hd acc H h1 (fun b o e => h2 b o (fun z => by rw [z, hD] at e; cases e) e) h3 h4
def rLenK (K : PySem.W.Frag) : List V → Hp → VK → Prop := fun xs H Q => ∃ p ys, xs = [.ref p] ∧ (SqL K H p ys ∨ SqT K H p ys) ∧ Q (.int ys.length) H
theorem call_lenK {X : Cx} {K : PySem.W.Frag} (hK : X.K = K) : CallR X (.builtin "len") (rLenK K) := hK ▸ call_len_seq
/-- a list of ints -/
def dL (ns : List Int) : PyData := .list (ns.map PyData.int)
theorem dL_eqv (a b : List Int) : PyData.eqv (dL a) (dL b) = decide (a = b) := by
  unfold dL
  rw [PyData.eqv]
  exact eqvAll_map _ (fun i j => i == j) (fun i j => by simp [PyData.eqv]) (fun i j => by simp) a b
theorem dL_lay (a : List Int) : (dL a).canLay0 = true := by
  unfold dL
  rw [PyData.canLay0]
  exact canLayAll_map _ (fun i => by simp [PyData.canLay0]) a
theorem dL_depth (a : List Int) : (dL a).depth ≤ 1 := by
  unfold dL
  rw [PyData.depth]
  have := depthAll_map PyData.int 0 (fun i => by simp [PyData.depth]) a
  omega
theorem dL_shaped (a : List Int) : SeqAt.shaped (dL a) = true := by
  have := dL_depth a
  simp only [SeqAt.shaped, dL_lay, Bool.true_and, decide_eq_true_eq]
  omega
theorem lst_dp {K : PySem.W.Frag} {H : Hp} {a : Addr} {ns : List Int} (h : SqL K H a (ns.map V.int)) : Dp K H (.ref a) (dL ns) := .lst h (dpAll_ints ns)
end Wk

/-! set(a list of ints) -/
namespace L2
open PySem PySem.Spec PyProof.Rows
abbrev so (w : World) : Obj := { cls := .type "set", dict := none, data := .set #[] 0 (.fresh 0 0 (!w.params.followText "set-order")) }
section
variable {P : Program} {w : World} {A : Around} {E : Value → Shared → Prop} {s : Shared}
theorem set_ints {l : Addr} {its : Array Value} (ns : List Int) {Q : Value → Shared → Prop} (hh : A.handled = none) (hl : s.heap.IsList l its) (hi : IntsAre its.toList ns) (hb : ns.length + 1 < scanBound)
    (k : ∀ (g : Heap) (tk c : Nat), SetR w g s.heap.objs.size (fun j => decide (j ∈ ns)) c → c ≤ ns.length → (∀ b o, s.heap.get? b = some o → g.get? b = some o) → Q (.ref s.heap.objs.size) { s with heap := g, toks := tk }) : wpAny (model P w) A (call (.type "set") [.ref l]) Q E s := by
  have sz : its.size = ns.length := (Array.length_toList (xs := its)).symm.trans hi.length
  obtain ⟨c, tl, m1⟩ := F.called_set.mro
  have m2 := F.called_set.made
  have m3 := F.called_set.sub
  refine wpAny_call (codeAny_of_tree (show wpAny _ _ (callAny (.type "set") _) _ _ _ from wpAny_pure ⟨Code.quiet_builtin _ (by decide +kernel), codeAny_builtin F.entry_type_call ?_⟩))
  rw [Around.under_plain (weight_type_call_type "set" [.ref l] []) rfl]
  have m4 := F.called_set.notType
  have m5 := F.called_set.canCreate
  have m6 := F.typeCall_set_1 (.ref l)
  repeat (any_goals (first | wp_step | assumption))
  refine codeAny_mono (code_set_led1 (.ref l) (E := E) (Q₁ := fun z t => z = .ref s.heap.objs.size ∧ t = { s with heap := s.heap.push (so w) }) ⟨rfl, rfl⟩) fun r t hr => ?_
  match r, hr with
  | .error e, hr => exact hr
  | .ok .next, hr => exact hr.elim
  | .ok .brk, hr => exact hr.elim
  | .ok .cont, hr => exact hr.elim
  | .ok (.ret z), hr =>
    obtain ⟨rfl, rfl⟩ := hr
    have g0 : (s.heap.push (so w)).get? s.heap.objs.size = some (so w) := Heap.get?_push_size _ rfl
    have ty : Shared.TypeIs { s with heap := s.heap.push (so w) } (.ref s.heap.objs.size) "set" := ⟨_, g0, rfl⟩
    have i1 := F.called_set.init.lookup
    have i2 := F.called_set.init.bind (.ref s.heap.objs.size)
    repeat (any_goals (first | wp_step | assumption))
    refine codeAny_mono (codeAny_call_builtin (R := wants (fun r t => r = .none ∧ ∃ g tk c, t = { s with heap := g, toks := tk } ∧ SetR w g s.heap.objs.size (fun j => decide (j ∈ ns)) c ∧ c ≤ ns.length ∧ (∀ b o, s.heap.get? b = some o → g.get? b = some o)) E)
      F.called_set.init.plain F.entry_set_init (check_set_init_1 ty ?_)) fun r t hr => ?_
    · obtain ⟨⟨oc, od, oda, osl⟩, ol, cl, n, dl⟩ := hl
      dsimp only at cl dl
      subst cl dl
      have ol2 : (s.heap.push (so w)).get? l = some ⟨.type "list", od, .seq its n, osl⟩ := Heap.get?_push_of_some _ ol
      have s1 := F.sub_list_set
      have s2 := F.sub_list_frozenset
      have nd : (Value.type "list" == Value.type "dict") = false := by decide
      have il : (s.heap.push (so w)).IsList l its := ⟨_, ol2, rfl, n, rfl⟩
      unfold Builtin.«set.__init__» Builtin.Frozenset.updateFrom noKeywords
      generalize hI : pyIter = pI
      wp_walk
      subst hI
      refine wpAny_pyIter_list il (wpAny_bind (wpAny_runValue ?_))
      have lt : l < s.heap.objs.size := Heap.lt_size ol
      have hh3 : A.in1.in1.in1.handled = none := by simp [hh]
      have nI : l ≠ (s.heap.push (so w)).objs.size := by rw [Heap.size_push]; exact Nat.ne_of_lt (Nat.lt_succ_of_lt lt)
      have nS : s.heap.objs.size ∉ [(s.heap.push (so w)).objs.size, l] := by
        rw [Heap.size_push]
        intro z
        rcases List.mem_cons.mp z with z | z
        · exact Nat.ne_of_lt (Nat.lt_succ_self _) z
        · exact Nat.ne_of_gt lt (List.mem_singleton.mp z)
      have val : ∀ (i : Nat) (v : Value), its[i]? = some v → ∃ j t, ns[i]? = some j ∧ v = .int j t := fun i v hv => by
        have hlt : i < ns.length := sz ▸ (Array.getElem?_eq_some_iff.mp hv).1
        obtain ⟨t, e⟩ := PyProof.Rows.IntsAre.int_at hi i v (by rw [Array.getElem?_toList]; exact hv)
        exact ⟨ns[i], t, List.getElem?_eq_getElem hlt, by rw [e, List.getD_eq_getElem?_getD, List.getElem?_eq_getElem hlt]; rfl⟩
      refine set_update_ints ((Walks.list hh3 _ l nI its).toS) s.heap.objs.size nS ns sz hb val (its.size - 0) 0 _ (by omega) (Nat.zero_le _) ⟨⟨_, Heap.get?_push_size _ rfl, rfl, rfl⟩, il.push _⟩ ?_ ?_
      · exact ⟨0, Nat.le_refl 0, setR_new_at (Heap.get?_push_of_some _ g0)⟩
      · rintro ⟨g, gn, dn, tk, os⟩ c' mv cc hS
        have q1 : gn = s.gens := mv.gens
        have q2 : dn = s.drawn := mv.drawn
        have q3 : os = s.os := mv.os
        subst q1 q2 q3
        refine (show wpAny _ _ _ _ _ _ from wpAny_pure (show wpAny _ _ (ret Value.none) _ _ _ from ?_))
        refine wpAny_pure ⟨rfl, g, tk, c', rfl, hS, sz ▸ cc, fun b o e => ?_⟩
        have b1 : b < s.heap.objs.size := Heap.lt_size e
        refine mv.heap b o ?_ (Heap.get?_push_of_some _ (Heap.get?_push_of_some _ e))
        rw [Heap.size_push]
        intro z
        rcases List.mem_cons.mp z with z | z
        · exact Nat.ne_of_lt b1 z
        · exact Nat.ne_of_lt (Nat.lt_succ_of_lt b1) (List.mem_singleton.mp z)
    · match r, hr with
      | .error e, hr => exact hr
      | .ok .next, hr => exact hr.elim
      | .ok .brk, hr => exact hr.elim
      | .ok .cont, hr => exact hr.elim
      | .ok (.ret z), hr =>
        obtain ⟨rfl, g, tk, c', rfl, hS, cc, kp⟩ := hr
        repeat (any_goals (first | wp_step | assumption))
        exact k _ _ _ hS cc kp
end
end L2
namespace Wk
open PySem PySem.Spec PyProof.Rows L2
/-- set(xs), xs a list of ints -/
def rSetI (K : PySem.W.Frag) (w : World) : List V → Hp → VK → Prop := fun xs H Q => ∃ (l : Addr) (ns : List Int), xs = [.ref l] ∧ SqL K H l (ns.map V.int) ∧ ns.length ≤ 60 ∧ ∀ (a : Addr) (c : Nat), H a = none → c ≤ ns.length → Q (.ref a) (upd H a (SetO w a (fun j => decide (j ∈ ns)) c))
theorem cr_setI {X : Cx} (hc : X.calm = true) : CallR X (.type "set") (rSetI X.K X.w) := by
  intro pins s σ H xs us Q I r h
  obtain ⟨l, ns, rfl, hl, hn, q⟩ := h
  rw [Vals.ref1 r]
  obtain ⟨its, rv, pl, hz⟩ := I.list hl
  have hf : H s.heap.objs.size = none := I.hok.fresh (Nat.le_refl _)
  have hi : IntsAre its.toArray.toList ns := ints_of_vals rv
  refine set_ints ns (I.ok.hd hc) pl.isList hi (by unfold scanBound; omega) fun g tk c R cc kp => ?_
  exact ⟨.ref s.heap.objs.size, upd H s.heap.objs.size (SetO X.w s.heap.objs.size (fun j => decide (j ∈ ns)) c), I.laid (t' := tk) kp (Nat.le_refl _) (setO_new R), rfl, q _ c hf cc⟩
end Wk

/-! the settled rows: what they span, their number, that they are the only ones -/
namespace Wk
/-- rows of a list of places and rows, from a place on -/
def GF (F : List (Nat × Row)) (p : Nat) (v : Vec) : Prop := ∃ q s, (q, s) ∈ F ∧ p ≤ q ∧ v = fn s
/-- a howell form, each row beside its place -/
structure HF (M : Int) (w : Nat) (F : List (Nat × Row)) : Prop where
  row : ∀ q s, (q, s) ∈ F → q < w ∧ s.length = w ∧ RRed M s ∧ (∀ j, j < q → s[j]? = some 0) ∧ 1 ≤ fn s q ∧ fn s q ∣ M
  up : F.Pairwise fun a b => a.1 < b.1 ∧ fn a.2 b.1 < fn b.2 b.1
  down : ∀ p v, InS M w (GF F 0) v → (∀ j, j < p → j < w → Eqm M (v j) 0) → InS M w (GF F p) v
theorem red_zero {M x : Int} (h : Eqm M x 0) (h1 : -M < x) (h2 : x < M) : x = 0 := by
  obtain ⟨k, e⟩ := h
  rw [Int.zero_add] at e
  subst e
  rcases Int.lt_trichotomy k 0 with hk | hk | hk
  · have : M * k ≤ M * (-1) := by
      by_cases hM : 0 ≤ M
      · exact Int.mul_le_mul_of_nonneg_left (by omega) hM
      · omega
    omega
  · rw [hk, Int.mul_zero]
  · have : M * 1 ≤ M * k := by
      by_cases hM : 0 ≤ M
      · exact Int.mul_le_mul_of_nonneg_left (by omega) hM
      · omega
    omega
theorem HF.lt {M : Int} {w : Nat} {F : List (Nat × Row)} (h : HF M w F) {q : Nat} {s : Row} (hq : (q, s) ∈ F) : fn s q < M := by
  obtain ⟨h1, h2, h3, _⟩ := h.row q s hq
  exact (fn_red h3 (by omega)).2
/-- places are told once -/
theorem HF.one {M : Int} {w : Nat} {F : List (Nat × Row)} (h : HF M w F) {q : Nat} {s t : Row} (h1 : (q, s) ∈ F) (h2 : (q, t) ∈ F) : s = t := by
  have := h.up
  induction F with
  | nil => exact nomatch h1
  | cons a F ih =>
    rw [List.pairwise_cons] at this
    have key : ∀ {G : List (Nat × Row)}, G.Pairwise (fun a b => a.1 < b.1 ∧ fn a.2 b.1 < fn b.2 b.1) → (q, s) ∈ G → (q, t) ∈ G → s = t := by
      intro G
      induction G with
      | nil => exact fun _ h => nomatch h
      | cons b G ih =>
        intro hp ha hb
        rw [List.pairwise_cons] at hp
        rcases List.mem_cons.mp ha with ha | ha <;> rcases List.mem_cons.mp hb with hb | hb
        · rw [← ha] at hb
          cases hb
          rfl
        · have := (hp.1 _ hb).1
          rw [← ha] at this
          exact absurd this (Nat.lt_irrefl _)
        · have := (hp.1 _ ha).1
          rw [← hb] at this
          exact absurd this (Nat.lt_irrefl _)
        · exact ih hp.2 ha hb
    exact key h.up h1 h2
/-- what is spanned from p on: at p a multiple of the pivot, or 0 -/
theorem HF.at_ {M : Int} {w : Nat} {F : List (Nat × Row)} (h : HF M w F) {p : Nat} (hp : p < w) {v : Vec} (hv : InS M w (GF F p) v) : ((∀ s, (p, s) ∉ F) ∧ Eqm M (v p) 0) ∨ ∃ s, (p, s) ∈ F ∧ ∃ c, Eqm M (v p) (c * fn s p) := by
  have z : ∀ q s, (q, s) ∈ F → p < q → fn s p = 0 := fun q s hq hpq => fn_at ((h.row q s hq).2.2.2.1 p hpq)
  by_cases e : ∃ s, (p, s) ∈ F
  · obtain ⟨s, hs⟩ := e
    refine .inr ⟨s, hs, ?_⟩
    induction hv with
    | zero h0 => exact ⟨0, (h0 p hp).trans (.eq (by simp))⟩
    | add c g _ f ih =>
      obtain ⟨d, hd⟩ := ih
      obtain ⟨q, t, hq, hpq, rfl⟩ := g
      rcases Nat.eq_or_lt_of_le hpq with e | e
      · subst e
        rw [h.one hs hq] at *
        exact ⟨d + c, (f p hp).trans ((hd.add (.refl _ _)).trans (.eq (by grind)))⟩
      · refine ⟨d, (f p hp).trans ((hd.add (.refl _ _)).trans (.eq ?_))⟩
        rw [z q t hq e]
        simp
  · refine .inl ⟨fun s hs => e ⟨s, hs⟩, ?_⟩
    induction hv with
    | zero h0 => exact h0 p hp
    | add c g _ f ih =>
      obtain ⟨q, t, hq, hpq, rfl⟩ := g
      rcases Nat.eq_or_lt_of_le hpq with e2 | e2
      · exact absurd ⟨t, e2 ▸ hq⟩ e
      · refine (f p hp).trans ((ih.add (.refl _ _)).trans (.eq ?_))
        rw [z q t hq e2]
        simp
theorem sorted_ext {α : Type} {r : α → α → Prop} (irr : ∀ a b, r a b → r b a → False) : ∀ {L L' : List α}, L.Pairwise r → L'.Pairwise r → (∀ a, a ∈ L ↔ a ∈ L') → L = L'
  | [], [], _, _, _ => rfl
  | [], b :: L', _, _, h => absurd ((h b).mpr List.mem_cons_self) (fun z => nomatch z)
  | a :: L, [], _, _, h => absurd ((h a).mp List.mem_cons_self) (fun z => nomatch z)
  | a :: L, b :: L', h1, h2, h => by
    rw [List.pairwise_cons] at h1 h2
    have ab : a = b := by
      rcases List.mem_cons.mp ((h a).mp List.mem_cons_self) with e | e
      · exact e
      · rcases List.mem_cons.mp ((h b).mpr List.mem_cons_self) with e2 | e2
        · exact e2.symm
        · exact (irr _ _ (h1.1 b e2) (h2.1 a e)).elim
    subst ab
    rw [sorted_ext irr h1.2 h2.2 fun c => ?_]
    constructor
    · intro hc
      rcases List.mem_cons.mp ((h c).mp (List.mem_cons_of_mem _ hc)) with e | e
      · subst e
        exact (irr _ _ (h1.1 c hc) (h1.1 c hc)).elim
      · exact e
    · intro hc
      rcases List.mem_cons.mp ((h c).mpr (List.mem_cons_of_mem _ hc)) with e | e
      · subst e
        exact (irr _ _ (h2.1 c hc) (h2.1 c hc)).elim
      · exact e
/-- one form alone is a howell form of a span -/
theorem HF.sub {M : Int} (hM : 2 ≤ M) {w : Nat} {F F' : List (Nat × Row)} (h : HF M w F) (h' : HF M w F') (e : ∀ v, InS M w (GF F 0) v ↔ InS M w (GF F' 0) v) {q : Nat} {s : Row} (hq : (q, s) ∈ F) : ∃ s', (q, s') ∈ F' ∧ fn s' q ∣ fn s q := by
  obtain ⟨r1, r2, r3, r4, r5, r6⟩ := h.row q s hq
  have a : InS M w (GF F' q) (fn s) := h'.down q _ ((e _).mp (.of ⟨q, s, hq, Nat.zero_le _, rfl⟩)) fun j hj _ => .eq (fn_at (r4 j hj))
  rcases h'.at_ r1 a with ⟨_, z⟩ | ⟨s', hs', c, z⟩
  · have := red_zero z (by omega) (h.lt hq)
    omega
  · refine ⟨s', hs', ?_⟩
    obtain ⟨k, z⟩ := z
    rw [z]
    exact Int.dvd_add (Int.dvd_mul_left ..) (Int.dvd_trans (h'.row q s' hs').2.2.2.2.2 (Int.dvd_mul_right ..))
theorem HF.same {M : Int} (hM : 2 ≤ M) {w : Nat} {F F' : List (Nat × Row)} (h : HF M w F) (h' : HF M w F') (e : ∀ v, InS M w (GF F 0) v ↔ InS M w (GF F' 0) v) : ∀ q s, (q, s) ∈ F → (q, s) ∈ F' := by
  intro q s hq
  obtain ⟨s', hs', dv⟩ := h.sub hM h' e hq
  obtain ⟨s2, hs2, dv2⟩ := h'.sub hM h (fun v => (e v).symm) hs'
  rw [← h.one hq hs2] at dv2
  obtain ⟨r1, r2, r3, r4, r5, r6⟩ := h.row q s hq
  obtain ⟨t1, t2, t3, t4, t5, t6⟩ := h'.row q s' hs'
  have ex : fn s q = fn s' q := Int.dvd_antisymm (by omega) (by omega) dv2 dv
  have up : ∀ {G : List (Nat × Row)} {q j : Nat} {s t : Row}, HF M w G → (q, s) ∈ G → (j, t) ∈ G → q < j → fn s j < fn t j := by
    intro G q j s t hG h1 h2 hqj
    have key : ∀ {K : List (Nat × Row)}, K.Pairwise (fun a b => a.1 < b.1 ∧ fn a.2 b.1 < fn b.2 b.1) → (q, s) ∈ K → (j, t) ∈ K → fn s j < fn t j := by
      intro K
      induction K with
      | nil => exact fun _ h => nomatch h
      | cons b K ih =>
        intro hp ha hb
        rw [List.pairwise_cons] at hp
        rcases List.mem_cons.mp ha with ha | ha <;> rcases List.mem_cons.mp hb with hb | hb
        · rw [← ha] at hb
          cases hb
          exact absurd hqj (Nat.lt_irrefl _)
        · have := (hp.1 _ hb).2
          rw [← ha] at this
          exact this
        · have := (hp.1 _ ha).1
          rw [← hb] at this
          exact absurd hqj (Nat.not_lt.mpr (Nat.le_of_lt this))
        · exact ih hp.2 ha hb
    exact key hG.up h1 h2
  have d : ∀ n j, j < n → j < w → fn s j - fn s' j = 0 := by
    intro n
    induction n with
    | zero => exact fun j hj => absurd hj (Nat.not_lt_zero _)
    | succ n ih =>
      intro j hj hjw
      rcases Nat.lt_succ_iff_lt_or_eq.mp hj with hj | rfl
      · exact ih j hj hjw
      · rcases Nat.lt_trichotomy j q with hq2 | hq2 | hq2
        · rw [fn_at (r4 j hq2), fn_at (t4 j hq2)]
          rfl
        · subst hq2
          omega
        · have b1 := fn_red r3 (j := j) (by omega)
          have b2 := fn_red t3 (j := j) (by omega)
          have inS : InS M w (GF F 0) fun j => fn s j - fn s' j :=
            InS.comb 1 (-1) (.of ⟨q, s, hq, Nat.zero_le _, rfl⟩) ((e _).mpr (.of ⟨q, s', hs', Nat.zero_le _, rfl⟩)) fun j _ => .eq (by grind)
          have low := h.down j _ inS fun l hl hlw => .eq (ih l hl hlw)
          rcases h.at_ hjw low with ⟨_, z⟩ | ⟨t, ht, c, z⟩
          · exact red_zero z (by omega) (by omega)
          · obtain ⟨t', ht', dvt⟩ := h.sub hM h' e ht
            obtain ⟨tt, htt, dvt2⟩ := h'.sub hM h (fun v => (e v).symm) ht'
            rw [← h.one ht htt] at dvt2
            obtain ⟨_, _, _, _, y1, y2⟩ := h.row j t ht
            obtain ⟨_, _, _, _, y3, y4⟩ := h'.row j t' ht'
            have ey : fn t j = fn t' j := Int.dvd_antisymm (by omega) (by omega) dvt2 dvt
            have u1 := up h hq ht hq2
            have u2 := up h' hs' ht' hq2
            have dvd : fn t j ∣ fn s j - fn s' j := by
              obtain ⟨k, z⟩ := z
              rw [z]
              exact Int.dvd_add (Int.dvd_mul_left ..) (Int.dvd_trans y2 (Int.dvd_mul_right ..))
            obtain ⟨k, z⟩ := dvd
            exact red_zero (M := fn t j) ⟨k, by rw [z]; simp⟩ (by omega) (by omega)
  have : s = s' := row_ext r2 t2 fun j hj => by
    have := d (j + 1) j (Nat.lt_succ_self _) hj
    omega
  rw [this]
  exact hs'
theorem HF.unique {M : Int} (hM : 2 ≤ M) {w : Nat} {F F' : List (Nat × Row)} (h : HF M w F) (h' : HF M w F') (e : ∀ v, InS M w (GF F 0) v ↔ InS M w (GF F' 0) v) : F = F' :=
  sorted_ext (r := fun a b => a.1 < b.1 ∧ fn a.2 b.1 < fn b.2 b.1) (fun a b h1 h2 => absurd h1.1 (Nat.not_lt.mpr (Nat.le_of_lt h2.1))) h.up h'.up fun a => ⟨fun ha => h.same hM h' e a.1 a.2 ha, fun ha => h'.same hM h (fun v => (e v).symm) a.1 a.2 ha⟩
/-! the settled rows are such a form -/
theorem lessen_span {M : Int} {W n : Nat} {P : Vec → Prop} : ∀ {L : List (Nat × Row)} {r : Row}, (∀ q s, (q, s) ∈ L → s.length = W ∧ InS M n P (fn s)) → r.length = W → (InS M n P (fn (lessen M r L)) ↔ InS M n P (fn r))
  | [], r, _, _ => Iff.rfl
  | (q, s) :: L, r, hL, h1 => by
    obtain ⟨a, b⟩ := hL q s List.mem_cons_self
    have hL2 : ∀ q s, (q, s) ∈ L → s.length = W ∧ InS M n P (fn s) := fun q s h => hL q s (List.mem_cons_of_mem _ h)
    unfold lessen
    split
    · rw [lessen_span hL2 (by simp [comb, h1, a])]
      constructor
      · intro h
        exact h.comb 1 (r.getD q 0 / s.getD q 0) b fun j _ => Eqm.trans (.eq (by grind)) (((Eqm.refl M 1).mul (comb_fn (by omega) j).symm).add (.refl _ _))
      · intro h
        exact h.comb 1 (-(r.getD q 0 / s.getD q 0)) b fun j _ => (comb_fn (by omega) j)
    · exact lessen_span hL2 h1
theorem GF.mono {F : List (Nat × Row)} {a : Nat × Row} {p : Nat} {v : Vec} (h : GF F p v) : GF (a :: F) p v := by
  obtain ⟨q, s, h1, h2⟩ := h
  exact ⟨q, s, List.mem_cons_of_mem _ h1, h2⟩
/-- settled rows span what the steps do, from each place on -/
theorem settle_span {M : Int} {W n : Nat} {S : List (Option Row)} (hM : 2 ≤ M) (wf : WF M W n S) (hn : n ≤ W) : ∀ i, i ≤ n → ∀ p, n - i ≤ p → ∀ v, InS M n (GF (settle M n S i) p) v ↔ InS M n (GS S p) v
  | 0, _, p, hp, v => by
    constructor
    · exact fun h => h.mono fun u ⟨q, s, h1, _⟩ => nomatch h1
    · refine fun h => h.mono fun u ⟨q, s, h1, h2, _⟩ => ?_
      have := (List.getElem?_eq_some_iff.mp h2).1
      rw [wf.len] at this
      omega
  | i + 1, hi, p, hp, v => by
    have hlt : n - 1 - i < S.length := by rw [wf.len]; omega
    have hgD : S.getD (n - 1 - i) none = S[n - 1 - i] := by
      rw [List.getD_eq_getElem?_getD, List.getElem?_eq_getElem hlt]
      rfl
    have hS : S[n - 1 - i]? = some S[n - 1 - i] := List.getElem?_eq_getElem hlt
    have ih := settle_span hM wf hn i (by omega)
    cases e0 : S[n - 1 - i] with
    | none =>
      have eS : settle M n S (i + 1) = settle M n S i := by
        show (match S.getD (n - 1 - i) none with | none => _ | some r => _) = _
        rw [hgD, e0]
      rw [eS]
      by_cases hp2 : n - i ≤ p
      · exact ih p hp2 v
      · have hpe : p = n - 1 - i := by omega
        subst hpe
        have up : n - 1 - i + 1 = n - i := by omega
        constructor
        · intro h
          have : InS M n (GF (settle M n S i) (n - i)) v := h.mono fun u ⟨q, s, h1, h2, h3⟩ => ⟨q, s, h1, (settle_ok hM wf hn i (by omega) q s h1).1, h3⟩
          exact ((ih _ (Nat.le_refl _) v).mp this).mono fun u ⟨q, s, h1, h2⟩ => ⟨q, s, by omega, h2⟩
        · intro h
          have : InS M n (GS S (n - i)) v := h.mono fun u ⟨q, s, h1, h2, h3⟩ => ⟨q, s, by
            rcases Nat.eq_or_lt_of_le h1 with z | z
            · rw [← z, hS, e0] at h2
              cases h2
            · omega, h2, h3⟩
          exact ((ih _ (Nat.le_refl _) v).mpr this).mono fun u ⟨q, s, h1, h2, h3⟩ => ⟨q, s, h1, by omega, h3⟩
    | some r =>
      have eS : settle M n S (i + 1) = (n - 1 - i, lessen M r (settle M n S i)) :: settle M n S i := by
        show (match S.getD (n - 1 - i) none with | none => _ | some r => _) = _
        rw [hgD, e0]
      obtain ⟨rl, rr, _, _⟩ := wf.row _ _ (hS.trans (by rw [e0]))
      have hok := settle_ok hM wf hn i (by omega)
      rw [eS]
      by_cases hp2 : n - i ≤ p
      · rw [← ih p hp2 v]
        constructor
        · exact fun h => h.mono fun u ⟨q, s, h1, h2, h3⟩ => by
            rcases List.mem_cons.mp h1 with h1 | h1
            · cases h1
              omega
            · exact ⟨q, s, h1, h2, h3⟩
        · exact fun h => h.mono fun u g => g.mono
      · have hpe : p = n - 1 - i := by omega
        subst hpe
        have lsp : ∀ {P : Vec → Prop}, (∀ u, GF (settle M n S i) (n - i) u → InS M n P u) → (InS M n P (fn (lessen M r (settle M n S i))) ↔ InS M n P (fn r)) := fun {P} hP => lessen_span (W := W) (fun q s h1 => ⟨(hok q s h1).2.2.1, hP _ ⟨q, s, h1, (hok q s h1).1, rfl⟩⟩) rl
        have tail : ∀ u, GF (settle M n S i) (n - i) u → InS M n (GS S (n - 1 - i)) u := fun u g => ((ih _ (Nat.le_refl _) u).mp (.of g)).mono fun u ⟨q, s, h1, h2⟩ => ⟨q, s, by omega, h2⟩
        constructor
        · refine fun h => h.trans fun u ⟨q, s, h1, h2, h3⟩ => ?_
          rcases List.mem_cons.mp h1 with h1 | h1
          · cases h1
            rw [h3]
            exact (lsp tail).mpr (.of ⟨n - 1 - i, r, Nat.le_refl _, hS.trans (by rw [e0]), rfl⟩)
          · exact tail u ⟨q, s, h1, (hok q s h1).1, h3⟩
        · refine fun h => h.trans fun u ⟨q, s, h1, h2, h3⟩ => ?_
          rcases Nat.eq_or_lt_of_le h1 with z | z
          · subst z
            rw [hS, e0] at h2
            cases h2
            rw [h3]
            refine (lsp fun u ⟨q, s, g1, g2, g3⟩ => .of ⟨q, s, List.mem_cons_of_mem _ g1, by omega, g3⟩).mp (.of ⟨_, _, List.mem_cons_self, Nat.le_refl _, rfl⟩)
          · have : InS M n (GS S (n - i)) u := .of ⟨q, s, by omega, h2, h3⟩
            exact ((ih _ (Nat.le_refl _) u).mpr this).mono fun u ⟨q, s, g1, g2, g3⟩ => ⟨q, s, List.mem_cons_of_mem _ g1, by omega, g3⟩
/-- rows above are less than the pivots -/
theorem settle_up {M : Int} {W n : Nat} {S : List (Option Row)} (hM : 2 ≤ M) (wf : WF M W n S) (hn : n ≤ W) : ∀ i, i ≤ n → (settle M n S i).Pairwise fun a b => a.1 < b.1 ∧ fn a.2 b.1 < fn b.2 b.1
  | 0, _ => List.Pairwise.nil
  | i + 1, hi => by
    have hlt : n - 1 - i < S.length := by rw [wf.len]; omega
    have ih := settle_up hM wf hn i (by omega)
    unfold settle
    split
    · exact ih
    · rename_i r e
      rw [List.pairwise_cons]
      refine ⟨fun b hb => ?_, ih⟩
      obtain ⟨h1, h2, h3, _⟩ := settle_ok hM wf hn i (by omega) b.1 b.2 hb
      have e2 : S[n - 1 - i]? = some (some r) := by
        rw [List.getD_eq_getElem?_getD, List.getElem?_eq_getElem hlt] at e
        rw [List.getElem?_eq_getElem hlt]
        exact congrArg some e
      obtain ⟨rl, rr, _⟩ := wf.row _ _ e2
      exact ⟨by show n - 1 - i < b.1; omega, lessen_lt (by omega) (settle_lok hM wf hn (by omega)) (settle_pw hM wf hn i (by omega)) rl rr b.1 b.2 hb⟩
theorem settle_hf {M : Int} {W w : Nat} {S : List (Option Row)} (hM : 2 ≤ M) (wf : WF M W w S) (hW : W = w) (J : JJ M w S) : HF M w (settle M w S w) := by
  subst hW
  have ok := settle_ok hM wf (Nat.le_refl _) W (Nat.le_refl _)
  refine ⟨fun q s h => ?_, settle_up hM wf (Nat.le_refl _) W (Nat.le_refl _), fun p v hv hz => ?_⟩
  · obtain ⟨h1, h2, h3, h4, h5, r0, x, h6, h7, h8, h9⟩ := ok q s h
    obtain ⟨_, _, ⟨y, hy, _, yM⟩, _⟩ := wf.row q r0 h6
    rw [h7] at hy
    cases hy
    rw [fn_at h8]
    exact ⟨h2, h3, h4, h5, h9, yM⟩
  · have sp := settle_span hM wf (Nat.le_refl _) W (Nat.le_refl _)
    have low : ∀ p, p ≤ W → (∀ j, j < p → j < W → Eqm M (v j) 0) → InS M W (GS S p) v := by
      intro p
      induction p with
      | zero => exact fun _ _ => (sp 0 (by omega) v).mp hv
      | succ p ih => exact fun hp hz => InS.down wf J (by omega) (ih (by omega) fun j hj => hz j (by omega)) (hz p (by omega) (by omega))
    by_cases hp : p ≤ W
    · exact (sp p (by omega) v).mpr (low p hp hz)
    · exact .zero fun j hj => hz j (by omega) hj
/-! how many rows are spanned -/
def enumF (M : Int) (w : Nat) : List (Nat × Row) → List Row
  | [] => [List.replicate w 0]
  | (q, s) :: F => (List.range (M / fn s q).toNat).flatMap fun (c : Nat) => (enumF M w F).map fun v => addRow M v (c : Int) s
def prodF (M : Int) : List (Nat × Row) → Int
  | [] => 1
  | (q, s) :: F => M / fn s q * prodF M F
theorem sum_const {α : Type} (k : Nat) : ∀ l : List α, (l.map fun _ => k).sum = l.length * k
  | [] => by simp
  | a :: l => by rw [List.map_cons, List.sum_cons, sum_const k l, List.length_cons, Nat.add_mul]; omega
theorem enum_len {M : Int} {w : Nat} : ∀ F : List (Nat × Row), (∀ q s, (q, s) ∈ F → 0 ≤ M / fn s q) → ((enumF M w F).length : Int) = prodF M F
  | [], _ => by simp [enumF, prodF]
  | (q, s) :: F, h => by
    have ih := enum_len (w := w) F fun q s hq => h q s (List.mem_cons_of_mem _ hq)
    have h0 := h q s List.mem_cons_self
    unfold enumF prodF
    rw [List.length_flatMap]
    have e : (List.map (fun a : Nat => ((enumF M w F).map fun v => addRow M v (a : Int) s).length) (List.range (M / fn s q).toNat)) = List.map (fun _ => (enumF M w F).length) (List.range (M / fn s q).toNat) := List.map_congr_left fun a _ => by simp
    rw [e, sum_const, List.length_range, Int.natCast_mul, Int.toNat_of_nonneg h0, ih]
theorem size_prod {M : Int} : ∀ (F : List (Nat × Row)) (z : Int), (∀ q s, (q, s) ∈ F → pivotOf s = fn s q) → (F.map (·.2)).foldl (fun z r => z * (M / pivotOf r)) z = z * prodF M F
  | [], z, _ => by simp [prodF]
  | (q, s) :: F, z, h => by
    rw [List.map_cons, List.foldl_cons, size_prod F _ fun q s hq => h q s (List.mem_cons_of_mem _ hq)]
    show z * (M / pivotOf s) * _ = _
    rw [h q s List.mem_cons_self, Int.mul_assoc]
    rfl
theorem GF.vanish {M : Int} {w b : Nat} {F : List (Nat × Row)} (hF : ∀ q s, (q, s) ∈ F → b < q ∧ ∀ j, j < q → s[j]? = some 0) {v : Vec} (h : InS M w (GF F 0) v) : ∀ j, j ≤ b → j < w → Eqm M (v j) 0 := by
  induction h with
  | zero h0 => exact fun j _ hj => h0 j hj
  | add c g _ f ih =>
    intro j hj hjw
    obtain ⟨q, s, h1, _, rfl⟩ := g
    have z := (hF q s h1).2 j (by have := (hF q s h1).1; omega)
    refine (f j hjw).trans ?_
    rw [fn_at z, Int.mul_zero, Int.add_zero]
    exact ih j hj hjw
theorem HF.behind {M : Int} {w : Nat} {a : Nat × Row} {F : List (Nat × Row)} (h : HF M w (a :: F)) : ∀ q s, (q, s) ∈ F → a.1 < q ∧ ∀ j, j < q → s[j]? = some 0 := fun q s hq =>
  ⟨((List.pairwise_cons.mp h.up).1 _ hq).1, (h.row q s (List.mem_cons_of_mem _ hq)).2.2.2.1⟩
theorem HF.later {M : Int} {w : Nat} {a : Nat × Row} {F : List (Nat × Row)} (h : HF M w (a :: F)) {v : Vec} (hv : InS M w (GF (a :: F) 0) v) {p : Nat} (hp : a.1 < p) (hz : ∀ j, j < p → j < w → Eqm M (v j) 0) : InS M w (GF F p) v :=
  (h.down p v hv hz).mono fun u ⟨q, s, h1, h2, h3⟩ => ⟨q, s, by
    rcases List.mem_cons.mp h1 with e | e
    · rw [← e] at hp
      exact absurd hp (Nat.not_lt.mpr h2)
    · exact e, h2, h3⟩
theorem HF.tail {M : Int} {w : Nat} {a : Nat × Row} {F : List (Nat × Row)} (h : HF M w (a :: F)) : HF M w F := by
  refine ⟨fun q s hq => h.row q s (List.mem_cons_of_mem _ hq), (List.pairwise_cons.mp h.up).2, fun p v hv hz => ?_⟩
  have z1 := GF.vanish h.behind hv
  have := h.later (hv.mono fun u g => g.mono) (p := max p (a.1 + 1)) (by omega) fun j hj hjw => by
    by_cases e : j < p
    · exact hz j e hjw
    · exact z1 j (by omega) hjw
  exact this.mono fun u ⟨q, s, h1, h2, h3⟩ => ⟨q, s, h1, by omega, h3⟩
theorem GF.split {M : Int} {w q : Nat} {s : Row} {F : List (Nat × Row)} {v : Vec} (h : InS M w (GF ((q, s) :: F) 0) v) : ∃ u c, InS M w (GF F 0) u ∧ ∀ j, j < w → Eqm M (v j) (u j + c * fn s j) := by
  induction h with
  | zero h0 => exact ⟨fun _ => 0, 0, .zero fun _ _ => .refl _ _, fun j hj => (h0 j hj).trans (.eq (by simp))⟩
  | add c g _ f ih =>
    obtain ⟨u, d, h1, h2⟩ := ih
    obtain ⟨q', t, h3, h4, rfl⟩ := g
    rcases List.mem_cons.mp h3 with e | e
    · cases e
      exact ⟨u, d + c, h1, fun j hj => (f j hj).trans (((h2 j hj).add (.refl _ _)).trans (.eq (by grind)))⟩
    · exact ⟨fun j => u j + c * fn t j, d, .add c ⟨q', t, e, h4, rfl⟩ h1 fun _ _ => .refl _ _, fun j hj => (f j hj).trans (((h2 j hj).add (.refl _ _)).trans (.eq (by grind)))⟩
theorem enum_mem {M : Int} (hM : 2 ≤ M) {w : Nat} : ∀ {F : List (Nat × Row)}, HF M w F → ∀ v, v ∈ enumF M w F ↔ v.length = w ∧ RRed M v ∧ InS M w (GF F 0) (fn v)
  | [], _, v => by
    unfold enumF
    constructor
    · intro h
      rw [List.mem_singleton.mp h]
      exact ⟨by simp, fun x hx => by rw [List.eq_of_mem_replicate hx]; omega, .zero fun j _ => .eq (zeros_fn w j)⟩
    · rintro ⟨h1, h2, h3⟩
      refine List.mem_singleton.mpr (row_eqm h1 (by simp) h2 (fun x hx => by rw [List.eq_of_mem_replicate hx]; omega) fun j hj => ?_)
      rw [zeros_fn]
      cases h3 with
      | zero h0 => exact h0 j hj
      | add _ g _ _ => exact nomatch g.choose_spec.choose_spec.1
  | (q, s) :: F, h, v => by
    have ih := enum_mem hM h.tail
    obtain ⟨r1, r2, r3, r4, r5, r6⟩ := h.row q s List.mem_cons_self
    have hdiv : fn s q * (M / fn s q) = M := Int.mul_ediv_cancel' r6
    have hn : 1 ≤ M / fn s q := Int.le_ediv_of_mul_le (by omega) (by have := Int.le_of_dvd (by omega) r6; omega)
    unfold enumF
    rw [List.mem_flatMap]
    constructor
    · rintro ⟨c, hc, hv⟩
      obtain ⟨u, hu, rfl⟩ := List.mem_map.mp hv
      obtain ⟨u1, u2, u3⟩ := (ih u).mp hu
      refine ⟨by simp [addRow, u1, r2], addRow_red (by omega) _ _ _, .add (c : Int) ⟨q, s, List.mem_cons_self, Nat.zero_le _, rfl⟩ (u3.mono fun x g => g.mono) fun j hj => ?_⟩
      rw [addRow_at (by omega) (by omega)]
      exact Eqm.mod _ _
    · rintro ⟨h1, h2, h3⟩
      obtain ⟨u, c, g1, g2⟩ := GF.split h3
      have ns : InS M w (GF F 0) fun j => M / fn s q * fn s j := by
        refine (h.later (p := q + 1) (InS.scale (M / fn s q) (.of ⟨q, s, List.mem_cons_self, Nat.zero_le _, rfl⟩) fun _ _ => .refl _ _) (Nat.lt_succ_self _) fun j hj hjw => ?_).mono fun x ⟨a, b, c1, c2, c3⟩ => ⟨a, b, c1, Nat.zero_le _, c3⟩
        rcases Nat.lt_succ_iff_lt_or_eq.mp hj with e | e
        · rw [fn_at (r4 j e), Int.mul_zero]
          exact .refl _ _
        · subst e
          rw [Int.mul_comm, hdiv]
          exact ⟨1, by simp⟩
      have hc1 := Int.emod_nonneg c (show M / fn s q ≠ 0 by omega)
      have hc2 := Int.emod_lt_of_pos c (show 0 < M / fn s q by omega)
      have hce := Int.emod_add_mul_ediv c (M / fn s q)
      have hu' : InS M w (GF F 0) fun j => u j + c / (M / fn s q) * (M / fn s q * fn s j) := g1.comb 1 (c / (M / fn s q)) ns fun j _ => .eq (by simp)
      obtain ⟨m1, m2, m3⟩ := rowMod_ok (show 1 ≤ M by omega) w fun j => u j + c / (M / fn s q) * (M / fn s q * fn s j)
      refine ⟨(c % (M / fn s q)).toNat, List.mem_range.mpr (by omega), List.mem_map.mpr ⟨rowMod M w fun j => u j + c / (M / fn s q) * (M / fn s q * fn s j), (ih _).mpr ⟨m1, m2, hu'.congr fun j hj => by rw [m3 j hj]; exact Eqm.mod _ _⟩, ?_⟩⟩
      refine row_eqm (w := w) (by simp [addRow, m1, r2]) h1 (addRow_red (by omega) _ _ _) h2 fun j hj => ?_
      rw [addRow_at (by omega) (by omega), m3 j hj, Int.toNat_of_nonneg hc1]
      refine (Eqm.mod _ _).trans (((Eqm.mod _ _).add (.refl _ _)).trans (Eqm.trans (.eq ?_) (g2 j hj).symm))
      have : c * fn s j = (c % (M / fn s q) + M / fn s q * (c / (M / fn s q))) * fn s j := by rw [hce]
      rw [this]
      grind
theorem enum_nodup {M : Int} (hM : 2 ≤ M) {w : Nat} : ∀ {F : List (Nat × Row)}, HF M w F → (enumF M w F).Nodup
  | [], _ => by simp [enumF]
  | (q, s) :: F, h => by
    have ih := enum_nodup hM h.tail
    have im := enum_mem hM h.tail
    obtain ⟨r1, r2, r3, r4, r5, r6⟩ := h.row q s List.mem_cons_self
    have hdiv : fn s q * (M / fn s q) = M := Int.mul_ediv_cancel' r6
    unfold enumF
    refine List.pairwise_flatMap.mpr ⟨fun c _ => ?_, ?_⟩
    · rw [List.pairwise_map]
      refine List.Pairwise.imp_of_mem (fun {a b} ha hb hab z => hab ?_) ih
      obtain ⟨a1, a2, _⟩ := (im a).mp ha
      obtain ⟨b1, b2, _⟩ := (im b).mp hb
      refine row_eqm (w := w) a1 b1 a2 b2 fun j hj => ?_
      have e : fn (addRow M a (c : Int) s) j = fn (addRow M b (c : Int) s) j := by rw [z]
      rw [addRow_at (by omega) (by omega), addRow_at (by omega) (by omega)] at e
      obtain ⟨k, e⟩ := Eqm.of e
      exact ⟨k, by omega⟩
    · refine List.Pairwise.imp_of_mem (fun {a b} ha hb hab x hx y hy z => ?_) (List.pairwise_lt_range (n := (M / fn s q).toNat))
      obtain ⟨u, hu, rfl⟩ := List.mem_map.mp hx
      obtain ⟨u', hu', rfl⟩ := List.mem_map.mp hy
      obtain ⟨a1, a2, a3⟩ := (im u).mp hu
      obtain ⟨b1, b2, b3⟩ := (im u').mp hu'
      have z1 : fn u q = 0 := red_zero (GF.vanish h.behind a3 q (Nat.le_refl _) r1) (by have := fn_red a2 (j := q) (by omega); omega) (by have := fn_red a2 (j := q) (by omega); omega)
      have z2 : fn u' q = 0 := red_zero (GF.vanish h.behind b3 q (Nat.le_refl _) r1) (by have := fn_red b2 (j := q) (by omega); omega) (by have := fn_red b2 (j := q) (by omega); omega)
      have e : fn (addRow M u (a : Int) s) q = fn (addRow M u' (b : Int) s) q := by rw [z]
      rw [addRow_at (by omega) (by omega), addRow_at (by omega) (by omega), z1, z2] at e
      have la : (a : Int) * fn s q < M := by
        have h1 : (a : Int) + 1 ≤ M / fn s q := by have := List.mem_range.mp ha; omega
        have h2 : fn s q * ((a : Int) + 1) ≤ fn s q * (M / fn s q) := Int.mul_le_mul_of_nonneg_left h1 (by omega)
        rw [hdiv, Int.mul_add, Int.mul_comm] at h2
        omega
      have lb : (b : Int) * fn s q < M := by
        have h1 : (b : Int) + 1 ≤ M / fn s q := by have := List.mem_range.mp hb; omega
        have h2 : fn s q * ((b : Int) + 1) ≤ fn s q * (M / fn s q) := Int.mul_le_mul_of_nonneg_left h1 (by omega)
        rw [hdiv, Int.mul_add, Int.mul_comm] at h2
        omega
      rw [Int.zero_add, Int.zero_add, Int.emod_eq_of_lt (Int.mul_nonneg (by omega) (by omega)) la, Int.emod_eq_of_lt (Int.mul_nonneg (by omega) (by omega)) lb] at e
      have := Int.eq_of_mul_eq_mul_right (by omega) e
      omega
/-- two lists of the same rows, each once, are of one length -/
theorem same_length {α : Type} {L L' : List α} (h : L.Nodup) (h' : L'.Nodup) (e : ∀ a, a ∈ L ↔ a ∈ L') : L.length = L'.length := ((List.perm_ext_iff_of_nodup h h').mpr e).length_eq
theorem hf_size {M : Int} (hM : 2 ≤ M) {w : Nat} {F : List (Nat × Row)} (h : HF M w F) {L : List Row} (hL : L.Nodup) (e : ∀ v, v ∈ L ↔ v.length = w ∧ RRed M v ∧ InS M w (GF F 0) (fn v)) : sizeF M (F.map (·.2)) = (L.length : Int) := by
  have piv : ∀ q s, (q, s) ∈ F → pivotOf s = fn s q := fun q s hq => by
    obtain ⟨r1, r2, r3, r4, r5, r6⟩ := h.row q s hq
    exact (pivot_at r4 (at_fn (by omega)) (by omega)).1
  unfold sizeF
  rw [size_prod F 1 piv, Int.one_mul, ← enum_len (w := w) F fun q s hq => Int.ediv_nonneg (by omega) (by have := (h.row q s hq).2.2.2.2.1; omega)]
  congr 1
  exact same_length (enum_nodup hM h) hL fun v => (enum_mem hM h v).trans (e v).symm
end Wk

namespace Wk
open PySem L2
theorem cr_sortedSetW {X : Cx} {w0 : World} (hW : X.w = w0) (hc : X.calm = true) : CallR X (.builtin "sorted") (rSortedSet w0) := hW ▸ cr_sortedSet hc
theorem cr_setIW {X : Cx} {K : PySem.W.Frag} {w0 : World} (hK : X.K = K) (hW : X.w = w0) (hc : X.calm = true) : CallR X (.type "set") (rSetI K w0) := hK ▸ hW ▸ cr_setI hc
def placeOf (r : Row) : Nat := ((List.range r.length).filter fun j => decide (fn r j ≠ 0)).headD r.length
def spPlace (K : PySem.W.Frag) : Sp := fun vs H Q _ => ∃ (a : Addr) (r : Row), vs = [.ref a] ∧ RowAt K H a r ∧ r.length ≤ 400 ∧ ∀ H', Same H H' → Q (.int (placeOf r : Int)) H'
theorem place_at {r : Row} {q : Nat} (hz : ∀ j, j < q → r[j]? = some 0) (hq : q < r.length) (h0 : fn r q ≠ 0) : placeOf r = q := by
  unfold placeOf
  have e : List.range r.length = List.range q ++ (List.range (r.length - q)).map (q + ·) := by
    rw [← List.range_add]
    congr 1
    omega
  have e2 : (List.range q).filter (fun j => decide (fn r j ≠ 0)) = [] := List.filter_eq_nil_iff.mpr fun j hj => by
    rw [fn_at (hz j (List.mem_range.mp hj))]
    simp
  have e3 : List.range (r.length - q) = 0 :: (List.range (r.length - q - 1)).map (· + 1) := by
    rw [show r.length - q = r.length - q - 1 + 1 by omega, List.range_succ_eq_map]
    rfl
  rw [e, List.filter_append, e2, List.nil_append, e3, List.map_cons, List.filter_cons_of_pos (by simpa using h0)]
  rfl
theorem place_ge {r : Row} {p : Nat} (hp : p ≤ r.length) : p ≤ placeOf r ↔ ∀ j, j < p → fn r j = 0 := by
  by_cases e : ∃ q, q < r.length ∧ fn r q ≠ 0 ∧ ∀ j, j < q → fn r j = 0
  · obtain ⟨q, q1, q2, q3⟩ := e
    rw [place_at (fun j hj => by rw [at_fn (by omega), q3 j hj]) q1 q2]
    exact ⟨fun h j hj => q3 j (by omega), fun h => Nat.le_of_not_lt fun z => q2 (h q z)⟩
  · have z : ∀ n, ∀ j, j < n → j < r.length → fn r j = 0 := by
      intro n
      induction n with
      | zero => exact fun j hj => absurd hj (Nat.not_lt_zero _)
      | succ n ih =>
        intro j hj hjl
        rcases Nat.lt_succ_iff_lt_or_eq.mp hj with hj | rfl
        · exact ih j hj hjl
        · exact Classical.byContradiction fun g => e ⟨j, hjl, g, fun l hl => ih l hl (by omega)⟩
    have : placeOf r = r.length := by
      unfold placeOf
      rw [List.filter_eq_nil_iff.mpr fun j hj => by rw [z (j + 1) j (Nat.lt_succ_self _) (List.mem_range.mp hj)]; simp]
      rfl
    rw [this]
    exact ⟨fun h j hj => z (j + 1) j (Nat.lt_succ_self _) (by omega), fun _ => hp⟩
theorem HF.few {M : Int} {w : Nat} {F : List (Nat × Row)} (h : HF M w F) : F.length ≤ w := by
  have key : ∀ {G : List (Nat × Row)} {b : Nat}, G.Pairwise (fun a b => a.1 < b.1 ∧ fn a.2 b.1 < fn b.2 b.1) → (∀ q s, (q, s) ∈ G → b ≤ q ∧ q < w) → G.length + b ≤ max w b := by
    intro G
    induction G with
    | nil => exact fun _ _ => by simp; omega
    | cons a G ih =>
      intro b hp hq
      rw [List.pairwise_cons] at hp
      have h1 := hq a.1 a.2 List.mem_cons_self
      have h2 := ih (b := a.1 + 1) hp.2 fun q s hs => ⟨(hp.1 _ hs).1, (hq q s (List.mem_cons_of_mem _ hs)).2⟩
      rw [List.length_cons]
      omega
  have := key (b := 0) h.up fun q s hs => ⟨Nat.zero_le _, (h.row q s hs).1⟩
  omega
theorem GF.low {M : Int} {w p : Nat} {F : List (Nat × Row)} (h : HF M w F) {v : Vec} (hv : InS M w (GF F p) v) : ∀ j, j < p → j < w → Eqm M (v j) 0 := by
  induction hv with
  | zero h0 => exact fun j _ hj => h0 j hj
  | add c g _ f ih =>
    intro j hj hjw
    obtain ⟨q, s, h1, h2, rfl⟩ := g
    have z := (h.row q s h1).2.2.2.1 j (by omega)
    refine (f j hjw).trans ?_
    rw [fn_at z, Int.mul_zero, Int.add_zero]
    exact ih j hj hjw
theorem HF.laterA {M : Int} {w ph : Nat} {F : List (Nat × Row)} (h : HF M w F) : ∀ x ∈ (F.filter fun b => decide (ph ≤ placeOf b.2)).map (·.2), x.length = w ∧ RRed M x := fun x hx => by
  obtain ⟨b, hb, rfl⟩ := List.mem_map.mp hx
  obtain ⟨r1, r2, r3, _⟩ := h.row b.1 b.2 (List.mem_filter.mp hb).1
  exact ⟨r2, r3⟩
theorem later_len {M : Int} (hM : 2 ≤ M) {w ph : Nat} {F : List (Nat × Row)} {L : List Row} (h : HF M w F) (hL : L.Nodup) (hLm : ∀ v, v ∈ L ↔ v.length = w ∧ RRed M v ∧ InS M w (GF F 0) (fn v)) (hp : ph ≤ w) :
    (spanD M w ((F.filter fun b => decide (ph ≤ placeOf b.2)).map (·.2)) ((F.filter fun b => decide (ph ≤ placeOf b.2)).map (·.2)).length).length = (L.filter fun r => decide (ph ≤ placeOf r)).length := by
  refine same_length (spanD_nodup _ _ _ _) (hL.sublist List.filter_sublist) fun v => ?_
  rw [spanD_iff hM fun x hx => (h.laterA x hx).1, List.mem_filter, hLm, decide_eq_true_iff]
  have e : ∀ u, RW ((F.filter fun b => decide (ph ≤ placeOf b.2)).map (·.2)) u ↔ GF F ph u := fun u => by
    have pl : ∀ q s, (q, s) ∈ F → placeOf s = q := fun q s hq => by
      obtain ⟨r1, r2, r3, r4, r5, _⟩ := h.row q s hq
      exact place_at r4 (by omega) (by omega)
    constructor
    · rintro ⟨x, hx, rfl⟩
      obtain ⟨b, hb, rfl⟩ := List.mem_map.mp hx
      obtain ⟨hb, hc⟩ := List.mem_filter.mp hb
      have hc := of_decide_eq_true hc
      rw [pl b.1 b.2 hb] at hc
      exact ⟨b.1, b.2, hb, hc, rfl⟩
    · rintro ⟨q, s, hq, hpq, rfl⟩
      exact ⟨s, List.mem_map.mpr ⟨(q, s), List.mem_filter.mpr ⟨hq, decide_eq_true (by rw [pl q s hq]; exact hpq)⟩, rfl⟩, rfl⟩
  constructor
  · rintro ⟨h1, h2, h3⟩
    have g : InS M w (GF F ph) (fn v) := h3.mono fun u g => (e u).mp g
    refine ⟨⟨h1, h2, g.mono fun u ⟨q, s, a, b, c⟩ => ⟨q, s, a, Nat.zero_le _, c⟩⟩, (place_ge (by omega)).mpr fun j hj => ?_⟩
    have := fn_red h2 (j := j) (by omega)
    exact red_zero (GF.low h g j hj (by omega)) (by omega) (by omega)
  · rintro ⟨⟨h1, h2, h3⟩, h4⟩
    exact ⟨h1, h2, (h.down ph _ h3 fun j hj _ => .eq ((place_ge (by omega)).mp h4 j hj)).mono fun u g => (e u).mpr g⟩
def spIsHowell (K : PySem.W.Frag) : Sp := fun vs H Q _ => ∃ (M : Int) (a d : Addr) (w : Nat) (F : List (Nat × Row)) (L : List Row), vs = [.int M, .ref a, .ref d, .int (w : Int)] ∧ 2 ≤ M ∧ M ≤ 12 ∧ MatAt K H a (F.map (·.2)) ∧ HF M w F ∧ H d = some (.dT (dictOf L)) ∧ L.Nodup ∧ (∀ v, v ∈ L ↔ v.length = w ∧ RRed M v ∧ InS M w (GF F 0) (fn v)) ∧ 1 ≤ w ∧ w ≤ 6 ∧ L.length ≤ 1000000 ∧ ∀ H', Same H H' → Q (.bl true) H'
section
variable {P : Program} {w0 : World} {K : PySem.W.Frag} {mg : Str → Option Value} {base : Heap}
theorem ok_place {f : Addr} {fd : FuncData} (F : Fun K "_law_place" "_law_place" s_law_place f fd) (T : TxtL mg) : FnOk P w0 K mg base CX0 1 f fd ["_law_row"] (spPlace K) := by
  refine F.ok sc_law_place (fun vs H Q E h => ?_) (fun cdv A outer s H vs Q E hr h => ?_)
  · obtain ⟨a, r, rfl, _⟩ := h
    rfl
  · obtain ⟨a, r, rfl, ha, lr, k⟩ := h
    refine ⟨_, (pss_cons (ps_setLc (i := 1) (own := [("_law_at", 2)]) (g := gName 2) rfl sc_law_place.nd rfl rfl (sw_true rfl rfl rfl (by decide +kernel)) (pi_range1 rfl T.f_range (pa_cons (pe_callB call_len_seq rfl T.f_len PySem.boot_len (pa_cons (pv 0) pa_nil)) pa_nil)) (blkOk_by (N := ["_law_row", "_law_places", "_law_at"]) (sc := defScope s_law_place) (by decide +kernel)) (fun _ _ _ _ _ => (pg_name (i := 2) sc_law_place.nd rfl (Or.inl rfl))) (fun _ _ _ _ _ => (pts_one (pt_cmpR op_ne (pe_ix (ix_tupK (K := K) rfl) (pv 0) (pv 2) (fun _ _ => rfl)) pe_int (nomark _)))) (fun _ _ _ _ _ => (pv 2)))
        (pss_one (ps_ret (pe_ifExp (pt_cmpR (op_neD hr.units) (pv 1) (pe_lst pa_nil) (nomark _)) (pe_ix ix_list (pv 1) pe_int (fun _ _ => rfl)) (pe_callB call_len_seq rfl T.f_len PySem.boot_len (pa_cons (pv 0) pa_nil)))))), ?_⟩
    have hl : (r.map V.int).length = r.length := by simp
    refine ⟨_, rfl, a, _, rfl, .inr ha, (r.length : Int), by rw [hl], by omega, by omega, fun D hD => lc_fil (walk_range (lo := 0) (n := r.length)) hD (by omega) (List.range r.length) (by simp) (fun j => decide (fn r j ≠ 0)) (fun j => .int (j : Int)) (fun _ _ => trivial) ?_ ?_⟩
    · rintro i j v H3 H3' Fn Nn hi yes no sm ⟨rfl, rfl⟩
      have hir : i < r.length := by
        have := (List.getElem?_eq_some_iff.mp hi).1
        simpa using this
      have : j = i := by
        rw [List.getElem?_range hir] at hi
        cases hi
        rfl
      subst this
      have hrN : (r.map V.int)[j]? = some (.int (fn r j)) := by rw [List.getElem?_map, at_fn hir]; rfl
      have e0 : (0 + (j : Int)) = (j : Int) := by omega
      refine ⟨rfl, _, rfl, _, rfl, a, _, (j : Int), _, rfl, congrArg V.int e0, SqT.same ha sm, atI_nat hrN, rfl, _, rfl, ?_⟩
      by_cases h0 : fn r j = 0
      · exact iteNS (show V.int (fn r j) = V.int 0 by rw [h0]) (no _ (fun _ _ e => e) (by simp [h0]))
      · refine iteNN (fun z => h0 (by have z : V.int (fn r j) = V.int 0 := z; injection z)) ⟨_, rfl, ?_⟩
        show Fn (V.int (0 + (j : Int))) _
        rw [e0]
        exact yes _ (fun _ _ e => e) (by simp [h0])
    · intro H3 g3 s3
      have hmap : ((List.range r.length).filter fun j => decide (fn r j ≠ 0)).map (fun j : Nat => V.int (j : Int)) = (((List.range r.length).filter fun j => decide (fn r j ≠ 0)).map fun j : Nat => (j : Int)).map V.int := by rw [List.map_map]; rfl
      have hp : placeOf r = ((List.range r.length).filter fun j => decide (fn r j ≠ 0)).headD r.length := rfl
      generalize (List.range r.length).filter (fun j => decide (fn r j ≠ 0)) = L at *
      rw [hmap] at g3
      refine ⟨_, rfl, Nat.zero_le _, fun l nl => ⟨_, _, lst_dp (SqL.of (same_upd nl _ _ g3)), lst_dp (ns := []) (SqL.of upd_same), dL_shaped _, dL_shaped _, ?_⟩⟩
      have s4 := same_trans s3 (same_upd (o := .lst []) nl)
      rw [dL_eqv]
      cases L with
      | nil =>
        refine ⟨false, by simp, iteF ?_⟩
        refine ⟨_, rfl, a, _, rfl, .inr (SqT.same ha s4), ?_⟩
        rw [hl]
        have := k _ s4
        rw [hp] at this
        exact this
      | cons j L =>
        refine ⟨true, by simp, iteT ?_⟩
        refine ⟨_, rfl, D, _, ((0 : Nat) : Int), .int (j : Int), rfl, rfl, SqL.of (same_upd nl _ _ g3), atI_nat (j := 0) rfl, ?_⟩
        have := k _ s4
        rw [hp] at this
        exact this
theorem ok_is_howell {f fP fS : Addr} {fd fdP fdS : FuncData} (F : Fun K "_law_is_howell" "_law_is_howell" s_law_is_howell f fd) (T : TxtL mg) (fso : mg "sorted" = none) (fse : mg "set" = none) (fan : mg "any" = none)
    (G__law_place : FnOk P w0 K mg base CX0 1 fP fdP ["_law_row"] (spPlace K)) (g__law_place : mg "_law_place" = some (.ref fP)) (kp__law_place : PySem.W.keepIn K (.ref fP) = true) (b__law_place : Binds K fdP ["_law_row"] [])
    (G__law_span : FnOk P w0 K mg base CX0 1 fS fdS ["_law_modulus", "_law_rows", "_law_width"] (spSpan K)) (g__law_span : mg "_law_span" = some (.ref fS)) (kp__law_span : PySem.W.keepIn K (.ref fS) = true) (b__law_span : Binds K fdS ["_law_modulus", "_law_rows", "_law_width"] []) :
    FnOk P w0 K mg base CX0 2 f fd ["_law_modulus", "_law_form", "_law_span_here", "_law_width"] (spIsHowell K) := by
  refine F.ok sc_law_is_howell (fun vs H Q E h => ?_) (fun cdv A outer s H vs Q E hr h => ?_)
  · obtain ⟨M, a, d, w, F, L, rfl, _⟩ := h
    rfl
  · obtain ⟨M, a, d, w, Fm, L, rfl, hM, hM2, hA, hF, hd, hL, hLm, w1, w6, hLn, k⟩ := h
    have hu := hu_of hr
    refine ⟨_, (pss_cons (ps_if (PW.pt (pw_or (pt_not (pt_val (pe_callB (call_isiK (K := K) rfl) rfl T.f_isinstance (by decide +kernel) (pa_cons (pv 1) (pa_cons (pe_bltn (v := .ty "tuple") rfl T.f_tuple (by decide +kernel) rfl) pa_nil))))) (pw_or1 (pt_not (pt_val (pe_callB (cr_all rfl) rfl T.f_all (by decide +kernel) (pa_cons (pe_lc (own := [("_law_row", 9)]) (g := gName 9) rfl sc_law_is_howell.nd (pi_tup (pv 1)) (blkOk_by (N := ["_law_modulus", "_law_form", "_law_span_here", "_law_width", "_law_places", "_law_at", "_law_pivot", "_law_place_here", "_law_later", "_law_row"]) (sc := defScope s_law_is_howell) (by decide +kernel)) (fun _ _ _ _ _ => (pg_name (i := 9) sc_law_is_howell.nd rfl (Or.inl rfl))) (fun _ _ _ _ _ => pts_nil) (fun _ _ _ _ _ => (pe_and (pe_callB (call_isiK (K := K) rfl) rfl T.f_isinstance (by decide +kernel) (pa_cons (pv 9) (pa_cons (pe_bltn (v := .ty "tuple") rfl T.f_tuple (by decide +kernel) rfl) pa_nil))) (pe_one (pe_cmpR op_eq (pe_callB (call_lenK (K := K) rfl) rfl T.f_len PySem.boot_len (pa_cons (pv 9) pa_nil)) (pv 3) (nomark _)))))) pa_nil))))))) (pss_one (ps_ret pe_bl)) pss_nil)
        (pss_cons (ps_set (i := 4) sc_law_is_howell.nd rfl (Or.inr rfl) (pe_lc (own := [("_law_row", 9)]) (g := gName 9) rfl sc_law_is_howell.nd (pi_tup (pv 1)) (blkOk_by (N := ["_law_modulus", "_law_form", "_law_span_here", "_law_width", "_law_places", "_law_at", "_law_pivot", "_law_place_here", "_law_later", "_law_row"]) (sc := defScope s_law_is_howell) (by decide +kernel)) (fun _ _ _ _ _ => (pg_name (i := 9) sc_law_is_howell.nd rfl (Or.inl rfl))) (fun _ _ _ _ _ => pts_nil) (fun _ _ _ _ _ => (pe_call G__law_place (hr.mono (by decide)) rfl g__law_place kp__law_place b__law_place .nil pass0 (pa_cons (pv 9) pa_nil)))))
        (pss_cons (ps_if (PW.pt (pw_or (pt_cmpR (op_neD hr.units) (pv 4) (pe_callB (cr_sortedSetW (w0 := w0) rfl rfl) rfl fso (by decide +kernel) (pa_cons (pe_callTy (cr_setIW (K := K) (w0 := w0) rfl rfl rfl) rfl fse (by decide +kernel) (pa_cons (pv 4) pa_nil)) pa_nil)) (nomark _)) (pw_or (pt_cmpR op_in_seq (pv 3) (pv 4) rfl) (pw_or1 (pt_val (pe_callB (cr_any rfl) rfl fan (by decide +kernel) (pa_cons (pe_lc (own := [("_law_row", 9)]) (g := gName 9) rfl sc_law_is_howell.nd (pi_tup (pv 1)) (blkOk_by (N := ["_law_modulus", "_law_form", "_law_span_here", "_law_width", "_law_places", "_law_at", "_law_pivot", "_law_place_here", "_law_later", "_law_row"]) (sc := defScope s_law_is_howell) (by decide +kernel)) (fun _ _ _ _ _ => (pg_name (i := 9) sc_law_is_howell.nd rfl (Or.inl rfl))) (fun _ _ _ _ _ => pts_nil) (fun _ _ _ _ _ => (pe_cmp (pc_dnotinS (K := K) rfl hu (pv 9) (pv 2)) rfl))) pa_nil))))))) (pss_one (ps_ret pe_bl)) pss_nil)
        (pss_cons (ps_for PassesOwn.never rfl (pi_range1 rfl T.f_range (pa_cons (pe_callB call_len_seq rfl T.f_len PySem.boot_len (pa_cons (pv 1) pa_nil)) pa_nil)) (pg_name (i := 5) sc_law_is_howell.nd rfl (Or.inr rfl)) (pss_cons (ps_set (i := 6) sc_law_is_howell.nd rfl (Or.inr rfl) (pe_ix ix_tup (pe_ix ix_tup (pv 1) (pv 5) (fun _ _ => rfl)) (pe_ix ix_list (pv 4) (pv 5) (fun _ _ => rfl)) (fun _ _ => rfl)))
        (pss_one (ps_if (PW.pt (pw_or (pt_cmpR op_ne (pe_op op_modN (pe_callTy call_int1 rfl T.f_int (by decide +kernel) (pa_cons (pv 0) pa_nil)) (pv 6)) pe_int (nomark _)) (pw_or1 (pt_val (pe_callB (cr_any rfl) rfl fan (by decide +kernel) (pa_cons (pe_lc (own := [("_law_row", 9)]) (g := gName 9) rfl sc_law_is_howell.nd (pi_tup (pe_slice (sl_tupAK (K := K) rfl) (pv 1) po_none (po_some (pv 5)))) (blkOk_by (N := ["_law_modulus", "_law_form", "_law_span_here", "_law_width", "_law_places", "_law_at", "_law_pivot", "_law_place_here", "_law_later", "_law_row"]) (sc := defScope s_law_is_howell) (by decide +kernel)) (fun _ _ _ _ _ => (pg_name (i := 9) sc_law_is_howell.nd rfl (Or.inl rfl))) (fun _ _ _ _ _ => pts_nil) (fun _ _ _ _ _ => (pe_cmpR op_ge (pe_ix (ix_tupK (K := K) rfl) (pv 9) (pe_ix (ix_listK (K := K) rfl) (pv 4) (pv 5) (fun _ _ => rfl)) (fun _ _ => rfl)) (pv 6) (nomark _)))) pa_nil)))))) (pss_one (ps_ret pe_bl)) pss_nil))))
        (pss_cons (ps_for PassesOwn.never rfl (pi_range1 rfl T.f_range (pa_cons (pe_op op_add (pv 3) pe_int) pa_nil)) (pg_name (i := 7) sc_law_is_howell.nd rfl (Or.inr rfl)) (pss_cons (ps_setLc (i := 8) (own := [("_law_row", 9)]) (g := gName 9) rfl sc_law_is_howell.nd rfl rfl (sw_true rfl rfl rfl (by decide +kernel)) (pi_tup (pv 1)) (blkOk_by (N := ["_law_modulus", "_law_form", "_law_span_here", "_law_width", "_law_places", "_law_at", "_law_pivot", "_law_place_here", "_law_later", "_law_row"]) (sc := defScope s_law_is_howell) (by decide +kernel)) (fun _ _ _ _ _ => (pg_name (i := 9) sc_law_is_howell.nd rfl (Or.inl rfl))) (fun _ _ _ _ _ => (pts_one (pt_cmpR op_ge (pe_call G__law_place (hr.mono (by decide)) rfl g__law_place kp__law_place b__law_place .nil pass0 (pa_cons (pv 9) pa_nil)) (pv 7) (nomark _)))) (fun _ _ _ _ _ => (pv 9)))
        (pss_one (ps_if (pt_cmpR op_ne (pe_callB call_len_dT rfl T.f_len PySem.boot_len (pa_cons (pe_call G__law_span (hr.mono (by decide)) rfl g__law_span kp__law_span b__law_span .nil pass0 (pa_cons (pv 0) (pa_cons (pv 8) (pa_cons (pv 3) pa_nil)))) pa_nil)) (pe_callB call_len_seq rfl T.f_len PySem.boot_len (pa_cons (pe_lock (pe_lc (own := [("_law_row", 9)]) (g := gName 9) rfl sc_law_is_howell.nd (pi_keys (pv 2)) (blkOk_by (N := ["_law_modulus", "_law_form", "_law_span_here", "_law_width", "_law_places", "_law_at", "_law_pivot", "_law_place_here", "_law_later", "_law_row"]) (sc := defScope s_law_is_howell) (by decide +kernel)) (fun _ _ _ _ _ => (pg_name (i := 9) sc_law_is_howell.nd rfl (Or.inl rfl))) (fun _ _ _ _ _ => (pts_one (pt_cmpR op_ge (pe_call G__law_place (hr.mono (by decide)) rfl g__law_place kp__law_place b__law_place .nil pass0 (pa_cons (pv 9) pa_nil)) (pv 7) (nomark _)))) (fun _ _ _ _ _ => (pv 9)))) pa_nil)) (nomark _)) (pss_one (ps_ret pe_bl)) pss_nil))))
        (pss_one (ps_ret pe_bl))))))), ?_⟩
    obtain ⟨vs, hv, hR⟩ := id hA
    have hvl : vs.length = Fm.length := by rw [hR.length, List.length_map]
    have hFw : Fm.length ≤ w := hF.few
    have rowOk : ∀ {i : Nat} {v : V}, vs[i]? = some v → ∃ (u : Addr) (q : Nat) (s : Row), v = .ref u ∧ Fm[i]? = some (q, s) ∧ RowAt K H u s ∧ q < w ∧ s.length = w ∧ RRed M s ∧ (∀ j, j < q → s[j]? = some 0) ∧ 1 ≤ fn s q ∧ fn s q ∣ M := fun {i v} e => by
      obtain ⟨u, l, rfl, hl, hu⟩ := rows_at hR e
      rw [List.getElem?_map] at hl
      cases hFi : Fm[i]? with
      | none => rw [hFi] at hl; cases hl
      | some qs =>
        rw [hFi] at hl
        cases hl
        obtain ⟨r1, r2, r3, r4, r5, r6⟩ := hF.row qs.1 qs.2 (List.mem_of_getElem? hFi)
        exact ⟨u, qs.1, qs.2, rfl, rfl, hu, r1, r2, r3, r4, r5, r6⟩
    refine ⟨_, rfl, _, _, _, _, true, rfl, .ty _, tyx hv, kit_ty (by decide +kernel), true, rfl, iteF ?_⟩
    refine ⟨_, rfl, a, rfl, ⟨_, hv⟩, fun D hD => lc_rel (walk_tup (xs := vs)) hD (by omega) (fun i v _ => v = .bl true) (fun i v H H' h _ => h) (fun H1 e => SqT.same hv e) ?_ ?_⟩
    · rintro i v H1 H1' Fn Nn fin hi sm hacc ⟨rfl, hx⟩
      obtain ⟨u, q, s, rfl, hFi, hu2, r1, r2, _⟩ := rowOk hx
      refine ⟨rfl, yesT ⟨_, rfl, _, _, _, _, true, rfl, .ty _, tyx (SqT.same hu2 sm), kit_ty (by decide +kernel), true, rfl, iteT ?_⟩⟩
      refine ⟨_, rfl, u, _, rfl, .inr (SqT.same hu2 sm), _, rfl, rfl, ?_⟩
      exact fin _ _ (fun _ _ e => e) (congrArg V.bl (decide_eq_true (by simp [r2])))
    · intro acc H1 a1 a2 s1 hR1
      have ea : acc = (List.replicate acc.length true).map V.bl := by
        apply List.ext_getElem?
        intro j
        by_cases hj : j < acc.length
        · have e1 := hR1 j _ (List.getElem?_eq_getElem hj)
          rw [List.getElem?_eq_getElem hj, e1, List.getElem?_map, List.getElem?_replicate, if_pos (by omega)]
          rfl
        · rw [List.getElem?_eq_none (by omega), List.getElem?_eq_none (by simp; omega)]
      refine ⟨D, List.replicate acc.length true, rfl, SqL.of (by rw [a2, ← ea]), true, congrArg V.bl (by simp), iteF ?_⟩
      clear ea a1 a2 hR1
      have hv1 := SqT.same hv s1
      -- the places
      refine ⟨_, rfl, a, rfl, ⟨_, hv1⟩, fun D2 hD2 => lc_rel (walk_tup (xs := vs)) hD2 (by omega) (fun i v _ => ∃ z, (Fm.map fun b => (b.1 : Int))[i]? = some z ∧ v = .int z) (fun i v H H' h _ => h) (fun H1 e => SqT.same hv1 e) ?_ ?_⟩
      · rintro i v H2 H2' Fn Nn fin hi sm hacc ⟨rfl, hx⟩
        obtain ⟨u, q, s, rfl, hFi, hu2, r1, r2, r3, r4, r5, r6⟩ := rowOk hx
        refine ⟨rfl, yesT ⟨_, rfl, u, s, rfl, SqT.same hu2 (same_trans s1 sm), by omega, fun H3 s3 => fin _ _ s3 ⟨(q : Int), ?_, ?_⟩⟩⟩
        · rw [List.getElem?_map, hFi]
          rfl
        · rw [place_at r4 (by omega) (by omega)]
      · intro acc H2 a1 a2 s2 hR2
        have ea : acc = (Fm.map fun b => (b.1 : Int)).map V.int := acc_map (by simp [a1, hvl]) hR2
        subst ea
        clear hR2 a1
        have hv2 := SqT.same hv1 s2
        have hd2 : H2 d = some (.dT (dictOf L)) := s2 _ _ (s1 _ _ hd)
        refine ⟨_, rfl, _, rfl, D2, (Fm.map fun b => (b.1 : Int)), rfl, SqL.of a2, (by rw [List.length_map]; omega), fun aS cS nS hcS => ⟨aS, _, cS, rfl, upd_same, (by rw [List.length_map] at hcS; omega), fun ns pS hpw hmem hlen npS => ?_⟩⟩
        have s3 : Same H2 (upd (upd H2 aS (SetO w0 aS (fun j => decide (j ∈ Fm.map fun b => (b.1 : Int))) cS)) pS (.lst (ns.map V.int))) := same_trans (same_upd nS) (same_upd npS)
        have g3 : (upd (upd H2 aS (SetO w0 aS (fun j => decide (j ∈ Fm.map fun b => (b.1 : Int))) cS)) pS (.lst (ns.map V.int))) pS = some (.lst (ns.map V.int)) := upd_same
        generalize upd (upd H2 aS (SetO w0 aS (fun j => decide (j ∈ Fm.map fun b => (b.1 : Int))) cS)) pS (.lst (ns.map V.int)) = H3 at s3 g3 ⊢
        have ens : (Fm.map fun b => (b.1 : Int)) = ns := sorted_ext (r := fun a b : Int => a < b) (fun a b h1 h2 => by omega) (List.pairwise_map.mpr (hF.up.imp fun {a b} h => by have := h.1; omega)) hpw fun z => by
          rw [hmem]
          simp
        have g2 : H3 D2 = some (.lst ((Fm.map fun b => (b.1 : Int)).map V.int)) := s3 _ _ a2
        refine ⟨_, _, lst_dp (SqL.of g2), lst_dp (SqL.of g3), dL_shaped _, dL_shaped _, false, congrArg V.bl (by rw [dL_eqv, decide_eq_true ens]; rfl), iteF ?_⟩
        have hv3 := SqT.same hv2 s3
        have hd3 := s3 _ _ hd2
        have s03 := same_trans s1 (same_trans s2 s3)
        clear g3 ens hlen hmem hpw npS hcS nS a2 hd2 hv2
        have hin : inV (V.int (w : Int)) ((Fm.map fun b => (b.1 : Int)).map V.int) = false := by
          unfold inV
          rw [List.any_eq_false]
          intro y hy
          obtain ⟨z, hz, rfl⟩ := List.mem_map.mp hy
          obtain ⟨b, hb, rfl⟩ := List.mem_map.mp hz
          have := (hF.row b.1 b.2 hb).1
          show ¬ eqV (V.int (b.1 : Int)) (V.int (w : Int)) = true
          have e : eqV (V.int (b.1 : Int)) (V.int (w : Int)) = ((b.1 : Int) == (w : Int)) := rfl
          rw [e]
          simp
          omega
        refine ⟨_, rfl, _, rfl, D2, _, rfl, .inl (SqL.of g2), rfl, (by rw [List.all_eq_true]; intro y hy; obtain ⟨z, _, rfl⟩ := List.mem_map.mp hy; rfl), false, congrArg V.bl hin, iteF ?_⟩
        refine ⟨_, rfl, a, rfl, ⟨_, hv3⟩, fun D3 hD3 => lc_rel (walk_tup (xs := vs)) hD3 (by omega) (fun i v _ => v = .bl false) (fun i v H H' h _ => h) (fun H1 e => SqT.same hv3 e) ?_ ?_⟩
        · rintro i v H4 H4' Fn Nn fin hi sm hacc ⟨rfl, hx⟩
          obtain ⟨u, q, s, rfl, hFi, hu2, r1, r2, r3, r4, r5, r6⟩ := rowOk hx
          have hsL : s ∈ L := (hLm s).mpr ⟨r2, r3, .of ⟨q, s, List.mem_of_getElem? hFi, Nat.zero_le _, rfl⟩⟩
          refine ⟨rfl, yesT ⟨_, rfl, _, rfl, d, _, keyOf s, u, rfl, .inl (sm _ _ hd3), rfl, by rw [keyOf_kV]; exact SqT.same hu2 (same_trans s03 sm), ?_⟩⟩
          rw [dict_val, decide_eq_true hsL]
          exact fin _ _ (fun _ _ e => e) rfl
        · intro acc H4 b1 b2 s4 hR4
          have eb : acc = (List.replicate acc.length false).map V.bl := by
            apply List.ext_getElem?
            intro j
            by_cases hj : j < acc.length
            · have e1 := hR4 j _ (List.getElem?_eq_getElem hj)
              rw [List.getElem?_eq_getElem hj, e1, List.getElem?_map, List.getElem?_replicate, if_pos (by omega)]
              rfl
            · rw [List.getElem?_eq_none (by omega), List.getElem?_eq_none (by simp; omega)]
          refine ⟨D3, List.replicate acc.length false, rfl, SqL.of (by rw [b2, ← eb]), false, congrArg V.bl (by simp), iteF ?_⟩
          clear eb b2 hR4 b1
          have hv4 := SqT.same hv3 s4
          have hd4 := s4 _ _ hd3
          have g4 := s4 _ _ g2
          have s04 := same_trans s03 s4
          refine ⟨_, rfl, a, _, rfl, .inr hv4, (Fm.length : Int), (by rw [hvl]), by omega, by omega, ?_⟩
          refine for_it (walk_range (lo := 0) (n := Fm.length)) (fun i σ H' => ∃ (x5 x6 : Option V), σ = [some (.int M), some (.ref a), some (.ref d), some (.int (w : Int)), some (.ref D2), x5, x6, none, none, none] ∧ Same H4 H') ⟨none, none, rfl, fun _ _ e => e⟩ (fun _ _ _ _ _ => trivial) ?_ ?_
          · rintro i v σ H5 H5' hi ⟨x5, x6, rfl, s5⟩ ⟨rfl, rfl⟩
            have e0 : (0 + (i : Int)) = (i : Int) := by omega
            have hvi : vs[i]? = some (vs[i]'(by omega)) := List.getElem?_eq_getElem (by omega)
            obtain ⟨u, q, s, hve, hFi, hu2, r1, r2, r3, r4, r5, r6⟩ := rowOk hvi
            rw [hve] at hvi
            have hPi : ((Fm.map fun b => (b.1 : Int)).map V.int)[i]? = some (.int (q : Int)) := by rw [List.getElem?_map, List.getElem?_map, hFi]; rfl
            have hsq : (s.map V.int)[q]? = some (.int (fn s q)) := by rw [List.getElem?_map, at_fn (by omega)]; rfl
            have g5 := s5 _ _ g4
            have hv5 := SqT.same hv4 s5
            have hu5 := SqT.same hu2 (same_trans s04 s5)
            refine ⟨_, rfl, _, rfl, a, _, (i : Int), _, rfl, congrArg V.int e0, hv5, atI_nat hvi, _, rfl, _, rfl, D2, _, (i : Int), _, rfl, congrArg V.int e0, SqL.of g5, atI_nat hPi, u, _, (q : Int), _, rfl, rfl, hu5, atI_nat hsq, ?_⟩
            refine ⟨_, rfl, .inl ⟨_, rfl, _, rfl, _, _, rfl, rfl, by omega, rfl, _, rfl, ?_⟩⟩
            refine iteNS (show V.int (M.fmod (fn s q)) = V.int 0 by rw [Int.fmod_eq_emod_of_nonneg _ (by omega), Int.emod_eq_zero_of_dvd r6]) ?_
            have ecut : cutV vs none (some (i : Int)) = vs.take i := by
              have hix : HT.sIx vs.length vs.length (some (i : Int)) = i := by
                rw [HT.sIx_nat]
                omega
              unfold cutV
              rw [hix, HT.sIx_none]
              simp
            refine ⟨_, rfl, _, rfl, (i : Int), congrArg V.int e0, a, vs, rfl, hv5, fun hwh => ?_, fun _ p9 np9 => ⟨p9, rfl, ⟨_, SqT.of upd_same⟩, ?_⟩⟩
            · have hix : HT.sIx vs.length vs.length (some (i : Int)) = i := by
                rw [HT.sIx_nat]
                omega
              rw [hix] at hwh
              omega
            rw [ecut]
            have s6 : Same H5' (upd H5' p9 (.tup (vs.take i))) := same_upd np9
            have g6 : (upd H5' p9 (.tup (vs.take i))) p9 = some (.tup (vs.take i)) := upd_same
            generalize upd H5' p9 (.tup (vs.take i)) = H6 at s6 g6 ⊢
            refine fun D4 hD4 => lc_rel (walk_tup (xs := vs.take i)) hD4 (by rw [List.length_take]; omega) (fun i v _ => v = .bl false) (fun i v H H' h _ => h) (fun H1 e => SqT.of (e _ _ g6)) ?_ ?_
            · rintro j v H7 H7' Fn Nn fin hj sm hacc ⟨rfl, hx⟩
              have hji : j < i := by
                rw [List.length_take] at hj
                omega
              rw [List.getElem?_take_of_lt hji] at hx
              obtain ⟨u', q', s', rfl, hFj, hu', t1, t2, t3, t4, t5, t6⟩ := rowOk hx
              have s7 := same_trans s5 (same_trans s6 sm)
              have hsq' : (s'.map V.int)[q]? = some (.int (fn s' q)) := by rw [List.getElem?_map, at_fn (by omega)]; rfl
              have lt : fn s' q < fn s q := by
                have := List.pairwise_iff_getElem.mp hF.up j i (by omega) (by omega) hji
                have e1 := (List.getElem?_eq_some_iff.mp hFi).2
                have e2 := (List.getElem?_eq_some_iff.mp hFj).2
                rw [e1, e2] at this
                exact this.2
              refine ⟨rfl, yesT ⟨_, rfl, _, rfl, _, rfl, D2, _, (i : Int), _, rfl, congrArg V.int e0, SqL.of (s7 _ _ g4), atI_nat hPi, u', _, (q : Int), _, rfl, rfl, SqT.same hu' (same_trans s04 s7), atI_nat hsq', _, rfl, _, _, rfl, rfl, ?_⟩⟩
              exact fin _ _ (fun _ _ e => e) (congrArg V.bl (decide_eq_false (by omega)))
            · intro acc H7 c1 c2 s7 hR7
              have ec : acc = (List.replicate acc.length false).map V.bl := by
                apply List.ext_getElem?
                intro j
                by_cases hj : j < acc.length
                · have e1 := hR7 j _ (List.getElem?_eq_getElem hj)
                  rw [List.getElem?_eq_getElem hj, e1, List.getElem?_map, List.getElem?_replicate, if_pos (by omega)]
                  rfl
                · rw [List.getElem?_eq_none (by omega), List.getElem?_eq_none (by simp; omega)]
              refine ⟨D4, List.replicate acc.length false, rfl, SqL.of (by rw [c2, ← ec]), false, congrArg V.bl (by simp), iteF ?_⟩
              exact ⟨_, _, rfl, same_trans s5 (same_trans s6 s7)⟩
          · rintro σ H5 ⟨x5, x6, rfl, s5⟩
            have hv5 := SqT.same hv4 s5
            have hd5 := s5 _ _ hd4
            have s05 := same_trans s04 s5
            refine ⟨_, rfl, _, _, rfl, rfl, (w : Int) + 1, rfl, by omega, by omega, ?_⟩
            refine for_it (walk_range (lo := 0) (n := w + 1)) (fun i σ H' => ∃ (x7 x8 : Option V), σ = [some (.int M), some (.ref a), some (.ref d), some (.int (w : Int)), some (.ref D2), x5, x6, x7, x8, none] ∧ Same H5 H') ⟨none, none, rfl, fun _ _ e => e⟩ (fun _ _ _ _ _ => trivial) ?_ ?_
            · rintro i v σ H6 H6' hi ⟨x7, x8, rfl, s6⟩ ⟨rfl, rfl⟩
              have e0 : (0 + (i : Int)) = (i : Int) := by omega
              have hv6 := SqT.same hv5 s6
              refine ⟨_, rfl, a, rfl, ⟨_, hv6⟩, fun D4 hD4 => lc_filR (walk_tup (xs := vs)) hD4 (by omega) Fm (by omega) (fun b => decide (i ≤ placeOf b.2)) (fun b v _ => ∃ j : Nat, Fm[j]? = some b ∧ vs[j]? = some v) (fun b v H H' h _ => h) (fun H1 e => SqT.same hv6 e) ?_ ?_⟩
              · rintro j b v H7 H7' Fn Nn hb yes no sm ⟨rfl, hx⟩
                obtain ⟨u, q, s, rfl, hFi, hu2, r1, r2, r3, r4, r5, r6⟩ := rowOk hx
                rw [hb] at hFi
                cases hFi
                refine ⟨rfl, _, rfl, u, s, rfl, SqT.same hu2 (same_trans s05 (same_trans s6 sm)), by omega, fun H8 s8 => ⟨_, rfl, _, _, rfl, rfl, _, rfl, ite2 (fun hc => ⟨_, rfl, yes _ _ s8 ?_ ⟨j, hb, hx⟩⟩) (fun hc => no _ s8 ?_)⟩⟩
                · have hc : 0 + (i : Int) ≤ (placeOf s : Int) := of_decide_eq_true hc
                  exact decide_eq_true (by show i ≤ placeOf s; omega)
                · have hc : ¬ 0 + (i : Int) ≤ (placeOf s : Int) := fun z => hc (decide_eq_true z)
                  exact decide_eq_false (by show ¬ i ≤ placeOf s; omega)
              · intro acc H7 c1 s7 cl hR7
                have s07 := same_trans s05 (same_trans s6 s7)
                have hd7 := s7 _ _ (s6 _ _ hd5)
                have hRw : RowsAre K H7 acc ((Fm.filter fun b => decide (i ≤ placeOf b.2)).map (·.2)) := rows_of (by rw [cl, List.length_map]) fun kk v r e1 e2 => by
                  rw [List.getElem?_map] at e2
                  cases hb : (Fm.filter fun b => decide (i ≤ placeOf b.2))[kk]? with
                  | none => rw [hb] at e2; cases e2
                  | some b =>
                    rw [hb] at e2
                    cases e2
                    obtain ⟨v', e3, j, hj, hvj⟩ := hR7 kk b hb
                    rw [e3] at e1
                    cases e1
                    obtain ⟨u, q, s, rfl, hFi, hu2, _⟩ := rowOk hvj
                    rw [hj] at hFi
                    cases hFi
                    exact ⟨u, rfl, SqT.same hu2 s07⟩
                have hfl := List.length_filter_le (fun b : Nat × Row => decide (i ≤ placeOf b.2)) Fm
                have hll := later_len hM hF hL hLm (ph := i) (by omega)
                refine ⟨_, rfl, _, rfl, _, rfl, false, M, D4, _, w, rfl, hM, hM2, ⟨acc, SqL.of c1, hRw⟩, by rw [List.length_map]; omega, by omega, fun x hx => (hF.laterA x hx).1, fun x hx => rred_wd (hF.laterA x hx).2 (by omega), fun d2 H8 s8 nd2 hd2 => ⟨d2, _, rfl, hd2, ?_⟩⟩
                rw [dictOf_len, hll]
                have hd8 := s8 _ _ hd7
                refine ⟨d, _, hd8, trivial, fun od => ?_⟩
                have lk : ∀ {b : Addr} {xs : List V}, H8 b = some (.tup xs) → b ≠ d := fun {b xs} e z => by rw [z, hd8] at e; cases e
                have gl : (upd H8 d (.frz od (.dT (dictOf L)))) d = some (.frz od (.dT (dictOf L))) := upd_same
                have ll : ∀ b o, b ≠ d → H8 b = some o → (upd H8 d (.frz od (.dT (dictOf L)))) b = some o := fun b o n e => by rw [upd_ne n]; exact e
                generalize hHl : upd H8 d (.frz od (.dT (dictOf L))) = Hl at gl ll ⊢
                refine ⟨_, rfl, d, od, rfl, .inr ⟨_, gl, fun D5 hD5 => lc_filR walk_keysT hD5 (by rw [dictOf_len]; exact hLn) L (dictOf_len L).symm (fun r => decide (i ≤ placeOf r)) (fun _ _ _ => True) (fun _ _ _ _ _ _ => trivial) (fun H1 e => e _ _ gl) ?_ ?_⟩⟩
                · rintro j r v H9 H9' Fn Nn hr yes no sm ⟨rfl, kk, vv, q, hkv, rfl, hq⟩
                  have hkr : kk = keyOf r := by
                    unfold dictOf at hkv
                    rw [List.getElem?_map, hr] at hkv
                    cases hkv
                    rfl
                  subst hkr
                  rw [keyOf_kV] at hq
                  have hrl := ((hLm r).mp (List.mem_of_getElem? hr)).1
                  refine ⟨rfl, _, rfl, q, r, rfl, SqT.of hq, by omega, fun H10 s10 => ⟨_, rfl, _, _, rfl, rfl, _, rfl, ite2 (fun hc => ⟨_, rfl, yes _ _ s10 ?_ trivial⟩) (fun hc => no _ s10 ?_)⟩⟩
                  · have hc : 0 + (i : Int) ≤ (placeOf r : Int) := of_decide_eq_true hc
                    exact decide_eq_true (by omega)
                  · have hc : ¬ 0 + (i : Int) ≤ (placeOf r : Int) := fun z => hc (decide_eq_true z)
                    exact decide_eq_false (by omega)
                · intro acc2 H9 e1 s9 el _
                  have hD5d : D5 ≠ d := fun z => by rw [z, gl] at hD5; cases hD5
                  refine ⟨s9 _ _ gl, D5, acc2, rfl, .inl (SqL.of (by rw [upd_ne hD5d]; exact e1)), rfl, _, rfl, ?_⟩
                  rw [el]
                  refine iteNS rfl ⟨_, _, rfl, fun b o e => ?_⟩
                  by_cases z : b = d
                  · rw [z] at e ⊢
                    rw [upd_same, ← e, hd5]
                  · rw [upd_ne z]
                    exact s9 _ _ (ll _ _ z (s8 _ _ (s7 _ _ (s6 _ _ e))))
            · rintro σ H6 ⟨x7, x8, rfl, s6⟩
              exact k H6 (same_trans s05 s6)
end
end Wk

/-! other rows of the same span -/
namespace Wk
def addZ (t : Int) (r s : Row) : Row := List.zipWith (fun a b => a + t * b) r s
def mulZ (t : Int) (r : Row) : Row := r.map fun x => x * t
def BM (B : Nat) (A : Mat) : Prop := ∀ r ∈ A, ∀ x ∈ r, x.natAbs ≤ B
theorem addZ_fn {t : Int} {r s : Row} (h : r.length = s.length) (j : Nat) : fn (addZ t r s) j = fn r j + t * fn s j := by
  by_cases hj : j < r.length
  · refine fn_at ?_
    unfold addZ
    rw [List.getElem?_zipWith, at_fn hj, at_fn (by omega)]
  · have z : ∀ {u : Row}, u.length = r.length → fn u j = 0 := fun {u} e => by
      unfold fn
      rw [List.getD_eq_getElem?_getD, List.getElem?_eq_none (by omega)]
      rfl
    rw [z (by simp [addZ, h]), z rfl, z h.symm]
    simp
theorem mulZ_fn {t : Int} {r : Row} (j : Nat) : fn (mulZ t r) j = fn r j * t := by
  unfold fn mulZ
  rw [List.getD_eq_getElem?_getD, List.getD_eq_getElem?_getD, List.getElem?_map]
  cases r[j]? with
  | none => simp
  | some x => rfl
theorem rw_mem {A : Mat} {i : Nat} {r : Row} (h : A[i]? = some r) : RW A (fn r) := ⟨r, List.mem_of_getElem? h, rfl⟩
theorem rw_set {A : Mat} {x : Nat} {r' : Row} {v : Vec} (h : RW (A.set x r') v) : v = fn r' ∨ ∃ i r, i ≠ x ∧ A[i]? = some r ∧ v = fn r := by
  obtain ⟨s, hs, rfl⟩ := h
  obtain ⟨i, hi⟩ := List.mem_iff_getElem?.mp hs
  by_cases e : x = i
  · subst e
    rw [List.getElem?_set] at hi
    simp at hi
    exact .inl (by rw [hi.2])
  · rw [List.getElem?_set_ne e] at hi
    exact .inr ⟨i, s, fun z => e z.symm, hi, rfl⟩
theorem rw_set_self {A : Mat} {x : Nat} {r r' : Row} (h : A[x]? = some r) : RW (A.set x r') (fn r') := rw_mem (i := x) (List.getElem?_set_self (List.getElem?_eq_some_iff.mp h).1)
theorem rw_set_ne {A : Mat} {x i : Nat} {r r' : Row} (hi : i ≠ x) (h : A[i]? = some r) : RW (A.set x r') (fn r) := rw_mem (i := i) (by rw [List.getElem?_set_ne (fun z => hi z.symm)]; exact h)
theorem span_add {M t : Int} {w x y : Nat} {A : Mat} {ra rb : Row} (hxy : x ≠ y) (ha : A[x]? = some ra) (hb : A[y]? = some rb) (hl : ra.length = rb.length) (v : Vec) : InS M w (RW (A.set x (addZ t ra rb))) v ↔ InS M w (RW A) v := by
  constructor
  · refine fun h => h.trans fun u hu => ?_
    rcases rw_set hu with rfl | ⟨i, r, _, hi, rfl⟩
    · exact InS.comb 1 t (.of (rw_mem ha)) (.of (rw_mem hb)) fun j _ => .eq (by rw [addZ_fn hl, Int.one_mul])
    · exact .of (rw_mem hi)
  · refine fun h => h.trans fun u hu => ?_
    obtain ⟨s, hs, rfl⟩ := hu
    obtain ⟨i, hi⟩ := List.mem_iff_getElem?.mp hs
    by_cases e : i = x
    · subst e
      rw [ha] at hi
      cases hi
      exact InS.comb 1 (-t) (.of (rw_set_self ha)) (.of (rw_set_ne (fun z => hxy z.symm) hb)) fun j _ => .eq (by rw [addZ_fn hl]; grind)
    · exact .of (rw_set_ne e hi)
theorem span_mul {M t u : Int} {w x : Nat} {A : Mat} {ra : Row} (ha : A[x]? = some ra) (hu : Eqm M (t * u) 1) (v : Vec) : InS M w (RW (A.set x (mulZ t ra))) v ↔ InS M w (RW A) v := by
  constructor
  · refine fun h => h.trans fun z hz => ?_
    rcases rw_set hz with rfl | ⟨i, r, _, hi, rfl⟩
    · exact InS.scale t (.of (rw_mem ha)) fun j _ => .eq (by rw [mulZ_fn, Int.mul_comm])
    · exact .of (rw_mem hi)
  · refine fun h => h.trans fun z hz => ?_
    obtain ⟨s, hs, rfl⟩ := hz
    obtain ⟨i, hi⟩ := List.mem_iff_getElem?.mp hs
    by_cases e : i = x
    · subst e
      rw [ha] at hi
      cases hi
      refine InS.scale u (.of (rw_set_self ha)) fun j _ => ?_
      rw [mulZ_fn]
      exact Eqm.trans (.eq (by simp)) (((Eqm.refl M (fn ra j)).mul hu.symm).trans (.eq (by grind)))
    · exact .of (rw_set_ne e hi)
theorem rw_rev (A : Mat) (k : Nat) (v : Vec) : RW (A.reverse ++ A.take k) v ↔ RW A v := by
  constructor
  · rintro ⟨s, hs, rfl⟩
    rcases List.mem_append.mp hs with h | h
    · exact ⟨s, List.mem_reverse.mp h, rfl⟩
    · exact ⟨s, List.mem_of_mem_take h, rfl⟩
  · rintro ⟨s, hs, rfl⟩
    exact ⟨s, List.mem_append_left _ (List.mem_reverse.mpr hs), rfl⟩
theorem InS.iffG {M : Int} {w : Nat} {P Q : Vec → Prop} (h : ∀ u, P u ↔ Q u) (v : Vec) : InS M w P v ↔ InS M w Q v := ⟨fun z => z.mono fun u g => (h u).mp g, fun z => z.mono fun u g => (h u).mpr g⟩
theorem addZ_b {B : Nat} {t : Int} {r s : Row} (ht : 0 ≤ t ∧ t ≤ 11) (hr : ∀ x ∈ r, x.natAbs ≤ B) (hs : ∀ x ∈ s, x.natAbs ≤ B) : ∀ x ∈ addZ t r s, x.natAbs ≤ 13 * B := by
  intro x hx
  obtain ⟨k, hk⟩ := List.mem_iff_getElem?.mp hx
  unfold addZ at hk
  rw [List.getElem?_zipWith] at hk
  split at hk
  · rename_i a b ea eb
    cases hk
    have h1 := hr a (List.mem_of_getElem? ea)
    have h2 := hs b (List.mem_of_getElem? eb)
    have h3 : (t * b).natAbs ≤ 11 * B := by
      rw [Int.natAbs_mul]
      exact Nat.mul_le_mul (by omega) h2
    omega
  · cases hk
theorem mulZ_b {B : Nat} {t : Int} {r : Row} (ht : 0 ≤ t ∧ t ≤ 11) (hr : ∀ x ∈ r, x.natAbs ≤ B) : ∀ x ∈ mulZ t r, x.natAbs ≤ 13 * B := by
  intro x hx
  obtain ⟨y, hy, rfl⟩ := List.mem_map.mp hx
  show (y * t).natAbs ≤ _
  have h1 := hr y hy
  rw [Int.natAbs_mul]
  have : y.natAbs * t.natAbs ≤ B * 11 := Nat.mul_le_mul h1 (by omega)
  omega
end Wk

namespace Wk
open PySem L2
theorem ObsAre.app {mk : List V → HO} {F : Addr} {H : Hp} {us us' : List V} {A A' : Mat} (h : ObsAre mk F H us A) (h' : ObsAre mk F H us' A') : ObsAre mk F H (us ++ us') (A ++ A') := by
  refine ⟨by simp [h.1, h'.1], fun k r e => ?_⟩
  by_cases hk : k < A.length
  · rw [List.getElem?_append_left hk] at e
    obtain ⟨p, a, b⟩ := h.2 k r e
    exact ⟨p, by rw [List.getElem?_append_left (by rw [h.1]; exact hk)]; exact a, b⟩
  · rw [List.getElem?_append_right (by omega)] at e
    obtain ⟨p, a, b⟩ := h'.2 _ r e
    exact ⟨p, by rw [List.getElem?_append_right (by rw [h.1]; omega), h.1]; exact a, b⟩
theorem ObsAre.rev {mk : List V → HO} {F : Addr} {H : Hp} {us : List V} {A : Mat} (h : ObsAre mk F H us A) : ObsAre mk F H us.reverse A.reverse := by
  refine ⟨by simp [h.1], fun k r e => ?_⟩
  have hk : k < A.length := by
    have := (List.getElem?_eq_some_iff.mp e).1
    simpa using this
  rw [List.getElem?_reverse hk] at e
  obtain ⟨p, a, b⟩ := h.2 _ r e
  exact ⟨p, by rw [List.getElem?_reverse (by rw [h.1]; exact hk), h.1]; exact a, b⟩
theorem ObsAre.take {mk : List V → HO} {F : Addr} {H : Hp} {us : List V} {A : Mat} (h : ObsAre mk F H us A) (n : Nat) : ObsAre mk F H (us.take n) (A.take n) := by
  refine ⟨by simp [h.1], fun k r e => ?_⟩
  have hk : k < n := by
    have := (List.getElem?_eq_some_iff.mp e).1
    rw [List.length_take] at this
    omega
  rw [List.getElem?_take_of_lt hk] at e
  obtain ⟨p, a, b⟩ := h.2 _ r e
  exact ⟨p, by rw [List.getElem?_take_of_lt hk]; exact a, b⟩
theorem cut_take (us : List V) (n : Nat) : cutV us none (some (n : Int)) = us.take n := by
  unfold cutV
  rw [HT.sIx_none, HT.sIx_nat]
  simp [List.take_eq_take_iff]
def spOther (K : PySem.W.Frag) : Sp := fun vs H Q _ => ∃ (p c : Addr) (ns : List Int) (m w : Nat) (M : Int) (a : Addr) (A : Mat), vs = [.ref p, .int M, .ref a] ∧ Pen H p c ns m ∧ m < 80000 ∧ 2 ≤ M ∧ M ≤ 12 ∧ RowsIn false K H a A ∧ A.length ≤ 10 ∧ w ≤ 10 ∧ (∀ r ∈ A, r.length = w) ∧ BM 100 A ∧
  ∀ (q : Addr) (H' : Hp) (A' : Mat), But p H H' → Pen H' p c ns (m + 50) → RowsIn false K H' q A' → A'.length ≤ 20 → (∀ r ∈ A', r.length = w) → MWd A' → (∀ v, InS M w (RW A') v ↔ InS M w (RW A) v) → Q (.ref q) H'
section
variable {P : Program} {w0 : World} {K : PySem.W.Frag} {mg : Str → Option Value} {base : Heap}
theorem ok_other_rows {f fD fC : Addr} {fd fdD fdC : FuncData} (F : Fun K "_law_other_rows" "_law_other_rows" s_law_other_rows f fd) (T : TxtL mg)
    (G__law_draw : FnOk P w0 K mg base CX0 1 fD fdD ["_law_pen", "_law_many"] spDraw) (g__law_draw : mg "_law_draw" = some (.ref fD)) (kp__law_draw : PySem.W.keepIn K (.ref fD) = true) (b__law_draw : Binds K fdD ["_law_pen", "_law_many"] [])
    (G__law_common : FnOk P w0 K mg base CX0 1 fC fdC ["_law_one", "_law_other"] spGcd) (g__law_common : mg "_law_common" = some (.ref fC)) (kp__law_common : PySem.W.keepIn K (.ref fC) = true) (b__law_common : Binds K fdC ["_law_one", "_law_other"] []) :
    FnOk P w0 K mg base CX0 2 f fd ["_law_pen", "_law_modulus", "_law_rows"] (spOther K) := by
  refine F.ok sc_law_other_rows (fun vs H Q E h => ?_) (fun cdv A outer s H vs Q E hr h => ?_)
  · obtain ⟨p, c, ns, m, w, M, a, A, rfl, _⟩ := h
    rfl
  · obtain ⟨p, c, ns, m, w, M, a, A0, rfl, hP, hm, hM, hM2, hA, lA, hw, hAw, hB, k⟩ := h
    refine ⟨_, (pss_cons (ps_setLc (i := 3) (own := [("_law_row", 8)]) (g := gName 8) rfl sc_law_other_rows.nd rfl rfl (sw_true rfl rfl rfl (by decide +kernel)) (pi_list (pv 2)) (blkOk_by (N := ["_law_pen", "_law_modulus", "_law_rows", "_law_found", "_law_turn", "_law_at", "_law_other", "_law_often", "_law_row", "_law_one", "_law_two", "_law_number"]) (sc := defScope s_law_other_rows) (by decide +kernel)) (fun _ _ _ _ _ => (pg_name (i := 8) sc_law_other_rows.nd rfl (Or.inl rfl))) (fun _ _ _ _ _ => pts_nil) (fun _ _ _ _ _ => (pe_callTy (call_listK (K := K) rfl) rfl T.f_list (by decide +kernel) (pa_cons (pv 8) pa_nil))))
        (pss_cons (ps_for PassesOwn.never rfl (pi_range1 rfl T.f_range (pa_cons (pe_ifExp (pt_cmpR op_gt (pe_callB call_len_seq rfl T.f_len PySem.boot_len (pa_cons (pv 2) pa_nil)) pe_int (nomark _)) pe_int pe_int) pa_nil)) (pg_name (i := 4) sc_law_other_rows.nd rfl (Or.inl rfl)) (pss_cons (ps_par (i := 5) (j := 6) rfl sc_law_other_rows.nd rfl rfl (by decide) rfl rfl (pa_cons (pe_call G__law_draw (hr.mono (by decide)) rfl g__law_draw kp__law_draw b__law_draw .nil pass0 (pa_cons (pv 0) (pa_cons (pe_callB call_len_seq rfl T.f_len PySem.boot_len (pa_cons (pv 3) pa_nil)) pa_nil))) (pa_cons (pe_call G__law_draw (hr.mono (by decide)) rfl g__law_draw kp__law_draw b__law_draw .nil pass0 (pa_cons (pv 0) (pa_cons (pe_callB call_len_seq rfl T.f_len PySem.boot_len (pa_cons (pv 3) pa_nil)) pa_nil))) pa_nil)) (by rfl))
        (pss_cons (ps_set (i := 7) sc_law_other_rows.nd rfl (Or.inr rfl) (pe_call G__law_draw (hr.mono (by decide)) rfl g__law_draw kp__law_draw b__law_draw .nil pass0 (pa_cons (pv 0) (pa_cons (pv 1) pa_nil))))
        (pss_one (ps_if (pt_cmpR op_ne (pv 5) (pv 6) (nomark _)) (pss_one (ps_asg (pe_lc (own := [("_law_one", 9), ("_law_two", 10)]) (g := gTup K 2 (gCons (gName 9) (gCons (gName 10) gNil))) rfl sc_law_other_rows.nd (pi_zip2K (K := K) rfl false false rfl T.f_zip (pa_cons (pe_ix ix_list (pv 3) (pv 5) (fun _ _ => rfl)) (pa_cons (pe_ix ix_list (pv 3) (pv 6) (fun _ _ => rfl)) pa_nil))) (blkOk_by (N := ["_law_pen", "_law_modulus", "_law_rows", "_law_found", "_law_turn", "_law_at", "_law_other", "_law_often", "_law_row", "_law_one", "_law_two", "_law_number"]) (sc := defScope s_law_other_rows) (by decide +kernel)) (fun _ _ _ _ _ => (pg_tupK rfl rfl (pgs_cons (pg_name (i := 9) sc_law_other_rows.nd rfl (Or.inl rfl)) (pgs_cons (pg_name (i := 10) sc_law_other_rows.nd rfl (Or.inl rfl)) pgs_nil)))) (fun _ _ _ _ _ => pts_nil) (fun _ _ _ _ _ => (pe_op op_add (pv 9) (pe_op op_mulW (pv 7) (pv 10))))) (pg_sub (pv 3) (pv 5) set_list))) (pss_one (ps_if (pt_cmpR op_eq (pe_call G__law_common (hr.mono (by decide)) rfl g__law_common kp__law_common b__law_common .nil pass0 (pa_cons (pv 7) (pa_cons (pv 1) pa_nil))) pe_int (nomark _)) (pss_one (ps_asg (pe_lc (own := [("_law_number", 11)]) (g := gName 11) rfl sc_law_other_rows.nd (pi_list (pe_ix ix_list (pv 3) (pv 5) (fun _ _ => rfl))) (blkOk_by (N := ["_law_pen", "_law_modulus", "_law_rows", "_law_found", "_law_turn", "_law_at", "_law_other", "_law_often", "_law_row", "_law_one", "_law_two", "_law_number"]) (sc := defScope s_law_other_rows) (by decide +kernel)) (fun _ _ _ _ _ => (pg_name (i := 11) sc_law_other_rows.nd rfl (Or.inl rfl))) (fun _ _ _ _ _ => pts_nil) (fun _ _ _ _ _ => (pe_op op_mulW (pv 11) (pv 7)))) (pg_sub (pv 3) (pv 5) set_list))) pss_nil)))))))
        (pss_cons (ps_set (i := 3) sc_law_other_rows.nd rfl (Or.inl rfl) (pe_op op_cat (pe_revL (pv 3)) (pe_slice sl_list (pv 3) po_none (po_some (pe_call G__law_draw (hr.mono (by decide)) rfl g__law_draw kp__law_draw b__law_draw .nil pass0 (pa_cons (pv 0) (pa_cons pe_int pa_nil)))))))
        (pss_one (ps_ret (pe_lc (own := [("_law_row", 8)]) (g := gName 8) rfl sc_law_other_rows.nd (pi_list (pv 3)) (blkOk_by (N := ["_law_pen", "_law_modulus", "_law_rows", "_law_found", "_law_turn", "_law_at", "_law_other", "_law_often", "_law_row", "_law_one", "_law_two", "_law_number"]) (sc := defScope s_law_other_rows) (by decide +kernel)) (fun _ _ _ _ _ => (pg_name (i := 8) sc_law_other_rows.nd rfl (Or.inl rfl))) (fun _ _ _ _ _ => pts_nil) (fun _ _ _ _ _ => (pe_callTy (call_tupleK (K := K) rfl) rfl T.f_tuple (by decide +kernel) (pa_cons (pv 8) pa_nil))))))))), ?_⟩
    obtain ⟨vs, hv, hR⟩ := id hA
    have hvl := hR.length
    refine ⟨_, rfl, a, rfl, ⟨vs, hv⟩, fun L hL => lc_lists (walk_list (xs := vs)) hL (by omega) A0 hvl.symm (fun H' e => SqK.same (t := false) hv e) ?_ ?_⟩
    · rintro i r x H2 H2' Fn Nn hi hr3 fin s2 ⟨rfl, hx⟩
      obtain ⟨q, l, rfl, hl, hq⟩ := rows_at hR hx
      rw [hr3] at hl
      cases hl
      exact ⟨rfl, yesT ⟨_, rfl, q, _, rfl, .inr (SqT.same hq s2), fun l nl => fin l _ (same_upd nl) nl upd_same⟩⟩
    · intro us H2 g2 s2 hU
      have P2 := hP.same s2
      have hLp : L ≠ p := fun z => by
        obtain ⟨o, ho⟩ := hP.some
        rw [z, ho] at hL
        cases hL
      refine gn_cut (fun σ H' => ∃ (x4 x5 x6 x7 : Option V) (us : List V) (A : Mat), σ = [some (.ref p), some (.int M), some (.ref a), some (.ref L), x4, x5, x6, x7, none, none, none, none] ∧ But p H H' ∧ Pen H' p c ns (m + 20) ∧ H' L = some (.lst us) ∧ ObsAre .lst L H' us A ∧ A.length = A0.length ∧ (∀ r ∈ A, r.length = w) ∧ BM (100 * 13 ^ 4) A ∧ ∀ v, InS M w (RW A) v ↔ InS M w (RW A0) v) (fun D' hD' => ?_) ?_
      · by_cases hlen : 1 < A0.length
        · refine ⟨_, rfl, a, vs, rfl, .inl (SqK.same (t := false) hv s2), _, _, rfl, rfl, true, congrArg V.bl (decide_eq_true (by omega)), iteT ?_⟩
          refine ⟨(4 : Int), rfl, by decide, by decide, ?_⟩
          refine for_it (walk_range (lo := 0) (n := 4)) (fun i σ H' => ∃ (x4 x5 x6 x7 : Option V) (us : List V) (A : Mat), σ = [some (.ref p), some (.int M), some (.ref a), some (.ref L), x4, x5, x6, x7, none, none, none, none] ∧ But p H H' ∧ Pen H' p c ns (m + 3 * i) ∧ H' L = some (.lst us) ∧ ObsAre .lst L H' us A ∧ A.length = A0.length ∧ (∀ r ∈ A, r.length = w) ∧ BM (100 * 13 ^ i) A ∧ ∀ v, InS M w (RW A) v ↔ InS M w (RW A0) v) ⟨none, none, none, none, us, A0, rfl, .of_same s2, P2.le (by omega), g2, hU, rfl, hAw, by simpa using hB, fun _ => Iff.rfl⟩ (fun _ _ _ _ _ => trivial) ?_ ?_
          · rintro i v σ H3 H3' hi ⟨x4, x5, x6, x7, us, A, rfl, b3, P3, g3, hU3, lA3, hw3, hB3, hs3⟩ ⟨rfl, rfl⟩
            have hn1 : 1 < A.length := by omega
            have hul : us.length = A.length := hU3.1
            refine ⟨_, rfl, _, rfl, L, us, rfl, .inl (SqL.of g3), ?_⟩
            dsimp only [tNil]
            refine draw_read P3 (by omega) (by omega) (by omega) fun d1 H4 d10 d1n P4 b4 => ?_
            have g4 := b4 _ _ hLp g3
            refine ⟨_, rfl, _, rfl, L, us, rfl, .inl (SqL.of g4), ?_⟩
            dsimp only [tNil]
            refine draw_read P4 (by omega) (by omega) (by omega) fun d2 H5 d20 d2n P5 b5 => ⟨_, _, rfl, ?_⟩
            refine ⟨_, rfl, _, rfl, ?_⟩
            dsimp only [tNil]
            refine draw_read P5 (by omega) (by omega) (by omega) fun t H6 t0 tM P6 b6 => ?_
            have bA : But p H3' H6 := b4.trans (b5.trans b6)
            have hU6 := hU3.pen bA P3 (fun _ _ z => by cases z)
            have g6 := bA _ _ hLp g3
            have b7 : But p H H6 := b3.trans bA
            obtain ⟨x, rfl⟩ : ∃ x : Nat, d1 = x := ⟨d1.toNat, by omega⟩
            obtain ⟨y, rfl⟩ : ∃ y : Nat, d2 = y := ⟨d2.toNat, by omega⟩
            have hx : x < A.length := by omega
            have hy : y < A.length := by omega
            have hra : A[x]? = some A[x] := List.getElem?_eq_getElem hx
            have hrb : A[y]? = some A[y] := List.getElem?_eq_getElem hy
            obtain ⟨qa, ua, nqa, ha⟩ := hU6.2 x _ hra
            obtain ⟨qb, ub, nqb, hb⟩ := hU6.2 y _ hrb
            have lra := hw3 _ (List.mem_of_getElem? hra)
            have lrb := hw3 _ (List.mem_of_getElem? hrb)
            have bra := hB3 _ (List.mem_of_getElem? hra)
            have brb := hB3 _ (List.mem_of_getElem? hrb)
            generalize A[x] = ra at *
            generalize A[y] = rb at *
            have hpw : 100 * 13 ^ i ≤ 100 * 13 ^ 4 := Nat.mul_le_mul_left _ (Nat.pow_le_pow_right (by decide) (by omega))
            have hp4 : 100 * 13 ^ 4 = 2856100 := by decide
            have hpS : 100 * 13 ^ (i + 1) = 13 * (100 * 13 ^ i) := by rw [Nat.pow_succ]; omega
            have hLH : H L = none := hL
            have fin : ∀ (r' : Row) (D : Addr) (H8 : Hp), Same H6 H8 → H6 D = none → H8 D = some (.lst (r'.map V.int)) → r'.length = w → (∀ z ∈ r', z.natAbs ≤ 13 * (100 * 13 ^ i)) → (∀ v, InS M w (RW (A.set x r')) v ↔ InS M w (RW A) v) →
                ∃ (x4 x5 x6 x7 : Option V) (us' : List V) (A' : Mat), ([some (.ref p), some (.int M), some (.ref a), some (.ref L), some (.int (0 + (i : Int))), some (.int (x : Int)), some (.int (y : Int)), some (.int t), none, none, none, none] : L2.St) = [some (.ref p), some (.int M), some (.ref a), some (.ref L), x4, x5, x6, x7, none, none, none, none] ∧ But p H (upd H8 L (.lst (us.set x (.ref D)))) ∧ Pen (upd H8 L (.lst (us.set x (.ref D)))) p c ns (m + 3 * (i + 1)) ∧ (upd H8 L (.lst (us.set x (.ref D)))) L = some (.lst us') ∧ ObsAre .lst L (upd H8 L (.lst (us.set x (.ref D)))) us' A' ∧ A'.length = A0.length ∧ (∀ r ∈ A', r.length = w) ∧ BM (100 * 13 ^ (i + 1)) A' ∧ ∀ v, InS M w (RW A') v ↔ InS M w (RW A0) v := fun r' D H8 s8 nD gD hl hbd hI => by
              have hDL : D ≠ L := fun z => by rw [z, g6] at nD; cases nD
              have b9 : But L H8 (upd H8 L (.lst (us.set x (.ref D)))) := fun b o hb e => by rw [upd_ne hb]; exact e
              refine ⟨_, _, _, _, us.set x (.ref D), A.set x r', rfl, fun b o hb e => b9 _ _ (ne_of_none e hLH) (s8 _ _ (b7 _ _ hb e)), ?_, upd_same, ((hU6.mono fun b o _ e => s8 b o e).mono b9).set hDL (by rw [upd_ne hDL]; exact gD) x, by rw [List.length_set]; exact lA3, fun r hr => ?_, fun r hr => ?_, fun v => (hI v).trans (hs3 v)⟩
              · obtain ⟨i9, l9, a9, n9⟩ := P6.same s8
                have hcL : c ≠ L := fun z => by
                  have := a9.cells
                  obtain ⟨_, _, aH, _⟩ := hP
                  have := aH.cells
                  rw [z, hLH] at this
                  cases this
                exact ⟨i9, l9, ⟨by rw [upd_ne hLp.symm]; exact a9.pen, by rw [upd_ne hcL]; exact a9.cells, a9.i0, a9.l0, a9.i1⟩, by omega⟩
              · rcases List.mem_or_eq_of_mem_set hr with h | h
                · exact hw3 r h
                · rw [h]
                  exact hl
              · rw [hpS]
                rcases List.mem_or_eq_of_mem_set hr with h | h
                · exact fun z hz => Nat.le_trans (hB3 r h z hz) (by omega)
                · rw [h]
                  exact hbd
            refine ⟨_, rfl, _, rfl, rfl, _, rfl, ?_⟩
            by_cases hxy : x = y
            · subst hxy
              refine iteNS rfl ?_
              refine ⟨_, rfl, _, rfl, t, M, rfl, rfl, _, rfl, ?_⟩
              refine ite2 (fun hd => ?_) (fun hd => ?_)
              · have hg : Int.gcd t M = 1 := by
                  have this : V.int (Int.gcd t M : Int) = V.int 1 := of_decide_eq_true hd
                  injection this with this
                  omega
                obtain ⟨uu, huu⟩ := unit_inv (M := M) (by omega) t0 hg
                refine ⟨_, rfl, _, rfl, L, us, _, _, rfl, rfl, SqL.of g6, atI_nat ua, qa, rfl, ⟨_, SqL.of ha⟩, fun D hD => lc_rel (walk_list (xs := ra.map V.int)) hD (by simp; omega) (fun j v _ => ∃ z, (mulZ t ra)[j]? = some z ∧ v = .int z) (fun j v H H' h _ => h) (fun H' e => SqL.of (e _ _ ha)) ?_ ?_⟩
                · rintro j v H8 H8' Fn Nn fin2 hj s8 hacc ⟨rfl, hv⟩
                  obtain ⟨z, gz, rfl⟩ := at_ints hv
                  have hz := bra z (List.mem_of_getElem? gz)
                  refine ⟨rfl, yesT ⟨_, rfl, _, rfl, _, _, rfl, rfl, wide_mul (a := 64) (b := 64) (by omega) (by omega) (by decide) (by decide) (by decide), fin2 _ _ (fun _ _ e => e) ⟨z * t, ?_, rfl⟩⟩⟩
                  unfold mulZ
                  rw [List.getElem?_map, gz]
                  rfl
                · intro acc H8 a1 a2 s8 hR8
                  have ea : acc = (mulZ t ra).map V.int := acc_map (by rw [a1]; simp [mulZ]) hR8
                  refine ⟨_, rfl, _, rfl, L, us, _, x, rfl, rfl, s8 _ _ g6, ix_at (by omega), ?_⟩
                  exact fin _ D H8 s8 hD (by rw [a2, ea]) (by simp [mulZ, lra]) (mulZ_b ⟨t0, by omega⟩ bra) (span_mul hra huu)
              · exact ⟨_, _, _, _, us, A, rfl, b7, P6.le (by omega), g6, hU6, lA3, hw3, fun r hr z hz => Nat.le_trans (hB3 r hr z hz) (by omega), hs3⟩
            · refine iteNN (fun z => hxy (by injection z with z; omega)) ?_
              refine ⟨_, rfl, _, rfl, L, us, _, _, rfl, rfl, SqL.of g6, atI_nat ua, _, rfl, _, rfl, L, us, _, _, rfl, rfl, SqL.of g6, atI_nat ub, qa, qb, _, _, rfl, SqL.of ha, SqL.of hb, fun D hD => lc_rel (ZM.walk_two (n := w) (by simp [lra, lrb])) hD (by omega) (fun j v _ => ∃ z, (addZ t ra rb)[j]? = some z ∧ v = .int z) (fun j v H H' h _ => h) (fun H' e => ⟨SqL.of (e _ _ ha), SqL.of (e _ _ hb)⟩) ?_ ?_⟩
              · rintro j v H8 H8' Fn Nn fin2 hj s8 hacc ⟨T2, v1, v2, rfl, hT2, rfl, hv1, hv2⟩
                obtain ⟨z1, gz1, rfl⟩ := at_ints hv1
                obtain ⟨z2, gz2, rfl⟩ := at_ints hv2
                have h2 := brb z2 (List.mem_of_getElem? gz2)
                refine ⟨T2, _, rfl, SqT.of upd_same, rfl, _, _, rfl, _, _, rfl, rfl, rfl, yesT ⟨_, rfl, _, rfl, _, rfl, _, _, rfl, rfl, wide_mul (a := 64) (b := 64) (by omega) (by omega) (by decide) (by decide) (by decide), _, _, rfl, rfl, fin2 _ _ (same_upd hT2) ⟨_, ?_, rfl⟩⟩⟩
                unfold addZ
                rw [List.getElem?_zipWith, gz1, gz2]
              · intro acc H8 a1 a2 s8 hR8
                have ea : acc = (addZ t ra rb).map V.int := acc_map (by rw [a1]; simp [addZ, lra, lrb]) hR8
                refine ⟨_, rfl, _, rfl, L, us, _, x, rfl, rfl, s8 _ _ g6, ix_at (by omega), ?_⟩
                exact fin _ D H8 s8 hD (by rw [a2, ea]) (by simp [addZ, lra, lrb]) (addZ_b ⟨t0, by omega⟩ bra brb) (span_add hxy hra hrb (by omega))
          · rintro σ H3 ⟨x4, x5, x6, x7, us, A, rfl, b3, P3, g3, hU3, lA3, hw3, hB3, hs3⟩
            exact hD' _ _ ⟨_, _, _, _, us, A, rfl, b3, P3.le (by omega), g3, hU3, lA3, hw3, hB3, hs3⟩
        · refine ⟨_, rfl, a, vs, rfl, .inl (SqK.same (t := false) hv s2), _, _, rfl, rfl, false, congrArg V.bl (decide_eq_false (by omega)), iteF ?_⟩
          refine ⟨(0 : Int), rfl, by decide, by decide, ?_⟩
          refine for_it (walk_range (lo := 0) (n := 0)) (fun i σ H' => σ = [some (.ref p), some (.int M), some (.ref a), some (.ref L), none, none, none, none, none, none, none, none] ∧ H' = H2) ⟨rfl, rfl⟩ (fun _ _ _ _ _ => trivial) (fun i _ _ _ _ hi => absurd hi (Nat.not_lt_zero _)) ?_
          rintro σ H3 ⟨rfl, rfl⟩
          exact hD' _ _ ⟨_, _, _, _, us, A0, rfl, .of_same s2, P2.le (by omega), g2, hU, rfl, hAw, fun r hr x hx => Nat.le_trans (hB r hr x hx) (by decide), fun _ => Iff.rfl⟩
      rintro σ H3 ⟨x4, x5, x6, x7, us, A, rfl, b3, P3, g3, hU3, lA3, hw3, hB3, hs3⟩
      have hul : us.length = A.length := hU3.1
      refine ⟨_, rfl, L, us, rfl, SqL.of g3, fun p2 np2 => ?_⟩
      have sr : Same H3 (upd H3 p2 (.lst us.reverse)) := same_upd np2
      have gr : (upd H3 p2 (.lst us.reverse)) p2 = some (.lst us.reverse) := upd_same
      have hp2 : p2 ≠ p := fun z => by
        obtain ⟨o, ho⟩ := P3.some
        rw [z, ho] at np2
        cases np2
      generalize upd H3 p2 (.lst us.reverse) = H4 at sr gr ⊢
      refine ⟨_, rfl, _, rfl, ?_⟩
      dsimp only [tNil, tCons, tC]
      refine draw_read (P3.same sr) (by omega) (by omega) (by omega) fun d H5 d0 d1 P5 b5 => ?_
      obtain ⟨dn, rfl⟩ : ∃ dn : Nat, d = dn := ⟨d.toNat, by omega⟩
      have g5 := b5 _ _ hLp (sr _ _ g3)
      have gr5 := b5 _ _ hp2 gr
      refine ⟨(dn : Int), rfl, L, us, rfl, SqL.of g5, fun q5 nq5 => ⟨p2, q5, us.reverse, us.take dn, rfl, rfl, same_upd nq5 _ _ gr5, ?_, ?_, fun p6 np6 => ?_⟩⟩
      · rw [cut_take]
        exact upd_same
      · simp
        exact Nat.le_trans (by omega) (show 20 ≤ sizeLine by decide)
      · rw [cut_take] at np6 ⊢
        have s7 : Same H5 (upd (upd H5 q5 (.lst (us.take dn))) p6 (.lst (us.reverse ++ us.take dn))) := same_trans (same_upd nq5) (same_upd np6)
        have g7 : (upd (upd H5 q5 (.lst (us.take dn))) p6 (.lst (us.reverse ++ us.take dn))) p6 = some (.lst (us.reverse ++ us.take dn)) := upd_same
        generalize upd (upd H5 q5 (.lst (us.take dn))) p6 (.lst (us.reverse ++ us.take dn)) = H7 at s7 g7 ⊢
        have hU4 : ObsAre .lst L H4 us A := hU3.mono fun b o _ e => sr b o e
        have hU7 : ObsAre .lst L H7 us A := (hU4.pen b5 (P3.same sr) (fun _ _ z => by cases z)).mono fun b o _ e => s7 b o e
        have hUr := hU7.rev.app (hU7.take dn)
        have b7 : But p H H7 := (b3.trans ((But.of_same sr).trans b5)).same s7
        have hlr : (us.reverse ++ us.take dn).length = (A.reverse ++ A.take dn).length := hUr.1
        have hll : (A.reverse ++ A.take dn).length ≤ 20 := by
          rw [List.length_append, List.length_reverse, List.length_take]
          omega
        have hmem : ∀ r ∈ A.reverse ++ A.take dn, r ∈ A := fun r hr => by
          rcases List.mem_append.mp hr with h | h
          · exact List.mem_reverse.mp h
          · exact List.mem_of_mem_take h
        refine ⟨_, rfl, p6, rfl, ⟨_, SqL.of g7⟩, fun D hD => lc_rows (K := K) (walk_list (xs := us.reverse ++ us.take dn)) hD (by omega) (A.reverse ++ A.take dn) hlr.symm (fun H' e => SqL.of (e _ _ g7)) ?_ fun acc H8 e8 s8 hR8 => k D H8 _ (b7.same s8) ((P5.same (same_trans s7 s8)).le (by omega)) ⟨acc, SqL.of e8, hR8⟩ hll (fun r hr => hw3 r (hmem r hr)) (fun r hr z hz => ?_) fun v => (InS.iffG (rw_rev A dn) v).trans (hs3 v)⟩
        · rintro i r x H8 H8' Fn Nn hi hr3 fin s8 ⟨rfl, hx⟩
          obtain ⟨q, e1, _, e3⟩ := hUr.2 i r hr3
          rw [e1] at hx
          cases hx
          exact ⟨rfl, yesT ⟨_, rfl, q, _, rfl, .inl ⟨SqL.of (s8 _ _ e3), fun u nu => fin u _ (same_upd nu) upd_same⟩⟩⟩
        · have := hB3 r (hmem r hr) z hz
          have e : 100 * 13 ^ 4 = 2856100 := by decide
          show z.natAbs < 2 ^ 200
          exact Nat.lt_of_le_of_lt (show _ ≤ 2856100 by omega) (by decide)
end
end Wk

namespace Wk
open PySem L2
abbrev s_law : Stmt := top 19
theorem sc_law : FnScope ["_law_script", "_law_pen", "_law_turn", "_law_modulus", "_law_width", "_law_rows", "_law_span_here", "_law_form", "_law_shifted", "_law_row", "_law_number"] ["_law_script"] (defScope s_law) := ⟨rfl, rfl, rfl, by decide +kernel, rfl, by decide +kernel, by decide +kernel⟩

theorem howell_form {M : Int} (hM : 2 ≤ M) {w : Nat} {A : Mat} {S : List (Option Row)} (hA : ∀ r ∈ A, r.length = w) (p : PutsL M w 0 A A.length S) : HF M w (settle M w S w) ∧ ∀ v, InS M w (GF (settle M w S w) 0) v ↔ InS M w (RW A) v := by
  have wf := p.wf hM hA
  refine ⟨settle_hf hM wf rfl (p.span hM hA).2, fun v => ?_⟩
  rw [settle_span hM wf (Nat.le_refl _) w (Nat.le_refl _) 0 (by omega) v]
  exact p.iff hM hA v
theorem form_one {M : Int} (hM : 2 ≤ M) {w : Nat} {A A' : Mat} {S S' : List (Option Row)} (hA : ∀ r ∈ A, r.length = w) (hA' : ∀ r ∈ A', r.length = w) (p : PutsL M w 0 A A.length S) (p' : PutsL M w 0 A' A'.length S') (e : ∀ v, InS M w (RW A') v ↔ InS M w (RW A) v) : settle M w S' w = settle M w S w := by
  obtain ⟨h1, h2⟩ := howell_form hM hA p
  obtain ⟨g1, g2⟩ := howell_form hM hA' p'
  exact g1.unique hM h1 fun v => (g2 v).trans ((e v).trans (h2 v).symm)
theorem span_all {M : Int} (hM : 2 ≤ M) {w : Nat} {A : Mat} {L : List Row} (hA : ∀ r ∈ A, r.length = w) (hL : ∀ v, v ∈ L ↔ v.length = w ∧ RRed M v ∧ InS M w (RW A) (fn v)) (v : Vec) : InS M w (RW L) v ↔ InS M w (RW A) v := by
  refine ⟨fun h => h.trans fun u ⟨r, hr, e⟩ => e ▸ ((hL r).mp hr).2.2, fun h => h.trans fun u ⟨r, hr, e⟩ => ?_⟩
  subst e
  obtain ⟨m1, m2, m3⟩ := rowMod_ok (show 1 ≤ M by omega) w (fn r)
  have g : InS M w (RW A) (fn r) := .of ⟨r, hr, rfl⟩
  have hm : rowMod M w (fn r) ∈ L := (hL _).mpr ⟨m1, m2, g.congr fun j hj => by rw [m3 j hj]; exact Eqm.mod _ _⟩
  exact InS.congr (.of ⟨_, hm, rfl⟩) fun j hj => by rw [m3 j hj]; exact (Eqm.mod _ _).symm
theorem rw_gf {F : List (Nat × Row)} (u : Vec) : RW (F.map (·.2)) u ↔ GF F 0 u := by
  constructor
  · rintro ⟨r, hr, rfl⟩
    obtain ⟨b, hb, rfl⟩ := List.mem_map.mp hr
    exact ⟨b.1, b.2, hb, Nat.zero_le _, rfl⟩
  · rintro ⟨q, s, hq, _, rfl⟩
    exact ⟨s, List.mem_map.mpr ⟨(q, s), hq, rfl⟩, rfl⟩
theorem RowsAre.take {K : PySem.W.Frag} {H : Hp} : ∀ {vs : List V} {A : Mat} (n : Nat), RowsAre K H vs A → RowsAre K H (vs.take n) (A.take n)
  | _, _, 0, _ => by simpa using RowsAre.nil
  | _, _, n + 1, .nil => by simpa using RowsAre.nil
  | _, _, n + 1, .cons h r => .cons h (r.take n)
theorem pick_list {α β : Type} {A : List α} {R : Nat → α → β → Prop} (h : ∀ (i : Nat) (a : α), A[i]? = some a → ∃ b, R i a b) : ∃ B : List β, B.length = A.length ∧ ∀ (i : Nat) (a : α), A[i]? = some a → ∃ b, B[i]? = some b ∧ R i a b := by
  have : ∀ n, n ≤ A.length → ∃ B : List β, B.length = n ∧ ∀ (i : Nat) (a : α), i < n → A[i]? = some a → ∃ b, B[i]? = some b ∧ R i a b := by
    intro n
    induction n with
    | zero => exact fun _ => ⟨[], rfl, fun i a h => absurd h (Nat.not_lt_zero _)⟩
    | succ n ih =>
      intro hn
      obtain ⟨B, l', h'⟩ := ih (by omega)
      obtain ⟨b, g1⟩ := h n _ (List.getElem?_eq_getElem (by omega))
      refine ⟨B ++ [b], by simp [l'], fun i a hi ha => ?_⟩
      rcases Nat.lt_succ_iff_lt_or_eq.mp hi with z | z
      · obtain ⟨b2, y1, y2⟩ := h' i a z ha
        exact ⟨b2, by rw [List.getElem?_append_left (by omega)]; exact y1, y2⟩
      · subst z
        rw [List.getElem?_eq_getElem (by omega)] at ha
        cases ha
        exact ⟨b, by rw [← l']; simp, g1⟩
  obtain ⟨B, l', h'⟩ := this _ (Nat.le_refl _)
  exact ⟨B, l', fun i a ha => h' i a (List.getElem?_eq_some_iff.mp ha).1 ha⟩
theorem meq_span {M : Int} {w : Nat} {A A' : Mat} (e : MEq M A A') (hA : ∀ r ∈ A, r.length = w) (v : Vec) : InS M w (RW A') v ↔ InS M w (RW A) v := by
  have key : ∀ (i : Nat) (r : Row), A[i]? = some r → ∃ r', A'[i]? = some r' ∧ ∀ j, j < w → Eqm M (fn r' j) (fn r j) := fun i r h => by
    obtain ⟨r', h1, h2, h3⟩ := e.2 i r h
    have hl := hA r (List.mem_of_getElem? h)
    refine ⟨r', h1, fun j hj => ?_⟩
    obtain ⟨y, hy, hyx⟩ := h3 j _ (at_fn (by omega))
    rw [fn_at hy]
    exact hyx
  constructor
  · refine fun h => h.trans fun u ⟨r', hr', hu⟩ => ?_
    subst hu
    obtain ⟨i, hi⟩ := List.mem_iff_getElem?.mp hr'
    have hil : i < A.length := by
      rw [← e.1]
      exact (List.getElem?_eq_some_iff.mp hi).1
    obtain ⟨r2, h1, h2⟩ := key i _ (List.getElem?_eq_getElem hil)
    rw [hi] at h1
    cases h1
    exact InS.congr (.of ⟨_, List.getElem_mem hil, rfl⟩) h2
  · refine fun h => h.trans fun u ⟨r, hr, hu⟩ => ?_
    subst hu
    obtain ⟨i, hi⟩ := List.mem_iff_getElem?.mp hr
    obtain ⟨r2, h1, h2⟩ := key i _ hi
    exact InS.congr (.of ⟨_, List.mem_of_getElem? h1, rfl⟩) fun j hj => (h2 j hj).symm
/-- rows, all that they span, their form -/
def Mid (K : PySem.W.Frag) (a p c : Addr) (ns : List Int) (n : Nat) (tn : V) (M : Int) (σ : L2.St) (H : Hp) : Prop := ∃ (w : Nat) (lR d qF : Addr) (A : Mat) (S : List (Option Row)) (x8 : Option V),
  σ = [some (.ref a), some (.ref p), some tn, some (.int M), some (.int (w : Int)), some (.ref lR), some (.ref d), some (.ref qF), x8, none, none] ∧ Pen H p c ns n ∧ 1 ≤ w ∧ w ≤ 3 ∧ A.length ≤ 4 ∧
  RowsIn false K H lR A ∧ (∀ r ∈ A, r.length = w) ∧ MRed M A ∧ PutsL M w 0 A A.length S ∧ H d = some (.dT (dictOf (spanD M w A A.length))) ∧ MatAt K H qF ((settle M w S w).map (·.2))
section
variable {P : Program} {w : World} {K : PySem.W.Frag} {mg : Str → Option Value} {base : Heap}
theorem law_run {f : Addr} {fd : FuncData} (F : Fun K "law" "law" s_law f fd) (hb : ∀ (s : Shared) (u : Value), BindsTo s fd ⟨[u], []⟩ [("_law_script", u)]) (T : TxtL mg)
    (d1 : Dn P w K mg base CX0 1 "_law_pen_of" ["_law_script"] (spPen K)) (d2 : Dn P w K mg base CX0 1 "_law_draw" ["_law_pen", "_law_many"] spDraw)
    (d4 : Dn P w K mg base CX0 2 "_law_matrix_of" ["_law_pen", "_law_modulus", "_law_height", "_law_width"] (spMat K)) (d6 : Dn P w K mg base CX0 1 "_law_span" ["_law_modulus", "_law_rows", "_law_width"] (spSpan K))
    (d7 : Dn P w K mg base CX0 2 "_law_is_howell" ["_law_modulus", "_law_form", "_law_span_here", "_law_width"] (spIsHowell K)) (d8 : Dn P w K mg base CX0 2 "_law_other_rows" ["_law_pen", "_law_modulus", "_law_rows"] (spOther K)) (d9 : Dn P w K mg base CX0 4 "howell" ["modulus", "rows", "width"] (spHowell K)) (d10 : Dn P w K mg base CX0 5 "span_size" ["modulus", "rows", "width"] (spSpanSize K))
    {s : Shared} {H : Hp} {a : Addr} {ns : List Int} (e0 : Env0 P w K mg base callerA [] s H) (hL : SqL K H a (ns.map V.int)) : codeAny (model P w) callerA (.call (.ref f) ⟨[.ref a], []⟩) (CR CX0 [] P w H s (fun v _ => v = .bl true) E0) s := by
  obtain ⟨f1, fd1, G__law_pen_of, g__law_pen_of, kp__law_pen_of, b__law_pen_of⟩ := d1.ex
  obtain ⟨f2, fd2, G__law_draw, g__law_draw, kp__law_draw, b__law_draw⟩ := d2.ex
  obtain ⟨f4, fd4, G__law_matrix_of, g__law_matrix_of, kp__law_matrix_of, b__law_matrix_of⟩ := d4.ex
  obtain ⟨f6, fd6, G__law_span, g__law_span, kp__law_span, b__law_span⟩ := d6.ex
  obtain ⟨f7, fd7, G__law_is_howell, g__law_is_howell, kp__law_is_howell, b__law_is_howell⟩ := d7.ex
  obtain ⟨f8, fd8, G__law_other_rows, g__law_other_rows, kp__law_other_rows, b__law_other_rows⟩ := d8.ex
  obtain ⟨f9, fd9, G_howell, g_howell, kp_howell, b_howell⟩ := d9.ex
  obtain ⟨f10, fd10, G_span_size, g_span_size, kp_span_size, b_span_size⟩ := d10.ex
  obtain ⟨oc, od, kV, doc, pm, an, cdv, ct, osl, rfl, lk, hcd⟩ := F.ex
  refine LamX.run_ofS (k := 6) (us := [.ref a]) (vs := [.ref a]) lk hcd sc_law ⟨rfl, by decide, by decide⟩ e0 (hb s (.ref a)) (.cons rfl .nil) rfl fun hr => ?_
  have hu := hu_of hr
  refine ⟨_, PSs.nox ((pss_cons (ps_set (i := 1) sc_law.nd rfl (Or.inr rfl) (pe_call G__law_pen_of (hr.mono (by decide)) rfl g__law_pen_of kp__law_pen_of b__law_pen_of .nil pass0 (pa_cons (pv 0) pa_nil)))
        (pss_cons (ps_for PassesOwn.never rfl (pi_range1 rfl T.f_range (pa_cons pe_int pa_nil)) (pg_name (i := 2) sc_law.nd rfl (Or.inl rfl)) (pss_cons (ps_set (i := 3) sc_law.nd rfl (Or.inr rfl) (pe_op op_add pe_int (pe_call G__law_draw (hr.mono (by decide)) rfl g__law_draw kp__law_draw b__law_draw .nil pass0 (pa_cons (pv 1) (pa_cons pe_int pa_nil)))))
        (pss_cons (ps_set (i := 4) sc_law.nd rfl (Or.inl rfl) (pe_op op_add pe_int (pe_call G__law_draw (hr.mono (by decide)) rfl g__law_draw kp__law_draw b__law_draw .nil pass0 (pa_cons (pv 1) (pa_cons (pe_ifExp (pt_cmpR op_lt (pv 3) pe_int (nomark _)) pe_int pe_int) pa_nil)))))
        (pss_cons (ps_set (i := 5) sc_law.nd rfl (Or.inl rfl) (pe_slice sl_list (pe_callTy (call_listK (K := K) rfl) rfl T.f_list (by decide +kernel) (pa_cons (pe_call G__law_matrix_of (hr.mono (by decide)) rfl g__law_matrix_of kp__law_matrix_of b__law_matrix_of .nil pass0 (pa_cons (pv 1) (pa_cons (pv 3) (pa_cons pe_int (pa_cons (pv 4) pa_nil))))) pa_nil)) po_none (po_some (pe_call G__law_draw (hr.mono (by decide)) rfl g__law_draw kp__law_draw b__law_draw .nil pass0 (pa_cons (pv 1) (pa_cons pe_int pa_nil))))))
        (pss_cons (ps_set (i := 6) sc_law.nd rfl (Or.inl rfl) (pe_call G__law_span (hr.mono (by decide)) rfl g__law_span kp__law_span b__law_span .nil pass0 (pa_cons (pv 3) (pa_cons (pv 5) (pa_cons (pv 4) pa_nil)))))
        (pss_cons (ps_set (i := 7) sc_law.nd rfl (Or.inl rfl) (pe_call G_howell (hr.mono (by decide)) rfl g_howell kp_howell b_howell .nil pass0 (pa_cons (pv 3) (pa_cons (pv 5) (pa_cons (pv 4) pa_nil)))))
        (pss_cons (ps_if (PW.pt (pw_or (pt_not (pt_val (pe_call G__law_is_howell (hr.mono (by decide)) rfl g__law_is_howell kp__law_is_howell b__law_is_howell .nil pass0 (pa_cons (pv 3) (pa_cons (pv 7) (pa_cons (pv 6) (pa_cons (pv 4) pa_nil))))))) (pw_or1 (pt_cmpR op_ne (pe_call G_span_size (hr.mono (by decide)) rfl g_span_size kp_span_size b_span_size .nil pass0 (pa_cons (pv 3) (pa_cons (pe_callTy (call_tupleK (K := K) rfl) rfl T.f_tuple (by decide +kernel) (pa_cons (pv 5) pa_nil)) (pa_cons (pv 4) pa_nil)))) (pe_callB call_len_dT rfl T.f_len PySem.boot_len (pa_cons (pv 6) pa_nil)) (nomark _))))) (pss_one (ps_ret pe_bl)) pss_nil)
        (pss_cons (ps_setLc (i := 8) (own := [("_law_row", 9)]) (g := gName 9) rfl sc_law.nd rfl rfl (sw_true rfl rfl rfl (by decide +kernel)) (pi_list (pv 5)) (blkOk_by (N := ["_law_script", "_law_pen", "_law_turn", "_law_modulus", "_law_width", "_law_rows", "_law_span_here", "_law_form", "_law_shifted", "_law_row", "_law_number"]) (sc := defScope s_law) (by decide +kernel)) (fun _ _ _ _ _ => (pg_name (i := 9) sc_law.nd rfl (Or.inl rfl))) (fun _ _ _ _ _ => pts_nil) (fun _ _ _ _ _ => (pe_callTy (call_tupleK (K := K) rfl) rfl T.f_tuple (by decide +kernel) (pa_cons (pe_lc (own := [("_law_number", 10)]) (g := gName 10) rfl sc_law.nd (pi_tupK (K := K) rfl (pv 9)) (blkOk_by (N := ["_law_script", "_law_pen", "_law_turn", "_law_modulus", "_law_width", "_law_rows", "_law_span_here", "_law_form", "_law_shifted", "_law_row", "_law_number"]) (sc := relS _ (defScope s_law)) (by decide +kernel)) (fun _ _ _ _ _ => (pg_name (i := 10) sc_law.nd rfl (Or.inl rfl))) (fun _ _ _ _ _ => pts_nil) (fun _ _ _ _ _ => (pe_op op_sub (pv 10) (pe_op op_mulW (pv 3) (pe_call G__law_draw (hr.mono (by decide)) rfl g__law_draw kp__law_draw b__law_draw .nil pass0 (pa_cons (pv 1) (pa_cons pe_int pa_nil))))))) pa_nil))))
        (pss_cons (ps_if (pt_cmpR (op_neD hr.units) (pe_call G_howell (hr.mono (by decide)) rfl g_howell kp_howell b_howell .nil pass0 (pa_cons (pv 3) (pa_cons (pe_call G__law_other_rows (hr.mono (by decide)) rfl g__law_other_rows kp__law_other_rows b__law_other_rows .nil pass0 (pa_cons (pv 1) (pa_cons (pv 3) (pa_cons (pv 8) pa_nil)))) (pa_cons (pv 4) pa_nil)))) (pv 7) (nomark _)) (pss_one (ps_ret pe_bl)) pss_nil)
        (pss_one (ps_if (PW.pt (pw_or (pt_cmpR (op_neD hr.units) (pe_call G_howell (hr.mono (by decide)) rfl g_howell kp_howell b_howell .nil pass0 (pa_cons (pv 3) (pa_cons (pv 7) (pa_cons (pv 4) pa_nil)))) (pv 7) (nomark _)) (pw_or1 (pt_cmpR (op_neD hr.units) (pe_call G_howell (hr.mono (by decide)) rfl g_howell kp_howell b_howell .nil pass0 (pa_cons (pv 3) (pa_cons (pe_callTy (call_list_dT rfl) rfl T.f_list (by decide +kernel) (pa_cons (pv 6) pa_nil)) (pa_cons (pv 4) pa_nil)))) (pv 7) (nomark _))))) (pss_one (ps_ret pe_bl)) pss_nil)))))))))))
        (pss_one (ps_ret (pe_and (pe_cmpR (op_eqD hr.units) (pe_call G_howell (hr.mono (by decide)) rfl g_howell kp_howell b_howell .nil pass0 (pa_cons pe_int (pa_cons (pe_lst pa_nil) (pa_cons pe_int pa_nil)))) (pe_tup pa_nil) (nomark _)) (pe_one (pe_cmpR op_eq (pe_call G_span_size (hr.mono (by decide)) rfl g_span_size kp_span_size b_span_size .nil pass0 (pa_cons pe_int (pa_cons (pe_lst pa_nil) (pa_cons pe_int pa_nil)))) pe_int (nomark _))))))))), ?_⟩
  -- the pen
  refine ⟨_, rfl, a, ns, rfl, hL, fun p c ns' H1 s1 P1 => ?_⟩
  refine ⟨(6 : Int), rfl, by decide, by decide, ?_⟩
  refine for_it (walk_range (lo := 0) (n := 6)) (fun i σ H' => ∃ (x2 x3 x4 x5 x6 x7 x8 : Option V), σ = [some (.ref a), some (.ref p), x2, x3, x4, x5, x6, x7, x8, none, none] ∧ Pen H' p c ns' (2000 * i)) ⟨none, none, none, none, none, none, none, rfl, ⟨0, 0, P1, by decide⟩⟩ (fun _ _ _ _ _ => trivial) ?_ ?_
  · rintro i v σ H2 H2' hi ⟨x2, x3, x4, x5, x6, x7, x8, rfl, P2⟩ ⟨rfl, rfl⟩
    refine lp_cut (fun σ H => ∃ M : Int, σ = [some (.ref a), some (.ref p), some (.int (0 + (i : Int))), some (.int M), x4, x5, x6, x7, x8, none, none] ∧ Pen H p c ns' (2000 * i + 1) ∧ 2 ≤ M ∧ M ≤ 12) (fun D' hD' => ?_) ?_
    · refine ⟨_, rfl, ?_⟩
      dsimp only [tNil, tCons, tC]
      exact draw_read P2 (by omega) (by omega) (by omega) fun d H4 d0 d1 P4 b4 => ⟨_, _, rfl, rfl, hD' _ _ ⟨2 + d, rfl, P4, by omega, by omega⟩⟩
    clear P2
    rintro σ H3 ⟨M, rfl, P3, hM, hM2⟩
    refine seq_cut (fun σ H => ∃ w : Nat, σ = [some (.ref a), some (.ref p), some (.int (0 + (i : Int))), some (.int M), some (.int (w : Int)), x5, x6, x7, x8, none, none] ∧ Pen H p c ns' (2000 * i + 2) ∧ 1 ≤ w ∧ w ≤ 3) (fun D' hD' => ?_) ?_
    · refine ⟨_, rfl, if_const (fun K kb => ⟨_, rfl, _, _, rfl, rfl, _, rfl, kb _⟩) fun v hv => ?_⟩
      obtain ⟨m0, rfl, h0, h1⟩ : ∃ m0 : Int, v = .int m0 ∧ 1 ≤ m0 ∧ m0 ≤ 3 := by
        rcases hv with rfl | rfl <;> exact ⟨_, rfl, by decide, by decide⟩
      dsimp only [tNil, tCons, tC]
      refine draw_read P3 (by omega) (by omega) (by omega) fun d H4 d0 d1 P4 b4 => ⟨_, _, rfl, rfl, hD' _ _ ⟨(1 + d).toNat, ?_, P4, by omega, by omega⟩⟩
      rw [show (((1 + d).toNat : Nat) : Int) = 1 + d by omega]
      rfl
    clear P3
    rintro σ H3 ⟨n, rfl, P3, w1, w3⟩
    refine seq_cut (fun σ H => ∃ (lR : Addr) (A : Mat), σ = [some (.ref a), some (.ref p), some (.int (0 + (i : Int))), some (.int M), some (.int (n : Int)), some (.ref lR), x6, x7, x8, none, none] ∧ Pen H p c ns' (2000 * i + 210) ∧ RowsIn false K H lR A ∧ A.length ≤ 4 ∧ (∀ r ∈ A, r.length = n) ∧ MRed M A) (fun D' hD' => ?_) ?_
    · refine ⟨_, rfl, _, rfl, _, rfl, p, c, ns', _, 4, n, M, rfl, P3, by omega, by omega, by omega, by omega, by omega, fun q H4 A b4 P4 hA sA rA _ => ?_⟩
      obtain ⟨vs, hv, hR⟩ := hA
      refine ⟨q, vs, rfl, .inr hv, fun l nl => ?_⟩
      have P5 := P4.same (same_upd (o := .lst vs) nl)
      have g5 : (upd H4 l (.lst vs)) l = some (.lst vs) := upd_same
      have hR5 := hR.same (same_upd (o := .lst vs) nl)
      have hlp : l ≠ p := fun z => by
        obtain ⟨o, ho⟩ := P4.some
        rw [z, ho] at nl
        cases nl
      generalize upd H4 l (.lst vs) = H5 at P5 g5 hR5 ⊢
      refine ⟨_, rfl, ?_⟩
      dsimp only [tNil, tCons, tC]
      refine draw_read P5 (by omega) (by omega) (by omega) fun d H6 d0 d1 P6 b6 => ?_
      obtain ⟨dn, rfl⟩ : ∃ dn : Nat, d = dn := ⟨d.toNat, by omega⟩
      refine ⟨(dn : Int), rfl, l, vs, rfl, SqL.of (b6 _ _ hlp g5), fun q7 nq7 => hD' _ _ ⟨q7, A.take dn, rfl, (P6.same (same_upd nq7)).le (by omega), ⟨vs.take dn, SqL.of (by rw [upd_same, cut_take]), ((hR5.pen b6 P5).take dn).same (same_upd nq7)⟩, ?_, fun r hr => sA.2 r (List.mem_of_mem_take hr), fun r hr => rA r (List.mem_of_mem_take hr)⟩⟩
      rw [List.length_take, sA.1]
      omega
    clear P3
    rintro σ H3 ⟨lR, A, rfl, P3, hR, lA, hAw, rA⟩
    have wA : MWd A := fun r hr => rred_wd (rA r hr) (by omega)
    -- all that they span
    refine seq_cut (fun σ H => ∃ (d : Addr), σ = [some (.ref a), some (.ref p), some (.int (0 + (i : Int))), some (.int M), some (.int (n : Int)), some (.ref lR), some (.ref d), x7, x8, none, none] ∧ Pen H p c ns' (2000 * i + 210) ∧ RowsIn false K H lR A ∧ H d = some (.dT (dictOf (spanD M n A A.length)))) (fun D' hD' => ?_) ?_
    · exact ⟨_, rfl, _, rfl, _, rfl, false, M, lR, A, n, rfl, hM, hM2, hR, by omega, by omega, hAw, wA, fun d H4 s4 nd hd => hD' _ _ ⟨d, rfl, P3.same s4, hR.same s4, hd⟩⟩
    clear P3 hR
    rintro σ H3 ⟨d, rfl, P3, hR, hd⟩
    refine seq_cut (Mid K a p c ns' (2000 * i + 210) (.int (0 + (i : Int))) M) (fun D' hD' => ?_) ?_
    · exact ⟨_, rfl, _, rfl, _, rfl, false, M, lR, A, n, rfl, hM, by omega, hR, by omega, by omega, hAw, fun S hS q H4 s4 hq => hD' _ _ ⟨n, lR, d, q, A, S, _, rfl, P3.same s4, w1, w3, lA, hR.same s4, hAw, rA, hS, s4 _ _ hd, hq⟩⟩
    clear P3 hR hd wA rA hAw lA w1 w3
    intro σ H3 mid
    refine seq_cut (Mid K a p c ns' (2000 * i + 210) (.int (0 + (i : Int))) M) (fun D' hD' => ?_) ?_
    · obtain ⟨w, lR, d, qF, A, S, x8, rfl, P3, w1, w3, lA, hR, hAw, rA, hS, hd, hF⟩ := mid
      obtain ⟨hf, hsp⟩ := howell_form hM hAw hS
      have hnod := spanD_nodup M w A A.length
      have hLm := fun v => (spanD_iff hM hAw (v := v)).trans (show _ ↔ v.length = w ∧ RRed M v ∧ InS M w (GF (settle M w S w) 0) (fn v) by rw [hsp])
      have hLl : (spanD M w A A.length).length ≤ 12 ^ 4 := Nat.le_trans (spanD_len (show (M - 1).toNat ≤ 11 by omega) w A A.length) (Nat.pow_le_pow_right (by decide) lA)
      refine ⟨_, rfl, _, rfl, _, rfl, _, rfl, M, qF, d, w, settle M w S w, _, rfl, hM, hM2, hF, hf, hd, hnod, hLm, w1, by omega, Nat.le_trans hLl (by decide), fun H4 s4 => ⟨_, rfl, iteF ?_⟩⟩
      obtain ⟨vs, hv, hRa⟩ := id (hR.same s4)
      refine ⟨_, rfl, _, rfl, lR, vs, rfl, .inl ⟨hv, fun t1 nt1 => ⟨_, rfl, true, M, t1, A, w, rfl, hM, by omega, ⟨vs, SqT.of upd_same, hRa.same (same_upd nt1)⟩, by omega, by omega, hAw, fun S' H5 hS' s5 => ?_⟩⟩⟩
      have s6 := same_trans s4 (same_trans (same_upd (o := .tup vs) nt1) s5)
      have eS : settle M w S' w = settle M w S w := form_one hM hAw hAw hS hS' fun _ => Iff.rfl
      rw [eS, hf_size hM hf hnod hLm]
      refine ⟨_, rfl, d, _, rfl, s6 _ _ hd, rfl, _, rfl, iteNS (by rw [dictOf_len]) ?_⟩
      exact hD' _ _ ⟨w, lR, d, qF, A, S, _, rfl, P3.same s6, w1, w3, lA, hR.same s6, hAw, rA, hS, s6 _ _ hd, hF.same s6⟩
    clear mid
    intro σ H3 mid
    -- the same rows, some numbers shifted
    refine seq_cut (fun σ H => ∃ (w : Nat) (lR d qF qS : Addr) (A A' : Mat) (S : List (Option Row)), σ = [some (.ref a), some (.ref p), some (.int (0 + (i : Int))), some (.int M), some (.int (w : Int)), some (.ref lR), some (.ref d), some (.ref qF), some (.ref qS), none, none] ∧ Pen H p c ns' (2000 * i + 260) ∧ 1 ≤ w ∧ w ≤ 3 ∧ A.length ≤ 4 ∧
        (∀ r ∈ A, r.length = w) ∧ PutsL M w 0 A A.length S ∧ H d = some (.dT (dictOf (spanD M w A A.length))) ∧ MatAt K H qF ((settle M w S w).map (·.2)) ∧ RowsIn false K H qS A' ∧ A'.length = A.length ∧ (∀ r ∈ A', r.length = w) ∧ BM 100 A' ∧ ∀ v, InS M w (RW A') v ↔ InS M w (RW A) v) (fun D' hD' => ?_) ?_
    · obtain ⟨w, lR, d, qF, Am, S, x8, rfl, hP, w1, w3, lA, hR0, hAw, rA, hS, hd, hF⟩ := mid
      obtain ⟨vs, hv, hR⟩ := id hR0
      have hvl : vs.length = Am.length := hR.length
      refine ⟨_, rfl, lR, rfl, ⟨vs, hv⟩, fun D hD => lc_pen (walk_list (xs := vs)) 10 hP hD (by omega) (fun i v H' => ∃ (q : Addr) (r r' : List Int), v = .ref q ∧ q ≠ D ∧ q ≠ p ∧ Am[i]? = some r ∧ H' q = some (.tup (r'.map V.int)) ∧ r'.length = r.length ∧ (∀ x ∈ r', x.natAbs ≤ 100) ∧ ∀ (j : Nat) (x : Int), r[j]? = some x → ∃ y, r'[j]? = some y ∧ Eqm M y x) (fun i v H1 H2 ⟨q, r, r', e1, e2, e3, e4, e5, e6⟩ b => ⟨q, r, r', e1, e2, e3, e4, b _ _ e2 e3 e5, e6⟩) (fun H' b => SqK.pen (t := false) hv b hP) ?_ ?_⟩
      · rintro i v H1 H1' Fn Nn fin hi b1 P1 ⟨acc0, hacc⟩ ⟨rfl, hx⟩
        obtain ⟨q, r, rfl, hr, hq⟩ := rows_at hR hx
        have hq1 : SqT K H1' q (r.map V.int) := SqT.pen hq b1 hP
        have hrm := List.mem_of_getElem? hr
        have hrl := hAw _ hrm
        refine ⟨rfl, yesT ⟨_, rfl, q, rfl, ⟨_, hq1⟩, fun D2 hD2 => lc_pen (walk_tup (xs := r.map V.int)) 1 P1 hD2 (by simp; omega) (fun j v _ => ∃ x y : Int, r[j]? = some x ∧ v = .int y ∧ y.natAbs ≤ 100 ∧ Eqm M y x) (fun j v H H' h _ => h) (fun H' b => SqT.pen hq1 b P1) ?_ ?_⟩⟩
        · rintro j v H2 H2' Fn2 Nn2 fin2 hj b2 P2 hacc2 ⟨rfl, hy⟩
          obtain ⟨x, gx, rfl⟩ := at_ints hy
          have hx0 := rA r hrm x (List.mem_of_getElem? gx)
          refine ⟨rfl, yesT ⟨_, rfl, _, rfl, _, rfl, ?_⟩⟩
          have hj10 : j < 10 := by
            have : (r.map V.int).length ≤ 10 := by simp; omega
            omega
          dsimp only [tNil, tCons, tC]
          refine draw_read P2 (by omega) (by omega) (by omega) fun d H4 d0 d1 P4 b4 => ?_
          have hmw : 0 ≤ M * d ∧ M * d ≤ M := by
            refine ⟨Int.mul_nonneg (by omega) d0, ?_⟩
            have : M * d ≤ M * 1 := Int.mul_le_mul_of_nonneg_left (by omega) (by omega)
            omega
          refine ⟨_, _, rfl, rfl, wide_mul (a := 64) (b := 64) (by omega) (by omega) (by decide) (by decide) (by decide), _, _, rfl, rfl, fin2 _ _ b4 (P4.le (by omega)) ⟨x, _, gx, rfl, ?_, ⟨-d, ?_⟩⟩⟩
          · omega
          · grind
        · intro acc H2 a1 a2 b2 P2 hR2
          obtain ⟨r', hr', hrl', hrw, hre⟩ : ∃ r' : List Int, acc = r'.map V.int ∧ r'.length = r.length ∧ (∀ x ∈ r', x.natAbs ≤ 100) ∧ ∀ (j : Nat) (x : Int), r[j]? = some x → ∃ y, r'[j]? = some y ∧ Eqm M y x := by
            refine ⟨acc.map fun v => match v with | .int x => x | _ => 0, ?_, by simpa using a1, ?_, ?_⟩
            · apply List.ext_getElem?
              intro j
              rw [List.getElem?_map, List.getElem?_map]
              cases e : acc[j]? with
              | none => rfl
              | some v =>
                obtain ⟨x, y, _, rfl, _⟩ := hR2 j v e
                rfl
            · intro x hx
              obtain ⟨v, hv, rfl⟩ := List.mem_map.mp hx
              obtain ⟨j, e⟩ := List.mem_iff_getElem?.mp hv
              obtain ⟨x, y, _, rfl, h0, _⟩ := hR2 j v e
              exact h0
            · intro j x hj
              have hja : j < acc.length := by
                rw [a1, List.length_map]
                exact (List.getElem?_eq_some_iff.mp hj).1
              obtain ⟨x', y, g1, g2, _, g3⟩ := hR2 j _ (List.getElem?_eq_getElem hja)
              rw [hj] at g1
              cases g1
              exact ⟨y, by rw [List.getElem?_map, List.getElem?_eq_getElem hja, g2]; rfl, g3⟩
          refine ⟨D2, acc, rfl, .inl ⟨SqL.of a2, fun u nu => fin _ _ (b2.new nu) ((P2.same (same_upd nu)).le ?_) ⟨u, r, r', rfl, fun z => ?_, fun z => ?_, hr, by rw [upd_same, hr'], hrl', hrw, hre⟩⟩⟩
          · have : (r.map V.int).length ≤ 10 := by simp; omega
            omega
          · have hDp : D ≠ p := fun y => by
              obtain ⟨o, ho⟩ := hP.some
              rw [y, ho] at hD
              cases hD
            rw [z, b2 _ _ hDp hacc] at nu
            cases nu
          · obtain ⟨o, ho⟩ := P2.some
            rw [z, ho] at nu
            cases nu
      · intro acc H1 a1 a2 b1 P1 hR1
        have hget : ∀ (i : Nat) (r : List Int), Am[i]? = some r → ∃ (q : Addr) (r' : List Int), acc[i]? = some (.ref q) ∧ H1 q = some (.tup (r'.map V.int)) ∧ r'.length = r.length ∧ (∀ x ∈ r', x.natAbs ≤ 100) ∧ ∀ (j : Nat) (x : Int), r[j]? = some x → ∃ y, r'[j]? = some y ∧ Eqm M y x := fun i r hr => by
          have hi : i < acc.length := by
            rw [a1, hvl]
            exact (List.getElem?_eq_some_iff.mp hr).1
          obtain ⟨q, r0, r', e1, _, _, e2, e3, e4⟩ := hR1 i _ (List.getElem?_eq_getElem hi)
          rw [hr] at e2
          cases e2
          exact ⟨q, r', by rw [List.getElem?_eq_getElem hi, e1], e3, e4⟩
        obtain ⟨A', lA', hA'⟩ := pick_list (β := Row) (R := fun (i : Nat) (r r' : Row) => ∃ q, acc[i]? = some (.ref q) ∧ H1 q = some (.tup (r'.map V.int)) ∧ r'.length = r.length ∧ (∀ x ∈ r', x.natAbs ≤ 100) ∧ ∀ (j : Nat) (x : Int), r[j]? = some x → ∃ y, r'[j]? = some y ∧ Eqm M y x) fun i r hr => by
          obtain ⟨q, r', g⟩ := hget i r hr
          exact ⟨r', q, g⟩
        have back : ∀ (i : Nat) (r' : Row), A'[i]? = some r' → ∃ r q, Am[i]? = some r ∧ acc[i]? = some (.ref q) ∧ H1 q = some (.tup (r'.map V.int)) ∧ r'.length = r.length ∧ (∀ x ∈ r', x.natAbs ≤ 100) := fun i r' hr' => by
          have hi : i < Am.length := by
            rw [← lA']
            exact (List.getElem?_eq_some_iff.mp hr').1
          obtain ⟨r2, y1, q, y2, y3, y4, y5, _⟩ := hA' i _ (List.getElem?_eq_getElem hi)
          rw [hr'] at y1
          cases y1
          exact ⟨_, q, List.getElem?_eq_getElem hi, y2, y3, y4, y5⟩
        have me : MEq M Am A' := ⟨lA', fun i r hr => by
          obtain ⟨r2, y1, q, y2, y3, y4, y5, y6⟩ := hA' i r hr
          exact ⟨r2, y1, y4, y6⟩⟩
        have dkp : ∀ {o : HO}, H1 d = some o → True := fun _ => trivial
        have hd1 : H1 d = some (.dT (dictOf (spanD M w Am Am.length))) := by
          obtain ⟨c0, i0, l0, e0⟩ := hP.dk
          exact b1 _ _ (ne_of hd e0 (by intro z; cases z)) hd
        refine hD' _ _ ⟨w, lR, d, qF, D, Am, A', S, rfl, P1.le (by omega), w1, w3, lA, hAw, hS, hd1, hF.pen b1 hP, ⟨acc, SqL.of a2, rows_of (by rw [a1, hvl, lA']) fun i v r' e1 e2 => ?_⟩, lA', fun r' hr' => ?_, fun r' hr' => ?_, meq_span me hAw⟩
        · obtain ⟨r, q, y1, y2, y3, _⟩ := back i r' e2
          rw [y2] at e1
          cases e1
          exact ⟨q, rfl, SqT.of y3⟩
        · obtain ⟨i, e⟩ := List.mem_iff_getElem?.mp hr'
          obtain ⟨r, q, y1, y2, y3, y4, _⟩ := back i r' e
          rw [y4]
          exact hAw r (List.mem_of_getElem? y1)
        · obtain ⟨i, e⟩ := List.mem_iff_getElem?.mp hr'
          obtain ⟨r, q, y1, y2, y3, y4, y5⟩ := back i r' e
          exact y5
    clear mid
    rintro σ H3 ⟨w, lR, d, qF, qS, A, A', S, rfl, P3, w1, w3, lA, hAw, hS, hd, hF, hR', lA', hAw', hB', hsp'⟩
    obtain ⟨hf, hsp⟩ := howell_form hM hAw hS
    have hLm := fun v => (spanD_iff hM hAw (v := v))
    have hLl : (spanD M w A A.length).length ≤ 12 ^ 4 := Nat.le_trans (spanD_len (show (M - 1).toNat ≤ 11 by omega) w A A.length) (Nat.pow_le_pow_right (by decide) lA)
    have hp4 : 12 ^ 4 = 20736 := by decide
    have hFr : ∀ x ∈ (settle M w S w).map (·.2), x.length = w := fun x hx => by
      obtain ⟨b, hb, rfl⟩ := List.mem_map.mp hx
      exact (hf.row b.1 b.2 hb).2.1
    have hFl := hf.few
    -- the same form of other rows
    refine seq_cut (fun σ H => ∃ x5, σ = [some (.ref a), some (.ref p), some (.int (0 + (i : Int))), some (.int M), some (.int (w : Int)), x5, some (.ref d), some (.ref qF), some (.ref qS), none, none] ∧ Pen H p c ns' (2000 * i + 310) ∧ H d = some (.dT (dictOf (spanD M w A A.length))) ∧ MatAt K H qF ((settle M w S w).map (·.2))) (fun D' hD' => ?_) ?_
    · refine ⟨_, rfl, _, rfl, _, rfl, _, rfl, p, c, ns', _, w, M, qS, A', rfl, P3, by omega, hM, hM2, hR', by omega, by omega, hAw', hB', fun q H4 B b4 P4 hB lB hBw wB hBs => ?_⟩
      refine ⟨_, rfl, false, M, q, B, w, rfl, hM, by omega, hB, by omega, by omega, hBw, fun S' hS' q2 H5 s5 hq2 => ?_⟩
      have eS : settle M w S' w = settle M w S w := form_one hM hAw hBw hS hS' fun v => (hBs v).trans (hsp' v)
      have hF5 := (hF.pen b4 P3).same s5
      have hd5 : H5 d = some (.dT (dictOf (spanD M w A A.length))) := by
        obtain ⟨c0, i0, l0, e0⟩ := P3.dk
        exact s5 _ _ (b4 _ _ (ne_of hd e0 (by intro z; cases z)) hd)
      refine ⟨_, rfl, same_mats hq2 hF5 (by rw [eS]) ⟨_, rfl, iteF ?_⟩⟩
      exact hD' _ _ ⟨_, rfl, (P4.same s5).le (by omega), hd5, hF5⟩
    clear P3 hd hF hR'
    rintro σ H3 ⟨x5, rfl, P3, hd, hF⟩
    refine ⟨_, rfl, _, rfl, _, rfl, true, M, qF, _, w, rfl, hM, by omega, hF, by rw [List.length_map]; omega, by omega, hFr, fun S' hS' q2 H5 s5 hq2 => ?_⟩
    have eS : settle M w S' w = settle M w S w := form_one hM hAw hFr hS hS' fun v => (InS.iffG rw_gf v).trans (hsp v)
    refine ⟨_, rfl, same_mats hq2 (hF.same s5) (by rw [eS]) ⟨_, rfl, iteF ?_⟩⟩
    have hd5 := s5 _ _ hd
    refine ⟨_, rfl, _, rfl, d, _, rfl, .inl hd5, fun pl bs npl hks => ?_⟩
    obtain ⟨hbl, hkeys⟩ := keys_at hks
    have s6 : Same H5 (upd H5 pl (.lst (bs.map V.ref))) := same_upd npl
    have g6 : (upd H5 pl (.lst (bs.map V.ref))) pl = some (.lst (bs.map V.ref)) := upd_same
    generalize upd H5 pl (.lst (bs.map V.ref)) = H6 at s6 g6 ⊢
    have hLr : ∀ x ∈ spanD M w A A.length, x.length = w := fun x hx => ((hLm x).mp hx).1
    refine ⟨_, rfl, false, M, pl, spanD M w A A.length, w, rfl, hM, by omega, ⟨bs.map V.ref, SqL.of g6, rows_of (by rw [List.length_map, hbl]) fun k v r e1 e2 => ?_⟩, by omega, by omega, hLr, fun S2 hS2 q3 H7 s7 hq3 => ?_⟩
    · obtain ⟨b, e3, e4⟩ := hkeys k r e2
      rw [List.getElem?_map, e3] at e1
      cases e1
      exact ⟨b, rfl, SqT.of (s6 _ _ e4)⟩
    · have eS2 : settle M w S2 w = settle M w S w := form_one hM hAw hLr hS hS2 fun v => span_all hM hAw hLm v
      refine ⟨_, rfl, same_mats hq3 (hF.same (same_trans s5 (same_trans s6 s7))) (by rw [eS2]) ⟨_, rfl, iteF ?_⟩⟩
      exact ⟨_, _, _, _, _, _, _, rfl, (P3.same (same_trans s5 (same_trans s6 s7))).le (by omega)⟩
  · rintro σ H2 ⟨x2, x3, x4, x5, x6, x7, x8, rfl, P2⟩
    have e7 : ∀ {S : List (Option Row)}, PutsL 7 2 0 [] ([] : Mat).length S → settle 7 2 S 2 = [] := fun {S} h => by
      cases h
      rfl
    refine ⟨Nat.zero_le _, fun l nl => ⟨false, 7, l, [], 2, rfl, by decide, by decide, ⟨[], SqL.of upd_same, .nil⟩, by decide, by decide, (fun x hx => nomatch hx), fun S hS q H3 s3 hq => ?_⟩⟩
    rw [e7 hS] at hq
    refine ⟨by decide, fun t nt => ⟨_, _, (hq.same (same_upd nt)).dp, MatAt.dp (ms := []) ⟨[], SqT.of upd_same, .nil⟩, dM_shaped _, dM_shaped _, true, ?_, iteT ?_⟩⟩
    · rw [dM_eqv]
      rfl
    · refine ⟨Nat.zero_le _, fun l2 nl2 => ⟨false, 7, l2, [], 2, rfl, by decide, by decide, ⟨[], SqL.of upd_same, .nil⟩, by decide, by decide, (fun x hx => nomatch hx), fun S H4 hS s4 => ?_⟩⟩
      rw [e7 hS]
      exact ⟨rfl, rfl⟩
end
end Wk

namespace Wk
open PySem PySem.Spec PyProof.Rows L2
def mkD (x : Str) (st : Stmt) : He.DefD := ⟨(x, none), x, x, defArgs st, defBody st, defScope st, [], []⟩
def mkM (C m q : Str) (st : Stmt) (dv : List He.Dv := []) : He.DefD := ⟨(C, some m), m, q, defArgs st, defBody st, defScope st, dv, []⟩
def fns : List He.DefD := [mkM "Stairs" "__init__" "Stairs.__init__" s_Stairs_init, mkM "Stairs" "put" "Stairs.put" s_Stairs_put, mkM "Stairs" "put_at" "Stairs.put_at" s_Stairs_put_at, mkM "Stairs" "settled" "Stairs.settled" s_Stairs_settled, mkD "bezout" s_bezout, mkD "multiple" s_multiple, mkD "combined" s_combined, mkD "howell" s_howell, mkD "span_size" s_span_size, mkD "form_size" s_form_size, mkD "_law_pen_of" s_law_pen_of, mkD "_law_draw" s_law_draw, mkD "_law_matrix_of" s_law_matrix_of, mkD "_law_common" s_law_common, mkD "_law_span" s_law_span, mkD "_law_place" s_law_place, mkD "_law_is_howell" s_law_is_howell, mkD "_law_other_rows" s_law_other_rows, mkD "law" s_law]
def fas : List He.Fa := [.cls "Stairs", .noat "Stairs" "modulus", .noat "Stairs" "steps", .mkr "Stairs", .meth "Stairs" "put", .meth "Stairs" "put_at", .meth "Stairs" "settled", .glo "Stairs", .glo "bezout", .glo "multiple", .glo "combined", .glo "howell", .glo "span_size", .glo "form_size", .glo "_law_pen_of", .glo "_law_draw", .glo "_law_matrix_of", .glo "_law_common", .glo "_law_span", .glo "_law_place", .glo "_law_is_howell", .glo "_law_other_rows", .glo "law", .free "isinstance", .free "int", .free "range", .free "min", .free "max", .free "all", .free "tuple", .free "list", .free "len", .free "abs", .free "sum", .free "zip", .free "enumerate", .free "reversed", .free "sorted", .free "set", .free "any"]
def exB (K : PySem.W.Frag) : Bool := true
abbrev RW21 : PySem.W.OpenRow := PySem.W.OpenLaw.row PySem.Challenge.rw_guardsums_k22_whole_howell_forms
abbrev hk : PySem.W.Hook := hookS 5 fas fns exB
def names : List Str := ["_wall", "bezout", "multiple", "combined", "Stairs", "howell", "span_size", "form_size", "_law_pen_of", "_law_draw", "_law_matrix_of", "_law_common", "_law_span", "_law_place", "_law_is_howell", "_law_other_rows"]
theorem run (w : World) : HandSHeadRun.RunEqI RW21 (PySem.W.view RW21.prog [19]) hk (obS 5 fas fns exB) 20000 names w := by
  unfold HandSHeadRun.RunEqI
  kernel_rfl
end Wk

namespace Wk
open PySem PySem.Spec PyProof.Rows L2
theorem fun_at {K : PySem.W.Frag} {x qual : Str} {st : Stmt} {f : Addr} {fd : FuncData} (F : FunD K x qual (defArgs st) (defBody st) (defScope st) [] [] f fd) : Fun K x qual st f fd := by
  obtain ⟨oc, od, dV, kV, doc, pm, an, cdv, ct, osl, e, l, c, hd, _⟩ := F.ex
  rcases hd with ⟨_, e2⟩ | ⟨e2, _⟩
  · subst e2
    exact ⟨⟨oc, od, kV, doc, pm, an, cdv, ct, osl, e, l, c⟩, F.kp⟩
  · exact absurd rfl e2
section
variable {w : World} {K : PySem.W.Frag} {mg : Str → Option Value} {h : Heap}
theorem law_at (X : K.In h) (G : h.Ns mainGlobals mg) {fL : Addr} (hfa : mg "law" = some (.ref fL)) (c : He.SaysX fas fns [] [] exB w h K) {base : Heap} {s : Shared} {H : Hp} {a : Addr} {ns : List Int}
    (e0 : Env0 PySem.Challenge.rw_guardsums_k22_whole_howell_forms.prog w K mg base callerA [] s H) (hL : SqL K H a (ns.map V.int)) :
    codeAny (model PySem.Challenge.rw_guardsums_k22_whole_howell_forms.prog w) callerA (.call (.ref fL) ⟨[.ref a], []⟩) (CR CX0 [] PySem.Challenge.rw_guardsums_k22_whole_howell_forms.prog w H s (fun v _ => v = .bl true) E0) s := by
  have cd := c.t.d
  have eL := hfa.symm.trans (He.glo_ok X G (cd.fact 22 (f := .glo "law") rfl))
  cases eL
  obtain ⟨d_Stairs_init, F_Stairs_init⟩ := cd.def_ 0 (d := mkM "Stairs" "__init__" "Stairs.__init__" s_Stairs_init) rfl
  obtain ⟨d_Stairs_put, F_Stairs_put⟩ := cd.def_ 1 (d := mkM "Stairs" "put" "Stairs.put" s_Stairs_put) rfl
  obtain ⟨d_Stairs_put_at, F_Stairs_put_at⟩ := cd.def_ 2 (d := mkM "Stairs" "put_at" "Stairs.put_at" s_Stairs_put_at) rfl
  obtain ⟨d_Stairs_settled, F_Stairs_settled⟩ := cd.def_ 3 (d := mkM "Stairs" "settled" "Stairs.settled" s_Stairs_settled) rfl
  obtain ⟨d_bezout, F_bezout⟩ := cd.def_ 4 (d := mkD "bezout" s_bezout) rfl
  obtain ⟨d_multiple, F_multiple⟩ := cd.def_ 5 (d := mkD "multiple" s_multiple) rfl
  obtain ⟨d_combined, F_combined⟩ := cd.def_ 6 (d := mkD "combined" s_combined) rfl
  obtain ⟨d_howell, F_howell⟩ := cd.def_ 7 (d := mkD "howell" s_howell) rfl
  obtain ⟨d_span_size, F_span_size⟩ := cd.def_ 8 (d := mkD "span_size" s_span_size) rfl
  obtain ⟨d_form_size, F_form_size⟩ := cd.def_ 9 (d := mkD "form_size" s_form_size) rfl
  obtain ⟨d_law_pen_of, F_law_pen_of⟩ := cd.def_ 10 (d := mkD "_law_pen_of" s_law_pen_of) rfl
  obtain ⟨d_law_draw, F_law_draw⟩ := cd.def_ 11 (d := mkD "_law_draw" s_law_draw) rfl
  obtain ⟨d_law_matrix_of, F_law_matrix_of⟩ := cd.def_ 12 (d := mkD "_law_matrix_of" s_law_matrix_of) rfl
  obtain ⟨d_law_common, F_law_common⟩ := cd.def_ 13 (d := mkD "_law_common" s_law_common) rfl
  obtain ⟨d_law_span, F_law_span⟩ := cd.def_ 14 (d := mkD "_law_span" s_law_span) rfl
  obtain ⟨d_law_place, F_law_place⟩ := cd.def_ 15 (d := mkD "_law_place" s_law_place) rfl
  obtain ⟨d_law_is_howell, F_law_is_howell⟩ := cd.def_ 16 (d := mkD "_law_is_howell" s_law_is_howell) rfl
  obtain ⟨d_law_other_rows, F_law_other_rows⟩ := cd.def_ 17 (d := mkD "_law_other_rows" s_law_other_rows) rfl
  obtain ⟨d_law, F_law⟩ := cd.def_ 18 (d := mkD "law" s_law) rfl
  have b_Stairs_init : Binds K d_Stairs_init ["self", "modulus", "places"] [] := (FunD.bindsN F_Stairs_init fun _ _ _ _ _ _ us hl => match us, hl with | [_, _, _], _ => rfl)
  have b_Stairs_put : Binds K d_Stairs_put ["self", "row"] [] := (FunD.bindsN F_Stairs_put fun _ _ _ _ _ _ us hl => match us, hl with | [_, _], _ => rfl)
  have b_Stairs_put_at : Binds K d_Stairs_put_at ["self", "place", "row"] [] := (FunD.bindsN F_Stairs_put_at fun _ _ _ _ _ _ us hl => match us, hl with | [_, _, _], _ => rfl)
  have b_Stairs_settled : Binds K d_Stairs_settled ["self"] [] := (FunD.bindsN F_Stairs_settled fun _ _ _ _ _ _ us hl => match us, hl with | [_], _ => rfl)
  have b_bezout : Binds K d_bezout ["one", "other"] [] := (FunD.bindsN F_bezout fun _ _ _ _ _ _ us hl => match us, hl with | [_, _], _ => rfl)
  have b_multiple : Binds K d_multiple ["modulus", "factor", "row"] [] := (FunD.bindsN F_multiple fun _ _ _ _ _ _ us hl => match us, hl with | [_, _, _], _ => rfl)
  have b_combined : Binds K d_combined ["modulus", "factor", "row", "other_factor", "other"] [] := (FunD.bindsN F_combined fun _ _ _ _ _ _ us hl => match us, hl with | [_, _, _, _, _], _ => rfl)
  have b_howell : Binds K d_howell ["modulus", "rows", "width"] [] := (FunD.bindsN F_howell fun _ _ _ _ _ _ us hl => match us, hl with | [_, _, _], _ => rfl)
  have b_span_size : Binds K d_span_size ["modulus", "rows", "width"] [] := (FunD.bindsN F_span_size fun _ _ _ _ _ _ us hl => match us, hl with | [_, _, _], _ => rfl)
  have b_form_size : Binds K d_form_size ["modulus", "form"] [] := (FunD.bindsN F_form_size fun _ _ _ _ _ _ us hl => match us, hl with | [_, _], _ => rfl)
  have b_law_pen_of : Binds K d_law_pen_of ["_law_script"] [] := (FunD.bindsN F_law_pen_of fun _ _ _ _ _ _ us hl => match us, hl with | [_], _ => rfl)
  have b_law_draw : Binds K d_law_draw ["_law_pen", "_law_many"] [] := (FunD.bindsN F_law_draw fun _ _ _ _ _ _ us hl => match us, hl with | [_, _], _ => rfl)
  have b_law_matrix_of : Binds K d_law_matrix_of ["_law_pen", "_law_modulus", "_law_height", "_law_width"] [] := (FunD.bindsN F_law_matrix_of fun _ _ _ _ _ _ us hl => match us, hl with | [_, _, _, _], _ => rfl)
  have b_law_common : Binds K d_law_common ["_law_one", "_law_other"] [] := (FunD.bindsN F_law_common fun _ _ _ _ _ _ us hl => match us, hl with | [_, _], _ => rfl)
  have b_law_span : Binds K d_law_span ["_law_modulus", "_law_rows", "_law_width"] [] := (FunD.bindsN F_law_span fun _ _ _ _ _ _ us hl => match us, hl with | [_, _, _], _ => rfl)
  have b_law_place : Binds K d_law_place ["_law_row"] [] := (FunD.bindsN F_law_place fun _ _ _ _ _ _ us hl => match us, hl with | [_], _ => rfl)
  have b_law_is_howell : Binds K d_law_is_howell ["_law_modulus", "_law_form", "_law_span_here", "_law_width"] [] := (FunD.bindsN F_law_is_howell fun _ _ _ _ _ _ us hl => match us, hl with | [_, _, _, _], _ => rfl)
  have b_law_other_rows : Binds K d_law_other_rows ["_law_pen", "_law_modulus", "_law_rows"] [] := (FunD.bindsN F_law_other_rows fun _ _ _ _ _ _ us hl => match us, hl with | [_, _, _], _ => rfl)
  have TM : TxtM mg := ⟨(He.free_ok X G (cd.fact 29 (f := .free "tuple") rfl)), (He.free_ok X G (cd.fact 34 (f := .free "zip") rfl)), (He.free_ok X G (cd.fact 33 (f := .free "sum") rfl)), (He.free_ok X G (cd.fact 25 (f := .free "range") rfl)), (He.free_ok X G (cd.fact 31 (f := .free "len") rfl))⟩
  have TA : TxtA mg := ⟨(He.free_ok X G (cd.fact 24 (f := .free "int") rfl)), (He.free_ok X G (cd.fact 31 (f := .free "len") rfl)), (He.free_ok X G (cd.fact 32 (f := .free "abs") rfl))⟩
  have TL : TxtL mg := ⟨(He.free_ok X G (cd.fact 29 (f := .free "tuple") rfl)), (He.free_ok X G (cd.fact 30 (f := .free "list") rfl)), (He.free_ok X G (cd.fact 24 (f := .free "int") rfl)), (He.free_ok X G (cd.fact 34 (f := .free "zip") rfl)), (He.free_ok X G (cd.fact 33 (f := .free "sum") rfl)), (He.free_ok X G (cd.fact 25 (f := .free "range") rfl)), (He.free_ok X G (cd.fact 31 (f := .free "len") rfl)), (He.free_ok X G (cd.fact 26 (f := .free "min") rfl)), (He.free_ok X G (cd.fact 27 (f := .free "max") rfl)), (He.free_ok X G (cd.fact 28 (f := .free "all") rfl)), (He.free_ok X G (cd.fact 32 (f := .free "abs") rfl)), (He.free_ok X G (cd.fact 23 (f := .free "isinstance") rfl))⟩
  have TS : TxtS K mg (He.ga K "Stairs") (He.ma K (He.ga K "Stairs") "__init__") (He.ma K (He.ga K "Stairs") "put") (He.ma K (He.ga K "Stairs") "put_at") (He.ma K (He.ga K "Stairs") "settled") := { cl := He.cls_ok (cd.fact 0 (f := .cls "Stairs") rfl), nM := He.noat_ok (cd.fact 1 (f := .noat "Stairs" "modulus") rfl), nS := He.noat_ok (cd.fact 2 (f := .noat "Stairs" "steps") rfl), mgC := (He.glo_ok X G (cd.fact 7 (f := .glo "Stairs") rfl)), mkr := He.mkr_ok (cd.fact 3 (f := .mkr "Stairs") rfl), m_put := (He.meth_ok (cd.fact 4 (f := .meth "Stairs" "put") rfl)), m_put_at := (He.meth_ok (cd.fact 5 (f := .meth "Stairs" "put_at") rfl)), m_settled := (He.meth_ok (cd.fact 6 (f := .meth "Stairs" "settled") rfl)), f_tuple := (He.free_ok X G (cd.fact 29 (f := .free "tuple") rfl)), f_range := (He.free_ok X G (cd.fact 25 (f := .free "range") rfl)), f_len := (He.free_ok X G (cd.fact 31 (f := .free "len") rfl)), f_reversed := (He.free_ok X G (cd.fact 36 (f := .free "reversed") rfl)), f_list := (He.free_ok X G (cd.fact 30 (f := .free "list") rfl)), f_enumerate := (He.free_ok X G (cd.fact 35 (f := .free "enumerate") rfl)) }
  have G_law_pen_of := ok_pen (P := PySem.Challenge.rw_guardsums_k22_whole_howell_forms.prog) (w := w) (base := base) (fun_at F_law_pen_of) (He.free_ok X G (cd.fact 30 (f := .free "list") rfl))
  have G_law_draw := ok_draw (P := PySem.Challenge.rw_guardsums_k22_whole_howell_forms.prog) (w := w) (base := base) (fun_at F_law_draw) TA
  have G_bezout := ok_bezout (P := PySem.Challenge.rw_guardsums_k22_whole_howell_forms.prog) (w := w) (base := base) (mg := mg) (fun_at F_bezout)
  have G_multiple := ok_multiple (P := PySem.Challenge.rw_guardsums_k22_whole_howell_forms.prog) (w := w) (base := base) (mg := mg) (fun_at F_multiple)
  have G_combined := ok_combined (P := PySem.Challenge.rw_guardsums_k22_whole_howell_forms.prog) (w := w) (base := base) (fun_at F_combined) TM
  have G_put_at := ok_put_at (fun_at F_Stairs_put_at) TS G_bezout (He.glo_ok X G (cd.fact 8 (f := .glo "bezout") rfl)) F_bezout.kp b_bezout G_multiple (He.glo_ok X G (cd.fact 9 (f := .glo "multiple") rfl)) F_multiple.kp b_multiple G_combined (He.glo_ok X G (cd.fact 10 (f := .glo "combined") rfl)) F_combined.kp b_combined
  have G_init := ok_st_init (P := PySem.Challenge.rw_guardsums_k22_whole_howell_forms.prog) (w := w) (base := base) (fun_at F_Stairs_init) TS
  have G_put := ok_put (fun_at F_Stairs_put) TS G_put_at b_Stairs_put_at
  have G_settled := ok_settled (fun_at F_Stairs_settled) TS G_combined (He.glo_ok X G (cd.fact 10 (f := .glo "combined") rfl)) F_combined.kp b_combined
  have G_howell := ok_howell (fun_at F_howell) TS G_init b_Stairs_init G_put b_Stairs_put G_settled b_Stairs_settled
  have G_form_size := ok_form_size (P := PySem.Challenge.rw_guardsums_k22_whole_howell_forms.prog) (w := w) (base := base) (mg := mg) (fun_at F_form_size)
  have G_span_size := ok_span_size (fun_at F_span_size) G_howell (He.glo_ok X G (cd.fact 11 (f := .glo "howell") rfl)) F_howell.kp b_howell G_form_size (He.glo_ok X G (cd.fact 13 (f := .glo "form_size") rfl)) F_form_size.kp b_form_size
  have G_law_matrix_of := ok_matrix_of (fun_at F_law_matrix_of) TL G_law_draw (He.glo_ok X G (cd.fact 15 (f := .glo "_law_draw") rfl)) F_law_draw.kp b_law_draw
  have G_law_common := ok_gcd (P := PySem.Challenge.rw_guardsums_k22_whole_howell_forms.prog) (w := w) (base := base) (fun_at F_law_common) TL
  have G_law_span := ok_span (P := PySem.Challenge.rw_guardsums_k22_whole_howell_forms.prog) (w := w) (base := base) (fun_at F_law_span) TL
  have G_law_place := ok_place (P := PySem.Challenge.rw_guardsums_k22_whole_howell_forms.prog) (w0 := w) (base := base) (fun_at F_law_place) TL
  have G_law_is_howell := ok_is_howell (fun_at F_law_is_howell) TL (He.free_ok X G (cd.fact 37 (f := .free "sorted") rfl)) (He.free_ok X G (cd.fact 38 (f := .free "set") rfl)) (He.free_ok X G (cd.fact 39 (f := .free "any") rfl)) G_law_place (He.glo_ok X G (cd.fact 19 (f := .glo "_law_place") rfl)) F_law_place.kp b_law_place G_law_span (He.glo_ok X G (cd.fact 18 (f := .glo "_law_span") rfl)) F_law_span.kp b_law_span
  have G_law_other_rows := ok_other_rows (fun_at F_law_other_rows) TL G_law_draw (He.glo_ok X G (cd.fact 15 (f := .glo "_law_draw") rfl)) F_law_draw.kp b_law_draw G_law_common (He.glo_ok X G (cd.fact 17 (f := .glo "_law_common") rfl)) F_law_common.kp b_law_common
  have bl : ∀ (s : Shared) (u : Value), BindsTo s d_law ⟨[u], []⟩ [("_law_script", u)] := fun s u => (FunD.bindsA (ps := ["_law_script"]) F_law fun _ _ _ _ _ _ us hl => match us, hl with | [_], _ => rfl) s [u] rfl
  exact law_run (fun_at F_law) bl TL ⟨⟨_, _, G_law_pen_of, (He.glo_ok X G (cd.fact 14 (f := .glo "_law_pen_of") rfl)), F_law_pen_of.kp, b_law_pen_of⟩⟩ ⟨⟨_, _, G_law_draw, (He.glo_ok X G (cd.fact 15 (f := .glo "_law_draw") rfl)), F_law_draw.kp, b_law_draw⟩⟩ ⟨⟨_, _, G_law_matrix_of, (He.glo_ok X G (cd.fact 16 (f := .glo "_law_matrix_of") rfl)), F_law_matrix_of.kp, b_law_matrix_of⟩⟩ ⟨⟨_, _, G_law_span, (He.glo_ok X G (cd.fact 18 (f := .glo "_law_span") rfl)), F_law_span.kp, b_law_span⟩⟩ ⟨⟨_, _, G_law_is_howell, (He.glo_ok X G (cd.fact 20 (f := .glo "_law_is_howell") rfl)), F_law_is_howell.kp, b_law_is_howell⟩⟩ ⟨⟨_, _, G_law_other_rows, (He.glo_ok X G (cd.fact 21 (f := .glo "_law_other_rows") rfl)), F_law_other_rows.kp, b_law_other_rows⟩⟩ ⟨⟨_, _, G_howell, (He.glo_ok X G (cd.fact 11 (f := .glo "howell") rfl)), F_howell.kp, b_howell⟩⟩ ⟨⟨_, _, G_span_size, (He.glo_ok X G (cd.fact 12 (f := .glo "span_size") rfl)), F_span_size.kp, b_span_size⟩⟩ e0 hL
end
end Wk
open PySem PySem.W PySem.Calls PyProof.Rows
theorem PySem.Challenge.cw_guardsums_k22_whole_howell_forms_holds : PySem.Challenge.rw_guardsums_k22_whole_howell_forms.Holds := by
  w_on; o_law
  refine HandSHeadRun.head_imp (r := Wk.RW21) (q := view Wk.RW21.prog [19]) (H := Wk.hk) (ob := Wk.obS 5 Wk.fas Wk.fns Wk.exB) (M := 20000) (loose := Wk.names) (d := HandSHeadRun.topDef Wk.RW21.prog 19) (kwd := []) Wk.obS_eq Wk.run
    (by kernel_rfl) (by kernel_rfl) (by kernel_rfl) (by rfl) (by first | assumption | decide +kernel) (by decide +kernel) ⟨rfl, rfl, rfl, rfl, rfl, by decide +kernel⟩ ?hw ?hc
  case hw => w_witness2
  case hc =>
    refine Wk.walk_here (l := PySem.Challenge.rw_guardsums_k22_whole_howell_forms) (n := 63) rfl (by decide) (by kernel_rfl) ?F
    intro w mg fa h Y G hmg0
    obtain ⟨⟨K, KX, c⟩, hm⟩ := Y
    have hmg : mg ("law" : PySem.Str) = some (.ref fa) := by
      have e : (HandSHeadRun.topDef Wk.RW21.prog 19).name = ("law" : PySem.Str) := by kernel_rfl
      rw [← e]
      exact hmg0
    exact ⟨K, KX, fun base s H a ns _ _ _ bb e0 hL => Wk.law_at KX G hmg c e0 hL⟩

