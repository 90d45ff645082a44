import PyProof.Rows.All
import Wide.All
import OpenK.AllK
import HandS.ForMost
import Wide.FinOn
import PyProof.ZipIter
import PyProof.TupleOfGen
import PyProof.CollectWalk
import HandS.Zip0
import KE.KDictZip
import HandS.Zip
import HandS.Walk
import HandS.TupMul
import HandS.TupAny
import PySem.Challenge.RW_guardsums_k17_late_moduli
import HandS.ForExc
import HandS.Wide
import HandS.Words
import HandS.EndBits
import HandS.EndTab
import HandS.HeadHook4
import HandS.Head0
import HandS.Head1
import HandS.Head2
import HandS.Head3
import HandS.ExcOwn
import HandS.ExcField
import HandS.ExcInit
import HandS.ExcIs
import HandS.Lambda
import KE.KExcIs
import HandS.HeadEnd
import HandS.HeadHook1
import HandS.HeadHook2
import HandS.HeadHook3
import HandS.HeadWalk
import KE.KStateDown
import HandS.Star
import HandS.Style
import HandS.RevRange
import HandS.Conv
import HandS.IsInst
import HandS.More
import KE.KOpsOwn
import HandS.SlotsOwn
import HandS.OwnEq
import HandS.TryOnly
import PyProof.WalksMore
import HandS.Sort
import KE.KTupSum
import HandS.Base
import HandS.Call
import HandS.List
import HandS.Defaults
import HandS.WideBits
import HandS.WordsExc
import HandS.Exc
import PyProof.ReprRoads
import PyProof.CallFns
import HandS.Dict
set_option Elab.async false
set_option linter.all false
set_option maxRecDepth 100000
set_option maxHeartbeats 0
/-! rows and matrices of ints as data -/
namespace Wk
open PySem L2
theorem eqvAll_map {α : Type} (f : α → PyData) (g : α → α → Bool) (h : ∀ a b, PyData.eqv (f a) (f b) = g a b) (hg : ∀ a b, g a b = true ↔ a = b) [DecidableEq α] : ∀ (xs ys : List α), PyData.eqvAll (xs.map f) (ys.map f) = decide (xs = ys)
  | [], [] => by simp [PyData.eqvAll]
  | [], _ :: _ => by simp [PyData.eqvAll]
  | _ :: _, [] => by simp [PyData.eqvAll]
  | x :: xs, y :: ys => by
    simp only [List.map_cons, PyData.eqvAll, h, eqvAll_map f g h hg xs ys]
    have e : g x y = decide (x = y) := by
      by_cases z : x = y
      · rw [(hg x y).mpr z, decide_eq_true z]
      · rw [decide_eq_false z]
        cases q : g x y with
        | false => rfl
        | true => exact absurd ((hg x y).mp q) z
    rw [e]
    by_cases z : x = y <;> by_cases z2 : xs = ys <;> simp [z, z2]
/-- a tuple of ints; a tuple of such -/
def dI (ns : List Int) : PyData := .tuple (ns.map PyData.int)
def dM (ms : List (List Int)) : PyData := .tuple (ms.map dI)
theorem dI_eqv (a b : List Int) : PyData.eqv (dI a) (dI b) = decide (a = b) := by
  unfold dI
  rw [PyData.eqv]
  exact eqvAll_map _ (fun i j => i == j) (fun i j => by simp [PyData.eqv]) (fun i j => by simp) a b
theorem dM_eqv (a b : List (List Int)) : PyData.eqv (dM a) (dM b) = decide (a = b) := by
  unfold dM
  rw [PyData.eqv]
  exact eqvAll_map _ (fun i j => decide (i = j)) dI_eqv (fun i j => by simp) a b
theorem canLayAll_map {α : Type} (f : α → PyData) (h : ∀ a, (f a).canLay0 = true) : ∀ xs : List α, PyData.canLayAll0 (xs.map f) = true
  | [] => by simp [PyData.canLayAll0]
  | x :: xs => by simp [PyData.canLayAll0, h x, canLayAll_map f h xs]
theorem depthAll_map {α : Type} (f : α → PyData) (n : Nat) (h : ∀ a, (f a).depth ≤ n) : ∀ xs : List α, PyData.depthAll (xs.map f) ≤ n
  | [] => by simp [PyData.depthAll]
  | x :: xs => by
    have h1 := h x
    have h2 := depthAll_map f n h xs
    simp only [List.map_cons, PyData.depthAll]
    omega
theorem dI_lay (a : List Int) : (dI a).canLay0 = true := by
  unfold dI
  rw [PyData.canLay0]
  exact canLayAll_map _ (fun i => by simp [PyData.canLay0]) a
theorem dI_depth (a : List Int) : (dI a).depth ≤ 1 := by
  unfold dI
  rw [PyData.depth]
  have := depthAll_map PyData.int 0 (fun i => by simp [PyData.depth]) a
  omega
theorem dM_lay (a : List (List Int)) : (dM a).canLay0 = true := by
  unfold dM
  rw [PyData.canLay0]
  exact canLayAll_map _ dI_lay a
theorem dM_depth (a : List (List Int)) : (dM a).depth ≤ 2 := by
  unfold dM
  rw [PyData.depth]
  have := depthAll_map dI 1 dI_depth a
  omega
theorem dI_shaped (a : List Int) : SeqAt.shaped (dI a) = true := by
  have := dI_depth a
  simp only [SeqAt.shaped, dI_lay, Bool.true_and, decide_eq_true_eq]
  omega
theorem dM_shaped (a : List (List Int)) : SeqAt.shaped (dM a) = true := by
  have := dM_depth a
  simp only [SeqAt.shaped, dM_lay, Bool.true_and, decide_eq_true_eq]
  omega
theorem dpAll_ints {K : PySem.W.Frag} {H : Hp} : ∀ ns : List Int, DpAll K H (ns.map V.int) (ns.map PyData.int)
  | [] => .nil
  | n :: ns => .cons (.int n) (dpAll_ints ns)
/-- a tuple of ints at a -/
def RowAt (K : PySem.W.Frag) (H : Hp) (a : Addr) (ns : List Int) : Prop := SqT K H a (ns.map V.int)
theorem RowAt.dp {K : PySem.W.Frag} {H : Hp} {a : Addr} {ns : List Int} (h : RowAt K H a ns) : Dp K H (.ref a) (dI ns) := .tup h (dpAll_ints ns)
/-- values that are tuples of ints -/
inductive RowsAre (K : PySem.W.Frag) (H : Hp) : List V → List (List Int) → Prop
  | nil : RowsAre K H [] []
  | cons {a : Addr} {ns : List Int} {vs : List V} {ms : List (List Int)} : RowAt K H a ns → RowsAre K H vs ms → RowsAre K H (.ref a :: vs) (ns :: ms)
theorem RowsAre.dp {K : PySem.W.Frag} {H : Hp} : ∀ {vs : List V} {ms : List (List Int)}, RowsAre K H vs ms → DpAll K H vs (ms.map dI)
  | _, _, .nil => .nil
  | _, _, .cons h r => .cons h.dp r.dp
theorem RowsAre.length {K : PySem.W.Frag} {H : Hp} : ∀ {vs : List V} {ms : List (List Int)}, RowsAre K H vs ms → vs.length = ms.length
  | _, _, .nil => rfl
  | _, _, .cons _ r => by simp [r.length]
theorem RowsAre.at_ {K : PySem.W.Frag} {H : Hp} : ∀ {vs : List V} {ms : List (List Int)}, RowsAre K H vs ms → ∀ {i : Nat} {v : V}, vs[i]? = some v → ∃ (a : Addr) (ns : List Int), v = .ref a ∧ ms[i]? = some ns ∧ RowAt K H a ns
  | _, _, .nil, i, v, h => by simp at h
  | _, _, .cons h r, 0, v, e => by cases e; exact ⟨_, _, rfl, rfl, h⟩
  | _, _, .cons h r, i + 1, v, e => r.at_ (i := i) (by simpa using e)
theorem RowsAre.snoc {K : PySem.W.Frag} {H : Hp} {a : Addr} {ns : List Int} (h : RowAt K H a ns) : ∀ {vs : List V} {ms : List (List Int)}, RowsAre K H vs ms → RowsAre K H (vs ++ [.ref a]) (ms ++ [ns])
  | _, _, .nil => .cons h .nil
  | _, _, .cons h' r => .cons h' (r.snoc h)
/-- a tuple of tuples of ints at a -/
def MatAt (K : PySem.W.Frag) (H : Hp) (a : Addr) (ms : List (List Int)) : Prop := ∃ vs, SqT K H a vs ∧ RowsAre K H vs ms
theorem MatAt.dp {K : PySem.W.Frag} {H : Hp} {a : Addr} {ms : List (List Int)} (h : MatAt K H a ms) : Dp K H (.ref a) (dM ms) := by
  obtain ⟨vs, h1, h2⟩ := h
  exact .tup h1 h2.dp
theorem SqT.same {K : PySem.W.Frag} {H H' : Hp} {a : Addr} {xs : List V} (h : SqT K H a xs) (e : Same H H') : SqT K H' a xs := by
  rcases h with h | h
  · rcases h with h | ⟨o, h⟩
    · exact .inl (.inl (e _ _ h))
    · exact .inl (.inr ⟨o, e _ _ h⟩)
  · exact .inr h
theorem RowsAre.same {K : PySem.W.Frag} {H H' : Hp} (e : Same H H') : ∀ {vs : List V} {ms : List (List Int)}, RowsAre K H vs ms → RowsAre K H' vs ms
  | _, _, .nil => .nil
  | _, _, .cons h r => .cons (SqT.same h e) (r.same e)
theorem MatAt.same {K : PySem.W.Frag} {H H' : Hp} {a : Addr} {ms : List (List Int)} (h : MatAt K H a ms) (e : Same H H') : MatAt K H' a ms := by
  obtain ⟨vs, h1, h2⟩ := h
  exact ⟨vs, SqT.same h1 e, h2.same e⟩
end Wk

/-! tuple(zip(*rows)), rows a tuple of tuples -/
namespace ZN
open PySem PySem.Spec PyProof.Rows
open PySem.Sem (wp)
abbrev Held := PySem.IsZipHeld
structure Ap (z TI TO : Addr) (its ls : List Addr) : Prop where
  zO : z ≠ TO
  zi : z ∉ its
  Oi : TO ∉ its
  nd : its.Nodup
  Iz : TI ≠ z
  IO : TI ≠ TO
  Ii : TI ∉ its
  lz : ∀ l ∈ ls, l ≠ z ∧ l ≠ TO ∧ l ∉ its
  ln : ls.length = its.length
def KeepBut (W : List Addr) (h h' : Heap) : Prop := ∀ b o, b ∉ W → h.get? b = some o → h'.get? b = some o
def refs (as : List Addr) : List Value := as.map Value.ref
theorem nd_inj {α : Type} : ∀ {l : List α} {i j : Nat} {a : α}, l.Nodup → l[i]? = some a → l[j]? = some a → i = j
  | [], i, j, a, _, h, _ => by simp at h
  | x :: l, 0, 0, a, _, _, _ => rfl
  | x :: l, 0, j + 1, a, n, h1, h2 => by
    cases h1
    have := (List.nodup_cons.mp n).1
    exact absurd (List.mem_of_getElem? (by simpa using h2)) this
  | x :: l, i + 1, 0, a, n, h1, h2 => by
    cases h2
    have := (List.nodup_cons.mp n).1
    exact absurd (List.mem_of_getElem? (by simpa using h1)) this
  | x :: l, i + 1, j + 1, a, n, h1, h2 => by
    have := nd_inj (i := i) (j := j) (List.nodup_cons.mp n).2 (by simpa using h1) (by simpa using h2)
    omega
/-- the iterators stand at i -/
def ItersAt (h : Heap) (its ls : List Addr) (rows : List (Array Value)) (i : Nat → Nat) : Prop :=
  ∀ k a l r, its[k]? = some a → ls[k]? = some l → rows[k]? = some r → h.IsTupleIter a l (i k) ∧ h.IsTuple l r
section
variable {prog : Program} {w : World} {A : Around} {E : Value → Shared → Prop} {s : Shared}
theorem iter_next {h h' : Heap} {its ls : List Addr} {rows : List (Array Value)} {i : Nat → Nat} {j : Nat} {a l : Addr} {r : Array Value} (I : ItersAt h its ls rows i) (nd : its.Nodup) (hl : ∀ l ∈ ls, l ∉ its) (ha : its[j]? = some a) (hll : ls[j]? = some l) (hr : rows[j]? = some r)
    (hs : Heap.SameBut a h h') (hn : h'.IsTupleIter a l (i j + 1)) : ItersAt h' its ls rows (fun k => if k = j then i j + 1 else i k) := by
  intro k a2 l2 r2 h1 h2 h3
  obtain ⟨q1, q2⟩ := I k a2 l2 r2 h1 h2 h3
  have hla : l2 ≠ a := fun e => hl l2 (List.mem_of_getElem? h2) (e ▸ List.mem_of_getElem? ha)
  refine ⟨?_, q2.extBut hs.extBut hla⟩
  by_cases e : k = j
  · subst e
    dsimp only
    rw [if_pos rfl]
    rw [ha] at h1
    rw [hll] at h2
    cases h1
    cases h2
    exact hn
  · dsimp only
    rw [if_neg e]
    have hne : a2 ≠ a := fun z => by
      subst z
      exact e (nd_inj nd h1 ha)
    obtain ⟨o, ho, r⟩ := q1
    exact ⟨o, hs.extBut _ _ hne ho, r⟩
/-- one iterator's turn -/
theorem turn {its ls : List Addr} {rows : List (Array Value)} {i : Nat} {vals : List Value} {j : Nat} {a : Addr} {Q : Option Value → Shared → Prop} (nd : its.Nodup) (hl : ∀ l ∈ ls, l ∉ its) (hln : ls.length = its.length) (hr : rows.length = its.length) (hv : vals.length = its.length)
    (hx : ∀ (k : Nat) (r : Array Value) (v : Value), rows[k]? = some r → vals[k]? = some v → r[i]? = some v) (I : ItersAt s.heap its ls rows (fun k => if k < j then i + 1 else i)) (ha : its[j]? = some a)
    (h : ∀ (v : Value) (h' : Heap), vals[j]? = some v → ItersAt h' its ls rows (fun k => if k < j + 1 then i + 1 else i) → Heap.SameBut a s.heap h' → Q (some v) { s with heap := h' }) :
    wpAny (model prog w) A (Builtin.SmallTypes.nextOf (.ref a) >>= fun v => pure (some v)) Q E s := by
  have hj : j < its.length := (List.getElem?_eq_some_iff.mp ha).1
  have h1 : ls[j]? = some ls[j] := List.getElem?_eq_getElem (by omega)
  have h2 : rows[j]? = some rows[j] := List.getElem?_eq_getElem (by omega)
  have h3 : vals[j]? = some vals[j] := List.getElem?_eq_getElem (by omega)
  obtain ⟨q1, q2⟩ := I j a _ _ ha h1 h2
  have ej : (if j < j then i + 1 else i) = i := if_neg (Nat.lt_irrefl _)
  dsimp only at q1
  rw [ej] at q1
  refine wpAny_bind (RZ.nextOf_tuple_item q1 q2 (hx j _ _ h2 h3) fun h' hn hs => wpAny_pure (h _ h' h3 ?_ hs))
  have hn2 : h'.IsTupleIter a ls[j] ((fun k => if k < j then i + 1 else i) j + 1) := by dsimp only; rw [ej]; exact hn
  have z := iter_next I nd hl ha h1 h2 hs hn2
  intro k a2 l2 r2 e1 e2 e3
  obtain ⟨y1, y2⟩ := z k a2 l2 r2 e1 e2 e3
  refine ⟨?_, y2⟩
  dsimp only at y1 ⊢
  by_cases e : k = j
  · rw [if_pos e, ej] at y1
    rw [if_pos (by omega)]
    exact y1
  · rw [if_neg e] at y1
    by_cases e4 : k < j
    · rw [if_pos e4] at y1
      rw [if_pos (by omega)]
      exact y1
    · rw [if_neg e4] at y1
      rw [if_neg (by omega)]
      exact y1
theorem refs_drop (its : List Addr) (j : Nat) (x : Value) (rest : List Value) (h : x :: rest = (refs its).drop j) : ∃ a, its[j]? = some a ∧ x = .ref a ∧ rest = (refs its).drop (j + 1) := by
  have hj : j < (refs its).length := by
    have := congrArg List.length h
    simp at this
    omega
  rw [List.drop_eq_getElem_cons hj] at h
  injection h with h1 h2
  have hj2 : j < its.length := by simpa [refs] using hj
  exact ⟨its[j], List.getElem?_eq_getElem hj2, by rw [h1]; simp [refs], h2⟩
theorem refs_dropI (its : List Addr) (j : Nat) (x : Value × Nat) (rest : List (Value × Nat)) (h : x :: rest = (refs its).zipIdx.drop j) : ∃ a, its[j]? = some a ∧ x = (.ref a, j) ∧ rest = (refs its).zipIdx.drop (j + 1) := by
  have hj : j < (refs its).zipIdx.length := by
    have := congrArg List.length h
    simp at this
    simp
    omega
  rw [List.drop_eq_getElem_cons hj] at h
  injection h with h1 h2
  have hj2 : j < its.length := by simpa [refs] using hj
  exact ⟨its[j], List.getElem?_eq_getElem hj2, by rw [h1]; simp [refs], h2⟩
/-- the draw behind the first one -/
theorem held_item {z TI TO T : Addr} {f : Bool} {oT : Obj} {its ls : List Addr} {rows : List (Array Value)} {i : Nat} {vals : List Value} {Q : Value → Shared → Prop} (D : Ap z TI TO its ls) (hne : its ≠ [])
    (hz : Held s.heap z TI TO T f) (hT : s.heap.get? T = some oT) (hTI : s.heap.get? TI = some { cls := .type "tuple", data := .seq (refs its).toArray }) (hI : ItersAt s.heap its ls rows (fun _ => i)) (hr : rows.length = its.length)
    (hv : vals.length = its.length) (hx : ∀ (k : Nat) (r : Array Value) (v : Value), rows[k]? = some r → vals[k]? = some v → r[i]? = some v) (hsz : its.length ≤ 1000)
    (hQ : ∀ h', Held h' z TI TO T true → ItersAt h' its ls rows (fun _ => i + 1) → h'.get? s.heap.objs.size = some { cls := .type "tuple", data := .seq vals.toArray } → h'.objs.size = s.heap.objs.size + 1 →
      KeepBut (z :: its) s.heap h' → Q (.ref s.heap.objs.size) { s with heap := h' }) :
    wpAny (model prog w) A (Builtin.«zip.__next__» ⟨[.ref z], []⟩) (fun fin s' => ∃ v, fin = .done (.ret v) ∧ Q v s') E s := by
  show wpAny _ _ (field (.ref z) 2 >>= _) _ _ _
  refine wpAny_bind (wpAny_field hz rfl (x := .bool false) rfl ?_)
  show wpAny _ _ (field (.ref z) 3 >>= _) _ _ _
  refine wpAny_bind (wpAny_field hz rfl (x := .ref TI) rfl ?_)
  refine wpAny_bind (wpAny_seqItems hTI rfl ?_)
  have he : (refs its).toArray.isEmpty = false := by
    cases its with
    | nil => exact absurd rfl hne
    | cons a r => rfl
  dsimp only
  rw [if_neg (by rw [he]; decide)]
  show wpAny _ _ (Builtin.SmallTypes.ownedTupleIsFree (.ref z) >>= _) _ _ _
  refine wpAny_bind (PySem.wpAny_tupleHeld_zip hz hT fun h₁ hz₁ hs₁ => ?_)
  simp only [Bool.false_eq_true, if_false]
  have hI₁ : ItersAt h₁ its ls rows (fun _ => i) := fun k a l r e1 e2 e3 => by
    obtain ⟨⟨o, ho, q⟩, q2⟩ := hI k a l r e1 e2 e3
    exact ⟨⟨o, hs₁.extBut _ _ (fun y => D.zi (y ▸ List.mem_of_getElem? e1)) ho, q⟩, q2.extBut hs₁.extBut (fun y => (D.lz l (List.mem_of_getElem? e2)).1 y)⟩
  refine wpAny_bind (wpAny_forIn_array' _ (fun rest b s' => ∃ (j : Nat) (h' : Heap), b = ⟨none, (vals.take j).toArray⟩ ∧ rest = (refs its).drop j ∧ j ≤ its.length ∧ s' = { s with heap := h' } ∧ ItersAt h' its ls rows (fun k => if k < j then i + 1 else i) ∧
    KeepBut its h₁ h' ∧ h'.objs.size = h₁.objs.size) _ ?_ ?_ _ _ ⟨0, h₁, rfl, rfl, Nat.zero_le _, rfl, fun k a l r e1 e2 e3 => by dsimp only; rw [if_neg (Nat.not_lt_zero _)]; exact hI₁ k a l r e1 e2 e3, fun b o _ e => e, rfl⟩)
  · rintro x rest b s' ⟨j, h', rfl, hrest, hj, rfl, Ij, hk, hsize⟩
    obtain ⟨a, ha, rfl, hrest2⟩ := refs_drop its j x rest hrest
    refine wpAny_bind (wpAny_holding ?_)
    show wpAny _ _ (Builtin.SmallTypes.nextOf (.ref a) >>= fun v => pure (some v)) _ _ _
    refine turn (s := { s with heap := h' }) (vals := vals) D.nd (fun l hl => (D.lz l hl).2.2) D.ln hr hv hx Ij ha fun v h'' ev I2 hs2 => ?_
    refine wpAny_pure ⟨j + 1, h'', ?_, hrest2, (List.getElem?_eq_some_iff.mp ha).1, rfl, I2, fun b o hb e => hs2.extBut _ _ (fun y => hb (y ▸ List.mem_of_getElem? ha)) (hk b o hb e), hs2.1.trans hsize⟩
    have e1 : vals.take (j + 1) = vals.take j ++ [v] := by rw [List.take_add_one, ev]; rfl
    rw [e1]
    simp
  · rintro b s' ⟨j, h', rfl, hrest, hj, rfl, Ij, hk, hsize⟩
    have hjn : j = its.length := by
      have := congrArg List.length hrest
      simp [refs] at this
      omega
    subst hjn
    dsimp only
    rw [← hv, List.take_length]
    refine wpAny_bind (wpAny_newTuple ?_ (by show vals.length ≤ sizeLine; exact Nat.le_trans (show vals.length ≤ 1000 by omega) (by decide)))
    have hsz2 : h'.objs.size = s.heap.objs.size := hsize.trans hs₁.1
    refine wpAny_pure ⟨_, rfl, ?_⟩
    show Q (.ref h'.objs.size) _
    have g1 : (h'.push { cls := .type "tuple", data := .seq vals.toArray }).get? h'.objs.size = some { cls := .type "tuple", data := .seq vals.toArray } := Heap.get?_push_size _ rfl
    have g2 : (h'.push { cls := .type "tuple", data := .seq vals.toArray }).objs.size = h'.objs.size + 1 := Heap.size_push ..
    have k2 : KeepBut (z :: its) s.heap (h'.push { cls := .type "tuple", data := .seq vals.toArray }) := fun b o hb e => by
      have b1 : b ≠ z := fun y => hb (y ▸ List.mem_cons_self)
      have b2 : b ∉ its := fun y => hb (List.mem_cons_of_mem _ y)
      exact Heap.get?_push_of_some _ (hk b o b2 (hs₁.extBut _ _ b1 e))
    have hz2 : Held (h'.push { cls := .type "tuple", data := .seq vals.toArray }) z TI TO T true := Heap.get?_push_of_some _ (hk z _ D.zi hz₁)
    have I2 : ItersAt (h'.push { cls := .type "tuple", data := .seq vals.toArray }) its ls rows (fun _ => i + 1) := fun k a l r e1 e2 e3 => by
      obtain ⟨⟨o, ho, q⟩, q2⟩ := Ij k a l r e1 e2 e3
      dsimp only at q
      rw [if_pos (by have := (List.getElem?_eq_some_iff.mp e1).1; omega)] at q
      exact ⟨⟨o, Heap.get?_push_of_some _ ho, q⟩, q2.push _⟩
    rw [hsz2] at g1 g2 ⊢
    exact hQ _ hz2 I2 g1 g2 k2
/-- the end behind some draws -/
theorem held_end {z TI TO T a l : Addr} {f : Bool} {oT : Obj} {its ls : List Addr} {rows : List (Array Value)} {i : Nat} {r : Array Value} {Q : Fin → Shared → Prop} (hh : A.handled = none) (D : Ap z TI TO its ls)
    (hz : Held s.heap z TI TO T f) (hT : s.heap.get? T = some oT) (hTI : s.heap.get? TI = some { cls := .type "tuple", data := .seq (refs its).toArray }) (hI : ItersAt s.heap its ls rows (fun _ => i))
    (h1 : its[0]? = some a) (h2 : ls[0]? = some l) (h3 : rows[0]? = some r) (hx : r[i]? = none)
    (hE : ∀ h' e, KeepBut (z :: its) s.heap h' → (∃ o, h'.get? e = some o ∧ o.cls = .type "StopIteration") → E (.ref e) { s with heap := h' }) :
    wpAny (model prog w) A (Builtin.«zip.__next__» ⟨[.ref z], []⟩) Q E s := by
  show wpAny _ _ (field (.ref z) 2 >>= _) _ _ _
  refine wpAny_bind (wpAny_field hz rfl (x := .bool false) rfl ?_)
  show wpAny _ _ (field (.ref z) 3 >>= _) _ _ _
  refine wpAny_bind (wpAny_field hz rfl (x := .ref TI) rfl ?_)
  refine wpAny_bind (wpAny_seqItems hTI rfl ?_)
  obtain ⟨its2, rfl⟩ : ∃ its2, its = a :: its2 := by
    cases its with
    | nil => simp at h1
    | cons x y => simp at h1; exact ⟨y, by rw [h1]⟩
  dsimp only
  rw [if_neg (show ¬ ((refs (a :: its2)).toArray.isEmpty = true) from Bool.false_ne_true)]
  show wpAny _ _ (Builtin.SmallTypes.ownedTupleIsFree (.ref z) >>= _) _ _ _
  refine wpAny_bind (PySem.wpAny_tupleHeld_zip hz hT fun h₁ hz₁ hs₁ => ?_)
  simp only [Bool.false_eq_true, if_false]
  refine wpAny_bind ?_
  rw [← Array.forIn_toList]
  show wpAny _ _ (forIn (Value.ref a :: refs its2) _ _) _ _ _
  rw [List.forIn_cons]
  refine wpAny_bind (wpAny_bind (wpAny_holding ?_))
  show wpAny _ _ (Builtin.SmallTypes.nextOf (.ref a) >>= _) _ _ _
  obtain ⟨⟨o, ho, q⟩, q2⟩ := hI 0 a l r h1 h2 h3
  have hza : a ≠ z := fun y => D.zi (y ▸ List.mem_cons_self)
  refine wpAny_bind (RZ.nextOf_tuple_end (s := { s with heap := h₁ }) hh ⟨o, hs₁.extBut _ _ hza ho, q⟩ (q2.extBut hs₁.extBut (D.lz l (List.mem_of_getElem? h2)).1) hx fun h₂ e hs₂ he => ?_)
  exact hE h₂ e (fun b o hb e => hs₂ _ _ (fun y => hb (by rw [y]; simp)) (hs₁.extBut _ _ (fun y => hb (by rw [y]; simp)) e)) he
def Free (h : Heap) (z TI TO : Addr) : Prop := IsZip h z TI TO .none
/-- the first draw -/
theorem free_item {z TI TO : Addr} {its ls : List Addr} {rows : List (Array Value)} {i : Nat} {vals : List Value} {kept : Array Value} {Q : Value → Shared → Prop} (D : Ap z TI TO its ls) (hne : its ≠ [])
    (hz : Free s.heap z TI TO) (hTI : s.heap.get? TI = some { cls := .type "tuple", data := .seq (refs its).toArray }) (hTO : s.heap.get? TO = some { cls := .type "tuple", data := .seq kept }) (hks : kept.size = its.length) (hI : ItersAt s.heap its ls rows (fun _ => i)) (hr : rows.length = its.length)
    (hv : vals.length = its.length) (hx : ∀ (k : Nat) (r : Array Value) (v : Value), rows[k]? = some r → vals[k]? = some v → r[i]? = some v) (hsz : its.length ≤ 1000)
    (hQ : ∀ h', Held h' z TI TO s.heap.objs.size false → ItersAt h' its ls rows (fun _ => i + 1) → h'.get? s.heap.objs.size = some { cls := .type "tuple", data := .seq vals.toArray } → h'.objs.size = s.heap.objs.size + 1 →
      KeepBut (z :: TO :: its) s.heap h' → Q (.ref s.heap.objs.size) { s with heap := h' }) :
    wpAny (model prog w) A (Builtin.«zip.__next__» ⟨[.ref z], []⟩) (fun fin s' => ∃ v, fin = .done (.ret v) ∧ Q v s') E s := by
  show wpAny _ _ (field (.ref z) 2 >>= _) _ _ _
  refine wpAny_bind (wpAny_field hz rfl (x := .bool false) rfl ?_)
  show wpAny _ _ (field (.ref z) 3 >>= _) _ _ _
  refine wpAny_bind (wpAny_field hz rfl (x := .ref TI) rfl ?_)
  refine wpAny_bind (wpAny_seqItems hTI rfl ?_)
  have he : (refs its).toArray.isEmpty = false := by
    cases its with
    | nil => exact absurd rfl hne
    | cons a r => rfl
  dsimp only
  rw [if_neg (by rw [he]; decide)]
  show wpAny _ _ (Builtin.SmallTypes.ownedTupleIsFree (.ref z) >>= _) _ _ _
  refine wpAny_bind ?_
  unfold Builtin.SmallTypes.ownedTupleIsFree
  refine wpAny_bind (wpAny_field hz rfl (x := .none) rfl (wpAny_pure ?_))
  simp only [if_true]
  refine wpAny_bind (wpAny_rule ?_)
  refine wpAny_bind (wpAny_field hz rfl (x := .ref TO) rfl ?_)
  refine wpAny_bind (wpAny_setField_rec hz (by simp) fun h₁ hz₁ hs₁ => ?_)
  replace hz₁ : IsZip h₁ z TI TO .ellipsis := hz₁
  have hI₁ : ItersAt h₁ its ls rows (fun _ => i) := fun k a l r e1 e2 e3 => by
    obtain ⟨⟨o, ho, q⟩, q2⟩ := hI k a l r e1 e2 e3
    exact ⟨⟨o, hs₁.extBut _ _ (fun y => D.zi (y ▸ List.mem_of_getElem? e1)) ho, q⟩, q2.extBut hs₁.extBut (fun y => (D.lz l (List.mem_of_getElem? e2)).1 y)⟩
  have hTO₁ : h₁.get? TO = some { cls := .type "tuple", data := .seq kept } := hs₁.extBut _ _ (Ne.symm D.zO) hTO
  refine wpAny_bind (wpAny_forIn_list _ (fun rest b s' => ∃ (j : Nat) (h' : Heap) (kp : Array Value), b = ⟨none, ()⟩ ∧ rest = (refs its).zipIdx.drop j ∧ j ≤ its.length ∧ s' = { s with heap := h' } ∧ ItersAt h' its ls rows (fun k => if k < j then i + 1 else i) ∧
    h'.get? TO = some { cls := .type "tuple", data := .seq kp } ∧ kp.size = its.length ∧ (∀ k, k < j → kp[k]? = vals[k]?) ∧ KeepBut (TO :: its) h₁ h' ∧ h'.objs.size = h₁.objs.size) _ ?_ ?_ _ _ ⟨0, h₁, kept, rfl, rfl, Nat.zero_le _, rfl, fun k a l r e1 e2 e3 => by dsimp only; rw [if_neg (Nat.not_lt_zero _)]; exact hI₁ k a l r e1 e2 e3, hTO₁, hks, fun k hk => absurd hk (Nat.not_lt_zero _), fun b o _ e => e, rfl⟩)
  · rintro x rest b s' ⟨j, h', kp, rfl, hrest, hj, rfl, Ij, hkp, hkps, hkv, hk, hsize⟩
    obtain ⟨a, ha, rfl, hrest2⟩ := refs_dropI its j x rest hrest
    refine wpAny_bind (wpAny_onRaise ?_)
    show wpAny _ _ (Builtin.SmallTypes.nextOf (.ref a) >>= fun v => pure (some v)) _ _ _
    refine turn (s := { s with heap := h' }) (vals := vals) D.nd (fun l hl => (D.lz l hl).2.2) D.ln hr hv hx Ij ha fun v h'' ev I2 hs2 => ?_
    have haO : TO ≠ a := fun y => D.Oi (y ▸ List.mem_of_getElem? ha)
    have hkp2 : h''.get? TO = some { cls := .type "tuple", data := .seq kp } := hs2.extBut _ _ haO hkp
    refine wpAny_bind (wpAny_seqItems hkp2 rfl ?_)
    refine wpAny_bind (wpAny_updateSeq hkp2 rfl ?_ (by rw [hkps]; exact Nat.le_trans hsz (by decide)) (by rw [Array.size_setIfInBounds, hkps]; exact Nat.le_trans hsz (by decide)))
    refine wpAny_bind (wpAny_letGo (wpAny_pure ?_))
    have hs3 := Heap.SameBut.update h'' TO (Obj.mapSeq (·.setIfInBounds j v))
    have g3 : (h''.update TO (Obj.mapSeq (·.setIfInBounds j v))).get? TO = some { cls := .type "tuple", data := .seq (kp.setIfInBounds j v) } := by
      rw [Heap.get?_update_self _ hkp2 rfl]
      simp [Obj.mapSeq]
    have hjn : j < its.length := (List.getElem?_eq_some_iff.mp ha).1
    refine ⟨j + 1, _, kp.setIfInBounds j v, rfl, hrest2, hjn, rfl, ?_, g3, by rw [Array.size_setIfInBounds, hkps], ?_, ?_, hs3.1.trans (hs2.1.trans hsize)⟩
    · intro k a2 l2 r2 e1 e2 e3
      obtain ⟨⟨o, ho, q⟩, q2⟩ := I2 k a2 l2 r2 e1 e2 e3
      exact ⟨⟨o, hs3.extBut _ _ (fun y => D.Oi (y ▸ List.mem_of_getElem? e1)) ho, q⟩, q2.extBut hs3.extBut (D.lz l2 (List.mem_of_getElem? e2)).2.1⟩
    · intro k hkj
      by_cases e : k = j
      · subst e
        rw [Array.getElem?_setIfInBounds_self_of_lt (by omega), ev]
      · rw [Array.getElem?_setIfInBounds_ne (by omega)]
        exact hkv k (by omega)
    · intro b o hb e
      have b1 : b ≠ TO := fun y => hb (by rw [y]; simp)
      have b2 : b ∉ its := fun y => hb (List.mem_cons_of_mem _ y)
      exact hs3.extBut _ _ b1 (hs2.extBut _ _ (fun y => b2 (y ▸ List.mem_of_getElem? ha)) (hk b o hb e))
  · rintro b s' ⟨j, h', kp, rfl, hrest, hj, rfl, Ij, hkp, hkps, hkv, hk, hsize⟩
    have hjn : j = its.length := by
      have := congrArg List.length hrest
      simp [refs] at this
      omega
    subst hjn
    dsimp only
    have ekp : kp = vals.toArray := by
      apply Array.ext_getElem?
      intro k
      by_cases hk2 : k < its.length
      · rw [hkv k hk2]
        simp
      · rw [Array.getElem?_eq_none (by omega), Array.getElem?_eq_none (by simp; omega)]
    subst ekp
    refine wpAny_bind (wpAny_seqItems hkp rfl ?_)
    refine wpAny_bind (wpAny_newTuple ?_ (by show vals.length ≤ sizeLine; exact Nat.le_trans (show vals.length ≤ 1000 by omega) (by decide)))
    have hsz2 : h'.objs.size = s.heap.objs.size := hsize.trans hs₁.1
    have hz2 : IsZip h' z TI TO .ellipsis := hk z _ (by simp only [List.mem_cons, not_or]; exact ⟨D.zO, D.zi⟩) hz₁
    have hzlt : z < h'.objs.size := Heap.lt_size hz2
    show wpAny _ _ (Builtin.SmallTypes.ownedTupleHandOut (.ref z) (.ref h'.objs.size) >>= _) _ _ _
    refine wpAny_bind ?_
    unfold Builtin.SmallTypes.ownedTupleHandOut
    have hz3 : IsZip (h'.push { cls := .type "tuple", data := .seq vals.toArray }) z TI TO .ellipsis := Heap.get?_push_of_some _ hz2
    refine wpAny_bind (wpAny_setField_rec hz3 (by simp) fun h₇ hz₇ hs₇ => ?_)
    replace hz₇ : IsZip h₇ z TI TO (rawInt h'.objs.size) := hz₇
    refine wpAny_setField_rec hz₇ (by simp) fun h₈ hz₈ hs₈ => ?_
    replace hz₈ : Held h₈ z TI TO h'.objs.size false := hz₈
    have up : ∀ c o, c ≠ z → h'.get? c = some o → h₈.get? c = some o := fun c o c1 e => hs₈.extBut _ _ c1 (hs₇.extBut _ _ c1 (Heap.get?_push_of_some _ e))
    have hT₈ : h₈.get? h'.objs.size = some { cls := .type "tuple", data := .seq vals.toArray } := hs₈.extBut _ _ (Nat.ne_of_gt hzlt) (hs₇.extBut _ _ (Nat.ne_of_gt hzlt) (Heap.get?_push_size _ rfl))
    have h8s : h₈.objs.size = h'.objs.size + 1 := by rw [hs₈.1, hs₇.1, Heap.size_push]
    refine wpAny_pure ⟨_, rfl, ?_⟩
    show Q (.ref h'.objs.size) _
    have I8 : ItersAt h₈ its ls rows (fun _ => i + 1) := fun k a l r e1 e2 e3 => by
      obtain ⟨⟨o, ho, q⟩, ol, hol, q2⟩ := Ij k a l r e1 e2 e3
      dsimp only at q
      rw [if_pos (List.getElem?_eq_some_iff.mp e1).1] at q
      exact ⟨⟨o, up _ _ (fun y => D.zi (y ▸ List.mem_of_getElem? e1)) ho, q⟩, ol, up _ _ (D.lz l (List.mem_of_getElem? e2)).1 hol, q2⟩
    have k8 : KeepBut (z :: TO :: its) s.heap h₈ := fun b o hb e => by
      have b1 : b ≠ z := fun y => hb (by rw [y]; simp)
      exact up _ _ b1 (hk b o (fun y => hb (List.mem_cons_of_mem _ y)) (hs₁.extBut _ _ b1 e))
    rw [hsz2] at hz₈ hT₈ h8s ⊢
    exact hQ h₈ hz₈ I8 hT₈ h8s k8
/-- the zip behind i draws -/
structure ZSt (z TI TO : Addr) (its ls : List Addr) (rows : List (Array Value)) (h : Heap) (i : Nat) : Prop where
  ti : h.get? TI = some { cls := .type "tuple", data := .seq (refs its).toArray }
  it : ItersAt h its ls rows (fun _ => i)
  st : (Free h z TI TO ∧ i = 0 ∧ ∃ kept : Array Value, h.get? TO = some { cls := .type "tuple", data := .seq kept } ∧ kept.size = its.length) ∨ (∃ T f oT, Held h z TI TO T f ∧ h.get? T = some oT ∧ oT.cls = .type "tuple" ∧ T ∉ z :: TO :: its)
theorem ZSt.zip {z TI TO : Addr} {its ls : List Addr} {rows : List (Array Value)} {i : Nat} (Z : ZSt z TI TO its ls rows s.heap i) : s.TypeIs (.ref z) "zip" := by
  rcases Z.st with ⟨hz, _⟩ | ⟨T, f, oT, hz, _⟩
  · exact ⟨_, hz, rfl⟩
  · exact ⟨_, hz, rfl⟩
/-- what is laid beside changes nothing -/
theorem ZSt.keep {z TI TO : Addr} {its ls : List Addr} {rows : List (Array Value)} {h h' : Heap} {i : Nat} {S : Addr} {oS : Obj} (Z : ZSt z TI TO its ls rows h i) (hS : h.get? S = some oS) (hc : oS.cls = .type "list") (k : ∀ b o, b ≠ S → h.get? b = some o → h'.get? b = some o) : ZSt z TI TO its ls rows h' i := by
  have ne : ∀ {b o}, h.get? b = some o → o.cls ≠ .type "list" → b ≠ S := fun e n y => by
    subst y
    rw [hS] at e
    cases e
    exact n hc
  have tl : Value.type "tuple" ≠ Value.type "list" := by decide
  have zl : Value.type "zip" ≠ Value.type "list" := by decide
  refine ⟨k _ _ (ne Z.ti tl) Z.ti, fun q a l r e1 e2 e3 => ?_, ?_⟩
  · obtain ⟨⟨o, ho, q1, q2⟩, ol, hol, q3, q4⟩ := Z.it q a l r e1 e2 e3
    exact ⟨⟨o, k _ _ (ne ho (by rw [q1]; decide)) ho, q1, q2⟩, ol, k _ _ (ne hol (by rw [q3]; decide)) hol, q3, q4⟩
  · rcases Z.st with ⟨hz, h0, kept, hk, hs⟩ | ⟨T, f, oT, hz, hT, hn⟩
    · exact .inl ⟨k _ _ (ne hz zl) hz, h0, kept, k _ _ (ne hk tl) hk, hs⟩
    · exact .inr ⟨T, f, oT, k _ _ (ne hz zl) hz, k _ _ (ne hT (by rw [hn.1]; exact tl)) hT, hn⟩
theorem draw {z TI TO : Addr} {its ls : List Addr} {rows : List (Array Value)} {i : Nat} {vals : List Value} {Q : Option Value → Shared → Prop} (D : Ap z TI TO its ls) (hne : its ≠ []) (Z : ZSt z TI TO its ls rows s.heap i) (hlt : ∀ b ∈ z :: TO :: its, b < s.heap.objs.size) (hr : rows.length = its.length)
    (hv : vals.length = its.length) (hx : ∀ (k : Nat) (r : Array Value) (v : Value), rows[k]? = some r → vals[k]? = some v → r[i]? = some v) (hsz : its.length ≤ 1000)
    (hQ : ∀ h', ZSt z TI TO its ls rows h' (i + 1) → h'.get? s.heap.objs.size = some { cls := .type "tuple", data := .seq vals.toArray } → h'.objs.size = s.heap.objs.size + 1 → KeepBut (z :: TO :: its) s.heap h' → Q (some (.ref s.heap.objs.size)) { s with heap := h' }) :
    wpAny (model prog w) A (pyNext (.ref z)) Q E s := by
  have hTy := Z.zip
  have hIn : TI ∉ z :: TO :: its := by
    simp only [List.mem_cons, not_or]
    exact ⟨D.Iz, D.IO, D.Ii⟩
  unfold pyNext
  refine wpAny_bind (wpAny_attempt (wpAny_callSpecial?_slot (name := Str.ofString "__next__") hTy F.slot_zip_next (wpAny_call_entry F.slot_zip_next hTy F.entry_zip_next ?_ (F.args_zip_next_1 _))))
  rcases Z.st with ⟨hz, h0, kept, hk, hs⟩ | ⟨T, f, oT, hz, hT, hn⟩
  · exact free_item D hne hz Z.ti hk hs Z.it hr hv hx hsz fun h' a1 a2 a3 a4 a5 => wpAny_pure (hQ h' ⟨a5 _ _ hIn Z.ti, a2, .inr ⟨_, _, _, a1, a3, rfl, fun y => Nat.lt_irrefl _ (hlt _ y)⟩⟩ a3 a4 a5)
  · refine held_item D hne hz hT Z.ti Z.it hr hv hx hsz fun h' a1 a2 a3 a4 a5 => wpAny_pure ?_
    have a6 : KeepBut (z :: TO :: its) s.heap h' := fun b o hb e => a5 b o (fun y => hb (by
      rcases List.mem_cons.mp y with y | y
      · rw [y]
        exact List.mem_cons_self
      · exact List.mem_cons_of_mem _ (List.mem_cons_of_mem _ y))) e
    exact hQ h' ⟨a6 _ _ hIn Z.ti, a2, .inr ⟨_, _, _, a1, a6 _ _ hn.2 hT, hn⟩⟩ a3 a4 a6
theorem stop {z TI TO a l : Addr} {its ls : List Addr} {rows : List (Array Value)} {i : Nat} {r : Array Value} {Q : Option Value → Shared → Prop} (hh : A.handled = none) (D : Ap z TI TO its ls) (Z : ZSt z TI TO its ls rows s.heap i) (hi : 1 ≤ i)
    (h1 : its[0]? = some a) (h2 : ls[0]? = some l) (h3 : rows[0]? = some r) (hx : r[i]? = none) (hQ : ∀ h', KeepBut (z :: TO :: its) s.heap h' → Q none { s with heap := h' }) : wpAny (model prog w) A (pyNext (.ref z)) Q E s := by
  have hTy := Z.zip
  unfold pyNext
  rcases Z.st with ⟨_, h0, _⟩ | ⟨T, f, oT, hz, hT, hn⟩
  · omega
  · refine wpAny_bind (wpAny_attempt (wpAny_callSpecial?_slot (name := Str.ofString "__next__") hTy F.slot_zip_next (wpAny_call_entry F.slot_zip_next hTy F.entry_zip_next (held_end hh D hz hT Z.ti Z.it h1 h2 h3 hx fun h' e hk he => ?_) (F.args_zip_next_1 _))))
    obtain ⟨o, ho, hc⟩ := he
    refine wpAny_bind (wpAny_isInstance (T := "StopIteration") (b := true) ⟨o, ho, hc⟩ isSubtype_stop ?_)
    refine wpAny_pure (hQ _ fun b o hb e => hk b o (fun y => hb ?_) e)
    rcases List.mem_cons.mp y with y | y
    · rw [y]
      exact List.mem_cons_self
    · exact List.mem_cons_of_mem _ (List.mem_cons_of_mem _ y)
/-- the items drawn so far stand at as -/
structure Got (h : Heap) (lo : Nat) (cols : Nat → List Value) (as : List Addr) : Prop where
  at_ : ∀ (j : Nat) (a : Addr), as[j]? = some a → h.get? a = some { cls := .type "tuple", data := .seq (cols j).toArray }
  up : as.Pairwise (· < ·)
  lo_ : ∀ a ∈ as, lo ≤ a ∧ a < h.objs.size
theorem Got.lay {h h' : Heap} {lo : Nat} {cols : Nat → List Value} {as : List Addr} (G : Got h lo cols as) (k : ∀ a ∈ as, ∀ o, h.get? a = some o → h'.get? a = some o) (hs : h.objs.size ≤ h'.objs.size) : Got h' lo cols as :=
  ⟨fun j a e => k a (List.mem_of_getElem? e) _ (G.at_ j a e), G.up, fun a m => ⟨(G.lo_ a m).1, Nat.lt_of_lt_of_le (G.lo_ a m).2 hs⟩⟩
theorem Got.snoc {h h' : Heap} {lo : Nat} {cols : Nat → List Value} {as : List Addr} (G : Got h lo cols as) (k : ∀ a ∈ as, ∀ o, h.get? a = some o → h'.get? a = some o) (hs : h'.objs.size = h.objs.size + 1) (hlo : lo ≤ h.objs.size)
    (new : h'.get? h.objs.size = some { cls := .type "tuple", data := .seq (cols as.length).toArray }) : Got h' lo cols (as ++ [h.objs.size]) := by
  refine ⟨fun j a e => ?_, ?_, fun a m => ?_⟩
  · rcases Nat.lt_or_ge j as.length with hj | hj
    · rw [List.getElem?_append_left hj] at e
      exact k a (List.mem_of_getElem? e) _ (G.at_ j a e)
    · rw [List.getElem?_append_right hj] at e
      have e0 : j - as.length = 0 := by
        rcases Nat.eq_zero_or_pos (j - as.length) with z | z
        · exact z
        · rw [List.getElem?_eq_none (by simp; omega)] at e
          cases e
      rw [e0] at e
      cases e
      rw [show j = as.length by omega]
      exact new
  · rw [List.pairwise_append]
    refine ⟨G.up, by simp, fun a ha b hb => ?_⟩
    rw [List.mem_singleton.mp hb]
    exact (G.lo_ a ha).2
  · rcases List.mem_append.mp m with m | m
    · exact ⟨(G.lo_ a m).1, by rw [hs]; exact Nat.lt_succ_of_lt (G.lo_ a m).2⟩
    · rw [List.mem_singleton.mp m]
      exact ⟨hlo, by rw [hs]; exact Nat.lt_succ_self _⟩
theorem extend_loop {z TI TO S : Addr} {its ls : List Addr} {rows : List (Array Value)} {n lo : Nat} {cols : Nat → List Value} {R : Result → Shared → Prop} (hh : A.in1.handled = none) (D : Ap z TI TO its ls) (hne : its ≠ []) (hr : rows.length = its.length) (h1n : 1 ≤ n) (hn : n ≤ 1000) (hsz : its.length ≤ 1000)
    (hw : ∀ r ∈ rows, r.size = n) (hc : ∀ i, i < n → (cols i).length = its.length ∧ ∀ (k : Nat) (r : Array Value) (v : Value), rows[k]? = some r → (cols i)[k]? = some v → r[i]? = some v) (hSW : S ∉ z :: TO :: its) (res : Value) :
    ∀ (k : Nat) (s : Shared) (as : List Addr) (c : Nat), n - as.length = k → as.length ≤ n → ZSt z TI TO its ls rows s.heap as.length → (∀ b ∈ z :: TO :: its, b < s.heap.objs.size ∧ b < lo) → S < lo → lo ≤ s.heap.objs.size →
    s.heap.get? S = some { cls := .type "list", dict := none, data := .seq (refs as).toArray c, slots := #[] } → Got s.heap lo cols as →
    (∀ h' as' c', as'.length = n → KeepBut (S :: z :: TO :: its) s.heap h' → h'.get? S = some { cls := .type "list", dict := none, data := .seq (refs as').toArray c', slots := #[] } → Got h' lo cols as' → R (.ok (.ret res)) { s with heap := h' }) →
    codeAny (model prog w) A (.builtin "list.extend.loop" ⟨[.ref S, .ref z, res], []⟩) R s := by
  intro k
  induction k with
  | zero =>
    intro s as c hk hle Z hlt hSl hlo hS G hR
    have e : as.length = n := by omega
    obtain ⟨a, ha⟩ : ∃ a, its[0]? = some a := by
      cases its with
      | nil => exact absurd rfl hne
      | cons a r => exact ⟨a, rfl⟩
    have hpos : 0 < its.length := (List.getElem?_eq_some_iff.mp ha).1
    have hln := D.ln
    have h2 : ls[0]? = some (ls[0]'(by omega)) := List.getElem?_eq_getElem (by omega)
    have h3 : rows[0]? = some (rows[0]'(by omega)) := List.getElem?_eq_getElem (by omega)
    refine codeAny_builtin F.entry_extend_loop ?_
    rw [Around.under_plainId F.plain_extend_loop _]
    show wpAny _ A.in1 (pyNext (.ref z) >>= _) _ _ s
    refine wpAny_bind (stop hh D Z (by omega) ha h2 h3 (Array.getElem?_eq_none (by rw [hw _ (List.mem_of_getElem? h3)]; omega)) fun h' hk' => ?_)
    have keepG : ∀ a ∈ as, ∀ o, s.heap.get? a = some o → h'.get? a = some o := fun a m o x => hk' a o (fun y => Nat.lt_irrefl _ (Nat.lt_of_lt_of_le (hlt a y).2 (G.lo_ a m).1)) x
    refine wpAny_pure (hR h' as c e (fun b o hb x => hk' b o (fun y => hb (List.mem_cons_of_mem _ y)) x) (hk' _ _ hSW hS) ⟨fun j a x => keepG a (List.mem_of_getElem? x) _ (G.at_ j a x), G.up, fun a m => ⟨(G.lo_ a m).1, ?_⟩⟩)
    obtain ⟨j, hj⟩ := List.mem_iff_getElem?.mp m
    exact Heap.lt_size (keepG a m _ (G.at_ j a hj))
  | succ k ih =>
    intro s as c hk hle Z hlt hSl hlo hS G hR
    have hi : as.length < n := by omega
    obtain ⟨hcl, hcx⟩ := hc as.length hi
    refine codeAny_builtin F.entry_extend_loop ?_
    rw [Around.under_plainId F.plain_extend_loop _]
    show wpAny _ A.in1 (pyNext (.ref z) >>= _) _ _ s
    refine wpAny_bind (draw D hne Z (fun b m => (hlt b m).1) hr hcl hcx hsz fun h' Z' new hsize hk' => ?_)
    have hS' := hk' _ _ hSW hS
    show wpAny _ A.in1 (updateSeq S (·.push (.ref s.heap.objs.size)) >>= _) _ _ _
    refine wpAny_bind (wpAny_updateSeq hS' rfl ?_ (by simp [refs]; exact Nat.le_trans (show as.length ≤ 1000 by omega) (by decide)) (by rw [Array.size_push]; simp [refs]; exact Nat.le_trans (show as.length ≤ 1000 by omega) (by decide)))
    have hs3 := Heap.SameBut.update h' S (Obj.mapSeq (·.push (Value.ref s.heap.objs.size)))
    have keepG : ∀ a ∈ as, ∀ o, s.heap.get? a = some o → h'.get? a = some o := fun a m o x => hk' a o (fun y => Nat.lt_irrefl _ (Nat.lt_of_lt_of_le (hlt a y).2 (G.lo_ a m).1)) x
    have G' := G.snoc keepG hsize hlo new
    have g3 : ∃ c', (h'.update S (Obj.mapSeq (·.push (Value.ref s.heap.objs.size)))).get? S = some { cls := .type "list", dict := none, data := .seq (refs (as ++ [s.heap.objs.size])).toArray c', slots := #[] } := by
      rw [Heap.get?_update_self _ hS' rfl]
      have e : (refs as).toArray.push (Value.ref s.heap.objs.size) = (refs (as ++ [s.heap.objs.size])).toArray := by simp [refs]
      rw [← e]
      exact ⟨_, rfl⟩
    obtain ⟨c', g3⟩ := g3
    have el : (as ++ [s.heap.objs.size]).length = as.length + 1 := by simp
    refine wpAny_pure ⟨plainId_quiet F.plain_extend_loop _, ih { s with heap := h'.update S (Obj.mapSeq (·.push (Value.ref s.heap.objs.size))) } (as ++ [s.heap.objs.size]) c' (by rw [el]; omega) (by rw [el]; omega) ?_ ?_ hSl ?_ g3 ?_ ?_⟩
    · rw [el]
      exact Z'.keep hS' rfl fun b o hb x => hs3.extBut _ _ hb x
    · intro b m
      refine ⟨?_, (hlt b m).2⟩
      show b < (h'.update S _).objs.size
      rw [hs3.1, hsize]
      exact Nat.lt_succ_of_lt (hlt b m).1
    · show lo ≤ (h'.update S _).objs.size
      rw [hs3.1, hsize]
      exact Nat.le_succ_of_le hlo
    · refine G'.lay (fun a m o x => hs3.extBut _ _ (fun y => ?_) x) (by rw [hs3.1]; exact Nat.le_refl _)
      rw [y] at m
      exact Nat.lt_irrefl _ (Nat.lt_of_lt_of_le hSl (G'.lo_ S m).1)
    · intro h'' as' c'' e1 k1 e2 G2
      refine hR h'' as' c'' e1 (fun b o hb x => k1 b o hb (hs3.extBut _ _ (fun y => hb (by rw [y]; exact List.mem_cons_self)) (hk' b o (fun y => hb (List.mem_cons_of_mem _ y)) x))) e2 G2
theorem no_len : typeLookup (.type "zip") "__len__" = pure none := by rw [typeLookup_type, builtinLookup_eq_fast]; kernel_rfl
theorem no_hint : typeLookup (.type "zip") "__length_hint__" = pure none := by rw [typeLookup_type, builtinLookup_eq_fast]; kernel_rfl
/-- list(zip) as the machine collects it -/
theorem collect_zip {z TI TO : Addr} {its ls : List Addr} {rows : List (Array Value)} {n : Nat} {cols : Nat → List Value} {Q : List Value → Shared → Prop} (hh : A.in1.handled = none) (D : Ap z TI TO its ls) (hne : its ≠ []) (hr : rows.length = its.length) (h1n : 1 ≤ n) (hn : n ≤ 1000) (hsz : its.length ≤ 1000)
    (hw : ∀ r ∈ rows, r.size = n) (hc : ∀ i, i < n → (cols i).length = its.length ∧ ∀ (k : Nat) (r : Array Value) (v : Value), rows[k]? = some r → (cols i)[k]? = some v → r[i]? = some v) (Z : ZSt z TI TO its ls rows s.heap 0) (hlt : ∀ b ∈ z :: TO :: its, b < s.heap.objs.size)
    (hQ : ∀ h' as, as.length = n → KeepBut (z :: TO :: its) s.heap h' → Got h' s.heap.objs.size cols as → Q (refs as) { s with heap := h' }) : wpAny (model prog w) A (collect (.ref z)) Q E s := by
  have hSI : s.heap.objs.size ≠ z := Nat.ne_of_gt (hlt z List.mem_cons_self)
  unfold collect
  refine wpAny_bind (wpAny_runValue (codeAny_builtin F.entry_proto_collect ?_))
  rw [Around.under_plainId F.plain_proto_collect _]
  show wpAny _ A.in1 (newList [] >>= fun l => again (.builtin "list.__iadd__" ⟨[l, .ref z], []⟩)) _ _ s
  refine wpAny_bind (wpAny_newObj_type ?_)
  refine wpAny_pure ⟨plainId_quiet F.plain_list_iadd _, codeAny_builtin F.entry_list_iadd ?_⟩
  rw [Around.under_plainId F.plain_list_iadd _]
  have up : ∀ b o, s.heap.get? b = some o → (s.heap.push { cls := .type "list", data := .seq ([] : List Value).toArray }).get? b = some o := fun b o e => Heap.get?_push_of_some _ e
  have Z1 : ZSt z TI TO its ls rows (s.heap.push { cls := .type "list", data := .seq ([] : List Value).toArray }) 0 := by
    refine ⟨up _ _ Z.ti, fun q a l r e1 e2 e3 => ?_, ?_⟩
    · obtain ⟨⟨o, ho, q1⟩, ol, hol, q3⟩ := Z.it q a l r e1 e2 e3
      exact ⟨⟨o, up _ _ ho, q1⟩, ol, up _ _ hol, q3⟩
    · rcases Z.st with ⟨hz, h0, kept, hk, hs⟩ | ⟨T, f, oT, hz, hT, hn⟩
      · exact .inl ⟨up _ _ hz, h0, kept, up _ _ hk, hs⟩
      · exact .inr ⟨T, f, oT, up _ _ hz, up _ _ hT, hn⟩
  show wpAny _ A.in1 (Builtin.List.listExtendWith (.ref s.heap.objs.size) (.ref z) (.ref s.heap.objs.size)) _ _ _
  unfold Builtin.List.listExtendWith
  refine wpAny_bind (wpAny_typeOf (Z1.zip (s := { s with heap := s.heap.push { cls := .type "list", data := .seq ([] : List Value).toArray } })) ?_)
  have h1 : Builtin.List.listSameRef (.ref s.heap.objs.size) (.ref z) = false := by simp [Builtin.List.listSameRef, hSI]
  have h2 : (Value.type "zip" == Value.type "list") = false := by decide
  have h3 : (Value.type "zip" == Value.type "tuple") = false := by decide
  simp only [h1, h2, h3, Bool.or_false, Bool.false_eq_true, if_false]
  refine wpAny_bind ?_
  have zi : wpAny (model prog w) A.in1 (pyIter (.ref z)) (fun v s' => v = .ref z ∧ s' = { s with heap := s.heap.push { cls := .type "list", data := .seq #[] } }) (fun e s' => E e s') { s with heap := s.heap.push { cls := .type "list", data := .seq #[] } } := by
    rcases Z1.st with ⟨hz, _⟩ | ⟨T, f, oT, hz, _⟩
    · have hT : Shared.TypeIs { s with heap := s.heap.push { cls := .type "list", data := .seq #[] } } (.ref z) "zip" := ⟨_, hz, rfl⟩
      refine wpAny_pyIter_slot hT F.slot_zip_iter (wpAny_call_entry F.slot_zip_iter hT F.entry_zip_iter ?_ (F.args_zip_iter_1 _))
      show wpAny _ _ (ret (.ref z)) _ _ _
      exact wpAny_pure ⟨_, rfl, "zip", _, hT, F.slot_zip_next.lookup, rfl, rfl⟩
    · have hT : Shared.TypeIs { s with heap := s.heap.push { cls := .type "list", data := .seq #[] } } (.ref z) "zip" := ⟨_, hz, rfl⟩
      refine wpAny_pyIter_slot hT F.slot_zip_iter (wpAny_call_entry F.slot_zip_iter hT F.entry_zip_iter ?_ (F.args_zip_iter_1 _))
      show wpAny _ _ (ret (.ref z)) _ _ _
      exact wpAny_pure ⟨_, rfl, "zip", _, hT, F.slot_zip_next.lookup, rfl, rfl⟩
  refine wpAny_mono zi (fun v s' hv => ?_) fun _ _ e => e
  obtain ⟨rfl, rfl⟩ := hv
  refine wpAny_bind (wpAny_holding ?_)
  unfold Builtin.List.listLengthHint
  refine wpAny_bind (wpAny_specialOf (Z1.zip (s := { s with heap := s.heap.push { cls := .type "list", data := .seq ([] : List Value).toArray } })) no_len ?_)
  show wpAny _ A.in1 (specialOf (Value.ref z) (Str.ofString "__length_hint__") >>= _) _ _ _
  refine wpAny_bind (wpAny_specialOf (Z1.zip (s := { s with heap := s.heap.push { cls := .type "list", data := .seq ([] : List Value).toArray } })) no_hint ?_)
  refine wpAny_pure ?_
  rw [Bool.true_or, if_pos rfl]
  refine wpAny_bind (wpAny_rule (wpAny_bind ?_))
  have hS1 : (s.heap.push { cls := .type "list", data := .seq (#[] : Array Value) }).get? s.heap.objs.size = some { cls := .type "list", data := .seq (#[] : Array Value) } := Heap.get?_push_size _ rfl
  show wpAny _ A.in1 (updateSeq s.heap.objs.size (·.push .none) >>= fun _ => updateSeq s.heap.objs.size (·.pop)) _ _ _
  refine wpAny_bind (wpAny_updateSeq hS1 rfl ?_)
  have hS2 := Heap.get?_update_self (Obj.mapSeq (·.push Value.none)) hS1 rfl
  refine wpAny_updateSeq hS2 rfl ?_
  have hS3 := Heap.get?_update_self (Obj.mapSeq (·.pop)) hS2 rfl
  have oth : ∀ b o, b ≠ s.heap.objs.size → (s.heap.push { cls := .type "list", data := .seq (#[] : Array Value) }).get? b = some o →
      (((s.heap.push { cls := .type "list", data := .seq (#[] : Array Value) }).update s.heap.objs.size (Obj.mapSeq (·.push Value.none))).update s.heap.objs.size (Obj.mapSeq (·.pop))).get? b = some o :=
    fun b o hb e => (Heap.get?_update_other _ _ (Ne.symm hb)).trans ((Heap.get?_update_other _ _ (Ne.symm hb)).trans e)
  have size3 : (((s.heap.push { cls := .type "list", data := .seq (#[] : Array Value) }).update s.heap.objs.size (Obj.mapSeq (·.push Value.none))).update s.heap.objs.size (Obj.mapSeq (·.pop))).objs.size = s.heap.objs.size + 1 := by
    rw [(Heap.SameBut.update _ _ _).1, (Heap.SameBut.update _ _ _).1, Heap.size_push]
  have hSW : s.heap.objs.size ∉ z :: TO :: its := fun y => Nat.lt_irrefl _ (hlt _ y)
  obtain ⟨H3, hH3⟩ : ∃ H3, H3 = ((s.heap.push { cls := .type "list", data := .seq (#[] : Array Value) }).update s.heap.objs.size (Obj.mapSeq (·.push Value.none))).update s.heap.objs.size (Obj.mapSeq (·.pop)) := ⟨_, rfl⟩
  rw [← hH3] at hS3 size3
  have oth3 : ∀ b o, b ≠ s.heap.objs.size → (s.heap.push { cls := .type "list", data := .seq (#[] : Array Value) }).get? b = some o → H3.get? b = some o := fun b o hb e => by rw [hH3]; exact oth b o hb e
  obtain ⟨c3, e3⟩ : ∃ c3, H3.get? s.heap.objs.size = some { cls := .type "list", dict := none, data := .seq (refs []).toArray c3, slots := #[] } := ⟨_, hS3⟩
  have Z3 : ZSt z TI TO its ls rows H3 0 := Z1.keep hS1 rfl oth3
  refine wpAny_pure ⟨plainId_quiet F.plain_extend_loop _, ?_⟩
  show codeAny _ _ _ _ { s with heap := ((s.heap.push { cls := .type "list", data := .seq (#[] : Array Value) }).update s.heap.objs.size (Obj.mapSeq (·.push Value.none))).update s.heap.objs.size (Obj.mapSeq (·.pop)) }
  rw [← hH3]
  refine extend_loop (lo := s.heap.objs.size + 1) hh D hne hr h1n hn hsz hw hc hSW _ n { s with heap := H3 } [] c3 rfl (Nat.zero_le _) Z3 (fun b m => ⟨?_, Nat.lt_succ_of_lt (hlt b m)⟩) (Nat.lt_succ_self _) (by show _ ≤ H3.objs.size; rw [size3]; exact Nat.le_refl _) e3 ⟨fun j a e => by simp at e, .nil, fun a m => nomatch m⟩ fun h' as c' hl k1 e1 G => ?_
  · show b < H3.objs.size
    rw [size3]
    exact Nat.lt_succ_of_lt (hlt b m)
  · show wpAny _ A (load s.heap.objs.size >>= _) _ _ _
    refine wpAny_bind (wpAny_load e1 ?_)
    refine wpAny_pure ?_
    show Q (refs as).toArray.toList _
    refine hQ h' as hl (fun b o hb e => ?_) ⟨G.at_, G.up, fun a m => ⟨Nat.le_of_succ_le (G.lo_ a m).1, (G.lo_ a m).2⟩⟩
    have hb2 : b ≠ s.heap.objs.size := Nat.ne_of_lt (Heap.lt_size e)
    exact k1 b o (fun y => (List.mem_cons.mp y).elim hb2 hb) (oth3 b o hb2 (up b o e))
theorem code_tuple {z TI TO : Addr} {its ls : List Addr} {rows : List (Array Value)} {n : Nat} {cols : Nat → List Value} {Q₁ : Value → Shared → Prop} (hh : A.in1.in1.handled = none) (D : Ap z TI TO its ls) (hne : its ≠ []) (hr : rows.length = its.length) (h1n : 1 ≤ n) (hn : n ≤ 1000) (hsz : its.length ≤ 1000)
    (hw : ∀ r ∈ rows, r.size = n) (hc : ∀ i, i < n → (cols i).length = its.length ∧ ∀ (k : Nat) (r : Array Value) (v : Value), rows[k]? = some r → (cols i)[k]? = some v → r[i]? = some v) (Z : ZSt z TI TO its ls rows s.heap 0) (hlt : ∀ b ∈ z :: TO :: its, b < s.heap.objs.size)
    (hQ : ∀ h' as, as.length = n → KeepBut (z :: TO :: its) s.heap h' → Got h' s.heap.objs.size cols as → Q₁ (.ref h'.objs.size) { s with heap := h'.push { cls := .type "tuple", data := .seq (refs as).toArray } }) :
    codeAny (model prog w) A (.call (.builtin "tuple.__new__") ⟨[.type "tuple", .ref z], []⟩) (wants Q₁ E) s := by
  refine codeAny_of_tree ?_
  show wpAny _ A.in1 (do checkBuiltinCall "tuple.__new__" ⟨[.type "tuple", .ref z], []⟩; again (.builtin "tuple.__new__" ⟨[.type "tuple", .ref z], []⟩)) _ _ s
  refine wpAny_bind (wpAny_of_eq (F.newCall_tuple_1 _) (wpAny_pure ⟨plainId_quiet F.plain_tuple_new _, codeAny_builtin F.entry_tuple_new ?_⟩))
  rw [Around.under_plainId F.plain_tuple_new _]
  have hsub := sub_tuple_self
  have hinit := init_tuple_lookup
  have hmh := madeHere_tuple
  have hTI := Z.zip
  wp_walk using wpAny_typeOf hTI, collect_zip hh D hne hr h1n hn hsz hw hc Z hlt
  intro h' as hl k G
  show wpAny _ _ (Builtin.Tuple.tupleExact (refs as).toArray >>= fun v => ret v) _ _ _
  unfold Builtin.Tuple.tupleExact
  refine wpAny_bind (wpAny_newObj_type ?_ (by show (refs as).toArray.size ≤ sizeLine; rw [show (refs as).toArray.size = as.length by simp [refs]]; exact Nat.le_trans (show as.length ≤ 1000 by omega) (by decide)))
  exact wpAny_pure (hQ h' as hl k G)
theorem call_tuple {z TI TO : Addr} {its ls : List Addr} {rows : List (Array Value)} {n : Nat} {cols : Nat → List Value} {Q : Value → Shared → Prop} (hh : A.in1.in1.in1.handled = none) (D : Ap z TI TO its ls) (hne : its ≠ []) (hr : rows.length = its.length) (h1n : 1 ≤ n) (hn : n ≤ 1000) (hsz : its.length ≤ 1000)
    (hw : ∀ r ∈ rows, r.size = n) (hc : ∀ i, i < n → (cols i).length = its.length ∧ ∀ (k : Nat) (r : Array Value) (v : Value), rows[k]? = some r → (cols i)[k]? = some v → r[i]? = some v) (Z : ZSt z TI TO its ls rows s.heap 0) (hlt : ∀ b ∈ z :: TO :: its, b < s.heap.objs.size)
    (hQ : ∀ h' as, as.length = n → KeepBut (z :: TO :: its) s.heap h' → Got h' s.heap.objs.size cols as → Q (.ref h'.objs.size) { s with heap := h'.push { cls := .type "tuple", data := .seq (refs as).toArray } }) :
    wpAny (model prog w) A (call (.type "tuple") [.ref z]) Q E s := by
  refine callType_codes (Q₁ := fun obj s₁ => s₁.TypeIs obj "tuple" ∧ Q obj s₁) F.called_tuple (F.typeCall_tuple_1 _) F.entry_object_init
    (code_tuple hh D hne hr h1n hn hsz hw hc Z hlt fun h' as hl k G => ⟨⟨_, Heap.get?_push_size _ rfl, rfl⟩, hQ h' as hl k G⟩) fun obj s₁ h₁ => ?_
  exact ⟨h₁.1, F.args_object_init_2 obj _, object_init_meets F.called_tuple.init.lookup F.called_tuple.made (by decide) prog w A.in1 _ s₁ ⟨h₁.1, rfl, h₁.2⟩⟩
end
end ZN

/-! for a, b in zip(xs, ys), each of both a tuple or a list -/
namespace ZM
open PySem PySem.Spec PyProof.Rows L2
open PySem.Sem (wp)
def Pos : Bool → Heap → Addr → Addr → Nat → Prop
  | true, h, a, l, i => h.IsTupleIter a l i
  | false, h, a, l, i => h.IsListIter a l i
def Row : Bool → Heap → Addr → Array Value → Prop
  | true, h, l, r => h.IsTuple l r
  | false, h, l, r => h.IsList l r
theorem Pos.to {k : Bool} {h h' : Heap} {a l : Addr} {i : Nat} (p : Pos k h a l i) (e : ∀ o, h.get? a = some o → h'.get? a = some o) : Pos k h' a l i := by
  cases k
  · obtain ⟨o, ho, r⟩ := p
    exact ⟨o, e _ ho, r⟩
  · obtain ⟨o, ho, r⟩ := p
    exact ⟨o, e _ ho, r⟩
theorem Row.to {k : Bool} {h h' : Heap} {l : Addr} {r : Array Value} (p : Row k h l r) (e : ∀ o, h.get? l = some o → h'.get? l = some o) : Row k h' l r := by
  cases k
  · obtain ⟨o, ho, r⟩ := p
    exact ⟨o, e _ ho, r⟩
  · obtain ⟨o, ho, r⟩ := p
    exact ⟨o, e _ ho, r⟩
theorem Pos.obj {k : Bool} {h : Heap} {a l : Addr} {i : Nat} (p : Pos k h a l i) : ∃ o, h.get? a = some o ∧ ∀ v, o.data ≠ .cell v := by
  cases k <;>
  · obtain ⟨o, ho, _, d⟩ := p
    exact ⟨o, ho, fun v q => by rw [d] at q; cases q⟩
theorem Row.lt {k : Bool} {h : Heap} {l : Addr} {r : Array Value} (p : Row k h l r) : l < h.objs.size := by
  cases k <;>
  · obtain ⟨o, ho, _⟩ := p
    exact Heap.lt_size ho
section
variable {prog : Program} {w : World} {A : Around} {E : Value → Shared → Prop} {s : Shared}
theorem next_item {k : Bool} {a l : Addr} {i : Nat} {r : Array Value} {x : Value} {Q : Value → Shared → Prop} (p : Pos k s.heap a l i) (q : Row k s.heap l r) (hx : r[i]? = some x) (h : ∀ h', Pos k h' a l (i + 1) → Heap.SameBut a s.heap h' → Q x { s with heap := h' }) :
    wpAny (model prog w) A (Builtin.SmallTypes.nextOf (.ref a)) Q E s := by
  cases k
  · exact wpAny_nextOf_list_item p q hx h
  · exact RZ.nextOf_tuple_item p q hx h
theorem next_end {k : Bool} {a l : Addr} {i : Nat} {r : Array Value} {Q : Value → Shared → Prop} (hh : A.handled = none) (p : Pos k s.heap a l i) (q : Row k s.heap l r) (hx : r[i]? = none) (h : ∀ h' e, Heap.ExtBut a s.heap h' → (∃ o, h'.get? e = some o ∧ o.cls = .type "StopIteration") → E (.ref e) { s with heap := h' }) :
    wpAny (model prog w) A (Builtin.SmallTypes.nextOf (.ref a)) Q E s := by
  cases k
  · exact wpAny_nextOf_list_end hh p q hx h
  · exact RZ.nextOf_tuple_end hh p q hx h
/-- a new iterator -/
theorem iter_new {k : Bool} {l : Addr} {r : Array Value} {Q : Value → Shared → Prop} (q : Row k s.heap l r) (h : ∀ h', Pos k h' s.heap.objs.size l 0 → h'.objs.size = s.heap.objs.size + 1 → (∀ b o, s.heap.get? b = some o → h'.get? b = some o) → Q (.ref s.heap.objs.size) { s with heap := h' }) :
    wpAny (model prog w) A (pyIter (.ref l)) Q E s := by
  cases k
  · exact wpAny_pyIter_list q (h _ ⟨_, Heap.get?_push_size _ rfl, rfl, rfl⟩ (Heap.size_push ..) fun b o e => Heap.get?_push_of_some _ e)
  · exact wpAny_pyIter_tuple q (h _ ⟨_, Heap.get?_push_size _ rfl, rfl, rfl⟩ (Heap.size_push ..) fun b o e => Heap.get?_push_of_some _ e)
/-- where a two-armed zip stands -/
structure Two (z TI TO i1 i2 l1 l2 : Addr) (k1 k2 : Bool) (n : Nat) (h : Heap) : Prop where
  hz : IsZip h z TI TO .none
  ti : IsPair h TI (.ref i1) (.ref i2)
  to : ∃ x y, IsPair h TO x y
  p1 : Pos k1 h i1 l1 n
  p2 : Pos k2 h i2 l2 n
theorem Two.keep {z TI TO i1 i2 l1 l2 : Addr} {k1 k2 : Bool} {n : Nat} {h h' : Heap} (t : Two z TI TO i1 i2 l1 l2 k1 k2 n h) (k : ∀ c ∈ [z, TI, TO, i1, i2], ∀ o, h.get? c = some o → h'.get? c = some o) : Two z TI TO i1 i2 l1 l2 k1 k2 n h' := by
  obtain ⟨x, y, e⟩ := t.to
  exact ⟨k z (by simp) _ t.hz, k TI (by simp) _ t.ti, ⟨x, y, k TO (by simp) _ e⟩, t.p1.to (k i1 (by simp)), t.p2.to (k i2 (by simp))⟩
/-- one pair is handed out -/
theorem two_item {z TI TO i1 i2 l1 l2 : Addr} {k1 k2 : Bool} {n : Nat} {xs ys : Array Value} {x y : Value} {Q : Value → Shared → Prop} (D : ZipApart z TI TO i1 i2 l1 l2) (t : Two z TI TO i1 i2 l1 l2 k1 k2 n s.heap)
    (q1 : Row k1 s.heap l1 xs) (q2 : Row k2 s.heap l2 ys) (hx : xs[n]? = some x) (hy : ys[n]? = some y)
    (hQ : ∀ h', IsZip h' z TI TO (rawInt s.heap.objs.size) → IsPair h' TO x y → Pos k1 h' i1 l1 (n + 1) → Pos k2 h' i2 l2 (n + 1) → IsPair h' s.heap.objs.size x y → h'.objs.size = s.heap.objs.size + 1 →
      (∀ c o, c ≠ z → c ≠ TO → c ≠ i1 → c ≠ i2 → s.heap.get? c = some o → h'.get? c = some o) → Q (.ref s.heap.objs.size) { s with heap := h' }) :
    wpAny (model prog w) A (Builtin.«zip.__next__» ⟨[.ref z], []⟩) (fun fin s' => ∃ v, fin = .done (.ret v) ∧ Q v s') E s := by
  obtain ⟨hz, hTI, ⟨a, b, hTO⟩, p1, p2⟩ := t
  show wpAny _ _ (field (.ref z) 2 >>= _) _ _ _
  refine wpAny_bind (wpAny_field hz rfl (x := .bool false) rfl ?_)
  show wpAny _ _ (field (.ref z) 3 >>= _) _ _ _
  refine wpAny_bind (wpAny_field hz rfl (x := .ref TI) rfl (wpAny_bind (wpAny_seqItems hTI rfl ?_)))
  show wpAny _ _ (Builtin.SmallTypes.ownedTupleIsFree (.ref z) >>= _) _ _ _
  refine wpAny_bind ?_
  unfold Builtin.SmallTypes.ownedTupleIsFree
  refine wpAny_bind (wpAny_field hz rfl (x := .none) rfl (wpAny_pure ?_))
  simp only [if_true]
  refine wpAny_bind (wpAny_rule (wpAny_bind (wpAny_field hz rfl (x := .ref TO) rfl ?_)))
  refine wpAny_bind (wpAny_setField_rec hz (by simp) fun hA zA sA => ?_)
  have zA : IsZip hA z TI TO .ellipsis := zA
  simp only [List.zipIdx_cons, List.zipIdx_nil, List.forIn_cons, List.forIn_nil]
  refine wpAny_bind (wpAny_bind (wpAny_bind (wpAny_onRaise ?_)))
  show wpAny _ _ (Builtin.SmallTypes.nextOf (.ref i1) >>= _) _ _ _
  refine wpAny_bind (next_item (s := { s with heap := hA }) (p1.to fun o => sA.extBut _ o D.i1z) (q1.to fun o => sA.extBut _ o D.l1z) hx fun hB pB sB => wpAny_pure ?_)
  have oB : IsPair hB TO a b := sB.extBut _ _ D.TOi1 (sA.extBut _ _ D.TOz hTO)
  refine wpAny_bind (wpAny_seqItems oB rfl (wpAny_bind (wpAny_updateSeq_pair oB fun hC oC sC => ?_)))
  have oC : IsPair hC TO x b := oC
  refine wpAny_bind (wpAny_letGo (wpAny_pure (wpAny_bind (wpAny_bind (wpAny_onRaise ?_)))))
  show wpAny _ _ (Builtin.SmallTypes.nextOf (.ref i2) >>= _) _ _ _
  refine wpAny_bind (next_item (s := { s with heap := hC }) (p2.to fun o e => sC.extBut _ _ D.TOi2.symm (sB.extBut _ _ D.i12.symm (sA.extBut _ _ D.i2z e))) (q2.to fun o e => sC.extBut _ _ D.l2TO (sB.extBut _ _ D.l2i1 (sA.extBut _ _ D.l2z e))) hy fun hD pD sD => wpAny_pure ?_)
  have oD : IsPair hD TO x b := sD.extBut _ _ D.TOi2 oC
  refine wpAny_bind (wpAny_seqItems oD rfl (wpAny_bind (wpAny_updateSeq_pair oD fun hF oF sF => ?_)))
  have oF : IsPair hF TO x y := oF
  refine wpAny_bind (wpAny_letGo (wpAny_pure (wpAny_pure ?_)))
  refine wpAny_bind (wpAny_seqItems oF rfl (wpAny_bind (wpAny_newTuple ?_)))
  have size : hF.objs.size = s.heap.objs.size := by rw [sF.1, sD.1, sC.1, sB.1, sA.1]
  have zF : IsZip hF z TI TO .ellipsis := sF.extBut _ _ D.TOz.symm (sD.extBut _ _ D.i2z.symm (sC.extBut _ _ D.TOz.symm (sB.extBut _ _ D.i1z.symm zA)))
  have kF : ∀ c o, c ≠ z → c ≠ TO → c ≠ i1 → c ≠ i2 → s.heap.get? c = some o → hF.get? c = some o := fun c o n1 n2 n3 n4 e => sF.extBut _ _ n2 (sD.extBut _ _ n4 (sC.extBut _ _ n2 (sB.extBut _ _ n3 (sA.extBut _ _ n1 e))))
  have pF1 : Pos k1 hF i1 l1 (n + 1) := pB.to fun o e => sF.extBut _ _ D.TOi1.symm (sD.extBut _ _ D.i12 (sC.extBut _ _ D.TOi1.symm e))
  have pF2 : Pos k2 hF i2 l2 (n + 1) := pD.to fun o e => sF.extBut _ _ D.TOi2.symm e
  show wpAny _ _ (Builtin.SmallTypes.ownedTupleHandOut (.ref z) (.ref hF.objs.size) >>= _) _ _ _
  refine wpAny_bind ?_
  unfold Builtin.SmallTypes.ownedTupleHandOut
  have zG : IsZip (hF.push { cls := .type "tuple", data := .seq #[x, y] }) z TI TO .ellipsis := Heap.get?_push_of_some _ zF
  refine wpAny_bind (wpAny_setField_rec zG (by simp) fun hI zI sI => ?_)
  have zI : IsZip hI z TI TO (rawInt hF.objs.size) := zI
  refine wpAny_setField_rec zI (by simp) fun hJ zJ sJ => wpAny_pure ⟨_, rfl, ?_⟩
  have zJ : IsZip hJ z TI TO (rawInt hF.objs.size) := zJ
  have zlt : z ≠ hF.objs.size := Nat.ne_of_lt (Heap.lt_size zF)
  have up : ∀ c o, c ≠ z → hF.get? c = some o → hJ.get? c = some o := fun c o n1 e => sJ.extBut _ _ n1 (sI.extBut _ _ n1 (Heap.get?_push_of_some _ e))
  have tJ : IsPair hJ hF.objs.size x y := sJ.extBut _ _ zlt.symm (sI.extBut _ _ zlt.symm (Heap.get?_push_size _ rfl))
  have nJ : hJ.objs.size = hF.objs.size + 1 := by rw [sJ.1, sI.1, Heap.size_push]
  show Q (.ref hF.objs.size) _
  rw [size] at zJ tJ nJ ⊢
  exact hQ hJ zJ (up _ _ D.TOz oF) (pF1.to fun o => up _ o D.i1z) (pF2.to fun o => up _ o D.i2z) tJ nJ fun c o n1 n2 n3 n4 e => up c o n1 (kF c o n1 n2 n3 n4 e)
/-- the shorter one is at its end -/
theorem two_end {z TI TO i1 i2 l1 l2 : Addr} {k1 k2 : Bool} {n : Nat} {xs ys : Array Value} {Q : Fin → Shared → Prop} (hh : A.handled = none) (D : ZipApart z TI TO i1 i2 l1 l2) (t : Two z TI TO i1 i2 l1 l2 k1 k2 n s.heap)
    (q1 : Row k1 s.heap l1 xs) (q2 : Row k2 s.heap l2 ys) (hend : xs[n]? = none ∨ ys[n]? = none)
    (hE : ∀ h' e, (∀ c o, c ≠ z → c ≠ TO → c ≠ i1 → c ≠ i2 → s.heap.get? c = some o → h'.get? c = some o) → (∃ o, h'.get? e = some o ∧ o.cls = .type "StopIteration") → E (.ref e) { s with heap := h' }) :
    wpAny (model prog w) A (Builtin.«zip.__next__» ⟨[.ref z], []⟩) Q E s := by
  obtain ⟨hz, hTI, ⟨a, b, hTO⟩, p1, p2⟩ := t
  show wpAny _ _ (field (.ref z) 2 >>= _) _ _ _
  refine wpAny_bind (wpAny_field hz rfl (x := .bool false) rfl ?_)
  show wpAny _ _ (field (.ref z) 3 >>= _) _ _ _
  refine wpAny_bind (wpAny_field hz rfl (x := .ref TI) rfl (wpAny_bind (wpAny_seqItems hTI rfl ?_)))
  show wpAny _ _ (Builtin.SmallTypes.ownedTupleIsFree (.ref z) >>= _) _ _ _
  refine wpAny_bind ?_
  unfold Builtin.SmallTypes.ownedTupleIsFree
  refine wpAny_bind (wpAny_field hz rfl (x := .none) rfl (wpAny_pure ?_))
  simp only [if_true]
  refine wpAny_bind (wpAny_rule (wpAny_bind (wpAny_field hz rfl (x := .ref TO) rfl ?_)))
  refine wpAny_bind (wpAny_setField_rec hz (by simp) fun hA zA sA => ?_)
  have zA : IsZip hA z TI TO .ellipsis := zA
  simp only [List.zipIdx_cons, List.zipIdx_nil, List.forIn_cons, List.forIn_nil]
  refine wpAny_bind (wpAny_bind (wpAny_bind (wpAny_onRaise ?_)))
  show wpAny _ _ (Builtin.SmallTypes.nextOf (.ref i1) >>= _) _ _ _
  have pA := p1.to fun o => sA.extBut _ o D.i1z
  have rA := q1.to fun o => sA.extBut _ o D.l1z
  cases hx : xs[n]? with
  | none =>
    refine wpAny_bind (next_end (s := { s with heap := hA }) hh pA rA hx fun hB e sB he => ?_)
    obtain ⟨oe, hoe, hce⟩ := he
    have zB : IsZip hB z TI TO .ellipsis := sB _ _ D.i1z.symm zA
    have ne : e ≠ z := fun q => by
      rw [q, zB] at hoe
      cases hoe
      simp at hce
    exact wpAny_setField_rec zB (by simp) fun hC _ sC => hE hC e (fun c o n1 _ n3 _ q => sC.extBut _ _ n1 (sB _ _ n3 (sA.extBut _ _ n1 q))) ⟨oe, sC.extBut _ _ ne hoe, hce⟩
  | some x =>
    have hy : ys[n]? = none := hend.resolve_left fun q => by rw [hx] at q; cases q
    refine wpAny_bind (next_item (s := { s with heap := hA }) pA rA hx fun hB pB sB => wpAny_pure ?_)
    have oB : IsPair hB TO a b := sB.extBut _ _ D.TOi1 (sA.extBut _ _ D.TOz hTO)
    refine wpAny_bind (wpAny_seqItems oB rfl (wpAny_bind (wpAny_updateSeq_pair oB fun hC oC sC => ?_)))
    refine wpAny_bind (wpAny_letGo (wpAny_pure (wpAny_bind (wpAny_bind (wpAny_onRaise ?_)))))
    show wpAny _ _ (Builtin.SmallTypes.nextOf (.ref i2) >>= _) _ _ _
    refine wpAny_bind (next_end (s := { s with heap := hC }) hh (p2.to fun o e => sC.extBut _ _ D.TOi2.symm (sB.extBut _ _ D.i12.symm (sA.extBut _ _ D.i2z e))) (q2.to fun o e => sC.extBut _ _ D.l2TO (sB.extBut _ _ D.l2i1 (sA.extBut _ _ D.l2z e))) hy fun hD e sD he => ?_)
    obtain ⟨oe, hoe, hce⟩ := he
    have zD : IsZip hD z TI TO .ellipsis := sD _ _ D.i2z.symm (sC.extBut _ _ D.TOz.symm (sB.extBut _ _ D.i1z.symm zA))
    have ne : e ≠ z := fun q => by
      rw [q, zD] at hoe
      cases hoe
      simp at hce
    exact wpAny_setField_rec zD (by simp) fun hF _ sF => hE hF e (fun c o n1 n2 n3 n4 q => sF.extBut _ _ n1 (sD _ _ n4 (sC.extBut _ _ n2 (sB.extBut _ _ n3 (sA.extBut _ _ n1 q))))) ⟨oe, sF.extBut _ _ ne hoe, hce⟩
theorem pull_item {z TI TO i1 i2 l1 l2 : Addr} {k1 k2 : Bool} {n : Nat} {xs ys : Array Value} {x y : Value} {Q : Option Value → Shared → Prop} (D : ZipApart z TI TO i1 i2 l1 l2) (t : Two z TI TO i1 i2 l1 l2 k1 k2 n s.heap)
    (q1 : Row k1 s.heap l1 xs) (q2 : Row k2 s.heap l2 ys) (hx : xs[n]? = some x) (hy : ys[n]? = some y)
    (hQ : ∀ h', IsZip h' z TI TO (rawInt s.heap.objs.size) → IsPair h' TO x y → Pos k1 h' i1 l1 (n + 1) → Pos k2 h' i2 l2 (n + 1) → IsPair h' s.heap.objs.size x y → h'.objs.size = s.heap.objs.size + 1 →
      (∀ c o, c ≠ z → c ≠ TO → c ≠ i1 → c ≠ i2 → s.heap.get? c = some o → h'.get? c = some o) → Q (some (.ref s.heap.objs.size)) { s with heap := h' }) : wpAny (model prog w) A (pyNext (.ref z)) Q E s := by
  have ty : s.TypeIs (.ref z) "zip" := ⟨_, t.hz, rfl⟩
  unfold pyNext
  exact wpAny_bind (wpAny_attempt (wpAny_callSpecial?_slot (name := Str.ofString "__next__") ty F.slot_zip_next (wpAny_call_entry F.slot_zip_next ty F.entry_zip_next (two_item D t q1 q2 hx hy fun h' b1 b2 b3 b4 b5 b6 b7 => wpAny_pure (hQ h' b1 b2 b3 b4 b5 b6 b7)) (F.args_zip_next_1 _))))
theorem pull_end {z TI TO i1 i2 l1 l2 : Addr} {k1 k2 : Bool} {n : Nat} {xs ys : Array Value} {Q : Option Value → Shared → Prop} (hh : A.handled = none) (D : ZipApart z TI TO i1 i2 l1 l2) (t : Two z TI TO i1 i2 l1 l2 k1 k2 n s.heap)
    (q1 : Row k1 s.heap l1 xs) (q2 : Row k2 s.heap l2 ys) (hend : xs[n]? = none ∨ ys[n]? = none)
    (hQ : ∀ h', (∀ c o, c ≠ z → c ≠ TO → c ≠ i1 → c ≠ i2 → s.heap.get? c = some o → h'.get? c = some o) → Q none { s with heap := h' }) : wpAny (model prog w) A (pyNext (.ref z)) Q E s := by
  have ty : s.TypeIs (.ref z) "zip" := ⟨_, t.hz, rfl⟩
  unfold pyNext
  refine wpAny_bind (wpAny_attempt (wpAny_callSpecial?_slot (name := Str.ofString "__next__") ty F.slot_zip_next (wpAny_call_entry F.slot_zip_next ty F.entry_zip_next (two_end hh D t q1 q2 hend fun h' e hk he => ?_) (F.args_zip_next_1 _))))
  obtain ⟨o, ho, hc⟩ := he
  exact wpAny_bind (wpAny_isInstance (T := "StopIteration") (b := true) ⟨o, ho, hc⟩ isSubtype_stop (wpAny_pure (hQ _ hk)))
end
end ZM

namespace ZM
open PySem PySem.Spec PyProof.Rows L2
open PySem.Sem (wp)
def itO (k : Bool) (l : Addr) : Obj := { cls := .type (if k then "tuple_iterator" else "list_iterator"), data := .fields #[.ref l, .int 0 0] }
theorem iter_c {prog : Program} {w : World} {A : Around} {E : Value → Shared → Prop} {s : Shared} {k : Bool} {l : Addr} {r : Array Value} {Q : Value → Shared → Prop} (q : Row k s.heap l r) (h : Q (.ref s.heap.objs.size) { s with heap := s.heap.push (itO k l) }) :
    wpAny (model prog w) A (pyIter (.ref l)) Q E s := by
  cases k
  · exact wpAny_pyIter_list q h
  · exact wpAny_pyIter_tuple q h
theorem itO_pos {k : Bool} {l : Addr} {h : Heap} {a : Addr} (e : h.get? a = some (itO k l)) : Pos k h a l 0 := by
  cases k
  · exact ⟨_, e, rfl, rfl⟩
  · exact ⟨_, e, rfl, rfl⟩
abbrev hA (h : Heap) (k1 k2 : Bool) (l1 l2 : Addr) : Heap := (h.push (itO k1 l1)).push (itO k2 l2)
abbrev hB (h : Heap) (k1 k2 : Bool) (l1 l2 : Addr) : Heap := (hA h k1 k2 l1 l2).push { cls := .type "tuple", data := .seq #[.ref h.objs.size, .ref (h.push (itO k1 l1)).objs.size] }
abbrev hC (h : Heap) (k1 k2 : Bool) (l1 l2 : Addr) : Heap := (hB h k1 k2 l1 l2).push { cls := .type "tuple", data := .seq #[.none, .none] }
abbrev hD (h : Heap) (k1 k2 : Bool) (l1 l2 : Addr) : Heap := (hC h k1 k2 l1 l2).push { cls := .type "zip", data := .fields #[.none, .bool false, .bool false, .ref (hA h k1 k2 l1 l2).objs.size, .ref (hB h k1 k2 l1 l2).objs.size] }
theorem meets_two (l1 l2 : Addr) (k1 k2 : Bool) (xs ys : Array Value) :
    Meets (Builtin.«zip.__new__» ⟨[.type "zip", .ref l1, .ref l2], []⟩) (fun _ R s => Row k1 s.heap l1 xs ∧ Row k2 s.heap l2 ys ∧
      R (.ok (.ret (.ref (hC s.heap k1 k2 l1 l2).objs.size))) { s with heap := hD s.heap k1 k2 l1 l2 }) :=
  .of_wp fun prog w A R s h => by
    obtain ⟨hp, g, d, tk, os⟩ := s
    obtain ⟨q1, q2, h⟩ := h
    have hsub := sub_zip
    have r1 : Row k1 (Shared.heap ⟨hp, g, d, tk, os⟩) l1 xs := q1
    have r2 : Row k2 (Shared.heap ⟨hp.push (itO k1 l1), g, d, tk, os⟩) l2 ys := Row.to q2 fun o e => Heap.get?_push_of_some _ e
    wp_walk using iter_c r1, iter_c r2
    exact ⟨_, rfl, h⟩
section
variable {prog : Program} {w : World} {A : Around} {E : Value → Shared → Prop} {s : Shared}
theorem call_two {l1 l2 : Addr} {k1 k2 : Bool} {xs ys : Array Value} {Q : Value → Shared → Prop} (q1 : Row k1 s.heap l1 xs) (q2 : Row k2 s.heap l2 ys)
    (h : ∀ h', Two (s.heap.objs.size + 4) (s.heap.objs.size + 2) (s.heap.objs.size + 3) s.heap.objs.size (s.heap.objs.size + 1) l1 l2 k1 k2 0 h' → (∀ b o, s.heap.get? b = some o → h'.get? b = some o) → Q (.ref (s.heap.objs.size + 4)) { s with heap := h' }) :
    wpAny (model prog w) A (call (.type "zip") [.ref l1, .ref l2]) Q E s := by
  refine callType_new F.called_zip (by decide) (F.typeCall_zip_2 _ _) (F.newCall_zip_2 _ _) (fun obj => F.args_object_init_3 obj _ _) F.entry_zip_new (meets_two l1 l2 k1 k2 xs ys) ⟨q1, q2, ?_⟩
  have e1 : (s.heap.push (itO k1 l1)).objs.size = s.heap.objs.size + 1 := Heap.size_push ..
  have e2 : (hA s.heap k1 k2 l1 l2).objs.size = s.heap.objs.size + 2 := by rw [Heap.size_push, e1]
  have e3 : (hB s.heap k1 k2 l1 l2).objs.size = s.heap.objs.size + 3 := by rw [Heap.size_push, e2]
  have e4 : (hC s.heap k1 k2 l1 l2).objs.size = s.heap.objs.size + 4 := by rw [Heap.size_push, e3]
  have up4 : ∀ {b o}, (hC s.heap k1 k2 l1 l2).get? b = some o → (hD s.heap k1 k2 l1 l2).get? b = some o := fun e => Heap.get?_push_of_some _ e
  have up3 : ∀ {b o}, (hB s.heap k1 k2 l1 l2).get? b = some o → (hD s.heap k1 k2 l1 l2).get? b = some o := fun e => up4 (Heap.get?_push_of_some _ e)
  have up2 : ∀ {b o}, (hA s.heap k1 k2 l1 l2).get? b = some o → (hD s.heap k1 k2 l1 l2).get? b = some o := fun e => up3 (Heap.get?_push_of_some _ e)
  have up1 : ∀ {b o}, (s.heap.push (itO k1 l1)).get? b = some o → (hD s.heap k1 k2 l1 l2).get? b = some o := fun e => up2 (Heap.get?_push_of_some _ e)
  have g5 := Heap.get?_push_size (hC s.heap k1 k2 l1 l2) (o := { cls := .type "zip", data := .fields #[.none, .bool false, .bool false, .ref (hA s.heap k1 k2 l1 l2).objs.size, .ref (hB s.heap k1 k2 l1 l2).objs.size] }) rfl
  have g4 := up4 (Heap.get?_push_size (hB s.heap k1 k2 l1 l2) (o := { cls := .type "tuple", data := .seq #[.none, .none] }) rfl)
  have g3 := up3 (Heap.get?_push_size (hA s.heap k1 k2 l1 l2) (o := { cls := .type "tuple", data := .seq #[.ref s.heap.objs.size, .ref (s.heap.push (itO k1 l1)).objs.size] }) rfl)
  have g2 := up2 (Heap.get?_push_size (s.heap.push (itO k1 l1)) (o := itO k2 l2) rfl)
  have g1 := up1 (Heap.get?_push_size s.heap (o := itO k1 l1) rfl)
  show _ ∧ _
  rw [e4] at g5 ⊢
  rw [e3] at g4
  rw [e2] at g3
  rw [e1] at g2
  refine ⟨⟨_, g5, rfl⟩, h _ ⟨?_, ?_, ⟨_, _, g4⟩, itO_pos g1, itO_pos g2⟩ fun b o e => up1 (Heap.get?_push_of_some _ e)⟩
  · show Heap.get? _ _ = _
    rw [g5, e2, e3]
  · show Heap.get? _ _ = _
    rw [g3, e1]
end
/-- the sequences at a and b, each of its kind -/
def SqK (t : Bool) (K : PySem.W.Frag) (H : Hp) (a : Addr) (xs : List V) : Prop := if t = true then SqT K H a xs else SqL K H a xs
theorem SqK.row {t : Bool} {X : Cx} {pins : List (Addr × Obj)} {σ : L2.St} {H : Hp} {s : Shared} {a : Addr} {xs : List V} (I : Inv X pins σ H s) (q : SqK t X.K H a xs) : ∃ its, Vals xs its ∧ Row t s.heap a its.toArray := by
  cases t
  · obtain ⟨its, rv, p, _⟩ := I.list q
    exact ⟨its, rv, p.isList⟩
  · obtain ⟨its, rv, p, _⟩ := I.tuple q
    exact ⟨its, rv, p⟩
theorem SqK.inj {t : Bool} {X : Cx} {pins : List (Addr × Obj)} {σ : L2.St} {H : Hp} {s : Shared} {a : Addr} {xs ys : List V} (I : Inv X pins σ H s) (q : SqK t X.K H a xs) (r : SqK t X.K H a ys) : xs = ys := by
  cases t
  · exact I.list_inj q r
  · exact I.tuple_inj q r
def It2 (t u : Bool) (K : PySem.W.Frag) (a b : Addr) : It :=
  ⟨fun i H => ∃ (xs ys : List V) (x y : V), SqK t K H a xs ∧ SqK u K H b ys ∧ xs[i]? = some x ∧ ys[i]? = some y,
    fun i H v H' => ∃ T x y, v = .ref T ∧ H T = none ∧ H' = upd H T (.tup [x, y]) ∧ (∀ xs, SqK t K H a xs → xs[i]? = some x) ∧ ∀ ys, SqK u K H b ys → ys[i]? = some y,
    fun i H => ∃ xs ys : List V, SqK t K H a xs ∧ SqK u K H b ys ∧ (xs.length ≤ i ∨ ys.length ≤ i)⟩
theorem turn_two {P : Program} {w : World} {K : PySem.W.Frag} {elts : List Expr} {kk : Nat} {tpos : PySem.Pos} {t u : Bool} {a b z TI TO i1 i2 : Addr} (D : ZipApart z TI TO i1 i2 a b) :
    Turn P w K (.Tuple elts kk tpos) (It2 t u K a b) [z, TI, TO, i1, i2] z (fun i h => Two z TI TO i1 i2 a b t u i h) where
  mem := by simp
  obj := fun i h st c hc => by
    obtain ⟨x, y, hTO⟩ := st.to
    have e' : c = z ∨ c = TI ∨ c = TO ∨ c = i1 ∨ c = i2 := by simpa using hc
    rcases e' with rfl | rfl | rfl | rfl | rfl
    · exact ⟨_, st.hz, fun v q => nomatch q⟩
    · exact ⟨_, st.ti, fun v q => nomatch q⟩
    · exact ⟨_, hTO, fun v q => nomatch q⟩
    · exact st.p1.obj
    · exact st.p2.obj
  keep := fun i h h' st k => st.keep k
  item := by
    intro X hP hw hK hc i pins s σ H E I hf st hg
    subst hP hw hK
    obtain ⟨xs, ys, x, y, hqx, hqy, hx, hy⟩ := hg
    obtain ⟨its, rv, p⟩ := SqK.row I hqx
    obtain ⟨its2, rv2, p2⟩ := SqK.row I hqy
    obtain ⟨v1, hu, ru⟩ := rv.get hx
    obtain ⟨v2, hu2, ru2⟩ := rv2.get hy
    have zlt : z < s.heap.objs.size := Heap.lt_size st.hz
    refine pull_item D st p p2 (x := v1) (y := v2) (by simpa using hu) (by simpa using hu2) fun h' z' TO' h1' h2' hT hsz hk => ?_
    refine ⟨_, rfl, wpAny_letOwnedTupleGo_zip (s := { s with heap := h' }) z' fun h'' z'' sb => ?_⟩
    have hT2 : h''.get? s.heap.objs.size = some { cls := .type "tuple", data := .seq #[v1, v2] } := (sb.2 _ (Nat.ne_of_gt zlt)).trans hT
    have new : ObjOk X.prog X.w (upd H s.heap.objs.size (.tup [x, y])) h'' s.heap.objs.size (.tup [x, y]) :=
      ⟨by show 2 ≤ sizeLine; decide, [v1, v2], .cons ru (.cons ru2 .nil), ⟨_, hT2, rfl, _, rfl⟩⟩
    have I1 : Inv X pins σ (upd H s.heap.objs.size (.tup [x, y])) { s with heap := h'' } :=
      I.turnedNew (t' := s.toks) (ch := [z, TI, TO, i1, i2]) (fun c o hb q => by
        simp only [List.mem_cons, List.not_mem_nil, or_false, not_or] at hb
        exact (sb.2 c hb.1).trans (hk c o hb.1 hb.2.2.1 hb.2.2.2.1 hb.2.2.2.2 q)) hf (Nat.le_refl _) new
    refine ⟨.ref s.heap.objs.size, _, I1, rfl, ⟨_, x, y, rfl, I.hok.fresh (Nat.le_refl _), rfl, fun l hl => by rw [SqK.inj I hl hqx]; exact hx, fun l hl => by rw [SqK.inj I hl hqy]; exact hy⟩, ⟨z'', ?_, ⟨v1, v2, ?_⟩, ?_, ?_⟩, fun c hcm => ?_⟩
    · exact (sb.2 _ D.TIz).trans (hk _ _ D.TIz D.TITO D.TIi1 D.TIi2 st.ti)
    · exact (sb.2 _ D.TOz).trans TO'
    · exact h1'.to fun o q => (sb.2 _ D.i1z).trans q
    · exact h2'.to fun o q => (sb.2 _ D.i2z).trans q
    · have hlt : c < s.heap.objs.size := by
        obtain ⟨x0, y0, hTO⟩ := st.to
        have e' : c = z ∨ c = TI ∨ c = TO ∨ c = i1 ∨ c = i2 := by simpa using hcm
        rcases e' with rfl | rfl | rfl | rfl | rfl
        · exact zlt
        · exact Heap.lt_size st.ti
        · exact Heap.lt_size hTO
        · obtain ⟨_, e1, _⟩ := st.p1.obj
          exact Heap.lt_size e1
        · obtain ⟨_, e2, _⟩ := st.p2.obj
          exact Heap.lt_size e2
      rw [upd_ne (Nat.ne_of_lt hlt)]
      exact (hf c hcm).1
  done := by
    intro X hP hw hK hc i pins s σ H E I hf st hg
    subst hP hw hK
    obtain ⟨xs, ys, hqx, hqy, hend⟩ := hg
    obtain ⟨its, rv, p⟩ := SqK.row I hqx
    obtain ⟨its2, rv2, p2⟩ := SqK.row I hqy
    have n1 := rv.length
    have n2 := rv2.length
    have he : its.toArray[i]? = none ∨ its2.toArray[i]? = none := by
      rcases hend with q | q
      · exact .inl (by simp; omega)
      · exact .inr (by simp; omega)
    exact pull_end (I.ok.hd hc) D st p p2 he fun h' hk => ⟨rfl, I.turnedL (t' := s.toks) (ch := [z, TI, TO, i1, i2]) (fun c o hb q => by
      simp only [List.mem_cons, List.not_mem_nil, or_false, not_or] at hb
      exact hk c o hb.1 hb.2.2.1 hb.2.2.2.1 hb.2.2.2.2 q) hf⟩
  self := fun A i s Q E st h => wpAny_pyIter_zip st.hz h
def iZip2 (t u : Bool) (K : PySem.W.Frag) (ta : TA) : TI := fun σ H R => ta σ H fun vs H1 => ∃ a b xs ys, vs = [.ref a, .ref b] ∧ SqK t K H1 a xs ∧ SqK u K H1 b ys ∧ R (It2 t u K a b) H1
theorem pi_zip2 (t u : Bool) {X : Cx} {e e2 : Expr} {ta : TA} {p pos tpos : PySem.Pos} {elts : List Expr} {kk : Nat} (hg : Gl X "zip") (hm : X.mg "zip" = none) (ha : PA X [e, e2] ta)
    (hs : starEach [e, e2] X.env = (false, eval e X.env) :: starEach [e2] X.env := by rfl) (hpl : (backTo pos (starEach [e2] X.env)).any (·.1) = false := by rfl) :
    PI X (.Tuple elts kk tpos) (.Call (.Name "zip" p) [e, e2] [] pos) (iZip2 t u X.K ta) := by
  refine ⟨fun pins s σ H R I h => ?_⟩
  refine Call_ (ld_blt I hg hm PyProof.Rows.boot_zip (PyProof.Rows.callWith_type1 (thn (ha.run pos pins s σ H _ I h) fun us s1 ⟨vs, H1, I1, r1, q1⟩ => ?_) hs hpl))
  obtain ⟨a, b, xs, ys, rfl, hqx, hqy, q⟩ := q1
  cases r1 with
  | cons r rr =>
    cases rr with
    | cons r' rr =>
      cases rr
      cases r
      cases r'
      obtain ⟨its, rv, p1⟩ := SqK.row I1 hqx
      obtain ⟨its2, rv2, p2⟩ := SqK.row I1 hqy
      refine call_two p1 p2 fun h' st hk => wpAny_pyIter_zip st.hz ?_
      have I2 : Inv X pins σ H1 { s1 with heap := h' } := I1.kept (t' := s1.toks) hk
      refine ⟨s1.heap.objs.size + 4, [s1.heap.objs.size + 4, s1.heap.objs.size + 2, s1.heap.objs.size + 3, s1.heap.objs.size, s1.heap.objs.size + 1], _, _, H1, rfl, I2, turn_two (PySem.W.ktu_apart s1.heap.objs.size a b p1.lt p2.lt), st, fun c hcm => ?_, q⟩
      have hle : s1.heap.objs.size ≤ c := by
        have e' : c = s1.heap.objs.size + 4 ∨ c = s1.heap.objs.size + 2 ∨ c = s1.heap.objs.size + 3 ∨ c = s1.heap.objs.size ∨ c = s1.heap.objs.size + 1 := by simpa using hcm
        rcases e' with z | z | z | z | z <;> rw [z]
        · exact Nat.le_add_right _ _
        · exact Nat.le_add_right _ _
        · exact Nat.le_add_right _ _
        · exact Nat.le_refl _
        · exact Nat.le_add_right _ _
      exact I1.fpOk hle (I1.hok.fresh hle)
theorem walk_two {t u : Bool} {K : PySem.W.Frag} {a b : Addr} {xs ys : List V} {n : Nat} (hn : n = min xs.length ys.length) : Walk (It2 t u K a b) n (fun H => SqK t K H a xs ∧ SqK u K H b ys) (YPair (fun i => xs[i]?) (fun i => ys[i]?)) := by
  subst hn
  refine ⟨fun i _ hi q => ?_, fun _ q => ⟨xs, ys, q.1, q.2, by omega⟩, fun i H v H' _ q y => ?_⟩
  · have g1 : i < xs.length := by omega
    have g2 : i < ys.length := by omega
    exact ⟨xs, ys, xs[i], ys[i], q.1, q.2, by simp [g1], by simp [g2]⟩
  · obtain ⟨T, x, z, e1, e2, e3, e4, e5⟩ := y
    exact ⟨T, x, z, e1, e2, e3, e4 xs q.1, e5 ys q.2⟩
end ZM

/-! tuple * int, any int up to 1000 -/
namespace Wk
open PySem PySem.Spec PyProof.Rows L2
theorem rep_one (l : Addr) (items : Array Value) (n : Nat) (dd : Option Addr) (sl : Array (Option Value)) (u : Tok) :
    Meets (Builtin.«tuple.__mul__» ⟨[.ref l, .int 1 u], []⟩) (fun _ R s => s.heap.get? l = some { cls := .type "tuple", dict := dd, data := .seq items n, slots := sl } ∧
      R (.ok (.ret (Value.ref l))) { s with toks := s.toks }) :=
  .of_wp fun prog w A R s h => by
    obtain ⟨hp, g, d, tk, os⟩ := s
    obtain ⟨hl, h⟩ := h
    have f1 := AutoSeq1.idx_int
    have e1 : (items.isEmpty || (1 : Int) == 1) = true := by simp
    wp_walk using wpAny_loadPart' hl
    repeat (first
      | (refine wpAny_ite_true (decide_eq_true e1) ?_; wp_walk using wpAny_loadPart' hl)
      | (refine wpAny_ite_false (decide_eq_false (by decide)) ?_; wp_walk using wpAny_loadPart' hl))
    exact ⟨_, rfl, h⟩
theorem rep_none (l : Addr) (items : Array Value) (n : Nat) (dd : Option Addr) (sl : Array (Option Value)) (x : Int) (u : Tok) (c0 : (decide (x < -(2 ^ 63)) || decide (x ≥ 2 ^ 63)) = false) (c1 : (items.isEmpty || x == 1) = false) (c2 : (decide (x ≤ 0) || items.isEmpty) = true) :
    Meets (Builtin.«tuple.__mul__» ⟨[.ref l, .int x u], []⟩) (fun _ R s => s.heap.get? l = some { cls := .type "tuple", dict := dd, data := .seq items n, slots := sl } ∧
      R (.ok (.ret (Value.ref s.heap.objs.size))) { s with heap := s.heap.push { cls := Value.type "tuple", data := Data.seq #[] }, toks := s.toks }) :=
  .of_wp fun prog w A R s h => by
    obtain ⟨hp, g, d, tk, os⟩ := s
    obtain ⟨hl, h⟩ := h
    have f1 := AutoSeq1.idx_int
    wp_walk using wpAny_loadPart' hl
    repeat (first
      | (refine wpAny_ite_false (decide_eq_false (by rw [c0]; exact Bool.false_ne_true)) ?_; wp_walk using wpAny_loadPart' hl)
      | (refine wpAny_ite_false (decide_eq_false (by rw [c1]; exact Bool.false_ne_true)) ?_; wp_walk using wpAny_loadPart' hl)
      | (refine wpAny_ite_true (decide_eq_true (by rw [c2])) ?_; wp_walk using wpAny_loadPart' hl))
    exact ⟨_, rfl, h⟩
def rRepA (K : PySem.W.Frag) : R2 := fun x y H Q => ∃ l k xs, x = .ref l ∧ y = .int k ∧ SqT K H l xs ∧ xs ≠ [] ∧ -(2 ^ 62) ≤ k ∧ k ≤ 1000 ∧ xs.length ≤ 1000 ∧ (k = 1 → Q (.ref l) H) ∧ (k ≠ 1 → ∀ p, H p = none → Q (.ref p) (upd H p (.tup (List.replicate k.toNat xs).flatten)))
theorem op_repA {X : Cx} : OpR X (binaryOp .Mult) (rRepA X.K) := by
  intro pins s σ H x y v u Q I rx ry h
  obtain ⟨l, k, xs, rfl, rfl, hT, hne, h1, h2, hz, q1, q2⟩ := h
  by_cases hk : 2 ≤ k
  · exact op_repT pins s σ H _ _ v u Q I rx ry ⟨l, k, xs, rfl, rfl, hT, hne, hk, h2, hz, q2 (by omega)⟩
  · cases rx
    obtain ⟨t, rfl⟩ := ry
    obtain ⟨its, r, ⟨⟨cls, dd, data, sl⟩, ho, hc, n, hd⟩, hs⟩ := I.tuple hT
    simp only at hc hd
    subst hc hd
    have hn : its ≠ [] := fun e => hne (by
      have hle := r.length
      rw [e] at hle
      exact List.eq_nil_of_length_eq_zero hle)
    have hi : its.toArray.isEmpty = false := by
      cases its with
      | nil => exact absurd rfl hn
      | cons a b => rfl
    by_cases h3 : k = 1
    · subst h3
      refine wpAny_binaryOp_repeat_ref (T := "tuple") (U := "int") (by decide) ⟨_, ho, rfl⟩ (fun s' => typeIs_int s' 1 t) noFill_tuple_mul F.fills_int_mul F.slot_int_rmul repeat_tuple F.slot_int_index.lookup
        (call_meets F.slot_int_rmul (typeIs_int s 1 t) F.entry_int_rmul (F.args_int_rmul_2 _ _) (int_rmul_tuple 1 t l its.toArray n dd sl)
          ⟨ho, rfl, ⟨_, ho, rfl⟩, call_meets F.slot_tuple_mul ⟨_, ho, rfl⟩ F.entry_tuple_mul (F.args_tuple_mul_2 _ _) (rep_one l its.toArray n dd sl t) ⟨ho, ?_⟩⟩)
      exact ⟨.ref l, H, I.tok _, rfl, q1 rfl⟩
    · have c0 : (decide (k < -(2 ^ 63)) || decide (k ≥ 2 ^ 63)) = false := by
        rw [decide_eq_false (by omega), decide_eq_false (by omega)] <;> rfl
      have c1 : (its.toArray.isEmpty || k == 1) = false := by
        rw [hi, Bool.false_or]
        exact beq_eq_false_iff_ne.mpr h3
      have c2 : (decide (k ≤ 0) || its.toArray.isEmpty) = true := by
        rw [decide_eq_true (by omega), Bool.true_or]
      refine wpAny_binaryOp_repeat_ref (T := "tuple") (U := "int") (by decide) ⟨_, ho, rfl⟩ (fun s' => typeIs_int s' k t) noFill_tuple_mul F.fills_int_mul F.slot_int_rmul repeat_tuple F.slot_int_index.lookup
        (call_meets F.slot_int_rmul (typeIs_int s k t) F.entry_int_rmul (F.args_int_rmul_2 _ _) (int_rmul_tuple k t l its.toArray n dd sl)
          ⟨ho, rfl, ⟨_, ho, rfl⟩, call_meets F.slot_tuple_mul ⟨_, ho, rfl⟩ F.entry_tuple_mul (F.args_tuple_mul_2 _ _) (rep_none l its.toArray n dd sl k t c0 c1 c2) ⟨ho, ?_⟩⟩)
      have e0 : (List.replicate k.toNat xs).flatten = [] := by
        rw [show k.toNat = 0 by omega]
        rfl
      have q := q2 h3 _ (I.hok.fresh (Nat.le_refl _))
      rw [e0] at q
      refine ⟨.ref s.heap.objs.size, _, I.laid (t' := s.toks) (o := .tup []) (fun b ob q => Heap.get?_push_of_some _ q) (Nat.le_refl _) ?_, rfl, q⟩
      exact ⟨Nat.zero_le _, [], .nil, IsTup.new _ _⟩
/-! rules of comprehensions within comprehensions: the frame K by name -/
section
variable {X : Cx} {K : PySem.W.Frag}
theorem pg_tupK (hK : X.K = K) {es : List Expr} {k : Nat} {t : TGs} {n : Nat} {pos : PySem.Pos} (hc : X.calm = true) (h : PGs X es t)
    (hn : (assignEach es X.env).length = n := by rfl) (hst : (assignEach es X.env).findIdx? (·.1) = none := by rfl) : PG X (.Tuple es k pos) (gTup K n t) := hK ▸ pg_tup hc h hn hst
theorem pi_listK (hK : X.K = K) {tg l : Expr} {tl : TE} (hl : PE X l tl) : PI X tg l (iList K tl) := hK ▸ pi_list hl
theorem pi_tupK (hK : X.K = K) {tg l : Expr} {tl : TE} (hl : PE X l tl) : PI X tg l (iTup K tl) := hK ▸ pi_tup hl
theorem pi_zip2K (hK : X.K = K) (t u : Bool) {e e2 : Expr} {ta : TA} {p pos tpos : PySem.Pos} {elts : List Expr} {kk : Nat} (hg : Gl X "zip") (hm : X.mg "zip" = none) (ha : PA X [e, e2] ta)
    (hs : starEach [e, e2] X.env = (false, eval e X.env) :: starEach [e2] X.env := by rfl) (hpl : (backTo pos (starEach [e2] X.env)).any (·.1) = false := by rfl) :
    PI X (.Tuple elts kk tpos) (.Call (.Name "zip" p) [e, e2] [] pos) (ZM.iZip2 t u K ta) := hK ▸ ZM.pi_zip2 t u hg hm ha hs hpl
def rTupOf (K : PySem.W.Frag) : List V → Hp → VK → Prop := fun xs H Q => ∃ p ys, xs = [.ref p] ∧ ((SqL K H p ys ∧ ∀ l, H l = none → Q (.ref l) (upd H l (.tup ys))) ∨ (SqT K H p ys ∧ Q (.ref p) H))
theorem call_tupleK (hK : X.K = K) : CallR X (.type "tuple") (rTupOf K) := hK ▸ call_tuple_of
def rLstOf (K : PySem.W.Frag) : List V → Hp → VK → Prop := fun xs H Q => ∃ p ys, xs = [.ref p] ∧ (SqL K H p ys ∨ SqT K H p ys) ∧ ∀ l, H l = none → Q (.ref l) (upd H l (.lst ys))
theorem call_listK (hK : X.K = K) : CallR X (.type "list") (rLstOf K) := hK ▸ call_list_of
theorem cr_minK (hK : X.K = K) (hc : X.calm = true) : CallR X (.builtin "min") (rMin K) := hK ▸ cr_min hc
theorem cr_sumK (hK : X.K = K) (hc : X.calm = true) : CallR X (.builtin "sum") (rSum K) := hK ▸ cr_sum hc
theorem ix_tupK (hK : X.K = K) : IxR X (rIxT K) := hK ▸ ix_tup
theorem ix_listK (hK : X.K = K) : IxR X (rIxL K) := hK ▸ ix_list
end
section
variable {X : Cx} {K : PySem.W.Frag}
theorem op_repAK (hK : X.K = K) : OpR X (binaryOp .Mult) (rRepA K) := hK ▸ op_repA
theorem op_catAK (hK : X.K = K) : OpR X (binaryOp .Add) (rCatA K) := hK ▸ op_catA
theorem sl_tupAK (hK : X.K = K) : SlR X (rSlA K) := hK ▸ sl_tupA
end
/-- all but D stays -/
def But (D : Addr) (H H' : Hp) : Prop := ∀ b o, b ≠ D → H b = some o → H' b = some o
theorem But.same {D : Addr} {H H' H2 : Hp} (h : But D H H') (e : Same H' H2) : But D H H2 := fun b o n q => e b o (h b o n q)
/-- a comprehension whose i-th item stands in R i -/
theorem lc_rel {J : It} {n : Nat} {G : Hp → Prop} {Y : Nat → Hp → V → Hp → Prop} (w : Walk J n G Y) {g : TG} {tt : TT} {te : TE} {vs : List Nat} {σ : L2.St} {H1 : Hp} {D : Addr} {Qd : Hp → Prop} (hD : H1 D = none) (hn : n ≤ 1000000)
    (R : Nat → V → Hp → Prop) (mono : ∀ i v H H', R i v H → But D H H' → R i v H') (hG : ∀ H, Same H1 H → G H)
    (hs : ∀ (i : Nat) (x : V) (H H' : Hp) (Fn : V → Hp → Prop) (Nn : Hp → Prop), (∀ y H4, Same H H4 → R i y H4 → Fn y H4) → i < n → Same H1 H → (∃ acc, H D = some (.lst acc)) → Y i H x H' → g x (wipe σ vs) H' fun σ2 H2 => wipe σ2 vs = wipe σ vs ∧ tt σ2 H2 fun b H3 => if b = true then te σ2 H3 Fn else Nn H3)
    (hd : ∀ (acc : List V) H, acc.length = n → H D = some (.lst acc) → Same H1 H → (∀ j v, acc[j]? = some v → R j v H) → Qd H) :
    ∃ W : Nat → Nat → Hp → Prop, (∃ m, W 0 m (upd H1 D (.lst []))) ∧ ∀ i m H, W i m H →
      (J.stop i H ∧ Qd H) ∨ (J.go i H ∧ ∃ Nx : Hp → Prop, (∀ H', Nx H' → ∃ m', m' < m ∧ W (i + 1) m' H') ∧ ∀ x H', J.yld i H x H' → g x (wipe σ vs) H' fun σ2 H2 => wipe σ2 vs = wipe σ vs ∧ tt σ2 H2 fun b H3 =>
        if b = true then te σ2 H3 fun y H4 => ∃ acc, H4 D = some (.lst acc) ∧ acc.length < sizeLine ∧ Nx (upd H4 D (.lst (acc ++ [y]))) else Nx H3) := by
  refine lc_it w (fun i H => ∃ acc : List V, acc.length = i ∧ H D = some (.lst acc) ∧ Same H1 H ∧ ∀ j v, acc[j]? = some v → R j v H) ⟨[], rfl, upd_same, fun b o e => ?_, fun j v e => by simp at e⟩ (fun i H hi ⟨acc, _, _, h3, _⟩ => hG H h3) ?_ fun H ⟨acc, h1, h2, h3, h4⟩ => hd acc H h1 h2 h3 h4
  · rw [upd_ne (fun z => by rw [z, hD] at e; cases e)]
    exact e
  · intro i x H H' hi ⟨acc, h1, h2, h3, h4⟩ hy
    refine hs i x H H' _ _ (fun y H4 sm hr => ⟨acc, sm _ _ h2, ?_, acc ++ [y], by simp [h1], upd_same, fun b o e => ?_, fun j v e => ?_⟩) hi h3 ⟨acc, h2⟩ hy
    · rw [h1]
      exact Nat.lt_of_lt_of_le hi (Nat.le_trans hn (by decide))
    · rw [upd_ne (fun z => by rw [z, hD] at e; cases e)]
      exact sm _ _ (h3 _ _ e)
    · have b1 : But D H4 (upd H4 D (.lst (acc ++ [y]))) := fun b o n q => by rw [upd_ne n]; exact q
      rcases Nat.lt_trichotomy j acc.length with hj | hj | hj
      · rw [List.getElem?_append_left hj] at e
        exact mono _ _ _ _ (mono _ _ _ _ (h4 j v e) fun b o _ q => sm b o q) b1
      · rw [hj] at e
        simp at e
        rw [hj, h1, ← e]
        exact mono _ _ _ _ hr b1
      · rw [List.getElem?_eq_none (by simp; omega)] at e
        cases e
end Wk

namespace Wk
open PySem L2
def top (i : Nat) : Stmt := PySem.Challenge.pw_guardsums_k17_late_moduli.main.body.getD i (.Pass ⟨0, 0, 0, 0⟩)
abbrev s_law_pen : Stmt := top 58
theorem sc_law_pen : FnScope ["_law_script"] ["_law_script"] (defScope s_law_pen) := ⟨rfl, rfl, rfl, by decide +kernel, rfl, by decide +kernel, by decide +kernel⟩
abbrev s_law_draw : Stmt := top 59
theorem sc_law_draw : FnScope ["_law_pen_here", "_law_many", "_law_digit", "_law_k", "_law_told_cells", "_law_cell", "_law_mix"] ["_law_pen_here", "_law_many"] (defScope s_law_draw) := ⟨rfl, rfl, rfl, by decide +kernel, rfl, by decide +kernel, by decide +kernel⟩
abbrev s_law_pick : Stmt := top 60
theorem sc_law_pick : FnScope ["_law_pen_here", "_law_some"] ["_law_pen_here", "_law_some"] (defScope s_law_pick) := ⟨rfl, rfl, rfl, by decide +kernel, rfl, by decide +kernel, by decide +kernel⟩

local macro_rules | `(tactic| walk_at "rd") => `(tactic| repeat first | refine ⟨_, rfl, ?_⟩ | refine ⟨_, _, rfl, rfl, ?_⟩ | refine ⟨rfl, ?_⟩)
/-! ### the pen -/
def penL (c : Addr) (i l : Int) : List (Key × V) := [(.inr "cells", .ref c), (.inr "opened", .int i), (.inr "left", .int l)]
theorem kk1 : ¬ (Sum.inr "cells" : Key) = .inr "opened" := by decide +kernel
theorem kk2 : ¬ (Sum.inr "cells" : Key) = .inr "left" := by decide +kernel
theorem kk3 : ¬ (Sum.inr "opened" : Key) = .inr "left" := by decide +kernel
theorem kk4 : ¬ (Sum.inr "left" : Key) = .inr "opened" := by decide +kernel
theorem ks1 : ¬ Str.ofString "cells" = Str.ofString "opened" := by decide +kernel
theorem ks2 : ¬ Str.ofString "cells" = Str.ofString "left" := by decide +kernel
theorem ks3 : ¬ Str.ofString "opened" = Str.ofString "left" := by decide +kernel
theorem ks4 : ¬ Str.ofString "left" = Str.ofString "opened" := by decide +kernel
theorem pen_cells (c : Addr) (i l : Int) : valV (penL c i l) (.inr "cells") = some (.ref c) := valV_pos rfl
theorem pen_next (c : Addr) (i l : Int) : valV (penL c i l) (.inr "opened") = some (.int i) := by
  rw [penL, valV_neg kk1, valV_pos rfl]
theorem pen_left (c : Addr) (i l : Int) : valV (penL c i l) (.inr "left") = some (.int l) := by
  rw [penL, valV_neg kk2, valV_neg kk3, valV_pos rfl]
theorem put_next (c : Addr) (i l j : Int) : putK (penL c i l) (.inr "opened") (.int j) = penL c j l := by
  simp [putK, penL, ks1, ks4]
theorem put_left (c : Addr) (i l j : Int) : putK (penL c i l) (.inr "left") (.int j) = penL c i j := by
  simp [putK, penL, ks2, ks3]
structure PenAt (H : Hp) (p c : Addr) (ns : List Int) (i l : Int) : Prop where
  pen : H p = some (.dK (penL c i l))
  cells : H c = some (.lst (ns.map V.int))
  i0 : 0 ≤ i
  l0 : 0 ≤ l
  i1 : i ≤ 100000
theorem PenAt.ne {H : Hp} {p c : Addr} {ns : List Int} {i l : Int} (P : PenAt H p c ns i l) : c ≠ p := ne_of P.cells P.pen (by intro z; cases z)
/-- the pen behind a draw -/
def penTo (H : Hp) (p c : Addr) (i l : Int) : Hp := upd H p (.dK (penL c i l))
theorem PenAt.to {H : Hp} {p c : Addr} {ns : List Int} {i l i' l' : Int} (P : PenAt H p c ns i l) (h0 : 0 ≤ i') (h1 : 0 ≤ l') (h2 : i' ≤ 100000) : PenAt (penTo H p c i' l') p c ns i' l' :=
  ⟨upd_same, by rw [penTo, upd_ne P.ne]; exact P.cells, h0, h1, h2⟩
theorem penTo_to {H : Hp} {p c : Addr} {i l i' l' : Int} : penTo (penTo H p c i l) p c i' l' = penTo H p c i' l' := upd_upd
/-- a list of ints -/
def dL (ns : List Int) : PyData := .list (ns.map PyData.int)
theorem dL_eqv (a b : List Int) : PyData.eqv (dL a) (dL b) = decide (a = b) := by
  unfold dL
  rw [PyData.eqv]
  exact eqvAll_map _ (fun i j => i == j) (fun i j => by simp [PyData.eqv]) (fun i j => by simp) a b
theorem dL_lay (a : List Int) : (dL a).canLay0 = true := by
  unfold dL
  rw [PyData.canLay0]
  exact canLayAll_map _ (fun i => by simp [PyData.canLay0]) a
theorem dL_depth (a : List Int) : (dL a).depth ≤ 1 := by
  unfold dL
  rw [PyData.depth]
  have := depthAll_map PyData.int 0 (fun i => by simp [PyData.depth]) a
  omega
theorem dL_shaped (a : List Int) : SeqAt.shaped (dL a) = true := by
  have := dL_depth a
  simp only [SeqAt.shaped, dL_lay, Bool.true_and, decide_eq_true_eq]
  omega
theorem lst_dp {K : PySem.W.Frag} {H : Hp} {a : Addr} {ns : List Int} (h : SqL K H a (ns.map V.int)) : Dp K H (.ref a) (dL ns) := .lst h (dpAll_ints ns)
/-- the pen with at most n draws done -/
def Pen (H : Hp) (p c : Addr) (ns : List Int) (n : Nat) : Prop := ∃ i l, PenAt H p c ns i l ∧ i ≤ n
theorem Pen.le {H : Hp} {p c : Addr} {ns : List Int} {n m : Nat} (h : Pen H p c ns n) (e : n ≤ m) : Pen H p c ns m := by
  obtain ⟨i, l, a, b⟩ := h
  exact ⟨i, l, a, by omega⟩
theorem Pen.some {H : Hp} {p c : Addr} {ns : List Int} {n : Nat} (h : Pen H p c ns n) : ∃ o, H p = some o := by
  obtain ⟨i, l, a, b⟩ := h
  exact ⟨_, a.pen⟩
theorem Pen.same {H H' : Hp} {p c : Addr} {ns : List Int} {n : Nat} (h : Pen H p c ns n) (e : Same H H') : Pen H' p c ns n := by
  obtain ⟨i, l, a, b⟩ := h
  exact ⟨i, l, ⟨e _ _ a.pen, e _ _ a.cells, a.i0, a.l0, a.i1⟩, b⟩
theorem drwP {H : Hp} {p c : Addr} {ns : List Int} {n : Nat} {i l i' l' : Int} (a : PenAt H p c ns i l) (b : i ≤ n) (hn : n < 90000) (h0 : 0 ≤ i') (h1 : i' ≤ i + 1) (h2 : 0 ≤ l') : Pen (penTo H p c i' l') p c ns (n + 1) ∧ But p H (penTo H p c i' l') :=
  ⟨⟨i', l', a.to h0 h2 (by omega), by omega⟩, fun b o hb e => by rw [penTo, upd_ne hb]; exact e⟩
theorem same_upd0 {H : Hp} {a : Addr} {o : HO} (h : H a = none) : Same H (upd H a o) := fun b u e => by
  rw [upd_ne (ne_of_none e h)]
  exact e
def spDraw : Sp := fun vs H Q _ => ∃ (p c : Addr) (ns : List Int) (n : Nat) (m : Int), vs = [.ref p, .int m] ∧ Pen H p c ns n ∧ n < 90000 ∧ 1 ≤ m ∧ m < 2 ^ 64 ∧
  ∀ (d : Int) (H' : Hp), 0 ≤ d → d < m → Pen H' p c ns (n + 1) → But p H H' → Q (.int d) H'
/-- what the module's names stand for -/
structure TxtA (mg : Str → Option Value) : Prop where
  f_int : mg "int" = none
  f_len : mg "len" = none
  f_abs : mg "abs" = none
section
variable {P : Program} {w : World} {K : PySem.W.Frag} {mg : Str → Option Value} {base : Heap}
theorem small64 {i : Int} (h0 : 0 ≤ i) {n : Int} (h1 : i ≤ n) {k : Nat} (h2 : n.toNat < 2 ^ k) : i.natAbs < 2 ^ k := by omega
theorem fmod_at {a m : Int} (h : 1 ≤ m) : 0 ≤ a.fmod m ∧ a.fmod m < m := by
  rw [Int.fmod_eq_emod_of_nonneg _ (by omega)]
  exact ⟨Int.emod_nonneg _ (by omega), Int.emod_lt_of_pos _ (by omega)⟩
theorem emod_at {a m : Int} (h : 1 ≤ m) : 0 ≤ a % m ∧ a % m < m := ⟨Int.emod_nonneg _ (by omega), Int.emod_lt_of_pos _ (by omega)⟩
/-- a way that two branches share -/
theorem use_tail {B G : Prop} (f : B → G) (b : B) : G := f b
theorem pick2 {c1 : Prop} [Decidable c1] {X A B : Prop} (hB : B) (h1 : c1 → X) : if decide c1 = true then X else if false = true then A else B := by
  by_cases c : c1
  · rw [if_pos (decide_eq_true c)]
    exact h1 c
  · rw [if_neg (by simpa using c)]
    exact iteF hB
theorem mod_word {a b : Int} (hb : 1 ≤ b) (hb2 : b ≤ 4294967296) : ∃ y : Int, a % b = y ∧ 0 ≤ y ∧ y < 4294967296 := ⟨a % b, rfl, Int.emod_nonneg _ (by omega), by
  have := Int.emod_lt_of_pos a (show 0 < b by omega)
  omega⟩
theorem ok_draw {f : Addr} {fd : FuncData} (F : Fun K "_law_draw" "_law_draw" s_law_draw f fd) (T : TxtA mg) : FnOk P w K mg base CX0 1 f fd ["_law_pen_here", "_law_many"] spDraw := by
  refine F.ok sc_law_draw (fun vs H Q E h => ?_) (fun cdv A outer s H vs Q E hr h => ?_)
  · obtain ⟨p, c, ns, n, m, rfl, _⟩ := h
    rfl
  · obtain ⟨p, c, ns, n, m, rfl, ⟨i, l, S, hin⟩, hn, hm, hm2, k⟩ := h
    have hi : i < 100000 := by omega
    have hmw : m.natAbs < 2 ^ 9000 := Nat.lt_trans (show m.natAbs < 2 ^ 64 by omega) (by decide)
    have hu := hu_of hr
    have hcp := S.ne
    have i0 := S.i0
    have l0 := S.l0
    refine ⟨_, (pss_cons (ps_if (pt_cmpR op_gt (pe_dget hu (pv 0) pe_str (fun _ _ => rfl)) pe_int (nomark _)) (pss_cons (ps_set (i := 2) sc_law_draw.nd rfl (Or.inl rfl) (pe_op op_modN (pe_callTy call_int1 rfl T.f_int (by decide +kernel) (pa_cons (pe_dget hu (pv 0) pe_str (fun _ _ => rfl)) pa_nil)) (pv 1)))
        (pss_cons (ps_dput hu (pv 0) pe_str (pe_op op_fdivW (pe_dget hu (pv 0) pe_str (fun _ _ => rfl)) (pv 1)) rfl)
        (pss_one (ps_ret (pv 2))))) pss_nil)
        (pss_cons (ps_par (i := 3) (j := 4) rfl sc_law_draw.nd rfl rfl (by decide) rfl rfl (pa_cons (pe_dget hu (pv 0) pe_str (fun _ _ => rfl)) (pa_cons (pe_dget hu (pv 0) pe_str (fun _ _ => rfl)) pa_nil)) (by rfl))
        (pss_cons (ps_dput hu (pv 0) pe_str (pe_op op_add (pv 3) pe_int) rfl)
        (pss_cons (ps_if (pt_cmpR (op_eqD hr.units) (pv 4) (pe_lst pa_nil) (nomark _)) (pss_one (ps_ret (pe_op op_modN (pe_callTy call_int1 rfl T.f_int (by decide +kernel) (pa_cons (pe_op op_add (pe_op op_mulW pe_int (pv 3)) pe_int) pa_nil)) (pv 1)))) pss_nil)
        (pss_cons (ps_set (i := 5) sc_law_draw.nd rfl (Or.inl rfl) (pe_ix ix_list (pv 4) (pe_op op_modN (pe_callTy call_int1 rfl T.f_int (by decide +kernel) (pa_cons (pv 3) pa_nil)) (pe_callB call_len_seq rfl T.f_len PySem.boot_len (pa_cons (pv 4) pa_nil))) (fun _ _ => rfl)))
        (pss_cons (ps_if (PW.pt (pw_and (pt_cmpR op_lt (pv 3) (pe_callB call_len_seq rfl T.f_len PySem.boot_len (pa_cons (pv 4) pa_nil)) (nomark _)) (pw_and1 (pt_cmpR op_ge (pe_callB call_abs rfl T.f_abs (by decide +kernel) (pa_cons (pv 5) pa_nil)) (pe_op op_pow pe_int pe_int) (nomark _))))) (pss_cons (ps_dput hu (pv 0) pe_str (pe_op op_fdivW (pe_op op_sub (pe_callB call_abs rfl T.f_abs (by decide +kernel) (pa_cons (pv 5) pa_nil)) (pe_op op_pow pe_int pe_int)) (pv 1)) rfl)
        (pss_one (ps_ret (pe_op op_modN (pe_callTy call_int1 rfl T.f_int (by decide +kernel) (pa_cons (pe_op op_sub (pe_callB call_abs rfl T.f_abs (by decide +kernel) (pa_cons (pv 5) pa_nil)) (pe_op op_pow pe_int pe_int)) pa_nil)) (pv 1))))) pss_nil)
        (pss_cons (ps_set (i := 6) sc_law_draw.nd rfl (Or.inl rfl) (pe_op op_mod (pe_callTy call_int1 rfl T.f_int (by decide +kernel) (pa_cons (pe_op op_add (pe_op op_add (pe_op op_add (pe_op op_mulW (pe_op op_mod (pe_callTy call_int1 rfl T.f_int (by decide +kernel) (pa_cons (pv 5) pa_nil)) pe_int) pe_int) (pe_op op_mulW (pe_op op_mulW pe_int (pv 3)) (pv 3))) (pe_op op_mulW pe_int (pv 3))) pe_int) pa_nil)) pe_int))
        (pss_cons (ps_set (i := 6) sc_law_draw.nd rfl (Or.inl rfl) (pe_op op_mod (pe_callTy call_int1 rfl T.f_int (by decide +kernel) (pa_cons (pe_op op_add (pe_op op_add (pe_op op_mulW (pv 6) (pv 6)) (pe_op op_mulW pe_int (pv 6))) (pe_op op_mulW pe_int (pv 3))) pa_nil)) pe_int))
        (pss_one (ps_ret (pe_op op_modN (pe_callTy call_int1 rfl T.f_int (by decide +kernel) (pa_cons (pe_op op_fdiv (pe_op op_mod (pe_callTy call_int1 rfl T.f_int (by decide +kernel) (pa_cons (pe_op op_mulW (pv 6) (pe_op op_add (pv 6) pe_int)) pa_nil)) pe_int) pe_int) pa_nil)) (pv 1)))))))))))), ?_⟩
    have gL := pen_left c i l ▸ DGet.k (k := .inr "left") S.pen
    have gN := pen_next c i l ▸ DGet.k (k := .inr "opened") S.pen
    have gC := pen_cells c i l ▸ DGet.k (k := .inr "cells") S.pen
    have z3 : (penL c i l).length < sizeLine := (by decide : 3 < sizeLine)
    have kR : ∀ (a i' l' : Int) (H' H2 : Hp), 0 ≤ i' → i' ≤ i + 1 → 0 ≤ l' → H' = penTo H p c i' l' → Same H' H2 → Q (.int (a.fmod m)) H2 := fun a i' l' H' H2 h1 h2 h3 e e2 => by
      refine k _ _ (fmod_at hm).1 (fmod_at hm).2 (Pen.same (H := penTo H p c i' l') ⟨i', l', S.to h1 h3 (by omega), by omega⟩ (e ▸ e2)) fun b o hb eb => e2 _ _ ?_
      rw [e, penTo, upd_ne hb]
      exact eb
    have dv : ∀ x : Int, 0 ≤ x → 0 ≤ x / m := fun x hx => Int.ediv_nonneg hx (by omega)
    have cdv : ∀ x : Int, CDivW x m := fun x => wide_div (by omega) hmw (by decide) (by decide)
    refine ⟨_, rfl, p, _, rfl, gL, _, _, rfl, rfl, _, rfl, ?_⟩
    refine ite2 (fun hd => ?_) (fun hd => ?_)
    · have hl : 0 < l := of_decide_eq_true hd
      refine ⟨_, rfl, p, _, rfl, gL, .inl ⟨_, rfl, ?_⟩⟩
      refine ⟨_, rfl, _, _, rfl, rfl, (by omega), ?_⟩
      refine ⟨_, rfl, p, _, rfl, gL, _, rfl, _, _, rfl, rfl, cdv _, ?_⟩
      refine ⟨_, rfl, p, _, rfl, DPut.k (k := .inr "left") S.pen z3, _, rfl, ?_⟩
      exact kR _ i (l / m) _ _ i0 (by omega) (dv _ l0) rfl (by rw [put_left]; exact fun _ _ e => e)
    · have S1 : PenAt (penTo H p c (i + 1) l) p c ns (i + 1) l := S.to (by omega) l0 (by omega)
      refine ⟨_, rfl, p, _, rfl, gN, _, rfl, p, _, rfl, gC, _, _, rfl, ?_⟩
      refine ⟨_, rfl, _, _, rfl, rfl, _, rfl, p, _, rfl, DPut.k (k := .inr "opened") S.pen z3, ?_⟩
      rw [put_next]
      show tSeq _ _ _ _ (penTo H p c (i + 1) l)
      refine ⟨_, rfl, Nat.zero_le _, fun q nq => ?_⟩
      have sq : Same (penTo H p c (i + 1) l) (upd (penTo H p c (i + 1) l) q (.lst [])) := same_upd0 nq
      have gq : (upd (penTo H p c (i + 1) l) q (.lst [])) q = some (.lst (([] : List Int).map V.int)) := upd_same
      generalize upd (penTo H p c (i + 1) l) q (.lst []) = H2 at sq gq ⊢
      refine ⟨dL ns, dL [], lst_dp (SqL.of (sq _ _ S1.cells)), lst_dp (SqL.of gq), dL_shaped _, dL_shaped _, ?_⟩
      rw [dL_eqv]
      have S2 : PenAt H2 p c ns (i + 1) l := ⟨sq _ _ S1.pen, sq _ _ S1.cells, S1.i0, S1.l0, S1.i1⟩
      have w64 : ∀ {x n : Int}, 0 ≤ x → x ≤ n → n.toNat < 2 ^ 64 → x.natAbs < 2 ^ 64 := fun h0 h1 h2 => small64 h0 h1 h2
      have wi : i.natAbs < 2 ^ 64 := w64 i0 (n := 100000) (by omega) (by decide)
      have wc : ∀ {x y : Int}, x.natAbs < 2 ^ 64 → y.natAbs < 2 ^ 128 → CMulW x y := fun a b => wide_mul a b (by decide) (by decide) (by decide)
      refine ⟨_, rfl, ?_⟩
      refine ite2 (fun he => ?_) (fun he => ?_)
      · refine ⟨_, rfl, _, _, rfl, rfl, wc (by decide) (by omega), _, _, rfl, rfl, .inl ⟨_, rfl, _, rfl, _, _, rfl, rfl, (by omega), ?_⟩⟩
        exact kR _ (i + 1) l _ _ (by omega) (by omega) l0 rfl sq
      · have hne : ns.length ≠ 0 := fun z => he (decide_eq_true (List.length_eq_zero_iff.mp z))
        have hlen : ((ns.map V.int).length : Int) = ns.length := by rw [List.length_map]
        have hj := fmod_at (a := i) (m := (ns.length : Int)) (by omega)
        obtain ⟨j, hj2⟩ : ∃ j : Nat, i.fmod (ns.length : Int) = j := ⟨(i.fmod (ns.length : Int)).toNat, by omega⟩
        have hjl : j < ns.length := by omega
        have ha : atI (ns.map V.int) (i.fmod (ns.length : Int)) = some (V.int ns[j]) := by
          rw [hj2]
          exact atI_nat (by simp [hjl])
        generalize ns[j] = x at ha
        rw [← hlen] at ha
        have hSq : SqL K H2 c (ns.map V.int) := SqL.of S2.cells
        refine ⟨_, rfl, _, rfl, .inl ⟨_, rfl, _, rfl, _, _, rfl, .inl hSq, _, _, rfl, rfl, (by omega), c, _, _, _, rfl, rfl, hSq, ha, ?_⟩⟩
        have ten : (0 : Int) ≤ 18 ∧ (18 : Int) ≤ 1000000 ∧ (10 : Int).natAbs < 2 ^ 64 := by decide
        refine ⟨_, rfl, _, rfl, _, _, rfl, .inl hSq, _, _, rfl, rfl, _, rfl, ?_⟩
        refine use_tail (fun hB => pick2 hB fun c1 => ?_) ?tail
        · refine ⟨_, rfl, _, rfl, _, _, rfl, rfl, ten, _, _, rfl, rfl, _, rfl, ?_⟩
          refine ite2 (fun c2 => ?_) (fun _ => hB)
          have c3 := of_decide_eq_true c2
          refine ⟨_, rfl, _, rfl, _, _, rfl, rfl, ten, _, _, rfl, rfl, _, rfl, _, _, rfl, rfl, cdv _, ?_⟩
          refine ⟨_, rfl, p, _, rfl, DPut.k (k := .inr "left") S2.pen z3, ?_⟩
          refine ⟨_, rfl, _, rfl, _, _, rfl, rfl, ten, _, _, rfl, rfl, .inl ⟨_, rfl, _, rfl, _, _, rfl, rfl, (by omega), ?_⟩⟩
          rw [put_left]
          have hcp2 := S2.ne
          refine k _ _ (fmod_at hm).1 (fmod_at hm).2 ⟨i + 1, _, ⟨upd_same, by rw [upd_ne hcp2]; exact S2.cells, by omega, dv _ (Int.sub_nonneg_of_le c3), by omega⟩, by omega⟩ fun b o hb eb => ?_
          rw [upd_ne hb]
          refine sq _ _ ?_
          rw [penTo, upd_ne hb]
          exact eb
        · have q1 := mod_word (a := x) (b := 4294965361) (by decide) (by decide)
          refine ⟨_, rfl, .inl ⟨_, rfl, _, _, rfl, rfl, (by show (0 : Int) < 4294965361; decide), ?_⟩⟩
          obtain ⟨y1, e1, b1, b2⟩ := q1
          refine ⟨_, _, rfl, rfl, wc (by rw [e1]; omega) (by decide), _, rfl, _, _, rfl, rfl, wc (by decide) (by omega), _, rfl, _, _, rfl, rfl, wide_mul (wide_lt (a := 64) (b := 64) (by decide) wi) wi (by decide) (by decide) (by decide), _, _, rfl, rfl, _, rfl, _, _, rfl, rfl, wc (by decide) (by omega), _, _, rfl, rfl, _, _, rfl, rfl, .inl ⟨_, rfl, _, _, rfl, rfl, (by show (0 : Int) < 4294965383; decide), ?_⟩⟩
          have q2 := mod_word (a := x % 4294965361 * 41903 + 27011 * i * i + 853 * i + 71) (b := 4294965383) (by decide) (by decide)
          show tSeq _ _ _ [some (V.ref p), some (V.int m), none, some (V.int i), some (V.ref c), some (V.int x), some (V.int ((x % 4294965361 * 41903 + 27011 * i * i + 853 * i + 71) % 4294965383))] _
          obtain ⟨y2, e2, b3, b4⟩ := q2
          rw [e2]
          refine ⟨_, rfl, _, rfl, _, _, rfl, rfl, wc (by omega) (by omega), _, rfl, _, _, rfl, rfl, wc (by decide) (by omega), _, _, rfl, rfl, _, rfl, _, _, rfl, rfl, wc (by decide) (by omega), _, _, rfl, rfl, .inl ⟨_, rfl, _, _, rfl, rfl, (by show (0 : Int) < 4294965337; decide), ?_⟩⟩
          have q3 := mod_word (a := y2 * y2 + 40213 * y2 + 37 * i) (b := 4294965337) (by decide) (by decide)
          show tSeq _ _ _ [some (V.ref p), some (V.int m), none, some (V.int i), some (V.ref c), some (V.int x), some (V.int ((y2 * y2 + 40213 * y2 + 37 * i) % 4294965337))] _
          obtain ⟨y3, e3, b5, b6⟩ := q3
          rw [e3]
          refine ⟨_, rfl, _, rfl, _, _, rfl, rfl, _, _, rfl, rfl, wc (by omega) (by omega), .inl ⟨_, rfl, _, _, rfl, rfl, (by show (0 : Int) < 4294965313; decide), _, _, rfl, rfl, (by constructor <;> decide), .inl ⟨_, rfl, _, rfl, _, _, rfl, rfl, (by omega), ?_⟩⟩⟩
          exact kR _ (i + 1) l _ _ (by omega) (by omega) l0 rfl sq
/-- one of some things: items at a -/
def spPick (K : PySem.W.Frag) : Sp := fun vs H Q _ => ∃ (p c a : Addr) (ns : List Int) (n : Nat) (items : List V), vs = [.ref p, .ref a] ∧ Pen H p c ns n ∧ n < 90000 ∧ H a = some (.lst items) ∧ items ≠ [] ∧ items.length ≤ 100000 ∧
  ∀ (v : V) (H' : Hp), v ∈ items → Pen H' p c ns (n + 1) → But p H H' → Q v H'
theorem ok_pick {f fD : Addr} {fd fdD : FuncData} (F : Fun K "_law_pick" "_law_pick" s_law_pick f fd) (T : TxtA mg) (G__law_draw : FnOk P w K mg base CX0 1 fD fdD ["_law_pen_here", "_law_many"] spDraw) (g__law_draw : mg "_law_draw" = some (.ref fD))
    (kp__law_draw : PySem.W.keepIn K (.ref fD) = true) (b__law_draw : Binds K fdD ["_law_pen_here", "_law_many"] []) : FnOk P w K mg base CX0 2 f fd ["_law_pen_here", "_law_some"] (spPick K) := by
  refine F.ok sc_law_pick (fun vs H Q E h => ?_) (fun cdv A outer s H vs Q E hr h => ?_)
  · obtain ⟨p, c, a, ns, n, items, rfl, _⟩ := h
    rfl
  · obtain ⟨p, c, a, ns, n, items, rfl, S, hn, ha, hne, hlen, k⟩ := h
    have hu := hu_of hr
    refine ⟨_, (pss_one (ps_ret (pe_ix ix_list (pv 1) (pe_call G__law_draw (hr.mono (by decide)) rfl g__law_draw kp__law_draw b__law_draw .nil pass0 (pa_cons (pv 0) (pa_cons (pe_callB call_len_seq rfl T.f_len PySem.boot_len (pa_cons (pv 1) pa_nil)) pa_nil))) (fun _ _ => rfl)))), ?_⟩
    have hpos : 0 < items.length := List.length_pos_iff.mpr hne
    refine ⟨_, rfl, _, rfl, _, rfl, _, _, rfl, .inl (SqL.of ha), p, c, ns, n, _, rfl, S, hn, by omega, by omega, fun d H' d0 d1 P1 b1 => ?_⟩
    obtain ⟨j, rfl⟩ : ∃ j : Nat, d = j := ⟨d.toNat, by omega⟩
    have hj : j < items.length := by omega
    obtain ⟨i, l, S, _⟩ := S
    have hap : a ≠ p := ne_of ha S.pen (by intro z; cases z)
    refine ⟨a, items, _, items[j], rfl, rfl, SqL.of (b1 _ _ hap ha), atI_nat (by simp [hj]), ?_⟩
    exact k _ _ (List.getElem_mem hj) P1 b1
end
end Wk

/-! the end of a law whose own def wants to know the caller -/
namespace Wk
open PySem PySem.Spec PyProof.Rows L2
/-- the law's def is run where the claim's caller stands -/
theorem call_here {P : Program} {w : World} {K : PySem.W.Frag} {mg mb : Str → Option Value} {fa a : Addr} {s : Shared} {vs : List Value} {ns : List Int} (KX : K.In s.heap) (hG : s.heap.Ns mainGlobals mg) (hB : s.heap.Ns builtinsNs mb) (hb : ∀ x : Str, x ≠ "__name__" → mb x = bootBuiltins x)
    (hL : s.heap.NoLimit) (hg : s.gens = #[]) (ha : s.heap.get? a = some { cls := .type "list", data := .seq vs.toArray }) (hi : IntsAre vs ns) (hl : ns.length ≤ sizeLine)
    (F : ∀ (base : Heap) (H : Hp), K.In base → base.Ns mainGlobals mg → (∀ b o, s.heap.get? b = some o → (∀ us m, o.data ≠ .seq us m) → base.get? b = some o) → Env0 P w K mg base callerA [] s H → SqL K H a (ns.map V.int) → codeAny (model P w) callerA (.call (.ref fa) ⟨[.ref a], []⟩) (CR CX0 [] P w H s (fun v _ => v = .bl true) E0) s) :
    codeAny (model P w) callerA (.call (.ref fa) ⟨[.ref a], []⟩) (fun r s' => r = .ok (.ret (.bool true)) ∧ OldK s.heap s'.heap ∧ s'.os = s.os ∧ AllBare s'.gens) s := by
  have rel := vals_ints hi
  have main : ∀ H : Hp, (∀ b, H b = none ∨ (b = a ∧ ∃ o xs, H b = some (.frz o (.lst xs)))) → SqL K H a (ns.map V.int) → HOk P w H s.heap → (H a ≠ none → K.lookup a = none) →
      codeAny (model P w) callerA (.call (.ref fa) ⟨[.ref a], []⟩) (fun r s' => r = .ok (.ret (.bool true)) ∧ OldK s.heap s'.heap ∧ s'.os = s.os ∧ AllBare s'.gens) s := by
    intro H hO hS hok hK
    -- what is no list is not tracked
    have un0 : ∀ b o, s.heap.get? b = some o → (∀ us m, o.data ≠ .seq us m) → H b = none := fun b o e nd => (hO b).elim id fun ⟨eb, _⟩ => by
      subst eb
      rw [ha] at e
      cases e
      exact absurd rfl (nd _ _)
    have bas : ∀ b o, s.heap.get? b = some o → (∀ us m, o.data ≠ .seq us m) → (hidT s.heap H).get? b = some o := fun b o e nd => hidT_get e (un0 b o e nd)
    have spaces : ∀ {b : Addr} {m : Str → Option Value}, s.heap.Ns b m → (hidT s.heap H).Ns b m := fun {b m} ⟨o, es, ep, e, d, r⟩ => ⟨o, es, ep, bas b o e (fun us m z => by rw [d] at z; cases z), d, r⟩
    have frag : K.In (hidT s.heap H) := fun b o e => hidT_get (KX b o e) (by
      rcases hO b with z | ⟨eb, z⟩
      · exact z
      · subst eb
        cases q : H b with
        | none => rfl
        | some u =>
          rw [hK (by rw [q]; exact fun y => nomatch y)] at e
          cases e)
    obtain ⟨mc, l1, l2⟩ := hL
    have env : Env0 P w K mg (hidT s.heap H) callerA [] s H :=
      ⟨rfl, ⟨frag, spaces hG, ⟨mb, spaces hB, hb⟩, ⟨mc, spaces l1, l2⟩⟩, fun b o e => of_hidT e, Nat.le_of_eq (hidT_size s.heap H), trivial, fun b z => absurd (show b ∈ ([] : List Addr) from z) List.not_mem_nil, hok, .of_eq hg⟩
    refine codeAny_mono (F _ H frag (spaces hG) bas env hS) fun r s' z => ?_
    match r, z with
    | .ok (.ret u), z =>
      obtain ⟨v, H', os, bare, U, hok', ru, q⟩ := z
      subst q
      obtain rfl : u = Value.bool true := ru
      have keep : ∀ b o, s.heap.get? b = some o → s'.heap.get? b = some o := fun b o e => by
        rcases hO b with z | ⟨eb, ob, xs, z⟩
        · exact U.keep b o e z (fun y => absurd (show b ∈ ([] : List Addr) from y) List.not_mem_nil) List.not_mem_nil
        · obtain ⟨e2, _⟩ := hok' b _ (U.frzs b ob _ z)
          obtain ⟨e1, _⟩ := hok b _ z
          exact (e2.trans e1.symm).trans e
      exact ⟨rfl, .of_keep keep, os, bare⟩
    | .ok .next, z => exact False.elim z
    | .ok .brk, z => exact False.elim z
    | .ok .cont, z => exact False.elim z
    | .error e, z => exact False.elim z
  cases hk : K.lookup a with
  | some o =>
    have e := KX a o hk
    rw [ha] at e
    cases e
    refine main (fun _ => none) (fun _ => .inl rfl) (.inr ⟨_, vs.toArray, _, hk, rfl, rfl, rfl, ?_, by simpa using rel⟩) (fun b u z => nomatch z) fun z => absurd rfl z
    rw [List.size_toArray, hi.length]
    exact hl
  | none =>
    refine main (fun b => if b = a then some (.frz { cls := .type "list", data := .seq vs.toArray } (.lst (ns.map V.int))) else none) (fun b => ?_) (.inl (.inr ⟨_, if_pos rfl⟩)) (fun b u z => ?_) fun _ => hk
    · by_cases h : b = a
      · exact .inr ⟨h, _, _, if_pos h⟩
      · exact .inl (if_neg h)
    · by_cases h : b = a
      · have z2 := (if_pos h).symm.trans z
        cases z2
        rw [h]
        exact ⟨ha, by rw [List.length_map]; exact hl, vs, _, rel, ha⟩
      · cases (if_neg h).symm.trans z
/-- the walk of such a law -/
theorem walk_here {l : PySem.W.OpenLaw} {n : Nat} {q : Program} {loose : List Str} {XP : (Str → Option Value) → Heap → Prop} {YP : World → Heap → Prop} {d : DefRec} (hn : l.most = some n) (hn2 : n ≤ sizeLine) (hdf : d.params.defaults = [])
    (F : ∀ (w : World) (mg : Str → Option Value) (fa : Addr) (h : Heap), YP w h → h.Ns mainGlobals mg → mg d.name = some (.ref fa) → ∃ K : PySem.W.Frag, K.In h ∧ ∀ (base : Heap) (s : Shared) (H : Hp) (a : Addr) (ns : List Int), s.heap = h → K.In base → base.Ns mainGlobals mg →
      (∀ b o, h.get? b = some o → (∀ us m, o.data ≠ .seq us m) → base.get? b = some o) → Env0 l.prog w K mg base callerA [] s H → SqL K H a (ns.map V.int) → codeAny (model l.prog w) callerA (.call (.ref fa) ⟨[.ref a], []⟩) (CR CX0 [] l.prog w H s (fun v _ => v = .bl true) E0) s) :
    PySem.W.WalkO q loose XP YP l.row.toRowW d [] (fun f vs => PySem.call f vs) := by
  refine Att.attach_callB hn hdf fun w s₀ s₁ mg mb fa o pm cd doc a vs ns G Y ho hd hcd hmg hobj hints hlen hbits hg => ?_
  obtain ⟨K, KX, hF⟩ := F w mg fa _ Y G.T.g hmg
  exact call_here KX G.T.g G.T.b G.T.builtins G.T.nolimit hg hobj hints (Nat.le_trans hlen hn2) fun base H kb gb bb e0 hS => hF base s₁ H a ns rfl kb gb bb e0 hS
/-! ### the hook, with one more look: the table of modules is there -/
def modsB (g : Addr → Option Obj) : Bool := match g sysModules with
  | some ⟨_, _, .dict _ _, _⟩ => true
  | _ => false
theorem modsB_ok {g : Addr → Option Obj} (h : modsB g = true) : ∃ o es m, g sysModules = some o ∧ o.data = .dict es m := by
  unfold modsB at h
  split at h
  · rename_i e
    exact ⟨_, _, _, e, rfl⟩
  · cases h
def hookS (n : Nat) (fa : List He.Fa) (fn : List He.DefD) (ex : PySem.W.Frag → Bool) : PySem.W.Hook where
  α := He.AlX × Bool
  obs := fun s => (He.obsX n fa fn [] [] ex s.heap.get?, modsB s.heap.get?)
  val := fun w => (He.valX fn [] w, true)
  says := fun w h => (∃ K : PySem.W.Frag, K.In h ∧ He.SaysX fa fn [] [] ex w h K) ∧ ∃ o es m, h.get? sysModules = some o ∧ o.data = .dict es m
  of := fun w s e => ⟨⟨_, He.frT_in, He.saysX_of (congrArg (fun z : He.AlX × Bool => z.1) e)⟩, modsB_ok (congrArg (fun z : He.AlX × Bool => z.2) e)⟩
  keeps := fun w h h' z k => by
    obtain ⟨⟨K, hK, c⟩, o, es, m, e, d⟩ := z
    exact ⟨⟨K, PySem.W.Frag.In.keeps hK k, ⟨c.t, c.more, c.hd, c.out, fun p hp => k _ _ (c.empty p hp)⟩⟩, o, es, m, k _ _ e, d⟩
def obS (n : Nat) (fa : List He.Fa) (fn : List He.DefD) (ex : PySem.W.Frag → Bool) (s : PySem.W.SharedT) : He.AlX × Bool := (He.obsX n fa fn [] [] ex (HandSHeadRun.getT s), modsB (HandSHeadRun.getT s))
theorem obS_eq {n : Nat} {fa : List He.Fa} {fn : List He.DefD} {ex : PySem.W.Frag → Bool} (s : PySem.W.SharedT) : obS n fa fn ex s = (hookS n fa fn ex).obs s.abs := by
  have e : HandSHeadRun.getT s = s.abs.heap.get? := funext (HandSHeadRun.getT_eq s)
  unfold obS
  rw [e]
  rfl
end Wk

namespace Wk
open PySem PySem.Spec PyProof.Rows L2
/-! what is read off of an error's class -/
def oexB (K : PySem.W.Frag) (C : Addr) : Bool := match K.lookup C with
  | some ⟨.type t, _, .cls cd, sl⟩ => (match cd.mro, sl.toList with
    | .ref D :: bm, [_, _, _, _, some (.builtin n), _] => decide (t = "type") && (decide (D = C) && (decide (n = "ValueError.__new__") && (!cd.hasDel && (cd.hasDict && PySem.HandSPX.refsVE bm))))
    | _, _ => false)
  | _ => false
theorem oexB_ok {K : PySem.W.Frag} {C : Addr} (h : oexB K C = true) : ∃ nm q N bs bm sn sub ab col dd k0 k1 k2 k3 k5, K.lookup C = some (excClassObj nm q C N bs bm true sn sub ab col dd k0 k1 k2 k3 k5 "ValueError.__new__") ∧ PySem.HandSPX.refsVE bm = true := by
  unfold oexB at h
  split at h
  · rename_i t dd cd sl e
    split at h
    · rename_i D bm k0 k1 k2 k3 n k5 e1 e2
      simp only [Bool.and_eq_true, decide_eq_true_eq, Bool.not_eq_true'] at h
      obtain ⟨rfl, rfl, rfl, h1, h2, h3⟩ := h
      obtain ⟨nm, bs, mro, ns, qn, hd, sn, sub, ab, col, del⟩ := cd
      dsimp only at e1 h1 h2
      subst e1 h1 h2
      obtain ⟨l⟩ := sl
      dsimp only at e2
      subst e2
      exact ⟨nm, qn, ns, bs, bm, sn, sub, ab, col, dd, k0, k1, k2, k3, k5, e, h3⟩
    · cases h
  · cases h
def excB (K : PySem.W.Frag) (C : Addr) : Bool := decide (PySem.W.findIn K (.ref C) "__getattribute__" = some (some (.builtin "BaseException.__getattribute__"))) && (decide (PySem.W.findIn K (.ref C) "__getattr__" = some none) && (decide (PySem.W.subIn K (.ref C) (.type "BaseException") = some true) && (PySem.W.hasDictIn K C &&
  (decide (PySem.W.findIn K (.ref C) "__class__" = some (some (.builtin "object.__class__"))) && (decide (PySem.W.specialIn K (.builtin "object.__class__") "__get__" = some (some (.builtin "getset_descriptor.__get__"))) && (decide (PySem.W.takesIn K (.builtin "object.__class__") = some true) && decide (PySem.W.mroIn K C (.type "object") = some true)))))))
theorem excB_ok {K : PySem.W.Frag} {C : Addr} (h : excB K C = true) : ExcC K C := by
  unfold excB at h
  simp only [Bool.and_eq_true, decide_eq_true_eq] at h
  obtain ⟨h1, h2, h3, h4, h5, h6, h7, h8⟩ := h
  exact ⟨h1, h2, h3, h4, h5, h6, h7, h8⟩
end Wk

namespace Wk
open PySem PySem.Spec PyProof.Rows L2
theorem r0_of {P : Program} {w : World} {K : PySem.W.Frag} {mg : Str → Option Value} {base : Heap} {CX : CXT} {k : Nat} {f : Addr} {fd : FuncData} {ps : List Str} {sp : Sp} (F : FnOk P w K mg base CX k f fd ps sp) (hb : Binds K fd ps []) :
    FnR P w K mg base CX k f sp := (F.raw hb .nil).imp fun vs H Q E h => by simpa using h
def exL (K : PySem.W.Frag) : List Bool :=
  [decide (PySem.W.findIn K (.ref (He.ga K "Guard")) "__class__" = some (some (.builtin "object.__class__"))),
   decide (PySem.W.specialIn K (.builtin "object.__class__") "__get__" = some (some (.builtin "getset_descriptor.__get__"))),
   decide (PySem.W.takesIn K (.builtin "object.__class__") = some true),
   decide (PySem.W.mroIn K (He.ga K "Guard") (.type "object") = some true),
   decide (PySem.W.kitOne K (.ref (He.ga K "Guard")) (.ref (He.ga K "Guard")) = some true),
   decide (PySem.W.kitOne K (.type "list") (.ref (He.ga K "Guard")) = some false),
   decide (PySem.W.subIn K (.type "list") (.ref (He.ga K "Guard")) = some false),
   decide (oexB K (He.ga K "BadSize") = true),
   decide (PySem.W.findIn K (.ref (He.ga K "BadSize")) "__setattr__" = some (some (.builtin "object.__setattr__"))),
   decide (PySem.W.subIn K (.ref (He.ga K "BadSize")) (.type "BaseException") = some true),
   decide (PySem.W.typeIn K (.ref (He.ga K "BadSize")) = some (.type "type")),
   decide (PySem.W.keepIn K (.ref (He.ga K "BadSize")) = true),
   decide (excB K (He.ga K "BadSize") = true),
   decide (xfB K (He.ga K "BadSize") = true),
   decide (PySem.W.kitOne K (.ref (He.ga K "BadSize")) (.ref (He.ga K "SumsError")) = some true),
   decide (PySem.W.findIn K (.ref (He.ga K "BadSize")) "__init__" = some (some (.ref (He.ma K (He.ga K "BadSize") "__init__")))),
   decide (PySem.W.typeIn K (.ref (He.ma K (He.ga K "BadSize") "__init__")) = some (.type "function")),
   decide (PySem.W.findIn K (.ref (He.ga K "BadSize")) "size" = some none),
   decide (oexB K (He.ga K "BadModulus") = true),
   decide (PySem.W.findIn K (.ref (He.ga K "BadModulus")) "__setattr__" = some (some (.builtin "object.__setattr__"))),
   decide (PySem.W.subIn K (.ref (He.ga K "BadModulus")) (.type "BaseException") = some true),
   decide (PySem.W.typeIn K (.ref (He.ga K "BadModulus")) = some (.type "type")),
   decide (PySem.W.keepIn K (.ref (He.ga K "BadModulus")) = true),
   decide (excB K (He.ga K "BadModulus") = true),
   decide (xfB K (He.ga K "BadModulus") = true),
   decide (PySem.W.kitOne K (.ref (He.ga K "BadModulus")) (.ref (He.ga K "SumsError")) = some true),
   decide (PySem.W.findIn K (.ref (He.ga K "BadModulus")) "__init__" = some (some (.ref (He.ma K (He.ga K "BadModulus") "__init__")))),
   decide (PySem.W.typeIn K (.ref (He.ma K (He.ga K "BadModulus") "__init__")) = some (.type "function")),
   decide (PySem.W.findIn K (.ref (He.ga K "BadModulus")) "number" = some none),
   decide (PySem.W.exmOne K (.ref (He.ga K "BadSize")) (.ref (He.ga K "BadSize")) = some true),
   decide (PySem.W.exmOne K (.ref (He.ga K "BadModulus")) (.ref (He.ga K "BadSize")) = some false),
   decide (PySem.W.exmOne K (.ref (He.ga K "BadModulus")) (.ref (He.ga K "BadModulus")) = some true)]
theorem ex_at {K : PySem.W.Frag} (c : (exL K).all id = true) (i : Nat) {b : Bool} (h : (exL K)[i]? = some b := by rfl) : b = true := List.all_eq_true.mp c b (List.mem_of_getElem? h)
end Wk

/-! the end of a law whose own def wants to know the caller, with tables of lambdas -/
namespace Wk
open PySem PySem.Spec PyProof.Rows L2
abbrev tbO : Obj := { cls := .none, data := .fields #[] }
theorem call_hereT {P : Program} {w : World} {K : PySem.W.Frag} {mg mb : Str → Option Value} {fa a : Addr} {cs : List (Addr × Addr)} {s : Shared} {vs : List Value} {ns : List Int} (KX : K.In s.heap) (hG : s.heap.Ns mainGlobals mg) (hB : s.heap.Ns builtinsNs mb) (hb : ∀ x : Str, x ≠ "__name__" → mb x = bootBuiltins x)
    (hL : s.heap.NoLimit) (hg : s.gens = #[]) (t1 : ∀ p ∈ cs, s.heap.get? p.2 = some tbO) (t2 : ∀ p ∈ cs, K.lookup p.2 = none) (t3 : ∀ p ∈ cs, PySem.W.CodeHd s.heap p.1 p.2)
    (hbm : ∃ (bm : Addr) (ob : Obj), mg "__builtins__" = some (.ref bm) ∧ bm ≠ builtinsNs ∧ s.heap.get? bm = some ob ∧ ob.cls = .type "module" ∧ ob.dict = some builtinsNs ∧ ob.data = .plain)
    (ha : s.heap.get? a = some { cls := .type "list", data := .seq vs.toArray }) (hi : IntsAre vs ns) (hl : ns.length ≤ sizeLine)
    (F : ∀ (base : Heap) (H : Hp), K.In base → base.Ns mainGlobals mg → (∀ b o, s.heap.get? b = some o → (∀ us m, o.data ≠ .seq us m) → o.data ≠ .fields #[] → base.get? b = some o) → (∀ p ∈ cs, LamX.TabB base mg p.1 p.2) → (∀ p ∈ cs, H p.2 = some (.tbl #[])) → Env0 P w K mg base callerA [] s H → SqL K H a (ns.map V.int) → codeAny (model P w) callerA (.call (.ref fa) ⟨[.ref a], []⟩) (CR CX0 [] P w H s (fun v _ => v = .bl true) E0) s) :
    codeAny (model P w) callerA (.call (.ref fa) ⟨[.ref a], []⟩) (fun r s' => r = .ok (.ret (.bool true)) ∧ OldK s.heap s'.heap ∧ s'.os = s.os ∧ AllBare s'.gens) s := by
  have rel := vals_ints hi
  have tabs : ∀ {b : Addr}, b ∈ cs.map (·.2) → s.heap.get? b = some tbO := fun {b} m => by
    obtain ⟨q, hq, e⟩ := List.mem_map.mp m
    exact e ▸ t1 q hq
  have notA : a ∉ cs.map (·.2) := fun m => by
    have z := (tabs m).symm.trans ha
    cases z
  have main : ∀ H : Hp, (∀ b, H b = none ∨ (b ∈ cs.map (·.2) ∧ H b = some (.tbl #[])) ∨ (b = a ∧ ∃ o xs, H b = some (.frz o (.lst xs)))) → (∀ p ∈ cs, H p.2 = some (.tbl #[])) → SqL K H a (ns.map V.int) → HOk P w H s.heap → (H a ≠ none → K.lookup a = none) →
      codeAny (model P w) callerA (.call (.ref fa) ⟨[.ref a], []⟩) (fun r s' => r = .ok (.ret (.bool true)) ∧ OldK s.heap s'.heap ∧ s'.os = s.os ∧ AllBare s'.gens) s := by
    intro H hO hT hS hok hK
    -- neither a list nor a table: not tracked
    have un0 : ∀ b o, s.heap.get? b = some o → (∀ us m, o.data ≠ .seq us m) → o.data ≠ .fields #[] → H b = none := fun b o e nd nf => by
      rcases hO b with z | ⟨m, _⟩ | ⟨eb, _⟩
      · exact z
      · have z := (tabs m).symm.trans e
        cases z
        exact absurd rfl nf
      · subst eb
        rw [ha] at e
        cases e
        exact absurd rfl (nd _ _)
    have bas : ∀ b o, s.heap.get? b = some o → (∀ us m, o.data ≠ .seq us m) → o.data ≠ .fields #[] → (hidT s.heap H).get? b = some o := fun b o e nd nf => hidT_get e (un0 b o e nd nf)
    have spaces : ∀ {b : Addr} {m : Str → Option Value}, s.heap.Ns b m → (hidT s.heap H).Ns b m := fun {b m} ⟨o, es, ep, e, d, r⟩ => ⟨o, es, ep, bas b o e (fun us m z => by rw [d] at z; cases z) (fun z => by rw [d] at z; cases z), d, r⟩
    have frag : K.In (hidT s.heap H) := fun b o e => hidT_get (KX b o e) (by
      rcases hO b with z | ⟨m, _⟩ | ⟨eb, z⟩
      · exact z
      · obtain ⟨q, hq, e2⟩ := List.mem_map.mp m
        have z := t2 q hq
        rw [e2, e] at z
        cases z
      · subst eb
        cases q : H b with
        | none => rfl
        | some u =>
          rw [hK (by rw [q]; exact fun y => nomatch y)] at e
          cases e)
    have tabB : ∀ p ∈ cs, LamX.TabB (hidT s.heap H) mg p.1 p.2 := fun p hp => by
      have gp := t1 p hp
      obtain ⟨o, us, file, tf, flags, tg, inF, text, tt, e1, r1, r2, r3, rest⟩ := t3 p hp
      obtain ⟨bm, ob, b1, b2, b3, b4, b5, b6⟩ := hbm
      have kb := bas bm ob b3 (fun us m z => by rw [b6] at z; cases z) (fun z => by rw [b6] at z; cases z)
      have k1 := bas p.1 o e1 (fun us m z => by rw [r2] at z; cases z) (fun z => by
        rw [r2] at z
        injection z with z
        rw [z] at r3
        cases r3)
      refine ⟨⟨o, us, file, tf, flags, tg, inF, text, tt, k1, r1, r2, r3, rest⟩, ⟨bm, ob, b1, b2, fun z => ?_, fun z => ?_, kb, b4, b5, b6⟩, fun z => ?_⟩
      · obtain ⟨og, eg, xg, g1, g2, _⟩ := hG
        rw [z, g1] at b3
        cases b3
        rw [g2] at b6
        cases b6
      · rw [z, gp] at b3
        cases b3
        cases b6
      · obtain ⟨og, eg, xg, g1, g2, _⟩ := hG
        rw [z, gp] at g1
        cases g1
        cases g2
    obtain ⟨mc, l1, l2⟩ := hL
    have env : Env0 P w K mg (hidT s.heap H) callerA [] s H :=
      ⟨rfl, ⟨frag, spaces hG, ⟨mb, spaces hB, hb⟩, ⟨mc, spaces l1, l2⟩⟩, fun b o e => of_hidT e, Nat.le_of_eq (hidT_size s.heap H), trivial, fun b z => absurd (show b ∈ ([] : List Addr) from z) List.not_mem_nil, hok, .of_eq hg⟩
    refine codeAny_mono (F _ H frag (spaces hG) bas tabB hT env hS) fun r s' z => ?_
    match r, z with
    | .ok (.ret u), z =>
      obtain ⟨v, H', os, bare, U, hok', ru, q⟩ := z
      subst q
      obtain rfl : u = Value.bool true := ru
      have keep : ∀ b o, b ∉ cs.map (·.2) → s.heap.get? b = some o → s'.heap.get? b = some o := fun b o nt e => by
        rcases hO b with z | ⟨m, _⟩ | ⟨eb, ob, xs, z⟩
        · exact U.keep b o e z (fun y => absurd (show b ∈ ([] : List Addr) from y) List.not_mem_nil) List.not_mem_nil
        · exact absurd m nt
        · obtain ⟨e2, _⟩ := hok' b _ (U.frzs b ob _ z)
          obtain ⟨e1, _⟩ := hok b _ z
          exact (e2.trans e1.symm).trans e
      have more : ∀ p ∈ cs, ∃ us : Array Value, s'.heap.get? p.2 = some { cls := .none, data := .fields us } := fun p hp => by
        obtain ⟨us, z⟩ := U.tbls p.2 #[] (hT p hp)
        exact ⟨_, hok' p.2 _ z⟩
      have old : ∀ b o, s.heap.get? b = some o → asItWas s.heap s'.heap b o := fun b o e => by
        by_cases m : b ∈ cs.map (·.2)
        · obtain ⟨q, hq, eb⟩ := List.mem_map.mp m
          obtain ⟨us, hu⟩ := more q hq
          have g1 := t1 q hq
          subst eb
          rw [g1] at e
          cases e
          exact .inr (.inl ⟨((t3 q hq).tab g1).isCodeTable, rfl, #[], us, rfl, by rw [Array.empty_append]; exact hu⟩)
        · exact .inl (keep b o m e)
      refine ⟨rfl, ⟨old, fun b o e => ?_⟩, os, bare⟩
      by_cases m : b ∈ cs.map (·.2)
      · obtain ⟨q, hq, eb⟩ := List.mem_map.mp m
        obtain ⟨us, hu⟩ := more q hq
        exact ⟨_, eb ▸ hu⟩
      · exact ⟨o, keep b o m e⟩
    | .ok .next, z => exact False.elim z
    | .ok .brk, z => exact False.elim z
    | .ok .cont, z => exact False.elim z
    | .error e, z => exact False.elim z
  have inT : ∀ p ∈ cs, p.2 ∈ cs.map (·.2) := fun p hp => List.mem_map.mpr ⟨p, hp, rfl⟩
  cases hk : K.lookup a with
  | some o =>
    have e := KX a o hk
    rw [ha] at e
    cases e
    refine main (fun b => if b ∈ cs.map (·.2) then some (.tbl #[]) else none) (fun b => ?_) (fun p hp => if_pos (inT p hp)) (.inr ⟨_, vs.toArray, _, hk, rfl, rfl, rfl, ?_, by simpa using rel⟩) (fun b u z => ?_) fun z => absurd (if_neg notA) z
    · by_cases m : b ∈ cs.map (·.2)
      · exact .inr (.inl ⟨m, if_pos m⟩)
      · exact .inl (if_neg m)
    · rw [List.size_toArray, hi.length]
      exact hl
    · by_cases m : b ∈ cs.map (·.2)
      · have z2 := (if_pos m).symm.trans z
        cases z2
        exact tabs m
      · cases (if_neg m).symm.trans z
  | none =>
    refine main (fun b => if b = a then some (.frz { cls := .type "list", data := .seq vs.toArray } (.lst (ns.map V.int))) else if b ∈ cs.map (·.2) then some (.tbl #[]) else none) (fun b => ?_) (fun p hp => ?_) (.inl (.inr ⟨_, if_pos rfl⟩)) (fun b u z => ?_) fun _ => hk
    · by_cases h : b = a
      · exact .inr (.inr ⟨h, _, _, if_pos h⟩)
      · by_cases m : b ∈ cs.map (·.2)
        · exact .inr (.inl ⟨m, (if_neg h).trans (if_pos m)⟩)
        · exact .inl ((if_neg h).trans (if_neg m))
    · have h : ¬ p.2 = a := fun z => notA (z ▸ inT p hp)
      exact (if_neg h).trans (if_pos (inT p hp))
    · by_cases h : b = a
      · have z2 := (if_pos h).symm.trans z
        cases z2
        rw [h]
        exact ⟨ha, by rw [List.length_map]; exact hl, vs, _, rel, ha⟩
      · have z1 := (if_neg h).symm.trans z
        by_cases m : b ∈ cs.map (·.2)
        · have z2 := (if_pos m).symm.trans z1
          cases z2
          exact tabs m
        · cases (if_neg m).symm.trans z1
/-- the walk of such a law -/
theorem walk_hereT {l : PySem.W.OpenLaw} {n : Nat} {q : Program} {loose : List Str} {XP : (Str → Option Value) → Heap → Prop} {YP : World → Heap → Prop} {d : DefRec} (hn : l.most = some n) (hn2 : n ≤ sizeLine) (hdf : d.params.defaults = [])
    (F : ∀ (w : World) (mg : Str → Option Value) (fa : Addr) (h : Heap), YP w h → h.Ns mainGlobals mg → mg d.name = some (.ref fa) → ∃ (K : PySem.W.Frag) (cs : List (Addr × Addr)), K.In h ∧ (∀ p ∈ cs, h.get? p.2 = some tbO) ∧ (∀ p ∈ cs, K.lookup p.2 = none) ∧ (∀ p ∈ cs, PySem.W.CodeHd h p.1 p.2) ∧
      ∀ (base : Heap) (s : Shared) (H : Hp) (a : Addr) (ns : List Int), s.heap = h → K.In base → base.Ns mainGlobals mg → (∀ b o, h.get? b = some o → (∀ us m, o.data ≠ .seq us m) → o.data ≠ .fields #[] → base.get? b = some o) → (∀ p ∈ cs, LamX.TabB base mg p.1 p.2) → (∀ p ∈ cs, H p.2 = some (.tbl #[])) →
        Env0 l.prog w K mg base callerA [] s H → SqL K H a (ns.map V.int) → codeAny (model l.prog w) callerA (.call (.ref fa) ⟨[.ref a], []⟩) (CR CX0 [] l.prog w H s (fun v _ => v = .bl true) E0) s) :
    PySem.W.WalkO q loose XP YP l.row.toRowW d [] (fun f vs => PySem.call f vs) := by
  refine Att.attach_callB hn hdf fun w s₀ s₁ mg mb fa o pm cd doc a vs ns G Y ho hd hcd hmg hobj hints hlen hbits hg => ?_
  obtain ⟨K, cs, KX, t1, t2, t3, hF⟩ := F w mg fa _ Y G.T.g hmg
  exact call_hereT KX G.T.g G.T.b G.T.builtins G.T.nolimit hg t1 t2 t3 G.T.bmain hobj hints (Nat.le_trans hlen hn2) fun base H kb gb bb tb ht e0 hS => hF base s₁ H a ns rfl kb gb bb tb ht e0 hS
def hookT (n : Nat) (fa : List He.Fa) (fn : List He.DefD) (tf : List He.Defn) (ex : PySem.W.Frag → Bool) : PySem.W.Hook where
  α := He.AlX × Bool
  obs := fun s => (He.obsX n fa fn [] tf ex s.heap.get?, modsB s.heap.get?)
  val := fun w => (He.valX fn [] w, true)
  says := fun w h => (∃ K : PySem.W.Frag, K.In h ∧ He.SaysX fa fn [] tf ex w h K) ∧ ∃ o es m, h.get? sysModules = some o ∧ o.data = .dict es m
  of := fun w s e => ⟨⟨_, He.frT_in, He.saysX_of (congrArg (fun z : He.AlX × Bool => z.1) e)⟩, modsB_ok (congrArg (fun z : He.AlX × Bool => z.2) e)⟩
  keeps := fun w h h' z k => by
    obtain ⟨⟨K, hK, c⟩, o, es, m, e, d⟩ := z
    exact ⟨⟨K, PySem.W.Frag.In.keeps hK k, ⟨c.t, c.more, c.hd, c.out, fun p hp => k _ _ (c.empty p hp)⟩⟩, o, es, m, k _ _ e, d⟩
def obT (n : Nat) (fa : List He.Fa) (fn : List He.DefD) (tf : List He.Defn) (ex : PySem.W.Frag → Bool) (s : PySem.W.SharedT) : He.AlX × Bool := (He.obsX n fa fn [] tf ex (HandSHeadRun.getT s), modsB (HandSHeadRun.getT s))
theorem obT_eq {n : Nat} {fa : List He.Fa} {fn : List He.DefD} {tf : List He.Defn} {ex : PySem.W.Frag → Bool} (s : PySem.W.SharedT) : obT n fa fn tf ex s = (hookT n fa fn tf ex).obs s.abs := by
  have e : HandSHeadRun.getT s = s.abs.heap.get? := funext (HandSHeadRun.getT_eq s)
  unfold obT
  rw [e]
  rfl
end Wk

namespace Wk
open PySem PySem.Spec PyProof.Rows L2
def mkD (x : Str) (st : Stmt) (dv : List He.Dv := []) : He.DefD := ⟨(x, none), x, x, defArgs st, defBody st, defScope st, dv, []⟩
abbrev h_Stairs_init : Stmt := inClass (top 18) 0
abbrev h_Stairs_put : Stmt := inClass (top 18) 1
abbrev h_Stairs_put_at : Stmt := inClass (top 18) 2
abbrev h_Stairs_settled : Stmt := inClass (top 18) 4
abbrev h_Guard_init : Stmt := inClass (top 46) 0
abbrev h_Guard_eq : Stmt := inClass (top 46) 1
abbrev h_Guard_told : Stmt := inClass (top 46) 2
abbrev h_Guard_behind : Stmt := inClass (top 46) 3
abbrev h_BadSize_init : Stmt := inClass (top 6) 0
abbrev h_BadModulus_init : Stmt := inClass (top 3) 0
abbrev h_bezout : Stmt := top 15
abbrev h_multiple : Stmt := top 16
abbrev h_combined : Stmt := top 17
abbrev h_product : Stmt := top 20
abbrev h_applied : Stmt := top 21
abbrev h_transposed : Stmt := top 22
abbrev h_unit : Stmt := top 23
abbrev h_undone : Stmt := top 24
abbrev h_is_integer : Stmt := top 26
abbrev h_is_within : Stmt := top 27
abbrev h_is_list : Stmt := top 28
abbrev h_wrong_number : Stmt := top 29
abbrev h_wrong_row : Stmt := top 30
abbrev h_wrong_symbol : Stmt := top 31
abbrev h_late : Stmt := top 35
abbrev h_taken : Stmt := top 36
abbrev h_steps_below : Stmt := top 37
abbrev h_is_reached : Stmt := top 38
abbrev h_state_behind : Stmt := top 47
abbrev h_beside : Stmt := top 49
abbrev h_check_modulus : Stmt := top 50
abbrev h_checked_matrix : Stmt := top 51
abbrev h_checked_columns : Stmt := top 52
abbrev h_plain : Stmt := top 54
abbrev h_digits : Stmt := top 55
abbrev h_pair : Stmt := top 56
abbrev h_law_pen : Stmt := top 58
abbrev h_law_draw : Stmt := top 59
abbrev h_law_pick : Stmt := top 60
abbrev h_law_common : Stmt := top 61
abbrev h_law_units : Stmt := top 62
abbrev h_law_product : Stmt := top 63
abbrev h_law_undone : Stmt := top 64
abbrev h_law_modulus : Stmt := top 65
abbrev h_law_row : Stmt := top 66
abbrev h_law_fields : Stmt := top 67
abbrev h_law_any_fields : Stmt := top 68
abbrev h_law_guard : Stmt := top 69
abbrev h_law_two_to : Stmt := top 70
abbrev h_law_step : Stmt := top 71
abbrev h_law_late : Stmt := top 72
abbrev h_law_linear : Stmt := top 73
abbrev h_law_pair_number : Stmt := top 74
abbrev h_law_are_known : Stmt := top 75
abbrev h_law_met : Stmt := top 76
abbrev h_law_are_refused : Stmt := top 77
abbrev h_law : Stmt := top 78
def mkM (C m q : Str) (st : Stmt) (dv : List He.Dv := []) : He.DefD := ⟨(C, some m), m, q, defArgs st, defBody st, defScope st, dv, []⟩
def fns : List He.DefD := (mkM "Stairs" "__init__" "Stairs.__init__" h_Stairs_init) :: (mkM "Stairs" "put" "Stairs.put" h_Stairs_put) :: (mkM "Stairs" "put_at" "Stairs.put_at" h_Stairs_put_at) :: (mkM "Stairs" "settled" "Stairs.settled" h_Stairs_settled) :: (mkM "Guard" "__init__" "Guard.__init__" h_Guard_init) :: (mkM "Guard" "__eq__" "Guard.__eq__" h_Guard_eq) :: (mkM "Guard" "told" "Guard.told" h_Guard_told) :: (mkM "Guard" "behind" "Guard.behind" h_Guard_behind) :: (mkM "BadSize" "__init__" "BadSize.__init__" h_BadSize_init) :: (mkM "BadModulus" "__init__" "BadModulus.__init__" h_BadModulus_init) :: (mkD "bezout" h_bezout) :: (mkD "multiple" h_multiple) :: (mkD "combined" h_combined) :: (mkD "product" h_product) :: (mkD "applied" h_applied) :: (mkD "transposed" h_transposed) :: (mkD "unit" h_unit) :: (mkD "undone" h_undone) :: (mkD "is_integer" h_is_integer) :: (mkD "is_within" h_is_within) :: (mkD "is_list" h_is_list) :: (mkD "wrong_number" h_wrong_number) :: (mkD "wrong_row" h_wrong_row) :: (mkD "wrong_symbol" h_wrong_symbol) :: (mkD "late" h_late) :: (mkD "taken" h_taken) :: (mkD "steps_below" h_steps_below) :: (mkD "is_reached" h_is_reached) :: (mkD "state_behind" h_state_behind) :: (mkD "beside" h_beside) :: (mkD "check_modulus" h_check_modulus) :: (mkD "checked_matrix" h_checked_matrix) :: (mkD "checked_columns" h_checked_columns) :: (mkD "plain" h_plain) :: (mkD "digits" h_digits) :: (mkD "pair" h_pair [.int 0]) :: (mkD "_law_pen" h_law_pen) :: (mkD "_law_draw" h_law_draw) :: (mkD "_law_pick" h_law_pick) :: (mkD "_law_common" h_law_common) :: (mkD "_law_units" h_law_units) :: (mkD "_law_product" h_law_product) :: (mkD "_law_undone" h_law_undone) :: (mkD "_law_modulus" h_law_modulus) :: (mkD "_law_row" h_law_row) :: (mkD "_law_fields" h_law_fields) :: (mkD "_law_any_fields" h_law_any_fields) :: (mkD "_law_guard" h_law_guard) :: (mkD "_law_two_to" h_law_two_to) :: (mkD "_law_step" h_law_step) :: (mkD "_law_late" h_law_late) :: (mkD "_law_linear" h_law_linear) :: (mkD "_law_pair_number" h_law_pair_number) :: (mkD "_law_are_known" h_law_are_known) :: (mkD "_law_met" h_law_met) :: (mkD "_law_are_refused" h_law_are_refused) :: (mkD "law" h_law) :: []
def fas : List He.Fa := (.cls "Stairs") :: (.noat "Stairs" "modulus") :: (.noat "Stairs" "steps") :: (.mkr "Stairs") :: (.meth "Stairs" "put") :: (.meth "Stairs" "put_at") :: (.meth "Stairs" "settled") :: (.glo "Stairs") :: (.cls "Guard") :: (.noat "Guard" "modulus") :: (.noat "Guard" "size") :: (.noat "Guard" "matrix") :: (.noat "Guard" "columns") :: (.noat "Guard" "width") :: (.noat "Guard" "start") :: (.noat "Guard" "end") :: (.mkr "Guard") :: (.meth "Guard" "told") :: (.meth "Guard" "behind") :: (.glo "Guard") :: (.glo "BadSize") :: (.glo "BadModulus") :: (.glo "SumsError") :: (.glo "bezout") :: (.glo "multiple") :: (.glo "combined") :: (.glo "product") :: (.glo "applied") :: (.glo "transposed") :: (.glo "unit") :: (.glo "undone") :: (.glo "is_integer") :: (.glo "is_within") :: (.glo "is_list") :: (.glo "wrong_number") :: (.glo "wrong_row") :: (.glo "wrong_symbol") :: (.glo "late") :: (.glo "taken") :: (.glo "steps_below") :: (.glo "is_reached") :: (.glo "state_behind") :: (.glo "beside") :: (.glo "check_modulus") :: (.glo "checked_matrix") :: (.glo "checked_columns") :: (.glo "plain") :: (.glo "digits") :: (.glo "pair") :: (.glo "_law_pen") :: (.glo "_law_draw") :: (.glo "_law_pick") :: (.glo "_law_common") :: (.glo "_law_units") :: (.glo "_law_product") :: (.glo "_law_undone") :: (.glo "_law_modulus") :: (.glo "_law_row") :: (.glo "_law_fields") :: (.glo "_law_any_fields") :: (.glo "_law_guard") :: (.glo "_law_two_to") :: (.glo "_law_step") :: (.glo "_law_late") :: (.glo "_law_linear") :: (.glo "_law_pair_number") :: (.glo "_law_are_known") :: (.glo "_law_met") :: (.glo "_law_are_refused") :: (.glo "law") :: (.free "repr") :: (.free "isinstance") :: (.free "int") :: (.free "bool") :: (.free "range") :: (.free "min") :: (.free "max") :: (.free "tuple") :: (.free "list") :: (.free "len") :: (.free "abs") :: (.free "sum") :: (.free "zip") :: (.free "enumerate") :: (.free "reversed") :: (.meth "Guard" "__eq__") :: (.int "GREATEST_MODULUS" 1000000000000000000) :: (.int "MOST_NUMBERS" 16) :: (.int "MOST_SYMBOLS" 10000) :: (.int "GROUP" 32) :: (.int "DOUBLINGS" 5) :: (.int "WORTH" 3) :: (.int "GREATEST_NUMBER" 1000000000000000000) :: (.int "MOST_BITS" 128) :: []
def exB (K : PySem.W.Frag) : Bool := (exL K).all id
abbrev RW21 : PySem.W.OpenRow := PySem.W.OpenLaw.row PySem.Challenge.rw_guardsums_k17_late_moduli
def tfs : List He.Defn := [("_law_are_refused", none)]
abbrev hk : PySem.W.Hook := hookT 5 fas fns tfs exB
def names : List Str := "_wall" :: "SumsError" :: "BadModulus" :: "NotUndone" :: "TooMany" :: "BadSize" :: "BadSymbol" :: "BadMatrix" :: "BadColumns" :: "BadStart" :: "BadEnd" :: "BadState" :: "BadNumber" :: "bezout" :: "multiple" :: "combined" :: "Stairs" :: "product" :: "applied" :: "transposed" :: "unit" :: "undone" :: "is_integer" :: "is_within" :: "is_list" :: "wrong_number" :: "wrong_row" :: "wrong_symbol" :: "late" :: "taken" :: "steps_below" :: "is_reached" :: "Guard" :: "state_behind" :: "step_of_group" :: "beside" :: "check_modulus" :: "checked_matrix" :: "checked_columns" :: "plain" :: "digits" :: "pair" :: "_law_pen" :: "_law_draw" :: "_law_pick" :: "_law_common" :: "_law_units" :: "_law_product" :: "_law_undone" :: "_law_modulus" :: "_law_row" :: "_law_fields" :: "_law_any_fields" :: "_law_guard" :: "_law_two_to" :: "_law_step" :: "_law_late" :: "_law_linear" :: "_law_pair_number" :: "_law_are_known" :: "_law_met" :: "_law_are_refused" :: "GREATEST_MODULUS" :: "MOST_NUMBERS" :: "MOST_SYMBOLS" :: "GROUP" :: "DOUBLINGS" :: "WORTH" :: "GREATEST_NUMBER" :: "MOST_BITS" :: []
theorem run (w : World) : HandSHeadRun.RunEqI RW21 (PySem.W.view RW21.prog [78]) hk (obT 5 fas fns tfs exB) 20000 names w := by
  unfold HandSHeadRun.RunEqI
  kernel_rfl
end Wk

namespace ZN
open PySem PySem.Spec PyProof.Rows
theorem typeCall (us : List Value) : checkTypeCall "zip" ⟨us, []⟩ = pure () := by kernel_rfl
theorem newCall : ∀ us : List Value, 1 ≤ us.length → us.length ≤ 16 → checkBuiltinCall "zip.__new__" ⟨.type "zip" :: us, []⟩ = pure ()
  | [a], _, _ => by kernel_rfl
  | [a, b], _, _ => by kernel_rfl
  | [a, b, c], _, _ => by kernel_rfl
  | [a, b, c, d], _, _ => by kernel_rfl
  | [a, b, c, d, e], _, _ => by kernel_rfl
  | [a, b, c, d, e, f], _, _ => by kernel_rfl
  | [a, b, c, d, e, f, g], _, _ => by kernel_rfl
  | [a, b, c, d, e, f, g, h], _, _ => by kernel_rfl
  | [a, b, c, d, e, f, g, h, a1], _, _ => by kernel_rfl
  | [a, b, c, d, e, f, g, h, a1, b1], _, _ => by kernel_rfl
  | [a, b, c, d, e, f, g, h, a1, b1, c1], _, _ => by kernel_rfl
  | [a, b, c, d, e, f, g, h, a1, b1, c1, d1], _, _ => by kernel_rfl
  | [a, b, c, d, e, f, g, h, a1, b1, c1, d1, e1], _, _ => by kernel_rfl
  | [a, b, c, d, e, f, g, h, a1, b1, c1, d1, e1, f1], _, _ => by kernel_rfl
  | [a, b, c, d, e, f, g, h, a1, b1, c1, d1, e1, f1, g1], _, _ => by kernel_rfl
  | [a, b, c, d, e, f, g, h, a1, b1, c1, d1, e1, f1, g1, h1], _, _ => by kernel_rfl
  | a :: b :: c :: d :: e :: f :: g :: h :: a1 :: b1 :: c1 :: d1 :: e1 :: f1 :: g1 :: h1 :: i1 :: us, _, z => absurd z (by simp)
theorem args_init (a b : Value) (us : List Value) : argsOk "object.__init__" ⟨a :: b :: us, []⟩ := by
  unfold argsOk; rw [signature?_of (id := "object.__init__") (n := ['_', '_', 't', 'i', 'n', 'i', '_', '_']) (o := ['t', 'c', 'e', 'j', 'b', 'o']) (by kernel_rfl) F.owner_object]; kernel_rfl
/-- where the iterators stand when zip is made -/
def newIts (n0 N : Nat) : List Addr := (List.range N).map (n0 + ·)
theorem meets_new (ls : List Addr) (rows : List (Array Value)) (hr : rows.length = ls.length) (hsz : ls.length ≤ 1000) :
    Meets (Builtin.«zip.__new__» ⟨.type "zip" :: refs ls, []⟩) (fun _ R s => (∀ (k : Nat) (l : Addr) (r : Array Value), ls[k]? = some l → rows[k]? = some r → s.heap.IsTuple l r) ∧
      ∀ h', ZSt (s.heap.objs.size + ls.length + 2) (s.heap.objs.size + ls.length) (s.heap.objs.size + ls.length + 1) (newIts s.heap.objs.size ls.length) ls rows h' 0 → h'.objs.size = s.heap.objs.size + ls.length + 3 → (∀ b o, s.heap.get? b = some o → h'.get? b = some o) →
      R (.ok (.ret (.ref (s.heap.objs.size + ls.length + 2)))) { s with heap := h' }) :=
  .of_wp fun prog w A R s h => by
    obtain ⟨hp, g, d, tk, os⟩ := s
    obtain ⟨hl, h⟩ := h
    have hsub := sub_zip
    unfold Builtin.«zip.__new__»
    wp_walk using wpAny_forIn_list _ (fun rest (b : Array Value) s' => ∃ (j : Nat) (h' : Heap), b = (refs (newIts hp.objs.size j)).toArray ∧ rest = (refs ls).drop j ∧ j ≤ ls.length ∧ s' = ⟨h', g, d, tk, os⟩ ∧
      (∀ (k : Nat) (l : Addr), k < j → ls[k]? = some l → h'.IsTupleIter (hp.objs.size + k) l 0) ∧ h'.objs.size = hp.objs.size + j ∧ ∀ b o, hp.get? b = some o → h'.get? b = some o) _
    · rintro x rest b s' ⟨j, h', rfl, hrest, hj, rfl, hit, hsz2, hk⟩
      obtain ⟨l, hlj, rfl, hrest2⟩ := refs_drop ls j x rest hrest
      have hjl : j < ls.length := (List.getElem?_eq_some_iff.mp hlj).1
      have hrow : rows[j]? = some (rows[j]'(by omega)) := List.getElem?_eq_getElem (by omega)
      obtain ⟨o, ho, q⟩ := hl j l _ hlj hrow
      have hlt2 : h'.IsTuple l (rows[j]'(by omega)) := ⟨o, hk _ _ ho, q⟩
      refine wpAny_bind (wpAny_holding (wpAny_pyIter_tuple hlt2 ?_))
      refine wpAny_pure ⟨j + 1, _, ?_, hrest2, hjl, rfl, fun k l2 hk2 e2 => ?_, ?_, fun b o e => Heap.get?_push_of_some _ (hk b o e)⟩
      · have e1 : newIts hp.objs.size (j + 1) = newIts hp.objs.size j ++ [hp.objs.size + j] := by simp [newIts, List.range_succ]
        rw [e1]
        show _ = (refs _).toArray
        simp [refs, hsz2]
      · by_cases e : k = j
        · subst e
          rw [hlj] at e2
          cases e2
          rw [← hsz2]
          exact ⟨_, Heap.get?_push_size _ rfl, rfl, rfl⟩
        · obtain ⟨o2, ho2, q2⟩ := hit k l2 (by omega) e2
          exact ⟨o2, Heap.get?_push_of_some _ ho2, q2⟩
      · rw [Heap.size_push, hsz2]
        rfl
    · rintro b s' ⟨j, h', rfl, hrest, hj, rfl, hit, hsz2, hk⟩
      have hjn : j = ls.length := by
        have := congrArg List.length hrest
        simp [refs] at this
        omega
      subst hjn
      refine wpAny_pure ?_
      have hN : (refs (newIts hp.objs.size ls.length)).length = ls.length := by simp [refs, newIts]
      have sl : ls.length ≤ sizeLine := Nat.le_trans hsz (by decide)
      refine wpAny_bind (wpAny_newTuple ?_ (by show (refs _).length ≤ _; rw [hN]; exact sl))
      refine wpAny_bind (wpAny_newTuple ?_ (by show (List.map _ (refs _)).length ≤ _; rw [List.length_map, hN]; exact sl))
      refine wpAny_bind ?_
      unfold Builtin.SmallTypes.newRecord
      refine wpAny_newObj_type ?_ (Nat.le_trans (show 5 ≤ 5 from Nat.le_refl _) (by decide) : (5 : Nat) ≤ sizeLine + 2)
      refine wpAny_pure ?_
      have z2 : (h'.push { cls := .type "tuple", data := .seq (refs (newIts hp.objs.size ls.length)).toArray }).objs.size = hp.objs.size + ls.length + 1 := by rw [Heap.size_push, hsz2]
      have z3 : ((h'.push { cls := .type "tuple", data := .seq (refs (newIts hp.objs.size ls.length)).toArray }).push { cls := .type "tuple", data := .seq (List.map (fun _ => Value.none) (refs (newIts hp.objs.size ls.length))).toArray }).objs.size = hp.objs.size + ls.length + 2 := by rw [Heap.size_push, z2]
      refine ⟨_, rfl, ?_⟩
      show R (.ok (.ret (.ref ((h'.push { cls := .type "tuple", data := .seq (refs (newIts hp.objs.size ls.length)).toArray }).push { cls := .type "tuple", data := .seq (List.map (fun _ => Value.none) (refs (newIts hp.objs.size ls.length))).toArray }).objs.size)))
        ⟨((h'.push { cls := .type "tuple", data := .seq (refs (newIts hp.objs.size ls.length)).toArray }).push { cls := .type "tuple", data := .seq (List.map (fun _ => Value.none) (refs (newIts hp.objs.size ls.length))).toArray }).push
          { cls := .type "zip", data := .fields #[.none, .bool false, .bool false, .ref h'.objs.size, .ref (h'.push { cls := .type "tuple", data := .seq (refs (newIts hp.objs.size ls.length)).toArray }).objs.size] }, g, d, tk, os⟩
      have g1 : (h'.push { cls := .type "tuple", data := .seq (refs (newIts hp.objs.size ls.length)).toArray }).get? h'.objs.size = some { cls := .type "tuple", data := .seq (refs (newIts hp.objs.size ls.length)).toArray } := Heap.get?_push_size _ rfl
      have g2 := Heap.get?_push_size (h'.push { cls := .type "tuple", data := .seq (refs (newIts hp.objs.size ls.length)).toArray }) (o := { cls := .type "tuple", data := .seq (List.map (fun _ => Value.none) (refs (newIts hp.objs.size ls.length))).toArray }) rfl
      have g3 := Heap.get?_push_size ((h'.push { cls := .type "tuple", data := .seq (refs (newIts hp.objs.size ls.length)).toArray }).push { cls := .type "tuple", data := .seq (List.map (fun _ => Value.none) (refs (newIts hp.objs.size ls.length))).toArray })
        (o := { cls := .type "zip", data := .fields #[.none, .bool false, .bool false, .ref h'.objs.size, .ref (h'.push { cls := .type "tuple", data := .seq (refs (newIts hp.objs.size ls.length)).toArray }).objs.size] }) rfl
      rw [z3] at g3 ⊢
      rw [z2] at g2
      rw [hsz2] at g1
      refine h _ ⟨?_, fun k a l r e1 e2 e3 => ?_, .inl ⟨?_, rfl, (List.map (fun _ => Value.none) (refs (newIts hp.objs.size ls.length))).toArray, ?_, ?_⟩⟩ ?_ ?_
      · exact Heap.get?_push_of_some _ (Heap.get?_push_of_some _ g1)
      · have hk2 : k < ls.length := (List.getElem?_eq_some_iff.mp e2).1
        have ea : a = hp.objs.size + k := by
          have e4 : (newIts hp.objs.size ls.length)[k]? = some (hp.objs.size + k) := by simp [newIts, hk2]
          have e1' : (newIts hp.objs.size ls.length)[k]? = some a := e1
          rw [e4] at e1'
          cases e1'
          rfl
        subst ea
        obtain ⟨o, ho, q⟩ := hit k l hk2 e2
        obtain ⟨o2, ho2, q2⟩ := hl k l r e2 e3
        exact ⟨⟨o, Heap.get?_push_of_some _ (Heap.get?_push_of_some _ (Heap.get?_push_of_some _ ho)), q⟩, o2, Heap.get?_push_of_some _ (Heap.get?_push_of_some _ (Heap.get?_push_of_some _ (hk _ _ ho2))), q2⟩
      · show IsZip _ (hp.objs.size + ls.length + 2) (hp.objs.size + ls.length) (hp.objs.size + ls.length + 1) .none
        rw [z2, hsz2] at g3
        show Heap.get? _ _ = _
        rw [z2, hsz2]
        exact g3
      · exact Heap.get?_push_of_some _ g2
      · simp [refs]
      · rw [Heap.size_push, z3]
      · exact fun b o e => Heap.get?_push_of_some _ (Heap.get?_push_of_some _ (Heap.get?_push_of_some _ (hk b o e)))
    · exact ⟨0, hp, by simp [newIts, refs], rfl, Nat.zero_le _, rfl, fun k l h => absurd h (Nat.not_lt_zero _), rfl, fun _ _ e => e⟩
theorem newIts_ap {n0 : Nat} {ls : List Addr} (hl : ∀ l ∈ ls, l < n0) : Ap (n0 + ls.length + 2) (n0 + ls.length) (n0 + ls.length + 1) (newIts n0 ls.length) ls := by
  have mem : ∀ a, a ∈ newIts n0 ls.length → n0 ≤ a ∧ a < n0 + ls.length := fun a h => by
    obtain ⟨k, hk, rfl⟩ := List.mem_map.mp h
    have := List.mem_range.mp hk
    exact ⟨Nat.le_add_right _ _, Nat.add_lt_add_left this _⟩
  refine ⟨fun z => ?_, fun z => ?_, fun z => ?_, ?_, fun z => ?_, fun z => ?_, fun z => ?_, fun l h => ⟨fun z => ?_, fun z => ?_, fun z => ?_⟩, by simp [newIts]⟩
  · exact absurd (show n0 + ls.length + 2 = n0 + ls.length + 1 from z) (by omega)
  · exact absurd (show n0 + ls.length + 2 < n0 + ls.length from (mem _ z).2) (by omega)
  · exact absurd (show n0 + ls.length + 1 < n0 + ls.length from (mem _ z).2) (by omega)
  · show List.Pairwise (· ≠ ·) ((List.range ls.length).map (n0 + ·))
    rw [List.pairwise_map]
    exact List.pairwise_lt_range.imp fun h z => absurd (Nat.add_left_cancel z) (Nat.ne_of_lt h)
  · exact absurd (show n0 + ls.length = n0 + ls.length + 2 from z) (by omega)
  · exact absurd (show n0 + ls.length = n0 + ls.length + 1 from z) (by omega)
  · exact absurd (show n0 + ls.length < n0 + ls.length from (mem _ z).2) (Nat.lt_irrefl _)
  · exact absurd (show n0 + ls.length + 2 < n0 from z ▸ hl l h) (by omega)
  · exact absurd (show n0 + ls.length + 1 < n0 from z ▸ hl l h) (by omega)
  · have h1 := hl l h
    have h2 := (mem _ z).1
    exact absurd h1 (Nat.not_lt.mpr h2)
section
variable {prog : Program} {w : World} {A : Around} {E : Value → Shared → Prop} {s : Shared}
theorem call_zip {ls : List Addr} {rows : List (Array Value)} {Q : Value → Shared → Prop} (h1 : 1 ≤ ls.length) (h8 : ls.length ≤ 16) (hr : rows.length = ls.length) (hl : ∀ (k : Nat) (l : Addr) (r : Array Value), ls[k]? = some l → rows[k]? = some r → s.heap.IsTuple l r)
    (h : ∀ h', ZSt (s.heap.objs.size + ls.length + 2) (s.heap.objs.size + ls.length) (s.heap.objs.size + ls.length + 1) (newIts s.heap.objs.size ls.length) ls rows h' 0 → h'.objs.size = s.heap.objs.size + ls.length + 3 → (∀ b o, s.heap.get? b = some o → h'.get? b = some o) →
      Q (.ref (s.heap.objs.size + ls.length + 2)) { s with heap := h' }) : wpAny (model prog w) A (call (.type "zip") (refs ls)) Q E s := by
  have hlen : (refs ls).length = ls.length := by simp [refs]
  obtain ⟨a, us, e⟩ : ∃ a us, refs ls = a :: us := by
    cases q : refs ls with
    | nil => rw [q] at hlen; simp at hlen; omega
    | cons a us => exact ⟨a, us, rfl⟩
  refine callType_new F.called_zip (by decide) (typeCall _) (newCall _ (by omega) (by omega)) (fun obj => by rw [e]; exact args_init obj a us) F.entry_zip_new (meets_new ls rows hr (by omega)) ⟨hl, fun h' Z hs hk => ?_⟩
  exact ⟨Z.zip, h h' Z hs hk⟩
end
end ZN

namespace Wk
open PySem PySem.Spec PyProof.Rows L2
/-- some objects tracked at once -/
def layAll (H : Hp) (ps : List (Addr × HO)) : Hp := fun b => match ps.lookup b with
  | some o => some o
  | none => H b
theorem layAll_none {H : Hp} {ps : List (Addr × HO)} {b : Addr} (h : ps.lookup b = none) : layAll H ps b = H b := by
  unfold layAll
  rw [h]
theorem lookup_none_of {ps : List (Addr × HO)} {b : Addr} (h : ∀ p ∈ ps, p.1 ≠ b) : ps.lookup b = none := by
  induction ps with
  | nil => rfl
  | cons p ps ih =>
    obtain ⟨a, o⟩ := p
    have h1 : (b == a) = false := by
      have := h (a, o) List.mem_cons_self
      simpa using fun e : b = a => this e.symm
    rw [List.lookup_cons, h1]
    exact ih fun q hq => h q (List.mem_cons_of_mem _ hq)
theorem lookup_mem {ps : List (Addr × HO)} {b : Addr} {o : HO} (h : ps.lookup b = some o) : (b, o) ∈ ps := by
  induction ps with
  | nil => cases h
  | cons p ps ih =>
    obtain ⟨a, u⟩ := p
    rw [List.lookup_cons] at h
    cases e : b == a with
    | true =>
      rw [e] at h
      cases h
      rw [eq_of_beq e]
      exact List.mem_cons_self
    | false =>
      rw [e] at h
      exact List.mem_cons_of_mem _ (ih h)
theorem layAll_at {H : Hp} {ps : List (Addr × HO)} {b : Addr} {o : HO} (nd : (ps.map (·.1)).Nodup) (h : (b, o) ∈ ps) : layAll H ps b = some o := by
  have e : ps.lookup b = some o := by
    induction ps with
    | nil => cases h
    | cons p ps ih =>
      obtain ⟨a, u⟩ := p
      rw [List.map_cons, List.nodup_cons] at nd
      rw [List.lookup_cons]
      rcases List.mem_cons.mp h with e | m
      · cases e
        simp
      · have hne : (b == a) = false := by
          simpa using fun e : b = a => nd.1 (by rw [← e]; exact List.mem_map.mpr ⟨_, m, rfl⟩)
        rw [hne]
        exact ih nd.2 m
  unfold layAll
  rw [e]
section
variable {X : Cx} {pins : List (Addr × Obj)} {σ : L2.St} {H : Hp} {s : Shared}
/-- tuples that were laid and are tracked all at once -/
theorem inv_lays {h' : Heap} {t' : Nat} (I : Inv X pins σ H s) (ps : List (Addr × List V)) (k : ∀ b u, s.heap.get? b = some u → h'.get? b = some u) (hp : ∀ p ∈ ps, s.heap.objs.size ≤ p.1)
    (new : ∀ p ∈ ps, p.2.length ≤ sizeLine ∧ ∃ its, Vals p.2 its ∧ IsTup h' p.1 its.toArray) : Inv X pins σ (layAll H (ps.map fun p => (p.1, HO.tup p.2))) { s with heap := h', toks := t' } := by
  have fresh : ∀ {b u}, s.heap.get? b = some u → (ps.map fun p => (p.1, HO.tup p.2)).lookup b = none := fun {b u} e => lookup_none_of fun q hq z => by
    obtain ⟨p, hm, rfl⟩ := List.mem_map.mp hq
    have h1 := hp p hm
    have h2 : b < s.heap.objs.size := Heap.lt_size e
    dsimp only at z
    rw [z] at h1
    exact Nat.lt_irrefl _ (Nat.lt_of_lt_of_le h2 h1)
  have old : ∀ {b o}, H b = some o → layAll H (ps.map fun p => (p.1, HO.tup p.2)) b = some o := fun {b o} e => by
    rw [layAll_none, e]
    have hlt : b < s.heap.objs.size := (I.hok b o e).lt
    refine lookup_none_of fun q hq z => ?_
    obtain ⟨p, hm, rfl⟩ := List.mem_map.mp hq
    dsimp only at z
    have h1 := hp p hm
    rw [z] at h1
    exact Nat.lt_irrefl _ (Nat.lt_of_lt_of_le hlt h1)
  refine I.un (h' := h') (t' := t') ⟨fun b o e _ _ _ => k b o e, fun b o e _ _ _ => ⟨o.slots, k b o e⟩, fun b o e n _ => by rw [layAll_none (fresh e)]; exact n, fun b o e _ => ⟨o, k b o e⟩, fun b xs e => old e, fun b o u e => old e, fun b ps e => ⟨#[], by rw [old e]; simp⟩⟩ ?_
  intro b o e
  cases q : (ps.map fun p => (p.1, HO.tup p.2)).lookup b with
  | none =>
    rw [layAll_none q] at e
    exact (I.hok b o e).stay (fun c u _ z => k c u z) (fun _ z => old z) fun _ _ z => old z
  | some o2 =>
    have e2 : layAll H (ps.map fun p => (p.1, HO.tup p.2)) b = some o2 := by
      unfold layAll
      rw [q]
    rw [e2] at e
    cases e
    obtain ⟨p, hm, ep⟩ := List.mem_map.mp (lookup_mem q)
    cases ep
    exact new p hm
end
theorem same_lays {X : Cx} {pins : List (Addr × Obj)} {σ : L2.St} {H : Hp} {s : Shared} (I : Inv X pins σ H s) (ps : List (Addr × List V)) (hp : ∀ p ∈ ps, s.heap.objs.size ≤ p.1) : Same H (layAll H (ps.map fun p => (p.1, HO.tup p.2))) := fun b o e => by
  rw [layAll_none, e]
  have hlt : b < s.heap.objs.size := (I.hok b o e).lt
  refine lookup_none_of fun q hq z => ?_
  obtain ⟨p, hm, rfl⟩ := List.mem_map.mp hq
  dsimp only at z
  have h1 := hp p hm
  rw [z] at h1
  exact Nat.lt_irrefl _ (Nat.lt_of_lt_of_le hlt h1)
theorem vals_getD : ∀ {r : List V} {v : List Value} (j : Nat), Vals r v → RelV (r.getD j .non) (v.getD j .none)
  | _, _, _, .nil => by simp; rfl
  | _, _, 0, .cons a _ => a
  | _, _, j + 1, .cons _ b => vals_getD j b
theorem vals_col (j : Nat) : ∀ (rows : List (List V)) (rws : List (List Value)), rows.length = rws.length → (∀ (k : Nat) (r : List V) (v : List Value), rows[k]? = some r → rws[k]? = some v → Vals r v) → Vals (rows.map fun r => r.getD j .non) (rws.map fun r => r.getD j .none)
  | [], [], _, _ => .nil
  | [], _ :: _, h, _ => by simp at h
  | _ :: _, [], h, _ => by simp at h
  | r :: rows, v :: rws, h, hv => .cons (vals_getD j (hv 0 r v rfl rfl)) (vals_col j rows rws (by simpa using h) fun k r' v' e1 e2 => hv (k + 1) r' v' (by simpa using e1) (by simpa using e2))
/-- tuple(zip(*e)), e a tuple of tuples of one size -/
def tTrn (K : PySem.W.Frag) (te : TE) : TE := fun σ H Q => te σ H fun x H1 => ∃ (a : Addr) (ls : List Addr) (rows : List (List V)) (n : Nat), x = .ref a ∧ (SqT K H1 a (ls.map V.ref) ∨ SqL K H1 a (ls.map V.ref)) ∧ rows.length = ls.length ∧ 1 ≤ ls.length ∧ ls.length ≤ 16 ∧ 1 ≤ n ∧ n ≤ 1000 ∧
  (∀ (k : Nat) (l : Addr) (r : List V), ls[k]? = some l → rows[k]? = some r → SqT K H1 l r ∧ r.length = n) ∧
  ∀ (as : List Addr) (p : Addr) (H2 : Hp), Same H1 H2 → as.length = n → H2 p = some (.tup (as.map V.ref)) → (∀ (j : Nat) (b : Addr), as[j]? = some b → H2 b = some (.tup (rows.map fun r => r.getD j .non))) → Q (.ref p) H2
theorem vals_refs : ∀ {ls : List Addr} {us : List Value}, Vals (ls.map V.ref) us → us = ZN.refs ls
  | [], _, .nil => rfl
  | l :: ls, _, .cons r rr => by
    obtain rfl : _ = Value.ref l := r
    show _ :: _ = Value.ref l :: ZN.refs ls
    rw [vals_refs rr]
theorem refs_vals : ∀ ls : List Addr, Vals (ls.map V.ref) (ZN.refs ls)
  | [] => .nil
  | l :: ls => .cons rfl (refs_vals ls)
section
variable {X : Cx} {pins : List (Addr × Obj)} {σ : L2.St} {H : Hp} {s : Shared}
theorem rows_read (I : Inv X pins σ H s) : ∀ (ls : List Addr) (rows : List (List V)), rows.length = ls.length → (∀ (k : Nat) (l : Addr) (r : List V), ls[k]? = some l → rows[k]? = some r → SqT X.K H l r) →
    ∃ rws : List (List Value), rws.length = ls.length ∧ ∀ (k : Nat) (l : Addr) (r : List V) (v : List Value), ls[k]? = some l → rows[k]? = some r → rws[k]? = some v → Vals r v ∧ IsTup s.heap l v.toArray
  | [], _, _, _ => ⟨[], rfl, fun k l r v e => by simp at e⟩
  | l :: ls, [], h, _ => by simp at h
  | l :: ls, r :: rows, h, hs => by
    obtain ⟨rws, h1, h2⟩ := rows_read I ls rows (by simpa using h) fun k l' r' e1 e2 => hs (k + 1) l' r' (by simpa using e1) (by simpa using e2)
    obtain ⟨its, rv, pl, _⟩ := I.tuple (hs 0 l r rfl rfl)
    refine ⟨its :: rws, by simp [h1], fun k l' r' v e1 e2 e3 => ?_⟩
    cases k with
    | zero =>
      cases e1
      cases e2
      cases e3
      exact ⟨rv, pl⟩
    | succ k => exact h2 k l' r' v (by simpa using e1) (by simpa using e2) (by simpa using e3)
end
section
variable {X : Cx} {e : Expr} {te : TE} {x y : Str} {p1 p2 p3 pos pos2 : Pos}
theorem pe_trn (hc : X.calm = true) (hgT : Gl X "tuple") (hmT : X.mg "tuple" = none) (hgZ : Gl X "zip") (hmZ : X.mg "zip" = none) (he : PE X e te)
    (hst : starEach [.Starred e p3] X.env = [(true, eval e X.env)] := by rfl)
    (na : starEach [.Call (.Name "zip" p2) [.Starred e p3] [] pos2] X.env = (false, eval (.Call (.Name "zip" p2) [.Starred e p3] [] pos2) X.env) :: starEach [] X.env := by rfl) :
    PE X (.Call (.Name "tuple" p1) [.Call (.Name "zip" p2) [.Starred e p3] [] pos2] [] pos) (tTrn X.K te) := by
  refine ⟨fun pins s σ H Q I h => ?_⟩
  refine wpAny_Call_Name_kw (ld_blt I hgT hmT PyProof.Rows.Boot.«tuple» ?_ (by decide) (by decide))
  refine PyProof.Rows.callWith_type1 (args_cons (Q := fun us s1 => wpAny (model X.prog X.w) X.A (call (.type "tuple") us) (EP X pins σ Q) X.xe s1) ?_ na) na rfl
  refine wpAny_Call_Name_kw (ld_blt I hgZ hmZ PyProof.Rows.Boot.«zip» ?_ (by decide) (by decide))
  rw [hst]
  refine PySem.W.ks_call (P := fun _ => True) rfl (fun _ _ => ⟨.machine, .inr (.inl rfl), PySem.W.Looks.of_pure rfl⟩) (PySem.W.ks_lone (thn (he.run pins s σ H _ I h) fun v s1 ⟨x, H1, I1, r1, a, ls, rows, n, ex, hs, hr, h1, h8, hn1, hn2, hrow, q⟩ => ?_))
  subst ex
  obtain rfl : v = Value.ref a := r1
  refine StX.star_any I1 hs fun us s2 I2 rv => ⟨trivial, ?_⟩
  rw [vals_refs rv]
  obtain ⟨rws, hrl, hrw⟩ := rows_read I2 ls rows hr (fun k l r e1 e2 => (hrow k l r e1 e2).1)
  have hlt : ∀ l ∈ ls, l < s2.heap.objs.size := fun l hl => by
    obtain ⟨k, hk⟩ := List.mem_iff_getElem?.mp hl
    have hkl := (List.getElem?_eq_some_iff.mp hk).1
    obtain ⟨_, o, ho, _⟩ := hrw k l _ _ hk (List.getElem?_eq_getElem (by omega)) (List.getElem?_eq_getElem (by omega))
    exact Heap.lt_size ho
  have hArr : ∀ (k : Nat) (l : Addr) (r : Array Value), ls[k]? = some l → (rws.map List.toArray)[k]? = some r → s2.heap.IsTuple l r := fun k l r e1 e2 => by
    rw [List.getElem?_map] at e2
    cases e3 : rws[k]? with
    | none => rw [e3] at e2; cases e2
    | some v =>
      rw [e3] at e2
      cases e2
      have hkl := (List.getElem?_eq_some_iff.mp e1).1
      exact (hrw k l _ v e1 (List.getElem?_eq_getElem (by omega)) e3).2
  refine ZN.call_zip h1 h8 (by rw [List.length_map]; exact hrl) hArr fun h' Z hsz hk => ?_
  have hh := I.ok.hd hc
  refine args_nil ?_
  have D := ZN.newIts_ap hlt
  have hne : ZN.newIts s2.heap.objs.size ls.length ≠ [] := fun z => by
    have := congrArg List.length z
    rw [show (ZN.newIts s2.heap.objs.size ls.length).length = ls.length by simp [ZN.newIts]] at this
    rw [this] at h1
    exact Nat.not_succ_le_zero _ h1
  have hNl : (ZN.newIts s2.heap.objs.size ls.length).length = ls.length := by simp [ZN.newIts]
  have hwid : ∀ (k : Nat) (v : List Value), rws[k]? = some v → v.length = n := fun k v e3 => by
    have hkr := (List.getElem?_eq_some_iff.mp e3).1
    have e1 : ls[k]? = some (ls[k]'(by omega)) := List.getElem?_eq_getElem (by omega)
    have e2 : rows[k]? = some (rows[k]'(by omega)) := List.getElem?_eq_getElem (by omega)
    rw [← (hrw k _ _ v e1 e2 e3).1.length]
    exact (hrow k _ _ e1 e2).2
  refine ZN.call_tuple (n := n) (cols := fun i => rws.map fun r => r.getD i .none) hh D hne (by rw [List.length_map, hNl]; exact hrl) hn1 hn2 (by rw [hNl]; omega) ?_ ?_ Z ?_ fun h'' as hal hk2 G => ?_
  · intro r hr2
    obtain ⟨v, hv, rfl⟩ := List.mem_map.mp hr2
    obtain ⟨k, hk3⟩ := List.mem_iff_getElem?.mp hv
    rw [List.size_toArray]
    exact hwid k v hk3
  · intro i hi
    refine ⟨by rw [List.length_map, hNl]; exact hrl, fun k r v e1 e2 => ?_⟩
    rw [List.getElem?_map] at e1 e2
    cases e3 : rws[k]? with
    | none => rw [e3] at e1; cases e1
    | some u =>
      rw [e3] at e1 e2
      cases e1
      cases e2
      have hul := hwid k u e3
      show u.toArray[i]? = some (u.getD i .none)
      rw [List.getElem?_toArray, List.getD_eq_getElem?_getD, List.getElem?_eq_getElem (by omega)]
      rfl
  · intro b hb
    show b < h'.objs.size
    rw [hsz]
    simp only [List.mem_cons] at hb
    rcases hb with rfl | rfl | hb
    · exact Nat.lt_succ_self _
    · exact Nat.lt_of_lt_of_le (Nat.lt_succ_self _) (Nat.le_succ _)
    · obtain ⟨k, hk3, rfl⟩ := List.mem_map.mp hb
      have := List.mem_range.mp hk3
      exact Nat.lt_of_lt_of_le (Nat.add_lt_add_left this _) (Nat.le_add_right _ 3)
  · have hall : ∀ b o, s2.heap.get? b = some o → h''.get? b = some o := fun b o e => hk2 b o (fun z => by
      have hbl : b < s2.heap.objs.size := Heap.lt_size e
      simp only [List.mem_cons] at z
      rcases z with rfl | rfl | z
      · exact absurd hbl (Nat.not_lt.mpr (Nat.le_trans (Nat.le_add_right _ _) (Nat.le_add_right _ _)))
      · exact absurd hbl (Nat.not_lt.mpr (Nat.le_trans (Nat.le_add_right _ _) (Nat.le_add_right _ _)))
      · obtain ⟨k, _, rfl⟩ := List.mem_map.mp z
        exact absurd hbl (Nat.not_lt.mpr (Nat.le_add_right _ _))) (hk b o e)
    have hlo : s2.heap.objs.size ≤ h'.objs.size := by
      rw [hsz]
      exact Nat.le_trans (Nat.le_add_right _ _) (Nat.le_add_right _ _)
    have hlo2 : ∀ a ∈ as, s2.heap.objs.size ≤ a ∧ a < h''.objs.size := fun a m => ⟨Nat.le_trans hlo (G.lo_ a m).1, (G.lo_ a m).2⟩
    -- what is tracked from now on
    obtain ⟨col, hcol⟩ : ∃ col : Nat → List V, col = fun j => rows.map fun r => r.getD j .non := ⟨_, rfl⟩
    obtain ⟨ps, hps⟩ : ∃ ps : List (Addr × List V), ps = (h''.objs.size, as.map V.ref) :: as.zipIdx.map fun q => (q.1, col q.2) := ⟨_, rfl⟩
    have hnew : ∀ p ∈ ps, s2.heap.objs.size ≤ p.1 := fun p hp => by
      rw [hps] at hp
      rcases List.mem_cons.mp hp with rfl | hp
      · have h3 : 0 < as.length := by omega
        exact Nat.le_of_lt (Nat.lt_of_le_of_lt (hlo2 _ (List.getElem_mem h3)).1 (hlo2 _ (List.getElem_mem h3)).2)
      · obtain ⟨q2, hq2, rfl⟩ := List.mem_map.mp hp
        exact (hlo2 _ (List.fst_mem_of_mem_zipIdx hq2)).1
    have hmem : ∀ (j : Nat) (b : Addr), as[j]? = some b → (b, col j) ∈ ps := fun j b e => by
      rw [hps]
      refine List.mem_cons_of_mem _ (List.mem_map.mpr ⟨(b, j), ?_, rfl⟩)
      exact List.mem_zipIdx_iff_getElem?.mpr e
    have hnd : (ps.map (·.1)).Nodup := by
      rw [hps, List.map_cons, List.map_map]
      have e : (as.zipIdx.map ((fun p : Addr × List V => p.1) ∘ fun q => (q.1, col q.2))) = as := by
        rw [show ((fun p : Addr × List V => p.1) ∘ fun q : Addr × Nat => (q.1, col q.2)) = Prod.fst from rfl]
        exact List.zipIdx_map_fst 0 as
      rw [e, List.nodup_cons]
      exact ⟨fun z => Nat.lt_irrefl _ (hlo2 _ z).2, G.up.imp fun h => Nat.ne_of_lt h⟩
    have hread : ∀ p ∈ ps, p.2.length ≤ sizeLine ∧ ∃ its, Vals p.2 its ∧ IsTup (h''.push { cls := .type "tuple", data := .seq (ZN.refs as).toArray }) p.1 its.toArray := fun p hp => by
      rw [hps] at hp
      rcases List.mem_cons.mp hp with rfl | hp
      · exact ⟨by show (as.map V.ref).length ≤ _; rw [List.length_map, hal]; exact Nat.le_trans hn2 (by decide), ZN.refs as, refs_vals as, _, Heap.get?_push_size _ rfl, rfl, _, rfl⟩
      · obtain ⟨⟨b, j⟩, hq2, rfl⟩ := List.mem_map.mp hp
        have hj := List.mem_zipIdx_iff_getElem?.mp hq2
        refine ⟨by show (col j).length ≤ _; rw [hcol, List.length_map, hr]; exact Nat.le_trans h8 (by decide), rws.map fun r => r.getD j .none, ?_, _, Heap.get?_push_of_some _ (G.at_ j b hj), rfl, _, rfl⟩
        show Vals (col j) _
        rw [hcol]
        exact vals_col j rows rws (by omega) fun k r v e2 e3 => by
          have hkr := (List.getElem?_eq_some_iff.mp e3).1
          exact (hrw k _ r v (List.getElem?_eq_getElem (by omega)) e2 e3).1
    have hk4 : ∀ b o, s2.heap.get? b = some o → (h''.push { cls := .type "tuple", data := .seq (ZN.refs as).toArray }).get? b = some o := fun b o e => Heap.get?_push_of_some _ (hall b o e)
    have Ifin := inv_lays (t' := s2.toks) I2 ps hk4 hnew hread
    have hnd2 : ((ps.map fun p => (p.1, HO.tup p.2)).map (·.1)).Nodup := by
      rw [List.map_map]
      exact hnd
    refine ⟨.ref h''.objs.size, _, Ifin, rfl, q as h''.objs.size _ (same_lays I2 ps hnew) hal ?_ fun j b e => ?_⟩
    · exact layAll_at hnd2 (List.mem_map.mpr ⟨(h''.objs.size, as.map V.ref), by rw [hps]; exact List.mem_cons_self, rfl⟩)
    · have := layAll_at (H := H1) hnd2 (List.mem_map.mpr ⟨(b, col j), hmem j b e, rfl⟩)
      rw [this, hcol]
end
end Wk

/-! matrices of ints, their products modulo M -/
namespace Wk
abbrev Mat := List (List Int)
def Wd (n : Int) : Prop := n.natAbs < 2 ^ 200
def RWd (r : List Int) : Prop := ∀ n ∈ r, Wd n
def MWd (A : Mat) : Prop := ∀ r ∈ A, RWd r
def dotZ (a b : List Int) : Int := (List.zipWith (· * ·) a b).sum
def applyM (M : Int) (A : Mat) (r : List Int) : List Int := A.map fun l => dotZ l r % M
def colsOf (n : Nat) (B : Mat) : Mat := (List.range n).map fun j => B.map fun r => r.getD j 0
def prodM (M : Int) (n : Nat) (A B : Mat) : Mat := A.map fun r => applyM M (colsOf n B) r
def unitRow (s p : Nat) : List Int := (List.range s).map fun j => if j = p then 1 else 0
def idM (s : Nat) : Mat := (List.range s).map fun p => unitRow s p
def mpow (M : Int) (n : Nat) (A : Mat) : Nat → Mat
  | 0 => idM n
  | e + 1 => prodM M n (mpow M n A e) A
abbrev Row := List Int
def mulRow (M f : Int) (r : List Int) : List Int := r.map fun x => f * x % M
def comb (M f : Int) (r : List Int) (g : Int) (s : List Int) : List Int := List.zipWith (fun a b => (f * a + g * b) % M) r s
/-- numbers from 0 to M - 1 -/
def RRed (M : Int) (r : Row) : Prop := ∀ x ∈ r, 0 ≤ x ∧ x < M
structure WF (M : Int) (W n : Nat) (S : List (Option Row)) : Prop where
  len : S.length = n
  row : ∀ (i : Nat) (s : Row), S[i]? = some (some s) → s.length = W ∧ RRed M s ∧ (∃ x, s[i]? = some x ∧ 1 ≤ x ∧ x ∣ M) ∧ ∀ j, j < i → s[j]? = some 0
/-- one step of a put -/
def PutStep (M : Int) (p : Nat) (S : List (Option Row)) (r : Row) (N : Int) (S' : List (Option Row)) (r' : Row) : Prop :=
  (S[p]? = some none ∧ ∃ g lf f : Int, g = (Int.gcd M N : Int) ∧ 1 ≤ g ∧ lf * M + f * N = g ∧ S' = S.set p (some (mulRow M f r)) ∧ r' = mulRow M (M / g) r) ∨
  (∃ (s : Row) (P : Int), S[p]? = some (some s) ∧ s[p]? = some P ∧
    ((N % P = 0 ∧ S' = S ∧ r' = comb M 1 r (-(N / P)) s) ∨
     (∃ g lf f : Int, g = (Int.gcd P N : Int) ∧ 1 ≤ g ∧ lf * P + f * N = g ∧ S' = S.set p (some (comb M f r lf s)) ∧ r' = comb M (P / g) r (-(N / g)) s)))
/-- a put, place by place -/
inductive Ch (M : Int) (S0 : List (Option Row)) (r0 : Row) : Nat → List (Option Row) → Row → Prop
  | base : Ch M S0 r0 0 S0 r0
  | skip {i : Nat} {S : List (Option Row)} {r : Row} : Ch M S0 r0 i S r → r[i]? = some 0 → Ch M S0 r0 (i + 1) S r
  | step {i : Nat} {S S' : List (Option Row)} {r r' : Row} {N : Int} : Ch M S0 r0 i S r → r[i]? = some N → 1 ≤ N → PutStep M i S r N S' r' → Ch M S0 r0 (i + 1) S' r'
theorem mod_red {M : Int} (h : 1 ≤ M) (x : Int) : 0 ≤ x % M ∧ x % M < M := ⟨Int.emod_nonneg _ (by omega), Int.emod_lt_of_pos _ (by omega)⟩
theorem mulRow_red {M : Int} (h : 1 ≤ M) (f : Int) (r : Row) : RRed M (mulRow M f r) := fun x hx => by
  obtain ⟨y, _, rfl⟩ := List.mem_map.mp hx
  exact mod_red h _
theorem comb_red {M : Int} (h : 1 ≤ M) (f g : Int) (r s : Row) : RRed M (comb M f r g s) := fun x hx => by
  obtain ⟨k, hk⟩ := List.mem_iff_getElem?.mp hx
  unfold comb at hk
  rw [List.getElem?_zipWith] at hk
  split at hk
  · cases hk
    exact mod_red h _
  · cases hk
theorem mulRow_at {M f : Int} {r : Row} {i : Nat} {x : Int} (h : r[i]? = some x) : (mulRow M f r)[i]? = some (f * x % M) := by
  unfold mulRow
  rw [List.getElem?_map, h]
  rfl
theorem comb_at {M f g : Int} {r s : Row} {i : Nat} {x y : Int} (h : r[i]? = some x) (h2 : s[i]? = some y) : (comb M f r g s)[i]? = some ((f * x + g * y) % M) := by
  unfold comb
  rw [List.getElem?_zipWith, h, h2]
theorem gcd_le_l {a b : Int} (h : 1 ≤ a) : (Int.gcd a b : Int) ≤ a := by
  have : Int.gcd a b ≤ a.natAbs := Nat.gcd_le_left _ (by omega)
  omega
theorem gcd_le_r {a b : Int} (h : 1 ≤ b) : (Int.gcd a b : Int) ≤ b := by
  have : Int.gcd a b ≤ b.natAbs := Nat.gcd_le_right _ (by omega)
  omega
theorem WF.set {M : Int} {W n i : Nat} {S : List (Option Row)} {s : Row} {x : Int} (wf : WF M W n S) (h1 : s.length = W) (h2 : RRed M s) (h3 : s[i]? = some x) (h4 : 1 ≤ x) (h5 : x ∣ M) (h6 : ∀ j, j < i → s[j]? = some 0) : WF M W n (S.set i (some s)) := by
  refine ⟨by rw [List.length_set]; exact wf.len, fun j t e => ?_⟩
  by_cases z : i = j
  · subst z
    by_cases hl : i < S.length
    · rw [List.getElem?_set_self hl] at e
      cases e
      exact ⟨h1, h2, ⟨x, h3, h4, h5⟩, h6⟩
    · rw [List.getElem?_eq_none (by rw [List.length_set]; omega)] at e
      cases e
  · rw [List.getElem?_set_ne z] at e
    exact wf.row j t e
theorem put_wf {M : Int} {W n i : Nat} {S S' : List (Option Row)} {r r' : Row} {N : Int} (hM : 2 ≤ M) (wf : WF M W n S) (hr : r.length = W) (rr : RRed M r) (hz : ∀ j, j < i → r[j]? = some 0) (hN : r[i]? = some N) (h1 : 1 ≤ N) (st : PutStep M i S r N S' r') :
    WF M W n S' ∧ r'.length = W ∧ RRed M r' ∧ ∀ j, j < i + 1 → r'[j]? = some 0 := by
  have hNM : N < M := (rr N (List.mem_of_getElem? hN)).2
  rcases st with ⟨e0, g, lf, f, hg, g1, hbz, rfl, rfl⟩ | ⟨s, P, e0, hP, st⟩
  · have hgM : g ∣ M := hg ▸ Int.gcd_dvd_left ..
    have hgN' : g ∣ N := hg ▸ Int.gcd_dvd_right ..
    have e : f * N = g - lf * M := by omega
    have hgN := gcd_le_r (a := M) (b := N) h1
    have eg : f * N % M = g := by rw [e, Int.sub_mul_emod_self_right, Int.emod_eq_of_lt (by omega) (by omega)]
    refine ⟨wf.set (by simp [mulRow, hr]) (mulRow_red (by omega) _ _) (mulRow_at hN) (by rw [eg]; exact g1) (by rw [eg]; exact hgM) (fun j hj => by rw [mulRow_at (hz j hj)]; simp), by simp [mulRow, hr], mulRow_red (by omega) _ _, fun j hj => ?_⟩
    rcases Nat.lt_or_ge j i with h | h
    · rw [mulRow_at (hz j h)]
      simp
    · have : j = i := by omega
      subst this
      rw [mulRow_at hN]
      obtain ⟨a, rfl⟩ := hgM
      obtain ⟨b, rfl⟩ := hgN'
      rw [Int.mul_ediv_cancel_left _ (by omega), show a * (g * b) = g * a * b by grind, Int.mul_emod_right]
  · obtain ⟨sl, sr, ⟨P', hP', p1, pM⟩, sz⟩ := wf.row i s e0
    rw [hP] at hP'
    cases hP'
    have hPM : P < M := (sr P (List.mem_of_getElem? hP)).2
    have low : ∀ (f g : Int) (j : Nat), j < i → (comb M f r g s)[j]? = some 0 := fun f g j hj => by rw [comb_at (hz j hj) (sz j hj)]; simp
    rcases st with ⟨h0, rfl, rfl⟩ | ⟨g, lf, f, hg, g1, hbz, rfl, rfl⟩
    · refine ⟨wf, by simp [comb, hr, sl], comb_red (by omega) _ _ _ _, fun j hj => ?_⟩
      rcases Nat.lt_or_ge j i with h | h
      · exact low _ _ j h
      · have : j = i := by omega
        subst this
        rw [comb_at hN hP]
        have := Int.emod_add_ediv_mul N P
        rw [show 1 * N + -(N / P) * P = 0 by grind]
        simp
    · have hgP' : g ∣ P := hg ▸ Int.gcd_dvd_left ..
      have hgN' : g ∣ N := hg ▸ Int.gcd_dvd_right ..
      have hgN := gcd_le_l (a := P) (b := N) p1
      have eg : (f * N + lf * P) % M = g := by rw [show f * N + lf * P = g by omega, Int.emod_eq_of_lt (by omega) (by omega)]
      refine ⟨wf.set (by simp [comb, hr, sl]) (comb_red (by omega) _ _ _ _) (comb_at hN hP) (by rw [eg]; exact g1) (by rw [eg]; exact Int.dvd_trans hgP' pM) (low _ _), by simp [comb, hr, sl], comb_red (by omega) _ _ _ _, fun j hj => ?_⟩
      rcases Nat.lt_or_ge j i with h | h
      · exact low _ _ j h
      · have : j = i := by omega
        subst this
        rw [comb_at hN hP]
        obtain ⟨a, rfl⟩ := hgP'
        obtain ⟨b, rfl⟩ := hgN'
        rw [Int.mul_ediv_cancel_left _ (by omega), Int.mul_ediv_cancel_left _ (by omega), show a * (g * b) + -b * (g * a) = 0 by grind]
        simp
theorem Ch.wf {M : Int} {W n i : Nat} {S0 S : List (Option Row)} {r0 r : Row} (c : Ch M S0 r0 i S r) (hM : 2 ≤ M) (wf : WF M W n S0) (hr : r0.length = W) (rr : RRed M r0) : WF M W n S ∧ r.length = W ∧ RRed M r ∧ ∀ j, j < i → r[j]? = some 0 := by
  induction c with
  | base => exact ⟨wf, hr, rr, fun j h => absurd h (Nat.not_lt_zero _)⟩
  | skip c h ih =>
    obtain ⟨a, b, d, e⟩ := ih
    refine ⟨a, b, d, fun j hj => ?_⟩
    rcases Nat.lt_succ_iff_lt_or_eq.mp hj with h2 | h2
    · exact e j h2
    · rw [h2]
      exact h
  | step c h h1 st ih =>
    obtain ⟨a, b, d, e⟩ := ih
    exact put_wf hM a b d e h h1 st
/-- a row of the matrix with its own unit row behind -/
def rowOf (M : Int) (n : Nat) (a : Row) (k : Nat) : Row := a.map (· % M) ++ unitRow n k
inductive Puts (M : Int) (n : Nat) (A : Mat) : Nat → List (Option Row) → Prop
  | zero : Puts M n A 0 (List.replicate n none)
  | succ {k : Nat} {S S' : List (Option Row)} {a r' : Row} : Puts M n A k S → A[k]? = some a → Ch M S (rowOf M n a k) n S' r' → Puts M n A (k + 1) S'
theorem rowOf_ok {M : Int} (hM : 2 ≤ M) {n k : Nat} {a : Row} (h : a.length = n) : (rowOf M n a k).length = 2 * n ∧ RRed M (rowOf M n a k) := by
  refine ⟨by simp [rowOf, unitRow, h]; omega, fun x hx => ?_⟩
  rcases List.mem_append.mp hx with hx | hx
  · obtain ⟨y, _, rfl⟩ := List.mem_map.mp hx
    exact mod_red (by omega) y
  · obtain ⟨j, _, rfl⟩ := List.mem_map.mp hx
    split <;> omega
theorem Puts.wf {M : Int} (hM : 2 ≤ M) {n k : Nat} {A : Mat} {S : List (Option Row)} (hA : ∀ r ∈ A, r.length = n) (p : Puts M n A k S) : WF M (2 * n) n S := by
  induction p with
  | zero => exact ⟨by simp, fun i s e => by
      rw [List.getElem?_replicate] at e
      split at e <;> cases e⟩
  | succ p h c ih =>
    obtain ⟨a, b⟩ := rowOf_ok hM (hA _ (List.mem_of_getElem? h))
    exact (c.wf hM ih a b).1
/-- a row made less by the rows behind it -/
def lessen (M : Int) : Row → List (Nat × Row) → Row
  | r, [] => r
  | r, (q, s) :: L => lessen M (if r.getD q 0 ≥ s.getD q 0 then comb M 1 r (-(r.getD q 0 / s.getD q 0)) s else r) L
/-- the rows made less, from the last place on; i of them looked at -/
def settle (M : Int) (n : Nat) (S : List (Option Row)) : Nat → List (Nat × Row)
  | 0 => []
  | i + 1 => match S.getD (n - 1 - i) none with
    | none => settle M n S i
    | some r => (n - 1 - i, lessen M r (settle M n S i)) :: settle M n S i
/-- what the rows behind must be to make a row less -/
def LOk (M : Int) (W : Nat) (L : List (Nat × Row)) : Prop := ∀ q s, (q, s) ∈ L → s.length = W ∧ RRed M s ∧ q < W ∧ 1 ≤ s.getD q 0
theorem less_step {M : Int} {W : Nat} {r s : Row} {f : Int} (hM : 1 ≤ M) (hr : r.length = W) (hs : s.length = W) : (comb M 1 r f s).length = W ∧ RRed M (comb M 1 r f s) := ⟨by simp [comb, hr, hs], comb_red hM _ _ _ _⟩
theorem lessen_ok {M : Int} {W : Nat} (hM : 1 ≤ M) : ∀ {L : List (Nat × Row)} {r : Row}, LOk M W L → r.length = W → RRed M r → (lessen M r L).length = W ∧ RRed M (lessen M r L) ∧ ∀ (j : Nat) (x : Int), r[j]? = some x → (∀ q s, (q, s) ∈ L → s[j]? = some 0) → (lessen M r L)[j]? = some x
  | [], r, _, h1, h2 => ⟨h1, h2, fun j x h _ => h⟩
  | (q, s) :: L, r, hL, h1, h2 => by
    obtain ⟨a, b, c, e⟩ := hL q s List.mem_cons_self
    have hL2 : LOk M W L := fun q s h => hL q s (List.mem_cons_of_mem _ h)
    unfold lessen
    split
    · obtain ⟨z1, z2⟩ := less_step (f := -(r.getD q 0 / s.getD q 0)) hM h1 a
      obtain ⟨y1, y2, y3⟩ := lessen_ok hM hL2 z1 z2
      refine ⟨y1, y2, fun j x hx hz => y3 j x ?_ fun q s h => hz q s (List.mem_cons_of_mem _ h)⟩
      rw [comb_at hx (hz q s List.mem_cons_self)]
      have := h2 x (List.mem_of_getElem? hx)
      rw [Int.mul_zero, Int.add_zero, Int.one_mul, Int.emod_eq_of_lt this.1 this.2]
    · obtain ⟨y1, y2, y3⟩ := lessen_ok hM hL2 h1 h2
      exact ⟨y1, y2, fun j x hx hz => y3 j x hx fun q s h => hz q s (List.mem_cons_of_mem _ h)⟩
theorem settle_ok {M : Int} {W n : Nat} {S : List (Option Row)} (hM : 2 ≤ M) (wf : WF M W n S) (hn : n ≤ W) : ∀ i, i ≤ n → ∀ q s, (q, s) ∈ settle M n S i → n - i ≤ q ∧ q < n ∧ s.length = W ∧ RRed M s ∧ (∀ j, j < q → s[j]? = some 0) ∧ ∃ r0 x, S[q]? = some (some r0) ∧ r0[q]? = some x ∧ s[q]? = some x ∧ 1 ≤ x
  | 0, _, q, s, h => by simp [settle] at h
  | i + 1, hi, q, s, h => by
    have ih := settle_ok hM wf hn i (by omega)
    have hlt : n - 1 - i < S.length := by rw [wf.len]; omega
    unfold settle at h
    split at h
    · obtain ⟨a, b⟩ := ih q s h
      exact ⟨by omega, b⟩
    · rename_i r e
      have e2 : S[n - 1 - i]? = some (some r) := by
        rw [List.getD_eq_getElem?_getD, List.getElem?_eq_getElem hlt] at e
        rw [List.getElem?_eq_getElem hlt]
        exact congrArg some e
      obtain ⟨a1, a2, ⟨x, a3, a4, a5⟩, a6⟩ := wf.row _ _ e2
      have hL : LOk M W (settle M n S i) := fun q s h => by
        obtain ⟨b1, b2, b3, b4, b5, r0, x, b6, b7, b8, b9⟩ := ih q s h
        refine ⟨b3, b4, by omega, ?_⟩
        rw [List.getD_eq_getElem?_getD, b8]
        exact b9
      have zer : ∀ j, j ≤ n - 1 - i → ∀ q s, (q, s) ∈ settle M n S i → s[j]? = some 0 := fun j hj q s h => by
        obtain ⟨b1, b2, b3, b4, b5, _⟩ := ih q s h
        exact b5 j (by omega)
      obtain ⟨y1, y2, y3⟩ := lessen_ok (show 1 ≤ M by omega) hL a1 a2
      rcases List.mem_cons.mp h with h | h
      · cases h
        exact ⟨by omega, by omega, y1, y2, fun j hj => y3 j 0 (a6 j hj) (zer j (by omega)), r, x, e2, a3, y3 _ x a3 (zer _ (Nat.le_refl _)), a4⟩
      · obtain ⟨a, b⟩ := ih q s h
        exact ⟨by omega, b⟩
theorem settle_len (M : Int) (n : Nat) (S : List (Option Row)) : ∀ i, (settle M n S i).length ≤ i
  | 0 => Nat.le_refl _
  | i + 1 => by
    have := settle_len M n S i
    unfold settle
    split
    · omega
    · simp
      omega
theorem settle_lok {M : Int} {W n : Nat} {S : List (Option Row)} (hM : 2 ≤ M) (wf : WF M W n S) (hn : n ≤ W) {i : Nat} (hi : i ≤ n) : LOk M W (settle M n S i) := fun q s h => by
  obtain ⟨b1, b2, b3, b4, b5, r0, x, b6, b7, b8, b9⟩ := settle_ok hM wf hn i hi q s h
  refine ⟨b3, b4, by omega, ?_⟩
  rw [List.getD_eq_getElem?_getD, b8]
  exact b9
end Wk

namespace Wk
open PySem L2
abbrev s_product : Stmt := top 20
theorem sc_product : FnScope ["modulus", "one", "other", "columns", "row"] ["modulus", "one", "other"] (defScope s_product) := ⟨rfl, rfl, rfl, by decide +kernel, rfl, by decide +kernel, by decide +kernel⟩
abbrev s_applied : Stmt := top 21
theorem sc_applied : FnScope ["modulus", "matrix", "row", "line", "a", "b"] ["modulus", "matrix", "row"] (defScope s_applied) := ⟨rfl, rfl, rfl, by decide +kernel, rfl, by decide +kernel, by decide +kernel⟩
abbrev s_transposed : Stmt := top 22
theorem sc_transposed : FnScope ["matrix"] ["matrix"] (defScope s_transposed) := ⟨rfl, rfl, rfl, by decide +kernel, rfl, by decide +kernel, by decide +kernel⟩
abbrev s_unit : Stmt := top 23
theorem sc_unit : FnScope ["size", "place"] ["size", "place"] (defScope s_unit) := ⟨rfl, rfl, rfl, by decide +kernel, rfl, by decide +kernel, by decide +kernel⟩

structure TxtM (mg : Str → Option Value) : Prop where
  f_tuple : mg "tuple" = none
  f_zip : mg "zip" = none
  f_sum : mg "sum" = none
  f_range : mg "range" = none
  f_len : mg "len" = none
theorem yesT {σ : L2.St} {H : Hp} {A : Hp → Prop} {B : Hp → Prop} (h : A H) : tYes σ H fun b H3 => if b = true then A H3 else B H3 := by
  show if true = true then A H else B H
  rw [if_pos rfl]
  exact h
/-- a new tuple of ints -/
def NewRow (H : Hp) (r : List Int) (Q : VK) : Prop := ∀ p H', Same H H' → H' p = some (.tup (r.map V.int)) → Q (.ref p) H'
def spApplied (K : PySem.W.Frag) : Sp := fun vs H Q _ => ∃ (M : Int) (a b : Addr) (A : Mat) (r : List Int), vs = [.int M, .ref a, .ref b] ∧ 1 ≤ M ∧ MatAt K H a A ∧ RowAt K H b r ∧ MWd A ∧ RWd r ∧ A.length ≤ 1000 ∧ r.length ≤ 1000 ∧ (∀ l ∈ A, l.length = r.length) ∧ NewRow H (applyM M A r) Q
theorem rows_at {K : PySem.W.Frag} {H : Hp} {vs : List V} {A : Mat} (h : RowsAre K H vs A) {i : Nat} {x : V} (e : vs[i]? = some x) : ∃ (p : Addr) (l : List Int), x = .ref p ∧ A[i]? = some l ∧ RowAt K H p l := h.at_ e
theorem SqK.same {t : Bool} {K : PySem.W.Frag} {H H' : Hp} {a : Addr} {xs : List V} (h : ZM.SqK t K H a xs) (e : Same H H') : ZM.SqK t K H' a xs := by
  cases t
  · rcases h with (h | ⟨o, h⟩) | h
    · exact .inl (.inl (e _ _ h))
    · exact .inl (.inr ⟨o, e _ _ h⟩)
    · exact .inr h
  · exact SqT.same h e
theorem same_upd {H : Hp} {a : Addr} {o : HO} (h : H a = none) : Same H (upd H a o) := fun b u e => by
  rw [upd_ne (ne_of_none e h)]
  exact e
theorem at_ints {xs : List Int} {i : Nat} {v : V} (h : (xs.map V.int)[i]? = some v) : ∃ x, xs[i]? = some x ∧ v = .int x := by
  rw [List.getElem?_map] at h
  cases e : xs[i]? with
  | none => rw [e] at h; cases h
  | some x => rw [e] at h; cases h; exact ⟨x, rfl, rfl⟩
theorem wd_mul {x y : Int} (hx : Wd x) (hy : Wd y) : CMulW x y := wide_mul (a := 200) (b := 200) hx hy (by decide) (by decide) (by decide)
/-- a list whose items are told one by one -/
theorem acc_map {α : Type} {acc : List V} {as : List α} {f : α → V} (hl : acc.length = as.length) (h : ∀ (j : Nat) (v : V), acc[j]? = some v → ∃ a : α, as[j]? = some a ∧ v = f a) : acc = as.map f := by
  apply List.ext_getElem?
  intro j
  rw [List.getElem?_map]
  cases e : acc[j]? with
  | none =>
    rw [List.getElem?_eq_none_iff] at e
    rw [List.getElem?_eq_none (by omega)]
    rfl
  | some v =>
    obtain ⟨a, h1, h2⟩ := h j v e
    rw [h1, h2]
    rfl
theorem dot_read {K : PySem.W.Frag} {t u : Bool} {a b : Addr} {xs ys : List Int} {p q i j : Nat} {σ : L2.St} {H : Hp} {Q : VK} (hp : σ[p]? = some (some (.ref a))) (hq : σ[q]? = some (some (.ref b))) (sa : ZM.SqK t K H a (xs.map V.int)) (sb : ZM.SqK u K H b (ys.map V.int))
    (hl : xs.length = ys.length) (hn : xs.length ≤ 1000) (wx : RWd xs) (wy : RWd ys) (hw : ∀ x y, wipe (((wipe σ [i, j]).set i (some x)).set j (some y)) [i, j] = wipe σ [i, j]) (h1 : ∀ x y, (((wipe σ [i, j]).set i (some x)).set j (some y))[i]? = some (some x)) (h2 : ∀ x y, (((wipe σ [i, j]).set i (some x)).set j (some y))[j]? = some (some y))
    (k : ∀ H', Same H H' → Q (.int (dotZ xs ys)) H') :
    tCB (rSum K) (tCons (tLc (ZM.iZip2 t u K (tCons (tVar p) (tCons (tVar q) tNil))) (gTup K 2 (gCons (gName i) (gCons (gName j) gNil))) tYes (tOp (rI CMulW fun i j => V.int (i * j)) (tVar i) (tVar j)) [i, j]) tNil) σ H Q := by
  refine ⟨_, hp, _, hq, a, b, _, _, rfl, sa, sb, fun D hD => lc_rel (ZM.walk_two (n := xs.length) (by simp [hl])) hD (by omega) (fun m v _ => ∃ z, (List.zipWith (· * ·) xs ys)[m]? = some z ∧ v = .int z) (fun m v H H' h _ => h) (fun H1 e => ⟨SqK.same sa e, SqK.same sb e⟩) ?_ ?_⟩
  · rintro m v H1 H1' Fn Nn fin hm sm hacc ⟨T, x, y, rfl, hT, rfl, hx, hy⟩
    obtain ⟨x, gx, rfl⟩ := at_ints hx
    obtain ⟨y, gy, rfl⟩ := at_ints hy
    refine ⟨T, _, rfl, SqT.of upd_same, rfl, _, _, rfl, _, _, rfl, rfl, hw _ _, yesT ⟨_, h1 _ _, _, h2 _ _, x, y, rfl, rfl, wd_mul (wx _ (List.mem_of_getElem? gx)) (wy _ (List.mem_of_getElem? gy)), fin _ _ (same_upd hT) ⟨x * y, ?_, rfl⟩⟩⟩
    rw [List.getElem?_zipWith, gx, gy]
  · intro acc H1 e1 e2 sm hR
    have e : acc = (List.zipWith (· * ·) xs ys).map V.int := acc_map (by simp [e1, hl]) hR
    subst e
    exact ⟨D, _, rfl, SqL.of e2, k _ sm⟩
section
variable {P : Program} {w : World} {K : PySem.W.Frag} {mg : Str → Option Value} {base : Heap}
theorem ok_applied {f : Addr} {fd : FuncData} (F : Fun K "applied" "applied" s_applied f fd) (T : TxtM mg) : FnOk P w K mg base CX0 1 f fd ["modulus", "matrix", "row"] (spApplied K) := by
  refine F.ok sc_applied (fun vs H Q E h => ?_) (fun cdv A outer s H vs Q E hr h => ?_)
  · obtain ⟨M, a, b, A, r, rfl, _⟩ := h
    rfl
  · obtain ⟨M, a, b, Am, r, rfl, hM, ⟨vs, hA, hR⟩, hr2, wA, wr, lA, lr, lw, k⟩ := h
    refine ⟨_, (pss_one (ps_ret (pe_callTy (call_tupleK (K := K) rfl) rfl T.f_tuple (by decide +kernel) (pa_cons (pe_lc (own := [("line", 3)]) (g := gName 3) rfl sc_applied.nd (pi_tup (pv 1)) (blkOk_by (N := ["modulus", "matrix", "row", "line", "a", "b"]) (sc := defScope s_applied) (by decide +kernel)) (fun _ _ _ _ _ => (pg_name (i := 3) sc_applied.nd rfl (Or.inl rfl))) (fun _ _ _ _ _ => pts_nil) (fun _ _ _ _ _ => (pe_op op_modN (pe_callB (cr_sumK (K := K) rfl rfl) rfl T.f_sum (by decide +kernel) (pa_cons (pe_lc (own := [("a", 4), ("b", 5)]) (g := gTup K 2 (gCons (gName 4) (gCons (gName 5) gNil))) rfl sc_applied.nd (pi_zip2K (K := K) rfl true true rfl T.f_zip (pa_cons (pv 3) (pa_cons (pv 2) pa_nil))) (blkOk_by (N := ["modulus", "matrix", "row", "line", "a", "b"]) (sc := relS _ (defScope s_applied)) (by decide +kernel)) (fun _ _ _ _ _ => (pg_tupK rfl rfl (pgs_cons (pg_name (i := 4) sc_applied.nd rfl (Or.inl rfl)) (pgs_cons (pg_name (i := 5) sc_applied.nd rfl (Or.inl rfl)) pgs_nil)))) (fun _ _ _ _ _ => pts_nil) (fun _ _ _ _ _ => (pe_op op_mulW (pv 4) (pv 5)))) pa_nil)) (pv 0)))) pa_nil)))), ?_⟩
    have hlen := hR.length
    refine ⟨_, rfl, _, rfl, ⟨vs, hA⟩, fun D hD => lc_rel (walk_tup (xs := vs)) hD (by omega) (fun i v _ => ∃ l, Am[i]? = some l ∧ v = .int (dotZ l r % M)) (fun i v H H' h _ => h) (fun H1 e => SqT.same hA e) ?_ ?_⟩
    · intro i x H1 H1' Fn Nn fin hi sm hacc hy
      obtain ⟨rfl, hx⟩ := hy
      obtain ⟨p, l, rfl, hl, hp⟩ := rows_at hR hx
      refine ⟨rfl, yesT ?_⟩
      have hll : l.length = r.length := lw _ (List.mem_of_getElem? hl)
      refine dot_read rfl rfl (t := true) (u := true) (SqT.same hp sm) (SqT.same hr2 sm) hll (by omega) (wA _ (List.mem_of_getElem? hl)) wr (fun _ _ => rfl) (fun _ _ => rfl) (fun _ _ => rfl) fun H2 s2 => ?_
      refine ⟨_, rfl, _, _, rfl, rfl, by omega, ?_⟩
      dsimp only
      rw [Int.fmod_eq_emod_of_nonneg _ (by omega)]
      exact fin _ _ s2 ⟨l, hl, rfl⟩
    · intro acc H1 e1 e2 sm hR2
      have e : acc = Am.map fun l => V.int (dotZ l r % M) := acc_map (by rw [e1, hlen]) hR2
      refine ⟨D, acc, rfl, .inl ⟨SqL.of e2, fun p hp => ?_⟩⟩
      have hpH : H p = none := by
        cases z : H p with
        | none => rfl
        | some o => rw [sm _ _ z] at hp; cases hp
      refine k p _ (fun b o z => ?_) ?_
      · rw [upd_ne (ne_of_none z hpH)]
        exact sm _ _ z
      · rw [upd_same, e]
        simp [applyM, Function.comp_def]
end
end Wk

namespace Wk
open PySem L2
def NewMat (K : PySem.W.Frag) (H : Hp) (A : Mat) (Q : VK) : Prop := ∀ p H', Same H H' → MatAt K H' p A → Q (.ref p) H'
theorem none_back {H H' : Hp} {p : Addr} (e : Same H H') (h : H' p = none) : H p = none := by
  cases z : H p with
  | none => rfl
  | some o => rw [e _ _ z] at h; cases h
theorem same_trans {H H' H2 : Hp} (a : Same H H') (b : Same H' H2) : Same H H2 := fun c o e => b _ _ (a _ _ e)
theorem rows_refs {K : PySem.W.Frag} {H : Hp} : ∀ {vs : List V} {A : Mat}, RowsAre K H vs A → ∃ ls : List Addr, vs = ls.map V.ref ∧ ls.length = A.length ∧ ∀ (k : Nat) (l : Addr) (r : List Int), ls[k]? = some l → A[k]? = some r → RowAt K H l r
  | _, _, .nil => ⟨[], rfl, rfl, fun k l r e => by simp at e⟩
  | _, _, .cons (a := a) h t => by
    obtain ⟨ls, e, hl, hh⟩ := rows_refs t
    refine ⟨a :: ls, by rw [e]; rfl, by simp [hl], fun k l r e1 e2 => ?_⟩
    cases k with
    | zero => cases e1; cases e2; exact h
    | succ k => exact hh k l r (by simpa using e1) (by simpa using e2)
theorem rows_of {K : PySem.W.Frag} {H : Hp} : ∀ {vs : List V} {A : Mat}, vs.length = A.length → (∀ (k : Nat) (v : V) (r : List Int), vs[k]? = some v → A[k]? = some r → ∃ l, v = .ref l ∧ RowAt K H l r) → RowsAre K H vs A
  | [], [], _, _ => .nil
  | [], _ :: _, h, _ => by simp at h
  | _ :: _, [], h, _ => by simp at h
  | v :: vs, r :: A, h, hh => by
    obtain ⟨l, rfl, hl⟩ := hh 0 v r rfl rfl
    exact .cons hl (rows_of (by simpa using h) fun k v' r' e1 e2 => hh (k + 1) v' r' (by simpa using e1) (by simpa using e2))
def spTrn (K : PySem.W.Frag) : Sp := fun vs H Q _ => ∃ (a : Addr) (B : Mat) (n : Nat), vs = [.ref a] ∧ MatAt K H a B ∧ 1 ≤ B.length ∧ B.length ≤ 16 ∧ 1 ≤ n ∧ n ≤ 1000 ∧ (∀ r ∈ B, r.length = n) ∧ NewMat K H (colsOf n B) Q
def spUnit : Sp := fun vs H Q _ => ∃ s p : Nat, vs = [.int (s : Int), .int (p : Int)] ∧ p < s ∧ s ≤ 1000 ∧ NewRow H (unitRow s p) Q
def spIdm (K : PySem.W.Frag) : Sp := fun vs H Q _ => ∃ s : Nat, vs = [.int (s : Int)] ∧ s ≤ 1000 ∧ NewMat K H (idM s) Q
def spProd (K : PySem.W.Frag) : Sp := fun vs H Q _ => ∃ (M : Int) (a b : Addr) (A B : Mat) (n : Nat), vs = [.int M, .ref a, .ref b] ∧ 1 ≤ M ∧ MatAt K H a A ∧ MatAt K H b B ∧ MWd A ∧ MWd B ∧ 1 ≤ B.length ∧ B.length ≤ 16 ∧ 1 ≤ n ∧ n ≤ 1000 ∧ A.length ≤ 1000 ∧ (∀ r ∈ B, r.length = n) ∧ (∀ r ∈ A, r.length = B.length) ∧
  NewMat K H (prodM M n A B) Q
theorem cols_len {n : Nat} {B : Mat} {c : List Int} (h : c ∈ colsOf n B) : c.length = B.length := by
  obtain ⟨j, _, rfl⟩ := List.mem_map.mp h
  simp
theorem cols_wd {n : Nat} {B : Mat} (h : MWd B) : MWd (colsOf n B) := by
  intro c hc x hx
  obtain ⟨j, _, rfl⟩ := List.mem_map.mp hc
  obtain ⟨r, hr, rfl⟩ := List.mem_map.mp hx
  rw [List.getD_eq_getElem?_getD]
  cases e : r[j]? with
  | none => exact (by decide : (0 : Int).natAbs < 2 ^ 200)
  | some y => exact h r hr y (List.mem_of_getElem? e)
/-- tuple * int of a tuple that stands in H -/
theorem rep_read {K : PySem.W.Frag} {H : Hp} {Q : VK} {l : Addr} {x : V} {k : Int} (hl : H l = some (.tup [x])) (h0 : -1000 ≤ k) (h1 : k ≤ 1000) (tail : ∀ q G, Same H G → G q = some (.tup (List.replicate k.toNat x)) → Q (.ref q) G) : rRepA K (.ref l) (.int k) H Q := by
  have e : ∀ n : Nat, (List.replicate n [x]).flatten = List.replicate n x := fun n => by
    induction n with
    | zero => rfl
    | succ n ih => rw [List.replicate_succ, List.flatten_cons, ih]; rfl
  refine ⟨l, k, [x], rfl, rfl, SqT.of hl, by simp, by omega, h1, (by show 1 ≤ 1000; decide), fun z => ?_, fun _ p hp => ?_⟩
  · subst z
    exact tail l H (fun _ _ e => e) hl
  · exact tail p _ (same_upd hp) (by rw [upd_same, e])
theorem cat_read {K : PySem.W.Frag} {H : Hp} {Q : VK} {a b : Addr} {xs ys : List V} (ha : H a = some (.tup xs)) (hb : H b = some (.tup ys)) (hn : xs.length + ys.length ≤ 1000000) (tail : ∀ q G, Same H G → G q = some (.tup (xs ++ ys)) → Q (.ref q) G) : rCatA K (.ref a) (.ref b) H Q := by
  refine ⟨a, b, xs, ys, rfl, rfl, SqT.of ha, SqT.of hb, Nat.le_trans hn (by decide), fun z => ?_, fun _ z => ?_, fun _ _ p hp => ?_⟩
  · subst z
    exact tail b H (fun _ _ e => e) hb
  · subst z
    exact tail a H (fun _ _ e => e) (by rw [ha]; simp)
  · exact tail p _ (same_upd hp) upd_same
theorem unit_eq (s p : Nat) (h : p < s) : (List.replicate p (V.int 0) ++ [V.int 1]) ++ List.replicate (s - p - 1) (V.int 0) = (unitRow s p).map V.int := by
  apply List.ext_getElem
  · simp [unitRow]
    omega
  · intro i h1 h2
    simp only [List.length_append, List.length_replicate, List.length_cons, List.length_nil] at h1
    simp only [unitRow, List.getElem_map, List.getElem_range]
    rcases Nat.lt_trichotomy i p with hi | hi | hi
    · rw [if_neg (by omega), List.getElem_append_left (by simp; omega), List.getElem_append_left (by simpa using hi)]
      simp
    · subst hi
      rw [if_pos rfl, List.getElem_append_left (by simp), List.getElem_append_right (by simp)]
      simp
    · rw [if_neg (by omega), List.getElem_append_right (by simp; omega)]
      simp
/-- tuple(rows), rows a list of new tuples -/
theorem tup_read {K : PySem.W.Frag} {H H' : Hp} {D : Addr} {acc : List V} {A : Mat} {Q : VK} (hD : H' D = some (.lst acc)) (hR : RowsAre K H' acc A) (sm : Same H H') (k : NewMat K H A Q) : rTupOf K [.ref D] H' Q := by
  refine ⟨D, acc, rfl, .inl ⟨SqL.of hD, fun p hp => ?_⟩⟩
  exact k p _ (same_trans sm (same_upd (none_back sm hp |> fun _ => hp))) ⟨acc, SqT.of upd_same, hR.same (same_upd hp)⟩
/-- a comprehension whose items are new rows -/
theorem lc_rows {K : PySem.W.Frag} {J : It} {n : Nat} {G : Hp → Prop} {Y : Nat → Hp → V → Hp → Prop} (w : Walk J n G Y) {g : TG} {tt : TT} {te : TE} {vs : List Nat} {σ : L2.St} {H1 : Hp} {D : Addr} {Qd : Hp → Prop} (hD : H1 D = none) (hn : n ≤ 1000000)
    (A : Mat) (hA : A.length = n) (hG : ∀ H, Same H1 H → G H)
    (hs : ∀ (i : Nat) (r : List Int) (x : V) (H H' : Hp) (Fn : V → Hp → Prop) (Nn : Hp → Prop), i < n → A[i]? = some r → (∀ p H4, Same H H4 → H4 p = some (.tup (r.map V.int)) → Fn (.ref p) H4) → Same H1 H → Y i H x H' → g x (wipe σ vs) H' fun σ2 H2 => wipe σ2 vs = wipe σ vs ∧ tt σ2 H2 fun b H3 => if b = true then te σ2 H3 Fn else Nn H3)
    (hd : ∀ (acc : List V) H, H D = some (.lst acc) → Same H1 H → RowsAre K H acc A → Qd H) :
    ∃ W : Nat → Nat → Hp → Prop, (∃ m, W 0 m (upd H1 D (.lst []))) ∧ ∀ i m H, W i m H →
      (J.stop i H ∧ Qd H) ∨ (J.go i H ∧ ∃ Nx : Hp → Prop, (∀ H', Nx H' → ∃ m', m' < m ∧ W (i + 1) m' H') ∧ ∀ x H', J.yld i H x H' → g x (wipe σ vs) H' fun σ2 H2 => wipe σ2 vs = wipe σ vs ∧ tt σ2 H2 fun b H3 =>
        if b = true then te σ2 H3 fun y H4 => ∃ acc, H4 D = some (.lst acc) ∧ acc.length < sizeLine ∧ Nx (upd H4 D (.lst (acc ++ [y]))) else Nx H3) := by
  refine lc_rel w hD hn (fun i v H => ∃ (p : Addr) (r : List Int), v = .ref p ∧ p ≠ D ∧ A[i]? = some r ∧ H p = some (.tup (r.map V.int))) (fun i v H H' ⟨p, r, h1, h2, h3, h4⟩ e => ⟨p, r, h1, h2, h3, e _ _ h2 h4⟩) hG ?_ ?_
  · intro i x H H' Fn Nn fin hi sm ⟨acc, hacc⟩ hy
    have hr : A[i]? = some (A[i]'(by omega)) := List.getElem?_eq_getElem (by omega)
    refine hs i _ x H H' Fn Nn hi hr (fun p H4 s4 h4 => fin _ _ s4 ⟨p, _, rfl, fun z => ?_, hr, h4⟩) sm hy
    rw [z, s4 _ _ hacc] at h4
    cases h4
  · intro acc H e1 e2 sm hR
    refine hd acc H e2 sm (rows_of (by rw [e1, hA]) fun k v r h1 h2 => ?_)
    obtain ⟨p, r2, rfl, _, h3, h4⟩ := hR k v h1
    rw [h2] at h3
    cases h3
    exact ⟨p, rfl, SqT.of h4⟩
section
variable {P : Program} {w : World} {K : PySem.W.Frag} {mg : Str → Option Value} {base : Heap}
theorem ok_transposed {f : Addr} {fd : FuncData} (F : Fun K "transposed" "transposed" s_transposed f fd) (T : TxtM mg) : FnOk P w K mg base CX0 1 f fd ["matrix"] (spTrn K) := by
  refine F.ok sc_transposed (fun vs H Q E h => ?_) (fun cdv A outer s H vs Q E hr h => ?_)
  · obtain ⟨a, B, n, rfl, _⟩ := h
    rfl
  · obtain ⟨a, B, n, rfl, ⟨vs, hB, hR⟩, h1, h8, n1, n2, hw, k⟩ := h
    refine ⟨_, (pss_one (ps_ret (pe_trn rfl rfl T.f_tuple rfl T.f_zip (pv 0)))), ?_⟩
    obtain ⟨ls, rfl, hl, hh⟩ := rows_refs hR
    refine ⟨_, rfl, a, ls, B.map (fun r => r.map V.int), n, rfl, .inl hB, by simp [hl], by omega, by omega, n1, n2, fun i l r e1 e2 => ?_, fun as p H2 sm has hp hc => ?_⟩
    · rw [List.getElem?_map] at e2
      cases e : B[i]? with
      | none => rw [e] at e2; cases e2
      | some r0 =>
        rw [e] at e2
        cases e2
        exact ⟨hh i l r0 e1 e, by rw [List.length_map]; exact hw _ (List.mem_of_getElem? e)⟩
    · refine k p H2 sm ⟨as.map V.ref, SqT.of hp, rows_of (by simp [colsOf, has]) fun i v r e1 e2 => ?_⟩
      rw [List.getElem?_map] at e1
      cases ea : as[i]? with
      | none => rw [ea] at e1; cases e1
      | some b =>
        rw [ea] at e1
        cases e1
        have hi : i < n := by
          rw [← has]
          exact (List.getElem?_eq_some_iff.mp ea).1
        refine ⟨b, rfl, SqT.of ((hc i b ea).trans ?_)⟩
        have er : r = B.map fun r => r.getD i 0 := by
          simp only [colsOf, List.getElem?_map, List.getElem?_range hi, Option.map_some, Option.some.injEq] at e2
          exact e2.symm
        rw [er, List.map_map, List.map_map]
        congr 2
        refine List.map_congr_left fun q hq => ?_
        have hql := hw q hq
        have hq2 : i < q.length := by omega
        simp [List.getD_eq_getElem?_getD, List.getElem?_eq_getElem hq2]
theorem ok_unit {f : Addr} {fd : FuncData} (F : Fun K "unit" "unit" s_unit f fd) : FnOk P w K mg base CX0 1 f fd ["size", "place"] spUnit := by
  refine F.ok sc_unit (fun vs H Q E h => ?_) (fun cdv A outer s H vs Q E hr h => ?_)
  · obtain ⟨s, p, rfl, _⟩ := h
    rfl
  · obtain ⟨s, p, rfl, hp, hs, k⟩ := h
    refine ⟨_, (pss_one (ps_ret (pe_op (op_catAK (K := K) rfl) (pe_op (op_catAK (K := K) rfl) (pe_op (op_repAK (K := K) rfl) (pe_tup (pa_cons pe_int pa_nil)) (pv 1)) (pe_tup (pa_cons pe_int pa_nil))) (pe_op (op_repAK (K := K) rfl) (pe_tup (pa_cons pe_int pa_nil)) (pe_op op_sub (pe_op op_sub (pv 0) (pv 1)) pe_int))))), ?_⟩
    refine ⟨by decide, fun t1 n1 => ⟨_, rfl, rep_read upd_same (by omega) (by omega) fun q1 G1 s1 g1 => ⟨by decide, fun t2 n2 => cat_read (xs := List.replicate p (V.int 0)) (by rw [upd_ne (ne_of_none g1 n2)]; exact g1) upd_same ?_ fun q2 G2 s2 g2 => ?_⟩⟩⟩
    · simp
      omega
    · refine ⟨by decide, fun t3 n3 => ⟨_, rfl, _, rfl, _, _, rfl, rfl, _, _, rfl, rfl, ?_⟩⟩
      refine rep_read (k := (s : Int) - p - 1) upd_same (by omega) (by omega) fun q3 G3 s3 g3 => cat_read (s3 _ _ (by rw [upd_ne (ne_of_none g2 n3)]; exact g2)) g3 ?_ fun q4 G4 s4 g4 => ?_
      · simp
        omega
      · refine k q4 G4 (same_trans (same_upd n1) (same_trans s1 (same_trans (same_upd n2) (same_trans s2 (same_trans (same_upd n3) (same_trans s3 s4)))))) ?_
        rw [g4, ← unit_eq s p hp, show ((s : Int) - p - 1).toNat = s - p - 1 by omega]
theorem ok_product {f fT fA : Addr} {fd fdT fdA : FuncData} (F : Fun K "product" "product" s_product f fd) (T : TxtM mg) (G_transposed : FnOk P w K mg base CX0 1 fT fdT ["matrix"] (spTrn K)) (g_transposed : mg "transposed" = some (.ref fT)) (kp_transposed : PySem.W.keepIn K (.ref fT) = true)
    (b_transposed : Binds K fdT ["matrix"] []) (G_applied : FnOk P w K mg base CX0 1 fA fdA ["modulus", "matrix", "row"] (spApplied K)) (g_applied : mg "applied" = some (.ref fA)) (kp_applied : PySem.W.keepIn K (.ref fA) = true)
    (b_applied : Binds K fdA ["modulus", "matrix", "row"] []) : FnOk P w K mg base CX0 2 f fd ["modulus", "one", "other"] (spProd K) := by
  refine F.ok sc_product (fun vs H Q E h => ?_) (fun cdv A outer s H vs Q E hr h => ?_)
  · obtain ⟨M, a, b, A, B, n, rfl, _⟩ := h
    rfl
  · obtain ⟨M, a, b, Am, B, n, rfl, hM, hA, hB, wA, wB, h1, h8, n1, n2, lA, hwB, hwA, k⟩ := h
    refine ⟨_, (pss_cons (ps_set (i := 3) sc_product.nd rfl (Or.inr rfl) (pe_call G_transposed (hr.mono (by decide)) rfl g_transposed kp_transposed b_transposed .nil pass0 (pa_cons (pv 2) pa_nil)))
        (pss_one (ps_ret (pe_callTy (call_tupleK (K := K) rfl) rfl T.f_tuple (by decide +kernel) (pa_cons (pe_lc (own := [("row", 4)]) (g := gName 4) rfl sc_product.nd (pi_tup (pv 1)) (blkOk_by (N := ["modulus", "one", "other", "columns", "row"]) (sc := defScope s_product) (by decide +kernel)) (fun _ _ _ _ _ => (pg_name (i := 4) sc_product.nd rfl (Or.inl rfl))) (fun _ _ _ _ _ => pts_nil) (fun _ _ _ _ _ => (pe_call G_applied (hr.mono (by decide)) rfl g_applied kp_applied b_applied .nil pass0 (pa_cons (pv 0) (pa_cons (pv 3) (pa_cons (pv 4) pa_nil)))))) pa_nil))))), ?_⟩
    refine ⟨_, rfl, b, B, n, rfl, hB, h1, h8, n1, n2, hwB, fun p H2 s2 hC => ?_⟩
    obtain ⟨vs, hv, hR⟩ := hA
    have hlen := hR.length
    refine ⟨_, rfl, _, rfl, ⟨vs, SqT.same hv s2⟩, fun D hD => lc_rows (K := K) (walk_tup (xs := vs)) hD (by omega) (prodM M n Am B) (by simp [prodM, hlen]) (fun H3 e => SqT.same hv (same_trans s2 e)) ?_ fun acc H3 e3 s3 hR3 => tup_read e3 hR3 (same_trans s2 s3) k⟩
    intro i r x H3 H3' Fn Nn hi hr3 fin sm hy
    obtain ⟨rfl, hx⟩ := hy
    obtain ⟨q, l, rfl, hl, hq⟩ := rows_at hR hx
    have er : r = applyM M (colsOf n B) l := by
      simp only [prodM, List.getElem?_map, hl, Option.map_some, Option.some.injEq] at hr3
      exact hr3.symm
    have hlm := List.mem_of_getElem? hl
    refine ⟨rfl, yesT ⟨_, rfl, _, rfl, _, rfl, M, p, q, colsOf n B, l, rfl, hM, hC.same sm, SqT.same hq (same_trans s2 sm), ?_, wA _ hlm, by simp [colsOf]; omega, by rw [hwA _ hlm]; omega, ?_, fun p2 H4 s4 h4 => fin p2 H4 s4 (by rw [er]; exact h4)⟩⟩
    · exact cols_wd wB
    · intro c hc
      rw [hwA _ hlm]
      exact cols_len hc
end
end Wk

namespace NumI
/-- while rest != 0 (of inverse): N modulo M -/
structure EInv (N M last rest lf f : Int) : Prop where
  hl : 1 ≤ last
  hr : 0 ≤ rest
  gcd : Int.gcd last rest = Int.gcd N M
  cl : ∃ k, lf * N = last + M * k
  cf : ∃ k, f * N = rest + M * k
  sg : (0 ≤ lf ∧ f ≤ 0) ∨ (lf ≤ 0 ∧ 0 ≤ f)
  sz : (lf.natAbs : Int) * rest + (f.natAbs : Int) * last = M
theorem EInv.start {N M : Int} (h : 2 ≤ M) : EInv N M M (N % M) 0 1 := by
  refine ⟨by omega, Int.emod_nonneg _ (by omega), ?_, ⟨-1, by grind⟩, ⟨N / M, ?_⟩, .inr ⟨by omega, by omega⟩, by simp⟩
  · have e : N % M = N - (N / M) * M := by
      have := Int.emod_add_ediv_mul N M
      omega
    rw [e, Int.gcd_sub_mul_right_right, Int.gcd_comm]
  · have := Int.emod_add_mul_ediv N M
    omega
theorem EInv.f_le {N M last rest lf f : Int} (h : EInv N M last rest lf f) : (f.natAbs : Int) ≤ M ∧ last ≤ M ∨ f = 0 := by
  have h1 : 0 ≤ (lf.natAbs : Int) * rest := Int.mul_nonneg (by omega) h.hr
  have h2 := h.sz
  have h3 := h.hl
  by_cases e : f = 0
  · exact .inr e
  · refine .inl ⟨?_, ?_⟩
    · have : (f.natAbs : Int) * 1 ≤ (f.natAbs : Int) * last := Int.mul_le_mul_of_nonneg_left h3 (by omega)
      omega
    · have : 1 * last ≤ (f.natAbs : Int) * last := Int.mul_le_mul_of_nonneg_right (by omega) (by omega)
      omega
/-- the step of times -/
theorem EInv.step {N M last rest lf f : Int} (h : EInv N M last rest lf f) (h0 : rest ≠ 0) :
    EInv N M rest (last - last / rest * rest) f (lf - last / rest * f) ∧ last - last / rest * rest < rest ∧ 0 ≤ last - last / rest * rest ∧ 0 ≤ last / rest ∧ last / rest ≤ last := by
  have hr := h.hr
  have hl := h.hl
  have ht : 0 ≤ last / rest := Int.ediv_nonneg (by omega) hr
  have e : last - last / rest * rest = last % rest := by
    have := Int.emod_add_ediv_mul last rest
    omega
  have hlt : last % rest < rest := Int.emod_lt_of_pos _ (by omega)
  have hge : 0 ≤ last % rest := Int.emod_nonneg _ (by omega)
  have htl : last / rest ≤ last := Int.ediv_le_self _ (by omega)
  have hsz := h.sz
  obtain ⟨k1, c1⟩ := h.cl
  obtain ⟨k2, c2⟩ := h.cf
  have hsg := h.sg
  have hg := h.gcd
  have e2 := e
  generalize last / rest = t at *
  have key : ((lf - t * f).natAbs : Int) = lf.natAbs + t * f.natAbs := by
    rcases hsg with ⟨a, b⟩ | ⟨a, b⟩
    · have : t * f ≤ 0 := Int.mul_nonpos_of_nonneg_of_nonpos ht b
      have e1 : ((lf - t * f).natAbs : Int) = lf - t * f := by omega
      have e2 : (lf.natAbs : Int) = lf := by omega
      have e3 : (f.natAbs : Int) = - f := by omega
      rw [e1, e2, e3]; grind
    · have : 0 ≤ t * f := Int.mul_nonneg ht b
      have e1 : ((lf - t * f).natAbs : Int) = - (lf - t * f) := by omega
      have e2 : (lf.natAbs : Int) = - lf := by omega
      have e3 : (f.natAbs : Int) = f := by omega
      rw [e1, e2, e3]; grind
  refine ⟨⟨by omega, by omega, ?_, ⟨k2, c2⟩, ⟨k1 - t * k2, by grind⟩, ?_, ?_⟩, by omega, by omega, ht, htl⟩
  · rw [Int.gcd_sub_mul_right_right, Int.gcd_comm, hg]
  · rcases hsg with ⟨a, b⟩ | ⟨a, b⟩
    · have : t * f ≤ 0 := Int.mul_nonpos_of_nonneg_of_nonpos ht b
      exact .inr ⟨b, by omega⟩
    · have : 0 ≤ t * f := Int.mul_nonneg ht b
      exact .inl ⟨b, by omega⟩
  · rw [key]; grind
/-- what is handed back -/
structure InvOf (N M x : Int) : Prop where
  lo : 1 ≤ x
  hi : x < M
  one : x * N % M = 1
theorem EInv.done1 {N M last lf f : Int} (hM : 2 ≤ M) (h : EInv N M last 0 lf f) (h1 : last = 1) : Int.gcd N M = 1 ∧ InvOf N M (lf % M) := by
  have hg := h.gcd
  subst h1
  obtain ⟨k, c⟩ := h.cl
  have ho : lf % M * N % M = 1 := by
    have e : lf % M = lf - M * (lf / M) := by
      have := Int.emod_add_mul_ediv lf M
      omega
    have e2 : lf % M * N = 1 + M * (k - lf / M * N) := by rw [e]; grind
    rw [e2, Int.add_mul_emod_self_left]
    exact Int.emod_eq_of_lt (by omega) (by omega)
  refine ⟨by rw [← hg]; simp, ?_, Int.emod_lt_of_pos _ (by omega), ho⟩
  have h0 := Int.emod_nonneg lf (show M ≠ 0 by omega)
  by_cases z : lf % M = 0
  · rw [z] at ho
    simp at ho
  · omega
theorem EInv.done2 {N M last lf f : Int} (h : EInv N M last 0 lf f) (h1 : last ≠ 1) : Int.gcd N M ≠ 1 := by
  have hg := h.gcd
  have := h.hl
  rw [← hg]
  simp
  omega
end NumI

namespace Wk
open PySem L2 NumI
abbrev s_bezout : Stmt := top 15
theorem sc_bezout : FnScope ["one", "other", "last", "rest", "last_factor", "factor", "times"] ["one", "other"] (defScope s_bezout) := ⟨rfl, rfl, rfl, by decide +kernel, rfl, by decide +kernel, by decide +kernel⟩
abbrev s_multiple : Stmt := top 16
theorem sc_multiple : FnScope ["modulus", "factor", "row", "number"] ["modulus", "factor", "row"] (defScope s_multiple) := ⟨rfl, rfl, rfl, by decide +kernel, rfl, by decide +kernel, by decide +kernel⟩
abbrev s_combined : Stmt := top 17
theorem sc_combined : FnScope ["modulus", "factor", "row", "other_factor", "other", "a", "b"] ["modulus", "factor", "row", "other_factor", "other"] (defScope s_combined) := ⟨rfl, rfl, rfl, by decide +kernel, rfl, by decide +kernel, by decide +kernel⟩
abbrev s_Stairs_init : Stmt := inClass (top 18) 0
theorem sc_Stairs_init : FnScope ["self", "modulus", "places"] ["self", "modulus", "places"] (defScope s_Stairs_init) := ⟨rfl, rfl, rfl, by decide +kernel, rfl, by decide +kernel, by decide +kernel⟩
abbrev s_Stairs_put : Stmt := inClass (top 18) 1
theorem sc_Stairs_put : FnScope ["self", "row", "place"] ["self", "row"] (defScope s_Stairs_put) := ⟨rfl, rfl, rfl, by decide +kernel, rfl, by decide +kernel, by decide +kernel⟩
abbrev s_Stairs_put_at : Stmt := inClass (top 18) 2
theorem sc_Stairs_put_at : FnScope ["self", "place", "row", "modulus", "step", "number", "common", "_", "factor", "pivot", "step_factor"] ["self", "place", "row"] (defScope s_Stairs_put_at) := ⟨rfl, rfl, rfl, by decide +kernel, rfl, by decide +kernel, by decide +kernel⟩
abbrev s_Stairs_settled : Stmt := inClass (top 18) 4
theorem sc_Stairs_settled : FnScope ["self", "lessened", "place", "row", "lower", "step", "_"] ["self"] (defScope s_Stairs_settled) := ⟨rfl, rfl, rfl, by decide +kernel, rfl, by decide +kernel, by decide +kernel⟩
abbrev s_Stairs_rest_of : Stmt := inClass (top 18) 3
theorem sc_Stairs_rest_of : FnScope ["self", "row"] ["self", "row"] (defScope s_Stairs_rest_of) := ⟨rfl, rfl, rfl, by decide +kernel, rfl, by decide +kernel, by decide +kernel⟩

def spBez : Sp := fun vs H Q _ => ∃ a b : Int, vs = [.int a, .int b] ∧ 1 ≤ a ∧ 1 ≤ b ∧ a < 2 ^ 64 ∧ b < 2 ^ 64 ∧
  ∀ (g lf f : Int) (t : Addr) (H' : Hp), (g = (Int.gcd a b : Int)) → 1 ≤ g → lf * a + f * b = g → Wd lf → Wd f → Same H H' → H' t = some (.tup [.int g, .int lf, .int f]) → Q (.ref t) H'
def NewLst (H : Hp) (r : List Int) (Q : VK) : Prop := ∀ p H', Same H H' → H p = none → H' p = some (.lst (r.map V.int)) → Q (.ref p) H'
def spMul (K : PySem.W.Frag) : Sp := fun vs H Q _ => ∃ (M f : Int) (b : Addr) (r : List Int), vs = [.int M, .int f, .ref b] ∧ 1 ≤ M ∧ Wd f ∧ H b = some (.lst (r.map V.int)) ∧ RWd r ∧ r.length ≤ 1000 ∧ NewLst H (mulRow M f r) Q
def spComb (K : PySem.W.Frag) : Sp := fun vs H Q _ => ∃ (M f g : Int) (b c : Addr) (r s : List Int), vs = [.int M, .int f, .ref b, .int g, .ref c] ∧ 1 ≤ M ∧ Wd f ∧ Wd g ∧ H b = some (.lst (r.map V.int)) ∧ H c = some (.lst (s.map V.int)) ∧ RWd r ∧ RWd s ∧ r.length = s.length ∧ r.length ≤ 1000 ∧ NewLst H (comb M f r g s) Q
def mu3s (σ : L2.St) : Nat := match σ[3]? with
  | some (some (V.int y)) => y.toNat
  | _ => 0
theorem bez_last {a b last lf f : Int} (I : EInv a b last 0 lf f) (ha : 1 ≤ a) (hb : 1 ≤ b) (h1 : (lf.natAbs : Int) ≤ b) : lf * a + (last - lf * a) / b * b = last ∧ (((last - lf * a) / b).natAbs : Int) ≤ 2 * a := by
  obtain ⟨k, hk⟩ := I.cl
  have hg := I.gcd
  have hl := I.hl
  have e1 : last - lf * a = b * (-k) := by grind
  have e2 : (last - lf * a) / b = -k := by
    rw [e1]
    exact Int.mul_ediv_cancel_left _ (by omega)
  rw [e2]
  refine ⟨by grind, ?_⟩
  have hla : last ≤ a := by
    have h2 : Int.gcd last 0 = last.natAbs := Int.gcd_zero_right _
    have h3 : Int.gcd a b ≤ a.natAbs := Nat.gcd_le_left _ (by omega)
    omega
  have h4 : b * (k.natAbs : Int) ≤ last + b * a := by
    have h5 : ((b * (-k)).natAbs : Int) = b * (k.natAbs : Int) := by
      rw [Int.natAbs_mul, Int.natAbs_neg]
      have : (b.natAbs : Int) = b := by omega
      rw [Int.natCast_mul, this]
    rw [← h5, ← e1]
    have h6 : ((lf * a).natAbs : Int) ≤ b * a := by
      rw [Int.natAbs_mul, Int.natCast_mul]
      have : (a.natAbs : Int) = a := by omega
      rw [this]
      exact Int.mul_le_mul_of_nonneg_right h1 (by omega)
    omega
  rw [Int.natAbs_neg]
  have h7 : last ≤ b * last := by
    have : 1 * last ≤ b * last := Int.mul_le_mul_of_nonneg_right hb (by omega)
    omega
  have h8 : b * (k.natAbs : Int) ≤ b * (last + a) := by
    rw [Int.mul_add]
    omega
  have h9 : (k.natAbs : Int) ≤ last + a := Int.le_of_mul_le_mul_left h8 (by omega)
  omega
section
variable {P : Program} {w : World} {K : PySem.W.Frag} {mg : Str → Option Value} {base : Heap}
theorem ok_bezout {f : Addr} {fd : FuncData} (F : Fun K "bezout" "bezout" s_bezout f fd) : FnOk P w K mg base CX0 1 f fd ["one", "other"] spBez := by
  refine F.ok sc_bezout (fun vs H Q E h => ?_) (fun cdv A outer s H vs Q E hr h => ?_)
  · obtain ⟨a, b, rfl, _⟩ := h
    rfl
  · obtain ⟨n, m, rfl, hn, hm, zn, zm, k⟩ := h
    refine ⟨_, (pss_cons (ps_par (i := 2) (j := 3) rfl sc_bezout.nd rfl rfl (by decide) rfl rfl (pa_cons (pv 0) (pa_cons (pv 1) pa_nil)) (by rfl))
        (pss_cons (ps_asg (pe_tup (pa_cons pe_int (pa_cons pe_int pa_nil))) (pg_tup rfl (pgs_cons (pg_name (i := 4) sc_bezout.nd rfl (Or.inl rfl)) (pgs_cons (pg_name (i := 5) sc_bezout.nd rfl (Or.inl rfl)) pgs_nil))))
        (pss_cons (ps_while PassesOwn.never (pt_cmpR op_ne (pv 3) pe_int (nomark _)) (pss_cons (ps_set (i := 6) sc_bezout.nd rfl (Or.inl rfl) (pe_op op_fdivW (pv 2) (pv 3)))
        (pss_cons (ps_par (i := 2) (j := 3) rfl sc_bezout.nd rfl rfl (by decide) rfl rfl (pa_cons (pv 3) (pa_cons (pe_op op_sub (pv 2) (pe_op op_mulW (pv 6) (pv 3))) pa_nil)) (by rfl))
        (pss_one (ps_par (i := 4) (j := 5) rfl sc_bezout.nd rfl rfl (by decide) rfl rfl (pa_cons (pv 5) (pa_cons (pe_op op_sub (pv 4) (pe_op op_mulW (pv 6) (pv 5))) pa_nil)) (by rfl))))))
        (pss_one (ps_ret (pe_tup (pa_cons (pv 2) (pa_cons (pv 4) (pa_cons (pe_op op_fdivW (pe_op op_sub (pv 2) (pe_op op_mulW (pv 4) (pv 0))) (pv 1)) pa_nil))))))))), ?_⟩
    have sm : ∀ {x : Int}, (x.natAbs : Int) ≤ 2 * m → x.natAbs < 2 ^ 200 := fun h => by omega
    have sn : ∀ {x : Int}, (x.natAbs : Int) ≤ 2 * n → x.natAbs < 2 ^ 200 := fun h => by omega
    have wm : ∀ {x y : Int}, x.natAbs < 2 ^ 200 → y.natAbs < 2 ^ 200 → CMulW x y := fun a b => wide_mul a b (by decide) (by decide) (by decide)
    refine ⟨_, rfl, _, rfl, _, _, rfl, (by show 2 ≤ sizeLine; decide), fun t ht => ⟨t, _, rfl, SqT.of upd_same, rfl, _, _, rfl, _, _, rfl, rfl, ?_⟩⟩
    have sH : Same H (upd H t (.tup [.int 1, .int 0])) := same_upd ht
    obtain ⟨G, hG⟩ : ∃ G, G = upd H t (.tup [.int 1, .int 0]) := ⟨_, rfl⟩
    rw [← hG] at sH ⊢
    refine while_by (fun σ H' => ∃ (l r lf f : Int) (t : Option V), σ = [some (.int n), some (.int m), some (.int l), some (.int r), some (.int lf), some (.int f), t] ∧ H' = G ∧ EInv n m l r lf f ∧ (lf.natAbs : Int) ≤ m ∧ (f.natAbs : Int) ≤ m ∧ l ≤ n + m ∧ r ≤ n + m)
      (fun σ _ => mu3s σ) ?_ ?_ (fun σ H Q Q' hq ⟨v, hv, sc, k, e, q⟩ => ⟨v, hv, sc, k, e, hq _ _ q⟩)
    · refine ⟨n, m, 1, 0, none, rfl, rfl, ⟨hn, by omega, rfl, ⟨0, by omega⟩, ⟨-1, by omega⟩, .inl ⟨by omega, by omega⟩, by simp⟩, by show ((1 : Int).natAbs : Int) ≤ m; simp; omega, by show ((0 : Int).natAbs : Int) ≤ m; simp; omega, by omega, by omega⟩
    · rintro σ H' ⟨l, r, lf, f, t2, rfl, rfl, I, b1, b2, b3, b4⟩
      have hl := I.hl
      have hr0 := I.hr
      refine ⟨_, rfl, rfl, _, rfl, ?_⟩
      by_cases hz : r = 0
      · subst hz
        refine iteNS rfl ?_
        obtain ⟨z1, z2⟩ := bez_last I hn hm b1
        refine ⟨_, rfl, _, rfl, _, rfl, _, rfl, _, rfl, _, _, rfl, rfl, wm (sm (by omega)) (sn (by omega)), _, _, rfl, rfl, _, rfl, _, _, rfl, rfl, wide_div (b := 200) (by omega) (sm (by omega)) (by decide) (by decide), (by show 3 ≤ sizeLine; decide), fun p hp => ?_⟩
        refine k l lf _ p _ ?_ hl z1 (sm (by omega)) (sn z2) (same_trans sH (same_upd hp)) upd_same
        have := I.gcd
        rw [← this, Int.gcd_zero_right]
        omega
      · have e3 : (!decide (V.int r = V.int 0)) = true := by
          have : ¬ V.int r = V.int 0 := fun z => hz (by injection z)
          simp [this]
        rw [e3]
        refine iteT ?_
        obtain ⟨I2, c1, c2, c3, c4⟩ := I.step hz
        have g3 := I2.f_le
        have g4 : ((lf - l / r * f).natAbs : Int) ≤ m := by
          rcases g3 with g3 | g3
          · exact g3.1
          · rw [g3]
            simp
            omega
        have b5 : r.natAbs < 2 ^ 200 := by omega
        refine ⟨_, rfl, _, rfl, _, _, rfl, rfl, wide_div (b := 200) (by omega) b5 (by decide) (by decide), ?_⟩
        refine ⟨_, rfl, _, rfl, _, rfl, _, rfl, _, _, rfl, rfl, wm (by omega) b5, _, _, rfl, rfl, _, _, rfl, ?_⟩
        refine ⟨_, rfl, _, rfl, _, rfl, _, rfl, _, _, rfl, rfl, wm (by omega) (sm (by omega)), _, _, rfl, rfl, _, _, rfl, ?_⟩
        refine ⟨⟨r, l - l / r * r, f, lf - l / r * f, _, rfl, rfl, I2, b2, g4, b4, by omega⟩, ?_⟩
        show (l - l / r * r).toNat < r.toNat
        omega
theorem ok_multiple {f : Addr} {fd : FuncData} (F : Fun K "multiple" "multiple" s_multiple f fd) : FnOk P w K mg base CX0 1 f fd ["modulus", "factor", "row"] (spMul K) := by
  refine F.ok sc_multiple (fun vs H Q E h => ?_) (fun cdv A outer s H vs Q E hr h => ?_)
  · obtain ⟨M, f, b, r, rfl, _⟩ := h
    rfl
  · obtain ⟨M, f, b, r, rfl, hM, wf, hb, wr, lr, k⟩ := h
    refine ⟨_, (pss_one (ps_ret (pe_lc (own := [("number", 3)]) (g := gName 3) rfl sc_multiple.nd (pi_list (pv 2)) (blkOk_by (N := ["modulus", "factor", "row", "number"]) (sc := defScope s_multiple) (by decide +kernel)) (fun _ _ _ _ _ => (pg_name (i := 3) sc_multiple.nd rfl (Or.inl rfl))) (fun _ _ _ _ _ => pts_nil) (fun _ _ _ _ _ => (pe_op op_modN (pe_op op_mulW (pv 1) (pv 3)) (pv 0)))))), ?_⟩
    refine ⟨_, rfl, b, rfl, ⟨_, SqL.of hb⟩, fun D hD => lc_rel (walk_list (xs := r.map V.int)) hD (by simp; omega) (fun i v _ => ∃ x, r[i]? = some x ∧ v = .int (f * x % M)) (fun i v H H' h _ => h) (fun H1 e => SqL.of (e _ _ hb)) ?_ ?_⟩
    · intro i x H1 H1' Fn Nn fin hi sm hacc hy
      obtain ⟨rfl, hx⟩ := hy
      obtain ⟨x, gx, rfl⟩ := at_ints hx
      refine ⟨rfl, yesT ⟨_, rfl, _, rfl, _, _, rfl, rfl, wd_mul wf (wr _ (List.mem_of_getElem? gx)), _, rfl, _, _, rfl, rfl, by omega, ?_⟩⟩
      dsimp only
      rw [Int.fmod_eq_emod_of_nonneg _ (by omega)]
      exact fin _ _ (fun _ _ e => e) ⟨x, gx, rfl⟩
    · intro acc H1 e1 e2 sm hR
      have e : acc = r.map fun x => V.int (f * x % M) := acc_map (by simpa using e1) hR
      refine k D H1 sm hD ?_
      rw [e2, e]
      simp [mulRow, Function.comp_def]
theorem ok_combined {f : Addr} {fd : FuncData} (F : Fun K "combined" "combined" s_combined f fd) (T : TxtM mg) : FnOk P w K mg base CX0 1 f fd ["modulus", "factor", "row", "other_factor", "other"] (spComb K) := by
  refine F.ok sc_combined (fun vs H Q E h => ?_) (fun cdv A outer s H vs Q E hr h => ?_)
  · obtain ⟨M, f, g, b, c, r, s, rfl, _⟩ := h
    rfl
  · obtain ⟨M, f, g, b, c, r, s2, rfl, hM, wf, wg, hb, hc, wr, ws, ll, lr, k⟩ := h
    refine ⟨_, (pss_one (ps_ret (pe_lc (own := [("a", 5), ("b", 6)]) (g := gTup K 2 (gCons (gName 5) (gCons (gName 6) gNil))) rfl sc_combined.nd (pi_zip2K (K := K) rfl false false rfl T.f_zip (pa_cons (pv 2) (pa_cons (pv 4) pa_nil))) (blkOk_by (N := ["modulus", "factor", "row", "other_factor", "other", "a", "b"]) (sc := defScope s_combined) (by decide +kernel)) (fun _ _ _ _ _ => (pg_tupK rfl rfl (pgs_cons (pg_name (i := 5) sc_combined.nd rfl (Or.inl rfl)) (pgs_cons (pg_name (i := 6) sc_combined.nd rfl (Or.inl rfl)) pgs_nil)))) (fun _ _ _ _ _ => pts_nil) (fun _ _ _ _ _ => (pe_op op_modN (pe_op op_add (pe_op op_mulW (pv 1) (pv 5)) (pe_op op_mulW (pv 3) (pv 6))) (pv 0)))))), ?_⟩
    refine ⟨_, rfl, _, rfl, b, c, _, _, rfl, SqL.of hb, SqL.of hc, fun D hD => lc_rel (ZM.walk_two (n := r.length) (by simp [ll])) hD (by omega) (fun i v _ => ∃ z, (List.zipWith (fun a b => (f * a + g * b) % M) r s2)[i]? = some z ∧ v = .int z) (fun i v H H' h _ => h) (fun H1 e => ⟨SqL.of (e _ _ hb), SqL.of (e _ _ hc)⟩) ?_ ?_⟩
    · rintro i v H1 H1' Fn Nn fin hi sm hacc ⟨T, x, y, rfl, hT, rfl, hx, hy⟩
      obtain ⟨x, gx, rfl⟩ := at_ints hx
      obtain ⟨y, gy, rfl⟩ := at_ints hy
      refine ⟨T, _, rfl, SqT.of upd_same, rfl, _, _, rfl, _, _, rfl, rfl, rfl, yesT ⟨_, rfl, _, rfl, _, _, rfl, rfl, wd_mul wf (wr _ (List.mem_of_getElem? gx)), _, rfl, _, rfl, _, _, rfl, rfl, wd_mul wg (ws _ (List.mem_of_getElem? gy)), _, _, rfl, rfl, _, rfl, _, _, rfl, rfl, by omega, ?_⟩⟩
      dsimp only
      rw [Int.fmod_eq_emod_of_nonneg _ (by omega)]
      refine fin _ _ (same_upd hT) ⟨_, ?_, rfl⟩
      rw [List.getElem?_zipWith, gx, gy]
    · intro acc H1 e1 e2 sm hR
      have e : acc = (comb M f r g s2).map V.int := acc_map (by simp [comb, e1, ll]) hR
      exact k D H1 sm hD (by rw [e2, e])
end
end Wk

namespace Wk
open PySem L2 NumI
/-! ### the stairs as an object -/
theorem kms : ¬ (Str.ofString "modulus" = Str.ofString "steps") := by decide +kernel
def flS (M : Int) (l : Addr) : List (Str × V) := putF "steps" (.ref l) (putF "modulus" (.int M) [])
theorem flS_m (M : Int) (l : Addr) : (flS M l).lookup ("modulus" : Str) = some (V.int M) := by
  unfold flS
  rw [lookup_putF, if_neg kms, lookup_putF, if_pos rfl]
theorem flS_s (M : Int) (l : Addr) : (flS M l).lookup ("steps" : Str) = some (V.ref l) := by
  unfold flS
  rw [lookup_putF, if_pos rfl]
theorem flS_no (M : Int) (l : Addr) {m : Str} (h1 : ¬ m = "modulus") (h2 : ¬ m = "steps") : (flS M l).lookup m = none := by
  unfold flS
  rw [lookup_putF, if_neg h2, lookup_putF, if_neg h1]
  rfl
structure TxtS (K : PySem.W.Frag) (mg : Str → Option Value) (C fI fP fA fS : Addr) : Prop where
  cl : Cls K C
  nM : NoAttr K C "modulus"
  nS : NoAttr K C "steps"
  mgC : mg "Stairs" = some (.ref C)
  mkr : Mk K C fI
  m_put : Meth K C "put" fP
  m_put_at : Meth K C "put_at" fA
  m_settled : Meth K C "settled" fS
  f_tuple : mg "tuple" = none
  f_range : mg "range" = none
  f_len : mg "len" = none
  f_reversed : mg "reversed" = none
  f_list : mg "list" = none
  f_enumerate : mg "enumerate" = none
/-- the steps' list holds None or a list of ints at each place -/
inductive StepsAre (l : Addr) (H : Hp) : List V → List (Option Row) → Prop
  | nil : StepsAre l H [] []
  | no {vs : List V} {S : List (Option Row)} : StepsAre l H vs S → StepsAre l H (.non :: vs) (none :: S)
  | yes {a : Addr} {r : Row} {vs : List V} {S : List (Option Row)} : a ≠ l → H a = some (.lst (r.map V.int)) → StepsAre l H vs S → StepsAre l H (.ref a :: vs) (some r :: S)
theorem StepsAre.length {l : Addr} {H : Hp} : ∀ {vs : List V} {S : List (Option Row)}, StepsAre l H vs S → vs.length = S.length
  | _, _, .nil => rfl
  | _, _, .no h => by simp [h.length]
  | _, _, .yes _ _ h => by simp [h.length]
theorem StepsAre.mono {l : Addr} {H H' : Hp} (e : But l H H') : ∀ {vs : List V} {S : List (Option Row)}, StepsAre l H vs S → StepsAre l H' vs S
  | _, _, .nil => .nil
  | _, _, .no h => .no (h.mono e)
  | _, _, .yes a b h => .yes a (e _ _ a b) (h.mono e)
theorem StepsAre.at_ {l : Addr} {H : Hp} : ∀ {vs : List V} {S : List (Option Row)}, StepsAre l H vs S → ∀ {i : Nat} {o : Option Row}, S[i]? = some o → (o = none ∧ vs[i]? = some .non) ∨ ∃ a r, o = some r ∧ vs[i]? = some (.ref a) ∧ a ≠ l ∧ H a = some (.lst (r.map V.int))
  | _, _, .nil, i, o, h => by simp at h
  | _, _, .no h, 0, o, e => by cases e; exact .inl ⟨rfl, rfl⟩
  | _, _, .yes a b h, 0, o, e => by cases e; exact .inr ⟨_, _, rfl, rfl, a, b⟩
  | _, _, .no h, i + 1, o, e => h.at_ (i := i) (by simpa using e)
  | _, _, .yes _ _ h, i + 1, o, e => h.at_ (i := i) (by simpa using e)
theorem StepsAre.set {l a : Addr} {H : Hp} {r : Row} (n : a ≠ l) (ha : H a = some (.lst (r.map V.int))) : ∀ {vs : List V} {S : List (Option Row)} (i : Nat), StepsAre l H vs S → StepsAre l H (vs.set i (.ref a)) (S.set i (some r))
  | _, _, _, .nil => .nil
  | _, _, 0, .no h => .yes n ha h
  | _, _, 0, .yes _ _ h => .yes n ha h
  | _, _, i + 1, .no h => .no (h.set n ha i)
  | _, _, i + 1, .yes p q h => .yes p q (h.set n ha i)
theorem StepsAre.nones (l : Addr) (H : Hp) : ∀ n : Nat, StepsAre l H (List.replicate n .non) (List.replicate n none)
  | 0 => .nil
  | n + 1 => .no (StepsAre.nones l H n)
def StAt (C : Addr) (H : Hp) (p l : Addr) (M : Int) (S : List (Option Row)) : Prop := (∃ dx, H p = some (.ins C dx (flS M l))) ∧ ∃ vs, H l = some (.lst vs) ∧ StepsAre l H vs S
theorem StAt.same {C : Addr} {H H' : Hp} {p l : Addr} {M : Int} {S : List (Option Row)} (h : StAt C H p l M S) (e : Same H H') : StAt C H' p l M S := by
  obtain ⟨⟨dx, h1⟩, vs, h2, h3⟩ := h
  exact ⟨⟨dx, e _ _ h1⟩, vs, e _ _ h2, h3.mono fun b o _ q => e b o q⟩
def spPutAt (C : Addr) : Sp := fun vs H Q _ => ∃ (p l b : Addr) (i : Nat) (M N : Int) (W n : Nat) (S : List (Option Row)) (r : Row), vs = [.ref p, .int (i : Int), .ref b] ∧ StAt C H p l M S ∧ 2 ≤ M ∧ M < 2 ^ 64 ∧ W ≤ 1000 ∧ WF M W n S ∧ i < n ∧ r.length = W ∧ RRed M r ∧ r[i]? = some N ∧ 1 ≤ N ∧
  H b = some (.lst (r.map V.int)) ∧ b ≠ l ∧ ∀ (S' : List (Option Row)) (r' : Row) (b' : Addr) (H' : Hp), PutStep M i S r N S' r' → But l H H' → StAt C H' p l M S' → H' b' = some (.lst (r'.map V.int)) → b' ≠ l → Q (.ref b') H'
theorem ix_at {n j : Nat} (h : j < n) : ixN n (j : Int) = some j := by
  unfold ixN
  rw [if_pos (by omega), if_pos (by omega), Int.toNat_natCast]
theorem zdiv_wd {a b : Int} (ha : 0 ≤ a) (hb : 0 ≤ b) (h : a < 2 ^ 64) : Wd (a / b) ∧ Wd (-(a / b)) := by
  have := Int.ediv_le_self b ha
  have := Int.ediv_nonneg ha hb
  constructor <;> (show Int.natAbs _ < 2 ^ 200; omega)
theorem rred_wd {M : Int} {r : Row} (h : RRed M r) (hM : M < 2 ^ 64) : RWd r := fun x hx => by
  have := h x hx
  show x.natAbs < 2 ^ 200
  omega
section
variable {P : Program} {w : World} {K : PySem.W.Frag} {mg : Str → Option Value} {base : Heap} {C fI fP fA fS : Addr}
theorem ok_put_at {f fB fM fC : Addr} {fd fdB fdM fdC : FuncData} (F : Fun K "put_at" "Stairs.put_at" s_Stairs_put_at f fd) (T : TxtS K mg C fI fP fA fS)
    (G_bezout : FnOk P w K mg base CX0 1 fB fdB ["one", "other"] spBez) (g_bezout : mg "bezout" = some (.ref fB)) (kp_bezout : PySem.W.keepIn K (.ref fB) = true) (b_bezout : Binds K fdB ["one", "other"] [])
    (G_multiple : FnOk P w K mg base CX0 1 fM fdM ["modulus", "factor", "row"] (spMul K)) (g_multiple : mg "multiple" = some (.ref fM)) (kp_multiple : PySem.W.keepIn K (.ref fM) = true) (b_multiple : Binds K fdM ["modulus", "factor", "row"] [])
    (G_combined : FnOk P w K mg base CX0 1 fC fdC ["modulus", "factor", "row", "other_factor", "other"] (spComb K)) (g_combined : mg "combined" = some (.ref fC)) (kp_combined : PySem.W.keepIn K (.ref fC) = true) (b_combined : Binds K fdC ["modulus", "factor", "row", "other_factor", "other"] []) :
    FnOk P w K mg base CX0 2 f fd ["self", "place", "row"] (spPutAt C) := by
  refine F.ok sc_Stairs_put_at (fun vs H Q E h => ?_) (fun cdv A outer s H vs Q E hr h => ?_)
  · obtain ⟨p, l, b, i, M, N, W, n, S, r, rfl, _⟩ := h
    rfl
  · obtain ⟨p, l, b, i, M, N, W, n, S, r, rfl, ⟨⟨dx, hp⟩, vs, hl, hS⟩, hM, hM2, hW, wf, hi, hrl, hrr, hN, hN1, hb, hbl, k⟩ := h
    refine ⟨_, (pss_cons (ps_par3 (i := 3) (j := 4) (l := 5) rfl sc_Stairs_put_at.nd rfl rfl rfl (by decide) (by decide) (by decide) rfl rfl rfl (pa_cons (pe_fld (pv 0) rfl) (pa_cons (pe_ix ix_list (pe_fld (pv 0) rfl) (pv 1) (fun _ _ => rfl)) (pa_cons (pe_ix ix_list (pv 2) (pv 1) (fun _ _ => rfl)) pa_nil))) (by rfl))
        (pss_cons (ps_if (pt_cmpR op_isN (pv 4) pe_non (nomark _)) (pss_cons (ps_asg (pe_call G_bezout (hr.mono (by decide)) rfl g_bezout kp_bezout b_bezout .nil pass0 (pa_cons (pv 3) (pa_cons (pv 5) pa_nil))) (pg_tup rfl (pgs_cons (pg_name (i := 6) sc_Stairs_put_at.nd rfl (Or.inl rfl)) (pgs_cons (pg_name (i := 7) sc_Stairs_put_at.nd rfl (Or.inl rfl)) (pgs_cons (pg_name (i := 8) sc_Stairs_put_at.nd rfl (Or.inl rfl)) pgs_nil)))))
        (pss_cons (ps_asg (pe_call G_multiple (hr.mono (by decide)) rfl g_multiple kp_multiple b_multiple .nil pass0 (pa_cons (pv 3) (pa_cons (pv 8) (pa_cons (pv 2) pa_nil)))) (pg_sub (pe_fld (pv 0) rfl) (pv 1) set_list))
        (pss_one (ps_ret (pe_call G_multiple (hr.mono (by decide)) rfl g_multiple kp_multiple b_multiple .nil pass0 (pa_cons (pv 3) (pa_cons (pe_op op_fdivW (pv 3) (pv 6)) (pa_cons (pv 2) pa_nil)))))))) pss_nil)
        (pss_cons (ps_set (i := 9) sc_Stairs_put_at.nd rfl (Or.inl rfl) (pe_ix ix_list (pv 4) (pv 1) (fun _ _ => rfl)))
        (pss_cons (ps_if (pt_cmpR op_eq (pe_op op_modN (pv 5) (pv 9)) pe_int (nomark _)) (pss_one (ps_ret (pe_call G_combined (hr.mono (by decide)) rfl g_combined kp_combined b_combined .nil pass0 (pa_cons (pv 3) (pa_cons pe_int (pa_cons (pv 2) (pa_cons (pe_un un_neg (pe_op op_fdivW (pv 5) (pv 9))) (pa_cons (pv 4) pa_nil)))))))) pss_nil)
        (pss_cons (ps_asg (pe_call G_bezout (hr.mono (by decide)) rfl g_bezout kp_bezout b_bezout .nil pass0 (pa_cons (pv 9) (pa_cons (pv 5) pa_nil))) (pg_tup rfl (pgs_cons (pg_name (i := 6) sc_Stairs_put_at.nd rfl (Or.inl rfl)) (pgs_cons (pg_name (i := 10) sc_Stairs_put_at.nd rfl (Or.inl rfl)) (pgs_cons (pg_name (i := 8) sc_Stairs_put_at.nd rfl (Or.inl rfl)) pgs_nil)))))
        (pss_cons (ps_asg (pe_call G_combined (hr.mono (by decide)) rfl g_combined kp_combined b_combined .nil pass0 (pa_cons (pv 3) (pa_cons (pv 8) (pa_cons (pv 2) (pa_cons (pv 10) (pa_cons (pv 4) pa_nil)))))) (pg_sub (pe_fld (pv 0) rfl) (pv 1) set_list))
        (pss_one (ps_ret (pe_call G_combined (hr.mono (by decide)) rfl g_combined kp_combined b_combined .nil pass0 (pa_cons (pv 3) (pa_cons (pe_op op_fdivW (pv 9) (pv 6)) (pa_cons (pv 2) (pa_cons (pe_un un_neg (pe_op op_fdivW (pv 5) (pv 6))) (pa_cons (pv 4) pa_nil)))))))))))))), ?_⟩
    have hSi : S[i]? = some (S[i]'(by rw [wf.len]; exact hi)) := List.getElem?_eq_getElem (by rw [wf.len]; exact hi)
    have hrN : (r.map V.int)[i]? = some (.int N) := by rw [List.getElem?_map, hN]; rfl
    have wr := rred_wd hrr hM2
    have wM : Wd M := by show M.natAbs < 2 ^ 200; omega
    have hNM : N < M := (hrr N (List.mem_of_getElem? hN)).2
    rcases hS.at_ hSi with ⟨e0, ev⟩ | ⟨a, s2, e0, ev, hal, ha⟩
    · refine ⟨_, rfl, p, C, dx, _, _, rfl, hp, T.cl, T.nM, flS_m M l, ?_⟩
      refine ⟨_, rfl, p, C, dx, _, _, rfl, hp, T.cl, T.nS, flS_s M l, _, rfl, l, vs, _, _, rfl, rfl, SqL.of hl, atI_nat ev, ?_⟩
      refine ⟨_, rfl, _, rfl, b, _, _, _, rfl, rfl, SqL.of hb, atI_nat hrN, _, _, _, rfl, ?_⟩
      refine ⟨_, rfl, rfl, true, congrArg V.bl (decide_eq_true rfl), iteT ?_⟩
      refine ⟨_, rfl, _, rfl, M, N, rfl, by omega, hN1, hM2, by omega, fun g lf f t H1 hg g1 hbz wlf wff sm ht => ?_⟩
      refine ⟨t, _, rfl, SqT.of ht, rfl, _, _, rfl, _, _, rfl, _, _, rfl, rfl, ?_⟩
      refine ⟨_, rfl, _, rfl, _, rfl, M, f, b, r, rfl, by omega, wff, sm _ _ hb, wr, by omega, fun q H2 s2 nq hq => ?_⟩
      refine ⟨_, rfl, p, C, dx, _, _, rfl, s2 _ _ (sm _ _ hp), T.cl, T.nS, flS_s M l, _, rfl, l, vs, _, i, rfl, rfl, s2 _ _ (sm _ _ hl), ix_at (by rw [hS.length, wf.len]; exact hi), ?_⟩
      have hgM : g.natAbs < 2 ^ 200 := by
        have : Int.gcd M N ≤ M.natAbs := Nat.gcd_le_left _ (by omega)
        omega
      have hql : q ≠ l := fun z => by rw [z, sm _ _ hl] at nq; cases nq
      have hpl : p ≠ l := fun z => by rw [z, hl] at hp; cases hp
      have b1 : But l H (upd H2 l (.lst (vs.set i (.ref q)))) := fun c o n e => by
        rw [upd_ne n]
        exact s2 _ _ (sm _ _ e)
      have st : StAt C (upd H2 l (.lst (vs.set i (.ref q)))) p l M (S.set i (some (mulRow M f r))) := ⟨⟨dx, b1 _ _ hpl hp⟩, _, upd_same, (hS.mono b1).set hql (by rw [upd_ne hql]; exact hq) i⟩
      refine ⟨_, rfl, _, rfl, _, rfl, _, _, rfl, rfl, wide_div (b := 200) (by omega) hgM (by decide) (by decide), _, rfl, M, M / g, b, r, rfl, by omega, ?_, b1 _ _ hbl hb, wr, by omega, fun q2 H3 s3 nq2 hq2 => ?_⟩
      · show (M / g).natAbs < 2 ^ 200
        have := Int.ediv_le_self g (show 0 ≤ M by omega)
        have := Int.ediv_nonneg (show 0 ≤ M by omega) (show 0 ≤ g by omega)
        omega
      · refine k _ _ q2 H3 (.inl ⟨by rw [hSi, e0], g, lf, f, hg, g1, hbz, rfl, rfl⟩) (b1.same s3) (st.same s3) hq2 fun z => ?_
        rw [z, upd_same] at nq2
        cases nq2
    · obtain ⟨hsl, hsr, ⟨P, hP, hP1, _⟩, _⟩ := wf.row i s2 (by rw [hSi, e0])
      have hsP : (s2.map V.int)[i]? = some (.int P) := by rw [List.getElem?_map, hP]; rfl
      have ws := rred_wd hsr hM2
      have hPM : P < M := (hsr P (List.mem_of_getElem? hP)).2
      have hPw : P.natAbs < 2 ^ 200 := by omega
      have hpl : p ≠ l := fun z => by rw [z, hl] at hp; cases hp
      refine ⟨_, rfl, p, C, dx, _, _, rfl, hp, T.cl, T.nM, flS_m M l, ?_⟩
      refine ⟨_, rfl, p, C, dx, _, _, rfl, hp, T.cl, T.nS, flS_s M l, _, rfl, l, vs, _, _, rfl, rfl, SqL.of hl, atI_nat ev, ?_⟩
      refine ⟨_, rfl, _, rfl, b, _, _, _, rfl, rfl, SqL.of hb, atI_nat hrN, _, _, _, rfl, ?_⟩
      refine ⟨_, rfl, rfl, false, congrArg V.bl (decide_eq_false (by intro z; cases z)), iteF ?_⟩
      refine ⟨_, rfl, _, rfl, a, _, _, _, rfl, rfl, SqL.of ha, atI_nat hsP, ?_⟩
      refine ⟨_, rfl, _, rfl, _, _, rfl, rfl, by omega, rfl, _, rfl, ?_⟩
      have ef : N.fmod P = N % P := Int.fmod_eq_emod_of_nonneg _ (by omega)
      refine ite2 (fun hd => ?_) (fun hd => ?_)
      · have h0 : N % P = 0 := by
          have this : V.int (N.fmod P) = V.int 0 := of_decide_eq_true hd
          rw [ef] at this
          injection this
        refine ⟨_, rfl, _, rfl, _, rfl, _, rfl, _, _, rfl, rfl, wide_div (b := 200) (by omega) hPw (by decide) (by decide), _, rfl, _, rfl, M, 1, -(N / P), b, a, r, s2, rfl, by omega, (by show (1 : Int).natAbs < 2 ^ 200; decide), (zdiv_wd (by omega) (by omega) (by omega)).2, hb, ha, wr, ws, by omega, by omega, fun q H2 s2' nq hq => ?_⟩
        refine k S _ q H2 (.inr ⟨s2, P, by rw [hSi, e0], hP, .inl ⟨h0, rfl, rfl⟩⟩) (fun c o n e => s2' _ _ e) (StAt.same ⟨⟨dx, hp⟩, vs, hl, hS⟩ s2') hq fun z => ?_
        rw [z, hl] at nq
        cases nq
      · refine ⟨_, rfl, _, rfl, P, N, rfl, hP1, hN1, by omega, by omega, fun g lf f t H1 hg g1 hbz wlf wff sm ht => ?_⟩
        refine ⟨t, _, rfl, SqT.of ht, rfl, _, _, rfl, _, _, rfl, _, _, rfl, rfl, ?_⟩
        refine ⟨_, rfl, _, rfl, _, rfl, _, rfl, _, rfl, M, f, lf, b, a, r, s2, rfl, by omega, wff, wlf, sm _ _ hb, sm _ _ ha, wr, ws, by omega, by omega, fun q H2 s2' nq hq => ?_⟩
        refine ⟨_, rfl, p, C, dx, _, _, rfl, s2' _ _ (sm _ _ hp), T.cl, T.nS, flS_s M l, _, rfl, l, vs, _, i, rfl, rfl, s2' _ _ (sm _ _ hl), ix_at (by rw [hS.length, wf.len]; exact hi), ?_⟩
        have hgM : g.natAbs < 2 ^ 200 := by
          have : Int.gcd P N ≤ P.natAbs := Nat.gcd_le_left _ (by omega)
          omega
        have hql : q ≠ l := fun z => by rw [z, sm _ _ hl] at nq; cases nq
        have b1 : But l H (upd H2 l (.lst (vs.set i (.ref q)))) := fun c o n e => by
          rw [upd_ne n]
          exact s2' _ _ (sm _ _ e)
        have st : StAt C (upd H2 l (.lst (vs.set i (.ref q)))) p l M (S.set i (some (comb M f r lf s2))) := ⟨⟨dx, b1 _ _ hpl hp⟩, _, upd_same, (hS.mono b1).set hql (by rw [upd_ne hql]; exact hq) i⟩
        refine ⟨_, rfl, _, rfl, _, rfl, _, _, rfl, rfl, wide_div (b := 200) (by omega) hgM (by decide) (by decide), _, rfl, _, rfl, _, rfl, _, _, rfl, rfl, wide_div (b := 200) (by omega) hgM (by decide) (by decide), _, rfl, _, rfl, M, P / g, -(N / g), b, a, r, s2, rfl, by omega, (zdiv_wd (by omega) (by omega) (by omega)).1, (zdiv_wd (by omega) (by omega) (by omega)).2, b1 _ _ hbl hb, b1 _ _ hal ha, wr, ws, by omega, by omega, fun q2 H3 s3 nq2 hq2 => ?_⟩
        refine k _ _ q2 H3 (.inr ⟨s2, P, by rw [hSi, e0], hP, .inr ⟨g, lf, f, hg, g1, hbz, rfl, rfl⟩⟩) (b1.same s3) (st.same s3) hq2 fun z => ?_
        rw [z, upd_same] at nq2
        cases nq2
end
end Wk

namespace Wk
open PySem L2 NumI
def spStInit (C : Addr) : Sp := fun vs H Q _ => ∃ (p dx : Addr) (M : Int) (n : Nat), vs = [.ref p, .int M, .int (n : Int)] ∧ H p = some (.ins C dx []) ∧ n ≤ 1000 ∧
  ∀ (l : Addr) (H' : Hp), But p H H' → H l = none → StAt C H' p l M (List.replicate n none) → Q .non H'
def spPut (C : Addr) : Sp := fun vs H Q _ => ∃ (p l b : Addr) (M : Int) (W n : Nat) (S : List (Option Row)) (r : Row), vs = [.ref p, .ref b] ∧ StAt C H p l M S ∧ 2 ≤ M ∧ M < 2 ^ 64 ∧ W ≤ 1000 ∧ n ≤ W ∧ WF M W n S ∧ r.length = W ∧ RRed M r ∧
  H b = some (.lst (r.map V.int)) ∧ b ≠ l ∧ ∀ (S' : List (Option Row)) (r' : Row) (b' : Addr) (H' : Hp), Ch M S r n S' r' → But l H H' → StAt C H' p l M S' → H' b' = some (.lst (r'.map V.int)) → b' ≠ l → Q (.ref b') H'
def spSettled (K : PySem.W.Frag) (C : Addr) : Sp := fun vs H Q _ => ∃ (p l : Addr) (M : Int) (W n : Nat) (S : List (Option Row)), vs = [.ref p] ∧ StAt C H p l M S ∧ 2 ≤ M ∧ M < 2 ^ 64 ∧ W ≤ 1000 ∧ n ≤ W ∧ WF M W n S ∧
  NewMat K H ((settle M n S n).map (·.2)) Q
theorem flat_rep {α : Type} {x : α} (n : Nat) : (List.replicate n [x]).flatten = List.replicate n x := by
  induction n with
  | zero => rfl
  | succ n ih => rw [List.replicate_succ, List.flatten_cons, ih]; rfl
theorem But.trans {l : Addr} {H H' H2 : Hp} (a : But l H H') (b : But l H' H2) : But l H H2 := fun c o n e => b c o n (a c o n e)
section
variable {P : Program} {w : World} {K : PySem.W.Frag} {mg : Str → Option Value} {base : Heap} {C fI fP fA fS : Addr}
theorem ok_st_init {f : Addr} {fd : FuncData} (F : Fun K "__init__" "Stairs.__init__" s_Stairs_init f fd) (T : TxtS K mg C fI fP fA fS) : FnOk P w K mg base CX0 1 f fd ["self", "modulus", "places"] (spStInit C) := by
  refine F.ok sc_Stairs_init (fun vs H Q E h => ?_) (fun cdv A outer s H vs Q E hr h => ?_)
  · obtain ⟨p, dx, M, n, rfl, _⟩ := h
    rfl
  · obtain ⟨p, dx, M, n, rfl, hp, hn, k⟩ := h
    refine ⟨_, (pss_cons (ps_fld (pv 0) (pv 1) rfl)
        (pss_one (ps_fld (pv 0) (pe_op op_rep (pe_lst (pa_cons pe_non pa_nil)) (pv 2)) rfl))), ?_⟩
    refine ⟨_, rfl, _, rfl, p, C, dx, _, rfl, hp, T.cl, T.nM, (by show 0 < 1000; decide), ?_⟩
    refine ⟨(by show 1 ≤ sizeLine; decide), fun q hq => ⟨_, rfl, q, n, [.non], rfl, rfl, upd_same, by omega, by omega, Nat.le_trans (by simp; omega) (show 1000 ≤ sizeLine by decide), fun l hl => ⟨_, rfl, p, C, dx, putF "modulus" (.int M) [], rfl, ?_, T.cl, T.nS, (by show 1 < 1000; decide), ?_⟩⟩⟩
    · rw [upd_ne (fun z => by rw [← z, upd_ne (fun y => by rw [← y, upd_same] at hq; cases hq), upd_same] at hl; cases hl), upd_ne (fun y => by rw [← y, upd_same] at hq; cases hq), upd_same]
    · have hqp : p ≠ q := fun y => by rw [← y, upd_same] at hq; cases hq
      have hlp : p ≠ l := fun y => by rw [← y, upd_ne hqp, upd_same] at hl; cases hl
      have hlq : l ≠ q := fun y => by rw [y, upd_same] at hl; cases hl
      refine k l _ (fun b o n e => ?_) ?_ ⟨⟨dx, upd_same⟩, List.replicate n .non, ?_, .nones l _ n⟩
      · have bq : b ≠ q := fun y => by
          subst y
          rw [upd_ne (Ne.symm hqp), e] at hq
          cases hq
        have bl : b ≠ l := fun y => by rw [← y, upd_ne bq, upd_ne n, e] at hl; cases hl
        rw [upd_ne n, upd_ne bl, upd_ne bq, upd_ne n]
        exact e
      · rw [upd_ne hlq, upd_ne (Ne.symm hlp)] at hl
        exact hl
      · rw [upd_ne (Ne.symm hlp), upd_same]
        congr 2
        rw [Int.toNat_natCast]
        exact flat_rep n
theorem ok_put {f : Addr} {fd fdA : FuncData} (F : Fun K "put" "Stairs.put" s_Stairs_put f fd) (T : TxtS K mg C fI fP fA fS)
    (G_put_at : FnOk P w K mg base CX0 2 fA fdA ["self", "place", "row"] (spPutAt C)) (b_put_at : Binds K fdA ["self", "place", "row"] []) :
    FnOk P w K mg base CX0 3 f fd ["self", "row"] (spPut C) := by
  refine F.ok sc_Stairs_put (fun vs H Q E h => ?_) (fun cdv A outer s H vs Q E hr h => ?_)
  · obtain ⟨p, l, b, M, W, n, S, r, rfl, _⟩ := h
    rfl
  · obtain ⟨p, l, b, M, W, n, S, r, rfl, hSt, hM, hM2, hW, hn, wf, hrl, hrr, hb, hbl, k⟩ := h
    refine ⟨_, (pss_cons (ps_for PassesOwn.never rfl (pi_range1 rfl T.f_range (pa_cons (pe_callB call_len_seq rfl T.f_len PySem.boot_len (pa_cons (pe_fld (pv 0) rfl) pa_nil)) pa_nil)) (pg_name (i := 2) sc_Stairs_put.nd rfl (Or.inl rfl)) (pss_one (ps_if (pt_cmpR op_ne (pe_ix ix_list (pv 1) (pv 2) (fun _ _ => rfl)) pe_int (nomark _)) (pss_one (ps_set (i := 1) sc_Stairs_put.nd rfl (Or.inl rfl) (pe_meth (pv 0) T.cl T.m_put_at G_put_at (hr.mono (by decide)) b_put_at .nil pass0 (pa_cons (pv 2) (pa_cons (pv 1) pa_nil))))) pss_nil)))
        (pss_one (ps_ret (pv 1)))), ?_⟩
    obtain ⟨⟨dx, hp⟩, vs, hl, hS⟩ := id hSt
    have hvl : vs.length = n := hS.length.trans wf.len
    refine ⟨_, rfl, p, C, dx, _, _, rfl, hp, T.cl, T.nS, flS_s M l, _, _, rfl, .inl (SqL.of hl), (n : Int), (by rw [hvl]), by omega, by omega, ?_⟩
    refine for_it (walk_range (lo := 0) (n := n)) (fun i σ H' => ∃ (x : Option V) (b' : Addr) (S' : List (Option Row)) (r' : Row), σ = [some (.ref p), some (.ref b'), x] ∧ Ch M S r i S' r' ∧ But l H H' ∧ StAt C H' p l M S' ∧ H' b' = some (.lst (r'.map V.int)) ∧ b' ≠ l) ⟨none, b, S, r, rfl, .base, fun _ _ _ e => e, hSt, hb, hbl⟩ (fun _ _ _ _ _ => trivial) ?_ ?_
    · rintro i v σ H1 H1' hi ⟨x, b', S', r', rfl, ch, bt, st, hb', hbl'⟩ ⟨rfl, rfl⟩
      obtain ⟨wf', hl', hr', hz'⟩ := ch.wf hM wf hrl hrr
      have hil : i < r'.length := by omega
      have hri : r'[i]? = some r'[i] := List.getElem?_eq_getElem hil
      have hrN : (r'.map V.int)[i]? = some (.int r'[i]) := by rw [List.getElem?_map, hri]; rfl
      obtain ⟨⟨dx', hp'⟩, _⟩ := id st
      show tIfS _ _ _ _ [some (V.ref p), some (V.ref b'), some (V.int (0 + (i : Int)))] H1'
      rw [Int.zero_add]
      refine ⟨_, rfl, _, rfl, b', _, _, _, rfl, rfl, SqL.of hb', atI_nat hrN, rfl, _, rfl, ?_⟩
      by_cases h0 : r'[i] = 0
      · rw [h0]
        refine iteNS rfl ?_
        exact ⟨_, b', S', r', rfl, ch.skip (by rw [hri, h0]), bt, st, hb', hbl'⟩
      · have e3 : (!decide (V.int r'[i] = V.int 0)) = true := by
          have : ¬ V.int r'[i] = V.int 0 := fun z => h0 (by injection z)
          simp [this]
        rw [e3]
        refine iteT ?_
        have hN0 := hr' _ (List.mem_of_getElem? hri)
        refine ⟨_, rfl, p, dx', flS M l, rfl, hp', flS_no M l (by decide +kernel) (by decide +kernel), _, rfl, _, rfl, p, l, b', i, M, r'[i], W, n, S', r', rfl, st, hM, hM2, hW, wf', hi, hl', hr', hri, by omega, hb', hbl', fun S2 r2 b2 H2 ps bt2 st2 hb2 hbl2 => ?_⟩
        exact ⟨_, b2, S2, r2, rfl, ch.step hri (by omega) ps, bt.trans bt2, st2, hb2, hbl2⟩
    · rintro σ H1 ⟨x, b', S', r', rfl, ch, bt, st, hb', hbl'⟩
      exact ⟨_, rfl, k S' r' b' H1 ch bt st hb' hbl'⟩
/-- pairs of a place and a row, in a list at t -/
def PairsAre (t : Addr) (H : Hp) (us : List V) (L : List (Nat × Row)) : Prop := us.length = L.length ∧ ∀ (k q : Nat) (s : Row), L[k]? = some (q, s) → ∃ u a, us[k]? = some (.ref u) ∧ u ≠ t ∧ a ≠ t ∧ H u = some (.tup [.int (q : Int), .ref a]) ∧ H a = some (.lst (s.map V.int))
theorem PairsAre.mono {t : Addr} {H H' : Hp} {us : List V} {L : List (Nat × Row)} (h : PairsAre t H us L) (e : But t H H') : PairsAre t H' us L := ⟨h.1, fun k q s z => by
  obtain ⟨u, a, h1, h2, h3, h4, h5⟩ := h.2 k q s z
  exact ⟨u, a, h1, h2, h3, e _ _ h2 h4, e _ _ h3 h5⟩⟩
theorem PairsAre.snoc {t : Addr} {H : Hp} {us : List V} {L : List (Nat × Row)} {u a : Addr} {q : Nat} {s : Row} (h : PairsAre t H us L) (h2 : u ≠ t) (h3 : a ≠ t) (h4 : H u = some (.tup [.int (q : Int), .ref a])) (h5 : H a = some (.lst (s.map V.int))) : PairsAre t H (us ++ [.ref u]) (L ++ [(q, s)]) := by
  refine ⟨by simp [h.1], fun k q2 s2 e => ?_⟩
  rcases Nat.lt_trichotomy k L.length with hk | hk | hk
  · rw [List.getElem?_append_left hk] at e
    obtain ⟨u2, a2, g1, g2⟩ := h.2 k q2 s2 e
    exact ⟨u2, a2, by rw [List.getElem?_append_left (by rw [h.1]; exact hk)]; exact g1, g2⟩
  · rw [hk] at e
    simp at e
    obtain ⟨rfl, rfl⟩ := e
    exact ⟨u, a, by rw [hk, ← h.1]; simp, h2, h3, h4, h5⟩
  · rw [List.getElem?_eq_none (by simp; omega)] at e
    cases e
theorem PairsAre.rev {t : Addr} {H : Hp} {us : List V} {L : List (Nat × Row)} (h : PairsAre t H us L) : PairsAre t H us.reverse L.reverse := by
  refine ⟨by simp [h.1], fun k q s e => ?_⟩
  have hk : k < L.length := by
    have := (List.getElem?_eq_some_iff.mp e).1
    simpa using this
  rw [List.getElem?_reverse hk] at e
  obtain ⟨u, a, g1, g2⟩ := h.2 _ q s e
  exact ⟨u, a, by rw [List.getElem?_reverse (by rw [h.1]; exact hk), h.1]; exact g1, g2⟩
theorem ok_settled {f fC : Addr} {fd fdC : FuncData} (F : Fun K "settled" "Stairs.settled" s_Stairs_settled f fd) (T : TxtS K mg C fI fP fA fS)
    (G_combined : FnOk P w K mg base CX0 1 fC fdC ["modulus", "factor", "row", "other_factor", "other"] (spComb K)) (g_combined : mg "combined" = some (.ref fC)) (kp_combined : PySem.W.keepIn K (.ref fC) = true) (b_combined : Binds K fdC ["modulus", "factor", "row", "other_factor", "other"] []) :
    FnOk P w K mg base CX0 2 f fd ["self"] (spSettled K C) := by
  refine F.ok sc_Stairs_settled (fun vs H Q E h => ?_) (fun cdv A outer s H vs Q E hr h => ?_)
  · obtain ⟨p, l, M, W, n, S, rfl, _⟩ := h
    rfl
  · obtain ⟨p, l, M, W, n, S, rfl, hSt, hM, hM2, hW, hn, wf, k⟩ := h
    refine ⟨_, (pss_cons (ps_set (i := 1) sc_Stairs_settled.nd rfl (Or.inl rfl) (pe_lst pa_nil))
        (pss_cons (ps_for PassesOwn.never rfl (pi_revR rfl T.f_reversed (prg_1 rfl T.f_range (pe_callB call_len_seq rfl T.f_len PySem.boot_len (pa_cons (pe_fld (pv 0) rfl) pa_nil)))) (pg_name (i := 2) sc_Stairs_settled.nd rfl (Or.inl rfl)) (pss_cons (ps_set (i := 3) sc_Stairs_settled.nd rfl (Or.inl rfl) (pe_ix ix_list (pe_fld (pv 0) rfl) (pv 2) (fun _ _ => rfl)))
        (pss_one (ps_if (pt_cmpR op_notN (pv 3) pe_non (nomark _)) (pss_cons (ps_for PassesOwn.never rfl (pi_list (pe_revL (pv 1))) (pg_tup rfl (pgs_cons (pg_name (i := 4) sc_Stairs_settled.nd rfl (Or.inl rfl)) (pgs_cons (pg_name (i := 5) sc_Stairs_settled.nd rfl (Or.inl rfl)) pgs_nil))) (pss_one (ps_if (pt_cmpR op_ge (pe_ix ix_list (pv 3) (pv 4) (fun _ _ => rfl)) (pe_ix ix_list (pv 5) (pv 4) (fun _ _ => rfl)) (nomark _)) (pss_one (ps_set (i := 3) sc_Stairs_settled.nd rfl (Or.inl rfl) (pe_call G_combined (hr.mono (by decide)) rfl g_combined kp_combined b_combined .nil pass0 (pa_cons (pe_fld (pv 0) rfl) (pa_cons pe_int (pa_cons (pv 3) (pa_cons (pe_un un_neg (pe_op op_fdivW (pe_ix ix_list (pv 3) (pv 4) (fun _ _ => rfl)) (pe_ix ix_list (pv 5) (pv 4) (fun _ _ => rfl)))) (pa_cons (pv 5) pa_nil)))))))) pss_nil)))
        (pss_one (ps_expr (pe_bm PySem.F.plainAttrs_list PySem.F.slot_list_append PySem.F.type_list_append mt_append (pv 1) (pa_cons (pe_tup (pa_cons (pv 2) (pa_cons (pv 3) pa_nil))) pa_nil))))) pss_nil))))
        (pss_one (ps_ret (pe_callTy (call_tupleK (K := K) rfl) rfl T.f_tuple (by decide +kernel) (pa_cons (pe_lc (own := [("_", 6), ("row", 3)]) (g := gTup K 2 (gCons (gName 6) (gCons (gName 3) gNil))) rfl sc_Stairs_settled.nd (pi_list (pe_revL (pv 1))) (blkOk_by (N := ["self", "lessened", "place", "row", "lower", "step", "_"]) (sc := defScope s_Stairs_settled) (by decide +kernel)) (fun _ _ _ _ _ => (pg_tupK rfl rfl (pgs_cons (pg_name (i := 6) sc_Stairs_settled.nd rfl (Or.inl rfl)) (pgs_cons (pg_name (i := 3) sc_Stairs_settled.nd rfl (Or.inl rfl)) pgs_nil)))) (fun _ _ _ _ _ => pts_nil) (fun _ _ _ _ _ => (pe_callTy (call_tupleK (K := K) rfl) rfl T.f_tuple (by decide +kernel) (pa_cons (pv 3) pa_nil)))) pa_nil)))))), ?_⟩
    obtain ⟨⟨dx, hp⟩, vs, hl, hS⟩ := id hSt
    have hvl : vs.length = n := hS.length.trans wf.len
    have hpt : ∀ {t}, H t = none → p ≠ t := fun h z => by rw [← z, hp] at h; cases h
    refine ⟨Nat.zero_le _, fun t ht => ?_⟩
    have sG : Same H (upd H t (.lst [])) := same_upd ht
    have gt : (upd H t (.lst [])) t = some (.lst []) := upd_same
    obtain ⟨G, hG⟩ : ∃ G, G = upd H t (.lst []) := ⟨_, rfl⟩
    rw [← hG] at sG gt
    rw [← hG]
    refine ⟨_, rfl, p, C, dx, _, _, rfl, sG _ _ hp, T.cl, T.nS, flS_s M l, _, _, rfl, .inl (SqL.of (sG _ _ hl)), (n : Int), (by rw [hvl]), by omega, by omega, by omega, by omega, ?_⟩
    refine for_it (walk_rangeC (c := -1) (n := n)) (fun i σ H' => ∃ (x2 x3 x4 x5 : Option V) (us : List V), σ = [some (.ref p), some (.ref t), x2, x3, x4, x5, none] ∧ Same H H' ∧ H' t = some (.lst us) ∧ PairsAre t H' us (settle M n S i).reverse) ⟨none, none, none, none, [], rfl, sG, gt, rfl, fun k q s e => by simp [settle] at e⟩ (fun _ _ _ _ _ => trivial) ?_ ?_
    · rintro i v σ H1 H1' hi ⟨x2, x3, x4, x5, us, rfl, s1, h1t, hPr⟩ ⟨rfl, rfl⟩
      have ep : (0 + (((n : Int) - 0).toNat : Nat) - 1 + (i : Nat) * (-1) : Int) = ((n - 1 - i : Nat) : Int) := by omega
      show tSeq _ _ _ [some (V.ref p), some (V.ref t), some (V.int (0 + (((n : Int) - 0).toNat : Nat) - 1 + (i : Nat) * (-1))), x3, x4, x5, none] H1'
      rw [ep]
      have hlt : n - 1 - i < S.length := by rw [wf.len]; omega
      have hSi : S[n - 1 - i]? = some S[n - 1 - i] := List.getElem?_eq_getElem hlt
      have hgD : S.getD (n - 1 - i) none = S[n - 1 - i] := by rw [List.getD_eq_getElem?_getD, hSi]; rfl
      rcases hS.at_ hSi with ⟨e0, ev⟩ | ⟨a, r, e0, ev, hal, ha⟩
      · refine ⟨_, rfl, p, C, dx, _, _, rfl, s1 _ _ hp, T.cl, T.nS, flS_s M l, _, rfl, l, vs, _, _, rfl, rfl, SqL.of (s1 _ _ hl), atI_nat ev, ?_⟩
        refine ⟨_, rfl, rfl, false, congrArg V.bl (by simp), iteF ?_⟩
        refine ⟨_, _, _, _, us, rfl, s1, h1t, ?_⟩
        have : settle M n S (i + 1) = settle M n S i := by
          show (match S.getD (n - 1 - i) none with | none => _ | some r => _) = _
          rw [hgD, e0]
        rw [this]
        exact hPr
      · refine ⟨_, rfl, p, C, dx, _, _, rfl, s1 _ _ hp, T.cl, T.nS, flS_s M l, _, rfl, l, vs, _, _, rfl, rfl, SqL.of (s1 _ _ hl), atI_nat ev, ?_⟩
        refine ⟨_, rfl, rfl, true, congrArg V.bl (by simp), iteT ?_⟩
        have eS : settle M n S (i + 1) = (n - 1 - i, lessen M r (settle M n S i)) :: settle M n S i := by
          show (match S.getD (n - 1 - i) none with | none => _ | some r => _) = _
          rw [hgD, e0]
        obtain ⟨rl, rr, _, _⟩ := wf.row _ _ (hSi.trans (by rw [e0]))
        have hL := settle_lok hM wf hn (show i ≤ n by omega)
        have hLl := settle_len M n S i
        generalize settle M n S i = L at *
        generalize hFin : lessen M r L = rF at *
        have hat : a ≠ t := fun z => by rw [z, ht] at ha; cases ha
        refine ⟨_, rfl, t, us, rfl, SqL.of h1t, fun p2 np2 => ⟨p2, rfl, ⟨_, SqL.of upd_same⟩, ?_⟩⟩
        have s2' : Same H1' (upd H1' p2 (.lst us.reverse)) := same_upd np2
        have g2 : (upd H1' p2 (.lst us.reverse)) p2 = some (.lst us.reverse) := upd_same
        generalize upd H1' p2 (.lst us.reverse) = H2 at s2' g2 ⊢
        have hPr2 : PairsAre t H2 us.reverse L := by
          have := (hPr.mono (fun b o _ e => s2' b o e)).rev
          rw [List.reverse_reverse] at this
          exact this
        refine for_it (walk_list (xs := us.reverse)) (fun k σ H' => ∃ (y4 y5 : Option V) (b : Addr) (cur : Row), σ = [some (.ref p), some (.ref t), some (.int ((n - 1 - i : Nat) : Int)), some (.ref b), y4, y5, none] ∧ Same H2 H' ∧ H' b = some (.lst (cur.map V.int)) ∧ b ≠ t ∧ cur.length = W ∧ RRed M cur ∧ lessen M cur (L.drop k) = rF) ⟨_, _, a, r, rfl, fun _ _ e => e, s2' _ _ (s1 _ _ ha), hat, rl, rr, hFin⟩ (fun k σ H' _ ⟨_, _, _, _, _, s3, _⟩ => SqL.of (s3 _ _ g2)) ?_ ?_
        · rintro k v σ H3 H3' hk ⟨y4, y5, b, cur, rfl, s3, hb, hbt, cl, cr, ce⟩ ⟨rfl, hv⟩
          have hkL : k < L.length := by rw [← hPr2.1]; exact hk
          have hLk : L[k]? = some (L[k].1, L[k].2) := List.getElem?_eq_getElem hkL
          obtain ⟨u, a2, g1, hut, hat2, hu, ha2⟩ := hPr2.2 k _ _ hLk
          rw [g1] at hv
          cases hv
          obtain ⟨sl, sr, hq, hs1⟩ := hL _ _ (List.mem_of_getElem? hLk)
          generalize hq0 : L[k].1 = q at *
          generalize hs0 : L[k].2 = s2 at *
          have hcq : cur[q]? = some (cur.getD q 0) := by rw [List.getD_eq_getElem?_getD, List.getElem?_eq_getElem (by omega)]; rfl
          have hsq : s2[q]? = some (s2.getD q 0) := by rw [List.getD_eq_getElem?_getD, List.getElem?_eq_getElem (by omega)]; rfl
          have hcq' : (cur.map V.int)[q]? = some (.int (cur.getD q 0)) := by rw [List.getElem?_map, hcq]; rfl
          have hsq' : (s2.map V.int)[q]? = some (.int (s2.getD q 0)) := by rw [List.getElem?_map, hsq]; rfl
          have hdrop : L.drop k = (q, s2) :: L.drop (k + 1) := by
            rw [List.drop_eq_getElem_cons hkL, ← hq0, ← hs0]
          have hx := cr _ (List.mem_of_getElem? hcq)
          have hy := sr _ (List.mem_of_getElem? hsq)
          generalize hxe : cur.getD q 0 = x at *
          generalize hye : s2.getD q 0 = y at *
          rw [hdrop] at ce
          unfold lessen at ce
          rw [hxe, hye] at ce
          refine ⟨u, _, rfl, SqT.of (s3 _ _ hu), rfl, _, _, rfl, _, _, rfl, rfl, ?_⟩
          refine ⟨_, rfl, _, rfl, b, _, _, _, rfl, rfl, SqL.of hb, atI_nat hcq', _, rfl, _, rfl, a2, _, _, _, rfl, rfl, SqL.of (s3 _ _ ha2), atI_nat hsq', x, y, rfl, rfl, _, rfl, ?_⟩
          refine ite2 (fun hd => ?_) (fun hd => ?_)
          · have hxy : x ≥ y := of_decide_eq_true hd
            rw [if_pos hxy] at ce
            have hyw : y.natAbs < 2 ^ 200 := by omega
            refine ⟨_, rfl, p, C, dx, _, _, rfl, s3 _ _ (s2' _ _ (s1 _ _ hp)), T.cl, T.nM, flS_m M l, _, rfl, _, rfl, _, rfl, b, _, _, _, rfl, rfl, SqL.of hb, atI_nat hcq', _, rfl, _, rfl, a2, _, _, _, rfl, rfl, SqL.of (s3 _ _ ha2), atI_nat hsq', _, _, rfl, rfl, wide_div (b := 200) (by omega) hyw (by decide) (by decide), _, rfl, _, rfl, M, 1, -(x / y), b, a2, cur, s2, rfl, by omega, (by show (1 : Int).natAbs < 2 ^ 200; decide), (zdiv_wd (by omega) (by omega) (by omega)).2, hb, s3 _ _ ha2, rred_wd cr hM2, rred_wd sr hM2, by omega, by omega, fun b2 H4 s4 nb2 hb2 => ?_⟩
            refine ⟨_, _, b2, _, rfl, same_trans s3 s4, hb2, fun z => ?_, by simp [comb, cl, sl], comb_red (by omega) _ _ _ _, ce⟩
            rw [z, s3 _ _ (s2' _ _ h1t)] at nb2
            cases nb2
          · have hxy : ¬ x ≥ y := fun z => hd (decide_eq_true z)
            rw [if_neg hxy] at ce
            exact ⟨_, _, b, cur, rfl, s3, hb, hbt, cl, cr, ce⟩
        · rintro σ H3 ⟨y4, y5, b, cur, rfl, s3, hb, hbt, cl, cr, ce⟩
          have hkl : us.reverse.length = L.length := hPr2.1
          rw [hkl, List.drop_length] at ce
          have ce : cur = rF := ce
          have g3 : H3 t = some (.lst us) := s3 _ _ (s2' _ _ h1t)
          have sAll : Same H H3 := same_trans s1 (same_trans s2' s3)
          have hP3 : PairsAre t H3 us L.reverse := hPr.mono fun b o _ e => s3 _ _ (s2' _ _ e)
          have hus : us.length ≤ 1000 := by
            have e1 := hPr2.1
            simp at e1
            omega
          refine ⟨_, rfl, .inl ⟨rfl, _, SqL.of g3⟩, _, rfl, _, rfl, (by show 2 ≤ sizeLine; decide), fun u nu => ⟨t, _, _, rfl, rfl, (by rw [upd_ne (ne_of_none g3 nu)]; exact g3), Nat.le_trans (by simp; omega) (show 1001 ≤ sizeLine by decide), ?_⟩⟩
          have hut : u ≠ t := fun z => by rw [z, g3] at nu; cases nu
          have b4 : But t H3 (upd (upd H3 u (.tup [.int ((n - 1 - i : Nat) : Int), .ref b])) t (.lst (us ++ [.ref u]))) := fun c o hc e => by
            rw [upd_ne hc, upd_ne (ne_of_none e nu)]
            exact e
          refine ⟨_, _, _, _, us ++ [.ref u], rfl, fun c o e => b4 c o (ne_of_none e ht) (sAll _ _ e), upd_same, ?_⟩
          rw [eS, List.reverse_cons, ← ce]
          exact (hP3.mono b4).snoc hut hbt (by rw [upd_ne hut, upd_same]) (b4 _ _ hbt hb)
    · rintro σ H1 ⟨x2, x3, x4, x5, us, rfl, s1, h1t, hPr⟩
      refine ⟨_, rfl, t, us, rfl, SqL.of h1t, fun p2 np2 => ⟨p2, rfl, ⟨_, SqL.of upd_same⟩, fun D hD => ?_⟩⟩
      have s2 : Same H1 (upd H1 p2 (.lst us.reverse)) := same_upd np2
      have g2 : (upd H1 p2 (.lst us.reverse)) p2 = some (.lst us.reverse) := upd_same
      generalize upd H1 p2 (.lst us.reverse) = H2 at s2 g2 hD ⊢
      have hPr2 : PairsAre t H2 us.reverse (settle M n S n) := by
        have := (hPr.mono (fun b o _ e => s2 b o e)).rev
        rw [List.reverse_reverse] at this
        exact this
      have hLl := settle_len M n S n
      refine lc_rows (K := K) (walk_list (xs := us.reverse)) hD (by rw [hPr2.1]; omega) ((settle M n S n).map (·.2)) (by rw [List.length_map, hPr2.1]) (fun H' e => SqL.of (e _ _ g2)) ?_ (fun acc H3 e3 s3 hR => tup_read e3 hR (same_trans s1 (same_trans s2 s3)) k)
      rintro i r x H3 H3' Fn Nn hi hr3 fin s3 ⟨rfl, hv⟩
      rw [List.getElem?_map] at hr3
      cases hLi : (settle M n S n)[i]? with
      | none => rw [hLi] at hr3; cases hr3
      | some qs =>
        rw [hLi] at hr3
        cases hr3
        obtain ⟨u, a, g1, hut, hat, hu, ha⟩ := hPr2.2 i qs.1 qs.2 hLi
        rw [g1] at hv
        cases hv
        exact ⟨u, _, rfl, SqT.of (s3 _ _ hu), rfl, _, _, rfl, _, _, rfl, rfl, rfl, yesT ⟨_, rfl, a, _, rfl, .inl ⟨SqL.of (s3 _ _ ha), fun q nq => fin q _ (same_upd nq) upd_same⟩⟩⟩
end
end Wk

/-! for i, x in enumerate(t), t a tuple -/
namespace ZM
open PySem PySem.Spec PyProof.Rows L2
open PySem.Sem (wp)
open AutoSeq1 (wpAny_loadPart')
theorem meets_enuT (l : Addr) (items : Array Value) (n : Nat) (dd : Option Addr) (sl : Array (Option Value)) :
    Meets (Builtin.«enumerate.__new__» ⟨[.type "enumerate", .ref l], []⟩) (fun _ R s => s.heap.get? l = some { cls := .type "tuple", dict := dd, data := .seq items n, slots := sl } ∧
      R (.ok (.ret (.ref (s.heap.push (itO true l)).objs.size))) { s with heap := (s.heap.push (itO true l)).push { cls := .type "enumerate", data := .fields #[.none, .bool false, .ref s.heap.objs.size, rawInt 0, .none, .none] } }) :=
  .of_wp fun prog w A R s h => by
    obtain ⟨hp, g, d, tk, os⟩ := s
    obtain ⟨hl, h⟩ := h
    have hsub := sub_enumerate
    have r1 : Row true (Shared.heap ⟨hp, g, d, tk, os⟩) l items := ⟨_, hl, rfl, n, rfl⟩
    wp_walk using wpAny_loadPart' hl
    refine wpAny_stack_any fun st => wpAny_pure ?_
    split
    · rename_i c _ _ _ _ _
      cases (c == Value.type "enumerate")
      · wp_walk using wpAny_loadPart' hl, iter_c r1
        exact ⟨_, rfl, h⟩
      · wp_walk using wpAny_loadPart' hl, iter_c r1
        exact ⟨_, rfl, h⟩
    · wp_walk using wpAny_loadPart' hl, iter_c r1
      exact ⟨_, rfl, h⟩
section
variable {prog : Program} {w : World} {A : Around} {E : Value → Shared → Prop} {s : Shared}
theorem call_enuT {l : Addr} {items : Array Value} {Q : Value → Shared → Prop} (q : s.heap.IsTuple l items)
    (h : ∀ h', IsEnum h' (s.heap.objs.size + 1) s.heap.objs.size 0 .none → Pos true h' s.heap.objs.size l 0 → (∀ b o, s.heap.get? b = some o → h'.get? b = some o) → Q (.ref (s.heap.objs.size + 1)) { s with heap := h' }) :
    wpAny (model prog w) A (call (.type "enumerate") [.ref l]) Q E s := by
  obtain ⟨⟨cls, dd, data, sl⟩, ho, hc, n, hd⟩ := q
  simp only at hc hd
  subst hc hd
  refine callType_new F.called_enumerate (by decide) (F.typeCall_enumerate_1 _) (F.newCall_enumerate_1 _) (fun obj => F.args_object_init_2 obj _) F.entry_enumerate_new (meets_enuT l items n dd sl) ⟨ho, ?_⟩
  have e1 : (s.heap.push (itO true l)).objs.size = s.heap.objs.size + 1 := Heap.size_push ..
  have g2 := Heap.get?_push_size (s.heap.push (itO true l)) (o := { cls := .type "enumerate", data := .fields #[.none, .bool false, .ref s.heap.objs.size, rawInt 0, .none, .none] }) rfl
  have g1 := Heap.get?_push_of_some ({ cls := .type "enumerate", data := .fields #[.none, .bool false, .ref s.heap.objs.size, rawInt 0, .none, .none] } : Obj) (Heap.get?_push_size s.heap (o := itO true l) rfl)
  show _ ∧ _
  rw [e1] at g2 ⊢
  exact ⟨⟨_, g2, rfl⟩, h _ g2 (itO_pos g1) fun b o e => Heap.get?_push_of_some _ (Heap.get?_push_of_some _ e)⟩
/-- one pair is handed out -/
theorem enu_item {k : Bool} {e it l : Addr} {i : Nat} {items : Array Value} {x old : Value} {Q : Option Value → Shared → Prop}
    (he : IsEnum s.heap e it i old) (p : Pos k s.heap it l i) (q : Row k s.heap l items) (hx : items[i]? = some x) (hne : e ≠ it)
    (hQ : ∀ h', IsEnumOut h' e it ((i : Int) + 1) x s.heap.objs.size → Pos k h' it l (i + 1) →
      h'.get? s.heap.objs.size = some { cls := .type "tuple", data := .seq #[.int i s.toks, x] } → h'.objs.size = s.heap.objs.size + 1 →
      (∀ b o, b ≠ e → b ≠ it → s.heap.get? b = some o → h'.get? b = some o) → Q (some (.ref s.heap.objs.size)) { s with heap := h', toks := s.toks + 1 }) :
    wpAny (model prog w) A (pyNext (.ref e)) Q E s := by
  have ty : s.TypeIs (.ref e) "enumerate" := ⟨_, he, rfl⟩
  unfold pyNext
  refine wpAny_bind (wpAny_attempt (wpAny_callSpecial?_slot (name := Str.ofString "__next__") ty F.slot_enumerate_next (wpAny_call_entry F.slot_enumerate_next ty F.entry_enumerate_next ?_ (F.args_enumerate_next_1 _))))
  obtain ⟨hp, g, d, tk, os⟩ := s
  show wpAny _ _ (field (.ref e) 2 >>= _) _ _ _
  refine wpAny_bind (wpAny_field he rfl (x := .ref it) rfl (wpAny_bind (next_item p q hx fun hA pA sA => ?_)))
  have sA : Heap.SameBut it hp hA := sA
  have eA : IsEnum hA e it i old := (sA.2 e hne).trans he
  show wpAny _ _ (field (.ref e) 3 >>= _) _ _ ⟨hA, g, d, tk, os⟩
  refine wpAny_bind (wpAny_field eA rfl (x := rawInt i) rfl ?_)
  show wpAny _ _ (field (.ref e) 4 >>= _) _ _ ⟨hA, g, d, tk, os⟩
  refine wpAny_bind (wpAny_field eA rfl (x := .none) rfl ?_)
  show wpAny _ _ (mkInt i >>= _) _ _ ⟨hA, g, d, tk, os⟩
  refine wpAny_bind (wpAny_mkInt ?_)
  show wpAny _ _ (setField (.ref e) 3 (rawInt ((i : Int) + 1)) >>= _) _ _ ⟨hA, g, d, tk + 1, os⟩
  refine wpAny_bind (wpAny_setField_rec eA (by simp) fun hB eB sB => ?_)
  have sB : Heap.SameBut e hA hB := sB
  have eB : IsEnum hB e it ((i : Int) + 1) old := eB
  show wpAny _ _ (setField (.ref e) 4 .none >>= _) _ _ ⟨hB, g, d, tk + 1, os⟩
  refine wpAny_bind (wpAny_setField_rec eB (by simp) fun hC eC sC => ?_)
  have sC : Heap.SameBut e hB hC := sC
  have eC : IsEnum hC e it ((i : Int) + 1) old := eC
  show wpAny _ _ (newTuple [.int i tk, x] >>= _) _ _ ⟨hC, g, d, tk + 1, os⟩
  refine wpAny_bind (wpAny_newTuple ?_)
  have size : hC.objs.size = hp.objs.size := by rw [sC.1, sB.1, sA.1]
  have lt : e ≠ hp.objs.size := Nat.ne_of_lt (Heap.lt_size he)
  have eD : IsEnum (hC.push { cls := .type "tuple", data := .seq #[.int i tk, x] }) e it ((i : Int) + 1) old := Heap.get?_push_of_some _ eC
  have tD : (hC.push { cls := .type "tuple", data := .seq #[.int i tk, x] }).get? hp.objs.size = some { cls := .type "tuple", data := .seq #[.int i tk, x] } := by rw [← size]; exact Heap.get?_push_size _ rfl
  have nD : (hC.push { cls := .type "tuple", data := .seq #[.int i tk, x] }).objs.size = hp.objs.size + 1 := by rw [Heap.size_push, size]
  have kD : ∀ b o, b ≠ e → b ≠ it → hp.get? b = some o → (hC.push { cls := .type "tuple", data := .seq #[.int i tk, x] }).get? b = some o := fun b o n1 n2 z => Heap.get?_push_of_some _ (sC.extBut b o n1 (sB.extBut b o n1 (sA.extBut b o n2 z)))
  have pD : Pos k (hC.push { cls := .type "tuple", data := .seq #[.int i tk, x] }) it l (i + 1) := pA.to fun o z => Heap.get?_push_of_some _ (sC.extBut _ _ hne.symm (sB.extBut _ _ hne.symm z))
  rw [size]
  generalize hC.push { cls := .type "tuple", data := .seq #[.int i tk, x] } = hD at eD tD nD kD pD ⊢
  show wpAny _ _ (Builtin.SmallTypes.ownedTupleIsFree (.ref e) >>= _) _ _ ⟨hD, g, d, tk + 1, os⟩
  refine wpAny_bind ?_
  unfold Builtin.SmallTypes.ownedTupleIsFree
  refine wpAny_bind (wpAny_field eD rfl (x := .none) rfl (wpAny_pure ?_))
  simp only [if_true]
  refine wpAny_bind (wpAny_rule (wpAny_bind (wpAny_field eD rfl (x := old) rfl ?_)))
  refine wpAny_bind (wpAny_setField_rec eD (by simp) fun hF eF sF => ?_)
  have sF : Heap.SameBut e hD hF := sF
  have eF : IsEnum hF e it ((i : Int) + 1) x := eF
  show wpAny _ _ (Builtin.SmallTypes.ownedTupleHandOut (.ref e) (.ref hp.objs.size) >>= _) _ _ ⟨hF, g, d, tk + 1, os⟩
  refine wpAny_bind ?_
  unfold Builtin.SmallTypes.ownedTupleHandOut
  refine wpAny_bind (wpAny_setField_rec eF (by simp) fun hG eG sG => ?_)
  have sG : Heap.SameBut e hF hG := sG
  have eG : IsEnumOut hG e it ((i : Int) + 1) x hp.objs.size := eG
  refine wpAny_setField_rec eG (by simp) fun hI eI sI => ?_
  have sI : Heap.SameBut e hG hI := sI
  have eI : IsEnumOut hI e it ((i : Int) + 1) x hp.objs.size := eI
  have up : ∀ b o, b ≠ e → hD.get? b = some o → hI.get? b = some o := fun b o n1 z => sI.extBut _ _ n1 (sG.extBut _ _ n1 (sF.extBut _ _ n1 z))
  refine wpAny_bind (wpAny_letGo (wpAny_pure ⟨_, rfl, wpAny_pure (hQ hI eI (pD.to fun o => up _ o hne.symm) (up _ _ lt.symm tD) ?_ fun b o n1 n2 z => up b o n1 (kD b o n1 n2 z))⟩))
  rw [sI.1, sG.1, sF.1, nD]
theorem enu_end {k : Bool} {e it l : Addr} {i : Nat} {items : Array Value} {old : Value} {Q : Option Value → Shared → Prop} (hh : A.handled = none)
    (he : IsEnum s.heap e it i old) (p : Pos k s.heap it l i) (q : Row k s.heap l items) (hx : items[i]? = none)
    (hQ : ∀ h', Heap.ExtBut it s.heap h' → Q none { s with heap := h' }) : wpAny (model prog w) A (pyNext (.ref e)) Q E s := by
  have ty : s.TypeIs (.ref e) "enumerate" := ⟨_, he, rfl⟩
  unfold pyNext
  refine wpAny_bind (wpAny_attempt (wpAny_callSpecial?_slot (name := Str.ofString "__next__") ty F.slot_enumerate_next (wpAny_call_entry F.slot_enumerate_next ty F.entry_enumerate_next ?_ (F.args_enumerate_next_1 _))))
  show wpAny _ _ (field (.ref e) 2 >>= _) _ _ _
  refine wpAny_bind (wpAny_field he rfl (x := .ref it) rfl (wpAny_bind (next_end hh p q hx fun h' z he' hz' => ?_)))
  obtain ⟨o, ho, hc⟩ := hz'
  exact wpAny_bind (wpAny_isInstance (T := "StopIteration") (b := true) ⟨o, ho, hc⟩ isSubtype_stop (wpAny_pure (hQ _ he')))
end
def ItE (K : PySem.W.Frag) (a : Addr) : It :=
  ⟨fun i H => ∃ (xs : List V) (x : V), SqT K H a xs ∧ xs[i]? = some x, fun i H v H' => ∃ T x, v = .ref T ∧ H T = none ∧ H' = upd H T (.tup [.int (i : Nat), x]) ∧ ∀ xs, SqT K H a xs → xs[i]? = some x, fun i H => ∃ xs : List V, SqT K H a xs ∧ xs.length ≤ i⟩
theorem turn_enuT {P : Program} {w : World} {K : PySem.W.Frag} {elts : List Expr} {kk : Nat} {tpos : PySem.Pos} (a e it : Addr) :
    Turn P w K (.Tuple elts kk tpos) (ItE K a) [e, it] e (fun i h => (∃ old, IsEnum h e it ((i : Nat) : Int) old) ∧ Pos true h it a i ∧ e ≠ it) where
  mem := by simp
  obj := fun i h st b hb => by
    obtain ⟨⟨old, he⟩, p, _⟩ := st
    have e' : b = e ∨ b = it := by simpa using hb
    rcases e' with rfl | rfl
    · exact ⟨_, he, fun v q => nomatch q⟩
    · exact p.obj
  keep := fun i h h' st k => let ⟨⟨old, he⟩, p, hne⟩ := st; ⟨⟨old, k e (by simp) _ he⟩, p.to (k it (by simp)), hne⟩
  item := by
    intro X hP hw hK hc i pins s σ H E I hf st hg
    subst hP hw hK
    obtain ⟨⟨old, he⟩, hit, hne⟩ := st
    obtain ⟨xs, x, hq, hx⟩ := hg
    obtain ⟨its, rv, p, hz⟩ := I.tuple hq
    obtain ⟨u, hu, ru⟩ := rv.get hx
    have elt : e < s.heap.objs.size := Heap.lt_size he
    have ilt : it < s.heap.objs.size := by
      obtain ⟨_, q, _⟩ := hit.obj
      exact Heap.lt_size q
    refine enu_item (k := true) he hit p (x := u) (by simpa using hu) hne fun h' ho hit' hT hsz hk => ?_
    refine ⟨_, rfl, wpAny_letOwnedTupleGo_enum (s := { s with heap := h', toks := s.toks + 1 }) ho fun h'' he' sb => ?_⟩
    have hT2 : h''.get? s.heap.objs.size = some { cls := .type "tuple", data := .seq #[.int i s.toks, u] } := (sb.2 _ (Nat.ne_of_gt elt)).trans hT
    have new : ObjOk X.prog X.w (upd H s.heap.objs.size (.tup [.int (i : Nat), x])) h'' s.heap.objs.size (.tup [.int (i : Nat), x]) :=
      ⟨by show 2 ≤ sizeLine; decide, [.int i s.toks, u], .cons ⟨_, rfl⟩ (.cons ru .nil), ⟨_, hT2, rfl, _, rfl⟩⟩
    have I1 : Inv X pins σ (upd H s.heap.objs.size (.tup [.int (i : Nat), x])) { s with heap := h'', toks := s.toks + 1 } :=
      I.turnedNew (ch := [e, it]) (fun b ob hb q => by
        simp only [List.mem_cons, List.not_mem_nil, or_false, not_or] at hb
        exact (sb.2 b hb.1).trans (hk b ob hb.1 hb.2 q)) hf (Nat.le_refl _) new
    refine ⟨.ref s.heap.objs.size, _, I1, rfl, ⟨_, x, rfl, I.hok.fresh (Nat.le_refl _), rfl, fun ys hy => by rw [I.tuple_inj hy hq]; exact hx⟩, ⟨⟨u, ?_⟩, hit'.to fun o q => (sb.2 it (Ne.symm hne)).trans q, hne⟩, fun b hb => ?_⟩
    · rw [show ((i + 1 : Nat) : Int) = (i : Int) + 1 by omega]
      exact he'
    · have hb' : b < s.heap.objs.size := by
        have e' : b = e ∨ b = it := by simpa using hb
        rcases e' with rfl | rfl
        · exact elt
        · exact ilt
      rw [upd_ne (Nat.ne_of_lt hb')]
      exact (hf b hb).1
  done := by
    intro X hP hw hK hc i pins s σ H E I hf st hg
    subst hP hw hK
    obtain ⟨⟨old, he⟩, hit, hne⟩ := st
    obtain ⟨xs, hq, hx⟩ := hg
    obtain ⟨its, rv, p, hz⟩ := I.tuple hq
    obtain ⟨f0, f1, f2, f3, f4, f5⟩ := hf it (by simp)
    have hl := rv.length
    exact enu_end (k := true) (I.ok.hd hc) he hit p (by simp; omega) fun h' eb => ⟨rfl, I.turned (t' := s.toks) (fun b o hb q => eb b o hb q) f0 f1 f3 f4 f5⟩
  self := fun A i s Q E st h => let ⟨⟨_, he⟩, _⟩ := st; wpAny_pyIter_enum he h
def iEnuT (K : PySem.W.Frag) (ta : TA) : TI := fun σ H R => ta σ H fun vs H1 => ∃ a xs, vs = [.ref a] ∧ SqT K H1 a xs ∧ R (ItE K a) H1
theorem pi_enumT {X : Cx} {e : Expr} {ta : TA} {p pos tpos : PySem.Pos} {elts : List Expr} {kk : Nat} (hg : Gl X "enumerate") (hm : X.mg "enumerate" = none) (ha : PA X [e] ta) (hs : starEach [e] X.env = [(false, eval e X.env)] := by rfl) :
    PI X (.Tuple elts kk tpos) (.Call (.Name "enumerate" p) [e] [] pos) (iEnuT X.K ta) := by
  refine ⟨fun pins s σ H R I h => ?_⟩
  refine Call_ (ld_blt I hg hm boot_enumerate (PyProof.Rows.callWith_type1 (thn (ha.run pos pins s σ H _ I h) fun us s1 ⟨vs, H1, I1, r1, q1⟩ => ?_) hs rfl))
  obtain ⟨a, xs, rfl, hq, q⟩ := q1
  cases r1 with
  | cons r rr =>
    cases rr
    cases r
    obtain ⟨its, rv, p', hz⟩ := I1.tuple hq
    refine call_enuT p' fun h' he hit hk => wpAny_pyIter_enum he ?_
    have I2 : Inv X pins σ H1 { s1 with heap := h' } := I1.kept (t' := s1.toks) hk
    refine ⟨s1.heap.objs.size + 1, [s1.heap.objs.size + 1, s1.heap.objs.size], _, _, H1, rfl, I2, turn_enuT a (s1.heap.objs.size + 1) s1.heap.objs.size, ⟨⟨.none, he⟩, hit, Nat.succ_ne_self _⟩, fun b hb => ?_, q⟩
    have hle : s1.heap.objs.size ≤ b := by
      have e' : b = s1.heap.objs.size + 1 ∨ b = s1.heap.objs.size := by simpa using hb
      rcases e' with z | z <;> rw [z]
      · exact Nat.le_add_right _ _
      · exact Nat.le_refl _
    exact I1.fpOk hle (I1.hok.fresh hle)
theorem walk_enuT {K : PySem.W.Frag} {a : Addr} {xs : List V} : Walk (ItE K a) xs.length (fun H => SqT K H a xs) (YPair (fun i => some (.int (i : Nat))) (fun i => xs[i]?)) := by
  refine ⟨fun i _ hi q => ⟨xs, xs[i], q, by simp [hi]⟩, fun _ q => ⟨xs, q, Nat.le_refl _⟩, fun i H v H' _ q y => ?_⟩
  obtain ⟨T, x, e1, e2, e3, e4⟩ := y
  exact ⟨T, .int (i : Nat), x, e1, e2, e3, rfl, e4 xs q⟩
end ZM

namespace Wk
open PySem L2 NumI
abbrev s_undone : Stmt := top 24
theorem sc_undone : FnScope ["modulus", "matrix", "size", "stairs", "place", "row", "step", "number"] ["modulus", "matrix"] (defScope s_undone) := ⟨rfl, rfl, rfl, by decide +kernel, rfl, by decide +kernel, by decide +kernel⟩

def wUnd (K : PySem.W.Frag) (M : Int) (n : Nat) (A : Mat) (H : Hp) (Q : VK) : Prop :=
  (∀ S H', Puts M n A n S → (∃ i, i < n ∧ (S[i]? = some none ∨ ∃ s x, S[i]? = some (some s) ∧ s[i]? = some x ∧ x ≠ 1)) → Same H H' → Q .non H') ∧
  (∀ S p H', Puts M n A n S → (∀ i, i < n → ∃ s, S[i]? = some (some s) ∧ s[i]? = some 1) → Same H H' → MatAt K H' p ((settle M n S n).map fun qs => qs.2.drop n) → Q (.ref p) H')
def spUndone (K : PySem.W.Frag) : Sp := fun vs H Q _ => ∃ (M : Int) (a : Addr) (A : Mat) (n : Nat), vs = [.int M, .ref a] ∧ 2 ≤ M ∧ M < 2 ^ 64 ∧ MatAt K H a A ∧ A.length = n ∧ (∀ r ∈ A, r.length = n) ∧ 1 ≤ n ∧ n ≤ 400 ∧ wUnd K M n A H Q
section
variable {P : Program} {w : World} {K : PySem.W.Frag} {mg : Str → Option Value} {base : Heap} {C fI fP fA fS : Addr}
theorem ok_undone {f fU : Addr} {fd fdI fdP fdS fdU : FuncData} (F : Fun K "undone" "undone" s_undone f fd) (T : TxtS K mg C fI fP fA fS)
    (G_init : FnOk P w K mg base CX0 1 fI fdI ["self", "modulus", "places"] (spStInit C)) (b_init : Binds K fdI ["self", "modulus", "places"] [])
    (G_put : FnOk P w K mg base CX0 3 fP fdP ["self", "row"] (spPut C)) (b_put : Binds K fdP ["self", "row"] [])
    (G_settled : FnOk P w K mg base CX0 2 fS fdS ["self"] (spSettled K C)) (b_settled : Binds K fdS ["self"] [])
    (G_unit : FnOk P w K mg base CX0 1 fU fdU ["size", "place"] spUnit) (g_unit : mg "unit" = some (.ref fU)) (kp_unit : PySem.W.keepIn K (.ref fU) = true) (b_unit : Binds K fdU ["size", "place"] []) :
    FnOk P w K mg base CX0 4 f fd ["modulus", "matrix"] (spUndone K) := by
  refine F.ok sc_undone (fun vs H Q E h => ?_) (fun cdv A outer s H vs Q E hr h => ?_)
  · obtain ⟨M, a, A, n, rfl, _⟩ := h
    rfl
  · obtain ⟨M, a, Am, n, rfl, hM, hM2, ⟨vs, hA, hR⟩, lA, hrow, n1, n2, kN, kY⟩ := h
    refine ⟨_, (pss_cons (ps_set (i := 2) sc_undone.nd rfl (Or.inr rfl) (pe_callB call_len_seq rfl T.f_len PySem.boot_len (pa_cons (pv 1) pa_nil)))
        (pss_cons (ps_set (i := 3) sc_undone.nd rfl (Or.inl rfl) (pe_make T.mkr G_init (hr.mono (by decide)) rfl T.mgC b_init .nil pass0 (pa_cons (pv 0) (pa_cons (pv 2) pa_nil))))
        (pss_cons (ps_for PassesOwn.never rfl (ZM.pi_enumT rfl T.f_enumerate (pa_cons (pv 1) pa_nil)) (pg_tup rfl (pgs_cons (pg_name (i := 4) sc_undone.nd rfl (Or.inl rfl)) (pgs_cons (pg_name (i := 5) sc_undone.nd rfl (Or.inl rfl)) pgs_nil))) (pss_one (ps_expr (pe_meth (pv 3) T.cl T.m_put G_put (hr.mono (by decide)) b_put .nil pass0 (pa_cons (pe_op op_cat (pe_lc (own := [("number", 7)]) (g := gName 7) rfl sc_undone.nd (pi_tup (pv 5)) (blkOk_by (N := ["modulus", "matrix", "size", "stairs", "place", "row", "step", "number"]) (sc := defScope s_undone) (by decide +kernel)) (fun _ _ _ _ _ => (pg_name (i := 7) sc_undone.nd rfl (Or.inl rfl))) (fun _ _ _ _ _ => pts_nil) (fun _ _ _ _ _ => (pe_op op_modN (pv 7) (pv 0)))) (pe_callTy (call_listK (K := K) rfl) rfl T.f_list (by decide +kernel) (pa_cons (pe_call G_unit (hr.mono (by decide)) rfl g_unit kp_unit b_unit .nil pass0 (pa_cons (pv 2) (pa_cons (pv 4) pa_nil))) pa_nil))) pa_nil)))))
        (pss_cons (ps_for PassesOwn.never rfl (pi_enum rfl T.f_enumerate (pa_cons (pe_fld (pv 3) rfl) pa_nil)) (pg_tup rfl (pgs_cons (pg_name (i := 4) sc_undone.nd rfl (Or.inl rfl)) (pgs_cons (pg_name (i := 6) sc_undone.nd rfl (Or.inl rfl)) pgs_nil))) (pss_one (ps_if (PW.pt (pw_or (pt_cmpR op_isN (pv 6) pe_non (nomark _)) (pw_or1 (pt_cmpR op_ne (pe_ix ix_list (pv 6) (pv 4) (fun _ _ => rfl)) pe_int (nomark _))))) (pss_one (ps_ret pe_non)) pss_nil)))
        (pss_one (ps_ret (pe_callTy (call_tupleK (K := K) rfl) rfl T.f_tuple (by decide +kernel) (pa_cons (pe_lc (own := [("row", 5)]) (g := gName 5) rfl sc_undone.nd (pi_tup (pe_meth0 (pv 3) T.cl T.m_settled G_settled (hr.mono (by decide)) b_settled .nil pass0)) (blkOk_by (N := ["modulus", "matrix", "size", "stairs", "place", "row", "step", "number"]) (sc := defScope s_undone) (by decide +kernel)) (fun _ _ _ _ _ => (pg_name (i := 5) sc_undone.nd rfl (Or.inl rfl))) (fun _ _ _ _ _ => pts_nil) (fun _ _ _ _ _ => (pe_slice (sl_tupAK (K := K) rfl) (pv 5) (po_some (pv 2)) po_none))) pa_nil)))))))), ?_⟩
    have hvl : vs.length = n := hR.length.trans lA
    refine ⟨_, rfl, _, _, rfl, .inr hA, ?_⟩
    rw [hvl]
    refine ⟨_, rfl, _, rfl, fun x dx nx nd ne => ⟨x, dx, M, n, rfl, upd_same, by omega, fun l H1 b1 nl st => ⟨rfl, ?_⟩⟩⟩
    have sI : Same H H1 := fun b o e => by
      have hbx : b ≠ x := ne_of_none e nx
      refine b1 b o hbx ?_
      rw [upd_ne hbx, upd_ne (ne_of_none e nd)]
      exact e
    have hHl : H l = none := by
      cases z : H l with
      | none => rfl
      | some o =>
        rw [upd_ne (ne_of_none z nx), upd_ne (ne_of_none z nd), z] at nl
        cases nl
    refine ⟨_, rfl, a, vs, rfl, SqT.same hA sI, ?_⟩
    refine for_it (ZM.walk_enuT (xs := vs)) (fun k σ H' => ∃ (x4 x5 : Option V) (S : List (Option Row)), σ = [some (.int M), some (.ref a), some (.int (n : Int)), some (.ref x), x4, x5, none, none] ∧ Puts M n Am k S ∧ Same H H' ∧ StAt C H' x l M S) ⟨none, none, _, rfl, .zero, sI, st⟩ (fun k σ H' _ ⟨_, _, _, _, _, s1, _⟩ => SqT.same hA s1) ?_ ?_
    · rintro k v σ H2 H2' hk ⟨x4, x5, S, rfl, hp, s1, st1⟩ ⟨T0, v1, v2, rfl, hT, rfl, e1, e2⟩
      cases e1
      obtain ⟨q, r, rfl, hr2, hq⟩ := rows_at hR e2
      have hrl : r.length = n := hrow _ (List.mem_of_getElem? hr2)
      have hkn : k < n := by omega
      have sT : Same H2 (upd H2 T0 (.tup [.int (k : Int), .ref q])) := same_upd hT
      have gT : (upd H2 T0 (.tup [.int (k : Int), .ref q])) T0 = some (.tup [.int (k : Int), .ref q]) := upd_same
      generalize upd H2 T0 (.tup [.int (k : Int), .ref q]) = H3 at sT gT ⊢
      have st3 := st1.same sT
      obtain ⟨⟨dx3, hx3⟩, vs3, hl3, hS3⟩ := id st3
      refine ⟨T0, _, rfl, SqT.of gT, rfl, _, _, rfl, _, _, rfl, rfl, ?_⟩
      have hq3 : RowAt K H3 q r := SqT.same hq (same_trans s1 sT)
      refine ⟨_, rfl, x, dx3, flS M l, rfl, hx3, flS_no M l (by decide +kernel) (by decide +kernel), ?_⟩
      refine ⟨_, rfl, q, rfl, ⟨_, hq3⟩, fun D hD => lc_rel (walk_tup (xs := r.map V.int)) hD (by simp; omega) (fun i v _ => ∃ z, r[i]? = some z ∧ v = .int (z % M)) (fun i v H H' h _ => h) (fun H1 e => SqT.same hq3 e) ?_ ?_⟩
      · intro i v H4 H4' Fn Nn fin hi sm hacc hy
        obtain ⟨rfl, hx⟩ := hy
        obtain ⟨z, gz, rfl⟩ := at_ints hx
        refine ⟨rfl, yesT ⟨_, rfl, _, rfl, _, _, rfl, rfl, by omega, ?_⟩⟩
        dsimp only
        rw [Int.fmod_eq_emod_of_nonneg _ (by omega)]
        exact fin _ _ (fun _ _ e => e) ⟨z, gz, rfl⟩
      · intro acc H4 a1 a2 s4 hR4
        have ea : acc = (r.map (· % M)).map V.int := by
          rw [acc_map (f := fun z => V.int (z % M)) (by simpa using a1) hR4, List.map_map]
          rfl
        have hDl : D ≠ l := fun z => by rw [z, hl3] at hD; cases hD
        refine ⟨_, rfl, _, rfl, n, k, rfl, hkn, by omega, fun p2 H5 s5 h5 => ⟨p2, _, rfl, .inr (SqT.of h5), fun l2 nl2 => ⟨D, l2, acc, _, rfl, rfl, ?_, upd_same, ?_, fun p3 np3 => ?_⟩⟩⟩
        · rw [upd_ne (ne_of_none (s5 _ _ a2) nl2)]
          exact s5 _ _ a2
        · rw [a1]
          simp [unitRow]
          exact Nat.le_trans (by omega) (show 800 ≤ sizeLine by decide)
        · have s6 : Same H3 (upd (upd H5 l2 (.lst ((unitRow n k).map V.int))) p3 (.lst (acc ++ (unitRow n k).map V.int))) := same_trans s4 (same_trans s5 (same_trans (same_upd nl2) (same_upd np3)))
          have g6 : (upd (upd H5 l2 (.lst ((unitRow n k).map V.int))) p3 (.lst (acc ++ (unitRow n k).map V.int))) p3 = some (.lst ((rowOf M n r k).map V.int)) := by
            rw [upd_same, ea]
            simp [rowOf]
          have hpl : p3 ≠ l := fun z => by
            rw [z, upd_ne (ne_of_none (s5 _ _ (s4 _ _ hl3)) nl2), s5 _ _ (s4 _ _ hl3)] at np3
            cases np3
          generalize upd (upd H5 l2 (.lst ((unitRow n k).map V.int))) p3 (.lst (acc ++ (unitRow n k).map V.int)) = H6 at s6 g6 ⊢
          obtain ⟨w1, w2⟩ := rowOf_ok hM (k := k) hrl
          refine ⟨x, l, p3, M, 2 * n, n, S, rowOf M n r k, rfl, st3.same s6, hM, hM2, by omega, by omega, hp.wf hM hrow, w1, w2, g6, hpl, fun S' r' b' H7 ch bt st7 _ _ => ?_⟩
          exact ⟨_, _, S', rfl, .succ hp hr2 ch, fun b o e => bt b o (ne_of_none e hHl) (s6 _ _ (sT _ _ (s1 _ _ e))), st7⟩
    · rintro σ H2 ⟨x4, x5, S, rfl, hp, s1, st1⟩
      rw [hvl] at hp
      have wf := hp.wf hM hrow
      obtain ⟨⟨dx2, hx2⟩, vs2, hl2, hS2⟩ := id st1
      have hvl2 : vs2.length = n := hS2.length.trans wf.len
      refine ⟨_, rfl, x, C, dx2, _, _, rfl, hx2, T.cl, T.nS, flS_s M l, l, vs2, rfl, SqL.of hl2, ?_⟩
      refine for_it (walk_enum (xs := vs2)) (fun k σ H' => ∃ (x4 x5 x6 : Option V), σ = [some (.int M), some (.ref a), some (.int (n : Int)), some (.ref x), x4, x5, x6, none] ∧ Same H2 H' ∧ ∀ i, i < k → ∃ s, S[i]? = some (some s) ∧ s[i]? = some 1) ⟨_, _, _, rfl, fun _ _ e => e, fun i h => absurd h (Nat.not_lt_zero _)⟩ (fun k σ H' _ ⟨_, _, _, _, s2, _⟩ => SqL.of (s2 _ _ hl2)) ?_ ?_
      · rintro k v σ H3 H3' hk ⟨x4, x5, x6, rfl, s2, good⟩ ⟨T0, v1, v2, rfl, hT, rfl, e1, e2⟩
        cases e1
        have hkn : k < n := by omega
        have sT : Same H3 (upd H3 T0 (.tup [.int (k : Int), v2])) := same_upd hT
        have gT : (upd H3 T0 (.tup [.int (k : Int), v2])) T0 = some (.tup [.int (k : Int), v2]) := upd_same
        generalize upd H3 T0 (.tup [.int (k : Int), v2]) = H4 at sT gT ⊢
        have s4 : Same H H4 := same_trans s1 (same_trans s2 sT)
        have hSk : S[k]? = some (S[k]'(by rw [wf.len]; exact hkn)) := List.getElem?_eq_getElem (by rw [wf.len]; exact hkn)
        refine ⟨T0, _, rfl, SqT.of gT, rfl, _, _, rfl, _, _, rfl, rfl, ?_⟩
        rcases hS2.at_ hSk with ⟨e0, ev⟩ | ⟨b, r, e0, ev, hbl, hb⟩
        · have e3 : vs2[k]? = some v2 := e2
          rw [e3] at ev
          cases ev
          exact ⟨_, rfl, rfl, true, congrArg V.bl (decide_eq_true rfl), iteT (iteT (kN S H4 hp ⟨k, hkn, .inl (by rw [hSk, e0])⟩ s4))⟩
        · have e3 : vs2[k]? = some v2 := e2
          rw [e3] at ev
          cases ev
          obtain ⟨rl, rr, ⟨y, hy, y1, _⟩, _⟩ := wf.row _ _ (hSk.trans (by rw [e0]))
          have hyV : (r.map V.int)[k]? = some (.int y) := by rw [List.getElem?_map, hy]; rfl
          refine ⟨_, rfl, rfl, false, congrArg V.bl (decide_eq_false (by intro z; cases z)), iteF ?_⟩
          refine ⟨_, rfl, _, rfl, b, _, _, _, rfl, rfl, SqL.of (sT _ _ (s2 _ _ hb)), atI_nat hyV, rfl, _, rfl, ?_⟩
          by_cases h1 : y = 1
          · rw [h1]
            refine iteNS rfl ?_
            refine ⟨_, _, _, rfl, same_trans s2 sT, fun i hi => ?_⟩
            rcases Nat.lt_succ_iff_lt_or_eq.mp hi with z | z
            · exact good i z
            · rw [z]
              exact ⟨r, by rw [hSk, e0], by rw [hy, h1]⟩
          · have e5 : (!decide (V.int y = V.int 1)) = true := by
              have : ¬ V.int y = V.int 1 := fun z => h1 (by injection z)
              simp [this]
            rw [e5]
            exact iteT (kN S H4 hp ⟨k, hkn, .inr ⟨r, y, by rw [hSk, e0], hy, h1⟩⟩ s4)
      · rintro σ H3 ⟨x4, x5, x6, rfl, s2, good⟩
        rw [hvl2] at good
        have hLl := settle_len M n S n
        refine ⟨_, rfl, x, dx2, flS M l, rfl, s2 _ _ hx2, flS_no M l (by decide +kernel) (by decide +kernel), x, l, M, 2 * n, n, S, rfl, st1.same s2, hM, hM2, by omega, by omega, wf, fun p5 H5 s5 hm => ?_⟩
        obtain ⟨ws, hw, hRw⟩ := hm
        have hwl := hRw.length
        rw [List.length_map] at hwl
        refine ⟨p5, rfl, ⟨ws, hw⟩, fun D hD => lc_rows (K := K) (walk_tup (xs := ws)) hD (by omega) ((settle M n S n).map fun qs => qs.2.drop n) (by rw [List.length_map, hwl]) (fun H' e => SqT.same hw e) ?_ (fun acc H6 e6 s6 hR6 => tup_read e6 hR6 (same_trans s1 (same_trans s2 (same_trans s5 s6))) fun p7 H7 s7 h7 => kY S p7 H7 hp good s7 h7)⟩
        rintro i r v H6 H6' Fn Nn hi hr3 fin s6 ⟨rfl, hv⟩
        obtain ⟨u, rr, rfl, hrr, hu⟩ := rows_at hRw hv
        rw [List.getElem?_map] at hr3 hrr
        cases hLi : (settle M n S n)[i]? with
        | none => rw [hLi] at hr3; cases hr3
        | some qs =>
          rw [hLi] at hr3 hrr
          cases hr3
          cases hrr
          obtain ⟨_, _, sl, _⟩ := settle_ok hM wf (by omega) n (Nat.le_refl _) qs.1 qs.2 (List.mem_of_getElem? hLi)
          have hix : HT.sIx (qs.2.map V.int).length 0 (some (n : Int)) = n := by
            rw [HT.sIx_nat]
            simp [sl]
            omega
          refine ⟨rfl, yesT ⟨_, rfl, _, rfl, n, rfl, u, _, rfl, SqT.same hu s6, fun hwh => ?_, fun _ q nq => fin q _ (same_upd nq) ?_⟩⟩
          · rw [hix] at hwh
            omega
          · rw [upd_same]
            congr 2
            unfold cutV
            rw [hix, HT.sIx_none, List.map_drop, List.take_of_length_le (by simp)]
end
end Wk

/-! sums, products of matrices as functions, modulo M -/
namespace Wk
def sumN : Nat → (Nat → Int) → Int
  | 0, _ => 0
  | n + 1, f => sumN n f + f n
theorem sumN_congr {n : Nat} {f g : Nat → Int} (h : ∀ k, k < n → f k = g k) : sumN n f = sumN n g := by
  induction n with
  | zero => rfl
  | succ n ih => rw [sumN, sumN, ih fun k hk => h k (by omega), h n (by omega)]
theorem sumN_add (n : Nat) (f g : Nat → Int) : sumN n (fun k => f k + g k) = sumN n f + sumN n g := by
  induction n with
  | zero => rfl
  | succ n ih => rw [sumN, sumN, sumN, ih]; omega
theorem sumN_zero (n : Nat) : sumN n (fun _ => 0) = 0 := by
  induction n with
  | zero => rfl
  | succ n ih => rw [sumN, ih]; rfl
theorem sumN_mul (n : Nat) (c : Int) (f : Nat → Int) : sumN n (fun k => c * f k) = c * sumN n f := by
  induction n with
  | zero => simp [sumN]
  | succ n ih => rw [sumN, sumN, ih, Int.mul_add]
theorem sumN_comm (n m : Nat) (f : Nat → Nat → Int) : sumN n (fun i => sumN m fun j => f i j) = sumN m (fun j => sumN n fun i => f i j) := by
  induction n with
  | zero => rw [sumN]; exact (sumN_zero m).symm
  | succ n ih => rw [sumN, ih, ← sumN_add]; rfl
theorem sumN_one {n a : Nat} (h : a < n) (x : Int) : sumN n (fun k => if k = a then x else 0) = x := by
  induction n with
  | zero => omega
  | succ n ih =>
    rw [sumN]
    by_cases e : a = n
    · subst e
      rw [if_pos rfl, sumN_congr (g := fun _ => 0) fun k hk => if_neg (by omega), sumN_zero]
      omega
    · rw [ih (by omega), if_neg (by omega)]
      omega
/-- equal modulo M -/
def Eqm (M a b : Int) : Prop := ∃ k, a = b + M * k
theorem Eqm.refl (M a : Int) : Eqm M a a := ⟨0, by simp⟩
theorem Eqm.symm {M a b : Int} (h : Eqm M a b) : Eqm M b a := by
  obtain ⟨k, e⟩ := h
  exact ⟨-k, by rw [e]; grind⟩
theorem Eqm.trans {M a b c : Int} (h : Eqm M a b) (g : Eqm M b c) : Eqm M a c := by
  obtain ⟨k, e⟩ := h
  obtain ⟨l, f⟩ := g
  exact ⟨k + l, by rw [e, f]; grind⟩
theorem Eqm.add {M a b c d : Int} (h : Eqm M a b) (g : Eqm M c d) : Eqm M (a + c) (b + d) := by
  obtain ⟨k, e⟩ := h
  obtain ⟨l, f⟩ := g
  exact ⟨k + l, by rw [e, f]; grind⟩
theorem Eqm.mul {M a b c d : Int} (h : Eqm M a b) (g : Eqm M c d) : Eqm M (a * c) (b * d) := by
  obtain ⟨k, e⟩ := h
  obtain ⟨l, f⟩ := g
  exact ⟨b * l + k * d + M * k * l, by rw [e, f]; grind⟩
theorem Eqm.mod (M a : Int) : Eqm M (a % M) a := ⟨-(a / M), by have := Int.emod_add_mul_ediv a M; grind⟩
theorem Eqm.eq {M a b : Int} (h : a = b) : Eqm M a b := h ▸ .refl _ _
theorem Eqm.emod {M a b : Int} (h : Eqm M a b) : a % M = b % M := by
  obtain ⟨k, e⟩ := h
  rw [e, Int.add_mul_emod_self_left]
theorem Eqm.of {M a b : Int} (h : a % M = b % M) : Eqm M a b := ((Eqm.mod M a).symm.trans (h ▸ .refl M _)).trans (Eqm.mod M b)
theorem Eqm.red {M a b : Int} (h : Eqm M a b) (ha : 0 ≤ a ∧ a < M) (hb : 0 ≤ b ∧ b < M) : a = b := by
  have := h.emod
  rwa [Int.emod_eq_of_lt ha.1 ha.2, Int.emod_eq_of_lt hb.1 hb.2] at this
theorem Eqm.sum {M : Int} {n : Nat} {f g : Nat → Int} (h : ∀ k, k < n → Eqm M (f k) (g k)) : Eqm M (sumN n f) (sumN n g) := by
  induction n with
  | zero => exact .refl _ _
  | succ n ih => exact (ih fun k hk => h k (by omega)).add (h n (by omega))
abbrev Fm := Nat → Nat → Int
def mulF (n : Nat) (A B : Fm) : Fm := fun i j => sumN n fun k => A i k * B k j
def oneF : Fm := fun i j => if i = j then 1 else 0
/-- equal modulo M on n places -/
def EqF (M : Int) (n : Nat) (A B : Fm) : Prop := ∀ i j, i < n → j < n → Eqm M (A i j) (B i j)
theorem EqF.refl (M : Int) (n : Nat) (A : Fm) : EqF M n A A := fun _ _ _ _ => .refl _ _
theorem EqF.symm {M : Int} {n : Nat} {A B : Fm} (h : EqF M n A B) : EqF M n B A := fun i j a b => (h i j a b).symm
theorem EqF.trans {M : Int} {n : Nat} {A B C : Fm} (h : EqF M n A B) (g : EqF M n B C) : EqF M n A C := fun i j a b => (h i j a b).trans (g i j a b)
theorem EqF.mul {M : Int} {n : Nat} {A B C D : Fm} (h : EqF M n A B) (g : EqF M n C D) : EqF M n (mulF n A C) (mulF n B D) := fun i j a b => Eqm.sum fun k hk => (h i k a hk).mul (g k j hk b)
theorem mulF_assoc (n : Nat) (A B C : Fm) : mulF n (mulF n A B) C = mulF n A (mulF n B C) := by
  funext i j
  show sumN n (fun k => sumN n (fun l => A i l * B l k) * C k j) = sumN n (fun l => A i l * sumN n fun k => B l k * C k j)
  have e1 : ∀ k, sumN n (fun l => A i l * B l k) * C k j = sumN n fun l => A i l * (B l k * C k j) := fun k => by
    rw [Int.mul_comm, ← sumN_mul]
    exact sumN_congr fun l _ => by grind
  have e2 : ∀ l, A i l * sumN n (fun k => B l k * C k j) = sumN n fun k => A i l * (B l k * C k j) := fun l => (sumN_mul n _ _).symm
  rw [sumN_congr fun k _ => e1 k, sumN_comm, sumN_congr fun l _ => (e2 l).symm]
theorem mulF_one {M : Int} (n : Nat) (A : Fm) : EqF M n (mulF n A oneF) A := fun i j hi hj => by
  have : mulF n A oneF i j = A i j := by
    show sumN n (fun k => A i k * oneF k j) = _
    rw [sumN_congr (g := fun k => if k = j then A i j else 0) fun k hk => ?_, sumN_one hj]
    show A i k * (if k = j then 1 else 0) = _
    split
    · rename_i e; rw [e]; simp
    · simp
  rw [this]
  exact .refl _ _
theorem one_mulF {M : Int} (n : Nat) (A : Fm) : EqF M n (mulF n oneF A) A := fun i j hi hj => by
  have : mulF n oneF A i j = A i j := by
    show sumN n (fun k => oneF i k * A k j) = _
    rw [sumN_congr (g := fun k => if k = i then A i j else 0) fun k hk => ?_, sumN_one hi]
    show (if i = k then (1 : Int) else 0) * A k j = _
    by_cases e : k = i
    · subst e; simp
    · rw [if_neg (fun z => e z.symm), if_neg e]; simp
  rw [this]
  exact .refl _ _
def powF (n : Nat) (A : Fm) : Nat → Fm
  | 0 => oneF
  | e + 1 => mulF n (powF n A e) A
theorem powF_add {M : Int} (n : Nat) (A : Fm) (a b : Nat) : EqF M n (powF n A (a + b)) (mulF n (powF n A a) (powF n A b)) := by
  induction b with
  | zero => exact (mulF_one n _).symm
  | succ b ih =>
    show EqF M n (mulF n (powF n A (a + b)) A) (mulF n (powF n A a) (mulF n (powF n A b) A))
    rw [← mulF_assoc]
    exact ih.mul (.refl _ _ _)
theorem powF_sq {M : Int} (n : Nat) (A : Fm) (m : Nat) : EqF M n (powF n (mulF n A A) m) (powF n A (2 * m)) := by
  induction m with
  | zero => exact .refl _ _ _
  | succ m ih =>
    show EqF M n (mulF n (powF n (mulF n A A) m) (mulF n A A)) (powF n A (2 * m + 1 + 1))
    refine (ih.mul (.refl _ _ _)).trans ?_
    rw [← mulF_assoc]
    exact .refl _ _ _
theorem powF_congr {M : Int} {n : Nat} {A B : Fm} (h : EqF M n A B) (m : Nat) : EqF M n (powF n A m) (powF n B m) := by
  induction m with
  | zero => exact .refl _ _ _
  | succ m ih => exact ih.mul h
/-! matrices as lists -/
def ent (A : Mat) : Fm := fun i j => (A.getD i []).getD j 0
def Shp (h w : Nat) (A : Mat) : Prop := A.length = h ∧ ∀ r ∈ A, r.length = w
def MRed (M : Int) (A : Mat) : Prop := ∀ r ∈ A, RRed M r
theorem dot_sum : ∀ (n : Nat) (a b : List Int), a.length = n → b.length = n → dotZ a b = sumN n fun k => a.getD k 0 * b.getD k 0 := by
  intro n
  induction n with
  | zero =>
    intro a b h1 h2
    rw [List.eq_nil_of_length_eq_zero h1]
    rfl
  | succ n ih =>
    intro a b h1 h2
    have ea := List.dropLast_concat_getLast (l := a) (by intro z; rw [z] at h1; simp at h1)
    have eb := List.dropLast_concat_getLast (l := b) (by intro z; rw [z] at h2; simp at h2)
    have la : a.dropLast.length = n := by simp [h1]
    have lb : b.dropLast.length = n := by simp [h2]
    generalize a.getLast _ = x at ea
    generalize b.getLast _ = y at eb
    generalize a.dropLast = a' at *
    generalize b.dropLast = b' at *
    subst ea eb
    unfold dotZ
    rw [List.zipWith_append (by omega), sumN]
    have := ih a' b' la lb
    unfold dotZ at this
    simp only [List.sum_append, this, List.zipWith_cons_cons, List.zipWith_nil_right, List.sum_cons, List.sum_nil, Int.add_zero]
    congr 1
    · refine sumN_congr fun k hk => ?_
      rw [List.getD_eq_getElem?_getD, List.getD_eq_getElem?_getD, List.getD_eq_getElem?_getD, List.getD_eq_getElem?_getD, List.getElem?_append_left (by omega), List.getElem?_append_left (by omega)]
    · simp [List.getD_eq_getElem?_getD, ← la, List.getElem?_append_right]
      rw [show a'.length = b'.length by omega]
      simp
theorem ent_at {A : Mat} {i : Nat} {r : Row} (h : A[i]? = some r) (j : Nat) : ent A i j = r.getD j 0 := by
  have e : A.getD i [] = r := by
    rw [List.getD_eq_getElem?_getD, h]
    rfl
  unfold ent
  rw [e]
theorem shp_at {h w : Nat} {A : Mat} (s : Shp h w A) {i : Nat} (hi : i < h) : ∃ r, A[i]? = some r ∧ r.length = w := ⟨A[i]'(by rw [s.1]; exact hi), List.getElem?_eq_getElem _, s.2 _ (List.getElem_mem _)⟩
theorem mat_ext {h w : Nat} {A B : Mat} (sA : Shp h w A) (sB : Shp h w B) (e : ∀ i j, i < h → j < w → ent A i j = ent B i j) : A = B := by
  apply List.ext_getElem?
  intro i
  by_cases hi : i < h
  · obtain ⟨a, ha, la⟩ := shp_at sA hi
    obtain ⟨b, hb, lb⟩ := shp_at sB hi
    rw [ha, hb]
    congr 1
    apply List.ext_getElem?
    intro j
    by_cases hj : j < w
    · have := e i j hi hj
      rw [ent_at ha, ent_at hb, List.getD_eq_getElem?_getD, List.getD_eq_getElem?_getD, List.getElem?_eq_getElem (by omega), List.getElem?_eq_getElem (by omega)] at this
      rw [List.getElem?_eq_getElem (by omega), List.getElem?_eq_getElem (by omega)]
      exact congrArg some this
    · rw [List.getElem?_eq_none (by omega), List.getElem?_eq_none (by omega)]
  · rw [List.getElem?_eq_none (by rw [sA.1]; omega), List.getElem?_eq_none (by rw [sB.1]; omega)]
theorem prod_shp {M : Int} {h m n : Nat} {A B : Mat} (sA : Shp h m A) : Shp h n (prodM M n A B) := by
  refine ⟨by simp [prodM, sA.1], fun r hr => ?_⟩
  obtain ⟨a, _, rfl⟩ := List.mem_map.mp hr
  simp [applyM, colsOf]
theorem prod_red {M : Int} (hM : 1 ≤ M) {n : Nat} {A B : Mat} : MRed M (prodM M n A B) := fun r hr x hx => by
  obtain ⟨a, _, rfl⟩ := List.mem_map.mp hr
  obtain ⟨c, _, rfl⟩ := List.mem_map.mp hx
  exact mod_red hM _
theorem ent_prod {M : Int} {h m n : Nat} {A B : Mat} (sA : Shp h m A) (sB : Shp m n B) {i j : Nat} (hi : i < h) (hj : j < n) : ent (prodM M n A B) i j = (sumN m fun k => ent A i k * ent B k j) % M := by
  obtain ⟨a, ha, la⟩ := shp_at sA hi
  have e1 : (prodM M n A B)[i]? = some (applyM M (colsOf n B) a) := by simp [prodM, ha]
  rw [ent_at e1]
  have e2 : (applyM M (colsOf n B) a)[j]? = some (dotZ (B.map fun r => r.getD j 0) a % M) := by
    simp [applyM, colsOf, List.getElem?_range hj]
  rw [List.getD_eq_getElem?_getD, e2, Option.getD_some, dot_sum m _ _ (by simp [sB.1]) la]
  congr 1
  refine sumN_congr fun k hk => ?_
  obtain ⟨b, hb, lb⟩ := shp_at sB hk
  rw [ent_at ha, ent_at hb, Int.mul_comm]
  congr 1
  rw [List.getD_eq_getElem?_getD, List.getElem?_map, hb]
  rfl
theorem prod_F {M : Int} {n : Nat} {A B : Mat} (sA : Shp n n A) (sB : Shp n n B) : EqF M n (ent (prodM M n A B)) (mulF n (ent A) (ent B)) := fun i j hi hj => by
  rw [ent_prod sA sB hi hj]
  exact Eqm.mod _ _
theorem one_shp (n : Nat) : Shp n n (idM n) := ⟨by simp [idM], fun r hr => by
  obtain ⟨p, _, rfl⟩ := List.mem_map.mp hr
  simp [unitRow]⟩
theorem one_ent {n i j : Nat} (hi : i < n) (hj : j < n) : ent (idM n) i j = oneF i j := by
  have e : (idM n)[i]? = some (unitRow n i) := by simp [idM, List.getElem?_range hi]
  rw [ent_at e, List.getD_eq_getElem?_getD]
  simp only [unitRow, List.getElem?_map, List.getElem?_range hj, Option.map_some, Option.getD_some]
  show (if j = i then (1 : Int) else 0) = if i = j then 1 else 0
  by_cases e : i = j
  · rw [if_pos e, if_pos e.symm]
  · rw [if_neg e, if_neg (fun z => e z.symm)]
theorem one_red {M : Int} (hM : 2 ≤ M) (n : Nat) : MRed M (idM n) := fun r hr x hx => by
  obtain ⟨p, _, rfl⟩ := List.mem_map.mp hr
  obtain ⟨j, _, rfl⟩ := List.mem_map.mp hx
  split <;> omega
theorem mred_ent {M : Int} {h w : Nat} {A : Mat} (sA : Shp h w A) (r : MRed M A) {i j : Nat} (hi : i < h) (hj : j < w) : 0 ≤ ent A i j ∧ ent A i j < M := by
  obtain ⟨a, ha, la⟩ := shp_at sA hi
  rw [ent_at ha, List.getD_eq_getElem?_getD, List.getElem?_eq_getElem (by omega)]
  exact r a (List.mem_of_getElem? ha) _ (List.getElem_mem _)
theorem mat_eqm {M : Int} {n : Nat} {A B : Mat} (sA : Shp n n A) (sB : Shp n n B) (rA : MRed M A) (rB : MRed M B) (e : EqF M n (ent A) (ent B)) : A = B :=
  mat_ext sA sB fun i j hi hj => (e i j hi hj).red (mred_ent sA rA hi hj) (mred_ent sB rB hi hj)
theorem mpow_ok {M : Int} (hM : 2 ≤ M) {n : Nat} {A : Mat} (sA : Shp n n A) : ∀ e, Shp n n (mpow M n A e) ∧ MRed M (mpow M n A e) ∧ EqF M n (ent (mpow M n A e)) (powF n (ent A) e)
  | 0 => ⟨one_shp n, one_red hM n, fun i j hi hj => by
    show Eqm M (ent (idM n) i j) (oneF i j)
    rw [one_ent hi hj]
    exact .refl _ _⟩
  | e + 1 => by
    obtain ⟨a, b, c⟩ := mpow_ok hM sA e
    exact ⟨prod_shp a, prod_red (by omega), (prod_F a sA).trans (c.mul (.refl _ _ _))⟩
end Wk

/-! a list or a tuple, of the kind that the flag tells -/
namespace Wk
open PySem PySem.Spec PyProof.Rows L2
def Jsq (t : Bool) (K : PySem.W.Frag) (a : Addr) : It := if t = true then Itt K a else Itl K a
def iSq (t : Bool) (K : PySem.W.Frag) (tl : TE) : TI := fun σ H R => tl σ H fun x H1 => ∃ a, x = .ref a ∧ (∃ xs, ZM.SqK t K H1 a xs) ∧ R (Jsq t K a) H1
theorem pi_sqK {X : Cx} {K : PySem.W.Frag} (hK : X.K = K) (t : Bool) {tg l : Expr} {tl : TE} (hl : PE X l tl) : PI X tg l (iSq t K tl) := by
  subst hK
  cases t
  · exact pi_list hl
  · exact pi_tup hl
theorem walk_sq {K : PySem.W.Frag} {t : Bool} {a : Addr} {xs : List V} : Walk (Jsq t K a) xs.length (fun H => ZM.SqK t K H a xs) (YAt xs) := by
  cases t
  · exact walk_list
  · exact walk_tup
def rIxSq (t : Bool) (K : PySem.W.Frag) : R2 := fun x y H Q => ∃ p xs i v, x = .ref p ∧ y = .int i ∧ ZM.SqK t K H p xs ∧ atI xs i = some v ∧ Q v H
theorem ix_sqK {X : Cx} {K : PySem.W.Frag} (hK : X.K = K) (t : Bool) : IxR X (rIxSq t K) := by
  subst hK
  cases t
  · exact ix_list
  · exact ix_tup
def rLenSq (t : Bool) (K : PySem.W.Frag) : List V → Hp → VK → Prop := fun xs H Q => ∃ p ys, xs = [.ref p] ∧ ZM.SqK t K H p ys ∧ Q (.int ys.length) H
theorem call_lenSqK {X : Cx} {K : PySem.W.Frag} (hK : X.K = K) (t : Bool) : CallR X (.builtin "len") (rLenSq t K) := by
  subst hK
  intro pins s σ H xs us Q I r h
  obtain ⟨p, ys, e, hs, q⟩ := h
  refine call_len_seq pins s σ H xs us Q I r ⟨p, ys, e, ?_, q⟩
  cases t
  · exact .inl hs
  · exact .inr hs
theorem pe_fldK {X : Cx} {K : PySem.W.Frag} (hK : X.K = K) {e : Expr} {f : Str} {pos : PySem.Pos} {ta : TE} (he : PE X e ta) (hb : attributeBase e f X.env (eval e X.env) = eval e X.env) : PE X (.Attribute e f pos) (tFld K ta f) := hK ▸ pe_fld he hb
/-- a comprehension that keeps what a test tells -/
theorem lc_fil {α : Type} {J : It} {n : Nat} {G : Hp → Prop} {Y : Nat → Hp → V → Hp → Prop} (w : Walk J n G Y) {g : TG} {tt : TT} {te : TE} {vs : List Nat} {σ : L2.St} {H1 : Hp} {D : Addr} {Qd : Hp → Prop} (hD : H1 D = none) (hn : n ≤ 1000000) (as : List α) (ha : as.length = n) (p : α → Bool) (f : α → V)
    (hG : ∀ H, Same H1 H → G H)
    (hs : ∀ (i : Nat) (a : α) (x : V) (H H' : Hp) (Fn : V → Hp → Prop) (Nn : Hp → Prop), as[i]? = some a → (∀ H4, Same H H4 → p a = true → Fn (f a) H4) → (∀ H4, Same H H4 → p a = false → Nn H4) → Same H1 H → Y i H x H' → g x (wipe σ vs) H' fun σ2 H2 => wipe σ2 vs = wipe σ vs ∧ tt σ2 H2 fun b H3 => if b = true then te σ2 H3 Fn else Nn H3)
    (hd : ∀ H, H D = some (.lst ((as.filter p).map f)) → Same H1 H → Qd H) :
    ∃ W : Nat → Nat → Hp → Prop, (∃ m, W 0 m (upd H1 D (.lst []))) ∧ ∀ i m H, W i m H →
      (J.stop i H ∧ Qd H) ∨ (J.go i H ∧ ∃ Nx : Hp → Prop, (∀ H', Nx H' → ∃ m', m' < m ∧ W (i + 1) m' H') ∧ ∀ x H', J.yld i H x H' → g x (wipe σ vs) H' fun σ2 H2 => wipe σ2 vs = wipe σ vs ∧ tt σ2 H2 fun b H3 =>
        if b = true then te σ2 H3 fun y H4 => ∃ acc, H4 D = some (.lst acc) ∧ acc.length < sizeLine ∧ Nx (upd H4 D (.lst (acc ++ [y]))) else Nx H3) := by
  refine lc_it w (fun i H => H D = some (.lst (((as.take i).filter p).map f)) ∧ ∀ b o, b ≠ D → H1 b = some o → H b = some o) ⟨by rw [upd_same]; rfl, fun b o n e => by rw [upd_ne n]; exact e⟩ (fun i H hi h => hG H fun b o e => h.2 b o (fun z => by rw [z, hD] at e; cases e) e) ?_ fun H h => hd H ?_ ?_
  · intro i x H H' hi ⟨h1, h2⟩ hy
    have hia : as[i]? = some (as[i]'(by omega)) := List.getElem?_eq_getElem (by omega)
    have ht : as.take (i + 1) = as.take i ++ [as[i]'(by omega)] := by
      rw [List.take_succ, hia]
      rfl
    have sm : Same H1 H := fun b o e => h2 b o (fun z => by rw [z, hD] at e; cases e) e
    refine hs i _ x H H' _ _ hia (fun H4 s4 hp => ⟨_, s4 _ _ h1, ?_, ?_, fun b o nb e => ?_⟩) (fun H4 s4 hp => ⟨?_, fun b o nb e => s4 _ _ (h2 b o nb e)⟩) sm hy
    · have l1 := List.length_filter_le p (as.take i)
      rw [List.length_map]
      rw [List.length_take] at l1
      exact Nat.lt_of_lt_of_le (show _ < 1000001 by omega) (by decide)
    · rw [upd_same, ht, List.filter_append, List.map_append]
      congr 3
      rw [List.filter_cons_of_pos hp]
      rfl
    · rw [upd_ne nb]
      exact s4 _ _ (h2 b o nb e)
    · rw [ht, List.filter_append, List.filter_cons_of_neg (by rw [hp]; exact Bool.false_ne_true)]
      simp only [List.filter_nil, List.append_nil]
      exact s4 _ _ h1
  · rw [← ha, List.take_length] at h
    exact h.1
  · exact fun b o e => h.2 b o (fun z => by rw [z, hD] at e; cases e) e
end Wk

/-! enumerate of a list or a tuple, of the kind that the flag tells; isinstance -/
namespace Wk
open PySem PySem.Spec PyProof.Rows L2
def JEn (t : Bool) (K : PySem.W.Frag) (a : Addr) : It := if t = true then ZM.ItE K a else Ite K a
def iEnSq (t : Bool) (K : PySem.W.Frag) (ta : TA) : TI := fun σ H R => ta σ H fun vs H1 => ∃ a xs, vs = [.ref a] ∧ ZM.SqK t K H1 a xs ∧ R (JEn t K a) H1
theorem pi_enSqK {X : Cx} {K : PySem.W.Frag} (hK : X.K = K) (t : Bool) {e : Expr} {ta : TA} {p pos tpos : PySem.Pos} {elts : List Expr} {kk : Nat} (hg : Gl X "enumerate") (hm : X.mg "enumerate" = none) (ha : PA X [e] ta) (hs : starEach [e] X.env = [(false, eval e X.env)] := by rfl) :
    PI X (.Tuple elts kk tpos) (.Call (.Name "enumerate" p) [e] [] pos) (iEnSq t K ta) := by
  subst hK
  cases t
  · exact pi_enum hg hm ha hs
  · exact ZM.pi_enumT hg hm ha hs
theorem walk_enSq {K : PySem.W.Frag} {t : Bool} {a : Addr} {xs : List V} : Walk (JEn t K a) xs.length (fun H => ZM.SqK t K H a xs) (YPair (fun i => some (.int (i : Nat))) (fun i => xs[i]?)) := by
  cases t
  · exact walk_enum
  · exact ZM.walk_enuT
def tyN (t : Bool) : String := if t = true then "tuple" else "list"
theorem SqK.ty {t : Bool} {K : PySem.W.Frag} {H : Hp} {a : Addr} {xs : List V} (h : ZM.SqK t K H a xs) : TyX K H (.ref a) (.type (tyN t)) := by
  cases t
  · rcases h with (h | ⟨o, h⟩) | ⟨o, _, _, e, c, _⟩
    · exact .base (.lst h)
    · exact .base (.frz h)
    · exact .kList e c
  · rcases h with (h | ⟨o, h⟩) | ⟨o, _, _, e, c, _⟩
    · exact .base (.tup h)
    · exact .fTuple h
    · exact .kTuple e c
theorem kit_lt {K : PySem.W.Frag} (t : Bool) : PySem.W.kitAny K (.type (tyN t)) [.type "list", .type "tuple"] = some true := by
  cases t
  · exact kitAny_cons (b := true) (kit_ty (by decide +kernel)) (fun z => by cases z) (fun _ => rfl)
  · exact kitAny_cons (b := false) (kit_ty (by decide +kernel)) (fun _ => kitAny_cons (b := true) (kit_ty (by decide +kernel)) (fun z => by cases z) (fun _ => rfl)) (fun z => by cases z)
theorem call_isiTK {X : Cx} {K : PySem.W.Frag} (hK : X.K = K) : CallR X (.builtin "isinstance") (rIsiT K) := hK ▸ call_isiT
theorem call_isiK {X : Cx} {K : PySem.W.Frag} (hK : X.K = K) : CallR X (.builtin "isinstance") (rIsi K) := hK ▸ call_isi
/-- a comprehension whose items are rows, new or not -/
theorem lc_rowsT {K : PySem.W.Frag} {J : It} {n : Nat} {G : Hp → Prop} {Y : Nat → Hp → V → Hp → Prop} (w : Walk J n G Y) {g : TG} {tt : TT} {te : TE} {vs : List Nat} {σ : L2.St} {H1 : Hp} {D : Addr} {Qd : Hp → Prop} (hD : H1 D = none) (hn : n ≤ 1000000)
    (A : Mat) (hA : A.length = n) (hG : ∀ H, Same H1 H → G H)
    (hs : ∀ (i : Nat) (r : List Int) (x : V) (H H' : Hp) (Fn : V → Hp → Prop) (Nn : Hp → Prop), i < n → A[i]? = some r → (∀ p H4, Same H H4 → SqT K H4 p (r.map V.int) → Fn (.ref p) H4) → Same H1 H → Y i H x H' → g x (wipe σ vs) H' fun σ2 H2 => wipe σ2 vs = wipe σ vs ∧ tt σ2 H2 fun b H3 => if b = true then te σ2 H3 Fn else Nn H3)
    (hd : ∀ (acc : List V) H, H D = some (.lst acc) → Same H1 H → RowsAre K H acc A → Qd H) :
    ∃ W : Nat → Nat → Hp → Prop, (∃ m, W 0 m (upd H1 D (.lst []))) ∧ ∀ i m H, W i m H →
      (J.stop i H ∧ Qd H) ∨ (J.go i H ∧ ∃ Nx : Hp → Prop, (∀ H', Nx H' → ∃ m', m' < m ∧ W (i + 1) m' H') ∧ ∀ x H', J.yld i H x H' → g x (wipe σ vs) H' fun σ2 H2 => wipe σ2 vs = wipe σ vs ∧ tt σ2 H2 fun b H3 =>
        if b = true then te σ2 H3 fun y H4 => ∃ acc, H4 D = some (.lst acc) ∧ acc.length < sizeLine ∧ Nx (upd H4 D (.lst (acc ++ [y]))) else Nx H3) := by
  refine lc_rel w hD hn (fun (i : Nat) v H => ∃ (p : Addr) (r : List Int), v = V.ref p ∧ A[i]? = some r ∧ SqT K H p (r.map V.int) ∧ (p ≠ D ∨ ∀ H', SqT K H' p (r.map V.int))) (fun i v H H' ⟨p, r, h1, h3, h4, h2⟩ e => ⟨p, r, h1, h3, ?_, h2⟩) hG ?_ ?_
  · rcases h2 with h2 | h2
    · rcases h4 with (h | ⟨o, h⟩) | h
      · exact .inl (.inl (e _ _ h2 h))
      · exact .inl (.inr ⟨o, e _ _ h2 h⟩)
      · exact .inr h
    · exact h2 _
  · intro i x H H' Fn Nn fin hi sm ⟨acc, hacc⟩ hy
    have hAi : A[i]? = some (A[i]'(by omega)) := List.getElem?_eq_getElem (by omega)
    refine hs i _ x H H' Fn Nn hi hAi (fun p H4 s4 hp => fin _ _ s4 ⟨p, _, rfl, hAi, hp, ?_⟩) sm hy
    rcases hp with (h | ⟨o, h⟩) | h
    · exact .inl fun z => by rw [z, s4 _ _ hacc] at h; cases h
    · exact .inl fun z => by rw [z, s4 _ _ hacc] at h; cases h
    · exact .inr fun _ => .inr h
  · intro acc H h1 h2 sm hR
    refine hd acc H h2 sm ?_
    have key : ∀ (vs : List V) (A : Mat), vs.length = A.length → (∀ (j : Nat) (v : V), vs[j]? = some v → ∃ (p : Addr) (r : List Int), v = V.ref p ∧ A[j]? = some r ∧ SqT K H p (r.map V.int)) → RowsAre K H vs A := by
      intro vs
      induction vs with
      | nil =>
        intro A hl _
        cases A with
        | nil => exact .nil
        | cons _ _ => cases hl
      | cons v vs ih =>
        intro A hl hh
        cases A with
        | nil => cases hl
        | cons r A =>
          obtain ⟨p, r', rfl, e, h⟩ := hh 0 v rfl
          cases e
          exact .cons h (ih A (by simpa using hl) fun j v e => hh (j + 1) v e)
    exact key acc A (by omega) fun j v e => by
      obtain ⟨p, r, a, b, c, _⟩ := hR j v e
      exact ⟨p, r, a, b, c⟩
def rIsIB : R2 := fun x y H Q => ∃ (i : Int) (b : Bool), x = .int i ∧ y = .bl b ∧ Q (.bl false) H
theorem op_isIB {X : Cx} : OpR X (compareOp .Is) rIsIB := by
  intro pins s σ H x y v u Q I rx ry h
  obtain ⟨i, b, rfl, rfl, q⟩ := h
  obtain ⟨t, e⟩ := (show ∃ t, v = Value.int i t from rx)
  cases e
  cases (show u = Value.bool b from ry)
  exact wpAny_is_other rfl (fun z => nomatch z) ⟨.bl false, H, I, rfl, q⟩
end Wk

namespace Wk
open PySem L2
abbrev s_is_integer : Stmt := top 26
theorem sc_is_integer : FnScope ["value"] ["value"] (defScope s_is_integer) := ⟨rfl, rfl, rfl, by decide +kernel, rfl, by decide +kernel, by decide +kernel⟩
abbrev s_is_within : Stmt := top 27
theorem sc_is_within : FnScope ["value", "least", "most"] ["value", "least", "most"] (defScope s_is_within) := ⟨rfl, rfl, rfl, by decide +kernel, rfl, by decide +kernel, by decide +kernel⟩
abbrev s_is_list : Stmt := top 28
theorem sc_is_list : FnScope ["value"] ["value"] (defScope s_is_list) := ⟨rfl, rfl, rfl, by decide +kernel, rfl, by decide +kernel, by decide +kernel⟩
abbrev s_wrong_number : Stmt := top 29
theorem sc_wrong_number : FnScope ["numbers", "many", "modulus", "index", "number"] ["numbers", "many", "modulus"] (defScope s_wrong_number) := ⟨rfl, rfl, rfl, by decide +kernel, rfl, by decide +kernel, by decide +kernel⟩
abbrev s_wrong_row : Stmt := top 30
theorem sc_wrong_row : FnScope ["rows", "many", "width", "modulus", "index", "row"] ["rows", "many", "width", "modulus"] (defScope s_wrong_row) := ⟨rfl, rfl, rfl, by decide +kernel, rfl, by decide +kernel, by decide +kernel⟩
abbrev s_wrong_symbol : Stmt := top 31
theorem sc_wrong_symbol : FnScope ["block", "width", "modulus", "index", "symbol", "number"] ["block", "width", "modulus"] (defScope s_wrong_symbol) := ⟨rfl, rfl, rfl, by decide +kernel, rfl, by decide +kernel, by decide +kernel⟩

structure TxtV (mg : Str → Option Value) : Prop where
  f_isinstance : mg "isinstance" = none
  f_int : mg "int" = none
  f_bool : mg "bool" = none
  f_list : mg "list" = none
  f_tuple : mg "tuple" = none
  f_len : mg "len" = none
  f_enumerate : mg "enumerate" = none
  f_zip : mg "zip" = none
  f_range : mg "range" = none
def spIntI : Sp := fun vs H Q _ => ∃ i : Int, vs = [.int i] ∧ Q (.bl true) H
def spWithinI : Sp := fun vs H Q _ => ∃ (n lo hi : Int), vs = [.int n, .int lo, .int hi] ∧ Q (.bl (decide (lo ≤ n) && decide (n ≤ hi))) H
def spIsList (K : PySem.W.Frag) : Sp := fun vs H Q _ => ∃ (t : Bool) (a : Addr) (xs : List V), vs = [.ref a] ∧ ZM.SqK t K H a xs ∧ ∀ H', Same H H' → Q (.bl true) H'
def spWNum (K : PySem.W.Frag) : Sp := fun vs H Q _ => ∃ (t : Bool) (a : Addr) (r : Row) (n : Nat) (M : Int), vs = [.ref a, .int (n : Int), .int M] ∧ ZM.SqK t K H a (r.map V.int) ∧ r.length = n ∧ n ≤ 1000 ∧ RRed M r ∧ ∀ H', Same H H' → Q .non H'
/-- a list or tuple of lists or tuples of ints -/
inductive RowsS (u : Bool) (K : PySem.W.Frag) (H : Hp) : List V → Mat → Prop
  | nil : RowsS u K H [] []
  | cons {p : Addr} {r : Row} {vs : List V} {A : Mat} (h : ZM.SqK u K H p (r.map V.int)) (t : RowsS u K H vs A) : RowsS u K H (.ref p :: vs) (r :: A)
theorem RowsS.length {u : Bool} {K : PySem.W.Frag} {H : Hp} : ∀ {vs : List V} {A : Mat}, RowsS u K H vs A → vs.length = A.length
  | _, _, .nil => rfl
  | _, _, .cons _ t => congrArg Nat.succ t.length
theorem RowsS.at_ {u : Bool} {K : PySem.W.Frag} {H : Hp} : ∀ {vs : List V} {A : Mat}, RowsS u K H vs A → ∀ {i : Nat} {x : V}, vs[i]? = some x → ∃ (p : Addr) (l : Row), x = .ref p ∧ A[i]? = some l ∧ ZM.SqK u K H p (l.map V.int)
  | _, _, .nil, i, x, e => by simp at e
  | _, _, .cons h t, 0, x, e => by
    cases e
    exact ⟨_, _, rfl, rfl, h⟩
  | _, _, .cons h t, i + 1, x, e => t.at_ (i := i) e
theorem RowsS.get {u : Bool} {K : PySem.W.Frag} {H : Hp} : ∀ {vs : List V} {A : Mat}, RowsS u K H vs A → ∀ {i : Nat} {l : Row}, A[i]? = some l → ∃ (p : Addr), vs[i]? = some (.ref p) ∧ ZM.SqK u K H p (l.map V.int)
  | _, _, .nil, i, x, e => by simp at e
  | _, _, .cons h t, 0, x, e => by
    cases e
    exact ⟨_, rfl, h⟩
  | _, _, .cons h t, i + 1, x, e => t.get (i := i) e
theorem RowsS.same {u : Bool} {K : PySem.W.Frag} {H H' : Hp} (e : Same H H') : ∀ {vs : List V} {A : Mat}, RowsS u K H vs A → RowsS u K H' vs A
  | _, _, .nil => .nil
  | _, _, .cons h t => .cons (SqK.same h e) (t.same e)
def RowsG (t u : Bool) (K : PySem.W.Frag) (H : Hp) (a : Addr) (A : Mat) : Prop := ∃ vs, ZM.SqK t K H a vs ∧ RowsS u K H vs A
theorem RowsG.same {t u : Bool} {K : PySem.W.Frag} {H H' : Hp} {a : Addr} {A : Mat} (h : RowsG t u K H a A) (e : Same H H') : RowsG t u K H' a A := by
  obtain ⟨vs, h1, h2⟩ := h
  exact ⟨vs, SqK.same h1 e, h2.same e⟩
def spWRow (K : PySem.W.Frag) : Sp := fun vs H Q _ => ∃ (t u : Bool) (a : Addr) (A : Mat) (n w : Nat) (M : Int), vs = [.ref a, .int (n : Int), .int (w : Int), .int M] ∧ RowsG t u K H a A ∧ A.length = n ∧ n ≤ 1000 ∧ w ≤ 1000 ∧ (∀ r ∈ A, r.length = w) ∧ MRed M A ∧ ∀ H', Same H H' → Q .non H'
def spWSym (K : PySem.W.Frag) : Sp := fun vs H Q _ => ∃ (t : Bool) (a : Addr) (A : Mat) (w : Nat) (M : Int), vs = [.ref a, .int (w : Int), .int M] ∧ RowsG t true K H a A ∧ A.length ≤ 100000 ∧ (∀ r ∈ A, r.length = w) ∧ MRed M A ∧ ∀ H', Same H H' → Q .non H'
section
variable {P : Program} {w0 : World} {K : PySem.W.Frag} {mg : Str → Option Value} {base : Heap}
theorem ok_isintI {f : Addr} {fd : FuncData} (F : Fun K "is_integer" "is_integer" s_is_integer f fd) (T : TxtV mg) : FnOk P w0 K mg base CX0 1 f fd ["value"] spIntI := by
  refine F.ok sc_is_integer (fun vs H Q E h => ?_) (fun cdv A outer s H vs Q E hr h => ?_)
  · obtain ⟨i, rfl, _⟩ := h
    rfl
  · obtain ⟨i, rfl, q⟩ := h
    refine ⟨_, (pss_one (ps_ret (pe_and (pe_callB (call_isiK (K := K) rfl) rfl T.f_isinstance (by decide +kernel) (pa_cons (pv 0) (pa_cons (pe_bltn (v := .ty "int") rfl T.f_int (by decide +kernel) rfl) pa_nil))) (pe_one (pe_not (pe_callB (call_isiK (K := K) rfl) rfl T.f_isinstance (by decide +kernel) (pa_cons (pv 0) (pa_cons (pe_bltn (v := .ty "bool") rfl T.f_bool (by decide +kernel) rfl) pa_nil)))))))), ?_⟩
    exact ⟨_, rfl, _, _, _, _, true, rfl, .ty _, .base (.int i), kit_ty (by decide +kernel), _, rfl, iteT ⟨_, rfl, _, _, _, _, false, rfl, .ty _, .base (.int i), kit_ty (by decide +kernel), _, rfl, q⟩⟩
theorem ok_withinI {f fN : Addr} {fd fdN : FuncData} (F : Fun K "is_within" "is_within" s_is_within f fd)
    (G_is_integer : FnOk P w0 K mg base CX0 1 fN fdN ["value"] spIntI) (g_is_integer : mg "is_integer" = some (.ref fN)) (kp_is_integer : PySem.W.keepIn K (.ref fN) = true) (b_is_integer : Binds K fdN ["value"] []) :
    FnOk P w0 K mg base CX0 2 f fd ["value", "least", "most"] spWithinI := by
  refine F.ok sc_is_within (fun vs H Q E h => ?_) (fun cdv A outer s H vs Q E hr h => ?_)
  · obtain ⟨n, lo, hi, rfl, _⟩ := h
    rfl
  · obtain ⟨n, lo, hi, rfl, k⟩ := h
    refine ⟨_, (pss_one (ps_ret (pe_and (pe_call G_is_integer (hr.mono (by decide)) rfl g_is_integer kp_is_integer b_is_integer .nil pass0 (pa_cons (pv 0) pa_nil)) (pe_one (pe_chain op_le op_le (pv 1) (pv 0) (pv 2)))))), ?_⟩
    refine ⟨_, rfl, n, rfl, true, rfl, iteT ?_⟩
    refine ⟨_, rfl, _, rfl, _, _, rfl, rfl, decide (lo ≤ n), rfl, ?_⟩
    cases e : decide (lo ≤ n)
    · rw [e] at k
      exact iteF k
    · rw [e] at k
      exact iteT ⟨_, rfl, _, _, rfl, rfl, k⟩
theorem ok_islist {f : Addr} {fd : FuncData} (F : Fun K "is_list" "is_list" s_is_list f fd) (T : TxtV mg) : FnOk P w0 K mg base CX0 1 f fd ["value"] (spIsList K) := by
  refine F.ok sc_is_list (fun vs H Q E h => ?_) (fun cdv A outer s H vs Q E hr h => ?_)
  · obtain ⟨t, a, xs, rfl, _⟩ := h
    rfl
  · obtain ⟨t, a, xs, rfl, hS, k⟩ := h
    refine ⟨_, (pss_one (ps_ret (pe_callB (call_isiTK (K := K) rfl) rfl T.f_isinstance (by decide +kernel) (pa_cons (pv 0) (pa_cons (pe_tup (pa_cons (pe_bltn (v := .ty "list") rfl T.f_list (by decide +kernel) rfl) (pa_cons (pe_bltn (v := .ty "tuple") rfl T.f_tuple (by decide +kernel) rfl) pa_nil))) pa_nil))))), ?_⟩
    refine ⟨_, rfl, (by show 2 ≤ sizeLine; decide), fun q nq => ?_⟩
    have s1 := same_upd (o := .tup [.ty "list", .ty "tuple"]) nq
    exact ⟨_, q, _, _, _, true, rfl, upd_same, .cons (.ty _) (.cons (.ty _) .nil), SqK.ty (SqK.same hS s1), kit_lt t, k _ s1⟩
theorem ok_wnum {f fW : Addr} {fd fdW : FuncData} (F : Fun K "wrong_number" "wrong_number" s_wrong_number f fd) (T : TxtV mg)
    (G_is_within : FnOk P w0 K mg base CX0 2 fW fdW ["value", "least", "most"] spWithinI) (g_is_within : mg "is_within" = some (.ref fW)) (kp_is_within : PySem.W.keepIn K (.ref fW) = true) (b_is_within : Binds K fdW ["value", "least", "most"] []) :
    FnOk P w0 K mg base CX0 3 f fd ["numbers", "many", "modulus"] (spWNum K) := by
  refine F.ok sc_wrong_number (fun vs H Q E h => ?_) (fun cdv A outer s H vs Q E hr h => ?_)
  · obtain ⟨t, a, r, n, M, rfl, _⟩ := h
    rfl
  · obtain ⟨t, a, r, n, M, rfl, hS, hn, hn2, hR, k⟩ := h
    refine ⟨_, (pss_cons (ps_for PassesOwn.never rfl (pi_enSqK (K := K) rfl t rfl T.f_enumerate (pa_cons (pv 0) pa_nil)) (pg_tup rfl (pgs_cons (pg_name (i := 3) sc_wrong_number.nd rfl (Or.inl rfl)) (pgs_cons (pg_name (i := 4) sc_wrong_number.nd rfl (Or.inl rfl)) pgs_nil))) (pss_one (ps_if (pt_not (pt_val (pe_call G_is_within (hr.mono (by decide)) rfl g_is_within kp_is_within b_is_within .nil pass0 (pa_cons (pv 4) (pa_cons pe_int (pa_cons (pe_op op_sub (pv 2) pe_int) pa_nil)))))) (pss_one (ps_ret (pv 3))) pss_nil)))
        (pss_cons (ps_if (pt_cmpR op_ne (pe_callB (call_lenSqK (K := K) rfl t) rfl T.f_len PySem.boot_len (pa_cons (pv 0) pa_nil)) (pv 1) (nomark _)) (pss_one (ps_ret (pe_callB (call_lenSqK (K := K) rfl t) rfl T.f_len PySem.boot_len (pa_cons (pv 0) pa_nil)))) pss_nil)
        (pss_one (ps_ret pe_non)))), ?_⟩
    refine ⟨_, rfl, a, _, rfl, hS, ?_⟩
    refine for_it walk_enSq (fun i σ H' => ∃ (x3 x4 : Option V), σ = [some (.ref a), some (.int (n : Int)), some (.int M), x3, x4] ∧ Same H H') ⟨none, none, rfl, fun _ _ e => e⟩ (fun i σ H' _ ⟨_, _, _, s1⟩ => SqK.same hS s1) ?_ ?_
    · rintro i v σ H2 H2' hi ⟨x3, x4, rfl, s1⟩ ⟨T0, v1, v2, rfl, hT, rfl, e1, e2⟩
      cases e1
      obtain ⟨z, gz, rfl⟩ := at_ints e2
      have hz := hR z (List.mem_of_getElem? gz)
      have sT : Same H2 (upd H2 T0 (.tup [.int (i : Int), .int z])) := same_upd hT
      refine ⟨T0, _, rfl, SqT.of upd_same, rfl, _, _, rfl, _, _, rfl, rfl, ?_⟩
      refine ⟨_, rfl, _, rfl, _, _, rfl, rfl, z, 0, M - 1, rfl, ?_⟩
      rw [decide_eq_true hz.1, decide_eq_true (show z ≤ M - 1 by omega)]
      exact ⟨true, rfl, iteF ⟨_, _, rfl, same_trans s1 sT⟩⟩
    · rintro σ H2 ⟨x3, x4, rfl, s1⟩
      refine ⟨_, rfl, a, _, rfl, SqK.same hS s1, _, rfl, rfl, _, rfl, ?_⟩
      exact iteNS (show V.int _ = V.int _ by rw [List.length_map, hn]) (k _ s1)
theorem ok_wrow {f fL fN : Addr} {fd fdL fdN : FuncData} (F : Fun K "wrong_row" "wrong_row" s_wrong_row f fd) (T : TxtV mg)
    (G_is_list : FnOk P w0 K mg base CX0 1 fL fdL ["value"] (spIsList K)) (g_is_list : mg "is_list" = some (.ref fL)) (kp_is_list : PySem.W.keepIn K (.ref fL) = true) (b_is_list : Binds K fdL ["value"] [])
    (G_wrong_number : FnOk P w0 K mg base CX0 3 fN fdN ["numbers", "many", "modulus"] (spWNum K)) (g_wrong_number : mg "wrong_number" = some (.ref fN)) (kp_wrong_number : PySem.W.keepIn K (.ref fN) = true) (b_wrong_number : Binds K fdN ["numbers", "many", "modulus"] []) :
    FnOk P w0 K mg base CX0 4 f fd ["rows", "many", "width", "modulus"] (spWRow K) := by
  refine F.ok sc_wrong_row (fun vs H Q E h => ?_) (fun cdv A outer s H vs Q E hr h => ?_)
  · obtain ⟨t, u, a, r, n, w, M, rfl, _⟩ := h
    rfl
  · obtain ⟨t, u, a, Am, n, w, M, rfl, hS, hn, hn2, hw, hl, hR, k⟩ := h
    refine ⟨_, (pss_cons (ps_for PassesOwn.never rfl (pi_enSqK (K := K) rfl t rfl T.f_enumerate (pa_cons (pv 0) pa_nil)) (pg_tup rfl (pgs_cons (pg_name (i := 4) sc_wrong_row.nd rfl (Or.inl rfl)) (pgs_cons (pg_name (i := 5) sc_wrong_row.nd rfl (Or.inl rfl)) pgs_nil))) (pss_one (ps_if (PW.pt (pw_or (pt_not (pt_val (pe_call G_is_list (hr.mono (by decide)) rfl g_is_list kp_is_list b_is_list .nil pass0 (pa_cons (pv 5) pa_nil)))) (pw_or1 (pt_cmpR op_notN (pe_call G_wrong_number (hr.mono (by decide)) rfl g_wrong_number kp_wrong_number b_wrong_number .nil pass0 (pa_cons (pv 5) (pa_cons (pv 2) (pa_cons (pv 3) pa_nil)))) pe_non (nomark _))))) (pss_one (ps_ret (pv 4))) pss_nil)))
        (pss_cons (ps_if (pt_cmpR op_ne (pe_callB (call_lenSqK (K := K) rfl t) rfl T.f_len PySem.boot_len (pa_cons (pv 0) pa_nil)) (pv 1) (nomark _)) (pss_one (ps_ret (pe_callB (call_lenSqK (K := K) rfl t) rfl T.f_len PySem.boot_len (pa_cons (pv 0) pa_nil)))) pss_nil)
        (pss_one (ps_ret pe_non)))), ?_⟩
    obtain ⟨vs, hv, hA⟩ := hS
    refine ⟨_, rfl, a, _, rfl, hv, ?_⟩
    refine for_it (walk_enSq (xs := vs)) (fun i σ H' => ∃ (x4 x5 : Option V), σ = [some (.ref a), some (.int (n : Int)), some (.int (w : Int)), some (.int M), x4, x5] ∧ Same H H') ⟨none, none, rfl, fun _ _ e => e⟩ (fun i σ H' _ ⟨_, _, _, s1⟩ => SqK.same hv s1) ?_ ?_
    · rintro i v σ H2 H2' hi ⟨x4, x5, rfl, s1⟩ ⟨T0, v1, v2, rfl, hT, rfl, e1, e2⟩
      cases e1
      obtain ⟨p, l, rfl, gl, hp⟩ := hA.at_ e2
      have hml := List.mem_of_getElem? gl
      have sT : Same H2 (upd H2 T0 (.tup [.int (i : Int), .ref p])) := same_upd hT
      refine ⟨T0, _, rfl, SqT.of upd_same, rfl, _, _, rfl, _, _, rfl, rfl, ?_⟩
      refine ⟨_, rfl, u, p, _, rfl, SqK.same hp (same_trans s1 sT), fun H3 s3 => ⟨true, rfl, iteF ?_⟩⟩
      have s4 := same_trans s1 (same_trans sT s3)
      refine ⟨_, rfl, _, rfl, _, rfl, u, p, l, w, M, rfl, SqK.same hp s4, hl _ hml, hw, hR _ hml, fun H4 s5 => ⟨rfl, false, congrArg V.bl (by rfl), iteF ⟨_, _, rfl, same_trans s4 s5⟩⟩⟩
    · rintro σ H2 ⟨x4, x5, rfl, s1⟩
      refine ⟨_, rfl, a, _, rfl, SqK.same hv s1, _, rfl, rfl, _, rfl, ?_⟩
      exact iteNS (show V.int _ = V.int _ by rw [hA.length, hn]) (k _ s1)
theorem ok_wsym {f : Addr} {fd : FuncData} (F : Fun K "wrong_symbol" "wrong_symbol" s_wrong_symbol f fd) (T : TxtV mg) :
    FnOk P w0 K mg base CX0 1 f fd ["block", "width", "modulus"] (spWSym K) := by
  refine F.ok sc_wrong_symbol (fun vs H Q E h => ?_) (fun cdv A outer s H vs Q E hr h => ?_)
  · obtain ⟨t, a, r, w, M, rfl, _⟩ := h
    rfl
  · obtain ⟨t, a, Am, w, M, rfl, hS, hn2, hl, hR, k⟩ := h
    refine ⟨_, (pss_cons (ps_for PassesOwn.never rfl (pi_enSqK (K := K) rfl t rfl T.f_enumerate (pa_cons (pv 0) pa_nil)) (pg_tup rfl (pgs_cons (pg_name (i := 3) sc_wrong_symbol.nd rfl (Or.inl rfl)) (pgs_cons (pg_name (i := 4) sc_wrong_symbol.nd rfl (Or.inl rfl)) pgs_nil))) (pss_cons (ps_if (PW.pt (pw_or (pt_not (pt_val (pe_callB (call_isiK (K := K) rfl) rfl T.f_isinstance (by decide +kernel) (pa_cons (pv 4) (pa_cons (pe_bltn (v := .ty "tuple") rfl T.f_tuple (by decide +kernel) rfl) pa_nil))))) (pw_or1 (pt_cmpR op_ne (pe_callB call_len_seq rfl T.f_len PySem.boot_len (pa_cons (pv 4) pa_nil)) (pv 1) (nomark _))))) (pss_one (ps_ret (pv 3))) pss_nil)
        (pss_one (ps_for PassesOwn.never rfl (pi_tup (pv 4)) (pg_name (i := 5) sc_wrong_symbol.nd rfl (Or.inl rfl)) (pss_one (ps_if (PW.pt (pw_or (pt_not (pt_val (pe_callB (call_isiK (K := K) rfl) rfl T.f_isinstance (by decide +kernel) (pa_cons (pv 5) (pa_cons (pe_bltn (v := .ty "int") rfl T.f_int (by decide +kernel) rfl) pa_nil))))) (pw_or (pt_cmpR op_isIB (pv 5) pe_bl (nomark _)) (pw_or (pt_cmpR op_isIB (pv 5) pe_bl (nomark _)) (pw_or1 (pt_not (pt_chain op_le op_lt pe_int (pv 5) (pv 2)))))))) (pss_one (ps_ret (pv 3))) pss_nil))))))
        (pss_one (ps_ret pe_non))), ?_⟩
    obtain ⟨vs, hv, hA⟩ := hS
    refine ⟨_, rfl, a, _, rfl, hv, ?_⟩
    refine for_it (walk_enSq (xs := vs)) (fun i σ H' => ∃ (x3 x4 x5 : Option V), σ = [some (.ref a), some (.int (w : Int)), some (.int M), x3, x4, x5] ∧ Same H H') ⟨none, none, none, rfl, fun _ _ e => e⟩ (fun i σ H' _ ⟨_, _, _, _, s1⟩ => SqK.same hv s1) ?_ ?_
    · rintro i v σ H2 H2' hi ⟨x3, x4, x5, rfl, s1⟩ ⟨T0, v1, v2, rfl, hT, rfl, e1, e2⟩
      cases e1
      obtain ⟨p, l, rfl, gl, hp⟩ := hA.at_ e2
      have hml := List.mem_of_getElem? gl
      have sT : Same H2 (upd H2 T0 (.tup [.int (i : Int), .ref p])) := same_upd hT
      refine ⟨T0, _, rfl, SqT.of upd_same, rfl, _, _, rfl, _, _, rfl, rfl, ?_⟩
      have hp2 := SqK.same hp (same_trans s1 sT)
      generalize upd H2 T0 (.tup [.int (i : Int), .ref p]) = H3 at sT hp2 ⊢
      refine ⟨_, rfl, _, _, _, _, true, rfl, .ty _, SqK.ty hp2, kit_ty (by decide +kernel), true, rfl, iteF ?_⟩
      refine ⟨_, rfl, p, _, rfl, .inr hp2, _, rfl, rfl, _, rfl, ?_⟩
      refine iteNS (show V.int _ = V.int _ by rw [List.length_map, hl _ hml]) ?_
      refine ⟨_, rfl, p, rfl, ⟨_, hp2⟩, ?_⟩
      refine for_it (walk_tup (xs := l.map V.int)) (fun j σ H' => ∃ (y : Option V), σ = [some (.ref a), some (.int (w : Int)), some (.int M), some (.int (i : Int)), some (.ref p), y] ∧ H' = H3) ⟨_, rfl, rfl⟩ (fun j σ H' _ ⟨_, _, e⟩ => e ▸ hp2) ?_ ?_
      · rintro j v σ H4 H4' hj ⟨y, rfl, rfl⟩ ⟨rfl, e3⟩
        obtain ⟨z, gz, rfl⟩ := at_ints e3
        have hz := hR _ hml z (List.mem_of_getElem? gz)
        refine ⟨_, rfl, _, _, _, _, true, rfl, .ty _, .base (.int z), kit_ty (by decide +kernel), true, rfl, iteF ?_⟩
        refine ⟨_, rfl, z, true, rfl, rfl, false, rfl, iteF ?_⟩
        refine ⟨_, rfl, z, false, rfl, rfl, false, rfl, iteF ?_⟩
        refine ⟨_, rfl, _, _, rfl, rfl, true, congrArg V.bl (decide_eq_true hz.1), iteT ?_⟩
        exact ⟨_, rfl, _, _, rfl, rfl, true, congrArg V.bl (decide_eq_true hz.2), iteF ⟨_, rfl, rfl⟩⟩
      · rintro σ H4 ⟨y, rfl, rfl⟩
        exact ⟨_, _, _, rfl, same_trans s1 sT⟩
    · rintro σ H2 ⟨x3, x4, x5, rfl, s1⟩
      exact k _ s1
end
end Wk

/-! what undone finds: spans of rows modulo M -/
namespace Wk
abbrev Vec := Nat → Int
def fn (r : Row) : Vec := fun j => r.getD j 0
inductive InS (M : Int) (n : Nat) (G : Vec → Prop) : Vec → Prop
  | zero {v : Vec} : (∀ j, j < n → Eqm M (v j) 0) → InS M n G v
  | add {s v w : Vec} (c : Int) : G s → InS M n G v → (∀ j, j < n → Eqm M (w j) (v j + c * s j)) → InS M n G w
theorem InS.congr {M : Int} {n : Nat} {G : Vec → Prop} {v w : Vec} (h : InS M n G v) (e : ∀ j, j < n → Eqm M (w j) (v j)) : InS M n G w := by
  cases h with
  | zero h => exact .zero fun j hj => (e j hj).trans (h j hj)
  | add c g h f => exact .add c g h fun j hj => (e j hj).trans (f j hj)
theorem InS.of {M : Int} {n : Nat} {G : Vec → Prop} {s : Vec} (h : G s) : InS M n G s := .add (v := fun _ => 0) 1 h (.zero fun _ _ => .refl _ _) fun j _ => by
  rw [Int.zero_add, Int.one_mul]
  exact .refl _ _
theorem InS.scale {M : Int} {n : Nat} {G : Vec → Prop} {v u : Vec} (a : Int) (h : InS M n G v) (e : ∀ j, j < n → Eqm M (u j) (a * v j)) : InS M n G u := by
  induction h generalizing u with
  | zero h => exact .zero fun j hj => (e j hj).trans (((Eqm.refl M a).mul (h j hj)).trans (.eq (by simp)))
  | add c g h f ih =>
    rename_i s v w
    exact .add (a * c) g (ih (u := fun j => a * v j) fun j _ => .refl _ _) fun j hj => (e j hj).trans (((Eqm.refl M a).mul (f j hj)).trans (.eq (by grind)))
theorem InS.sum {M : Int} {n : Nat} {G : Vec → Prop} {v w u : Vec} (h : InS M n G v) (g : InS M n G w) (e : ∀ j, j < n → Eqm M (u j) (v j + w j)) : InS M n G u := by
  induction h generalizing u with
  | zero h => exact g.congr fun j hj => (e j hj).trans (((h j hj).add (.refl _ _)).trans (.eq (by simp)))
  | add c k h f ih =>
    rename_i s v' w'
    exact .add c k (ih (u := fun j => v' j + w j) fun j _ => .refl _ _) fun j hj => (e j hj).trans (((f j hj).add (.refl _ _)).trans (.eq (by grind)))
theorem InS.comb {M : Int} {n : Nat} {G : Vec → Prop} {v w u : Vec} (a b : Int) (h : InS M n G v) (g : InS M n G w) (e : ∀ j, j < n → Eqm M (u j) (a * v j + b * w j)) : InS M n G u :=
  (h.scale a (u := fun j => a * v j) fun _ _ => .refl _ _).sum (g.scale b (u := fun j => b * w j) fun _ _ => .refl _ _) e
theorem InS.trans {M : Int} {n : Nat} {G G' : Vec → Prop} (t : ∀ s, G s → InS M n G' s) {v : Vec} (h : InS M n G v) : InS M n G' v := by
  induction h with
  | zero h => exact .zero h
  | add c g h f ih => exact ih.comb 1 c (t _ g) fun j hj => (f j hj).trans (.eq (by simp))
theorem InS.mono {M : Int} {n : Nat} {G G' : Vec → Prop} (t : ∀ s, G s → G' s) {v : Vec} (h : InS M n G v) : InS M n G' v := h.trans fun s g => .of (t s g)
theorem InS.sumN {M : Int} {n : Nat} {G : Vec → Prop} {m : Nat} {v : Nat → Vec} (c : Nat → Int) (h : ∀ k, k < m → InS M n G (v k)) {u : Vec} (e : ∀ j, j < n → Eqm M (u j) (sumN m fun k => c k * v k j)) : InS M n G u := by
  induction m generalizing u with
  | zero => exact .zero e
  | succ m ih => exact (ih (fun k hk => h k (by omega)) (u := fun j => Wk.sumN m fun k => c k * v k j) fun _ _ => .refl _ _).comb 1 (c m) (h m (by omega)) fun j hj => (e j hj).trans (.eq (by rw [Wk.sumN]; simp))
/-- the steps from place p on; these and one row more -/
def GS (S : List (Option Row)) (p : Nat) (v : Vec) : Prop := ∃ q s, p ≤ q ∧ S[q]? = some (some s) ∧ v = fn s
def GR (S : List (Option Row)) (p : Nat) (r : Row) (v : Vec) : Prop := GS S p v ∨ v = fn r
theorem mul_fn {M f : Int} {r : Row} (j : Nat) : Eqm M (fn (mulRow M f r) j) (f * fn r j) := by
  unfold fn mulRow
  rw [List.getD_eq_getElem?_getD, List.getD_eq_getElem?_getD, List.getElem?_map]
  cases r[j]? with
  | none => exact .eq (by simp)
  | some x => exact Eqm.mod _ _
theorem comb_fn {M f g : Int} {r s : Row} (h : r.length = s.length) (j : Nat) : Eqm M (fn (Wk.comb M f r g s) j) (f * fn r j + g * fn s j) := by
  unfold fn Wk.comb
  rw [List.getD_eq_getElem?_getD, List.getD_eq_getElem?_getD, List.getD_eq_getElem?_getD, List.getElem?_zipWith]
  by_cases hj : j < r.length
  · rw [List.getElem?_eq_getElem hj, List.getElem?_eq_getElem (by omega)]
    exact Eqm.mod _ _
  · rw [List.getElem?_eq_none (by omega), List.getElem?_eq_none (by omega)]
    exact .eq (by simp)
theorem set_at {S : List (Option Row)} {i q : Nat} {s : Row} (hi : i < S.length) : (S.set i (some s))[q]? = if q = i then some (some s) else S[q]? := by
  by_cases e : q = i
  · subst e
    rw [if_pos rfl, List.getElem?_set_self hi]
  · rw [if_neg e, List.getElem?_set_ne (fun z => e z.symm)]
/-- what a step of a put does: rows of before lie in the span of after -/
theorem swap {M : Int} {W n i : Nat} {S S' : List (Option Row)} {r r' : Row} {N : Int} (wf : WF M W n S) (hi : i < n) (hr : r.length = W) (st : PutStep M i S r N S' r') :
    (∀ p, p ≤ i → ∀ v, GR S p r v → InS M n (GR S' p r') v) ∧ (∀ p, i < p → ∀ v, GS S p v → GS S' p v) ∧
    (∀ q, q ≠ i → S'[q]? = S[q]?) := by
  have hl : i < S.length := by rw [wf.len]; exact hi
  rcases st with ⟨e0, g, lf, f, hg, g1, hbz, rfl, rfl⟩ | ⟨s, P, e0, hP, st⟩
  · have oth : ∀ q, q ≠ i → (S.set i (some (mulRow M f r)))[q]? = S[q]? := fun q hq => by rw [set_at hl, if_neg hq]
    have hgM : g ∣ M := hg ▸ Int.gcd_dvd_left ..
    have hgN : g ∣ N := hg ▸ Int.gcd_dvd_right ..
    refine ⟨fun p hp v hv => ?_, fun p hp v ⟨q, s, h1, h2, h3⟩ => ⟨q, s, h1, by rw [oth q (by omega)]; exact h2, h3⟩, oth⟩
    rcases hv with ⟨q, s, h1, h2, h3⟩ | rfl
    · refine .of (.inl ⟨q, s, h1, ?_, h3⟩)
      rw [oth q (fun z => by rw [z, e0] at h2; cases h2)]
      exact h2
    · have a1 : InS M n (GR (S.set i (some (mulRow M f r))) p (mulRow M (M / g) r)) (fn (mulRow M f r)) := .of (.inl ⟨i, _, hp, by rw [set_at hl, if_pos rfl], rfl⟩)
      have a2 : InS M n (GR (S.set i (some (mulRow M f r))) p (mulRow M (M / g) r)) (fn (mulRow M (M / g) r)) := .of (.inr rfl)
      refine a1.comb (N / g) lf a2 fun j _ => ?_
      obtain ⟨a, rfl⟩ := hgM
      obtain ⟨b, rfl⟩ := hgN
      rw [Int.mul_ediv_cancel_left _ (by omega), Int.mul_ediv_cancel_left _ (by omega)]
      refine Eqm.trans (.eq ?_) (((Eqm.refl _ b).mul (mul_fn j).symm).add ((Eqm.refl _ lf).mul (mul_fn j).symm))
      have e : lf * a + f * b = 1 := by
        have : g * (lf * a + f * b) = g * 1 := by grind
        exact Int.eq_of_mul_eq_mul_left (by omega) this
      have : b * (f * fn r j) + lf * (a * fn r j) = (lf * a + f * b) * fn r j := by grind
      rw [this, e, Int.one_mul]
  · obtain ⟨sl, sr, ⟨P', hP', p1, pM⟩, sz⟩ := wf.row i s e0
    rw [hP] at hP'
    cases hP'
    rcases st with ⟨h0, rfl, rfl⟩ | ⟨g, lf, f, hg, g1, hbz, rfl, rfl⟩
    · refine ⟨fun p hp v hv => ?_, fun p hp v h => h, fun _ _ => rfl⟩
      rcases hv with h | rfl
      · exact .of (.inl h)
      · have a1 : InS M n (GR S' p (Wk.comb M 1 r (-(N / P)) s)) (fn s) := .of (.inl ⟨i, s, hp, e0, rfl⟩)
        have a2 : InS M n (GR S' p (Wk.comb M 1 r (-(N / P)) s)) (fn (Wk.comb M 1 r (-(N / P)) s)) := .of (.inr rfl)
        refine a1.comb (N / P) 1 a2 fun j _ => ?_
        refine Eqm.trans (.eq ?_) ((Eqm.refl _ _).add ((Eqm.refl _ 1).mul (comb_fn (by omega) j).symm))
        grind
    · have oth : ∀ q, q ≠ i → (S.set i (some (Wk.comb M f r lf s)))[q]? = S[q]? := fun q hq => by rw [set_at hl, if_neg hq]
      have hgP : g ∣ P := hg ▸ Int.gcd_dvd_left ..
      have hgN : g ∣ N := hg ▸ Int.gcd_dvd_right ..
      refine ⟨fun p hp v hv => ?_, fun p hp v ⟨q, s, h1, h2, h3⟩ => ⟨q, s, h1, by rw [oth q (by omega)]; exact h2, h3⟩, oth⟩
      have a1 : InS M n (GR (S.set i (some (Wk.comb M f r lf s))) p (Wk.comb M (P / g) r (-(N / g)) s)) (fn (Wk.comb M f r lf s)) := .of (.inl ⟨i, _, hp, by rw [set_at hl, if_pos rfl], rfl⟩)
      have a2 : InS M n (GR (S.set i (some (Wk.comb M f r lf s))) p (Wk.comb M (P / g) r (-(N / g)) s)) (fn (Wk.comb M (P / g) r (-(N / g)) s)) := .of (.inr rfl)
      obtain ⟨a, rfl⟩ := hgP
      obtain ⟨b, rfl⟩ := hgN
      rw [Int.mul_ediv_cancel_left _ (by omega), Int.mul_ediv_cancel_left _ (by omega)] at a1 a2 ⊢
      have e : lf * a + f * b = 1 := by
        have : g * (lf * a + f * b) = g * 1 := by grind
        exact Int.eq_of_mul_eq_mul_left (by omega) this
      rcases hv with ⟨q, t, h1, h2, h3⟩ | rfl
      · by_cases hq : q = i
        · subst hq
          rw [e0] at h2
          cases h2
          subst h3
          refine a1.comb a (-f) a2 fun j _ => ?_
          refine Eqm.trans (.eq ?_) (((Eqm.refl _ a).mul (comb_fn (by omega) j).symm).add ((Eqm.refl _ (-f)).mul (comb_fn (by omega) j).symm))
          have : a * (f * fn r j + lf * fn s j) + -f * (a * fn r j + -b * fn s j) = (lf * a + f * b) * fn s j := by grind
          rw [this, e, Int.one_mul]
        · exact .of (.inl ⟨q, t, h1, by rw [oth q hq]; exact h2, h3⟩)
      · refine a1.comb b lf a2 fun j _ => ?_
        refine Eqm.trans (.eq ?_) (((Eqm.refl _ b).mul (comb_fn (by omega) j).symm).add ((Eqm.refl _ lf).mul (comb_fn (by omega) j).symm))
        have : b * (f * fn r j + lf * fn s j) + lf * (a * fn r j + -b * fn s j) = (lf * a + f * b) * fn r j := by grind
        rw [this, e, Int.one_mul]
/-- each step times the rest of the modulus lies in the span of those behind it -/
def J3 (M : Int) (n i : Nat) (S : List (Option Row)) (r : Row) : Prop := ∀ q s x, S[q]? = some (some s) → s[q]? = some x → (q < i → InS M n (GR S (q + 1) r) fun j => M / x * fn s j) ∧ (i ≤ q → InS M n (GS S (q + 1)) fun j => M / x * fn s j)
theorem J3.step {M : Int} {W n i : Nat} {S S' : List (Option Row)} {r r' : Row} {N : Int} (hM : 2 ≤ M) (wf : WF M W n S) (hi : i < n) (hr : r.length = W) (rr : RRed M r) (hN : r[i]? = some N) (hN1 : 1 ≤ N) (st : PutStep M i S r N S' r') (J : J3 M n i S r) : J3 M n (i + 1) S' r' := by
  obtain ⟨sw, hi2, oth⟩ := swap wf hi hr st
  have hl : i < S.length := by rw [wf.len]; exact hi
  have hNM : N < M := (rr N (List.mem_of_getElem? hN)).2
  intro q t x hq hx
  refine ⟨fun h => ?_, fun h => ?_⟩
  · by_cases e : q = i
    · subst e
      rcases st with ⟨e0, g, lf, f, hg, g1, hbz, rfl, rfl⟩ | ⟨s, P, e0, hP, st⟩
      · rw [set_at hl, if_pos rfl] at hq
        cases hq
        have hgM : g ∣ M := hg ▸ Int.gcd_dvd_left ..
        have hgN := gcd_le_r (a := M) (b := N) hN1
        have ex : x = g := by
          rw [mulRow_at hN] at hx
          cases hx
          rw [show f * N = g - lf * M by omega, Int.sub_mul_emod_self_right, Int.emod_eq_of_lt (by omega) (by omega)]
        subst ex
        have a2 : InS M n (GR (S.set q (some (mulRow M f r))) (q + 1) (mulRow M (M / x) r)) (fn (mulRow M (M / x) r)) := .of (.inr rfl)
        refine a2.scale f fun j _ => ?_
        refine ((Eqm.refl _ _).mul (mul_fn j)).trans (Eqm.trans (.eq ?_) ((Eqm.refl _ f).mul (mul_fn j).symm))
        grind
      · obtain ⟨sl, sr, ⟨P', hP', p1, pM⟩, sz⟩ := wf.row q s e0
        rw [hP] at hP'
        cases hP'
        have hPM : P < M := (sr P (List.mem_of_getElem? hP)).2
        have jq := (J q s P e0 hP).2 (Nat.le_refl _)
        rcases st with ⟨h0, rfl, rfl⟩ | ⟨g, lf, f, hg, g1, hbz, rfl, rfl⟩
        · rw [e0] at hq
          cases hq
          rw [hP] at hx
          cases hx
          exact jq.mono fun v h => .inl h
        · rw [set_at hl, if_pos rfl] at hq
          cases hq
          have hgP := gcd_le_l (a := P) (b := N) p1
          have ex : x = g := by
            rw [comb_at hN hP] at hx
            cases hx
            rw [show f * N + lf * P = g by omega, Int.emod_eq_of_lt (by omega) (by omega)]
          subst ex
          have hgP' : x ∣ P := hg ▸ Int.gcd_dvd_left ..
          have hgN' : x ∣ N := hg ▸ Int.gcd_dvd_right ..
          have a1 : InS M n (GR (S.set q (some (Wk.comb M f r lf s))) (q + 1) (Wk.comb M (P / x) r (-(N / x)) s)) fun j => M / P * fn s j := jq.mono fun v h => .inl (hi2 _ (Nat.lt_succ_self _) v h)
          have a2 : InS M n (GR (S.set q (some (Wk.comb M f r lf s))) (q + 1) (Wk.comb M (P / x) r (-(N / x)) s)) (fn (Wk.comb M (P / x) r (-(N / x)) s)) := .of (.inr rfl)
          refine a1.comb 1 (M / P * f) a2 fun j _ => ?_
          refine ((Eqm.refl _ _).mul (comb_fn (by omega) j)).trans (Eqm.trans (.eq ?_) ((Eqm.refl _ _).add ((Eqm.refl _ (M / P * f)).mul (comb_fn (by omega) j).symm)))
          obtain ⟨a, rfl⟩ := hgP'
          obtain ⟨b, rfl⟩ := hgN'
          obtain ⟨m, rfl⟩ := pM
          rw [Int.mul_ediv_cancel_left _ (by omega), Int.mul_ediv_cancel_left _ (by omega), Int.mul_ediv_cancel_left _ (by omega), Int.mul_assoc x a m, Int.mul_ediv_cancel_left _ (by omega)]
          have e : lf * a + f * b = 1 := by
            have : x * (lf * a + f * b) = x * 1 := by grind
            exact Int.eq_of_mul_eq_mul_left (by omega) this
          have : 1 * (m * fn s j) + m * f * (a * fn r j + -b * fn s j) = m * a * (f * fn r j) + m * (1 - f * b) * fn s j := by grind
          rw [this, show 1 - f * b = lf * a by omega]
          grind
    · rw [oth q e] at hq
      exact ((J q t x hq hx).1 (by omega)).trans (sw (q + 1) (by omega))
  · rw [oth q (by omega)] at hq
    exact ((J q t x hq hx).2 (by omega)).mono (hi2 (q + 1) (by omega))
theorem J3.skip {M : Int} {n i : Nat} {S : List (Option Row)} {r : Row} (J : J3 M n i S r) : J3 M n (i + 1) S r := fun q s x h1 h2 => by
  refine ⟨fun h => ?_, fun h => (J q s x h1 h2).2 (by omega)⟩
  by_cases e : q < i
  · exact (J q s x h1 h2).1 e
  · exact ((J q s x h1 h2).2 (by omega)).mono fun v h => .inl h
theorem Ch.span {M : Int} {W n i : Nat} {S0 S : List (Option Row)} {r0 r : Row} (c : Ch M S0 r0 i S r) (hM : 2 ≤ M) (wf : WF M W n S0) (hr : r0.length = W) (rr : RRed M r0) (hi : i ≤ n) (J : J3 M n 0 S0 r0) :
    (∀ v, GR S0 0 r0 v → InS M n (GR S 0 r) v) ∧ J3 M n i S r := by
  induction c with
  | base => exact ⟨fun v h => .of h, J⟩
  | skip c h ih =>
    obtain ⟨a, b⟩ := ih (by omega)
    exact ⟨a, b.skip⟩
  | step c h h1 st ih =>
    obtain ⟨a, b⟩ := ih (by omega)
    obtain ⟨w1, w2, w3, w4⟩ := c.wf hM wf hr rr
    obtain ⟨sw, _, _⟩ := swap w1 (by omega) w2 st
    exact ⟨fun v hv => (a v hv).trans (sw 0 (Nat.zero_le _)), b.step hM w1 (by omega) w2 w3 h h1 st⟩
/-- behind a put -/
theorem Ch.done {M : Int} {W n : Nat} {S0 S : List (Option Row)} {r0 r : Row} (c : Ch M S0 r0 n S r) (hM : 2 ≤ M) (wf : WF M W n S0) (hr : r0.length = W) (rr : RRed M r0) (J : ∀ q s x, S0[q]? = some (some s) → s[q]? = some x → InS M n (GS S0 (q + 1)) fun j => M / x * fn s j) :
    (∀ v, GR S0 0 r0 v → InS M n (GS S 0) v) ∧ ∀ q s x, S[q]? = some (some s) → s[q]? = some x → InS M n (GS S (q + 1)) fun j => M / x * fn s j := by
  obtain ⟨a, b⟩ := c.span hM wf hr rr (Nat.le_refl _) fun q s x h1 h2 => ⟨fun h => absurd h (Nat.not_lt_zero _), fun _ => J q s x h1 h2⟩
  obtain ⟨w1, w2, w3, w4⟩ := c.wf hM wf hr rr
  have z : ∀ p v, GR S p r v → InS M n (GS S p) v := fun p v h => by
    rcases h with h | rfl
    · exact .of h
    · refine .zero fun j hj => ?_
      unfold fn
      rw [List.getD_eq_getElem?_getD, w4 j hj]
      exact .refl _ _
  refine ⟨fun v h => (a v h).trans (z 0), fun q s x h1 h2 => ?_⟩
  by_cases h : q < n
  · exact ((b q s x h1 h2).1 h).trans (z (q + 1))
  · exact (b q s x h1 h2).2 (by omega)
end Wk

/-! what undone tells -/
namespace Wk
theorem Puts.span {M : Int} (hM : 2 ≤ M) {n k : Nat} {A : Mat} {S : List (Option Row)} (hA : ∀ r ∈ A, r.length = n) (p : Puts M n A k S) :
    (∀ i a, i < k → A[i]? = some a → InS M n (GS S 0) (fn a)) ∧ ∀ q s x, S[q]? = some (some s) → s[q]? = some x → InS M n (GS S (q + 1)) fun j => M / x * fn s j := by
  induction p with
  | zero => exact ⟨fun i a h => absurd h (Nat.not_lt_zero _), fun q s x h => by
      rw [List.getElem?_replicate] at h
      split at h <;> cases h⟩
  | succ p h c ih =>
    rename_i k S S' a r'
    obtain ⟨i1, i2⟩ := ih
    obtain ⟨o1, o2⟩ := rowOf_ok hM (k := k) (hA _ (List.mem_of_getElem? h))
    obtain ⟨d1, d2⟩ := c.done hM (p.wf hM hA) o1 o2 i2
    refine ⟨fun i b hi hb => ?_, d2⟩
    rcases Nat.lt_succ_iff_lt_or_eq.mp hi with z | z
    · exact (i1 i b z hb).trans fun v hv => d1 v (.inl hv)
    · subst z
      rw [h] at hb
      cases hb
      refine (d1 _ (.inr rfl)).congr fun j hj => ?_
      have hal := hA _ (List.mem_of_getElem? h)
      unfold fn rowOf
      rw [List.getD_eq_getElem?_getD, List.getD_eq_getElem?_getD, List.getElem?_append_left (by simp; omega), List.getElem?_map, List.getElem?_eq_getElem (by omega)]
      exact (Eqm.mod _ _).symm
/-- rows of the span that vanish ahead of p lie in the span of the steps from p on -/
theorem InS.split {M : Int} {n p : Nat} {S : List (Option Row)} {v : Vec} (h : InS M n (GS S p) v) : (∃ s c w, S[p]? = some (some s) ∧ InS M n (GS S (p + 1)) w ∧ ∀ j, j < n → Eqm M (v j) (w j + c * fn s j)) ∨ InS M n (GS S (p + 1)) v := by
  induction h with
  | zero h => exact .inr (.zero h)
  | add c g h f ih =>
    rename_i s v w
    obtain ⟨q, t, h1, h2, rfl⟩ := g
    by_cases e : q = p
    · subst e
      rcases ih with ⟨s, d, u, g1, g2, g3⟩ | g2
      · rw [h2] at g1
        cases g1
        exact .inl ⟨t, d + c, u, h2, g2, fun j hj => (f j hj).trans (((g3 j hj).add (.refl _ _)).trans (.eq (by grind)))⟩
      · exact .inl ⟨t, c, v, h2, g2, f⟩
    · have gt : GS S (p + 1) (fn t) := ⟨q, t, by omega, h2, rfl⟩
      rcases ih with ⟨s, d, u, g1, g2, g3⟩ | g2
      · exact .inl ⟨s, d, fun j => u j + c * fn t j, g1, .add c gt g2 fun _ _ => .refl _ _, fun j hj => (f j hj).trans (((g3 j hj).add (.refl _ _)).trans (.eq (by grind)))⟩
      · exact .inr (.add c gt g2 f)
theorem InS.vanish {M : Int} {W n p : Nat} {S : List (Option Row)} (wf : WF M W n S) (hp : p < n) {v : Vec} (h : InS M n (GS S (p + 1)) v) : Eqm M (v p) 0 := by
  induction h with
  | zero h => exact h p hp
  | add c g h f ih =>
    obtain ⟨q, t, h1, h2, rfl⟩ := g
    have hz := (wf.row q t h2).2.2.2 p (by omega)
    have e : fn t p = 0 := by
      unfold fn
      rw [List.getD_eq_getElem?_getD, hz]
      rfl
    refine (f p hp).trans ?_
    rw [e]
    exact (ih.add (.refl _ _)).trans (.eq (by simp))
theorem InS.down {M : Int} {W n p : Nat} {S : List (Option Row)} (wf : WF M W n S) (J : ∀ q s x, S[q]? = some (some s) → s[q]? = some x → InS M n (GS S (q + 1)) fun j => M / x * fn s j) (hp : p < n) {v : Vec} (h : InS M n (GS S p) v) (h0 : Eqm M (v p) 0) : InS M n (GS S (p + 1)) v := by
  rcases h.split with ⟨s, c, w, g1, g2, g3⟩ | g
  · obtain ⟨_, _, ⟨x, hx, x1, xM⟩, _⟩ := wf.row p s g1
    have e1 : fn s p = x := by
      unfold fn
      rw [List.getD_eq_getElem?_getD, hx]
      rfl
    have e2 := ((g3 p hp).symm.trans h0)
    rw [e1] at e2
    have e3 : Eqm M (c * x) 0 := (((g2.vanish wf hp).symm.add (.refl M (c * x))).trans e2 |> fun z => (Eqm.eq (by simp)).trans z)
    obtain ⟨k, e4⟩ := e3
    obtain ⟨m, rfl⟩ := xM
    have e5 : c = m * k := by
      have : x * c = x * (m * k) := by grind
      exact Int.eq_of_mul_eq_mul_left (by omega) this
    have j := J p s x g1 hx
    rw [Int.mul_ediv_cancel_left _ (by omega)] at j
    refine g2.comb 1 k j fun q hq => (g3 q hq).trans (.eq ?_)
    rw [e5]
    grind
  · exact g
theorem und_bad {M : Int} (hM : 2 ≤ M) {n : Nat} {A : Mat} {S : List (Option Row)} (sA : Shp n n A) (p : Puts M n A n S) (bad : ∃ i, i < n ∧ (S[i]? = some none ∨ ∃ s x, S[i]? = some (some s) ∧ s[i]? = some x ∧ x ≠ 1)) (B : Fm) (hB : EqF M n (mulF n B (ent A)) oneF) : False := by
  obtain ⟨i, hi, bad⟩ := bad
  have wf := p.wf hM sA.2
  obtain ⟨s1, J⟩ := p.span hM sA.2
  have e0 : InS M n (GS S 0) (fun j => oneF i j) := by
    refine InS.sumN (m := n) (v := fun k j => ent A k j) (B i) (fun k hk => ?_) fun j hj => (hB i j hi hj).symm
    obtain ⟨a, ha, la⟩ := shp_at sA hk
    exact (s1 k a hk ha).congr fun j _ => .eq (ent_at ha j)
  have ep : ∀ q, q ≤ i → InS M n (GS S q) (fun j => oneF i j) := by
    intro q
    induction q with
    | zero => exact fun _ => e0
    | succ q ih =>
      intro hq
      refine (ih (by omega)).down wf J (by omega) (.eq ?_)
      show (if i = q then (1 : Int) else 0) = 0
      rw [if_neg (by omega)]
  have ei := ep i (Nat.le_refl _)
  have one : oneF i i = 1 := by
    show (if i = i then (1 : Int) else 0) = 1
    rw [if_pos rfl]
  rcases ei.split with ⟨s, c, w, g1, g2, g3⟩ | g
  · obtain ⟨_, _, ⟨x, hx, x1, xM⟩, _⟩ := wf.row i s g1
    have e1 : fn s i = x := by
      unfold fn
      rw [List.getD_eq_getElem?_getD, hx]
      rfl
    have e2 : Eqm M (oneF i i) (w i + c * fn s i) := g3 i hi
    rw [one, e1] at e2
    obtain ⟨k, e3⟩ := (e2.trans ((g2.vanish wf hi).add (.refl M (c * x))))
    have hx1 : x ∣ 1 := by
      obtain ⟨m, rfl⟩ := xM
      exact ⟨c + m * k, by grind⟩
    have hx2 : x = 1 := by
      have := Int.le_of_dvd (by decide) hx1
      omega
    rcases bad with h | ⟨t, y, h1, h2, h3⟩
    · rw [h] at g1
      cases g1
    · rw [h1] at g1
      cases g1
      rw [h2] at hx
      cases hx
      exact h3 hx2
  · have e2 : Eqm M (oneF i i) 0 := g.vanish wf hi
    rw [one] at e2
    obtain ⟨k, e3⟩ := e2
    have : M ∣ 1 := ⟨k, by omega⟩
    have := Int.le_of_dvd (by decide) this
    omega
/-! the rows behind are what the rows ahead are made of -/
def Rel (M : Int) (n : Nat) (A : Mat) (r : Row) : Prop := r.length = 2 * n ∧ ∀ j, j < n → Eqm M (fn r j) (sumN n fun k => fn r (n + k) * ent A k j)
theorem rel_mul {M f : Int} {n : Nat} {A : Mat} {r : Row} (h : Rel M n A r) : Rel M n A (mulRow M f r) := by
  refine ⟨by simp [mulRow, h.1], fun j hj => ?_⟩
  refine (mul_fn j).trans (((Eqm.refl M f).mul (h.2 j hj)).trans ?_)
  rw [← sumN_mul]
  refine Eqm.sum fun k _ => Eqm.trans (.eq (by grind)) ((mul_fn (n + k)).symm.mul (.refl _ _))
theorem rel_comb {M f g : Int} {n : Nat} {A : Mat} {r s : Row} (h : Rel M n A r) (h2 : Rel M n A s) : Rel M n A (comb M f r g s) := by
  have hl : r.length = s.length := by rw [h.1, h2.1]
  refine ⟨by simp [comb, h.1, h2.1], fun j hj => ?_⟩
  refine (comb_fn hl j).trans ((((Eqm.refl M f).mul (h.2 j hj)).add ((Eqm.refl M g).mul (h2.2 j hj))).trans ?_)
  rw [← sumN_mul, ← sumN_mul, ← sumN_add]
  refine Eqm.sum fun k _ => Eqm.trans (.eq (by grind)) ((comb_fn hl (n + k)).symm.mul (.refl _ _))
theorem rel_row {M : Int} {n k : Nat} {A : Mat} (sA : Shp n n A) {a : Row} (hk : k < n) (h : A[k]? = some a) : Rel M n A (rowOf M n a k) := by
  have la := sA.2 a (List.mem_of_getElem? h)
  refine ⟨by simp [rowOf, unitRow, la]; omega, fun j hj => ?_⟩
  have e1 : Eqm M (fn (rowOf M n a k) j) (ent A k j) := by
    rw [ent_at h]
    unfold fn rowOf
    rw [List.getD_eq_getElem?_getD, List.getD_eq_getElem?_getD, List.getElem?_append_left (by simp; omega), List.getElem?_map, List.getElem?_eq_getElem (by omega)]
    exact Eqm.mod _ _
  refine e1.trans (.eq ?_)
  rw [sumN_congr (g := fun q => if q = k then ent A k j else 0) fun q hq => ?_, sumN_one hk]
  have e2 : fn (rowOf M n a k) (n + q) = if q = k then 1 else 0 := by
    unfold fn rowOf
    rw [List.getD_eq_getElem?_getD, List.getElem?_append_right (by simp; omega)]
    simp [unitRow, la, List.getElem?_range hq]
  rw [e2]
  by_cases e : q = k
  · subst e
    simp
  · rw [if_neg e, if_neg e]
    simp
def AllRel (M : Int) (n : Nat) (A : Mat) (S : List (Option Row)) : Prop := ∀ (q : Nat) (s : Row), S[q]? = some (some s) → Rel M n A s
theorem AllRel.set {M : Int} {n : Nat} {A : Mat} {S : List (Option Row)} (h : AllRel M n A S) {s : Row} (hs : Rel M n A s) (i : Nat) : AllRel M n A (S.set i (some s)) := fun q t e => by
  by_cases z : i = q
  · subst z
    by_cases hl : i < S.length
    · rw [List.getElem?_set_self hl] at e
      cases e
      exact hs
    · rw [List.getElem?_eq_none (by rw [List.length_set]; omega)] at e
      cases e
  · rw [List.getElem?_set_ne z] at e
    exact h q t e
theorem Ch.rel {M : Int} {n i : Nat} {A : Mat} {S0 S : List (Option Row)} {r0 r : Row} (c : Ch M S0 r0 i S r) (h0 : AllRel M n A S0) (hr : Rel M n A r0) : AllRel M n A S ∧ Rel M n A r := by
  induction c with
  | base => exact ⟨h0, hr⟩
  | skip c h ih => exact ih
  | step c h h1 st ih =>
    obtain ⟨a, b⟩ := ih
    rcases st with ⟨e0, g, lf, f, hg, g1, hbz, rfl, rfl⟩ | ⟨s, P, e0, hP, st⟩
    · exact ⟨a.set (rel_mul b) _, rel_mul b⟩
    · have hs := a _ _ e0
      rcases st with ⟨_, rfl, rfl⟩ | ⟨g, lf, f, hg, g1, hbz, rfl, rfl⟩
      · exact ⟨a, rel_comb b hs⟩
      · exact ⟨a.set (rel_comb b hs) _, rel_comb b hs⟩
theorem Puts.rel {M : Int} {n k : Nat} {A : Mat} {S : List (Option Row)} (sA : Shp n n A) (p : Puts M n A k S) : AllRel M n A S := by
  induction p with
  | zero =>
    intro q s e
    rw [List.getElem?_replicate] at e
    split at e <;> cases e
  | succ p h c ih =>
    have hk := (List.getElem?_eq_some_iff.mp h).1
    exact (c.rel ih (rel_row sA (by rw [← sA.1]; exact hk) h)).1
theorem lessen_rel {M : Int} {n : Nat} {A : Mat} : ∀ {L : List (Nat × Row)} {r : Row}, (∀ q s, (q, s) ∈ L → Rel M n A s) → Rel M n A r → Rel M n A (lessen M r L)
  | [], r, _, h => h
  | (q, s) :: L, r, hL, h => by
    unfold lessen
    refine lessen_rel (fun q s m => hL q s (List.mem_cons_of_mem _ m)) ?_
    split
    · exact rel_comb h (hL q s List.mem_cons_self)
    · exact h
/-- behind lessen each place of a row behind is less than its pivot -/
theorem lessen_lt {M : Int} {W : Nat} (hM : 1 ≤ M) : ∀ {L : List (Nat × Row)} {r : Row}, LOk M W L → L.Pairwise (fun a b => b.2[a.1]? = some 0) → r.length = W → RRed M r → ∀ q s, (q, s) ∈ L → fn (lessen M r L) q < fn s q
  | [], _, _, _, _, _, q, s, h => by cases h
  | (p, t) :: L, r, hL, hp, h1, h2, q, s, h => by
    obtain ⟨a, b, c, e⟩ := hL p t List.mem_cons_self
    have hL2 : LOk M W L := fun q s h => hL q s (List.mem_cons_of_mem _ h)
    rw [List.pairwise_cons] at hp
    have hg : ∀ {r : Row}, r.length = W → RRed M r → 0 ≤ r.getD p 0 ∧ r.getD p 0 < M ∧ r[p]? = some (r.getD p 0) := fun {r} hl hr => by
      have e1 : r[p]? = some (r.getD p 0) := by rw [List.getD_eq_getElem?_getD, List.getElem?_eq_getElem (by omega)]; rfl
      exact ⟨(hr _ (List.mem_of_getElem? e1)).1, (hr _ (List.mem_of_getElem? e1)).2, e1⟩
    obtain ⟨t0, t1, t2⟩ := hg a b
    obtain ⟨r0, r1, r2⟩ := hg h1 h2
    unfold lessen
    have key : ∃ u : Row, (if r.getD p 0 ≥ t.getD p 0 then comb M 1 r (-(r.getD p 0 / t.getD p 0)) t else r) = u ∧ u.length = W ∧ RRed M u ∧ u.getD p 0 < t.getD p 0 := by
      split
      · obtain ⟨z1, z2⟩ := less_step (f := -(r.getD p 0 / t.getD p 0)) hM h1 a
        refine ⟨_, rfl, z1, z2, ?_⟩
        have e3 := comb_at (M := M) (f := 1) (g := -(r.getD p 0 / t.getD p 0)) r2 t2
        rw [List.getD_eq_getElem?_getD (l := comb M 1 r _ t), e3, Option.getD_some]
        generalize r.getD p 0 = x at *
        generalize t.getD p 0 = y at *
        have m1 := Int.emod_add_mul_ediv x y
        have m2 := Int.emod_lt_of_pos x (show 0 < y by omega)
        have m3 := Int.emod_nonneg x (show y ≠ 0 by omega)
        rw [show 1 * x + -(x / y) * y = x % y by grind, Int.emod_eq_of_lt m3 (by omega)]
        exact m2
      · rename_i hlt
        exact ⟨r, rfl, h1, h2, by omega⟩
    obtain ⟨u, hu, u1, u2, u3⟩ := key
    rw [hu]
    rcases List.mem_cons.mp h with h | h
    · cases h
      obtain ⟨_, _, y3⟩ := lessen_ok hM hL2 u1 u2
      obtain ⟨_, _, v2⟩ := hg u1 u2
      have := y3 p _ v2 fun q s hm => hp.1 (q, s) hm
      unfold fn
      rw [List.getD_eq_getElem?_getD (l := lessen M u L), this]
      exact u3
    · exact lessen_lt hM hL2 hp.2 u1 u2 q s h
theorem settle_full {M : Int} {n : Nat} {S : List (Option Row)} (full : ∀ i, i < n → ∃ s, S[i]? = some (some s)) : ∀ i, i ≤ n → (settle M n S i).map (·.1) = (List.range i).map (n - i + ·)
  | 0, _ => rfl
  | i + 1, hi => by
    obtain ⟨s, hs⟩ := full (n - 1 - i) (by omega)
    have e : S.getD (n - 1 - i) none = some s := by rw [List.getD_eq_getElem?_getD, hs]; rfl
    have ih := settle_full (M := M) full i (by omega)
    have e2 : settle M n S (i + 1) = (n - 1 - i, lessen M s (settle M n S i)) :: settle M n S i := by
      show (match S.getD (n - 1 - i) none with | none => _ | some r => _) = _
      rw [e]
    rw [e2, List.map_cons, ih, List.range_succ_eq_map, List.map_cons, List.map_map]
    congr 1
    · show n - 1 - i = n - (i + 1) + 0
      omega
    · refine List.map_congr_left fun k _ => ?_
      show n - i + k = n - (i + 1) + (k + 1)
      omega
theorem settle_pw {M : Int} {W n : Nat} {S : List (Option Row)} (hM : 2 ≤ M) (wf : WF M W n S) (hn : n ≤ W) : ∀ i, i ≤ n → (settle M n S i).Pairwise (fun a b => b.2[a.1]? = some 0)
  | 0, _ => .nil
  | i + 1, hi => by
    have ih := settle_pw hM wf hn i (by omega)
    unfold settle
    split
    · exact ih
    · rw [List.pairwise_cons]
      refine ⟨fun qs h => ?_, ih⟩
      obtain ⟨b1, _, _, _, b5, _⟩ := settle_ok hM wf hn i (by omega) qs.1 qs.2 h
      exact b5 _ (by show n - 1 - i < qs.1; omega)
theorem settle_rel {M : Int} {n : Nat} {A : Mat} {S : List (Option Row)} (h : AllRel M n A S) : ∀ i q s, (q, s) ∈ settle M n S i → Rel M n A s
  | 0, q, s, m => by simp [settle] at m
  | i + 1, q, s, m => by
    unfold settle at m
    split at m
    · exact settle_rel h i q s m
    · rename_i r e
      rcases List.mem_cons.mp m with m | m
      · cases m
        refine lessen_rel (settle_rel h i) (h (n - 1 - i) r ?_)
        rw [List.getD_eq_getElem?_getD] at e
        cases z : S[n - 1 - i]? with
        | none => rw [z] at e; cases e
        | some o => rw [z] at e; exact congrArg some e
      · exact settle_rel h i q s m
/-- pivots of 1: a settled row is less than 1 at the places of the rows behind -/
theorem settle_one {M : Int} {W n : Nat} {S : List (Option Row)} (hM : 2 ≤ M) (wf : WF M W n S) (hn : n ≤ W) (good : ∀ i, i < n → ∃ s, S[i]? = some (some s) ∧ s[i]? = some 1) : ∀ i, i ≤ n → ∀ q s, (q, s) ∈ settle M n S i → ∀ p, q < p → p < n → fn s p = 0
  | 0, _, q, s, m => by simp [settle] at m
  | i + 1, hi, q, s, m => by
    have ih := settle_one hM wf hn good i (by omega)
    have full : ∀ i, i < n → ∃ s, S[i]? = some (some s) := fun i h => by
      obtain ⟨s, h1, _⟩ := good i h
      exact ⟨s, h1⟩
    have hf := settle_full (M := M) full i (by omega)
    have hL := settle_lok hM wf hn (show i ≤ n by omega)
    have hpw := settle_pw hM wf hn i (by omega)
    have hso := settle_ok hM wf hn i (by omega)
    unfold settle at m
    split at m
    · exact ih q s m
    · rename_i r e
      rcases List.mem_cons.mp m with m | m
      · cases m
        intro p h1 h2
        have e2 : S[n - 1 - i]? = some (some r) := by
          rw [List.getD_eq_getElem?_getD] at e
          cases z : S[n - 1 - i]? with
          | none => rw [z] at e; cases e
          | some o => rw [z] at e; exact congrArg some e
        obtain ⟨a1, a2, _, _⟩ := wf.row _ _ e2
        have hp : p ∈ (settle M n S i).map (·.1) := by
          rw [hf]
          exact List.mem_map.mpr ⟨p - (n - i), List.mem_range.mpr (by omega), by omega⟩
        obtain ⟨⟨p', t⟩, hm, rfl⟩ := List.mem_map.mp hp
        have lt := lessen_lt (show 1 ≤ M by omega) hL hpw a1 a2 _ t hm
        obtain ⟨_, _, _, _, _, r0, x, c1, c2, c3, _⟩ := hso _ t hm
        obtain ⟨s1, d1, d2⟩ := good _ h2
        rw [d1] at c1
        cases c1
        rw [d2] at c2
        cases c2
        have et : fn t p' = 1 := by
          unfold fn
          rw [List.getD_eq_getElem?_getD, c3]
          rfl
        obtain ⟨y1, y2, _⟩ := lessen_ok (show 1 ≤ M by omega) hL a1 a2
        have ge : 0 ≤ fn (lessen M r (settle M n S i)) p' := by
          unfold fn
          rw [List.getD_eq_getElem?_getD, List.getElem?_eq_getElem (by show p' < _; omega)]
          exact (y2 _ (List.getElem_mem _)).1
        have lt' : fn (lessen M r (settle M n S i)) p' < fn t p' := lt
        show fn (lessen M r (settle M n S i)) p' = 0
        omega
      · exact ih q s m
theorem und_good {M : Int} (hM : 2 ≤ M) {n : Nat} {A : Mat} {S : List (Option Row)} (sA : Shp n n A) (p : Puts M n A n S) (good : ∀ i, i < n → ∃ s, S[i]? = some (some s) ∧ s[i]? = some 1) :
    Shp n n ((settle M n S n).map fun qs => qs.2.drop n) ∧ MRed M ((settle M n S n).map fun qs => qs.2.drop n) ∧ EqF M n (mulF n (ent ((settle M n S n).map fun qs => qs.2.drop n)) (ent A)) oneF := by
  have wf := p.wf hM sA.2
  have rel := settle_rel (p.rel sA) n
  have hso := settle_ok hM wf (by omega) n (Nat.le_refl _)
  have h0 := settle_one hM wf (by omega) good n (Nat.le_refl _)
  have full : ∀ i, i < n → ∃ s, S[i]? = some (some s) := fun i h => by
    obtain ⟨s, h1, _⟩ := good i h
    exact ⟨s, h1⟩
  have hf := settle_full (M := M) full n (Nat.le_refl _)
  have hlen : (settle M n S n).length = n := by
    have := congrArg List.length hf
    simpa using this
  refine ⟨⟨by rw [List.length_map, hlen], fun r hr => ?_⟩, fun r hr x hx => ?_, fun i j hi hj => ?_⟩
  · obtain ⟨⟨q, s⟩, hm, rfl⟩ := List.mem_map.mp hr
    obtain ⟨_, _, sl, _⟩ := hso q s hm
    simp [sl]
    omega
  · obtain ⟨⟨q, s⟩, hm, rfl⟩ := List.mem_map.mp hr
    obtain ⟨_, _, _, sr, _⟩ := hso q s hm
    exact sr x (List.mem_of_mem_drop hx)
  · have hi2 : i < (settle M n S n).length := by omega
    have e1 : ((settle M n S n).map (·.1))[i]? = some i := by
      rw [hf, List.getElem?_map, List.getElem?_range hi]
      simp
    rw [List.getElem?_map, List.getElem?_eq_getElem hi2] at e1
    have e2 : ((settle M n S n)[i]).1 = i := by simpa using e1
    have hm := List.getElem_mem hi2
    have hA : ((settle M n S n).map fun qs => qs.2.drop n)[i]? = some (((settle M n S n)[i]).2.drop n) := by
      rw [List.getElem?_map, List.getElem?_eq_getElem hi2]
      rfl
    generalize hqs : (settle M n S n)[i] = qs at *
    obtain ⟨q, s⟩ := qs
    have e2 : q = i := e2
    subst e2
    obtain ⟨_, _, sl, _, sz, r0, x, c1, c2, c3, _⟩ := hso q s hm
    obtain ⟨s1, d1, d2⟩ := good q hi
    rw [d1] at c1
    cases c1
    rw [d2] at c2
    cases c2
    have e3 : fn s j = oneF q j := by
      show _ = if q = j then 1 else 0
      rcases Nat.lt_trichotomy j q with h | h | h
      · rw [if_neg (by omega)]
        unfold fn
        rw [List.getD_eq_getElem?_getD, sz j h]
        rfl
      · subst h
        rw [if_pos rfl]
        unfold fn
        rw [List.getD_eq_getElem?_getD, c3]
        rfl
      · rw [if_neg (by omega)]
        exact h0 q s hm j h hj
    have r1 := (rel q s hm).2 j hj
    rw [e3] at r1
    refine (Eqm.trans (.eq ?_) r1.symm)
    show sumN n (fun k => _) = _
    refine sumN_congr fun k hk => ?_
    rw [ent_at hA]
    congr 1
    unfold fn
    rw [List.getD_eq_getElem?_getD, List.getD_eq_getElem?_getD, List.getElem?_drop]
end Wk

namespace Wk
open PySem L2
abbrev s_check_modulus : Stmt := top 50
theorem sc_check_modulus : FnScope ["modulus"] ["modulus"] (defScope s_check_modulus) := ⟨rfl, rfl, rfl, by decide +kernel, rfl, by decide +kernel, by decide +kernel⟩
abbrev s_checked_matrix : Stmt := top 51
theorem sc_checked_matrix : FnScope ["rows", "size", "modulus", "wrong", "row"] ["rows", "size", "modulus"] (defScope s_checked_matrix) := ⟨rfl, rfl, rfl, by decide +kernel, rfl, by decide +kernel, by decide +kernel⟩
abbrev s_checked_columns : Stmt := top 52
theorem sc_checked_columns : FnScope ["rows", "size", "modulus", "wrong", "row"] ["rows", "size", "modulus"] (defScope s_checked_columns) := ⟨rfl, rfl, rfl, by decide +kernel, rfl, by decide +kernel, by decide +kernel⟩
abbrev s_beside : Stmt := top 49
theorem sc_beside : FnScope ["one", "other", "row", "more"] ["one", "other"] (defScope s_beside) := ⟨rfl, rfl, rfl, by decide +kernel, rfl, by decide +kernel, by decide +kernel⟩

structure TxtG (mg : Str → Option Value) : Prop extends TxtV mg where
  gGREATEST_MODULUS : ∃ t, mg "GREATEST_MODULUS" = some (.int 1000000000000000000 t)
  gMOST_NUMBERS : ∃ t, mg "MOST_NUMBERS" = some (.int 16 t)
  gMOST_SYMBOLS : ∃ t, mg "MOST_SYMBOLS" = some (.int 10000 t)
  gGROUP : ∃ t, mg "GROUP" = some (.int 32 t)
  gDOUBLINGS : ∃ t, mg "DOUBLINGS" = some (.int 5 t)
  gWORTH : ∃ t, mg "WORTH" = some (.int 3 t)
def spChkM : Sp := fun vs H Q _ => ∃ M : Int, vs = [.int M] ∧ 2 ≤ M ∧ M ≤ 1000000000000000000 ∧ Q .non H
def spChkA (K : PySem.W.Frag) : Sp := fun vs H Q _ => ∃ (t u : Bool) (a : Addr) (A : Mat) (n : Nat) (M : Int), vs = [.ref a, .int (n : Int), .int M] ∧ RowsG t u K H a A ∧ A.length = n ∧ n ≤ 1000 ∧ (∀ r ∈ A, r.length = n) ∧ MRed M A ∧ NewMat K H A Q
def spChkC (K : PySem.W.Frag) : Sp := fun vs H Q _ => ∃ (t u : Bool) (a : Addr) (A : Mat) (n w : Nat) (M : Int), vs = [.ref a, .int (n : Int), .int M] ∧ RowsG t u K H a A ∧ A.length = n ∧ 1 ≤ n ∧ n ≤ 1000 ∧ 1 ≤ w ∧ w ≤ 16 ∧ (∀ r ∈ A, r.length = w) ∧ MRed M A ∧ NewMat K H A Q
def besideM (A B : Mat) : Mat := List.zipWith (· ++ ·) A B
def spBeside (K : PySem.W.Frag) : Sp := fun vs H Q _ => ∃ (a b : Addr) (A B : Mat), vs = [.ref a, .ref b] ∧ MatAt K H a A ∧ MatAt K H b B ∧ A.length = B.length ∧ A.length ≤ 1000 ∧ (∀ r ∈ A, r.length ≤ 1000) ∧ (∀ r ∈ B, r.length ≤ 1000) ∧ NewMat K H (besideM A B) Q
theorem tup_ofK {u : Bool} {K : PySem.W.Frag} {H : Hp} {p : Addr} {l : Row} {Fn : V → Hp → Prop} (hp : ZM.SqK u K H p (l.map V.int)) (fin : ∀ q H4, Same H H4 → SqT K H4 q (l.map V.int) → Fn (.ref q) H4) : (SqL K H p (l.map V.int) ∧ ∀ q, H q = none → Fn (.ref q) (upd H q (.tup (l.map V.int)))) ∨ (SqT K H p (l.map V.int) ∧ Fn (.ref p) H) := by
  cases u
  · exact .inl ⟨hp, fun q nq => fin q _ (same_upd nq) (SqT.of upd_same)⟩
  · exact .inr ⟨hp, fin p H (fun _ _ e => e) hp⟩
section
variable {P : Program} {w0 : World} {K : PySem.W.Frag} {mg : Str → Option Value} {base : Heap}
theorem ok_chkm {f fW : Addr} {fd fdW : FuncData} (F : Fun K "check_modulus" "check_modulus" s_check_modulus f fd) (T : TxtG mg)
    (G_is_within : FnOk P w0 K mg base CX0 2 fW fdW ["value", "least", "most"] spWithinI) (g_is_within : mg "is_within" = some (.ref fW)) (kp_is_within : PySem.W.keepIn K (.ref fW) = true) (b_is_within : Binds K fdW ["value", "least", "most"] []) :
    FnOk P w0 K mg base CX0 3 f fd ["modulus"] spChkM := by
  refine F.ok sc_check_modulus (fun vs H Q E h => ?_) (fun cdv A outer s H vs Q E hr h => ?_)
  · obtain ⟨M, rfl, _⟩ := h
    rfl
  · obtain ⟨M, rfl, hM, hM2, k⟩ := h
    refine ⟨_, (pss_one (ps_if (pt_not (pt_val (pe_call G_is_within (hr.mono (by decide)) rfl g_is_within kp_is_within b_is_within .nil pass0 (pa_cons (pv 0) (pa_cons pe_int (pa_cons (pe_glob (v := .int 1000000000000000000) rfl T.gGREATEST_MODULUS.choose_spec ⟨_, rfl⟩) pa_nil)))))) (pss_one ps_never) pss_nil)), ?_⟩
    refine ⟨_, rfl, M, 2, 1000000000000000000, rfl, ?_⟩
    rw [decide_eq_true hM, decide_eq_true hM2]
    exact ⟨true, rfl, iteF k⟩
theorem ok_chka {f fW : Addr} {fd fdW : FuncData} (F : Fun K "checked_matrix" "checked_matrix" s_checked_matrix f fd) (T : TxtG mg)
    (G_wrong_row : FnOk P w0 K mg base CX0 4 fW fdW ["rows", "many", "width", "modulus"] (spWRow K)) (g_wrong_row : mg "wrong_row" = some (.ref fW)) (kp_wrong_row : PySem.W.keepIn K (.ref fW) = true) (b_wrong_row : Binds K fdW ["rows", "many", "width", "modulus"] []) :
    FnOk P w0 K mg base CX0 5 f fd ["rows", "size", "modulus"] (spChkA K) := by
  refine F.ok sc_checked_matrix (fun vs H Q E h => ?_) (fun cdv A outer s H vs Q E hr h => ?_)
  · obtain ⟨t, u, a, r, n, M, rfl, _⟩ := h
    rfl
  · obtain ⟨t, u, a, Am, n, M, rfl, hS, hn, hn2, hl, hR, k⟩ := h
    refine ⟨_, (pss_cons (ps_set (i := 3) sc_checked_matrix.nd rfl (Or.inl rfl) (pe_call G_wrong_row (hr.mono (by decide)) rfl g_wrong_row kp_wrong_row b_wrong_row .nil pass0 (pa_cons (pv 0) (pa_cons (pv 1) (pa_cons (pv 1) (pa_cons (pv 2) pa_nil))))))
        (pss_cons (ps_if (pt_cmpR op_notN (pv 3) pe_non (nomark _)) (pss_one ps_never) pss_nil)
        (pss_one (ps_ret (pe_callTy (call_tupleK (K := K) rfl) rfl T.f_tuple (by decide +kernel) (pa_cons (pe_lc (own := [("row", 4)]) (g := gName 4) rfl sc_checked_matrix.nd (pi_sqK (K := K) rfl t (pv 0)) (blkOk_by (N := ["rows", "size", "modulus", "wrong", "row"]) (sc := defScope s_checked_matrix) (by decide +kernel)) (fun _ _ _ _ _ => (pg_name (i := 4) sc_checked_matrix.nd rfl (Or.inl rfl))) (fun _ _ _ _ _ => pts_nil) (fun _ _ _ _ _ => (pe_callTy (call_tupleK (K := K) rfl) rfl T.f_tuple (by decide +kernel) (pa_cons (pv 4) pa_nil)))) pa_nil)))))), ?_⟩
    refine ⟨_, rfl, _, rfl, _, rfl, _, rfl, t, u, a, Am, n, n, M, rfl, hS, hn, hn2, hn2, hl, hR, fun H2 s2 => ?_⟩
    obtain ⟨vs, hv, hA⟩ := hS.same s2
    have hvl := hA.length
    refine ⟨_, rfl, rfl, false, rfl, iteF ?_⟩
    refine ⟨_, rfl, a, rfl, ⟨vs, hv⟩, fun D hD => lc_rowsT (K := K) (walk_sq (t := t) (xs := vs)) hD (by omega) Am hvl.symm (fun H' e => SqK.same hv e) ?_ (fun acc H6 e6 s6 hR6 => tup_read e6 hR6 (same_trans s2 s6) k)⟩
    rintro i r v H6 H6' Fn Nn hi hr3 fin s6 ⟨rfl, hx⟩
    obtain ⟨p, l, rfl, gl, hp⟩ := hA.at_ hx
    rw [gl] at hr3
    cases hr3
    exact ⟨rfl, yesT ⟨_, rfl, p, _, rfl, tup_ofK (SqK.same hp s6) fin⟩⟩
theorem ok_chkc {f fW fL fN : Addr} {fd fdW fdL fdN : FuncData} (F : Fun K "checked_columns" "checked_columns" s_checked_columns f fd) (T : TxtG mg)
    (G_is_list : FnOk P w0 K mg base CX0 1 fL fdL ["value"] (spIsList K)) (g_is_list : mg "is_list" = some (.ref fL)) (kp_is_list : PySem.W.keepIn K (.ref fL) = true) (b_is_list : Binds K fdL ["value"] [])
    (G_is_within : FnOk P w0 K mg base CX0 2 fN fdN ["value", "least", "most"] spWithinI) (g_is_within : mg "is_within" = some (.ref fN)) (kp_is_within : PySem.W.keepIn K (.ref fN) = true) (b_is_within : Binds K fdN ["value", "least", "most"] [])
    (G_wrong_row : FnOk P w0 K mg base CX0 4 fW fdW ["rows", "many", "width", "modulus"] (spWRow K)) (g_wrong_row : mg "wrong_row" = some (.ref fW)) (kp_wrong_row : PySem.W.keepIn K (.ref fW) = true) (b_wrong_row : Binds K fdW ["rows", "many", "width", "modulus"] []) :
    FnOk P w0 K mg base CX0 5 f fd ["rows", "size", "modulus"] (spChkC K) := by
  refine F.ok sc_checked_columns (fun vs H Q E h => ?_) (fun cdv A outer s H vs Q E hr h => ?_)
  · obtain ⟨t, u, a, r, n, w, M, rfl, _⟩ := h
    rfl
  · obtain ⟨t, u, a, Am, n, w, M, rfl, hS, hn, hn1, hn2, hw1, hw2, hl, hR, k⟩ := h
    refine ⟨_, (pss_cons (ps_if (PW.pt (pw_or (pt_cmpR op_eq (pe_callB (call_lenSqK (K := K) rfl t) rfl T.f_len PySem.boot_len (pa_cons (pv 0) pa_nil)) pe_int (nomark _)) (pw_or (pt_not (pt_val (pe_call G_is_list (hr.mono (by decide)) rfl g_is_list kp_is_list b_is_list .nil pass0 (pa_cons (pe_ix (ix_sqK (K := K) rfl t) (pv 0) pe_int (fun _ _ => rfl)) pa_nil)))) (pw_or1 (pt_not (pt_val (pe_call G_is_within (hr.mono (by decide)) rfl g_is_within kp_is_within b_is_within .nil pass0 (pa_cons (pe_callB (call_lenSqK (K := K) rfl u) rfl T.f_len PySem.boot_len (pa_cons (pe_ix (ix_sqK (K := K) rfl t) (pv 0) pe_int (fun _ _ => rfl)) pa_nil)) (pa_cons pe_int (pa_cons (pe_glob (v := .int 16) rfl T.gMOST_NUMBERS.choose_spec ⟨_, rfl⟩) pa_nil)))))))))) (pss_one ps_never) pss_nil)
        (pss_cons (ps_set (i := 3) sc_checked_columns.nd rfl (Or.inl rfl) (pe_call G_wrong_row (hr.mono (by decide)) rfl g_wrong_row kp_wrong_row b_wrong_row .nil pass0 (pa_cons (pv 0) (pa_cons (pv 1) (pa_cons (pe_callB (call_lenSqK (K := K) rfl u) rfl T.f_len PySem.boot_len (pa_cons (pe_ix (ix_sqK (K := K) rfl t) (pv 0) pe_int (fun _ _ => rfl)) pa_nil)) (pa_cons (pv 2) pa_nil))))))
        (pss_cons (ps_if (pt_cmpR op_notN (pv 3) pe_non (nomark _)) (pss_one ps_never) pss_nil)
        (pss_one (ps_ret (pe_callTy (call_tupleK (K := K) rfl) rfl T.f_tuple (by decide +kernel) (pa_cons (pe_lc (own := [("row", 4)]) (g := gName 4) rfl sc_checked_columns.nd (pi_sqK (K := K) rfl t (pv 0)) (blkOk_by (N := ["rows", "size", "modulus", "wrong", "row"]) (sc := defScope s_checked_columns) (by decide +kernel)) (fun _ _ _ _ _ => (pg_name (i := 4) sc_checked_columns.nd rfl (Or.inl rfl))) (fun _ _ _ _ _ => pts_nil) (fun _ _ _ _ _ => (pe_callTy (call_tupleK (K := K) rfl) rfl T.f_tuple (by decide +kernel) (pa_cons (pv 4) pa_nil)))) pa_nil))))))), ?_⟩
    obtain ⟨vs, hv, hA⟩ := id hS
    have hvl := hA.length
    have h0 : Am[0]? = some Am[0] := List.getElem?_eq_getElem (by omega)
    obtain ⟨p0, g0, hp0⟩ := hA.get h0
    have hl0 := hl _ (List.mem_of_getElem? h0)
    generalize Am[0] = r0 at *
    have a0 : atI vs 0 = some (V.ref p0) := atI_nat (j := 0) g0
    refine ⟨_, rfl, a, _, rfl, hv, rfl, false, congrArg V.bl (decide_eq_false fun z => ?_), iteF ?_⟩
    · injection z with z
      omega
    refine ⟨_, rfl, a, vs, 0, _, rfl, rfl, hv, a0, u, p0, _, rfl, hp0, fun H3 s3 => ⟨true, rfl, iteF ?_⟩⟩
    have hv3 := SqK.same hv s3
    have hp3 := SqK.same hp0 s3
    refine ⟨_, rfl, a, vs, 0, _, rfl, rfl, hv3, a0, p0, _, rfl, hp3, (r0.map V.int).length, 1, 16, rfl, ?_⟩
    rw [List.length_map, hl0, decide_eq_true (show (1 : Int) ≤ w by omega), decide_eq_true (show (w : Int) ≤ 16 by omega)]
    refine ⟨true, rfl, iteF ?_⟩
    refine ⟨_, rfl, _, rfl, _, rfl, a, vs, 0, _, rfl, rfl, hv3, a0, p0, _, rfl, hp3, ?_⟩
    rw [List.length_map, hl0]
    refine ⟨_, rfl, t, u, a, Am, n, w, M, rfl, hS.same s3, hn, hn2, by omega, hl, hR, fun H2 s2 => ?_⟩
    have s2 := same_trans s3 s2
    obtain ⟨vs, hv, hA⟩ := hS.same s2
    refine ⟨_, rfl, rfl, false, rfl, iteF ?_⟩
    have hvl := hA.length
    refine ⟨_, rfl, a, rfl, ⟨vs, hv⟩, fun D hD => lc_rowsT (K := K) (walk_sq (t := t) (xs := vs)) hD (by omega) Am hvl.symm (fun H' e => SqK.same hv e) ?_ (fun acc H6 e6 s6 hR6 => tup_read e6 hR6 (same_trans s2 s6) k)⟩
    rintro i r v H6 H6' Fn Nn hi hr3 fin s6 ⟨rfl, hx⟩
    obtain ⟨p, l, rfl, gl, hp⟩ := hA.at_ hx
    rw [gl] at hr3
    cases hr3
    exact ⟨rfl, yesT ⟨_, rfl, p, _, rfl, tup_ofK (SqK.same hp s6) fin⟩⟩
theorem ok_beside {f : Addr} {fd : FuncData} (F : Fun K "beside" "beside" s_beside f fd) (T : TxtG mg) : FnOk P w0 K mg base CX0 1 f fd ["one", "other"] (spBeside K) := by
  refine F.ok sc_beside (fun vs H Q E h => ?_) (fun cdv A outer s H vs Q E hr h => ?_)
  · obtain ⟨a, b, A, B, rfl, _⟩ := h
    rfl
  · obtain ⟨a, b, Am, Bm, rfl, ⟨va, hA, rA⟩, ⟨vb, hB, rB⟩, hl, hn, wa, wb, k⟩ := h
    refine ⟨_, (pss_one (ps_ret (pe_callTy (call_tupleK (K := K) rfl) rfl T.f_tuple (by decide +kernel) (pa_cons (pe_lc (own := [("row", 2), ("more", 3)]) (g := gTup K 2 (gCons (gName 2) (gCons (gName 3) gNil))) rfl sc_beside.nd (pi_zip2K (K := K) rfl true true rfl T.f_zip (pa_cons (pv 0) (pa_cons (pv 1) pa_nil))) (blkOk_by (N := ["one", "other", "row", "more"]) (sc := defScope s_beside) (by decide +kernel)) (fun _ _ _ _ _ => (pg_tupK rfl rfl (pgs_cons (pg_name (i := 2) sc_beside.nd rfl (Or.inl rfl)) (pgs_cons (pg_name (i := 3) sc_beside.nd rfl (Or.inl rfl)) pgs_nil)))) (fun _ _ _ _ _ => pts_nil) (fun _ _ _ _ _ => (pe_op (op_catAK (K := K) rfl) (pv 2) (pv 3)))) pa_nil)))), ?_⟩
    have la := rA.length
    have lb := rB.length
    refine ⟨_, rfl, _, rfl, a, b, _, _, rfl, hA, hB, fun D hD => lc_rowsT (K := K) (ZM.walk_two (t := true) (u := true) (n := Am.length) (by rw [la, lb, ← hl]; simp)) hD (by omega) (besideM Am Bm) (by simp [besideM, hl]) (fun H' e => ⟨SqT.same hA e, SqT.same hB e⟩) ?_ (fun acc H6 e6 s6 hR6 => tup_read e6 hR6 s6 k)⟩
    rintro i r v H6 H6' Fn Nn hi hr3 fin s6 ⟨T2, x, y, rfl, hT2, rfl, hx, hy⟩
    obtain ⟨pa, ra, rfl, ga, ha⟩ := rows_at rA hx
    obtain ⟨pb, rb, rfl, gb, hb⟩ := rows_at rB hy
    have er : r = ra ++ rb := by
      unfold besideM at hr3
      rw [List.getElem?_zipWith, ga, gb] at hr3
      cases hr3
      rfl
    subst er
    have sT := same_upd (o := .tup [.ref pa, .ref pb]) hT2
    refine ⟨T2, _, rfl, SqT.of upd_same, rfl, _, _, rfl, _, _, rfl, rfl, rfl, yesT ?_⟩
    have ea : (ra ++ rb).map V.int = ra.map V.int ++ rb.map V.int := List.map_append
    have wla := wa _ (List.mem_of_getElem? ga)
    have wlb := wb _ (List.mem_of_getElem? gb)
    refine ⟨_, rfl, _, rfl, pa, pb, _, _, rfl, rfl, SqT.same (SqT.same ha s6) sT, SqT.same (SqT.same hb s6) sT, ?_⟩
    have s7 := same_trans s6 sT
    rw [← ea] at *
    have hb7 := SqT.same hb s7
    have ha7 := SqT.same ha s7
    refine ⟨Nat.le_trans (show _ ≤ 2000 by simp; omega) (by decide), fun e => fin _ _ sT ?_, fun _ e => fin _ _ sT ?_, fun _ _ q nq => fin q _ (same_trans sT (same_upd nq)) (SqT.of upd_same)⟩
    · have : ra = [] := List.map_eq_nil_iff.mp e
      rw [this]
      exact hb7
    · have : rb = [] := List.map_eq_nil_iff.mp e
      rw [this, List.append_nil]
      exact ha7
end
end Wk

namespace Wk
open PySem L2
abbrev s_Guard_init : Stmt := inClass (top 46) 0
theorem sc_Guard_init : FnScope ["self", "modulus", "matrix", "columns", "start", "end", "size", "wrong"] ["self", "modulus", "matrix", "columns", "start", "end"] (defScope s_Guard_init) := ⟨rfl, rfl, rfl, by decide +kernel, rfl, by decide +kernel, by decide +kernel⟩
abbrev s_Guard_told : Stmt := inClass (top 46) 2
theorem sc_Guard_told : FnScope ["self", "block", "state", "number", "more"] ["self", "block"] (defScope s_Guard_told) := ⟨rfl, rfl, rfl, by decide +kernel, rfl, by decide +kernel, by decide +kernel⟩
abbrev s_Guard_behind : Stmt := inClass (top 46) 3
theorem sc_Guard_behind : FnScope ["self", "block", "state", "wrong"] ["self", "block", "state"] (defScope s_Guard_behind) := ⟨rfl, rfl, rfl, by decide +kernel, rfl, by decide +kernel, by decide +kernel⟩
abbrev s_state_behind : Stmt := top 47
theorem sc_state_behind : FnScope ["guard", "block", "state", "alone", "step", "symbol", "numbers", "at", "number"] ["guard", "block", "state"] (defScope s_state_behind) := ⟨rfl, rfl, rfl, by decide +kernel, rfl, by decide +kernel, by decide +kernel⟩

/-! ### a guard as an object -/
structure GD where
  M : Int
  A : Mat
  G : Mat
  st : Row
  en : Row
  n : Nat
  w : Nat
def LInv (M : Int) (n : Nat) (A : Mat) : Prop := ∃ B : Fm, EqF M n (mulF n B (ent A)) oneF
structure GOk (D : GD) : Prop where
  m2 : 2 ≤ D.M
  m18 : D.M ≤ 1000000000000000000
  n1 : 1 ≤ D.n
  n16 : D.n ≤ 16
  w1 : 1 ≤ D.w
  w16 : D.w ≤ 16
  sA : Shp D.n D.n D.A
  sG : Shp D.n D.w D.G
  lst : D.st.length = D.n
  len : D.en.length = D.n
  rA : MRed D.M D.A
  rG : MRed D.M D.G
  rst : RRed D.M D.st
  ren : RRed D.M D.en
  inv : LInv D.M D.n D.A
def flG (D : GD) (aM aC aS aE : Addr) : List (Str × V) := [("modulus", .int D.M), ("size", .int (D.n : Int)), ("matrix", .ref aM), ("columns", .ref aC), ("width", .int (D.w : Int)), ("start", .ref aS), ("end", .ref aE)]
structure GuardAt (K : PySem.W.Frag) (C : Addr) (H : Hp) (p : Addr) (D : GD) : Prop where
  ex : ∃ dx aM aC aS aE, H p = some (.ins C dx (flG D aM aC aS aE)) ∧ MatAt K H aM D.A ∧ MatAt K H aC D.G ∧ RowAt K H aS D.st ∧ RowAt K H aE D.en
theorem GuardAt.same {K : PySem.W.Frag} {C : Addr} {H H' : Hp} {p : Addr} {D : GD} (h : GuardAt K C H p D) (e : Same H H') : GuardAt K C H' p D := by
  obtain ⟨dx, aM, aC, aS, aE, h1, h2, h3, h4, h5⟩ := h.ex
  exact ⟨dx, aM, aC, aS, aE, e _ _ h1, h2.same e, h3.same e, SqT.same h4 e, SqT.same h5 e⟩
section
variable {D : GD} {aM aC aS aE : Addr}
theorem flG_m : (flG D aM aC aS aE).lookup ("modulus" : Str) = some (.int D.M) := by rfl
theorem flG_n : (flG D aM aC aS aE).lookup ("size" : Str) = some (.int (D.n : Int)) := by rfl
theorem flG_A : (flG D aM aC aS aE).lookup ("matrix" : Str) = some (.ref aM) := by rfl
theorem flG_G : (flG D aM aC aS aE).lookup ("columns" : Str) = some (.ref aC) := by rfl
theorem flG_w : (flG D aM aC aS aE).lookup ("width" : Str) = some (.int (D.w : Int)) := by rfl
theorem flG_s : (flG D aM aC aS aE).lookup ("start" : Str) = some (.ref aS) := by rfl
theorem flG_e : (flG D aM aC aS aE).lookup ("end" : Str) = some (.ref aE) := by rfl
end
structure TxtGd (K : PySem.W.Frag) (mg : Str → Option Value) (C fI fT fB fQ : Addr) : Prop extends TxtG mg where
  cl : Cls K C
  a_modulus : NoAttr K C "modulus"
  a_size : NoAttr K C "size"
  a_matrix : NoAttr K C "matrix"
  a_columns : NoAttr K C "columns"
  a_width : NoAttr K C "width"
  a_start : NoAttr K C "start"
  a_end : NoAttr K C "end"
  mgC : mg "Guard" = some (.ref C)
  mkr : Mk K C fI
  m_told : Meth K C "told" fT
  m_behind : Meth K C "behind" fB
  m_eq : Meth K C "__eq__" fQ
  ca : PySem.W.findIn K (.ref C) "__class__" = some (some (.builtin "object.__class__"))
  cn : PySem.W.specialIn K (.builtin "object.__class__") "__get__" = some (some (.builtin "getset_descriptor.__get__"))
  ct : PySem.W.takesIn K (.builtin "object.__class__") = some true
  cm : PySem.W.mroIn K C (.type "object") = some true
  k1 : PySem.W.kitOne K (.ref C) (.ref C) = some true
  k2 : PySem.W.kitOne K (.type "list") (.ref C) = some false
  s1 : PySem.W.subIn K (.type "list") (.ref C) = some false
/-- no list and no tuple stands at p -/
def NoSq (H : Hp) (p : Addr) : Prop := ∀ xs o, H p ≠ some (.lst xs) ∧ H p ≠ some (.tup xs) ∧ H p ≠ some (.frz o (.lst xs)) ∧ H p ≠ some (.frz o (.tup xs))
theorem NoSq.ins {H : Hp} {p C dx : Addr} {fs} (h : H p = some (.ins C dx fs)) : NoSq H p := fun xs o => by
  rw [h]
  exact ⟨(fun z => by cases z), (fun z => by cases z), (fun z => by cases z), (fun z => by cases z)⟩
theorem NoSq.dk {H : Hp} {p : Addr} {kvs} (h : H p = some (.dK kvs)) : NoSq H p := fun xs o => by
  rw [h]
  exact ⟨(fun z => by cases z), (fun z => by cases z), (fun z => by cases z), (fun z => by cases z)⟩
theorem SqT.but {K : PySem.W.Frag} {H H' : Hp} {a p : Addr} {xs : List V} (h : SqT K H a xs) (e : But p H H') (n : NoSq H p) : SqT K H' a xs := by
  rcases h with (h | ⟨o, h⟩) | h
  · exact .inl (.inl (e _ _ (fun z => (n xs default).2.1 (z ▸ h)) h))
  · exact .inl (.inr ⟨o, e _ _ (fun z => (n xs o).2.2.2 (z ▸ h)) h⟩)
  · exact .inr h
theorem SqK.but {t : Bool} {K : PySem.W.Frag} {H H' : Hp} {a p : Addr} {xs : List V} (h : ZM.SqK t K H a xs) (e : But p H H') (n : NoSq H p) : ZM.SqK t K H' a xs := by
  cases t
  · rcases h with (h | ⟨o, h⟩) | h
    · exact .inl (.inl (e _ _ (fun z => (n xs default).1 (z ▸ h)) h))
    · exact .inl (.inr ⟨o, e _ _ (fun z => (n xs o).2.2.1 (z ▸ h)) h⟩)
    · exact .inr h
  · exact SqT.but h e n
theorem RowsS.but {u : Bool} {K : PySem.W.Frag} {H H' : Hp} {p : Addr} (e : But p H H') (n : NoSq H p) : ∀ {vs : List V} {A : Mat}, RowsS u K H vs A → RowsS u K H' vs A
  | _, _, .nil => .nil
  | _, _, .cons h t => .cons (SqK.but h e n) (t.but e n)
theorem RowsG.but {t u : Bool} {K : PySem.W.Frag} {H H' : Hp} {a p : Addr} {A : Mat} (h : RowsG t u K H a A) (e : But p H H') (n : NoSq H p) : RowsG t u K H' a A := by
  obtain ⟨vs, h1, h2⟩ := h
  exact ⟨vs, SqK.but h1 e n, h2.but e n⟩
theorem RowsAre.but' {K : PySem.W.Frag} {H H' : Hp} {p : Addr} (e : But p H H') (n : NoSq H p) : ∀ {vs : List V} {A : Mat}, RowsAre K H vs A → RowsAre K H' vs A
  | _, _, .nil => .nil
  | _, _, .cons h t => .cons (SqT.but h e n) (t.but' e n)
theorem MatAt.but' {K : PySem.W.Frag} {H H' : Hp} {a p : Addr} {A : Mat} (h : MatAt K H a A) (e : But p H H') (n : NoSq H p) : MatAt K H' a A := by
  obtain ⟨vs, h1, h2⟩ := h
  exact ⟨vs, SqT.but h1 e n, h2.but' e n⟩
theorem RowsAre.get0 {K : PySem.W.Frag} {H : Hp} : ∀ {vs : List V} {A : Mat}, RowsAre K H vs A → ∀ {i : Nat} {l : Row}, A[i]? = some l → ∃ (p : Addr), vs[i]? = some (.ref p) ∧ SqT K H p (l.map V.int)
  | _, _, .nil, i, x, e => by simp at e
  | _, _, .cons h t, 0, x, e => by
    cases e
    exact ⟨_, rfl, h⟩
  | _, _, .cons h t, i + 1, x, e => t.get0 (i := i) e
theorem tup_ofR {u : Bool} {K : PySem.W.Frag} {H : Hp} {p : Addr} {l : Row} {Q : VK} (hp : ZM.SqK u K H p (l.map V.int)) (fin : ∀ q H4, Same H H4 → SqT K H4 q (l.map V.int) → Q (.ref q) H4) : rTupOf K [.ref p] H Q := ⟨p, _, rfl, tup_ofK hp fin⟩
/-! slices of a list or a tuple -/
def rSlS (t : Bool) (K : PySem.W.Frag) : V → Option Int → Option Int → Hp → VK → Prop := if t = true then rSlA K else rSlL K
theorem sl_sqK {X : Cx} {K : PySem.W.Frag} (hK : X.K = K) (t : Bool) : SlR X (rSlS t K) := by
  subst hK
  cases t
  · exact sl_list
  · exact sl_tupA
theorem cutV_whole {xs : List V} {lo hi : Option Int} (h : HT.sIx xs.length 0 lo = 0 ∧ HT.sIx xs.length xs.length hi = xs.length) : cutV xs lo hi = xs := by
  unfold cutV
  rw [h.1, h.2, List.drop_zero, Nat.sub_zero, List.take_length]
theorem slS_read {t : Bool} {K : PySem.W.Frag} {H : Hp} {a : Addr} {xs : List V} {lo hi : Option Int} {Q : VK} (h : ZM.SqK t K H a xs) (k : ∀ q H', Same H H' → ZM.SqK t K H' q (cutV xs lo hi) → Q (.ref q) H') : rSlS t K (.ref a) lo hi H Q := by
  cases t
  · exact ⟨a, xs, rfl, h, fun p np => k p _ (same_upd np) (.inl (.inl upd_same))⟩
  · exact ⟨a, xs, rfl, h, fun w => k a H (fun _ _ e => e) (by rw [cutV_whole w]; exact h), fun _ p np => k p _ (same_upd np) (.inl (.inl upd_same))⟩
def spGInit (K : PySem.W.Frag) (C : Addr) : Sp := fun vs H Q _ => ∃ (t u t2 u2 t3 t4 : Bool) (p dx aM aC aS aE : Addr) (D : GD), vs = [.ref p, .int D.M, .ref aM, .ref aC, .ref aS, .ref aE] ∧ H p = some (.ins C dx []) ∧ GOk D ∧
  RowsG t u K H aM D.A ∧ RowsG t2 u2 K H aC D.G ∧ ZM.SqK t3 K H aS (D.st.map V.int) ∧ ZM.SqK t4 K H aE (D.en.map V.int) ∧ ∀ H', But p H H' → GuardAt K C H' p D → Q .non H'
section
variable {P : Program} {w0 : World} {K : PySem.W.Frag} {mg : Str → Option Value} {base : Heap} {C fI fT fB fQ : Addr}
theorem ok_ginit {f fm fw fa fu fc fn : Addr} {fd fdm fdw fda fdu fdc fdn : FuncData} (F : Fun K "__init__" "Guard.__init__" s_Guard_init f fd) (T : TxtGd K mg C fI fT fB fQ)
    (G_check_modulus : FnOk P w0 K mg base CX0 3 fm fdm ["modulus"] spChkM) (g_check_modulus : mg "check_modulus" = some (.ref fm)) (kp_check_modulus : PySem.W.keepIn K (.ref fm) = true) (b_check_modulus : Binds K fdm ["modulus"] [])
    (G_is_within : FnOk P w0 K mg base CX0 2 fw fdw ["value", "least", "most"] spWithinI) (g_is_within : mg "is_within" = some (.ref fw)) (kp_is_within : PySem.W.keepIn K (.ref fw) = true) (b_is_within : Binds K fdw ["value", "least", "most"] [])
    (G_checked_matrix : FnOk P w0 K mg base CX0 5 fa fda ["rows", "size", "modulus"] (spChkA K)) (g_checked_matrix : mg "checked_matrix" = some (.ref fa)) (kp_checked_matrix : PySem.W.keepIn K (.ref fa) = true) (b_checked_matrix : Binds K fda ["rows", "size", "modulus"] [])
    (G_undone : FnOk P w0 K mg base CX0 4 fu fdu ["modulus", "matrix"] (spUndone K)) (g_undone : mg "undone" = some (.ref fu)) (kp_undone : PySem.W.keepIn K (.ref fu) = true) (b_undone : Binds K fdu ["modulus", "matrix"] [])
    (G_checked_columns : FnOk P w0 K mg base CX0 5 fc fdc ["rows", "size", "modulus"] (spChkC K)) (g_checked_columns : mg "checked_columns" = some (.ref fc)) (kp_checked_columns : PySem.W.keepIn K (.ref fc) = true) (b_checked_columns : Binds K fdc ["rows", "size", "modulus"] [])
    (G_wrong_number : FnOk P w0 K mg base CX0 3 fn fdn ["numbers", "many", "modulus"] (spWNum K)) (g_wrong_number : mg "wrong_number" = some (.ref fn)) (kp_wrong_number : PySem.W.keepIn K (.ref fn) = true) (b_wrong_number : Binds K fdn ["numbers", "many", "modulus"] []) :
    FnOk P w0 K mg base CX0 6 f fd ["self", "modulus", "matrix", "columns", "start", "end"] (spGInit K C) := by
  refine F.ok sc_Guard_init (fun vs H Q E h => ?_) (fun cdv A outer s H vs Q E hr h => ?_)
  · obtain ⟨t, u, t2, u2, t3, t4, p, dx, aM, aC, aS, aE, D, rfl, _⟩ := h
    rfl
  · obtain ⟨t, u, t2, u2, t3, t4, p, dx, aM, aC, aS, aE, D, rfl, hp, ok, hA, hG, hS, hE, k⟩ := h
    refine ⟨_, (pss_cons (ps_expr (pe_call G_check_modulus (hr.mono (by decide)) rfl g_check_modulus kp_check_modulus b_check_modulus .nil pass0 (pa_cons (pv 1) pa_nil)))
        (pss_cons (ps_set (i := 6) sc_Guard_init.nd rfl (Or.inl rfl) (pe_callB (call_lenSqK (K := K) rfl t) rfl T.f_len PySem.boot_len (pa_cons (pv 2) pa_nil)))
        (pss_cons (ps_if (pt_not (pt_val (pe_call G_is_within (hr.mono (by decide)) rfl g_is_within kp_is_within b_is_within .nil pass0 (pa_cons (pv 6) (pa_cons pe_int (pa_cons (pe_glob (v := .int 16) rfl T.gMOST_NUMBERS.choose_spec ⟨_, rfl⟩) pa_nil)))))) (pss_one ps_never) pss_nil)
        (pss_cons (ps_fld (pv 0) (pv 1) rfl)
        (pss_cons (ps_fld (pv 0) (pv 6) rfl)
        (pss_cons (ps_fld (pv 0) (pe_call G_checked_matrix (hr.mono (by decide)) rfl g_checked_matrix kp_checked_matrix b_checked_matrix .nil pass0 (pa_cons (pv 2) (pa_cons (pv 6) (pa_cons (pv 1) pa_nil)))) rfl)
        (pss_cons (ps_if (pt_cmpR op_isN (pe_call G_undone (hr.mono (by decide)) rfl g_undone kp_undone b_undone .nil pass0 (pa_cons (pv 1) (pa_cons (pe_fld (pv 0) rfl) pa_nil))) pe_non (nomark _)) (pss_one ps_never) pss_nil)
        (pss_cons (ps_fld (pv 0) (pe_call G_checked_columns (hr.mono (by decide)) rfl g_checked_columns kp_checked_columns b_checked_columns .nil pass0 (pa_cons (pv 3) (pa_cons (pv 6) (pa_cons (pv 1) pa_nil)))) rfl)
        (pss_cons (ps_fld (pv 0) (pe_callB call_len_seq rfl T.f_len PySem.boot_len (pa_cons (pe_ix ix_tup (pe_fld (pv 0) rfl) pe_int (fun _ _ => rfl)) pa_nil)) rfl)
        (pss_cons (ps_set (i := 7) sc_Guard_init.nd rfl (Or.inl rfl) (pe_call G_wrong_number (hr.mono (by decide)) rfl g_wrong_number kp_wrong_number b_wrong_number .nil pass0 (pa_cons (pv 4) (pa_cons (pv 6) (pa_cons (pv 1) pa_nil)))))
        (pss_cons (ps_if (pt_cmpR op_notN (pv 7) pe_non (nomark _)) (pss_one ps_never) pss_nil)
        (pss_cons (ps_set (i := 7) sc_Guard_init.nd rfl (Or.inl rfl) (pe_call G_wrong_number (hr.mono (by decide)) rfl g_wrong_number kp_wrong_number b_wrong_number .nil pass0 (pa_cons (pv 5) (pa_cons (pv 6) (pa_cons (pv 1) pa_nil)))))
        (pss_cons (ps_if (pt_cmpR op_notN (pv 7) pe_non (nomark _)) (pss_one ps_never) pss_nil)
        (pss_cons (ps_fld (pv 0) (pe_callTy (call_tupleK (K := K) rfl) rfl T.f_tuple (by decide +kernel) (pa_cons (pv 4) pa_nil)) rfl)
        (pss_one (ps_fld (pv 0) (pe_callTy (call_tupleK (K := K) rfl) rfl T.f_tuple (by decide +kernel) (pa_cons (pv 5) pa_nil)) rfl)))))))))))))))), ?_⟩
    obtain ⟨vs, hv, hr2⟩ := id hA
    have hvl := hr2.length
    refine ⟨_, rfl, D.M, rfl, ok.m2, ok.m18, ?_⟩
    refine ⟨_, rfl, aM, _, rfl, hv, ?_⟩
    rw [hvl, ok.sA.1]
    refine ⟨_, rfl, (D.n : Int), 1, 16, rfl, ?_⟩
    have e1 := ok.n1
    have e2 := ok.n16
    rw [decide_eq_true (show (1 : Int) ≤ D.n by omega), decide_eq_true (show (D.n : Int) ≤ 16 by omega)]
    refine ⟨true, rfl, iteF ?_⟩
    have nq : NoSq H p := .ins hp
    refine ⟨_, rfl, _, rfl, p, C, dx, _, rfl, hp, T.cl, T.a_modulus, (by show 0 < 1000; decide), ?_⟩
    refine ⟨_, rfl, _, rfl, p, C, dx, _, rfl, upd_same, T.cl, T.a_size, (by show 1 < 1000; decide), ?_⟩
    have b1 : But p H (upd (upd H p (.ins C dx (putF "modulus" (.int D.M) []))) p (.ins C dx (putF "size" (.int (D.n : Int)) (putF "modulus" (.int D.M) [])))) := fun b o n e => by rw [upd_ne n, upd_ne n]; exact e
    have g1 : (upd (upd H p (.ins C dx (putF "modulus" (.int D.M) []))) p (.ins C dx (putF "size" (.int (D.n : Int)) (putF "modulus" (.int D.M) [])))) p = some (.ins C dx [("modulus", .int D.M), ("size", .int (D.n : Int))]) := upd_same
    generalize upd (upd H p (.ins C dx (putF "modulus" (.int D.M) []))) p (.ins C dx (putF "size" (.int (D.n : Int)) (putF "modulus" (.int D.M) []))) = H1 at b1 g1 ⊢
    refine ⟨_, rfl, _, rfl, _, rfl, t, u, aM, D.A, D.n, D.M, rfl, hA.but b1 nq, ok.sA.1, by omega, ok.sA.2, ok.rA, fun qM H2 s2 hqM => ⟨_, rfl, p, C, dx, _, rfl, s2 _ _ g1, T.cl, T.a_matrix, (by show 2 < 1000; decide), ?_⟩⟩
    have b2 : But p H (upd H2 p (.ins C dx (putF "matrix" (.ref qM) [("modulus", .int D.M), ("size", .int (D.n : Int))]))) := fun b o n e => by rw [upd_ne n]; exact s2 _ _ (b1 _ _ n e)
    have c2 : But p H2 (upd H2 p (.ins C dx (putF "matrix" (.ref qM) [("modulus", .int D.M), ("size", .int (D.n : Int))]))) := fun b o n e => by rw [upd_ne n]; exact e
    have g2 : (upd H2 p (.ins C dx (putF "matrix" (.ref qM) [("modulus", .int D.M), ("size", .int (D.n : Int))]))) p = some (.ins C dx [("modulus", .int D.M), ("size", .int (D.n : Int)), ("matrix", .ref qM)]) := upd_same
    have hqM2 := hqM.but' c2 (.ins (s2 _ _ g1))
    generalize upd H2 p (.ins C dx (putF "matrix" (.ref qM) [("modulus", .int D.M), ("size", .int (D.n : Int))])) = H3 at b2 g2 hqM2 ⊢
    clear c2 hqM s2 g1 b1
    refine ⟨_, rfl, _, rfl, p, C, dx, _, _, rfl, g2, T.cl, T.a_matrix, rfl, D.M, qM, D.A, D.n, rfl, ok.m2, by have := ok.m18; omega, hqM2, ok.sA.1, ok.sA.2, ok.n1, by omega, ?_⟩
    refine ⟨fun S H' hPu bad _ => ?_, fun S q H4 _ _ s4 _ => ?_⟩
    · obtain ⟨B, hB⟩ := ok.inv
      exact (und_bad ok.m2 ok.sA hPu bad B hB).elim
    refine ⟨rfl, false, rfl, iteF ?_⟩
    have b4 : But p H H4 := b2.same s4
    have g4 := s4 _ _ g2
    have hM4 := hqM2.same s4
    refine ⟨_, rfl, _, rfl, _, rfl, t2, u2, aC, D.G, D.n, D.w, D.M, rfl, hG.but b4 nq, ok.sG.1, ok.n1, by omega, ok.w1, ok.w16, ok.sG.2, ok.rG, fun qC H5 s5 hqC => ⟨_, rfl, p, C, dx, _, rfl, s5 _ _ g4, T.cl, T.a_columns, (by show 3 < 1000; decide), ?_⟩⟩
    have b6 : But p H (upd H5 p (.ins C dx (putF "columns" (.ref qC) [("modulus", .int D.M), ("size", .int (D.n : Int)), ("matrix", .ref qM)]))) := fun b o n e => by rw [upd_ne n]; exact s5 _ _ (b4 _ _ n e)
    have c6 : But p H5 (upd H5 p (.ins C dx (putF "columns" (.ref qC) [("modulus", .int D.M), ("size", .int (D.n : Int)), ("matrix", .ref qM)]))) := fun b o n e => by rw [upd_ne n]; exact e
    have g6 : (upd H5 p (.ins C dx (putF "columns" (.ref qC) [("modulus", .int D.M), ("size", .int (D.n : Int)), ("matrix", .ref qM)]))) p = some (.ins C dx [("modulus", .int D.M), ("size", .int (D.n : Int)), ("matrix", .ref qM), ("columns", .ref qC)]) := upd_same
    have hM6 := (hM4.same s5).but' c6 (.ins (s5 _ _ g4))
    have hC6 := hqC.but' c6 (.ins (s5 _ _ g4))
    generalize upd H5 p (.ins C dx (putF "columns" (.ref qC) [("modulus", .int D.M), ("size", .int (D.n : Int)), ("matrix", .ref qM)])) = H6 at b6 g6 hM6 hC6 ⊢
    obtain ⟨vc, hvc, hrc⟩ := id hC6
    have h0 : D.G[0]? = some (D.G[0]'(by have := ok.sG.1; omega)) := List.getElem?_eq_getElem _
    obtain ⟨p0, a0, hp0⟩ := hrc.get0 h0
    have hl0 := ok.sG.2 _ (List.mem_of_getElem? h0)
    generalize D.G[0]'(by have := ok.sG.1; omega) = r0 at *
    refine ⟨_, rfl, p, C, dx, _, _, rfl, g6, T.cl, T.a_columns, rfl, qC, vc, 0, _, rfl, rfl, hvc, atI_nat (j := 0) a0, p0, _, rfl, .inr hp0, _, rfl, p, C, dx, _, rfl, g6, T.cl, T.a_width, (by show 4 < 1000; decide), ?_⟩
    rw [List.length_map, hl0]
    have b8 : But p H (upd H6 p (.ins C dx (putF "width" (.int (D.w : Int)) [("modulus", .int D.M), ("size", .int (D.n : Int)), ("matrix", .ref qM), ("columns", .ref qC)]))) := fun b o n e => by rw [upd_ne n]; exact b6 _ _ n e
    have c8 : But p H6 (upd H6 p (.ins C dx (putF "width" (.int (D.w : Int)) [("modulus", .int D.M), ("size", .int (D.n : Int)), ("matrix", .ref qM), ("columns", .ref qC)]))) := fun b o n e => by rw [upd_ne n]; exact e
    have g8 : (upd H6 p (.ins C dx (putF "width" (.int (D.w : Int)) [("modulus", .int D.M), ("size", .int (D.n : Int)), ("matrix", .ref qM), ("columns", .ref qC)]))) p = some (.ins C dx [("modulus", .int D.M), ("size", .int (D.n : Int)), ("matrix", .ref qM), ("columns", .ref qC), ("width", .int (D.w : Int))]) := upd_same
    have hM8 := hM6.but' c8 (.ins g6)
    have hC8 := hC6.but' c8 (.ins g6)
    generalize upd H6 p (.ins C dx (putF "width" (.int (D.w : Int)) [("modulus", .int D.M), ("size", .int (D.n : Int)), ("matrix", .ref qM), ("columns", .ref qC)])) = H8 at b8 g8 hM8 hC8 ⊢
    refine ⟨_, rfl, _, rfl, _, rfl, t3, aS, D.st, D.n, D.M, rfl, SqK.but hS b8 nq, ok.lst, by omega, ok.rst, fun H9 s9 => ?_⟩
    refine ⟨_, rfl, rfl, false, rfl, iteF ?_⟩
    have b9 := b8.same s9
    refine ⟨_, rfl, _, rfl, _, rfl, t4, aE, D.en, D.n, D.M, rfl, SqK.but hE b9 nq, ok.len, by omega, ok.ren, fun H10 s10 => ?_⟩
    refine ⟨_, rfl, rfl, false, rfl, iteF ?_⟩
    have b10 := b9.same s10
    have s11 := same_trans s9 s10
    have g10 := s11 _ _ g8
    have hM10 := hM8.same s11
    have hC10 := hC8.same s11
    refine ⟨_, rfl, ?_⟩
    dsimp only [tNil]
    refine tup_ofR (SqK.but hS b10 nq) fun qS H11 s11 hqS => ⟨_, rfl, p, C, dx, _, rfl, s11 _ _ g10, T.cl, T.a_start, (by show 5 < 1000; decide), ?_⟩
    have b12 : But p H (upd H11 p (.ins C dx (putF "start" (.ref qS) [("modulus", .int D.M), ("size", .int (D.n : Int)), ("matrix", .ref qM), ("columns", .ref qC), ("width", .int (D.w : Int))]))) := fun b o n e => by rw [upd_ne n]; exact s11 _ _ (b10 _ _ n e)
    have c12 : But p H11 (upd H11 p (.ins C dx (putF "start" (.ref qS) [("modulus", .int D.M), ("size", .int (D.n : Int)), ("matrix", .ref qM), ("columns", .ref qC), ("width", .int (D.w : Int))]))) := fun b o n e => by rw [upd_ne n]; exact e
    have g12 : (upd H11 p (.ins C dx (putF "start" (.ref qS) [("modulus", .int D.M), ("size", .int (D.n : Int)), ("matrix", .ref qM), ("columns", .ref qC), ("width", .int (D.w : Int))]))) p = some (.ins C dx [("modulus", .int D.M), ("size", .int (D.n : Int)), ("matrix", .ref qM), ("columns", .ref qC), ("width", .int (D.w : Int)), ("start", .ref qS)]) := upd_same
    have n11 : NoSq H11 p := .ins (s11 _ _ g10)
    have hM12 := (hM10.same s11).but' c12 n11
    have hC12 := (hC10.same s11).but' c12 n11
    have hS12 := SqT.but hqS c12 n11
    generalize upd H11 p (.ins C dx (putF "start" (.ref qS) [("modulus", .int D.M), ("size", .int (D.n : Int)), ("matrix", .ref qM), ("columns", .ref qC), ("width", .int (D.w : Int))])) = H12 at b12 g12 hM12 hC12 hS12 ⊢
    refine ⟨_, rfl, ?_⟩
    dsimp only [tNil]
    refine tup_ofR (SqK.but hE b12 nq) fun qE H13 s13 hqE => ⟨_, rfl, p, C, dx, _, rfl, s13 _ _ g12, T.cl, T.a_end, (by show 6 < 1000; decide), ?_⟩
    have n13 : NoSq H13 p := .ins (s13 _ _ g12)
    have c14 : But p H13 (upd H13 p (.ins C dx (putF "end" (.ref qE) [("modulus", .int D.M), ("size", .int (D.n : Int)), ("matrix", .ref qM), ("columns", .ref qC), ("width", .int (D.w : Int)), ("start", .ref qS)]))) := fun b o n e => by rw [upd_ne n]; exact e
    exact k _ (fun b o n e => by rw [upd_ne n]; exact s13 _ _ (b12 _ _ n e)) ⟨dx, qM, qC, qS, qE, upd_same, (hM12.same s13).but' c14 n13, (hC12.same s13).but' c14 n13, SqT.but (SqT.same hS12 s13) c14 n13, SqT.but hqE c14 n13⟩
end
end Wk

namespace Wk
open PySem L2
def stepS (D : GD) (v x : Row) : Row := applyM D.M (besideM D.A D.G) (v ++ x)
def behindS (D : GD) (v : Row) (B : Mat) : Row := B.foldl (stepS D) v
theorem applyM_len {M : Int} {A : Mat} {r : Row} : (applyM M A r).length = A.length := by simp [applyM]
theorem applyM_red {M : Int} (hM : 1 ≤ M) {A : Mat} {r : Row} : RRed M (applyM M A r) := fun x hx => by
  unfold applyM at hx
  obtain ⟨l, _, rfl⟩ := List.mem_map.mp hx
  exact emod_at hM
theorem GOk.bes {D : GD} (ok : GOk D) : (besideM D.A D.G).length = D.n ∧ (∀ r ∈ besideM D.A D.G, r.length = D.n + D.w) ∧ MRed D.M (besideM D.A D.G) := by
  have key : ∀ r ∈ besideM D.A D.G, ∃ a ∈ D.A, ∃ g ∈ D.G, r = a ++ g := fun r hr => by
    obtain ⟨i, hi, e⟩ := List.mem_iff_getElem.mp hr
    unfold besideM at e hi
    rw [List.getElem_zipWith] at e
    exact ⟨_, List.getElem_mem _, _, List.getElem_mem _, e.symm⟩
  refine ⟨by simp [besideM, ok.sA.1, ok.sG.1], fun r hr => ?_, fun r hr => ?_⟩
  · obtain ⟨a, ha, g, hg, rfl⟩ := key r hr
    rw [List.length_append, ok.sA.2 a ha, ok.sG.2 g hg]
  · obtain ⟨a, ha, g, hg, rfl⟩ := key r hr
    intro x hx
    rcases List.mem_append.mp hx with h | h
    · exact ok.rA a ha x h
    · exact ok.rG g hg x h
theorem behindS_ok {D : GD} (ok : GOk D) : ∀ {B : Mat} {v : Row}, v.length = D.n → RRed D.M v → (behindS D v B).length = D.n ∧ RRed D.M (behindS D v B)
  | [], v, hl, hr => ⟨hl, hr⟩
  | x :: B, v, hl, hr => behindS_ok ok (B := B) (v := stepS D v x) (by unfold stepS; rw [applyM_len]; exact ok.bes.1) (applyM_red (by have := ok.m2; omega))
theorem mred_wd {M : Int} {A : Mat} (h : MRed M A) (hM : M < 2 ^ 64) : MWd A := fun r hr => rred_wd (h r hr) hM
theorem cut_take0 (us : List V) (n : Nat) : cutV us none (some (n : Int)) = us.take n := by
  unfold cutV
  rw [HT.sIx_none, HT.sIx_nat]
  simp [List.take_eq_take_iff]
def spSB (K : PySem.W.Frag) (C : Addr) : Sp := fun vs H Q _ => ∃ (t : Bool) (g b s : Addr) (D : GD) (B : Mat) (v : Row), vs = [.ref g, .ref b, .ref s] ∧ GuardAt K C H g D ∧ GOk D ∧ RowsG t true K H b B ∧ B.length ≤ 100 ∧ (∀ r ∈ B, r.length = D.w) ∧ MRed D.M B ∧ RowAt K H s v ∧ v.length = D.n ∧ RRed D.M v ∧
  ∀ q H', Same H H' → RowAt K H' q (behindS D v B) → Q (.ref q) H'
section
variable {P : Program} {w0 : World} {K : PySem.W.Frag} {mg : Str → Option Value} {base : Heap} {C fI fT fB fQ : Addr}
theorem ok_sb {f fb fa : Addr} {fd fdb fda : FuncData} (F : Fun K "state_behind" "state_behind" s_state_behind f fd) (T : TxtGd K mg C fI fT fB fQ)
    (G_beside : FnOk P w0 K mg base CX0 1 fb fdb ["one", "other"] (spBeside K)) (g_beside : mg "beside" = some (.ref fb)) (kp_beside : PySem.W.keepIn K (.ref fb) = true) (b_beside : Binds K fdb ["one", "other"] [])
    (G_applied : FnOk P w0 K mg base CX0 1 fa fda ["modulus", "matrix", "row"] (spApplied K)) (g_applied : mg "applied" = some (.ref fa)) (kp_applied : PySem.W.keepIn K (.ref fa) = true) (b_applied : Binds K fda ["modulus", "matrix", "row"] []) :
    FnOk P w0 K mg base CX0 2 f fd ["guard", "block", "state"] (spSB K C) := by
  refine F.ok sc_state_behind (fun vs H Q E h => ?_) (fun cdv A outer s H vs Q E hr h => ?_)
  · obtain ⟨t, g, b, s, D, B, v, rfl, _⟩ := h
    rfl
  · obtain ⟨t, g, b, sa, D, B, v, rfl, hg, ok, hB, hBl, hBw, hBr, hs, hl, hr2, k⟩ := h
    refine ⟨_, (pss_cons (ps_set (i := 3) sc_state_behind.nd rfl (Or.inl rfl) (pe_callB (call_lenSqK (K := K) rfl t) rfl T.f_len PySem.boot_len (pa_cons (pv 1) pa_nil)))
        (pss_cons (ps_if (pt_cmpR op_ge (pv 3) (pe_op op_mulW (pe_glob (v := .int 3) rfl T.gWORTH.choose_spec ⟨_, rfl⟩) (pe_op op_add (pe_op op_mulW (pe_glob (v := .int 32) rfl T.gGROUP.choose_spec ⟨_, rfl⟩) (pe_fld (pv 0) rfl)) (pe_op op_mulW (pe_glob (v := .int 5) rfl T.gDOUBLINGS.choose_spec ⟨_, rfl⟩) (pe_fld (pv 0) rfl)))) (nomark _)) (pss_one ps_never) pss_nil)
        (pss_cons (ps_set (i := 4) sc_state_behind.nd rfl (Or.inl rfl) (pe_call G_beside (hr.mono (by decide)) rfl g_beside kp_beside b_beside .nil pass0 (pa_cons (pe_fld (pv 0) rfl) (pa_cons (pe_fld (pv 0) rfl) pa_nil))))
        (pss_cons (ps_for PassesOwn.never rfl (pi_sqK (K := K) rfl t (pe_slice (sl_sqK (K := K) rfl t) (pv 1) po_none (po_some (pv 3)))) (pg_name (i := 5) sc_state_behind.nd rfl (Or.inl rfl)) (pss_one (ps_set (i := 2) sc_state_behind.nd rfl (Or.inl rfl) (pe_call G_applied (hr.mono (by decide)) rfl g_applied kp_applied b_applied .nil pass0 (pa_cons (pe_fld (pv 0) rfl) (pa_cons (pv 4) (pa_cons (pe_op (op_catAK (K := K) rfl) (pv 2) (pv 5)) pa_nil)))))))
        (pss_cons (ps_if (pt_cmpR op_eq (pv 3) (pe_callB (call_lenSqK (K := K) rfl t) rfl T.f_len PySem.boot_len (pa_cons (pv 1) pa_nil)) (nomark _)) (pss_one (ps_ret (pv 2))) pss_nil)
        (pss_cons ps_never
        (pss_cons ps_never
        (pss_cons ps_never
        (pss_one (ps_ret (pv 2))))))))))), ?_⟩
    -- guard=0 block=1 state=2 alone=3 step=4 symbol=5 numbers=6 at=7 number=8
    obtain ⟨vs, hv, hrs⟩ := id hB
    have hvl := hrs.length
    obtain ⟨dx, aM, aC, aS, aE, g1, hA, hG, hS, hE⟩ := id hg.ex
    have e1 := ok.n1
    have e2 := ok.n16
    have e3 := ok.w1
    have e4 := ok.w16
    have e5 := ok.m2
    have e6 := ok.m18
    refine ⟨_, rfl, b, _, rfl, hv, ?_⟩
    rw [hvl]
    have cm : ∀ {x y : Int}, x.natAbs < 2 ^ 64 → y.natAbs < 2 ^ 64 → CMulW x y := fun a b => wide_mul (a := 64) (b := 64) a b (by decide) (by decide) (by decide)
    refine ⟨_, rfl, _, rfl, g, C, dx, _, _, rfl, g1, T.cl, T.a_width, flG_w, _, _, rfl, rfl, cm (by decide) (by omega), _, rfl, g, C, dx, _, _, rfl, g1, T.cl, T.a_size, flG_n, _, _, rfl, rfl, cm (by decide) (by omega), _, _, rfl, rfl, _, _, rfl, rfl, cm (by decide) (by omega), _, _, rfl, rfl, false, congrArg V.bl (decide_eq_false (by omega)), iteF ?_⟩
    refine ⟨_, rfl, g, C, dx, _, _, rfl, g1, T.cl, T.a_matrix, flG_A, _, rfl, g, C, dx, _, _, rfl, g1, T.cl, T.a_columns, flG_G, aM, aC, D.A, D.G, rfl, hA, hG, by rw [ok.sA.1, ok.sG.1], by rw [ok.sA.1]; omega, fun r hr => by rw [ok.sA.2 r hr]; omega, fun r hr => by rw [ok.sG.2 r hr]; omega, fun qB H2 s2 hqB => ?_⟩
    refine ⟨_, rfl, _, rfl, (B.length : Int), rfl, ?_⟩
    refine slS_read (SqK.same hv s2) fun q3 H3 s3 hq3 => ?_
    have hcut : cutV vs none (some (B.length : Int)) = vs := by
      rw [cut_take0, ← hvl, List.take_length]
    rw [hcut] at hq3
    refine ⟨q3, rfl, ⟨_, hq3⟩, ?_⟩
    have s03 := same_trans s2 s3
    have hrs3 := hrs.same s03
    have hqB3 := hqB.same s3
    have hg3 := s03 _ _ g1
    obtain ⟨lB, wB, rB⟩ := ok.bes
    refine for_it (walk_sq (t := t) (xs := vs)) (fun i σ H' => ∃ (q : Addr) (y : Option V), σ = [some (.ref g), some (.ref b), some (.ref q), some (.int (B.length : Int)), some (.ref qB), y, none, none, none] ∧ Same H3 H' ∧ RowAt K H' q (behindS D v (B.take i))) ⟨sa, none, rfl, fun _ _ e => e, SqT.same hs s03⟩ (fun i σ H' _ ⟨_, _, _, s4, _⟩ => SqK.same hq3 s4) ?_ ?_
    · rintro i x σ H4 H4' hi ⟨q, y, rfl, s4, hq⟩ ⟨rfl, hx⟩
      obtain ⟨p, l, rfl, gl, hp⟩ := hrs3.at_ hx
      have ll := hBw _ (List.mem_of_getElem? gl)
      have lr := hBr _ (List.mem_of_getElem? gl)
      obtain ⟨b1, b2⟩ := behindS_ok ok (B := B.take i) hl hr2
      have et : behindS D v (B.take (i + 1)) = stepS D (behindS D v (B.take i)) l := by
        unfold behindS
        rw [List.take_succ, gl, List.foldl_append]
        rfl
      rw [et]
      generalize behindS D v (B.take i) = cur at b1 b2 hq ⊢
      have hne1 : cur.map V.int ≠ [] := fun z => by
        have := congrArg List.length z
        rw [List.length_map, b1] at this
        simp at this
        omega
      have hne2 : l.map V.int ≠ [] := fun z => by
        have := congrArg List.length z
        rw [List.length_map, ll] at this
        simp at this
        omega
      refine ⟨_, rfl, g, C, dx, _, _, rfl, s4 _ _ hg3, T.cl, T.a_modulus, flG_m, _, rfl, _, rfl, _, rfl, q, p, _, _, rfl, rfl, hq, SqT.same hp s4, Nat.le_trans (show _ ≤ 40 by simp; omega) (by decide), fun z => absurd z hne1, fun _ z => absurd z hne2, fun _ _ r nr => ?_⟩
      have s5 := same_upd (o := .tup (cur.map V.int ++ l.map V.int)) nr
      refine ⟨D.M, qB, r, besideM D.A D.G, cur ++ l, rfl, by omega, (hqB3.same s4).same s5, .inl (.inl (by rw [upd_same, List.map_append])), mred_wd rB (by omega), ?_, by omega, by simp; omega, fun r hr => by rw [wB r hr, List.length_append, b1, ll], fun q6 H6 s6 h6 => ⟨q6, _, rfl, same_trans s4 (same_trans s5 s6), .inl (.inl h6)⟩⟩
      intro z hz
      rcases List.mem_append.mp hz with h | h
      · exact rred_wd b2 (by omega) z h
      · exact rred_wd lr (by omega) z h
    · rintro σ H4 ⟨q, y, rfl, s4, hq⟩
      rw [hvl, List.take_length] at hq
      refine ⟨_, rfl, _, rfl, b, vs, rfl, SqK.same hv (same_trans s03 s4), rfl, true, congrArg V.bl (decide_eq_true (by rw [hvl])), iteT ⟨_, rfl, k q H4 (same_trans s03 s4) hq⟩⟩
end
end Wk

namespace Wk
open PySem L2
def toldS (D : GD) (B : Mat) : Row := List.zipWith (fun a b => (a + b) % D.M) (behindS D D.st B) D.en
def spBehind (K : PySem.W.Frag) (C : Addr) : Sp := fun vs H Q _ => ∃ (t : Bool) (g b s : Addr) (D : GD) (B : Mat) (v : Row), vs = [.ref g, .ref b, .ref s] ∧ GuardAt K C H g D ∧ GOk D ∧ RowsG t true K H b B ∧ B.length ≤ 100 ∧ (∀ r ∈ B, r.length = D.w) ∧ MRed D.M B ∧ RowAt K H s v ∧ v.length = D.n ∧ RRed D.M v ∧
  ∀ q H', Same H H' → RowAt K H' q (behindS D v B) → Q (.ref q) H'
def spTold (K : PySem.W.Frag) (C : Addr) : Sp := fun vs H Q _ => ∃ (t : Bool) (g b : Addr) (D : GD) (B : Mat), vs = [.ref g, .ref b] ∧ GuardAt K C H g D ∧ GOk D ∧ RowsG t true K H b B ∧ B.length ≤ 100 ∧ (∀ r ∈ B, r.length = D.w) ∧ MRed D.M B ∧
  ∀ q H', Same H H' → RowAt K H' q (toldS D B) → Q (.ref q) H'
section
variable {P : Program} {w0 : World} {K : PySem.W.Frag} {mg : Str → Option Value} {base : Heap} {C fI fT fB fQ : Addr}
theorem ok_behind {f fn fs fb : Addr} {fd fdn fds fdb : FuncData} (F : Fun K "behind" "Guard.behind" s_Guard_behind f fd) (T : TxtGd K mg C fI fT fB fQ)
    (G_wrong_number : FnOk P w0 K mg base CX0 3 fn fdn ["numbers", "many", "modulus"] (spWNum K)) (g_wrong_number : mg "wrong_number" = some (.ref fn)) (kp_wrong_number : PySem.W.keepIn K (.ref fn) = true) (b_wrong_number : Binds K fdn ["numbers", "many", "modulus"] [])
    (G_wrong_symbol : FnOk P w0 K mg base CX0 1 fs fds ["block", "width", "modulus"] (spWSym K)) (g_wrong_symbol : mg "wrong_symbol" = some (.ref fs)) (kp_wrong_symbol : PySem.W.keepIn K (.ref fs) = true) (b_wrong_symbol : Binds K fds ["block", "width", "modulus"] [])
    (G_state_behind : FnOk P w0 K mg base CX0 2 fb fdb ["guard", "block", "state"] (spSB K C)) (g_state_behind : mg "state_behind" = some (.ref fb)) (kp_state_behind : PySem.W.keepIn K (.ref fb) = true) (b_state_behind : Binds K fdb ["guard", "block", "state"] []) :
    FnOk P w0 K mg base CX0 4 f fd ["self", "block", "state"] (spBehind K C) := by
  refine F.ok sc_Guard_behind (fun vs H Q E h => ?_) (fun cdv A outer s H vs Q E hr h => ?_)
  · obtain ⟨t, g, b, s, D, B, v, rfl, _⟩ := h
    rfl
  · obtain ⟨t, g, b, sa, D, B, v, rfl, hg, ok, hB, hBl, hBw, hBr, hs, hl, hr2, k⟩ := h
    refine ⟨_, (pss_cons (ps_if (pt_not (pt_val (pe_callB (call_isiK (K := K) rfl) rfl T.f_isinstance (by decide +kernel) (pa_cons (pv 2) (pa_cons (pe_bltn (v := .ty "tuple") rfl T.f_tuple (by decide +kernel) rfl) pa_nil))))) (pss_one ps_never) pss_nil)
        (pss_cons (ps_set (i := 3) sc_Guard_behind.nd rfl (Or.inl rfl) (pe_call G_wrong_number (hr.mono (by decide)) rfl g_wrong_number kp_wrong_number b_wrong_number .nil pass0 (pa_cons (pv 2) (pa_cons (pe_fld (pv 0) rfl) (pa_cons (pe_fld (pv 0) rfl) pa_nil)))))
        (pss_cons (ps_if (pt_cmpR op_notN (pv 3) pe_non (nomark _)) (pss_one ps_never) pss_nil)
        (pss_cons (ps_set (i := 3) sc_Guard_behind.nd rfl (Or.inl rfl) (pe_call G_wrong_symbol (hr.mono (by decide)) rfl g_wrong_symbol kp_wrong_symbol b_wrong_symbol .nil pass0 (pa_cons (pv 1) (pa_cons (pe_fld (pv 0) rfl) (pa_cons (pe_fld (pv 0) rfl) pa_nil)))))
        (pss_cons (ps_if (pt_cmpR op_notN (pv 3) pe_non (nomark _)) (pss_one ps_never) pss_nil)
        (pss_cons (ps_if (pt_cmpR op_gt (pe_callB (call_lenSqK (K := K) rfl t) rfl T.f_len PySem.boot_len (pa_cons (pv 1) pa_nil)) (pe_glob (v := .int 10000) rfl T.gMOST_SYMBOLS.choose_spec ⟨_, rfl⟩) (nomark _)) (pss_one ps_never) pss_nil)
        (pss_one (ps_ret (pe_call G_state_behind (hr.mono (by decide)) rfl g_state_behind kp_state_behind b_state_behind .nil pass0 (pa_cons (pv 0) (pa_cons (pv 1) (pa_cons (pv 2) pa_nil)))))))))))), ?_⟩
    obtain ⟨dx, aM, aC, aS, aE, g1, _⟩ := id hg.ex
    have e2 := ok.n16
    refine ⟨_, rfl, _, _, _, _, true, rfl, .ty _, SqK.ty (t := true) hs, kit_ty (by decide +kernel), true, rfl, iteF ?_⟩
    refine ⟨_, rfl, _, rfl, g, C, dx, _, _, rfl, g1, T.cl, T.a_size, flG_n, _, rfl, g, C, dx, _, _, rfl, g1, T.cl, T.a_modulus, flG_m, true, sa, v, D.n, D.M, rfl, hs, hl, by omega, hr2, fun H2 s2 => ⟨_, rfl, rfl, false, rfl, iteF ?_⟩⟩
    have g2 := s2 _ _ g1
    refine ⟨_, rfl, _, rfl, g, C, dx, _, _, rfl, g2, T.cl, T.a_width, flG_w, _, rfl, g, C, dx, _, _, rfl, g2, T.cl, T.a_modulus, flG_m, t, b, B, D.w, D.M, rfl, hB.same s2, by omega, hBw, hBr, fun H3 s3 => ⟨_, rfl, rfl, false, rfl, iteF ?_⟩⟩
    have s23 := same_trans s2 s3
    obtain ⟨vs, hv, hrs⟩ := hB.same s23
    have hvl := hrs.length
    refine ⟨_, rfl, b, vs, rfl, hv, _, _, rfl, rfl, false, congrArg V.bl (decide_eq_false (by omega)), iteF ?_⟩
    exact ⟨_, rfl, _, rfl, _, rfl, t, g, b, sa, D, B, v, rfl, hg.same s23, ok, hB.same s23, hBl, hBw, hBr, SqT.same hs s23, hl, hr2, fun q H4 s4 hq => k q H4 (same_trans s23 s4) hq⟩
theorem ok_told {f fb : Addr} {fd fdb : FuncData} (F : Fun K "told" "Guard.told" s_Guard_told f fd) (T : TxtGd K mg C fI fT fB fQ)
    (G_behind : FnOk P w0 K mg base CX0 4 fB fdb ["self", "block", "state"] (spBehind K C)) (b_behind : Binds K fdb ["self", "block", "state"] []) :
    FnOk P w0 K mg base CX0 5 f fd ["self", "block"] (spTold K C) := by
  refine F.ok sc_Guard_told (fun vs H Q E h => ?_) (fun cdv A outer s H vs Q E hr h => ?_)
  · obtain ⟨t, g, b, D, B, rfl, _⟩ := h
    rfl
  · obtain ⟨t, g, b, D, B, rfl, hg, ok, hB, hBl, hBw, hBr, k⟩ := h
    refine ⟨_, (pss_cons (ps_set (i := 2) sc_Guard_told.nd rfl (Or.inl rfl) (pe_meth (pv 0) T.cl T.m_behind G_behind (hr.mono (by decide)) b_behind .nil pass0 (pa_cons (pv 1) (pa_cons (pe_fld (pv 0) rfl) pa_nil))))
        (pss_one (ps_ret (pe_callTy (call_tupleK (K := K) rfl) rfl T.f_tuple (by decide +kernel) (pa_cons (pe_lc (own := [("number", 3), ("more", 4)]) (g := gTup K 2 (gCons (gName 3) (gCons (gName 4) gNil))) rfl sc_Guard_told.nd (pi_zip2K (K := K) rfl true true rfl T.f_zip (pa_cons (pv 2) (pa_cons (pe_fld (pv 0) rfl) pa_nil))) (blkOk_by (N := ["self", "block", "state", "number", "more"]) (sc := defScope s_Guard_told) (by decide +kernel)) (fun _ _ _ _ _ => (pg_tupK rfl rfl (pgs_cons (pg_name (i := 3) sc_Guard_told.nd rfl (Or.inl rfl)) (pgs_cons (pg_name (i := 4) sc_Guard_told.nd rfl (Or.inl rfl)) pgs_nil)))) (fun _ _ _ _ _ => pts_nil) (fun _ _ _ _ _ => (pe_op op_modN (pe_op op_add (pv 3) (pv 4)) (pe_fldK (K := K) rfl (pv 0) rfl)))) pa_nil))))), ?_⟩
    obtain ⟨dx, aM, aC, aS, aE, g1, _, _, hS, hE⟩ := id hg.ex
    have e2 := ok.n16
    have e5 := ok.m2
    refine ⟨_, rfl, g, dx, _, rfl, g1, rfl, _, rfl, _, rfl, g, C, dx, _, _, rfl, g1, T.cl, T.a_start, flG_s, t, g, b, aS, D, B, D.st, rfl, hg, ok, hB, hBl, hBw, hBr, hS, ok.lst, ok.rst, fun q H2 s2 hq => ?_⟩
    have g2 := s2 _ _ g1
    obtain ⟨b1, b2⟩ := behindS_ok ok (B := B) ok.lst ok.rst
    have hE2 := SqT.same hE s2
    refine ⟨_, rfl, _, rfl, g, C, dx, _, _, rfl, g2, T.cl, T.a_end, flG_e, q, aE, _, _, rfl, hq, hE2, fun Dd hD => lc_rel (ZM.walk_two (t := true) (u := true) (n := D.n) (by rw [List.length_map, List.length_map, b1, ok.len]; simp)) hD (by omega) (fun j v _ => ∃ z, (toldS D B)[j]? = some z ∧ v = .int z) (fun j v H H' h _ => h) (fun H' e => ⟨SqT.same hq e, SqT.same hE2 e⟩) ?_ ?_⟩
    · rintro j v H6 H6' Fn Nn fin hi s6 hacc ⟨T2, x, y, rfl, hT2, rfl, hx, hy⟩
      obtain ⟨z1, gz1, rfl⟩ := at_ints hx
      obtain ⟨z2, gz2, rfl⟩ := at_ints hy
      have sT := same_upd (o := .tup [.int z1, .int z2]) hT2
      refine ⟨T2, _, rfl, SqT.of upd_same, rfl, _, _, rfl, _, _, rfl, rfl, rfl, yesT ⟨_, rfl, _, rfl, _, _, rfl, rfl, _, rfl, g, C, dx, _, _, rfl, sT _ _ (s6 _ _ g2), T.cl, T.a_modulus, flG_m, _, _, rfl, rfl, by omega, ?_⟩⟩
      dsimp only
      rw [Int.fmod_eq_emod_of_nonneg _ (by omega)]
      refine fin _ _ sT ⟨(z1 + z2) % D.M, ?_, rfl⟩
      unfold toldS
      rw [List.getElem?_zipWith, gz1, gz2]
    · intro acc H6 a1 a2 s6 hR6
      have ea : acc = (toldS D B).map V.int := acc_map (by rw [a1]; simp [toldS, b1, ok.len]) hR6
      dsimp only [tNil]
      rw [ea] at a2
      exact tup_ofR (u := false) (SqL.of a2) fun q7 H7 s7 h7 => k q7 H7 (same_trans s2 (same_trans s6 s7)) h7
end
end Wk

namespace Wk
open PySem L2
open PySem.W (instObj InstAt selfFirst findIn subIn mroIn notFirst)
def IsIns (H : Hp) (C : Addr) (y : V) : Prop := ∃ a dx fs, y = .ref a ∧ H a = some (.ins C dx fs)
def IsInt (y : V) : Prop := ∃ i : Int, y = .int i
section
variable {X : Cx} {CX : CXT} {k : Nat} {C g g2 : Addr} {sp : Sp} {E : XK} {pins : List (Addr × Obj)} {σ : St} {H : Hp} {s : Shared}
theorem inst_at {a dx : Addr} {fs : List (Str × V)} (I : Inv X pins σ H s) (e : H a = some (.ins C dx fs)) : s.heap.get? a = some (instObj C dx) ∧ ∃ od, InstAt s.heap a (instObj C dx) C (some od) := by
  obtain ⟨mA, O, _⟩ := ins_get I.hok e
  obtain ⟨od, J, _⟩ := O.look
  exact ⟨O.obj, od, J⟩
/-- how a method's call comes back -/
theorem run_back {Q : VK} {us : List Value} {vs : List V} (F : FnR X.prog X.w X.K X.mg X.base CX k g sp) (hr : Room k X.A) (hx : Passes CX X E) (I : Inv X pins σ H s) (r : Vals vs us) (q : sp vs H Q E) :
    wpAny (model X.prog X.w) X.A (call (.ref g) us) (PySem.W.CmpBack (EP X pins σ Q)) X.xe s :=
  wpAny_mono (wpAny_call (run_fnR F hr hx I r q)) (fun w s' z => by
    obtain ⟨z', H', I', rz, qz⟩ := z
    exact SlX.cmpback rz ⟨z', H', I', rz, qz⟩) fun _ _ x => x
/-- x == y, x an instance of the class at C, y one too or a list -/
def rEqG (C : Addr) (sp : Sp) (E : XK) : R2 := fun x y H Q => IsIns H C x ∧ (IsIns H C y ∨ ∃ b xs, y = .ref b ∧ H b = some (.lst xs)) ∧ sp [x, y] H Q E
theorem op_eqG (m : Meth X.K C "__eq__" g) (hsub : subIn X.K (.type "list") (.ref C) = some false) (F : FnR X.prog X.w X.K X.mg X.base CX k g sp) (hr : Room k X.A) (hx : Passes CX X E) : OpR X (compareOp .Eq) (rEqG C sp E) := by
  intro pins s σ H x y v u Q I rx ry h
  obtain ⟨⟨a, dx, fs, rfl, ea⟩, hy, q⟩ := h
  cases (show v = Value.ref a from rx)
  obtain ⟨_, od, J⟩ := inst_at I ea
  obtain ⟨m', hF⟩ := I.fr
  have run := run_back (us := [.ref a, u]) (vs := [.ref a, y]) F hr hx I (.cons rfl (.cons ry .nil)) q
  show wpAny _ _ (richCompare .Eq (.ref a) u) _ _ _
  rcases hy with ⟨b, dy, gs, rfl, eb⟩ | ⟨b, xs, rfl, eb⟩
  · cases (show u = Value.ref b from ry)
    obtain ⟨_, od', J'⟩ := inst_at I eb
    exact PySem.W.cmp_K (op := .Eq) (tb := .ref C) hr.units0 hF I.ok.mod.kin J J'.type (by simp [notFirst]) m.at_ m.fn run
  · cases (show u = Value.ref b from ry)
    obtain ⟨_, _, n, _, h1⟩ := (show ObjOk X.prog X.w H s.heap b (.lst xs) from I.hok b _ eb)
    exact PySem.W.cmp_K (op := .Eq) (tb := .type "list") hr.units0 hF I.ok.mod.kin J (fun A Q E s k q => wpAny_typeOf_ref (k _ _ h1) q) (by simp [notFirst, hsub]) m.at_ m.fn run
end
end Wk

namespace Wk
open PySem L2
abbrev s_Guard_eq : Stmt := inClass (top 46) 1
theorem sc_Guard_eq : FnScope ["self", "other"] ["self", "other"] (defScope s_Guard_eq) := ⟨rfl, rfl, rfl, by decide +kernel, rfl, by decide +kernel, by decide +kernel⟩

def GD.Same (D D2 : GD) : Bool := decide (D.M = D2.M) && (decide (D.A = D2.A) && (decide (D.G = D2.G) && (decide (D.st = D2.st) && decide (D.en = D2.en))))
def spGEq (K : PySem.W.Frag) (C : Addr) : Sp := fun vs H Q _ => ∃ (g : Addr) (y : V) (D : GD), vs = [.ref g, y] ∧ GuardAt K C H g D ∧ ((∃ (q : Addr) (D2 : GD), y = .ref q ∧ GuardAt K C H q D2 ∧ Q (.bl (D.Same D2)) H) ∨ ∃ (b : Addr) (xs : List V), y = .ref b ∧ H b = some (.lst xs) ∧ Q (.bl false) H)
section
variable {P : Program} {w0 : World} {K : PySem.W.Frag} {mg : Str → Option Value} {base : Heap} {C fI fT fB fQ : Addr}
theorem eqM_read {H : Hp} {a b : Addr} {A B : Mat} {Q : VK} (ha : MatAt K H a A) (hb : MatAt K H b B) (q : Q (.bl (decide (A = B))) H) : rEqD K (.ref a) (.ref b) H Q := by
  refine ⟨_, _, ha.dp, hb.dp, dM_shaped _, dM_shaped _, ?_⟩
  rw [dM_eqv]
  exact q
theorem eqR_read {H : Hp} {a b : Addr} {A B : Row} {Q : VK} (ha : RowAt K H a A) (hb : RowAt K H b B) (q : Q (.bl (decide (A = B))) H) : rEqD K (.ref a) (.ref b) H Q := by
  refine ⟨_, _, ha.dp, hb.dp, dI_shaped _, dI_shaped _, ?_⟩
  rw [dI_eqv]
  exact q
theorem ok_geq {f : Addr} {fd : FuncData} (F : Fun K "__eq__" "Guard.__eq__" s_Guard_eq f fd) (T : TxtGd K mg C fI fT fB fQ) : FnOk P w0 K mg base CX0 1 f fd ["self", "other"] (spGEq K C) := by
  refine F.ok sc_Guard_eq (fun vs H Q E h => ?_) (fun cdv A outer s H vs Q E hr h => ?_)
  · obtain ⟨g, y, D, rfl, _⟩ := h
    rfl
  · obtain ⟨g, y, D, rfl, hg, h⟩ := h
    refine ⟨_, (pss_one (ps_ret (pe_and (pe_callB (call_isiK (K := K) rfl) rfl T.f_isinstance (by decide +kernel) (pa_cons (pv 1) (pa_cons (pe_glob (v := .ref C) rfl T.mgC rfl) pa_nil))) (pe_and (pe_cmpR op_eq (pe_fld (pv 0) rfl) (pe_fld (pv 1) rfl) (nomark _)) (pe_and (pe_cmpR (op_eqD hr.units) (pe_fld (pv 0) rfl) (pe_fld (pv 1) rfl) (nomark _)) (pe_and (pe_cmpR (op_eqD hr.units) (pe_fld (pv 0) rfl) (pe_fld (pv 1) rfl) (nomark _)) (pe_and (pe_cmpR (op_eqD hr.units) (pe_fld (pv 0) rfl) (pe_fld (pv 1) rfl) (nomark _)) (pe_one (pe_cmpR (op_eqD hr.units) (pe_fld (pv 0) rfl) (pe_fld (pv 1) rfl) (nomark _)))))))))), ?_⟩
    obtain ⟨dx, aM, aC, aS, aE, g1, hA, hG, hS, hE⟩ := hg.ex
    rcases h with ⟨q, D2, rfl, hq, k⟩ | ⟨b, xs, rfl, hb, k⟩
    · obtain ⟨dx2, bM, bC, bS, bE, g2, hA2, hG2, hS2, hE2⟩ := hq.ex
      refine ⟨_, rfl, _, _, _, _, true, rfl, .own C, .base (.ins g2 T.cl T.ca T.cn T.ct T.cm), T.k1, _, rfl, iteT ?_⟩
      refine ⟨_, rfl, g, C, dx, _, _, rfl, g1, T.cl, T.a_modulus, flG_m, _, rfl, q, C, dx2, _, _, rfl, g2, T.cl, T.a_modulus, flG_m, rfl, _, rfl, ?_⟩
      unfold GD.Same at k
      have dv : decide (V.int D.M = V.int D2.M) = decide (D.M = D2.M) := by simp
      rw [dv]
      cases c1 : decide (D.M = D2.M)
      · rw [c1] at k
        exact iteF k
      rw [c1] at k
      refine iteT ⟨_, rfl, g, C, dx, _, _, rfl, g1, T.cl, T.a_matrix, flG_A, _, rfl, q, C, dx2, _, _, rfl, g2, T.cl, T.a_matrix, flG_A, ?_⟩
      refine eqM_read hA hA2 ⟨_, rfl, ?_⟩
      cases c2 : decide (D.A = D2.A)
      · rw [c2] at k
        exact iteF k
      rw [c2] at k
      refine iteT ⟨_, rfl, g, C, dx, _, _, rfl, g1, T.cl, T.a_columns, flG_G, _, rfl, q, C, dx2, _, _, rfl, g2, T.cl, T.a_columns, flG_G, ?_⟩
      refine eqM_read hG hG2 ⟨_, rfl, ?_⟩
      cases c3 : decide (D.G = D2.G)
      · rw [c3] at k
        exact iteF k
      rw [c3] at k
      refine iteT ⟨_, rfl, g, C, dx, _, _, rfl, g1, T.cl, T.a_start, flG_s, _, rfl, q, C, dx2, _, _, rfl, g2, T.cl, T.a_start, flG_s, ?_⟩
      refine eqR_read hS hS2 ⟨_, rfl, ?_⟩
      cases c4 : decide (D.st = D2.st)
      · rw [c4] at k
        exact iteF k
      rw [c4] at k
      refine iteT ⟨_, rfl, g, C, dx, _, _, rfl, g1, T.cl, T.a_end, flG_e, _, rfl, q, C, dx2, _, _, rfl, g2, T.cl, T.a_end, flG_e, ?_⟩
      exact eqR_read hE hE2 k
    · exact ⟨_, rfl, _, _, _, _, false, rfl, .own C, .base (.lst hb), T.k2, _, rfl, iteF k⟩
end
end Wk

namespace Wk
open PySem L2
abbrev s_law_common : Stmt := top 61
theorem sc_law_common : FnScope ["_law_one", "_law_other"] ["_law_one", "_law_other"] (defScope s_law_common) := ⟨rfl, rfl, rfl, by decide +kernel, rfl, by decide +kernel, by decide +kernel⟩
abbrev s_law_units : Stmt := top 62
theorem sc_law_units : FnScope ["_law_modulus_here", "_law_number"] ["_law_modulus_here"] (defScope s_law_units) := ⟨rfl, rfl, rfl, by decide +kernel, rfl, by decide +kernel, by decide +kernel⟩
abbrev s_law_row : Stmt := top 66
theorem sc_law_row : FnScope ["_law_pen_here", "_law_modulus_here", "_law_size", "_law_k"] ["_law_pen_here", "_law_modulus_here", "_law_size"] (defScope s_law_row) := ⟨rfl, rfl, rfl, by decide +kernel, rfl, by decide +kernel, by decide +kernel⟩
abbrev s_law_modulus : Stmt := top 65
theorem sc_law_modulus : FnScope ["_law_pen_here"] ["_law_pen_here"] (defScope s_law_modulus) := ⟨rfl, rfl, rfl, by decide +kernel, rfl, by decide +kernel, by decide +kernel⟩

structure TxtL (mg : Str → Option Value) : Prop where
  f_list : mg "list" = none
  f_tuple : mg "tuple" = none
  f_int : mg "int" = none
  f_len : mg "len" = none
  f_range : mg "range" = none
  f_zip : mg "zip" = none
  f_sum : mg "sum" = none
  f_min : mg "min" = none
def spPen (K : PySem.W.Frag) : Sp := fun vs H Q _ => ∃ (a : Addr) (ns : List Int), vs = [.ref a] ∧ SqL K H a (ns.map V.int) ∧ ∀ p c ns' H', Same H H' → PenAt H' p c ns' 0 0 → Q (.ref p) H'
theorem sqL_same {K : PySem.W.Frag} {H H' : Hp} {a : Addr} {xs : List V} (h : SqL K H a xs) (e : Same H H') : SqL K H' a xs := SqK.same (t := false) h e
structure Dn (P : Program) (w : World) (K : PySem.W.Frag) (mg : Str → Option Value) (base : Heap) (CX : CXT) (k : Nat) (x : Str) (ps : List Str) (sp : Sp) : Prop where
  ex : ∃ (f : Addr) (fd : FuncData), FnOk P w K mg base CX k f fd ps sp ∧ mg x = some (.ref f) ∧ PySem.W.keepIn K (.ref f) = true ∧ Binds K fd ps []
theorem ints_of {acc : List V} {n : Nat} {R : Nat → Int → Prop} (hl : acc.length = n) (h : ∀ (j : Nat) (v : V), acc[j]? = some v → ∃ x : Int, v = .int x ∧ R j x) : ∃ r : List Int, acc = r.map V.int ∧ r.length = n ∧ ∀ (j : Nat) (x : Int), r[j]? = some x → R j x := by
  refine ⟨acc.map fun v => match v with | .int x => x | _ => 0, ?_, by simpa using hl, ?_⟩
  · apply List.ext_getElem?
    intro j
    rw [List.getElem?_map, List.getElem?_map]
    cases e : acc[j]? with
    | none => rfl
    | some v =>
      obtain ⟨x, rfl, _⟩ := h j v e
      rfl
  · intro j x e
    rw [List.getElem?_map] at e
    cases e2 : acc[j]? with
    | none => rw [e2] at e; cases e
    | some v =>
      obtain ⟨y, rfl, hy⟩ := h j v e2
      rw [e2] at e
      cases e
      exact hy
theorem nx_cut {s1 s2 : TS} {D : Ends} {r b c} {σ : L2.St} {H : Hp} (Post : L2.St → Hp → Prop) (h1 : ∀ D' : Ends, (∀ σ H, Post σ H → D'.nx σ H) → s1 D' σ H) (h2 : ∀ σ H, Post σ H → s2 D σ H) : (Ends.mk (tSeq s1 s2 D) r b c).nx σ H := h1 _ h2
theorem gn_cut {n : Nat} {v : V} {s1 s2 : TS} {D : Ends} {r b c} {σ : L2.St} {H : Hp} (Post : L2.St → Hp → Prop) (h1 : ∀ D' : Ends, (∀ σ H, Post σ H → D'.nx σ H) → s1 D' (σ.set n (some v)) H) (h2 : ∀ σ H, Post σ H → s2 D σ H) : gName n v σ H (Ends.mk (tSeq s1 s2 D) r b c).nx := h1 _ h2
theorem lp_cut {n : Nat} {v : V} {s1 s2 : TS} {D : Ends} {σ : L2.St} {H : Hp} (Post : L2.St → Hp → Prop) (h1 : ∀ D' : Ends, (∀ σ H, Post σ H → D'.nx σ H) → s1 D' (σ.set n (some v)) H) (h2 : ∀ σ H, Post σ H → s2 D σ H) : gName n v σ H (fun σ2 H2 => tSeq s1 s2 D σ2 H2) := h1 _ h2
theorem seq_cut {s1 s2 : TS} {D : Ends} {σ : L2.St} {H : Hp} (Post : L2.St → Hp → Prop) (h1 : ∀ D' : Ends, (∀ σ H, Post σ H → D'.nx σ H) → s1 D' σ H) (h2 : ∀ σ H, Post σ H → s2 D σ H) : tSeq s1 s2 D σ H := h1 _ h2
/-- a comprehension with draws -/
theorem lc_pen {J : It} {n : Nat} {G : Hp → Prop} {Y : Nat → Hp → V → Hp → Prop} (w : Walk J n G Y) {g : TG} {tt : TT} {te : TE} {vs : List Nat} {σ : L2.St} {H1 : Hp} {D : Addr} {Qd : Hp → Prop} {p c : Addr} {ns : List Int} {m : Nat} (k : Nat) (hP : Pen H1 p c ns m) (hD : H1 D = none) (hn : n ≤ 1000)
    (R : Nat → V → Hp → Prop) (mono : ∀ i v H H', R i v H → (∀ b o, b ≠ D → b ≠ p → H b = some o → H' b = some o) → R i v H') (hG : ∀ H, But p H1 H → G H)
    (hs : ∀ (i : Nat) (x : V) (H H' : Hp) (Fn : V → Hp → Prop) (Nn : Hp → Prop), (∀ y H4, But p H H4 → Pen H4 p c ns (m + k * (i + 1)) → R i y H4 → Fn y H4) → i < n → But p H1 H → Pen H p c ns (m + k * i) → (∃ acc, H D = some (.lst acc)) → Y i H x H' → g x (wipe σ vs) H' fun σ2 H2 => wipe σ2 vs = wipe σ vs ∧ tt σ2 H2 fun b H3 => if b = true then te σ2 H3 Fn else Nn H3)
    (hd : ∀ (acc : List V) H, acc.length = n → H D = some (.lst acc) → But p H1 H → Pen H p c ns (m + k * n) → (∀ j v, acc[j]? = some v → R j v H) → Qd H) :
    ∃ W : Nat → Nat → Hp → Prop, (∃ m, W 0 m (upd H1 D (.lst []))) ∧ ∀ i m H, W i m H →
      (J.stop i H ∧ Qd H) ∨ (J.go i H ∧ ∃ Nx : Hp → Prop, (∀ H', Nx H' → ∃ m', m' < m ∧ W (i + 1) m' H') ∧ ∀ x H', J.yld i H x H' → g x (wipe σ vs) H' fun σ2 H2 => wipe σ2 vs = wipe σ vs ∧ tt σ2 H2 fun b H3 =>
        if b = true then te σ2 H3 fun y H4 => ∃ acc, H4 D = some (.lst acc) ∧ acc.length < sizeLine ∧ Nx (upd H4 D (.lst (acc ++ [y]))) else Nx H3) := by
  have hDp : D ≠ p := fun z => by
    obtain ⟨o, ho⟩ := hP.some
    rw [z, ho] at hD
    cases hD
  have penD : ∀ {H q xs}, Pen H p c ns q → (∃ acc : List V, H D = Option.some (.lst acc)) ∨ H D = none → H1 D = none → (∀ b o, H1 b = Option.some o → b ≠ p → H b = Option.some o) → Pen (upd H D (.lst xs)) p c ns q := fun {H q xs} h _ _ hk => by
    obtain ⟨i, l, a, b⟩ := h
    obtain ⟨_, _, a1, _⟩ := hP
    have hcD : c ≠ D := fun z => by
      have := a1.cells
      rw [z, hD] at this
      cases this
    exact ⟨i, l, ⟨by rw [upd_ne hDp.symm]; exact a.pen, by rw [upd_ne hcD]; exact a.cells, a.i0, a.l0, a.i1⟩, b⟩
  refine lc_it w (fun i H => ∃ acc : List V, acc.length = i ∧ H D = some (.lst acc) ∧ But p H1 H ∧ Pen H p c ns (m + k * i) ∧ ∀ j v, acc[j]? = some v → R j v H) ⟨[], rfl, upd_same, fun b o _ e => ?_, ?_, fun j v e => by simp at e⟩ (fun i H hi ⟨acc, _, _, h3, _⟩ => hG H h3) ?_ fun H ⟨acc, h1, h2, h3, h4, h5⟩ => hd acc H h1 h2 h3 h4 h5
  · rw [upd_ne (fun z => by rw [z, hD] at e; cases e)]
    exact e
  · exact penD (hP.le (by omega)) (.inr hD) hD fun b o e _ => e
  · intro i x H H' hi ⟨acc, h1, h2, h3, h4, h5⟩ hy
    refine hs i x H H' _ _ (fun y H4 sm hp4 hr => ⟨acc, sm _ _ hDp h2, ?_, acc ++ [y], by simp [h1], upd_same, fun b o hb e => ?_, penD hp4 (.inl ⟨acc, sm _ _ hDp h2⟩) hD fun b o e hb => sm _ _ hb (h3 _ _ hb e), fun j v e => ?_⟩) hi h3 h4 ⟨acc, h2⟩ hy
    · rw [h1]
      exact Nat.lt_of_lt_of_le hi (Nat.le_trans hn (by decide))
    · rw [upd_ne (fun z => by rw [z, hD] at e; cases e)]
      exact sm _ _ hb (h3 _ _ hb e)
    · have b1 : ∀ b o, b ≠ D → b ≠ p → H4 b = some o → (upd H4 D (.lst (acc ++ [y]))) b = some o := fun b o n _ q => by rw [upd_ne n]; exact q
      rcases Nat.lt_trichotomy j acc.length with hj | hj | hj
      · rw [List.getElem?_append_left hj] at e
        exact mono _ _ _ _ (mono _ _ _ _ (h5 j v e) fun b o _ hb q => sm b o hb q) b1
      · rw [hj] at e
        simp at e
        rw [hj, h1, ← e]
        exact mono _ _ _ _ hr b1
      · rw [List.getElem?_eq_none (by simp; omega)] at e
        cases e
theorem gcd_turn {x y : Int} (hx : 0 ≤ x) (hy : 0 < y) : Int.gcd y (x % y) = Int.gcd x y := by
  have e : x % y = x - (x / y) * y := by
    have := Int.emod_add_ediv_mul x y
    omega
  rw [e, Int.gcd_sub_mul_right_right, Int.gcd_comm]
def mu1 (σ : L2.St) : Nat := match σ[1]? with
  | some (some (V.int y)) => y.toNat
  | _ => 0
def spGcd2 : Sp := fun vs H Q _ => ∃ a b : Int, vs = [.int a, .int b] ∧ 0 ≤ a ∧ 0 ≤ b ∧ Q (.int (Int.gcd a b : Int)) H
def spUnits : Sp := fun vs H Q _ => ∃ M : Int, vs = [.int M] ∧ 2 ≤ M ∧ M ≤ 1000 ∧ ∀ (D : Addr) (us : List Int) (H' : Hp), Same H H' → H D = none → H' D = some (.lst (us.map V.int)) → us ≠ [] → us.length ≤ 1000 → (∀ u ∈ us, 1 ≤ u ∧ u < M ∧ Int.gcd u M = 1) → Q (.ref D) H'
def spRow : Sp := fun vs H Q _ => ∃ (p c : Addr) (ns : List Int) (n : Nat) (M : Int) (k : Nat), vs = [.ref p, .int M, .int (k : Int)] ∧ Pen H p c ns n ∧ n < 80000 ∧ 1 ≤ M ∧ M < 2 ^ 64 ∧ k ≤ 1000 ∧
  ∀ (D : Addr) (r : Row) (H' : Hp), But p H H' → Pen H' p c ns (n + k) → H D = none → H' D = some (.lst (r.map V.int)) → r.length = k → RRed M r → Q (.ref D) H'
def spModulus : Sp := fun vs H Q _ => ∃ (p c : Addr) (ns : List Int) (n : Nat), vs = [.ref p] ∧ Pen H p c ns n ∧ n < 80000 ∧ ∀ (M : Int) (H' : Hp), 2 ≤ M → M ≤ 12 → Pen H' p c ns (n + 1) → But p H H' → Q (.int M) H'
section
variable {P : Program} {w : World} {K : PySem.W.Frag} {mg : Str → Option Value} {base : Heap}
theorem ok_pen {f : Addr} {fd : FuncData} (F : Fun K "_law_pen" "_law_pen" s_law_pen f fd) (flist : mg "list" = none) : FnOk P w K mg base CX0 1 f fd ["_law_script"] (spPen K) := by
  refine F.ok sc_law_pen (fun vs H Q E h => ?_) (fun cdv A outer s H vs Q E hr h => ?_)
  · obtain ⟨a, ns, rfl, _⟩ := h
    rfl
  · obtain ⟨a, ns, rfl, hS, k⟩ := h
    refine ⟨_, PSs.nox ((pss_one (ps_ret (pe_disp (pps_cons pe_str (pe_callTy (call_listK (K := K) rfl) rfl flist (by decide +kernel) (pa_cons (pe_slice sl_list (pv 0) po_none (po_some pe_int)) pa_nil)) (pps_cons pe_str pe_int (pps_cons pe_str pe_int pps_nil))) (by rfl) (by rfl) (fun z => by cases z) (by decide))))), ?_⟩
    refine fun p hp => ?_
    have hS := sqL_same hS (same_upd (o := .dK []) hp)
    refine ⟨_, rfl, _, rfl, _, _, rfl, hS, fun q hq => ⟨_, _, rfl, .inl (SqL.of upd_same), fun c hc => ?_⟩⟩
    have hqp : q ≠ p := fun z => by rw [z, upd_same] at hq; cases hq
    have hcq : c ≠ q := fun z => by rw [z, upd_same] at hc; cases hc
    have hcp : c ≠ p := fun z => by rw [z, upd_ne (Ne.symm hqp), upd_same] at hc; cases hc
    obtain ⟨l, ecut⟩ : ∃ l : List Int, cutV (ns.map V.int) none (some 63) = l.map V.int :=
      ⟨(ns.drop (HT.sIx (ns.map V.int).length 0 none)).take (HT.sIx (ns.map V.int).length (ns.map V.int).length (some 63) - HT.sIx (ns.map V.int).length 0 none), by unfold cutV; rw [List.map_take, List.map_drop]⟩
    rw [ecut]
    refine ⟨by rw [upd_ne (Ne.symm hcp), upd_ne (Ne.symm hqp)]; exact upd_same, penL c 0 0, rfl, (by show 3 ≤ 15; decide), ?_⟩
    refine k p c l _ ?_ ⟨?_, ?_, by decide, by decide, by decide⟩
    · intro b o e
      have hb := ne_of_none e hp
      rw [upd_ne hb, upd_ne (ne_of_none (by rw [upd_ne (ne_of_none (by rw [upd_ne hb]; exact e) hq), upd_ne hb]; exact e) hc), upd_ne (ne_of_none (by rw [upd_ne hb]; exact e) hq), upd_ne hb]
      exact e
    · rw [upd_same]
      rfl
    · rw [upd_ne hcp]
      exact upd_same
theorem ok_gcd {f : Addr} {fd : FuncData} (F : Fun K "_law_common" "_law_common" s_law_common f fd) (T : TxtA mg) : FnOk P w K mg base CX0 1 f fd ["_law_one", "_law_other"] spGcd2 := by
  refine F.ok sc_law_common (fun vs H Q E h => ?_) (fun cdv A outer s H vs Q E hr h => ?_)
  · obtain ⟨a, b, rfl, _⟩ := h
    rfl
  · obtain ⟨a, b, rfl, ha0, hb0, k⟩ := h
    refine ⟨_, (pss_cons (ps_while PassesOwn.never (pt_cmpR op_gt (pv 1) pe_int (nomark _)) (pss_one (ps_par (i := 0) (j := 1) rfl sc_law_common.nd rfl rfl (by decide) rfl rfl (pa_cons (pv 1) (pa_cons (pe_op op_modN (pe_callTy call_int1 rfl T.f_int (by decide +kernel) (pa_cons (pv 0) pa_nil)) (pv 1)) pa_nil)) (by rfl))))
        (pss_one (ps_ret (pv 0)))), ?_⟩
    refine while_by (fun σ H' => ∃ x y : Int, σ = [some (.int x), some (.int y)] ∧ H' = H ∧ 0 ≤ x ∧ 0 ≤ y ∧ Int.gcd x y = Int.gcd a b)
      (fun σ _ => mu1 σ) ?_ ?_ (fun σ H Q Q' hq ⟨v, hv, i, j, e1, e2, k, e3, q⟩ => ⟨v, hv, i, j, e1, e2, k, e3, hq _ _ q⟩)
    · exact ⟨a, b, rfl, rfl, ha0, hb0, rfl⟩
    · rintro σ H' ⟨x, y, rfl, rfl, hx, hy, hg⟩
      refine ⟨_, rfl, _, _, rfl, rfl, _, rfl, ?_⟩
      refine ite2 (fun hd => ?_) (fun hd => ?_)
      · have hy0 : 0 < y := of_decide_eq_true hd
        have he : x.fmod y = x % y := Int.fmod_eq_emod_of_nonneg _ (by omega)
        refine ⟨_, rfl, _, rfl, .inl ⟨_, rfl, _, rfl, _, _, rfl, rfl, (by omega), _, _, rfl, ⟨y, x.fmod y, rfl, rfl, hy, by rw [he]; exact Int.emod_nonneg _ (by omega), ?_⟩, ?_⟩⟩
        · rw [he, gcd_turn hx hy0, hg]
        · show (x.fmod y).toNat < y.toNat
          rw [he]
          have := Int.emod_lt_of_pos x hy0
          have := Int.emod_nonneg x (show y ≠ 0 by omega)
          omega
      · have hy0 : y = 0 := by
          have : ¬ 0 < y := fun z => hd (decide_eq_true z)
          omega
        subst hy0
        have hxg : x = (Int.gcd a b : Int) := by
          rw [← hg]
          simp
          omega
        rw [hxg]
        exact ⟨_, rfl, k⟩
theorem ok_units {f fG : Addr} {fd fdG : FuncData} (F : Fun K "_law_units" "_law_units" s_law_units f fd) (T : TxtL mg)
    (G__law_common : FnOk P w K mg base CX0 1 fG fdG ["_law_one", "_law_other"] spGcd2) (g__law_common : mg "_law_common" = some (.ref fG)) (kp__law_common : PySem.W.keepIn K (.ref fG) = true) (b__law_common : Binds K fdG ["_law_one", "_law_other"] []) :
    FnOk P w K mg base CX0 2 f fd ["_law_modulus_here"] spUnits := by
  refine F.ok sc_law_units (fun vs H Q E h => ?_) (fun cdv A outer s H vs Q E hr h => ?_)
  · obtain ⟨M, rfl, _⟩ := h
    rfl
  · obtain ⟨M, rfl, hM, hM2, k⟩ := h
    refine ⟨_, (pss_one (ps_ret (pe_lc (own := [("_law_number", 1)]) (g := gName 1) rfl sc_law_units.nd (pi_range2 rfl T.f_range (pa_cons pe_int (pa_cons (pv 0) pa_nil))) (blkOk_by (N := ["_law_modulus_here", "_law_number"]) (sc := defScope s_law_units) (by decide +kernel)) (fun _ _ _ _ _ => (pg_name (i := 1) sc_law_units.nd rfl (Or.inl rfl))) (fun _ _ _ _ _ => (pts_one (pt_cmpR op_eq (pe_call G__law_common (hr.mono (by decide)) rfl g__law_common kp__law_common b__law_common .nil pass0 (pa_cons (pv 1) (pa_cons (pv 0) pa_nil))) pe_int (nomark _)))) (fun _ _ _ _ _ => (pv 1))))), ?_⟩
    obtain ⟨m, rfl⟩ : ∃ m : Nat, M = m + 1 := ⟨(M - 1).toNat, by omega⟩
    show tRet _ _ _ _
    refine ⟨_, rfl, 1, (m : Int) + 1, rfl, by omega, fun D hD => lc_fil (walk_range (lo := 1) (n := ((m : Int) + 1 - 1).toNat)) hD (by omega) (List.range ((m : Int) + 1 - 1).toNat) (by simp) (fun j => decide (Int.gcd (1 + (j : Int)) ((m : Int) + 1) = 1)) (fun j => .int (1 + (j : Int))) (fun _ _ => trivial) ?_ ?_⟩
    · rintro i a x H3 H3' Fn Nn ha fY fN s3 ⟨rfl, rfl⟩
      have ea : a = i := by
        have := (List.getElem?_eq_some_iff.mp ha)
        obtain ⟨h1, h2⟩ := this
        rw [List.getElem_range] at h2
        exact h2.symm
      subst ea
      refine ⟨rfl, _, rfl, _, rfl, 1 + (a : Int), (m : Int) + 1, rfl, by omega, by omega, ?_⟩
      refine ⟨rfl, _, rfl, ?_⟩
      have ec : decide (V.int (Int.gcd (1 + (a : Int)) ((m : Int) + 1) : Int) = V.int 1) = decide (Int.gcd (1 + (a : Int)) ((m : Int) + 1) = 1) := by
        simp only [V.int.injEq]
        exact decide_eq_decide.mpr (by omega)
      rw [ec]
      cases e : decide (Int.gcd (1 + (a : Int)) ((m : Int) + 1) = 1)
      · exact iteF (fN _ (fun _ _ e => e) e)
      · exact iteT ⟨_, rfl, fY _ (fun _ _ e => e) e⟩
    · intro H3 a2 s3
      have el : ((List.range ((m : Int) + 1 - 1).toNat).filter fun j : Nat => decide (Int.gcd (1 + (j : Int)) ((m : Int) + 1) = 1)).map (fun j : Nat => V.int (1 + (j : Int))) = (((List.range ((m : Int) + 1 - 1).toNat).filter fun j : Nat => decide (Int.gcd (1 + (j : Int)) ((m : Int) + 1) = 1)).map fun j : Nat => 1 + (j : Int)).map V.int := by
        rw [List.map_map]
        rfl
      rw [el] at a2
      refine k D _ H3 s3 hD a2 (fun z => ?_) ?_ ?_
      · have z := List.map_eq_nil_iff.mp z
        have h0 : (0 : Nat) ∈ (List.range ((m : Int) + 1 - 1).toNat).filter fun j : Nat => decide (Int.gcd (1 + (j : Int)) ((m : Int) + 1) = 1) := by
          rw [List.mem_filter]
          refine ⟨List.mem_range.mpr (by omega), decide_eq_true ?_⟩
          simp
        rw [z] at h0
        cases h0
      · rw [List.length_map]
        have := List.length_filter_le (fun j : Nat => decide (Int.gcd (1 + (j : Int)) ((m : Int) + 1) = 1)) (List.range ((m : Int) + 1 - 1).toNat)
        rw [List.length_range] at this
        omega
      · intro u hu
        obtain ⟨j, hj, rfl⟩ := List.mem_map.mp hu
        obtain ⟨h1, h2⟩ := List.mem_filter.mp hj
        have := List.mem_range.mp h1
        exact ⟨by omega, by omega, of_decide_eq_true h2⟩
theorem ok_row {f fD : Addr} {fd fdD : FuncData} (F : Fun K "_law_row" "_law_row" s_law_row f fd) (T : TxtL mg)
    (G__law_draw : FnOk P w K mg base CX0 1 fD fdD ["_law_pen_here", "_law_many"] spDraw) (g__law_draw : mg "_law_draw" = some (.ref fD)) (kp__law_draw : PySem.W.keepIn K (.ref fD) = true) (b__law_draw : Binds K fdD ["_law_pen_here", "_law_many"] []) :
    FnOk P w K mg base CX0 2 f fd ["_law_pen_here", "_law_modulus_here", "_law_size"] spRow := by
  refine F.ok sc_law_row (fun vs H Q E h => ?_) (fun cdv A outer s H vs Q E hr h => ?_)
  · obtain ⟨p, c, ns, n, M, k, rfl, _⟩ := h
    rfl
  · obtain ⟨p, c, ns, n, M, k, rfl, hP, hn, hM, hM2, hk, kQ⟩ := h
    refine ⟨_, (pss_one (ps_ret (pe_lc (own := [("_law_k", 3)]) (g := gName 3) rfl sc_law_row.nd (pi_range1 rfl T.f_range (pa_cons (pv 2) pa_nil)) (blkOk_by (N := ["_law_pen_here", "_law_modulus_here", "_law_size", "_law_k"]) (sc := defScope s_law_row) (by decide +kernel)) (fun _ _ _ _ _ => (pg_name (i := 3) sc_law_row.nd rfl (Or.inl rfl))) (fun _ _ _ _ _ => pts_nil) (fun _ _ _ _ _ => (pe_call G__law_draw (hr.mono (by decide)) rfl g__law_draw kp__law_draw b__law_draw .nil pass0 (pa_cons (pv 0) (pa_cons (pv 1) pa_nil))))))), ?_⟩
    refine ⟨_, rfl, (k : Int), rfl, by omega, by omega, fun D hD => lc_pen (walk_range (lo := 0) (n := k)) 1 hP hD (by omega) (fun j v _ => ∃ x : Int, v = .int x ∧ 0 ≤ x ∧ x < M) (fun j v H H' h _ => h) (fun _ _ => trivial) ?_ ?_⟩
    · rintro j v H3 H3' Fn Nn fin hj b3 P3 hacc ⟨rfl, rfl⟩
      refine ⟨rfl, yesT ⟨_, rfl, _, rfl, p, c, ns, _, M, rfl, P3, by omega, hM, hM2, fun d H4 d0 d1 P4 b4 => fin _ _ b4 (P4.le (by omega)) ⟨d, rfl, d0, d1⟩⟩⟩
    · intro acc H3 a1 a2 b3 P3 hR
      obtain ⟨r, rfl, hl, hr⟩ := ints_of (R := fun _ x => 0 ≤ x ∧ x < M) a1 hR
      exact kQ D r H3 b3 (P3.le (by omega)) hD a2 hl fun x hx => by
        obtain ⟨j, hj, e⟩ := List.mem_iff_getElem.mp hx
        exact hr j x (by rw [List.getElem?_eq_getElem hj, e])
theorem ok_modulus {f fD : Addr} {fd fdD : FuncData} (F : Fun K "_law_modulus" "_law_modulus" s_law_modulus f fd)
    (G__law_pick : FnOk P w K mg base CX0 2 fD fdD ["_law_pen_here", "_law_some"] (spPick K)) (g__law_pick : mg "_law_pick" = some (.ref fD)) (kp__law_pick : PySem.W.keepIn K (.ref fD) = true) (b__law_pick : Binds K fdD ["_law_pen_here", "_law_some"] []) :
    FnOk P w K mg base CX0 3 f fd ["_law_pen_here"] spModulus := by
  refine F.ok sc_law_modulus (fun vs H Q E h => ?_) (fun cdv A outer s H vs Q E hr h => ?_)
  · obtain ⟨p, c, ns, n, rfl, _⟩ := h
    rfl
  · obtain ⟨p, c, ns, n, rfl, hP, hn, k⟩ := h
    refine ⟨_, (pss_one (ps_ret (pe_call G__law_pick (hr.mono (by decide)) rfl g__law_pick kp__law_pick b__law_pick .nil pass0 (pa_cons (pv 0) (pa_cons (pe_lst (pa_cons pe_int (pa_cons pe_int (pa_cons pe_int (pa_cons pe_int (pa_cons pe_int (pa_cons pe_int (pa_cons pe_int (pa_cons pe_int (pa_cons pe_int (pa_cons pe_int (pa_cons pe_int pa_nil)))))))))))) pa_nil))))), ?_⟩
    refine ⟨_, rfl, (by show 11 ≤ sizeLine; decide), fun q nq => ?_⟩
    refine ⟨p, c, q, ns, n, _, rfl, hP.same (same_upd nq), by omega, upd_same, by simp, by simp, fun v H' hv P' b' => ?_⟩
    have hb : But p H H' := fun b o hb e => b' _ _ hb (same_upd nq _ _ e)
    simp only [List.mem_cons, List.not_mem_nil, or_false] at hv
    rcases hv with rfl | rfl | rfl | rfl | rfl | rfl | rfl | rfl | rfl | rfl | rfl <;> exact k _ _ (by decide) (by decide) P' hb
end
end Wk

namespace Wk
open PySem L2
abbrev s_law_product : Stmt := top 63
theorem sc_law_product : FnScope ["_law_modulus_here", "_law_one", "_law_other", "_law_found", "_law_row_here", "_law_rows", "_law_at", "_law_k"] ["_law_modulus_here", "_law_one", "_law_other"] (defScope s_law_product) := ⟨rfl, rfl, rfl, by decide +kernel, rfl, by decide +kernel, by decide +kernel⟩

/-- a list of lists of ints: the list's address, the rows' -/
structure LMat (H : Hp) (a : Addr) (A : Mat) (bs : List Addr) : Prop where
  top : H a = some (.lst (bs.map V.ref))
  len : bs.length = A.length
  row : ∀ (k : Nat) (b : Addr) (r : Row), bs[k]? = some b → A[k]? = some r → H b = some (.lst (r.map V.int))
theorem LMat.keep {H H' : Hp} {a : Addr} {A : Mat} {bs : List Addr} (h : LMat H a A bs) (e : ∀ b o, b ∈ a :: bs → H b = some o → H' b = some o) : LMat H' a A bs :=
  ⟨e _ _ (by simp) h.top, h.len, fun k b r h1 h2 => e _ _ (List.mem_cons_of_mem _ (List.mem_of_getElem? h1)) (h.row k b r h1 h2)⟩
theorem LMat.same {H H' : Hp} {a : Addr} {A : Mat} {bs : List Addr} (h : LMat H a A bs) (e : Same H H') : LMat H' a A bs := h.keep fun b o _ q => e b o q
theorem LMat.get {H : Hp} {a : Addr} {A : Mat} {bs : List Addr} (h : LMat H a A bs) {k : Nat} {r : Row} (e : A[k]? = some r) : ∃ b, (bs.map V.ref)[k]? = some (.ref b) ∧ bs[k]? = some b ∧ H b = some (.lst (r.map V.int)) := by
  have hk : k < bs.length := by rw [h.len]; exact (List.getElem?_eq_some_iff.mp e).1
  have hb : bs[k]? = some bs[k] := List.getElem?_eq_getElem hk
  exact ⟨bs[k], by rw [List.getElem?_map, hb]; rfl, hb, h.row k _ r hb e⟩
theorem LMat.at_ {H : Hp} {a : Addr} {A : Mat} {bs : List Addr} (h : LMat H a A bs) {k : Nat} {x : V} (e : (bs.map V.ref)[k]? = some x) : ∃ b r, x = .ref b ∧ bs[k]? = some b ∧ A[k]? = some r ∧ H b = some (.lst (r.map V.int)) := by
  rw [List.getElem?_map] at e
  cases hb : bs[k]? with
  | none => rw [hb] at e; cases e
  | some b =>
    rw [hb] at e
    cases e
    have hk : k < A.length := by rw [← h.len]; exact (List.getElem?_eq_some_iff.mp hb).1
    have hA : A[k]? = some A[k] := List.getElem?_eq_getElem hk
    exact ⟨b, A[k], rfl, rfl, hA, h.row k b _ hb hA⟩
def prodL (M : Int) (n w : Nat) (A B : Mat) : Mat := A.map fun r => (List.range w).map fun j => (sumN n fun k => r.getD k 0 * (B.getD k []).getD j 0) % M
/-- new since H -/
def NewL (H : Hp) (D : Addr) (ds : List Addr) : Prop := H D = none ∧ (∀ d ∈ ds, H d = none) ∧ (D :: ds).Nodup
def spLProd : Sp := fun vs H Q _ => ∃ (M : Int) (a b : Addr) (A B : Mat) (as bs : List Addr) (n w : Nat), vs = [.int M, .ref a, .ref b] ∧ 1 ≤ M ∧ M < 2 ^ 64 ∧ LMat H a A as ∧ LMat H b B bs ∧ A.length ≤ 100 ∧ B.length = n ∧ 1 ≤ n ∧ n ≤ 100 ∧ w ≤ 100 ∧ (∀ r ∈ A, r.length = n) ∧ (∀ r ∈ B, r.length = w) ∧ MRed M A ∧ MRed M B ∧
  ∀ (D : Addr) (ds : List Addr) (H' : Hp), Same H H' → LMat H' D (prodL M n w A B) ds → NewL H D ds → Q (.ref D) H'
theorem sum_range (f : Nat → Int) : ∀ n : Nat, ((List.range n).map f).sum = sumN n f
  | 0 => rfl
  | n + 1 => by
    rw [List.range_succ, List.map_append, List.sum_append, sum_range f n]
    simp [sumN]
section
variable {P : Program} {w0 : World} {K : PySem.W.Frag} {mg : Str → Option Value} {base : Heap}
theorem ok_lprod {f : Addr} {fd : FuncData} (F : Fun K "_law_product" "_law_product" s_law_product f fd) (T : TxtL mg) : FnOk P w0 K mg base CX0 1 f fd ["_law_modulus_here", "_law_one", "_law_other"] spLProd := by
  refine F.ok sc_law_product (fun vs H Q E h => ?_) (fun cdv A outer s H vs Q E hr h => ?_)
  · obtain ⟨M, a, b, A, B, as, bs, n, w, rfl, _⟩ := h
    rfl
  · obtain ⟨M, a, b, Am, Bm, as, bs, n, w, rfl, hM, hM2, hA, hB, lA, lB, n1, n2, w2, rA, rB, dA, dB, k⟩ := h
    refine ⟨_, (pss_cons (ps_set (i := 3) sc_law_product.nd rfl (Or.inl rfl) (pe_lst pa_nil))
        (pss_cons (ps_for PassesOwn.never rfl (pi_list (pv 1)) (pg_name (i := 4) sc_law_product.nd rfl (Or.inr rfl)) (pss_cons (ps_set (i := 5) sc_law_product.nd rfl (Or.inl rfl) (pe_lst pa_nil))
        (pss_cons (ps_for PassesOwn.never rfl (pi_range1 rfl T.f_range (pa_cons (pe_callB call_len_seq rfl T.f_len PySem.boot_len (pa_cons (pe_ix ix_list (pv 2) pe_int (fun _ _ => rfl)) pa_nil)) pa_nil)) (pg_name (i := 6) sc_law_product.nd rfl (Or.inr rfl)) (pss_one (ps_expr (pe_bm PySem.F.plainAttrs_list PySem.F.slot_list_append PySem.F.type_list_append mt_append (pv 5) (pa_cons (pe_op op_modN (pe_callTy call_int1 rfl T.f_int (by decide +kernel) (pa_cons (pe_callB (cr_sumK (K := K) rfl rfl) rfl T.f_sum (by decide +kernel) (pa_cons (pe_lc (own := [("_law_k", 7)]) (g := gName 7) rfl sc_law_product.nd (pi_range1 rfl T.f_range (pa_cons (pe_callB call_len_seq rfl T.f_len PySem.boot_len (pa_cons (pv 2) pa_nil)) pa_nil)) (blkOk_by (N := ["_law_modulus_here", "_law_one", "_law_other", "_law_found", "_law_row_here", "_law_rows", "_law_at", "_law_k"]) (sc := defScope s_law_product) (by decide +kernel)) (fun _ _ _ _ _ => (pg_name (i := 7) sc_law_product.nd rfl (Or.inl rfl))) (fun _ _ _ _ _ => pts_nil) (fun _ _ _ _ _ => (pe_op op_mulW (pe_ix (ix_listK (K := K) rfl) (pv 4) (pv 7) (fun _ _ => rfl)) (pe_ix (ix_listK (K := K) rfl) (pe_ix (ix_listK (K := K) rfl) (pv 2) (pv 7) (fun _ _ => rfl)) (pv 6) (fun _ _ => rfl))))) pa_nil)) pa_nil)) (pv 0)) pa_nil)))))
        (pss_one (ps_expr (pe_bm PySem.F.plainAttrs_list PySem.F.slot_list_append PySem.F.type_list_append mt_append (pv 3) (pa_cons (pv 5) pa_nil)))))))
        (pss_one (ps_ret (pv 3))))), ?_⟩
    -- _law_modulus_here=0 _law_one=1 _law_other=2 _law_found=3 _law_row_here=4 _law_rows=5 _law_at=6 _law_k=7
    refine ⟨Nat.zero_le _, fun F0 nF => ⟨_, rfl, a, rfl, ⟨_, SqL.of (same_upd nF _ _ hA.top)⟩, ?_⟩⟩
    have sF : Same H (upd H F0 (.lst [])) := same_upd nF
    have gF : (upd H F0 (.lst [])) F0 = some (.lst []) := upd_same
    generalize upd H F0 (.lst []) = H1 at sF gF ⊢
    have h0 : Bm[0]? = some (Bm[0]'(by omega)) := List.getElem?_eq_getElem _
    obtain ⟨b0, e0, _, hb0⟩ := hB.get h0
    have lb0 := rB _ (List.mem_of_getElem? h0)
    generalize Bm[0]'(by omega) = r0 at *
    refine for_it (walk_list (xs := as.map V.ref)) (fun i σ H' => ∃ (x4 x5 x6 : Option V) (ds : List Addr), σ = [some (.int M), some (.ref a), some (.ref b), some (.ref F0), x4, x5, x6, none] ∧ Same H H' ∧ H' F0 = some (.lst (ds.map V.ref)) ∧ ds.length = i ∧ (∀ d ∈ ds, H d = none) ∧ (F0 :: ds).Nodup ∧
      ∀ (k : Nat) (d : Addr) (r : Row), ds[k]? = some d → (prodL M n w Am Bm)[k]? = some r → H' d = some (.lst (r.map V.int))) ⟨none, none, none, [], rfl, sF, gF, rfl, (fun d hd => nomatch hd), by simp, fun k d r e => by simp at e⟩ (fun i σ H' _ ⟨_, _, _, _, _, s1, _⟩ => SqL.of (s1 _ _ hA.top)) ?_ ?_
    · rintro i v σ H2 H2' hi ⟨x4, x5, x6, ds, rfl, s2, g2, hdl, hdn, hnd, hrow⟩ ⟨rfl, hx⟩
      obtain ⟨q, r, rfl, _, gr, hq⟩ := hA.at_ hx
      have lr := rA _ (List.mem_of_getElem? gr)
      have dr := dA _ (List.mem_of_getElem? gr)
      have hF0 : ∀ {c : Addr} {o : HO}, H c = some o → c ≠ F0 := fun {c o} e z => by rw [z, nF] at e; cases e
      refine ⟨Nat.zero_le _, fun R nR => ?_⟩
      have sR : Same H2' (upd H2' R (.lst [])) := same_upd nR
      have gR : (upd H2' R (.lst [])) R = some (.lst []) := upd_same
      generalize upd H2' R (.lst []) = H3 at sR gR ⊢
      have s3 := same_trans s2 sR
      refine ⟨_, rfl, b, _, 0, _, rfl, rfl, SqL.of (s3 _ _ hB.top), atI_nat (j := 0) e0, b0, _, rfl, .inl (SqL.of (s3 _ _ hb0)), ?_⟩
      rw [List.length_map, lb0]
      refine ⟨(w : Int), rfl, by omega, by omega, ?_⟩
      have hRne : ∀ {c : Addr} {o : HO}, H c = some o → c ≠ R := fun {c o} e z => by
        have := s2 _ _ e
        rw [z, nR] at this
        cases this
      refine for_it (walk_range (lo := 0) (n := w)) (fun j σ H' => ∃ (y : Option V), σ = [some (.int M), some (.ref a), some (.ref b), some (.ref F0), some (.ref q), some (.ref R), y, none] ∧ But R H3 H' ∧ H' R = some (.lst (((List.range j).map fun j => (sumN n fun k => r.getD k 0 * (Bm.getD k []).getD j 0) % M).map V.int))) ⟨x6, rfl, fun _ _ _ e => e, gR⟩ (fun _ _ _ _ _ => trivial) ?_ ?_
      · rintro j v σ H4 H4' hj ⟨y, rfl, b4, g4⟩ ⟨rfl, rfl⟩
        have keep : ∀ {c : Addr} {o : HO}, H c = some o → H4' c = some o := fun {c o} e => b4 _ _ (hRne e) (s3 _ _ e)
        refine ⟨_, rfl, .inl ⟨rfl, _, SqL.of g4⟩, ?_⟩
        refine ⟨_, rfl, b, _, rfl, .inl (SqL.of (keep hB.top)), ?_⟩
        rw [List.length_map, hB.len, lB]
        refine ⟨(n : Int), rfl, by omega, by omega, fun D hD => lc_rel (walk_range (lo := 0) (n := n)) hD (by omega) (fun k v _ => v = .int (r.getD k 0 * (Bm.getD k []).getD j 0)) (fun j v H H' h _ => h) (fun _ _ => trivial) ?_ ?_⟩
        · rintro k v H5 H5' Fn Nn fin hk s5 hacc ⟨rfl, rfl⟩
          have hkB : Bm[k]? = some (Bm[k]'(by omega)) := List.getElem?_eq_getElem _
          obtain ⟨bk, ek, _, hbk⟩ := hB.get hkB
          have lbk := rB _ (List.mem_of_getElem? hkB)
          have dbk := dB _ (List.mem_of_getElem? hkB)
          have eD : Bm.getD k [] = Bm[k]'(by omega) := by rw [List.getD_eq_getElem?_getD, hkB]; rfl
          rw [eD] at fin
          generalize Bm[k]'(by omega) = rk at *
          have er : r[k]? = some (r.getD k 0) := by rw [List.getD_eq_getElem?_getD, List.getElem?_eq_getElem (by omega)]; rfl
          have ek2 : rk[j]? = some (rk.getD j 0) := by rw [List.getD_eq_getElem?_getD, List.getElem?_eq_getElem (by omega)]; rfl
          have z1 := dr _ (List.mem_of_getElem? er)
          have z2 := dbk _ (List.mem_of_getElem? ek2)
          refine ⟨rfl, yesT ⟨_, rfl, _, rfl, q, _, _, _, rfl, rfl, SqL.of (s5 _ _ (keep hq)), ?_, _, rfl, _, rfl, b, _, _, _, rfl, rfl, SqL.of (s5 _ _ (keep hB.top)), ?_, _, rfl, bk, _, _, _, rfl, rfl, SqL.of (s5 _ _ (keep hbk)), ?_, _, _, rfl, rfl, wide_mul (a := 64) (b := 64) (by omega) (by omega) (by decide) (by decide) (by decide), fin _ _ (fun _ _ e => e) rfl⟩⟩
          · rw [Int.zero_add]
            exact atI_nat (by rw [List.getElem?_map, er]; rfl)
          · rw [Int.zero_add]
            exact atI_nat ek
          · rw [Int.zero_add]
            exact atI_nat (by rw [List.getElem?_map, ek2]; rfl)
        · intro acc H5 a1 a2 s5 hR5
          have ea : acc = ((List.range n).map fun k => r.getD k 0 * (Bm.getD k []).getD j 0).map V.int := by
            rw [List.map_map]
            exact acc_map (as := List.range n) (f := fun k => V.int (r.getD k 0 * (Bm.getD k []).getD j 0)) (by simpa using a1) fun k v e => ⟨k, List.getElem?_range (by rw [← a1]; exact (List.getElem?_eq_some_iff.mp e).1), hR5 k v e⟩
          rw [ea] at a2
          have nD : D ≠ R := fun z => by rw [z, g4] at hD; cases hD
          refine ⟨D, _, rfl, SqL.of a2, .inl ⟨_, rfl, _, rfl, _, _, rfl, rfl, by omega, R, _, _, rfl, rfl, s5 _ _ g4, ?_, ?_⟩⟩
          · simp
            exact Nat.lt_of_lt_of_le (show j < 101 by omega) (by decide)
          · refine ⟨_, rfl, fun c o hc e => ?_, ?_⟩
            · rw [upd_ne hc]
              exact s5 _ _ (b4 _ _ hc e)
            · rw [upd_same, sum_range]
              dsimp only
              rw [Int.fmod_eq_emod_of_nonneg _ (show 0 ≤ M by omega), List.range_succ, List.map_append, List.map_append]
              rfl
      · rintro σ H4 ⟨y, rfl, b4, g4⟩
        have hRF : F0 ≠ R := fun z => by rw [← z, g2] at nR; cases nR
        have g4F := b4 _ _ hRF (sR _ _ g2)
        have hRd : ∀ d ∈ ds, d ≠ R := fun d hd z => by
          obtain ⟨k, hk, e⟩ := List.mem_iff_getElem.mp hd
          have h1 : ds[k]? = some d := by rw [List.getElem?_eq_getElem hk, e]
          have hkP : k < (prodL M n w Am Bm).length := by
            have h3 : (prodL M n w Am Bm).length = Am.length := by simp [prodL]
            have h4 : (as.map V.ref).length = Am.length := by rw [List.length_map, hA.len]
            omega
          have := hrow k d _ h1 (List.getElem?_eq_getElem hkP)
          rw [z, nR] at this
          cases this
        have nRH : H R = none := by
          cases z : H R with
          | none => rfl
          | some o => rw [s2 _ _ z] at nR; cases nR
        refine ⟨_, rfl, .inl ⟨rfl, _, SqL.of g4F⟩, _, rfl, F0, _, _, rfl, rfl, g4F, ?_, ?_⟩
        · have h4 : (as.map V.ref).length = Am.length := by rw [List.length_map, hA.len]
          rw [List.length_map]
          exact Nat.lt_of_lt_of_le (show ds.length < 101 by omega) (by decide)
        have bF : ∀ {c : Addr} {o : HO}, c ≠ F0 → H4 c = some o → (upd H4 F0 (.lst (ds.map V.ref ++ [.ref R]))) c = some o := fun {c o} hc e => by rw [upd_ne hc]; exact e
        refine ⟨_, _, _, ds ++ [R], rfl, fun c o e => bF (hF0 e) (b4 _ _ (hRne e) (s3 _ _ e)), by rw [upd_same]; simp, by simp [hdl], fun d hd => ?_, ?_, fun k d rr h1 h2 => ?_⟩
        · rcases List.mem_append.mp hd with h | h
          · exact hdn d h
          · rw [List.mem_singleton.mp h]
            exact nRH
        · rw [← List.cons_append]
          refine List.nodup_append.mpr ⟨hnd, by simp, fun x hx y hy => ?_⟩
          rw [List.mem_singleton.mp hy]
          rcases List.mem_cons.mp hx with h | h
          · rw [h]
            exact hRF
          · exact hRd x h
        · rcases Nat.lt_or_ge k ds.length with hk | hk
          · rw [List.getElem?_append_left hk] at h1
            have hdm := List.mem_of_getElem? h1
            have : d ≠ F0 := fun z => by
              rw [z] at hdm
              exact (List.nodup_cons.mp hnd).1 hdm
            exact bF this (b4 _ _ (hRd d hdm) (sR _ _ (hrow k d rr h1 h2)))
          · have hke : k = ds.length := by
              have := (List.getElem?_eq_some_iff.mp h1).1
              simp at this
              omega
            subst hke
            rw [List.getElem?_append_right (Nat.le_refl _), Nat.sub_self] at h1
            cases h1
            refine bF (fun z => hRF z.symm) ?_
            rw [g4]
            unfold prodL at h2
            rw [List.getElem?_map, hdl, gr] at h2
            cases h2
            rfl
    · rintro σ H2 ⟨x4, x5, x6, ds, rfl, s2, g2, hdl, hdn, hnd, hrow⟩
      exact ⟨_, rfl, k F0 ds H2 s2 ⟨g2, by rw [hdl, List.length_map, hA.len]; simp [prodL], hrow⟩ ⟨nF, hdn, hnd⟩⟩
end
end Wk

namespace Wk
open PySem L2
abbrev s_law_undone : Stmt := top 64
theorem sc_law_undone : FnScope ["_law_pen_here", "_law_modulus_here", "_law_size", "_law_units_here", "_law_low", "_law_high", "_law_row_here", "_law_at"] ["_law_pen_here", "_law_modulus_here", "_law_size"] (defScope s_law_undone) := ⟨rfl, rfl, rfl, by decide +kernel, rfl, by decide +kernel, by decide +kernel⟩

theorem LMat.pushed {H H' : Hp} {a b : Addr} {A : Mat} {bs : List Addr} {r : Row} (h : LMat H a A bs) (top : H' a = some (.lst (bs.map V.ref ++ [.ref b]))) (e : ∀ d o, d ∈ bs → H d = some o → H' d = some o) (hb : H' b = some (.lst (r.map V.int))) : LMat H' a (A ++ [r]) (bs ++ [b]) := by
  refine ⟨by rw [top]; simp, by simp [h.len], fun k d rr h1 h2 => ?_⟩
  rcases Nat.lt_or_ge k bs.length with hk | hk
  · rw [List.getElem?_append_left hk] at h1
    rw [List.getElem?_append_left (by rw [← h.len]; exact hk)] at h2
    exact e _ _ (List.mem_of_getElem? h1) (h.row k d rr h1 h2)
  · have hke : k = bs.length := by
      have := (List.getElem?_eq_some_iff.mp h1).1
      simp at this
      omega
    subst hke
    rw [List.getElem?_append_right (Nat.le_refl _), Nat.sub_self] at h1
    rw [List.getElem?_append_right (by rw [h.len]; exact Nat.le_refl _), h.len, Nat.sub_self] at h2
    cases h1
    cases h2
    exact hb
theorem Pen.upd {H : Hp} {p c a : Addr} {ns : List Int} {n : Nat} {o : HO} (h : Pen H p c ns n) (h1 : a ≠ p) (h2 : a ≠ c) : Pen (L2.upd H a o) p c ns n := by
  obtain ⟨i, l, a, b⟩ := h
  exact ⟨i, l, ⟨by rw [upd_ne (Ne.symm h1)]; exact a.pen, by rw [upd_ne (Ne.symm h2)]; exact a.cells, a.i0, a.l0, a.i1⟩, b⟩
theorem getD_set {r : Row} {i j : Nat} {u : Int} (hi : i < r.length) : (r.set i u).getD j 0 = if j = i then u else r.getD j 0 := by
  rw [List.getD_eq_getElem?_getD, List.getD_eq_getElem?_getD, List.getElem?_set]
  by_cases e : i = j
  · subst e
    simp [hi]
  · rw [if_neg e, if_neg (fun z => e z.symm)]
theorem push_ok {P : Nat → Row → Prop} {A : Mat} {r : Row} {i : Nat} (hA : A.length = i) (h : ∀ k r, A[k]? = some r → P k r) (hr : P i r) : ∀ k r', (A ++ [r])[k]? = some r' → P k r' := fun k r' e => by
  rcases Nat.lt_or_ge k A.length with hk | hk
  · rw [List.getElem?_append_left hk] at e
    exact h k r' e
  · have hke : k = A.length := by
      have := (List.getElem?_eq_some_iff.mp e).1
      simp at this
      omega
    subst hke
    rw [List.getElem?_append_right (Nat.le_refl _), Nat.sub_self] at e
    cases e
    rw [hA]
    exact hr
theorem But.of_same {p : Addr} {H H' : Hp} (h : Same H H') : But p H H' := fun b o _ e => h b o e
def LowR (M : Int) (n i : Nat) (r : Row) : Prop := r.length = n ∧ RRed M r ∧ r.getD i 0 = 1 ∧ ∀ j, i < j → r.getD j 0 = 0
def HighR (M : Int) (n i : Nat) (r : Row) : Prop := r.length = n ∧ RRed M r ∧ Int.gcd (r.getD i 0) M = 1 ∧ ∀ j, j < i → r.getD j 0 = 0
def spLUnd : Sp := fun vs H Q _ => ∃ (p c : Addr) (ns : List Int) (m : Nat) (M : Int) (n : Nat), vs = [.ref p, .int M, .int (n : Int)] ∧ Pen H p c ns m ∧ m < 70000 ∧ 2 ≤ M ∧ M ≤ 1000 ∧ 1 ≤ n ∧ n ≤ 20 ∧
  ∀ (D : Addr) (ds : List Addr) (H' : Hp) (A : Mat), But p H H' → Pen H' p c ns (m + 900) → LMat H' D A ds → NewL H D ds → Shp n n A → MRed M A → (∃ Lo Hi : Mat, Lo.length = n ∧ Hi.length = n ∧ (∀ i r, Lo[i]? = some r → LowR M n i r) ∧ (∀ i r, Hi[i]? = some r → HighR M n i r) ∧ A = prodL M n n Lo Hi) → Q (.ref D) H'
section
variable {P : Program} {w0 : World} {K : PySem.W.Frag} {mg : Str → Option Value} {base : Heap}
theorem ok_lund {f fD fK fU fP : Addr} {fd fdD fdK fdU fdP : FuncData} (F : Fun K "_law_undone" "_law_undone" s_law_undone f fd) (T : TxtL mg)
    (G__law_draw : FnOk P w0 K mg base CX0 1 fD fdD ["_law_pen_here", "_law_many"] spDraw) (g__law_draw : mg "_law_draw" = some (.ref fD)) (kp__law_draw : PySem.W.keepIn K (.ref fD) = true) (b__law_draw : Binds K fdD ["_law_pen_here", "_law_many"] [])
    (G__law_pick : FnOk P w0 K mg base CX0 2 fK fdK ["_law_pen_here", "_law_some"] (spPick K)) (g__law_pick : mg "_law_pick" = some (.ref fK)) (kp__law_pick : PySem.W.keepIn K (.ref fK) = true) (b__law_pick : Binds K fdK ["_law_pen_here", "_law_some"] [])
    (G__law_units : FnOk P w0 K mg base CX0 2 fU fdU ["_law_modulus_here"] spUnits) (g__law_units : mg "_law_units" = some (.ref fU)) (kp__law_units : PySem.W.keepIn K (.ref fU) = true) (b__law_units : Binds K fdU ["_law_modulus_here"] [])
    (G__law_product : FnOk P w0 K mg base CX0 1 fP fdP ["_law_modulus_here", "_law_one", "_law_other"] spLProd) (g__law_product : mg "_law_product" = some (.ref fP)) (kp__law_product : PySem.W.keepIn K (.ref fP) = true) (b__law_product : Binds K fdP ["_law_modulus_here", "_law_one", "_law_other"] []) :
    FnOk P w0 K mg base CX0 3 f fd ["_law_pen_here", "_law_modulus_here", "_law_size"] spLUnd := by
  refine F.ok sc_law_undone (fun vs H Q E h => ?_) (fun cdv A outer s H vs Q E hr h => ?_)
  · obtain ⟨p, c, ns, m, M, n, rfl, _⟩ := h
    rfl
  · obtain ⟨p, c, ns, m, M, n, rfl, hP, hm, hM, hM2, hn, hn2, k⟩ := h
    refine ⟨_, (pss_cons (ps_par3 (i := 3) (j := 4) (l := 5) rfl sc_law_undone.nd rfl rfl rfl (by decide) (by decide) (by decide) rfl rfl rfl (pa_cons (pe_call G__law_units (hr.mono (by decide)) rfl g__law_units kp__law_units b__law_units .nil pass0 (pa_cons (pv 1) pa_nil)) (pa_cons (pe_lst pa_nil) (pa_cons (pe_lst pa_nil) pa_nil))) (by rfl))
        (pss_cons (ps_for PassesOwn.never rfl (pi_range1 rfl T.f_range (pa_cons (pv 2) pa_nil)) (pg_name (i := 6) sc_law_undone.nd rfl (Or.inr rfl)) (pss_cons (ps_expr (pe_bm PySem.F.plainAttrs_list PySem.F.slot_list_append PySem.F.type_list_append mt_append (pv 4) (pa_cons (pe_lc (own := [("_law_at", 7)]) (g := gName 7) rfl sc_law_undone.nd (pi_range1 rfl T.f_range (pa_cons (pv 2) pa_nil)) (blkOk_by (N := ["_law_pen_here", "_law_modulus_here", "_law_size", "_law_units_here", "_law_low", "_law_high", "_law_row_here", "_law_at"]) (sc := defScope s_law_undone) (by decide +kernel)) (fun _ _ _ _ _ => (pg_name (i := 7) sc_law_undone.nd rfl (Or.inl rfl))) (fun _ _ _ _ _ => pts_nil) (fun _ _ _ _ _ => (pe_ifExp (pt_cmpR op_lt (pv 7) (pv 6) (nomark _)) (pe_call G__law_draw (hr.mono (by decide)) rfl g__law_draw kp__law_draw b__law_draw .nil pass0 (pa_cons (pv 0) (pa_cons (pv 1) pa_nil))) (pe_callTy call_int1 rfl T.f_int (by decide +kernel) (pa_cons (pe_cmpR op_eq (pv 7) (pv 6) (nomark _)) pa_nil))))) pa_nil)))
        (pss_cons (ps_expr (pe_bm PySem.F.plainAttrs_list PySem.F.slot_list_append PySem.F.type_list_append mt_append (pv 5) (pa_cons (pe_lc (own := [("_law_at", 7)]) (g := gName 7) rfl sc_law_undone.nd (pi_range1 rfl T.f_range (pa_cons (pv 2) pa_nil)) (blkOk_by (N := ["_law_pen_here", "_law_modulus_here", "_law_size", "_law_units_here", "_law_low", "_law_high", "_law_row_here", "_law_at"]) (sc := defScope s_law_undone) (by decide +kernel)) (fun _ _ _ _ _ => (pg_name (i := 7) sc_law_undone.nd rfl (Or.inl rfl))) (fun _ _ _ _ _ => pts_nil) (fun _ _ _ _ _ => (pe_ifExp (pt_cmpR op_gt (pv 7) (pv 6) (nomark _)) (pe_call G__law_draw (hr.mono (by decide)) rfl g__law_draw kp__law_draw b__law_draw .nil pass0 (pa_cons (pv 0) (pa_cons (pv 1) pa_nil))) pe_int))) pa_nil)))
        (pss_one (ps_asg (pe_call G__law_pick (hr.mono (by decide)) rfl g__law_pick kp__law_pick b__law_pick .nil pass0 (pa_cons (pv 0) (pa_cons (pv 3) pa_nil))) (pg_sub (pe_ix ix_list (pv 5) (pv 6) (fun _ _ => rfl)) (pv 6) set_list))))))
        (pss_one (ps_ret (pe_call G__law_product (hr.mono (by decide)) rfl g__law_product kp__law_product b__law_product .nil pass0 (pa_cons (pv 1) (pa_cons (pv 4) (pa_cons (pv 5) pa_nil)))))))), ?_⟩
    -- _law_pen_here=0 _law_modulus_here=1 _law_size=2 _law_units_here=3 _law_low=4 _law_high=5 _law_row_here=6 _law_at=7
    refine ⟨_, rfl, M, rfl, hM, hM2, fun U us H1 s1 nU gU hu0 hul hu => ?_⟩
    refine ⟨Nat.zero_le _, fun Lo nLo => ⟨Nat.zero_le _, fun Hi nHi => ⟨_, _, _, rfl, ?_⟩⟩⟩
    obtain ⟨op, hop⟩ := hP.some
    obtain ⟨oc, hoc⟩ : ∃ o, H c = some o := by
      obtain ⟨_, _, z, _⟩ := hP
      exact ⟨_, z.cells⟩
    have nep : ∀ {d : Addr}, H d = none → d ≠ p := fun {d} e z => by rw [z, hop] at e; cases e
    have nec : ∀ {d : Addr}, H d = none → d ≠ c := fun {d} e z => by rw [z, hoc] at e; cases e
    have s2 : Same H1 (upd H1 Lo (.lst [])) := same_upd nLo
    have gLo2 : (upd H1 Lo (.lst [])) Lo = some (.lst []) := upd_same
    generalize upd H1 Lo (.lst []) = H2 at s2 gLo2 nHi ⊢
    have s3 : Same H2 (upd H2 Hi (.lst [])) := same_upd nHi
    have gHi : (upd H2 Hi (.lst [])) Hi = some (.lst (([] : List Addr).map V.ref)) := upd_same
    have gLo : (upd H2 Hi (.lst [])) Lo = some (.lst (([] : List Addr).map V.ref)) := s3 _ _ gLo2
    have hLH : Hi ≠ Lo := fun z => by rw [z, gLo2] at nHi; cases nHi
    have hLoH : H Lo = none := none_back s1 nLo
    have hHiH : H Hi = none := none_back (same_trans s1 s2) nHi
    have hUL : U ≠ Lo := fun z => by rw [← z, gU] at nLo; cases nLo
    have hUH : U ≠ Hi := fun z => by rw [← z, s2 _ _ gU] at nHi; cases nHi
    have gU3 := s3 _ _ (s2 _ _ gU)
    have s03 := same_trans s1 (same_trans s2 s3)
    generalize upd H2 Hi (.lst []) = H3 at s3 gHi gLo gU3 s03 ⊢
    have hUp := nep nU
    have hLp := nep hLoH
    have hHp := nep hHiH
    have hLc := nec hLoH
    have hHc := nec hHiH
    refine ⟨_, rfl, (n : Int), rfl, by omega, by omega, ?_⟩
    refine for_it (walk_range (lo := 0) (n := n)) (fun i σ H' => ∃ (x6 : Option V) (ls hs : List Addr) (Lm Hm : Mat), σ = [some (.ref p), some (.int M), some (.int (n : Int)), some (.ref U), some (.ref Lo), some (.ref Hi), x6, none] ∧ But p H H' ∧ Pen H' p c ns (m + 41 * i) ∧ H' U = some (.lst (us.map V.int)) ∧
      LMat H' Lo Lm ls ∧ LMat H' Hi Hm hs ∧ Lm.length = i ∧ Hm.length = i ∧ (∀ k r, Lm[k]? = some r → LowR M n k r) ∧ (∀ k r, Hm[k]? = some r → HighR M n k r) ∧ (∀ d ∈ ls, d ≠ p ∧ d ≠ Lo ∧ d ≠ Hi ∧ ∃ o, H' d = some o) ∧ (∀ d ∈ hs, d ≠ p ∧ d ≠ Lo ∧ d ≠ Hi ∧ ∃ o, H' d = some o)) ⟨none, [], [], [], [], rfl, .of_same s03, (hP.same s03).le (by omega), gU3, ⟨gLo, rfl, fun k b r e => by simp at e⟩, ⟨gHi, rfl, fun k b r e => by simp at e⟩, rfl, rfl, (fun k r e => by simp at e), (fun k r e => by simp at e), (fun d hd => nomatch hd), fun d hd => nomatch hd⟩ (fun _ _ _ _ _ => trivial) ?_ ?_
    · rintro i v σ H4 H4' hi ⟨x6, ls, hs, Lm, Hm, rfl, b4, P4, g4U, hL, hH, lL, lH, okL, okH, dL, dH⟩ ⟨rfl, rfl⟩
      refine ⟨_, rfl, .inl ⟨rfl, _, SqL.of hL.top⟩, _, rfl, (n : Int), rfl, by omega, by omega, fun D hD => lc_pen (walk_range (lo := 0) (n := n)) 1 P4 hD (by omega) (fun j v _ => ∃ x : Int, v = .int x ∧ 0 ≤ x ∧ x < M ∧ (j = i → x = 1) ∧ (i < j → x = 0)) (fun j v H H' h _ => h) (fun _ _ => trivial) ?_ ?_⟩
      · rintro j v H5 H5' Fn Nn fin hj b5 P5 hacc ⟨rfl, rfl⟩
        refine ⟨rfl, yesT ⟨_, rfl, _, rfl, _, _, rfl, rfl, _, rfl, ?_⟩⟩
        refine ite2 (fun hd => ?_) (fun hd => ?_)
        · have hd : 0 + (j : Int) < 0 + (i : Int) := of_decide_eq_true hd
          exact ⟨_, rfl, _, rfl, p, c, ns, _, M, rfl, P5, by omega, by omega, by omega, fun d H6 d0 d1 P6 b6 => fin _ _ b6 (P6.le (by omega)) ⟨d, rfl, d0, d1, by omega, by omega⟩⟩
        · have hd : ¬ 0 + (j : Int) < 0 + (i : Int) := fun z => hd (decide_eq_true z)
          refine ⟨_, rfl, _, rfl, rfl, .inr ⟨_, rfl, ?_⟩⟩
          refine fin _ _ (fun _ _ _ e => e) (P5.le (by omega)) ⟨_, rfl, ?_⟩
          by_cases e : j = i
          · subst e
            rw [if_pos (decide_eq_true rfl)]
            exact ⟨by omega, by omega, fun _ => rfl, by omega⟩
          · rw [if_neg (fun z => e (by have z := of_decide_eq_true z; injection z with z; omega))]
            exact ⟨by omega, by omega, fun z => absurd z e, fun _ => rfl⟩
      · intro acc H5 a1 a2 b5 P5 hR
        obtain ⟨r, rfl, hl, hr⟩ := ints_of (R := fun j x => 0 ≤ x ∧ x < M ∧ (j = i → x = 1) ∧ (i < j → x = 0)) a1 hR
        have gd : ∀ {r : Row} {j : Nat}, j < r.length → r[j]? = some (r.getD j 0) := fun {r j} h => by rw [List.getD_eq_getElem?_getD, List.getElem?_eq_getElem h]; rfl
        have gz : ∀ {r : Row} {j : Nat}, r.length ≤ j → r.getD j 0 = 0 := fun {r j} h => by rw [List.getD_eq_getElem?_getD, List.getElem?_eq_none h]; rfl
        have okr : LowR M n i r := ⟨hl, fun x hx => by
            obtain ⟨j, hj, e⟩ := List.mem_iff_getElem.mp hx
            have := hr j x (by rw [List.getElem?_eq_getElem hj, e])
            exact ⟨this.1, this.2.1⟩, (hr i _ (gd (by omega))).2.2.1 rfl, fun j hj => by
            rcases Nat.lt_or_ge j r.length with h | h
            · exact (hr j _ (gd h)).2.2.2 hj
            · exact gz h⟩
        have hop4 := b4
        have hDp : D ≠ p := fun z => by
          obtain ⟨o, ho⟩ := P4.some
          rw [z, ho] at hD
          cases hD
        have hDL : D ≠ Lo := fun z => by rw [z, hL.top] at hD; cases hD
        have hDH : D ≠ Hi := fun z => by rw [z, hH.top] at hD; cases hD
        have hDl : ∀ d ∈ ls, d ≠ D := fun d hd z => by
          obtain ⟨_, _, _, o, ho⟩ := dL d hd
          rw [z, hD] at ho
          cases ho
        have hDh : ∀ d ∈ hs, d ≠ D := fun d hd z => by
          obtain ⟨_, _, _, o, ho⟩ := dH d hd
          rw [z, hD] at ho
          cases ho
        have g5L := b5 _ _ hLp hL.top
        refine ⟨Lo, _, _, rfl, rfl, g5L, ?_, ?_⟩
        · rw [List.length_map, hL.len, lL]
          exact Nat.lt_of_lt_of_le (show i < 21 by omega) (by decide)
        have e6 : ∀ {d : Addr} {o : HO}, d ≠ p → d ≠ Lo → H4' d = some o → (upd H5 Lo (.lst (ls.map V.ref ++ [.ref D]))) d = some o := fun {d o} h1 h2 e => by rw [upd_ne h2]; exact b5 _ _ h1 e
        have hL6 : LMat (upd H5 Lo (.lst (ls.map V.ref ++ [.ref D]))) Lo (Lm ++ [r]) (ls ++ [D]) := hL.pushed upd_same (fun d o hd e => e6 (dL d hd).1 (dL d hd).2.1 e) (by rw [upd_ne hDL]; exact a2)
        have hH6 : LMat (upd H5 Lo (.lst (ls.map V.ref ++ [.ref D]))) Hi Hm hs := hH.keep fun d o hd e => by
          rcases List.mem_cons.mp hd with h | h
          · rw [h] at e ⊢
            exact e6 hHp hLH e
          · exact e6 (dH d h).1 (dH d h).2.1 e
        have P6 := P5.upd (o := .lst (ls.map V.ref ++ [.ref D])) hLp hLc
        have g6U := e6 hUp hUL g4U
        have b6 : But p H (upd H5 Lo (.lst (ls.map V.ref ++ [.ref D]))) := fun d o h1 e => e6 h1 (fun z => by rw [z, hLoH] at e; cases e) (b4 _ _ h1 e)
        have d6L : ∀ d ∈ ls ++ [D], d ≠ p ∧ d ≠ Lo ∧ d ≠ Hi ∧ ∃ o, (upd H5 Lo (.lst (ls.map V.ref ++ [.ref D]))) d = some o := fun d hd => by
          rcases List.mem_append.mp hd with h | h
          · obtain ⟨h1, h2, h3, o, ho⟩ := dL d h
            exact ⟨h1, h2, h3, o, e6 h1 h2 ho⟩
          · rw [List.mem_singleton.mp h]
            exact ⟨hDp, hDL, hDH, _, by rw [upd_ne hDL]; exact a2⟩
        have d6H : ∀ d ∈ hs, d ≠ p ∧ d ≠ Lo ∧ d ≠ Hi ∧ ∃ o, (upd H5 Lo (.lst (ls.map V.ref ++ [.ref D]))) d = some o := fun d h => by
          obtain ⟨h1, h2, h3, o, ho⟩ := dH d h
          exact ⟨h1, h2, h3, o, e6 h1 h2 ho⟩
        generalize upd H5 Lo (.lst (ls.map V.ref ++ [.ref D])) = H6 at e6 hL6 hH6 P6 g6U b6 d6L d6H ⊢
        have okL6 := push_ok lL okL okr
        have lL6 : (Lm ++ [r]).length = i + 1 := by rw [List.length_append, lL]; rfl
        clear e6 hDl hDh hDp hDL hDH g5L a1 a2 b5 P5 hR okr hr hop4 hL hH okL dL dH P4 g4U b4 hD
        generalize Lm ++ [r] = Lm6 at hL6 okL6 lL6
        generalize ls ++ [D] = ls6 at hL6 d6L
        refine ⟨_, rfl, .inl ⟨rfl, _, SqL.of hH6.top⟩, _, rfl, (n : Int), rfl, by omega, by omega, fun D2 hD2 => lc_pen (walk_range (lo := 0) (n := n)) 1 P6 hD2 (by omega) (fun j v _ => ∃ x : Int, v = .int x ∧ 0 ≤ x ∧ x < M ∧ (j ≤ i → x = 0)) (fun j v H H' h _ => h) (fun _ _ => trivial) ?_ ?_⟩
        · rintro j v H7 H7' Fn Nn fin hj b7 P7 hacc ⟨rfl, rfl⟩
          refine ⟨rfl, yesT ⟨_, rfl, _, rfl, _, _, rfl, rfl, _, rfl, ?_⟩⟩
          refine ite2 (fun hd => ?_) (fun hd => ?_)
          · have hd : 0 + (i : Int) < 0 + (j : Int) := of_decide_eq_true hd
            exact ⟨_, rfl, _, rfl, p, c, ns, _, M, rfl, P7, by omega, by omega, by omega, fun d H8 d0 d1 P8 b8 => fin _ _ b8 (P8.le (by omega)) ⟨d, rfl, d0, d1, by omega⟩⟩
          · exact fin _ _ (fun _ _ _ e => e) (P7.le (by omega)) ⟨0, rfl, by omega, by omega, fun _ => rfl⟩
        · intro acc H7 a1 a2 b7 P7 hR
          obtain ⟨r2, rfl, hl2, hr2⟩ := ints_of (R := fun j x => 0 ≤ x ∧ x < M ∧ (j ≤ i → x = 0)) a1 hR
          have hDp : D2 ≠ p := fun z => by
            obtain ⟨o, ho⟩ := P6.some
            rw [z, ho] at hD2
            cases hD2
          have hDc : D2 ≠ c := fun z => by
            obtain ⟨_, _, ho, _⟩ := P6
            rw [z, ho.cells] at hD2
            cases hD2
          have hDL : D2 ≠ Lo := fun z => by rw [z, hL6.top] at hD2; cases hD2
          have hDH : D2 ≠ Hi := fun z => by rw [z, hH6.top] at hD2; cases hD2
          have hDU : D2 ≠ U := fun z => by rw [z, g6U] at hD2; cases hD2
          have hDl : ∀ d ∈ ls6, d ≠ D2 := fun d hd z => by
            obtain ⟨_, _, _, o, ho⟩ := d6L d hd
            rw [z, hD2] at ho
            cases ho
          have hDh : ∀ d ∈ hs, d ≠ D2 := fun d hd z => by
            obtain ⟨_, _, _, o, ho⟩ := d6H d hd
            rw [z, hD2] at ho
            cases ho
          have hDH0 : H D2 = none := by
            cases z : H D2 with
            | none => rfl
            | some o => rw [b6 _ _ hDp z] at hD2; cases hD2
          have g7H := b7 _ _ hHp hH6.top
          refine ⟨Hi, _, _, rfl, rfl, g7H, ?_, ?_⟩
          · rw [List.length_map, hH6.len, lH]
            exact Nat.lt_of_lt_of_le (show i < 21 by omega) (by decide)
          have e8 : ∀ {d : Addr} {o : HO}, d ≠ p → d ≠ Hi → H6 d = some o → (upd H7 Hi (.lst (hs.map V.ref ++ [.ref D2]))) d = some o := fun {d o} h1 h2 e => by rw [upd_ne h2]; exact b7 _ _ h1 e
          have g8H : (upd H7 Hi (.lst (hs.map V.ref ++ [.ref D2]))) Hi = some (.lst (hs.map V.ref ++ [.ref D2])) := upd_same
          have g8D : (upd H7 Hi (.lst (hs.map V.ref ++ [.ref D2]))) D2 = some (.lst (r2.map V.int)) := by rw [upd_ne hDH]; exact a2
          have P8 := P7.upd (o := .lst (hs.map V.ref ++ [.ref D2])) hHp hHc
          generalize upd H7 Hi (.lst (hs.map V.ref ++ [.ref D2])) = H8 at e8 g8H g8D P8 ⊢
          refine ⟨_, rfl, _, rfl, p, c, U, ns, _, us.map V.int, rfl, P8, by omega, e8 hUp hUH g6U, by simpa using hu0, by rw [List.length_map]; omega, fun v H9 hv P9 b9 => ?_⟩
          obtain ⟨u, hu1, rfl⟩ := List.mem_map.mp hv
          obtain ⟨u1, u2, u3⟩ := hu u hu1
          have g9H := b9 _ _ hHp g8H
          have g9D := b9 _ _ hDp g8D
          refine ⟨_, rfl, _, rfl, Hi, _, _, _, rfl, rfl, SqL.of g9H, ?_, _, rfl, D2, r2.map V.int, _, i, rfl, rfl, g9D, ?_, ?_⟩
          · show atI _ (0 + (i : Int)) = _
            rw [Int.zero_add]
            refine atI_nat (v := V.ref D2) ?_
            rw [List.getElem?_append_right (by rw [List.length_map, hH6.len, lH]; exact Nat.le_refl _), List.length_map, hH6.len, lH, Nat.sub_self]
            rfl
          · show ixN _ (0 + (i : Int)) = _
            rw [Int.zero_add]
            exact ix_at (by rw [List.length_map]; omega)
          have e10 : ∀ {d : Addr} {o : HO}, d ≠ p → d ≠ Hi → d ≠ D2 → H6 d = some o → (upd H9 D2 (.lst ((r2.map V.int).set i (.int u)))) d = some o := fun {d o} h1 h2 h3 e => by rw [upd_ne h3]; exact b9 _ _ h1 (e8 h1 h2 e)
          refine ⟨_, ls6, hs ++ [D2], Lm6, Hm ++ [r2.set i u], rfl, fun d o h1 e => e10 h1 (fun z => by rw [z, hHiH] at e; cases e) (fun z => by rw [z, hDH0] at e; cases e) (b6 _ _ h1 e), (P9.upd hDp hDc).le (by omega), e10 hUp hUH (Ne.symm hDU) g6U, hL6.keep fun d o hd e => ?_, hH6.pushed (by rw [upd_ne (Ne.symm hDH)]; exact g9H) (fun d o hd e => e10 (d6H d hd).1 (d6H d hd).2.2.1 (hDh d hd) e) (by rw [upd_same, List.map_set]), lL6, by rw [List.length_append, lH]; rfl, okL6, push_ok lH okH ⟨by rw [List.length_set]; exact hl2, fun x hx => ?_, ?_, fun j hj => ?_⟩, fun d hd => ?_, fun d hd => ?_⟩
          · rcases List.mem_cons.mp hd with h | h
            · rw [h] at e ⊢
              exact e10 hLp (Ne.symm hLH) (Ne.symm hDL) e
            · exact e10 (d6L d h).1 (d6L d h).2.2.1 (hDl d h) e
          · rcases List.mem_or_eq_of_mem_set hx with h | h
            · obtain ⟨j, hj, e⟩ := List.mem_iff_getElem.mp h
              have := hr2 j x (by rw [List.getElem?_eq_getElem hj, e])
              exact ⟨this.1, this.2.1⟩
            · rw [h]
              exact ⟨by omega, u2⟩
          · rw [getD_set (by omega), if_pos rfl]
            exact u3
          · rw [getD_set (by omega), if_neg (by omega)]
            exact (hr2 j _ (gd (by omega))).2.2 (by omega)
          · obtain ⟨h1, h2, h3, o, ho⟩ := d6L d hd
            exact ⟨h1, h2, h3, o, e10 h1 h3 (hDl d hd) ho⟩
          · rcases List.mem_append.mp hd with h | h
            · obtain ⟨h1, h2, h3, o, ho⟩ := d6H d h
              exact ⟨h1, h2, h3, o, e10 h1 h3 (hDh d h) ho⟩
            · rw [List.mem_singleton.mp h]
              exact ⟨hDp, hDL, hDH, _, upd_same⟩
    · rintro σ H4 ⟨x6, ls, hs, Lm, Hm, rfl, b4, P4, g4U, hL, hH, lL, lH, okL, okH, dL, dH⟩
      have rL : ∀ r ∈ Lm, r.length = n ∧ RRed M r := fun r hr => by
        obtain ⟨j, hj, e⟩ := List.mem_iff_getElem.mp hr
        have := okL j r (by rw [List.getElem?_eq_getElem hj, e])
        exact ⟨this.1, this.2.1⟩
      have rH : ∀ r ∈ Hm, r.length = n ∧ RRed M r := fun r hr => by
        obtain ⟨j, hj, e⟩ := List.mem_iff_getElem.mp hr
        have := okH j r (by rw [List.getElem?_eq_getElem hj, e])
        exact ⟨this.1, this.2.1⟩
      refine ⟨_, rfl, _, rfl, _, rfl, M, Lo, Hi, Lm, Hm, ls, hs, n, n, rfl, by omega, by omega, hL, hH, by omega, lH, hn, by omega, by omega, fun r hr => (rL r hr).1, fun r hr => (rH r hr).1, fun r hr => (rL r hr).2, fun r hr => (rH r hr).2, fun D ds H5 s5 hD hN => ?_⟩
      have nb : ∀ {d : Addr}, H4 d = none → H d = none := fun {d} e => by
        cases z : H d with
        | none => rfl
        | some o =>
          by_cases hp : d = p
          · obtain ⟨o', ho⟩ := P4.some
            rw [hp, ho] at e
            cases e
          · rw [b4 _ _ hp z] at e
            cases e
      refine k D ds H5 _ (fun d o h1 e => s5 _ _ (b4 _ _ h1 e)) ((P4.same s5).le ?_) hD ⟨nb hN.1, fun d hd => nb (hN.2.1 d hd), hN.2.2⟩ ⟨by simp [prodL, lL], fun r hr => ?_⟩ (fun r hr x hx => ?_) ⟨Lm, Hm, lL, lH, okL, okH, rfl⟩
      · have : 41 * n ≤ 41 * 20 := Nat.mul_le_mul_left _ hn2
        omega
      · obtain ⟨r0, _, rfl⟩ := List.mem_map.mp hr
        simp
      · obtain ⟨r0, _, rfl⟩ := List.mem_map.mp hr
        obtain ⟨j, _, rfl⟩ := List.mem_map.mp hx
        exact emod_at (by omega)
end
end Wk

/-! matrices that can be undone, by steps; flat ones -/
namespace Wk
def Inv2 (M : Int) (n : Nat) (A : Fm) : Prop := ∃ C : Fm, EqF M n (mulF n C A) oneF ∧ EqF M n (mulF n A C) oneF
theorem Inv2.congr {M : Int} {n : Nat} {A B : Fm} (h : Inv2 M n A) (e : EqF M n B A) : Inv2 M n B := by
  obtain ⟨C, a, b⟩ := h
  exact ⟨C, ((EqF.refl _ _ _).mul e).trans a, (e.mul (.refl _ _ _)).trans b⟩
theorem Inv2.one (M : Int) (n : Nat) : Inv2 M n oneF := ⟨oneF, one_mulF n _, one_mulF n _⟩
theorem Inv2.mul {M : Int} {n : Nat} {E E' A : Fm} (h : Inv2 M n A) (h1 : EqF M n (mulF n E E') oneF) (h2 : EqF M n (mulF n E' E) oneF) : Inv2 M n (mulF n E A) := by
  obtain ⟨C, a, b⟩ := h
  refine ⟨mulF n C E', ?_, ?_⟩
  · rw [mulF_assoc, ← mulF_assoc n E' E A]
    exact ((EqF.refl _ _ _).mul ((h2.mul (.refl _ _ _)).trans (one_mulF n A))).trans a
  · rw [mulF_assoc, ← mulF_assoc n A C E']
    exact ((EqF.refl _ _ _).mul ((b.mul (.refl _ _ _)).trans (one_mulF n E'))).trans h1
/-- one row plus t times another -/
def addE (x y : Nat) (t : Int) : Fm := fun i j => oneF i j + if i = x then (if j = y then t else 0) else 0
theorem addE_mul {n x y : Nat} {t : Int} (hy : y < n) (A : Fm) (i j : Nat) (hi : i < n) : mulF n (addE x y t) A i j = A i j + if i = x then t * A y j else 0 := by
  show sumN n (fun k => addE x y t i k * A k j) = _
  have e : ∀ k, addE x y t i k * A k j = (if k = i then A i j else 0) + (if k = y then (if i = x then t * A y j else 0) else 0) := fun k => by
    show ((if i = k then (1 : Int) else 0) + if i = x then (if k = y then t else 0) else 0) * A k j = _
    by_cases h1 : k = i
    · subst h1
      rw [if_pos rfl, if_pos rfl]
      by_cases h2 : k = x
      · rw [if_pos h2, if_pos h2]
        by_cases h3 : k = y
        · rw [if_pos h3, if_pos h3, ← h3]; grind
        · rw [if_neg h3, if_neg h3]; grind
      · rw [if_neg h2, if_neg h2]
        split <;> grind
    · rw [if_neg (fun z => h1 z.symm), if_neg h1]
      by_cases h2 : i = x
      · rw [if_pos h2, if_pos h2]
        by_cases h3 : k = y
        · rw [if_pos h3, if_pos h3, ← h3]; grind
        · rw [if_neg h3, if_neg h3]; grind
      · rw [if_neg h2, if_neg h2]
        split <;> grind
  rw [sumN_congr fun k _ => e k, sumN_add, sumN_one hi, sumN_one hy]
theorem addE_inv {M : Int} {n x y : Nat} {t : Int} (hy : y < n) (h : x ≠ y) : EqF M n (mulF n (addE x y t) (addE x y (-t))) oneF := fun i j hi hj => by
  rw [addE_mul hy _ i j hi]
  refine .eq ?_
  show (oneF i j + if i = x then (if j = y then -t else 0) else 0) + (if i = x then t * (oneF y j + if y = x then (if j = y then -t else 0) else 0) else 0) = oneF i j
  rw [if_neg (fun z : y = x => h z.symm)]
  by_cases h1 : i = x
  · rw [if_pos h1, if_pos h1]
    show oneF i j + (if j = y then -t else 0) + t * ((if y = j then (1 : Int) else 0) + 0) = _
    by_cases h2 : j = y
    · rw [if_pos h2, if_pos h2.symm]; grind
    · rw [if_neg h2, if_neg (fun z => h2 z.symm)]; grind
  · rw [if_neg h1, if_neg h1]; grind
/-- one row times u -/
def mulE (x : Nat) (u : Int) : Fm := fun i j => if i = j then (if i = x then u else 1) else 0
theorem mulE_mul {n x : Nat} {u : Int} (A : Fm) (i j : Nat) (hi : i < n) : mulF n (mulE x u) A i j = (if i = x then u else 1) * A i j := by
  show sumN n (fun k => mulE x u i k * A k j) = _
  have e : ∀ k, mulE x u i k * A k j = if k = i then (if i = x then u else 1) * A i j else 0 := fun k => by
    show (if i = k then (if i = x then u else 1) else 0) * A k j = _
    by_cases h1 : k = i
    · subst h1; rw [if_pos rfl, if_pos rfl]
    · rw [if_neg (fun z => h1 z.symm), if_neg h1]; simp
  rw [sumN_congr fun k _ => e k, sumN_one hi]
theorem mulE_inv {M : Int} {n x : Nat} {u v : Int} (h : Eqm M (u * v) 1) : EqF M n (mulF n (mulE x u) (mulE x v)) oneF := fun i j hi hj => by
  rw [mulE_mul _ i j hi]
  show Eqm M ((if i = x then u else 1) * if i = j then (if i = x then v else 1) else 0) (if i = j then 1 else 0)
  by_cases h1 : i = j
  · rw [if_pos h1, if_pos h1]
    by_cases h2 : i = x
    · rw [if_pos h2, if_pos h2]; exact h
    · rw [if_neg h2, if_neg h2]; exact .eq (by simp)
  · rw [if_neg h1, if_neg h1]; exact .eq (by simp)
theorem bez_ex : ∀ (b a : Nat), ∃ x y : Int, x * a + y * b = (Nat.gcd a b : Int) := by
  intro b
  induction b using Nat.strongRecOn with
  | ind b ih =>
    intro a
    by_cases h : b = 0
    · subst h
      exact ⟨1, 0, by simp⟩
    · obtain ⟨x, y, e⟩ := ih (a % b) (Nat.mod_lt _ (by omega)) b
      refine ⟨y, x - y * (a / b : Nat), ?_⟩
      have e2 : Nat.gcd b (a % b) = Nat.gcd a b := by
        rw [Nat.gcd_comm a b, Nat.gcd_rec b a, Nat.gcd_comm]
      rw [e2] at e
      rw [← e]
      have e3 : (a : Int) = b * (a / b : Nat) + (a % b : Nat) := by
        have := Nat.div_add_mod a b
        omega
      generalize ((a / b : Nat) : Int) = q at *
      generalize ((a % b : Nat) : Int) = r at *
      rw [e3]
      grind
theorem unit_inv {M u : Int} (hM : 1 ≤ M) (hu : 0 ≤ u) (h : Int.gcd u M = 1) : ∃ v, Eqm M (u * v) 1 := by
  obtain ⟨x, y, e⟩ := bez_ex M.toNat u.toNat
  have h1 : Nat.gcd u.toNat M.toNat = 1 := by
    rw [← h]
    show _ = Nat.gcd u.natAbs M.natAbs
    congr 1 <;> omega
  rw [h1] at e
  have h2 : ((u.toNat : Nat) : Int) = u := by omega
  have h3 : ((M.toNat : Nat) : Int) = M := by omega
  rw [h2, h3] at e
  exact ⟨x, -y, by grind⟩
/-- a matrix whose row x is made of all rows, itself d times or more: it cannot be undone -/
theorem flat_none {M d : Int} (hM : 2 ≤ M) {n x : Nat} {A A' : Fm} {o : Nat → Int} (hx : x < n) (I : Inv2 M n A) (hd : 2 ≤ d) (hdM : d ∣ M) (ho : d ∣ o x)
    (e : ∀ i j, i < n → j < n → Eqm M (A' i j) (if i = x then sumN n (fun k => o k * A k j) else A i j)) : ¬ ∃ B : Fm, EqF M n (mulF n B A') oneF := by
  rintro ⟨B, hB⟩
  obtain ⟨C, h1, h2⟩ := I
  have eF : EqF M n A' (mulF n (fun i j => if i = x then o j else oneF i j) A) := fun i j hi hj => by
    refine (e i j hi hj).trans (.eq ?_)
    show _ = sumN n (fun k => (if i = x then o k else oneF i k) * A k j)
    by_cases h : i = x
    · rw [if_pos h]
      exact sumN_congr fun k _ => by rw [if_pos h]
    · rw [if_neg h, sumN_congr (g := fun k => if k = i then A i j else 0) fun k _ => ?_, sumN_one hi]
      rw [if_neg h]
      show (if i = k then (1 : Int) else 0) * A k j = _
      by_cases z : k = i
      · subst z; rw [if_pos rfl, if_pos rfl]; simp
      · rw [if_neg (fun y => z y.symm), if_neg z]; simp
  have hBF : EqF M n (mulF n B (fun i j => if i = x then o j else oneF i j)) C := by
    have a1 : EqF M n (mulF n (mulF n B (fun i j => if i = x then o j else oneF i j)) A) oneF := by
      rw [mulF_assoc]
      exact ((EqF.refl _ _ _).mul eF.symm).trans hB
    refine (mulF_one n _).symm.trans (((EqF.refl _ _ _).mul h2.symm).trans ?_)
    rw [← mulF_assoc]
    exact (a1.mul (.refl _ _ _)).trans (one_mulF n C)
  obtain ⟨m, hm⟩ := hdM
  obtain ⟨q, hq⟩ := ho
  have col : ∀ i, i < n → Eqm d (C i x) 0 := fun i hi => by
    have a1 := (hBF i x hi hx).symm
    have a2 : mulF n B (fun i j => if i = x then o j else oneF i j) i x = B i x * o x := by
      show sumN n (fun k => B i k * if k = x then o x else oneF k x) = _
      rw [sumN_congr (g := fun k => if k = x then B i x * o x else 0) fun k _ => ?_, sumN_one hx]
      by_cases z : k = x
      · rw [if_pos z, if_pos z, z]
      · rw [if_neg z, if_neg z]
        show B i k * (if k = x then (1 : Int) else 0) = 0
        rw [if_neg z]; simp
    rw [a2] at a1
    obtain ⟨k, e1⟩ := a1
    exact ⟨B i x * q + m * k, by rw [e1, hq, hm]; grind⟩
  have one := h2 x x hx hx
  have a3 : Eqm d (mulF n A C x x) 0 := by
    have : Eqm d (sumN n fun k => A x k * C k x) (sumN n fun _ => 0) := Eqm.sum fun k hk => ((Eqm.refl d (A x k)).mul (col k hk)).trans (.eq (by simp))
    rw [sumN_zero] at this
    exact this
  have e1 : oneF x x = 1 := by
    show (if x = x then (1 : Int) else 0) = 1
    rw [if_pos rfl]
  rw [e1] at one
  obtain ⟨k, e2⟩ := one
  obtain ⟨l, e3⟩ := a3
  have : d ∣ 1 := ⟨l - m * k, by rw [hm] at e2; grind⟩
  have := Int.le_of_dvd (by decide) this
  omega
theorem zero_none {M : Int} (hM : 2 ≤ M) {n : Nat} (hn : 1 ≤ n) {A : Fm} (e : ∀ i j, i < n → j < n → A i j = 0) : ¬ ∃ B : Fm, EqF M n (mulF n B A) oneF := by
  rintro ⟨B, hB⟩
  have h := hB 0 0 (by omega) (by omega)
  have a : mulF n B A 0 0 = 0 := by
    show sumN n (fun k => B 0 k * A k 0) = 0
    rw [sumN_congr (g := fun _ => 0) fun k hk => by rw [e k 0 hk (by omega)]; simp, sumN_zero]
  rw [a] at h
  obtain ⟨k, h⟩ := h
  have h : 0 = 1 + M * k := h
  have : M ∣ 1 := ⟨-k, by grind⟩
  have := Int.le_of_dvd (by decide) this
  omega
/-- what is left of an inverse is right of it, too, and the only one -/
theorem inv_right {M : Int} {n : Nat} {A B : Fm} (I : Inv2 M n A) (h : EqF M n (mulF n B A) oneF) : EqF M n (mulF n A B) oneF := by
  obtain ⟨C, h1, h2⟩ := I
  have e : EqF M n B C := by
    refine (mulF_one n B).symm.trans (((EqF.refl _ _ _).mul h2.symm).trans ?_)
    rw [← mulF_assoc]
    exact (h.mul (.refl _ _ _)).trans (one_mulF n C)
  exact ((EqF.refl _ _ _).mul e).trans h2
theorem inv_unique {M : Int} {n : Nat} {A B D : Fm} (I : Inv2 M n A) (h : EqF M n (mulF n B A) oneF) (g : EqF M n (mulF n D A) oneF) : EqF M n B D := by
  obtain ⟨C, h1, h2⟩ := I
  have e : ∀ {X : Fm}, EqF M n (mulF n X A) oneF → EqF M n X C := fun {X} hX => by
    refine (mulF_one n X).symm.trans (((EqF.refl _ _ _).mul h2.symm).trans ?_)
    rw [← mulF_assoc]
    exact (hX.mul (.refl _ _ _)).trans (one_mulF n C)
  exact (e h).trans (e g).symm
end Wk

/-! triangular matrices with units on the diagonal can be undone -/
namespace Wk
open PySem L2
def Cmb (M : Int) (n : Nat) (F : Fm) (v : Nat → Int) : Prop := ∃ b : Nat → Int, ∀ j, j < n → Eqm M (sumN n fun k => b k * F k j) (v j)
theorem Cmb.lin {M : Int} {n : Nat} {F : Fm} {f g : Nat → Int} (s t : Int) (hf : Cmb M n F f) (hg : Cmb M n F g) : Cmb M n F fun j => s * f j + t * g j := by
  obtain ⟨b, hb⟩ := hf
  obtain ⟨c, hc⟩ := hg
  refine ⟨fun k => s * b k + t * c k, fun j hj => ?_⟩
  have e : (sumN n fun k => (s * b k + t * c k) * F k j) = s * (sumN n fun k => b k * F k j) + t * sumN n fun k => c k * F k j := by
    rw [← sumN_mul, ← sumN_mul, ← sumN_add]
    exact sumN_congr fun k _ => by grind
  rw [e]
  exact ((Eqm.refl M s).mul (hb j hj)).add ((Eqm.refl M t).mul (hc j hj))
theorem Cmb.congr {M : Int} {n : Nat} {F : Fm} {f g : Nat → Int} (hf : Cmb M n F f) (h : ∀ j, j < n → Eqm M (f j) (g j)) : Cmb M n F g := by
  obtain ⟨b, hb⟩ := hf
  exact ⟨b, fun j hj => (hb j hj).trans (h j hj)⟩
theorem Cmb.row {M : Int} {n : Nat} {F : Fm} {i : Nat} (hi : i < n) : Cmb M n F (F i) := ⟨oneF i, fun j hj => by
  refine Eqm.eq ?_
  rw [← sumN_one hi (F i j)]
  refine sumN_congr fun k _ => ?_
  unfold oneF
  by_cases e : i = k
  · subst e
    simp
  · rw [if_neg e, if_neg (fun z => e z.symm), Int.zero_mul]⟩
theorem elim1 {M : Int} {n : Nat} {F : Fm} {i : Nat} (hi : i < n) (h : ∀ j, j < n → j ≠ i → Cmb M n F (oneF j) ∨ Eqm M (F i j) 0) {v : Int} (hv : Eqm M (v * F i i) 1) : Cmb M n F (oneF i) := by
  have key : ∀ m, m ≤ n → Cmb M n F fun j => if j < m ∧ j ≠ i then 0 else F i j := by
    intro m
    induction m with
    | zero => exact fun _ => (Cmb.row hi).congr fun j _ => Eqm.eq (by simp)
    | succ m ih =>
      intro hm
      have ih := ih (by omega)
      by_cases e : m = i
      · refine ih.congr fun j _ => Eqm.eq ?_
        by_cases c : j < m ∧ j ≠ i
        · rw [if_pos c, if_pos ⟨by omega, c.2⟩]
        · rw [if_neg c, if_neg (fun z => c ⟨by omega, z.2⟩)]
      · rcases h m (by omega) e with hc | hz
        · refine (ih.lin 1 (-(F i m)) hc).congr fun j _ => Eqm.eq ?_
          unfold oneF
          by_cases c : j = m
          · subst c
            rw [if_neg (by omega), if_pos rfl, if_pos ⟨by omega, e⟩]
            omega
          · have e0 : (if m = j then (1 : Int) else 0) = 0 := if_neg (fun z => c z.symm)
            rw [e0]
            by_cases c2 : j < m ∧ j ≠ i
            · rw [if_pos c2, if_pos ⟨by omega, c2.2⟩]
              omega
            · rw [if_neg c2, if_neg (fun z => c2 ⟨by omega, z.2⟩)]
              omega
        · refine ih.congr fun j _ => ?_
          by_cases c : j = m
          · subst c
            rw [if_neg (by omega), if_pos ⟨by omega, e⟩]
            exact hz
          · refine Eqm.eq ?_
            by_cases c2 : j < m ∧ j ≠ i
            · rw [if_pos c2, if_pos ⟨by omega, c2.2⟩]
            · rw [if_neg c2, if_neg (fun z => c2 ⟨by omega, z.2⟩)]
  have last := key n (Nat.le_refl _)
  refine (last.lin v 0 last).congr fun j hj => ?_
  unfold oneF
  by_cases c : i = j
  · subst c
    rw [if_neg (fun z => z.2 rfl), if_pos rfl]
    refine (Eqm.eq ?_).trans hv
    omega
  · rw [if_pos ⟨hj, fun z => c z.symm⟩, if_neg c]
    exact Eqm.eq (by omega)
theorem inv_of_cmb {M : Int} {n : Nat} {F : Fm} (h : ∀ i, i < n → Cmb M n F (oneF i)) : ∃ B : Fm, EqF M n (mulF n B F) oneF := by
  have h2 : ∀ i, ∃ b : Nat → Int, i < n → ∀ j, j < n → Eqm M (sumN n fun k => b k * F k j) (oneF i j) := fun i => by
    by_cases hi : i < n
    · obtain ⟨b, hb⟩ := h i hi
      exact ⟨b, fun _ => hb⟩
    · exact ⟨fun _ => 0, fun z => absurd z hi⟩
  exact ⟨fun i => Classical.choose (h2 i), fun i j hi hj => Classical.choose_spec (h2 i) hi j hj⟩
theorem tri_low {M : Int} {n : Nat} {F : Fm} (hd : ∀ i, i < n → ∃ v, Eqm M (v * F i i) 1) (hz : ∀ i j, i < n → j < n → i < j → Eqm M (F i j) 0) : ∃ B : Fm, EqF M n (mulF n B F) oneF := by
  refine inv_of_cmb fun i => ?_
  induction i using Nat.strongRecOn with
  | _ i ih =>
    intro hi
    obtain ⟨v, hv⟩ := hd i hi
    refine elim1 hi (fun j hj hne => ?_) hv
    rcases Nat.lt_or_ge j i with h | h
    · exact .inl (ih j h hj)
    · exact .inr (hz i j hi hj (by omega))
theorem tri_up {M : Int} {n : Nat} {F : Fm} (hd : ∀ i, i < n → ∃ v, Eqm M (v * F i i) 1) (hz : ∀ i j, i < n → j < n → j < i → Eqm M (F i j) 0) : ∃ B : Fm, EqF M n (mulF n B F) oneF := by
  refine inv_of_cmb ?_
  have key : ∀ m i, i < n → n - i ≤ m → Cmb M n F (oneF i) := by
    intro m
    induction m with
    | zero => exact fun i hi h => absurd h (by omega)
    | succ m ih =>
      intro i hi h
      obtain ⟨v, hv⟩ := hd i hi
      refine elim1 hi (fun j hj hne => ?_) hv
      rcases Nat.lt_or_ge j i with h2 | h2
      · exact .inr (hz i j hi hj h2)
      · exact .inl (ih j hj (by omega))
  exact fun i hi => key n i hi (by omega)
theorem linv_prod {M : Int} (hM : 2 ≤ M) {n : Nat} {Lo Hi : Mat} (lL : Lo.length = n) (lH : Hi.length = n) (okL : ∀ i r, Lo[i]? = some r → LowR M n i r) (okH : ∀ i r, Hi[i]? = some r → HighR M n i r) : LInv M n (prodL M n n Lo Hi) := by
  have gL : ∀ i, i < n → ∃ r, Lo[i]? = some r ∧ LowR M n i r := fun i hi => ⟨Lo[i]'(by omega), List.getElem?_eq_getElem _, okL i _ (List.getElem?_eq_getElem _)⟩
  have gH : ∀ i, i < n → ∃ r, Hi[i]? = some r ∧ HighR M n i r := fun i hi => ⟨Hi[i]'(by omega), List.getElem?_eq_getElem _, okH i _ (List.getElem?_eq_getElem _)⟩
  obtain ⟨BL, hBL⟩ := tri_low (M := M) (n := n) (F := ent Lo) (fun i hi => by
    obtain ⟨r, e, h⟩ := gL i hi
    exact ⟨1, Eqm.eq (by rw [ent_at e, h.2.2.1]; rfl)⟩) fun i j hi hj hij => by
    obtain ⟨r, e, h⟩ := gL i hi
    exact Eqm.eq (by rw [ent_at e, h.2.2.2 j hij])
  obtain ⟨BH, hBH⟩ := tri_up (M := M) (n := n) (F := ent Hi) (fun i hi => by
    obtain ⟨r, e, h⟩ := gH i hi
    have hr : r.getD i 0 ∈ r := by
      rw [List.getD_eq_getElem?_getD, List.getElem?_eq_getElem (by rw [h.1]; exact hi)]
      exact List.getElem_mem _
    obtain ⟨v, hv⟩ := unit_inv (M := M) (by omega) (h.2.1 _ hr).1 h.2.2.1
    refine ⟨v, ?_⟩
    rw [ent_at e, Int.mul_comm]
    exact hv) fun i j hi hj hij => by
    obtain ⟨r, e, h⟩ := gH i hi
    exact Eqm.eq (by rw [ent_at e, h.2.2.2 j hij])
  have eP : EqF M n (ent (prodL M n n Lo Hi)) (mulF n (ent Lo) (ent Hi)) := fun i j hi hj => by
    obtain ⟨r, e, h⟩ := gL i hi
    have e1 : (prodL M n n Lo Hi)[i]? = some ((List.range n).map fun j => (sumN n fun k => r.getD k 0 * (Hi.getD k []).getD j 0) % M) := by
      unfold prodL
      rw [List.getElem?_map, e]
      rfl
    rw [ent_at e1, List.getD_eq_getElem?_getD, List.getElem?_map, List.getElem?_range hj]
    refine (Eqm.mod M _).trans (Eqm.eq (sumN_congr fun k _ => ?_))
    rw [ent_at e]
    rfl
  refine ⟨mulF n BH BL, ?_⟩
  refine ((EqF.refl M n (mulF n BH BL)).mul eP).trans ?_
  rw [mulF_assoc, ← mulF_assoc n BL]
  exact ((EqF.refl M n BH).mul ((hBL.mul (EqF.refl M n (ent Hi))).trans (one_mulF n _))).trans hBH
end Wk

namespace Wk
open PySem L2
abbrev s_law_fields : Stmt := top 67
theorem sc_law_fields : FnScope ["_law_pen_here", "_law_modulus_here", "_law_size", "_law_width", "_law_matrix", "_law_columns", "_law_row_here"] ["_law_pen_here", "_law_modulus_here", "_law_size", "_law_width"] (defScope s_law_fields) := ⟨rfl, rfl, rfl, by decide +kernel, rfl, by decide +kernel, by decide +kernel⟩
abbrev s_law_any_fields : Stmt := top 68
theorem sc_law_any_fields : FnScope ["_law_pen_here", "_law_modulus_here", "_law_size"] ["_law_pen_here"] (defScope s_law_any_fields) := ⟨rfl, rfl, rfl, by decide +kernel, rfl, by decide +kernel, by decide +kernel⟩

/-! the law's own fields of a guard, as lists -/
structure Fl where
  f : Addr
  aM : Addr
  aC : Addr
  aS : Addr
  aE : Addr
  ms : List Addr
  cs : List Addr
def Fl.all (L : Fl) : List Addr := L.f :: L.aM :: L.aC :: L.aS :: L.aE :: (L.ms ++ L.cs)
structure FldAt (H : Hp) (L : Fl) (D : GD) : Prop where
  top : H L.f = some (.lst [.int D.M, .ref L.aM, .ref L.aC, .ref L.aS, .ref L.aE])
  mat : LMat H L.aM D.A L.ms
  col : LMat H L.aC D.G L.cs
  st : H L.aS = some (.lst (D.st.map V.int))
  en : H L.aE = some (.lst (D.en.map V.int))
theorem FldAt.keep {H H' : Hp} {L : Fl} {D : GD} (h : FldAt H L D) (e : ∀ b o, b ∈ L.all → H b = some o → H' b = some o) : FldAt H' L D where
  top := e _ _ (by simp [Fl.all]) h.top
  mat := h.mat.keep fun b o hb q => e b o (by
    rcases List.mem_cons.mp hb with z | z
    · simp [Fl.all, z]
    · simp [Fl.all, z]) q
  col := h.col.keep fun b o hb q => e b o (by
    rcases List.mem_cons.mp hb with z | z
    · simp [Fl.all, z]
    · simp [Fl.all, z]) q
  st := e _ _ (by simp [Fl.all]) h.st
  en := e _ _ (by simp [Fl.all]) h.en
theorem FldAt.same {H H' : Hp} {L : Fl} {D : GD} (h : FldAt H L D) (e : Same H H') : FldAt H' L D := h.keep fun b o _ q => e b o q
/-- a list whose items are lists of ints -/
theorem lmat_of {H : Hp} : ∀ {acc : List V} {R : Nat → Addr → Row → Prop}, (∀ (j : Nat) (v : V), acc[j]? = some v → ∃ b r, v = .ref b ∧ H b = some (.lst (r.map V.int)) ∧ R j b r) →
    ∃ (bs : List Addr) (A : Mat), acc = bs.map V.ref ∧ bs.length = A.length ∧ A.length = acc.length ∧ (∀ (k : Nat) (b : Addr) (r : Row), bs[k]? = some b → A[k]? = some r → H b = some (.lst (r.map V.int)) ∧ R k b r)
  | [], R, _ => ⟨[], [], rfl, rfl, rfl, fun k b r e => by simp at e⟩
  | v :: acc, R, h => by
    obtain ⟨b, r, rfl, h1, h2⟩ := h 0 v rfl
    obtain ⟨bs, A, rfl, e2, e3, e4⟩ := lmat_of (acc := acc) (R := fun j => R (j + 1)) fun j v e => h (j + 1) v e
    refine ⟨b :: bs, r :: A, rfl, by simp [e2], by simp [e3], fun k b' r' g1 g2 => ?_⟩
    cases k with
    | zero => cases g1; cases g2; exact ⟨h1, h2⟩
    | succ k => exact e4 k b' r' g1 g2
def spFields : Sp := fun vs H Q _ => ∃ (p c : Addr) (ns : List Int) (m : Nat) (M : Int) (n w : Nat), vs = [.ref p, .int M, .int (n : Int), .int (w : Int)] ∧ Pen H p c ns m ∧ m < 60000 ∧ 2 ≤ M ∧ M ≤ 1000 ∧ 1 ≤ n ∧ n ≤ 16 ∧ 1 ≤ w ∧ w ≤ 16 ∧
  ∀ (L : Fl) (D : GD) (H' : Hp), But p H H' → Pen H' p c ns (m + 1500) → FldAt H' L D → GOk D → D.M = M → D.n = n → D.w = w → (∀ b ∈ L.all, H b = none) → Q (.ref L.f) H'
def spAny : Sp := fun vs H Q _ => ∃ (p c : Addr) (ns : List Int) (m : Nat), vs = [.ref p] ∧ Pen H p c ns m ∧ m < 50000 ∧
  ∀ (L : Fl) (D : GD) (H' : Hp), But p H H' → Pen H' p c ns (m + 1510) → FldAt H' L D → GOk D → D.M ≤ 12 → D.n ≤ 3 → D.w ≤ 3 → (∀ b ∈ L.all, H b = none) → Q (.ref L.f) H'
section
variable {P : Program} {w0 : World} {K : PySem.W.Frag} {mg : Str → Option Value} {base : Heap}
theorem ok_fields {f fU fR : Addr} {fd fdU fdR : FuncData} (F : Fun K "_law_fields" "_law_fields" s_law_fields f fd) (T : TxtL mg)
    (G__law_undone : FnOk P w0 K mg base CX0 3 fU fdU ["_law_pen_here", "_law_modulus_here", "_law_size"] spLUnd) (g__law_undone : mg "_law_undone" = some (.ref fU)) (kp__law_undone : PySem.W.keepIn K (.ref fU) = true) (b__law_undone : Binds K fdU ["_law_pen_here", "_law_modulus_here", "_law_size"] [])
    (G__law_row : FnOk P w0 K mg base CX0 2 fR fdR ["_law_pen_here", "_law_modulus_here", "_law_size"] spRow) (g__law_row : mg "_law_row" = some (.ref fR)) (kp__law_row : PySem.W.keepIn K (.ref fR) = true) (b__law_row : Binds K fdR ["_law_pen_here", "_law_modulus_here", "_law_size"] []) :
    FnOk P w0 K mg base CX0 4 f fd ["_law_pen_here", "_law_modulus_here", "_law_size", "_law_width"] spFields := by
  refine F.ok sc_law_fields (fun vs H Q E h => ?_) (fun cdv A outer s H vs Q E hr h => ?_)
  · obtain ⟨p, c, ns, m, M, n, w, rfl, _⟩ := h
    rfl
  · obtain ⟨p, c, ns, m, M, n, w, rfl, hP, hm, hM, hM2, n1, n2, w1, w2, k⟩ := h
    refine ⟨_, (pss_cons (ps_par (i := 4) (j := 5) rfl sc_law_fields.nd rfl rfl (by decide) rfl rfl (pa_cons (pe_call G__law_undone (hr.mono (by decide)) rfl g__law_undone kp__law_undone b__law_undone .nil pass0 (pa_cons (pv 0) (pa_cons (pv 1) (pa_cons (pv 2) pa_nil)))) (pa_cons (pe_lc (own := [("_law_row_here", 6)]) (g := gName 6) rfl sc_law_fields.nd (pi_range1 rfl T.f_range (pa_cons (pv 2) pa_nil)) (blkOk_by (N := ["_law_pen_here", "_law_modulus_here", "_law_size", "_law_width", "_law_matrix", "_law_columns", "_law_row_here"]) (sc := defScope s_law_fields) (by decide +kernel)) (fun _ _ _ _ _ => (pg_name (i := 6) sc_law_fields.nd rfl (Or.inl rfl))) (fun _ _ _ _ _ => pts_nil) (fun _ _ _ _ _ => (pe_call G__law_row (hr.mono (by decide)) rfl g__law_row kp__law_row b__law_row .nil pass0 (pa_cons (pv 0) (pa_cons (pv 1) (pa_cons (pv 3) pa_nil)))))) pa_nil)) (by rfl))
        (pss_one (ps_ret (pe_lst (pa_cons (pv 1) (pa_cons (pv 4) (pa_cons (pv 5) (pa_cons (pe_call G__law_row (hr.mono (by decide)) rfl g__law_row kp__law_row b__law_row .nil pass0 (pa_cons (pv 0) (pa_cons (pv 1) (pa_cons (pv 2) pa_nil)))) (pa_cons (pe_call G__law_row (hr.mono (by decide)) rfl g__law_row kp__law_row b__law_row .nil pass0 (pa_cons (pv 0) (pa_cons (pv 1) (pa_cons (pv 2) pa_nil)))) pa_nil))))))))), ?_⟩
    -- _law_pen_here=0 _law_modulus_here=1 _law_size=2 _law_width=3 _law_matrix=4 _law_columns=5 _law_row_here=6
    obtain ⟨op, hop⟩ := hP.some
    have nep : ∀ {d : Addr}, H d = none → d ≠ p := fun {d} e z => by rw [z, hop] at e; cases e
    refine ⟨_, rfl, _, rfl, _, rfl, p, c, ns, m, M, n, rfl, hP, by omega, hM, hM2, n1, by omega, fun DM ms H1 A b1 P1 hA nA sA rA ⟨Lo, Hi, lL, lH, okL, okH, eA⟩ => ?_⟩
    have hinv : LInv M n A := by
      rw [eA]
      exact linv_prod hM lL lH okL okH
    have bk : ∀ {H' : Hp} {d : Addr}, But p H H' → Pen H' p c ns 99999 → H' d = none → H d = none := fun {H' d} b P e => by
      cases z : H d with
      | none => rfl
      | some o =>
        by_cases hp : d = p
        · obtain ⟨o', ho⟩ := P.some
          rw [hp, ho] at e
          cases e
        · rw [b _ _ hp z] at e
          cases e
    refine ⟨_, rfl, (n : Int), rfl, by omega, by omega, fun DC hDC => lc_pen (walk_range (lo := 0) (n := n)) w P1 hDC (by omega) (fun j v H' => ∃ (b : Addr) (r : Row), v = .ref b ∧ H' b = some (.lst (r.map V.int)) ∧ b ≠ DC ∧ b ≠ p ∧ H b = none ∧ r.length = w ∧ RRed M r) (fun j v H' H2 h e => ?_) (fun _ _ => trivial) ?_ ?_⟩
    · obtain ⟨b, r, h1, h2, h3, h4, h5⟩ := h
      exact ⟨b, r, h1, e _ _ h3 h4 h2, h3, h4, h5⟩
    · rintro j v H3 H3' Fn Nn fin hj b3 P3 hacc ⟨rfl, rfl⟩
      refine ⟨rfl, yesT ⟨_, rfl, _, rfl, _, rfl, p, c, ns, _, M, w, rfl, P3, ?_, by omega, by omega, by omega, fun Dr r H4 b4 P4 nD gD hl hr => fin _ _ b4 (P4.le (by rw [Nat.mul_succ]; omega)) ⟨Dr, r, rfl, gD, ?_, ?_, ?_, hl, hr⟩⟩⟩
      · have : w * j ≤ 16 * 16 := Nat.mul_le_mul w2 (by omega)
        omega
      · intro z
        obtain ⟨acc, ha⟩ := hacc
        rw [z, ha] at nD
        cases nD
      · intro z
        obtain ⟨o, ho⟩ := P3.some
        rw [z, ho] at nD
        cases nD
      · exact bk (fun d o hd e => b3 _ _ hd (b1 _ _ hd e)) (P3.le (by have : w * j ≤ 16 * 16 := Nat.mul_le_mul w2 (by omega); omega)) nD
    · intro acc H3 a1 a2 b3 P3 hR
      obtain ⟨cs, G, rfl, c1, c2, c3⟩ := lmat_of (R := fun j b r => b ≠ DC ∧ b ≠ p ∧ H b = none ∧ r.length = w ∧ RRed M r) fun j v e => by
        obtain ⟨b, r, h1, h2, h3⟩ := hR j v e
        exact ⟨b, r, h1, h2, h3⟩
      have hwn : w * n ≤ 16 * 16 := Nat.mul_le_mul w2 n2
      have b13 : But p H H3 := fun d o hd e => b3 _ _ hd (b1 _ _ hd e)
      refine ⟨_, _, rfl, _, rfl, _, rfl, _, rfl, _, rfl, _, rfl, _, rfl, p, c, ns, _, M, n, rfl, P3, by omega, by omega, by omega, by omega, fun aS st H4 b4 P4 nS gS lS rS => ⟨_, rfl, _, rfl, _, rfl, p, c, ns, _, M, n, rfl, P4, by omega, by omega, by omega, by omega, fun aE en H5 b5 P5 nE gE lE rE => ⟨(by show 5 ≤ sizeLine; decide), fun f0 nf => ?_⟩⟩⟩
      have b14 : But p H H4 := fun d o hd e => b4 _ _ hd (b13 _ _ hd e)
      have b15 : But p H H5 := fun d o hd e => b5 _ _ hd (b14 _ _ hd e)
      have s6 : Same H5 (upd H5 f0 (.lst [.int M, .ref DM, .ref DC, .ref aS, .ref aE])) := same_upd nf
      have g6 : (upd H5 f0 (.lst [.int M, .ref DM, .ref DC, .ref aS, .ref aE])) f0 = some (.lst [.int M, .ref DM, .ref DC, .ref aS, .ref aE]) := upd_same
      generalize upd H5 f0 (.lst [.int M, .ref DM, .ref DC, .ref aS, .ref aE]) = H6 at s6 g6 ⊢
      have nDC : H DC = none := bk b1 (P1.le (by omega)) hDC
      have nS0 : H aS = none := bk b13 (P3.le (by omega)) nS
      have nE0 : H aE = none := bk b14 (P4.le (by omega)) nE
      have nf0 : H f0 = none := bk b15 (P5.le (by omega)) nf
      have m6 : ∀ {d : Addr} {o : HO}, d ≠ p → H3 d = some o → H6 d = some o := fun {d o} hd e => s6 _ _ (b5 _ _ hd (b4 _ _ hd e))
      have cN : ∀ d ∈ cs, H d = none := fun d hd => by
        obtain ⟨j, hj, e⟩ := List.mem_iff_getElem.mp hd
        exact (c3 j d (G[j]'(by omega)) (by rw [List.getElem?_eq_getElem hj, e]) (List.getElem?_eq_getElem _)).2.2.2.1
      have okG : ∀ r ∈ G, r.length = w ∧ RRed M r := fun r hr => by
        obtain ⟨j, hj, e⟩ := List.mem_iff_getElem.mp hr
        exact (c3 j (cs[j]'(by omega)) r (List.getElem?_eq_getElem _) (by rw [List.getElem?_eq_getElem hj, e])).2.2.2.2
      refine k ⟨f0, DM, DC, aS, aE, ms, cs⟩ ⟨M, A, G, st, en, n, w⟩ H6 (b15.same s6) ((P5.same s6).le (by omega)) ⟨g6, hA.keep fun d o hd e => ?_, ⟨m6 (nep nDC) a2, c1, fun j b r h1 h2 => m6 (c3 j b r h1 h2).2.2.1 (c3 j b r h1 h2).1⟩, s6 _ _ (b5 _ _ (nep nS0) gS), s6 _ _ gE⟩ ⟨hM, by show M ≤ 1000000000000000000; omega, n1, n2, w1, w2, sA, ⟨by show G.length = n; rw [c2, List.length_map]; simpa using a1, fun r hr => (okG r hr).1⟩, lS, lE, rA, fun r hr => (okG r hr).2, rS, rE, hinv⟩ rfl rfl rfl fun d hd => ?_
      · have hp : d ≠ p := nep (by
          rcases List.mem_cons.mp hd with z | z
          · rw [z]; exact nA.1
          · exact nA.2.1 d z)
        exact m6 hp (b3 _ _ hp e)
      · simp only [Fl.all, List.mem_cons, List.mem_append] at hd
        rcases hd with z | z | z | z | z | z | z
        · rw [z]; exact nf0
        · rw [z]; exact nA.1
        · rw [z]; exact nDC
        · rw [z]; exact nS0
        · rw [z]; exact nE0
        · exact nA.2.1 d z
        · exact cN d z
theorem ok_any {f fM fD fF : Addr} {fd fdM fdD fdF : FuncData} (F : Fun K "_law_any_fields" "_law_any_fields" s_law_any_fields f fd)
    (G__law_modulus : FnOk P w0 K mg base CX0 3 fM fdM ["_law_pen_here"] spModulus) (g__law_modulus : mg "_law_modulus" = some (.ref fM)) (kp__law_modulus : PySem.W.keepIn K (.ref fM) = true) (b__law_modulus : Binds K fdM ["_law_pen_here"] [])
    (G__law_draw : FnOk P w0 K mg base CX0 1 fD fdD ["_law_pen_here", "_law_many"] spDraw) (g__law_draw : mg "_law_draw" = some (.ref fD)) (kp__law_draw : PySem.W.keepIn K (.ref fD) = true) (b__law_draw : Binds K fdD ["_law_pen_here", "_law_many"] [])
    (G__law_fields : FnOk P w0 K mg base CX0 4 fF fdF ["_law_pen_here", "_law_modulus_here", "_law_size", "_law_width"] spFields) (g__law_fields : mg "_law_fields" = some (.ref fF)) (kp__law_fields : PySem.W.keepIn K (.ref fF) = true) (b__law_fields : Binds K fdF ["_law_pen_here", "_law_modulus_here", "_law_size", "_law_width"] []) :
    FnOk P w0 K mg base CX0 5 f fd ["_law_pen_here"] spAny := by
  refine F.ok sc_law_any_fields (fun vs H Q E h => ?_) (fun cdv A outer s H vs Q E hr h => ?_)
  · obtain ⟨p, c, ns, m, rfl, _⟩ := h
    rfl
  · obtain ⟨p, c, ns, m, rfl, hP, hm, k⟩ := h
    refine ⟨_, (pss_cons (ps_par (i := 1) (j := 2) rfl sc_law_any_fields.nd rfl rfl (by decide) rfl rfl (pa_cons (pe_call G__law_modulus (hr.mono (by decide)) rfl g__law_modulus kp__law_modulus b__law_modulus .nil pass0 (pa_cons (pv 0) pa_nil)) (pa_cons (pe_op op_add pe_int (pe_call G__law_draw (hr.mono (by decide)) rfl g__law_draw kp__law_draw b__law_draw .nil pass0 (pa_cons (pv 0) (pa_cons pe_int pa_nil)))) pa_nil)) (by rfl))
        (pss_one (ps_ret (pe_call G__law_fields (hr.mono (by decide)) rfl g__law_fields kp__law_fields b__law_fields .nil pass0 (pa_cons (pv 0) (pa_cons (pv 1) (pa_cons (pv 2) (pa_cons (pe_op op_add pe_int (pe_call G__law_draw (hr.mono (by decide)) rfl g__law_draw kp__law_draw b__law_draw .nil pass0 (pa_cons (pv 0) (pa_cons pe_int pa_nil)))) pa_nil)))))))), ?_⟩
    refine ⟨_, rfl, p, c, ns, m, rfl, hP, by omega, fun M H1 M1 M2 P1 b1 => ?_⟩
    refine ⟨_, rfl, p, c, ns, _, 3, rfl, P1, by omega, by omega, by decide, fun d H2 d0 d1 P2 b2 => ⟨_, _, rfl, rfl, _, _, rfl, ?_⟩⟩
    refine ⟨_, rfl, _, rfl, _, rfl, _, rfl, p, c, ns, _, 3, rfl, P2, by omega, by omega, by decide, fun d' H3 d0' d1' P3 b3 => ⟨_, _, rfl, rfl, ?_⟩⟩
    obtain ⟨x, rfl⟩ : ∃ x : Nat, d = x := ⟨d.toNat, by omega⟩
    obtain ⟨y, rfl⟩ : ∃ y : Nat, d' = y := ⟨d'.toNat, by omega⟩
    have b13 : But p H H3 := fun d o hd e => b3 _ _ hd (b2 _ _ hd (b1 _ _ hd e))
    refine ⟨p, c, ns, _, M, 1 + x, 1 + y, ?_, P3, by omega, by omega, by omega, by omega, by omega, by omega, by omega, fun L D H4 b4 P4 hF ok eM eN eW nw => k L D H4 (fun d o hd e => b4 _ _ hd (b13 _ _ hd e)) (P4.le (by omega)) hF ok (by omega) (by omega) (by omega) fun d hd => ?_⟩
    · show [V.ref p, V.int M, V.int (1 + (x : Int)), V.int (1 + (y : Int))] = [V.ref p, V.int M, V.int ((1 + x : Nat) : Int), V.int ((1 + y : Nat) : Int)]
      rw [Int.natCast_add, Int.natCast_add]
      rfl
    · have := nw d hd
      cases z : H d with
      | none => rfl
      | some o =>
        by_cases hp : d = p
        · obtain ⟨o', ho⟩ := P3.some
          rw [hp, ho] at this
          cases this
        · rw [b13 _ _ hp z] at this
          cases this
end
end Wk

namespace Wk
open PySem L2
abbrev s_law_guard : Stmt := top 69
theorem sc_law_guard : FnScope ["_law_fields_here"] ["_law_fields_here"] (defScope s_law_guard) := ⟨rfl, rfl, rfl, by decide +kernel, rfl, by decide +kernel, by decide +kernel⟩

theorem LMat.rowsS {K : PySem.W.Frag} {H : Hp} : ∀ {bs : List Addr} {A : Mat}, bs.length = A.length → (∀ (k : Nat) (b : Addr) (r : Row), bs[k]? = some b → A[k]? = some r → H b = some (.lst (r.map V.int))) → RowsS false K H (bs.map V.ref) A
  | [], [], _, _ => .nil
  | [], _ :: _, h, _ => by cases h
  | _ :: _, [], h, _ => by cases h
  | b :: bs, r :: A, h, k => .cons (SqL.of (k 0 b r rfl rfl)) (LMat.rowsS (by simpa using h) fun i b r e1 e2 => k (i + 1) b r e1 e2)
theorem LMat.rowsG {K : PySem.W.Frag} {H : Hp} {a : Addr} {A : Mat} {bs : List Addr} (h : LMat H a A bs) : RowsG false false K H a A := ⟨_, SqL.of h.top, LMat.rowsS h.len h.row⟩
/-- a list of tuples of ints -/
def BlkAt (K : PySem.W.Frag) (H : Hp) (b : Addr) (B : Mat) : Prop := ∃ us, H b = some (.lst us) ∧ RowsAre K H us B
theorem RowsAre.rowsS {K : PySem.W.Frag} {H : Hp} : ∀ {vs : List V} {A : Mat}, RowsAre K H vs A → RowsS true K H vs A
  | _, _, .nil => .nil
  | _, _, .cons h t => .cons h t.rowsS
theorem BlkAt.rowsG {K : PySem.W.Frag} {H : Hp} {b : Addr} {B : Mat} (h : BlkAt K H b B) : RowsG false true K H b B := by
  obtain ⟨us, h1, h2⟩ := h
  exact ⟨us, SqL.of h1, h2.rowsS⟩
theorem blk_of {K : PySem.W.Frag} {H : Hp} {R : Row → Prop} : ∀ {acc : List V}, (∀ (j : Nat) (v : V), acc[j]? = some v → ∃ b r, v = V.ref b ∧ H b = some (.tup (r.map V.int)) ∧ R r) → ∃ B : Mat, RowsAre K H acc B ∧ B.length = acc.length ∧ ∀ r ∈ B, R r
  | [], _ => ⟨[], .nil, rfl, fun r hr => nomatch hr⟩
  | v :: acc, h => by
    obtain ⟨b, r, rfl, h1, h2⟩ := h 0 v rfl
    obtain ⟨B, e1, e2, e3⟩ := blk_of (acc := acc) fun j v e => h (j + 1) v e
    refine ⟨r :: B, .cons (SqT.of h1) e1, by simp [e2], fun x hx => ?_⟩
    rcases List.mem_cons.mp hx with z | z
    · rw [z]
      exact h2
    · exact e3 x z
def spGuard (K : PySem.W.Frag) (C : Addr) : Sp := fun vs H Q _ => ∃ (L : Fl) (D : GD), vs = [.ref L.f] ∧ FldAt H L D ∧ GOk D ∧ ∀ q H', Same H H' → H q = none → GuardAt K C H' q D → Q (.ref q) H'
def spBlock (K : PySem.W.Frag) : Sp := fun vs H Q _ => ∃ (p c : Addr) (ns : List Int) (m : Nat) (L : Fl) (D : GD) (k : Nat), vs = [.ref p, .ref L.f, .int (k : Int)] ∧ Pen H p c ns m ∧ m < 70000 ∧ FldAt H L D ∧ GOk D ∧ k ≤ 50 ∧ (∀ b ∈ L.all, b ≠ p) ∧
  ∀ b B H', But p H H' → Pen H' p c ns (m + 1 + 16 * k) → BlkAt K H' b B → H b = none → B.length ≤ k → (∀ r ∈ B, r.length = D.w) → MRed D.M B → Q (.ref b) H'
def spAsT (K : PySem.W.Frag) : Sp := fun vs H Q _ => ∃ (a : Addr) (A : Mat) (bs : List Addr), vs = [.ref a] ∧ LMat H a A bs ∧ A.length ≤ 1000 ∧ NewMat K H A Q
section
variable {P : Program} {w0 : World} {K : PySem.W.Frag} {mg : Str → Option Value} {base : Heap} {C fI fT fB fQ : Addr}
theorem ok_lguard {f : Addr} {fd fdI : FuncData} (F : Fun K "_law_guard" "_law_guard" s_law_guard f fd) (T : TxtL mg) (TG : TxtGd K mg C fI fT fB fQ)
    (G_init : FnOk P w0 K mg base CX0 6 fI fdI ["self", "modulus", "matrix", "columns", "start", "end"] (spGInit K C)) (b_init : Binds K fdI ["self", "modulus", "matrix", "columns", "start", "end"] []) : FnOk P w0 K mg base CX0 8 f fd ["_law_fields_here"] (spGuard K C) := by
  refine F.ok sc_law_guard (fun vs H Q E h => ?_) (fun cdv A outer s H vs Q E hr h => ?_)
  · obtain ⟨L, D, rfl, _⟩ := h
    rfl
  · obtain ⟨L, D, rfl, hF, ok, k⟩ := h
    refine ⟨_, (pss_one (ps_ret (pe_make TG.mkr G_init (hr.mono (by decide)) rfl TG.mgC b_init .nil pass0 (pa_cons (pe_ix ix_list (pv 0) pe_int (fun _ _ => rfl)) (pa_cons (pe_ix ix_list (pv 0) pe_int (fun _ _ => rfl)) (pa_cons (pe_ix ix_list (pv 0) pe_int (fun _ _ => rfl)) (pa_cons (pe_ix ix_list (pv 0) pe_int (fun _ _ => rfl)) (pa_cons (pe_ix ix_list (pv 0) pe_int (fun _ _ => rfl)) pa_nil)))))))), ?_⟩
    refine ⟨_, rfl, L.f, _, 0, _, rfl, rfl, SqL.of hF.top, rfl, _, rfl, L.f, _, 1, _, rfl, rfl, SqL.of hF.top, rfl, _, rfl, L.f, _, 2, _, rfl, rfl, SqL.of hF.top, rfl, _, rfl, L.f, _, 3, _, rfl, rfl, SqL.of hF.top, rfl, _, rfl, L.f, _, 4, _, rfl, rfl, SqL.of hF.top, rfl, ?_⟩
    refine fun x dx nx nd ne => ?_
    have sI : Same H (upd (upd H dx (.own x)) x (.ins C dx [])) := fun b o e => by
      rw [upd_ne (ne_of_none e nx), upd_ne (ne_of_none e nd)]
      exact e
    have hF2 := hF.same sI
    exact ⟨false, false, false, false, false, false, x, dx, L.aM, L.aC, L.aS, L.aE, D, rfl, upd_same, ok, hF2.mat.rowsG, hF2.col.rowsG, SqL.of hF2.st, SqL.of hF2.en, fun H' b' hG => ⟨rfl, k x H' (fun b o e => b' _ _ (ne_of_none e nx) (sI _ _ e)) nx hG⟩⟩
end
end Wk

namespace Wk
open PySem L2

def iZipE (K : PySem.W.Frag) (ta : TA) : TI := fun σ H R => ∃ t u : Bool, ZM.iZip2 t u K ta σ H R
theorem pi_zipE {X : Cx} {K : PySem.W.Frag} (hK : X.K = K) {e e2 : Expr} {ta : TA} {p pos tpos : PySem.Pos} {elts : List Expr} {kk : Nat} (hg : Gl X "zip") (hm : X.mg "zip" = none) (ha : PA X [e, e2] ta)
    (hs : starEach [e, e2] X.env = (false, eval e X.env) :: starEach [e2] X.env := by rfl) (hpl : (backTo pos (starEach [e2] X.env)).any (·.1) = false := by rfl) :
    PI X (.Tuple elts kk tpos) (.Call (.Name "zip" p) [e, e2] [] pos) (iZipE K ta) :=
  ⟨fun pins s σ H R I ⟨t, u, h⟩ => (pi_zip2K hK t u hg hm ha hs hpl).1 pins s σ H R I h⟩
theorem dot_readE {K : PySem.W.Frag} {t u : Bool} {a b : Addr} {xs ys : List Int} {p q i j : Nat} {σ : L2.St} {H : Hp} {Q : VK} (hp : σ[p]? = some (some (.ref a))) (hq : σ[q]? = some (some (.ref b))) (sa : ZM.SqK t K H a (xs.map V.int)) (sb : ZM.SqK u K H b (ys.map V.int))
    (hl : xs.length = ys.length) (hn : xs.length ≤ 1000) (wx : RWd xs) (wy : RWd ys) (hw : ∀ x y, wipe (((wipe σ [i, j]).set i (some x)).set j (some y)) [i, j] = wipe σ [i, j]) (h1 : ∀ x y, (((wipe σ [i, j]).set i (some x)).set j (some y))[i]? = some (some x)) (h2 : ∀ x y, (((wipe σ [i, j]).set i (some x)).set j (some y))[j]? = some (some y))
    (k : ∀ H', Same H H' → Q (.int (dotZ xs ys)) H') :
    tCB (rSum K) (tCons (tLc (iZipE K (tCons (tVar p) (tCons (tVar q) tNil))) (gTup K 2 (gCons (gName i) (gCons (gName j) gNil))) tYes (tOp (rI CMulW fun i j => V.int (i * j)) (tVar i) (tVar j)) [i, j]) tNil) σ H Q :=
  ⟨t, u, dot_read (t := t) (u := u) hp hq sa sb hl hn wx wy hw h1 h2 k⟩
theorem dotZ_append : ∀ (a v g x : List Int), a.length = v.length → dotZ (a ++ g) (v ++ x) = dotZ a v + dotZ g x := by
  intro a v g x h
  unfold dotZ
  rw [List.zipWith_append h, List.sum_append]
theorem stepS_at {D : GD} (ok : GOk D) {v x : Row} (hv : v.length = D.n) {j : Nat} {a g : Row} (ha : D.A[j]? = some a) (hg : D.G[j]? = some g) : (stepS D v x)[j]? = some ((dotZ a v + dotZ g x) % D.M) := by
  unfold stepS applyM besideM
  rw [List.getElem?_map, List.getElem?_zipWith, ha, hg]
  show some (dotZ (a ++ g) (v ++ x) % D.M) = _
  rw [dotZ_append _ _ _ _ (by rw [ok.sA.2 a (List.mem_of_getElem? ha), hv])]
def spLBehind (K : PySem.W.Frag) : Sp := fun vs H Q _ => ∃ (t : Bool) (L : Fl) (D : GD) (b s : Addr) (B : Mat) (v : Row), vs = [.ref L.f, .ref b, .ref s] ∧ FldAt H L D ∧ GOk D ∧ BlkAt K H b B ∧ B.length ≤ 100 ∧ (∀ r ∈ B, r.length = D.w) ∧ MRed D.M B ∧ ZM.SqK t K H s (v.map V.int) ∧ v.length = D.n ∧ RRed D.M v ∧
  ∀ q H', Same H H' → RowAt K H' q (behindS D v B) → Q (.ref q) H'
def spLTold (K : PySem.W.Frag) : Sp := fun vs H Q _ => ∃ (L : Fl) (D : GD) (b : Addr) (B : Mat), vs = [.ref L.f, .ref b] ∧ FldAt H L D ∧ GOk D ∧ BlkAt K H b B ∧ B.length ≤ 100 ∧ (∀ r ∈ B, r.length = D.w) ∧ MRed D.M B ∧
  ∀ q H', Same H H' → RowAt K H' q (toldS D B) → Q (.ref q) H'
section
variable {P : Program} {w0 : World} {K : PySem.W.Frag} {mg : Str → Option Value} {base : Heap}
end
end Wk

/-! guards made of guards: what they tell -/
namespace Wk
open PySem L2
def mulV (n : Nat) (A : Fm) (v : Vec) : Vec := fun i => sumN n fun k => A i k * v k
theorem mulV_mul (n w : Nat) (A B : Fm) (v : Vec) (i : Nat) : mulV w (mulF n A B) v i = mulV n A (mulV w B v) i := by
  show (sumN w fun k => (sumN n fun l => A i l * B l k) * v k) = sumN n fun l => A i l * sumN w fun k => B l k * v k
  have e1 : (sumN w fun k => (sumN n fun l => A i l * B l k) * v k) = sumN w fun k => sumN n fun l => A i l * (B l k * v k) := sumN_congr fun k _ => by
    rw [Int.mul_comm, ← sumN_mul]
    exact sumN_congr fun l _ => by rw [Int.mul_comm (v k), Int.mul_assoc]
  rw [e1, sumN_comm]
  exact sumN_congr fun l _ => by rw [sumN_mul]
theorem mulV_congr {M : Int} {n : Nat} {A B : Fm} {v u : Vec} {i : Nat} (h : ∀ k, k < n → Eqm M (A i k) (B i k)) (g : ∀ k, k < n → Eqm M (v k) (u k)) : Eqm M (mulV n A v i) (mulV n B u i) := Eqm.sum fun k hk => (h k hk).mul (g k hk)
theorem mulV_add (n : Nat) (A : Fm) (v u : Vec) (i : Nat) : mulV n A (fun k => v k + u k) i = mulV n A v i + mulV n A u i := by
  show (sumN n fun k => A i k * (v k + u k)) = (sumN n fun k => A i k * v k) + sumN n fun k => A i k * u k
  rw [← sumN_add]
  exact sumN_congr fun k _ => Int.mul_add _ _ _
theorem dot_fn {n : Nat} {a b : Row} (ha : a.length = n) (hb : b.length = n) : dotZ a b = sumN n fun k => fn a k * fn b k := dot_sum n a b ha hb
theorem ent_fn {A : Mat} {i : Nat} {r : Row} (h : A[i]? = some r) (j : Nat) : ent A i j = fn r j := ent_at h j
theorem fn_of {r : Row} {j : Nat} {x : Int} (h : r[j]? = some x) : fn r j = x := by
  show r.getD j 0 = x
  rw [List.getD_eq_getElem?_getD, h]
  rfl
theorem of_fn {r : Row} {j : Nat} (h : j < r.length) : r[j]? = some (fn r j) := by
  show _ = some (r.getD j 0)
  rw [List.getD_eq_getElem?_getD, List.getElem?_eq_getElem h]
  rfl
theorem rows_eqm {M : Int} {w : Nat} {r s : Row} (h : r.length = w) (g : s.length = w) (rr : RRed M r) (rs : RRed M s) (e : ∀ j, j < w → Eqm M (fn r j) (fn s j)) : r = s := by
  apply List.ext_getElem?
  intro j
  by_cases hj : j < w
  · have h1 := of_fn (show j < r.length by omega)
    have h2 := of_fn (show j < s.length by omega)
    rw [h1, h2, (e j hj).red (rr _ (List.mem_of_getElem? h1)) (rs _ (List.mem_of_getElem? h2))]
  · rw [List.getElem?_eq_none (by omega), List.getElem?_eq_none (by omega)]
/-- one step, as functions -/
theorem step_fn {D : GD} (ok : GOk D) {v x : Row} (hv : v.length = D.n) (hx : x.length = D.w) {i : Nat} (hi : i < D.n) : Eqm D.M (fn (stepS D v x) i) (mulV D.n (ent D.A) (fn v) i + mulV D.w (ent D.G) (fn x) i) := by
  obtain ⟨a, ha, la⟩ := shp_at ok.sA hi
  obtain ⟨g, hg, lg⟩ := shp_at ok.sG hi
  rw [fn_of (stepS_at ok hv ha hg)]
  refine (Eqm.mod _ _).trans (.eq ?_)
  rw [dot_fn la hv, dot_fn lg hx]
  show _ = (sumN D.n fun k => ent D.A i k * fn v k) + sumN D.w fun k => ent D.G i k * fn x k
  have e1 : (sumN D.n fun k => fn a k * fn v k) = sumN D.n fun k => ent D.A i k * fn v k := sumN_congr fun k _ => by rw [ent_fn ha]
  have e2 : (sumN D.w fun k => fn g k * fn x k) = sumN D.w fun k => ent D.G i k * fn x k := sumN_congr fun k _ => by rw [ent_fn hg]
  rw [e1, e2]
theorem behindS_app (D : GD) (v : Row) (B C : Mat) : behindS D v (B ++ C) = behindS D (behindS D v B) C := List.foldl_append
theorem step_ok {D : GD} (ok : GOk D) {v x : Row} (hv : v.length = D.n) : (stepS D v x).length = D.n ∧ RRed D.M (stepS D v x) := by
  have := (behindS_ok ok (B := [x]) hv)
  exact ⟨by unfold stepS; rw [applyM_len]; exact ok.bes.1, applyM_red (by have := ok.m2; omega)⟩
/-- a guard that keeps step with another behind a matrix -/
theorem intertwine {D D' : GD} (ok : GOk D) (ok' : GOk D') (eM : D'.M = D.M) (en : D'.n = D.n) (ew : D'.w = D.w) (X : Fm) (hA : EqF D.M D.n (mulF D.n X (ent D.A)) (mulF D.n (ent D'.A) X)) (hG : ∀ i j, i < D.n → j < D.w → Eqm D.M (ent D'.G i j) (mulF D.n X (ent D.G) i j)) :
    ∀ (B : Mat) (v v' : Row), (∀ r ∈ B, r.length = D.w) → v.length = D.n → v'.length = D.n → (∀ i, i < D.n → Eqm D.M (fn v' i) (mulV D.n X (fn v) i)) → ∀ i, i < D.n → Eqm D.M (fn (behindS D' v' B) i) (mulV D.n X (fn (behindS D v B)) i)
  | [], _, _, _, _, _, h => h
  | x :: B, v, v', hB, hv, hv', h => by
    have lx := hB x List.mem_cons_self
    refine intertwine ok ok' eM en ew X hA hG B (stepS D v x) (stepS D' v' x) (fun r hr => hB r (List.mem_cons_of_mem _ hr)) (step_ok ok hv).1 ((step_ok ok' (hv'.trans en.symm)).1.trans en) fun i hi => ?_
    have h1 := step_fn ok' (hv'.trans en.symm) (lx.trans ew.symm) (show i < D'.n by omega)
    rw [eM, en, ew] at h1
    refine h1.trans ?_
    have h2 : Eqm D.M (mulV D.n X (fn (stepS D v x)) i) (mulV D.n X (fun k => mulV D.n (ent D.A) (fn v) k + mulV D.w (ent D.G) (fn x) k) i) := mulV_congr (fun k _ => .refl _ _) fun k hk => step_fn ok hv lx hk
    refine Eqm.trans ?_ h2.symm
    rw [mulV_add, ← mulV_mul, ← mulV_mul]
    refine Eqm.add ?_ (mulV_congr (fun k hk => hG i k hi hk) fun k _ => .refl _ _)
    refine (mulV_congr (fun k _ => .refl _ _) fun k hk => h k hk).trans ?_
    rw [← mulV_mul]
    exact mulV_congr (fun k hk => (hA i k hi hk).symm) fun k _ => .refl _ _
end Wk

/-! integer steps that only grow; numbers lessened to a limit -/
namespace Wk
def apF (n : Nat) (P : Fm) (z : Nat → Int) : Nat → Int := fun i => sumN n fun k => P i k * z k
theorem apF_mul (n : Nat) (P Q : Fm) (z : Nat → Int) (i : Nat) : apF n (mulF n P Q) z i = apF n P (apF n Q z) i := by
  show sumN n (fun k => (sumN n fun l => P i l * Q l k) * z k) = sumN n fun l => P i l * sumN n fun k => Q l k * z k
  rw [sumN_congr (g := fun k => sumN n fun l => P i l * (Q l k * z k)), sumN_comm, sumN_congr]
  · intro l _
    rw [← sumN_mul]
  · intro k _
    rw [Int.mul_comm, ← sumN_mul]
    exact sumN_congr fun l _ => by rw [Int.mul_left_comm, Int.mul_comm (z k), ← Int.mul_assoc]
theorem apF_congr {n : Nat} {P Q : Fm} {z y : Nat → Int} {i : Nat} (h : ∀ k, k < n → P i k = Q i k) (g : ∀ k, k < n → z k = y k) : apF n P z i = apF n Q y i := sumN_congr fun k hk => by rw [h k hk, g k hk]
theorem eq0 {a b : Int} (h : Eqm 0 a b) : a = b := by
  obtain ⟨k, e⟩ := h
  rw [e, Int.zero_mul, Int.add_zero]
/-- the state behind so many steps -/
def runF (n : Nat) (P : Fm) (z : Nat → Int) (m : Nat) : Nat → Int := apF n (powF n P m) z
theorem runF_zero {n : Nat} {P : Fm} {z : Nat → Int} {i : Nat} (hi : i < n) : runF n P z 0 i = z i := by
  show sumN n (fun k => oneF i k * z k) = z i
  rw [sumN_congr (g := fun k => if k = i then z i else 0), sumN_one hi]
  intro k _
  unfold oneF
  by_cases e : i = k
  · subst e; simp
  · rw [if_neg e, if_neg (fun z => e z.symm), Int.zero_mul]
theorem runF_add {n : Nat} {P : Fm} {z : Nat → Int} (a b : Nat) {i : Nat} (hi : i < n) : runF n P z (a + b) i = apF n (powF n P a) (runF n P z b) i := by
  unfold runF
  rw [← apF_mul]
  exact apF_congr (fun k hk => eq0 (powF_add (M := 0) n P a b i k hi hk)) fun _ _ => rfl
theorem pow1 {n : Nat} {P : Fm} {i k : Nat} (hi : i < n) (hk : k < n) : powF n P 1 i k = P i k := eq0 (one_mulF (M := 0) n P i k hi hk)
theorem runF_succ {n : Nat} {P : Fm} {z : Nat → Int} (m : Nat) {i : Nat} (hi : i < n) : runF n P z (m + 1) i = apF n P (runF n P z m) i := by
  rw [Nat.add_comm, runF_add 1 m hi]
  exact apF_congr (fun k hk => pow1 hi hk) fun _ _ => rfl
def NN (n : Nat) (P : Fm) : Prop := ∀ i k, i < n → k < n → 0 ≤ P i k
theorem sumN_nonneg : ∀ {n : Nat} {f : Nat → Int}, (∀ k, k < n → 0 ≤ f k) → 0 ≤ sumN n f
  | 0, f, _ => Int.le_refl _
  | n + 1, f, h => by
    show 0 ≤ sumN n f + f n
    have := sumN_nonneg (n := n) (f := f) fun k hk => h k (by omega)
    have := h n (by omega)
    omega
theorem sumN_le : ∀ {n : Nat} {f g : Nat → Int}, (∀ k, k < n → f k ≤ g k) → sumN n f ≤ sumN n g
  | 0, f, g, _ => Int.le_refl _
  | n + 1, f, g, h => by
    show sumN n f + f n ≤ sumN n g + g n
    have := sumN_le (n := n) (f := f) (g := g) fun k hk => h k (by omega)
    have := h n (by omega)
    omega
theorem sumN_term {n : Nat} {f : Nat → Int} (h : ∀ k, k < n → 0 ≤ f k) : ∀ j, j < n → f j ≤ sumN n f := by
  induction n with
  | zero => intro j hj; omega
  | succ n ih =>
    intro j hj
    show f j ≤ sumN n f + f n
    have h0 := sumN_nonneg (n := n) (f := f) fun k hk => h k (by omega)
    have h1 := h n (by omega)
    rcases Nat.lt_or_ge j n with hjn | hjn
    · have := ih (fun k hk => h k (by omega)) j hjn
      omega
    · have : j = n := by omega
      subst this
      omega
theorem NN.mul {n : Nat} {P Q : Fm} (h : NN n P) (g : NN n Q) : NN n (mulF n P Q) := fun i k hi hk => sumN_nonneg fun l hl => Int.mul_nonneg (h i l hi hl) (g l k hl hk)
theorem NN.pow {n : Nat} {P : Fm} (h : NN n P) : ∀ m, NN n (powF n P m)
  | 0 => fun i k _ _ => by
    show 0 ≤ oneF i k
    unfold oneF
    split <;> decide
  | m + 1 => (NN.pow h m).mul h
theorem apF_nonneg {n : Nat} {P : Fm} {z : Nat → Int} (h : NN n P) (hz : ∀ k, k < n → 0 ≤ z k) {i : Nat} (hi : i < n) : 0 ≤ apF n P z i := sumN_nonneg fun k hk => Int.mul_nonneg (h i k hi hk) (hz k hk)
theorem apF_mono {n : Nat} {P : Fm} {z y : Nat → Int} (h : NN n P) (hz : ∀ k, k < n → z k ≤ y k) {i : Nat} (hi : i < n) : apF n P z i ≤ apF n P y i := sumN_le fun k hk => Int.mul_le_mul_of_nonneg_left (hz k hk) (h i k hi hk)
/-- a step that only grows: n numbers, N of them with what stands behind -/
structure Grow (n N : Nat) (P : Fm) (z : Nat → Int) : Prop where
  le : n ≤ N
  nn : NN N P
  z0 : ∀ k, k < N → 0 ≤ z k
  up : ∀ k, k < N → z k ≤ apF N P z k
  col : ∀ j, j < n → ∃ i, i < n ∧ 1 ≤ P i j
theorem Grow.nonneg {n N : Nat} {P : Fm} {z : Nat → Int} (g : Grow n N P z) (m : Nat) {i : Nat} (hi : i < N) : 0 ≤ runF N P z m i := apF_nonneg (g.nn.pow m) g.z0 hi
theorem Grow.mono1 {n N : Nat} {P : Fm} {z : Nat → Int} (g : Grow n N P z) (m : Nat) {i : Nat} (hi : i < N) : runF N P z m i ≤ runF N P z (m + 1) i := by
  rw [runF_add m 1 hi]
  refine apF_mono (g.nn.pow m) (fun k hk => ?_) hi
  rw [runF_succ 0 hk]
  refine Int.le_trans (g.up k hk) (Int.le_of_eq (apF_congr (fun _ _ => rfl) fun l hl => (runF_zero hl).symm))
theorem Grow.mono {n N : Nat} {P : Fm} {z : Nat → Int} (g : Grow n N P z) {a b : Nat} (h : a ≤ b) {i : Nat} (hi : i < N) : runF N P z a i ≤ runF N P z b i := by
  induction b with
  | zero => rw [show a = 0 by omega]; exact Int.le_refl _
  | succ b ih =>
    rcases Nat.lt_or_ge b a with hb | hb
    · rw [show a = b + 1 by omega]; exact Int.le_refl _
    · exact Int.le_trans (ih hb) (g.mono1 b hi)
/-- once moved, it never stands -/
theorem Grow.moves {n N : Nat} {P : Fm} {z : Nat → Int} (g : Grow n N P z) (h : ∃ i, i < n ∧ runF N P z 1 i ≠ z i) : ∀ m, ∃ i, i < n ∧ runF N P z m i + 1 ≤ runF N P z (m + 1) i
  | 0 => by
    obtain ⟨i, hi, ne⟩ := h
    have hN := Nat.lt_of_lt_of_le hi g.le
    have := g.mono1 0 hN
    rw [runF_zero hN] at this
    exact ⟨i, hi, by rw [runF_zero hN]; show z i + 1 ≤ runF N P z (0 + 1) i; rw [Nat.zero_add] at *; omega⟩
  | m + 1 => by
    obtain ⟨j, hj, hm⟩ := g.moves h m
    obtain ⟨i, hi, h1⟩ := g.col j hj
    have hiN := Nat.lt_of_lt_of_le hi g.le
    have hjN := Nat.lt_of_lt_of_le hj g.le
    refine ⟨i, hi, ?_⟩
    rw [runF_succ m hiN, runF_succ (m + 1) hiN]
    have key : ∀ k, k < N → 0 ≤ P i k * (runF N P z (m + 1) k - runF N P z m k) := fun k hk => Int.mul_nonneg (g.nn i k hiN hk) (by have := g.mono1 m hk; omega)
    have t := sumN_term key j hjN
    have e : sumN N (fun k => P i k * (runF N P z (m + 1) k - runF N P z m k)) = apF N P (runF N P z (m + 1)) i - apF N P (runF N P z m) i := by
      have : sumN N (fun k => P i k * runF N P z (m + 1) k) = sumN N (fun k => P i k * (runF N P z (m + 1) k - runF N P z m k) + P i k * runF N P z m k) := sumN_congr fun k _ => by rw [← Int.mul_add]; congr 1; omega
      show _ = sumN N (fun k => P i k * runF N P z (m + 1) k) - sumN N (fun k => P i k * runF N P z m k)
      rw [this, sumN_add]
      omega
    have one : 1 ≤ P i j * (runF N P z (m + 1) j - runF N P z m j) := by
      have := Int.mul_le_mul h1 (show (1 : Int) ≤ runF N P z (m + 1) j - runF N P z m j by omega) (by decide) (by omega)
      omega
    rw [e] at t
    omega
theorem Grow.sum {n N : Nat} {P : Fm} {z : Nat → Int} (g : Grow n N P z) (h : ∃ i, i < n ∧ runF N P z 1 i ≠ z i) : ∀ m : Nat, (m : Int) ≤ sumN n (runF N P z m)
  | 0 => sumN_nonneg fun k hk => g.nonneg 0 (Nat.lt_of_lt_of_le hk g.le)
  | m + 1 => by
    have ih := g.sum h m
    obtain ⟨i, hi, hm⟩ := g.moves h m
    have key : ∀ k, k < n → 0 ≤ runF N P z (m + 1) k - runF N P z m k := fun k hk => by have := g.mono1 m (Nat.lt_of_lt_of_le hk g.le); omega
    have t := sumN_term key i hi
    have e : sumN n (fun k => runF N P z (m + 1) k - runF N P z m k) = sumN n (runF N P z (m + 1)) - sumN n (runF N P z m) := by
      have : sumN n (runF N P z (m + 1)) = sumN n (fun k => (runF N P z (m + 1) k - runF N P z m k) + runF N P z m k) := sumN_congr fun k _ => by omega
      rw [this, sumN_add]
      omega
    rw [e] at t
    omega
/-- a number of the state is at the limit -/
def Rch (n : Nat) (L : Int) (x : Nat → Int) : Prop := ∃ i, i < n ∧ L ≤ x i
theorem not_rch_sum {L : Int} : ∀ {n : Nat} {x : Nat → Int}, ¬ Rch n L x → sumN n x ≤ n * (L - 1)
  | 0, x, _ => by simp [sumN]
  | n + 1, x, h => by
    have h1 := not_rch_sum (n := n) (x := x) fun ⟨i, hi, e⟩ => h ⟨i, by omega, e⟩
    have h2 : x n < L := Int.not_le.mp fun e => h ⟨n, by omega, e⟩
    show sumN n x + x n ≤ ((n + 1 : Nat) : Int) * (L - 1)
    rw [Int.natCast_succ, Int.add_mul, Int.one_mul]
    omega
theorem Grow.bound {n N : Nat} {P : Fm} {z : Nat → Int} (g : Grow n N P z) (h : ∃ i, i < n ∧ runF N P z 1 i ≠ z i) {L : Int} {m : Nat} (hr : ¬ Rch n L (runF N P z m)) : (m : Int) ≤ n * (L - 1) := Int.le_trans (g.sum h m) (not_rch_sum hr)
theorem Grow.rch {n N : Nat} {P : Fm} {z : Nat → Int} (g : Grow n N P z) {L : Int} {a b : Nat} (h : a ≤ b) (r : Rch n L (runF N P z a)) : Rch n L (runF N P z b) := by
  obtain ⟨i, hi, e⟩ := r
  exact ⟨i, hi, Int.le_trans e (g.mono h (Nat.lt_of_lt_of_le hi g.le))⟩
theorem Grow.uniq {n N : Nat} {P : Fm} {z : Nat → Int} (g : Grow n N P z) {L : Int} {a b : Nat} (a0 : ¬ Rch n L (runF N P z a)) (a1 : Rch n L (runF N P z (a + 1))) (b0 : ¬ Rch n L (runF N P z b)) (b1 : Rch n L (runF N P z (b + 1))) : a = b := by
  rcases Nat.lt_trichotomy a b with h | h | h
  · exact absurd (g.rch (by omega) a1) b0
  · exact h
  · exact absurd (g.rch (by omega) b1) a0
/-- where a state comes again it has stood from the start -/
theorem Grow.stood {n N : Nat} {P : Fm} {z : Nat → Int} (g : Grow n N P z) {a b : Nat} (h : a < b) (e : ∀ i, i < n → runF N P z a i = runF N P z b i) : ∀ i, i < n → runF N P z 1 i = z i := fun i hi => by
  refine Classical.byContradiction fun ne => ?_
  obtain ⟨j, hj, hm⟩ := g.moves ⟨i, hi, ne⟩ a
  have := g.mono (show a + 1 ≤ b from h) (Nat.lt_of_lt_of_le hj g.le)
  have := e j hj
  omega
/-! numbers lessened to a limit -/
def Sq (L a b : Int) : Prop := 0 ≤ a ∧ 0 ≤ b ∧ (a = b ∨ (L ≤ a ∧ L ≤ b))
theorem Sq.refl {L a : Int} (h : 0 ≤ a) : Sq L a a := ⟨h, h, .inl rfl⟩
theorem Sq.min {L a : Int} (hL : 0 ≤ L) (h : 0 ≤ a) : Sq L (if a < L then a else L) a := by
  unfold Sq
  split <;> omega
theorem Sq.trans {L a b c : Int} (h : Sq L a b) (g : Sq L b c) : Sq L a c := by
  unfold Sq at *
  omega
theorem Sq.add {L a b c d : Int} (h : Sq L a b) (g : Sq L c d) : Sq L (a + c) (b + d) := by
  unfold Sq at *
  omega
theorem Sq.mul {L a b c d : Int} (hL : 1 ≤ L) (h : Sq L a b) (g : Sq L c d) : Sq L (a * c) (b * d) := by
  obtain ⟨a0, b0, h⟩ := h
  obtain ⟨c0, d0, g⟩ := g
  have big : ∀ {x y : Int}, L ≤ x → 1 ≤ y → L ≤ x * y := fun {x y} hx hy => by
    have := Int.mul_le_mul hx hy (by decide) (by omega)
    omega
  refine ⟨Int.mul_nonneg a0 c0, Int.mul_nonneg b0 d0, ?_⟩
  rcases h with rfl | ⟨h1, h2⟩
  · rcases g with rfl | ⟨g1, g2⟩
    · exact .inl rfl
    · rcases Int.lt_or_le a 1 with ha | ha
      · have : a = 0 := by omega
        subst this
        exact .inl (by rw [Int.zero_mul, Int.zero_mul])
      · refine .inr ⟨?_, ?_⟩
        · rw [Int.mul_comm]; exact big g1 ha
        · rw [Int.mul_comm]; exact big g2 ha
  · rcases g with rfl | ⟨g1, g2⟩
    · rcases Int.lt_or_le c 1 with hc | hc
      · have : c = 0 := by omega
        subst this
        exact .inl (by rw [Int.mul_zero, Int.mul_zero])
      · exact .inr ⟨big h1 hc, big h2 hc⟩
    · exact .inr ⟨big h1 (by omega), big h2 (by omega)⟩
theorem Sq.sum {L : Int} : ∀ {n : Nat} {f g : Nat → Int}, (∀ k, k < n → Sq L (f k) (g k)) → Sq L (sumN n f) (sumN n g)
  | 0, f, g, _ => .refl (Int.le_refl _)
  | n + 1, f, g, h => (Sq.sum (n := n) fun k hk => h k (by omega)).add (h n (by omega))
theorem Sq.reach {L a b : Int} (h : Sq L a b) : L ≤ a ↔ L ≤ b := by
  unfold Sq at h
  omega
end Wk

/-! rows and matrices lessened to a limit -/
namespace Wk
open PySem L2
def satR (L : Int) (P : Mat) (z : Row) : Row := P.map fun r => if dotZ r z < L then dotZ r z else L
def RowSq (L : Int) (N : Nat) (r : Row) (f : Nat → Int) : Prop := r.length = N ∧ RWd r ∧ ∀ k, k < N → Sq L (fn r k) (f k)
structure MatSq (L : Int) (N : Nat) (A : Mat) (F : Fm) : Prop where
  shp : Shp N N A
  wd : MWd A
  sq : ∀ i k, i < N → k < N → Sq L (ent A i k) (F i k)
theorem satR_len (L : Int) (P : Mat) (z : Row) : (satR L P z).length = P.length := by simp [satR]
theorem satR_at {L : Int} {P : Mat} {z r : Row} {i : Nat} (h : P[i]? = some r) : (satR L P z)[i]? = some (if dotZ r z < L then dotZ r z else L) := by
  unfold satR
  rw [List.getElem?_map, h]
  rfl
theorem sat_wd {L : Int} (h0 : 0 ≤ L) (h1 : L < 2 ^ 136) {P : Mat} {z : Row} (hp : ∀ r ∈ P, 0 ≤ dotZ r z) : RWd (satR L P z) := fun x hx => by
  unfold satR at hx
  obtain ⟨r, hr, rfl⟩ := List.mem_map.mp hx
  have := hp r hr
  show Int.natAbs _ < 2 ^ 200
  split <;> omega
theorem sat_dot {L : Int} (hL : 1 ≤ L) {N : Nat} {r z : Row} {f g : Nat → Int} (hr : r.length = N) (hz : z.length = N) (h : ∀ k, k < N → Sq L (fn r k) (f k)) (g' : ∀ k, k < N → Sq L (fn z k) (g k)) : 0 ≤ dotZ r z ∧ Sq L (if dotZ r z < L then dotZ r z else L) (sumN N fun k => f k * g k) := by
  have e := dot_fn hr hz
  have s : Sq L (dotZ r z) (sumN N fun k => f k * g k) := by
    rw [e]
    exact Sq.sum fun k hk => (h k hk).mul hL (g' k hk)
  exact ⟨s.1, (Sq.min (by omega) s.1).trans s⟩
theorem MatSq.row {L : Int} {N : Nat} {P : Mat} {F : Fm} (m : MatSq L N P F) {i : Nat} (hi : i < N) : ∃ r, P[i]? = some r ∧ r.length = N ∧ RWd r ∧ ∀ k, k < N → Sq L (fn r k) (F i k) := by
  obtain ⟨r, hr, hl⟩ := shp_at m.shp hi
  refine ⟨r, hr, hl, m.wd _ (List.mem_of_getElem? hr), fun k hk => ?_⟩
  have := m.sq i k hi hk
  rw [ent_fn hr] at this
  exact this
theorem sat_apply {L : Int} (hL : 1 ≤ L) (h1 : L < 2 ^ 136) {N : Nat} {P : Mat} {z : Row} {F : Fm} {f : Nat → Int} (m : MatSq L N P F) (r : RowSq L N z f) : RowSq L N (satR L P z) (apF N F f) := by
  obtain ⟨r1, r2, r3⟩ := r
  refine ⟨by rw [satR_len]; exact m.shp.1, sat_wd (by omega) h1 fun x hx => ?_, fun i hi => ?_⟩
  · obtain ⟨i, hi, e⟩ := List.mem_iff_getElem.mp hx
    have hiN : i < N := by rw [← m.shp.1]; exact hi
    obtain ⟨q, hq, q1, _, q3⟩ := m.row hiN
    rw [List.getElem?_eq_getElem hi, e] at hq
    cases hq
    exact (sat_dot hL q1 r1 q3 r3).1
  · obtain ⟨q, hq, q1, _, q3⟩ := m.row hi
    rw [fn_of (satR_at hq)]
    exact (sat_dot hL q1 r1 q3 r3).2
/-- the step taken twice -/
theorem sat_twice {L : Int} (hL : 1 ≤ L) (h1 : L < 2 ^ 136) {N : Nat} {P : Mat} {F : Fm} (m : MatSq L N P F) : MatSq L N (P.map fun r => satR L (colsOf N P) r) (mulF N F F) := by
  have col : ∀ j, j < N → ∃ c, (colsOf N P)[j]? = some c ∧ c.length = N ∧ ∀ k, k < N → Sq L (fn c k) (F k j) := fun j hj => by
    refine ⟨P.map fun r => r.getD j 0, by unfold colsOf; rw [List.getElem?_map, List.getElem?_range hj]; rfl, by rw [List.length_map]; exact m.shp.1, fun k hk => ?_⟩
    obtain ⟨q, hq, q1, _, q3⟩ := m.row hk
    rw [fn_of (x := q.getD j 0) (by rw [List.getElem?_map, hq]; rfl)]
    exact q3 j hj
  have lc : (colsOf N P).length = N := by simp [colsOf]
  have ent' : ∀ i r, P[i]? = some r → ∀ j, ent (P.map fun r => satR L (colsOf N P) r) i j = fn (satR L (colsOf N P) r) j := fun i r hr j => ent_fn (by rw [List.getElem?_map, hr]; rfl) j
  refine ⟨⟨by rw [List.length_map]; exact m.shp.1, fun x hx => ?_⟩, fun x hx => ?_, fun i j hi hj => ?_⟩
  · obtain ⟨r, _, rfl⟩ := List.mem_map.mp hx
    rw [satR_len, lc]
  · obtain ⟨r, hr, rfl⟩ := List.mem_map.mp hx
    obtain ⟨i, hi, e⟩ := List.mem_iff_getElem.mp hr
    have hiN : i < N := by rw [← m.shp.1]; exact hi
    obtain ⟨q, hq, q1, _, q3⟩ := m.row hiN
    rw [List.getElem?_eq_getElem hi, e] at hq
    cases hq
    refine sat_wd (by omega) h1 fun c hc => ?_
    obtain ⟨j, hj, e⟩ := List.mem_iff_getElem.mp hc
    obtain ⟨c', hc', c1, c3⟩ := col j (by omega)
    rw [List.getElem?_eq_getElem hj, e] at hc'
    cases hc'
    exact (sat_dot hL c1 q1 c3 q3).1
  · obtain ⟨q, hq, q1, _, q3⟩ := m.row hi
    obtain ⟨c, hc, c1, c3⟩ := col j hj
    rw [ent' i q hq, fn_of (satR_at hc)]
    have := (sat_dot hL c1 q1 c3 q3).2
    have e : (sumN N fun k => F k j * F i k) = mulF N F F i j := sumN_congr fun k _ => Int.mul_comm _ _
    rw [e] at this
    exact this
theorem sat_reach {L : Int} {n N : Nat} {r : Row} {f : Nat → Int} (h : RowSq L N r f) (hn : n ≤ N) (hl : ∀ i, n ≤ i → i < N → f i < L) : (∃ x ∈ r, L ≤ x) ↔ Rch n L f := by
  obtain ⟨h1, _, h3⟩ := h
  constructor
  · rintro ⟨x, hx, hL⟩
    obtain ⟨i, hi, e⟩ := List.mem_iff_getElem.mp hx
    have hiN : i < N := by omega
    have := h3 i hiN
    rw [fn_of (x := x) (by rw [List.getElem?_eq_getElem hi, e])] at this
    have := this.reach.mp hL
    refine ⟨i, Nat.lt_of_not_le fun z => ?_, this⟩
    have := hl i z hiN
    omega
  · rintro ⟨i, hi, e⟩
    have hiN := Nat.lt_of_lt_of_le hi hn
    have := (h3 i hiN).reach.mpr e
    exact ⟨_, List.mem_of_getElem? (of_fn (by omega)), this⟩
theorem MatSq.pow_congr {L : Int} {N : Nat} {A : Mat} {F G : Fm} (m : MatSq L N A F) (h : ∀ i k, i < N → k < N → F i k = G i k) : MatSq L N A G := ⟨m.shp, m.wd, fun i k hi hk => by rw [← h i k hi hk]; exact m.sq i k hi hk⟩
theorem RowSq.congr {L : Int} {N : Nat} {r : Row} {f g : Nat → Int} (m : RowSq L N r f) (h : ∀ i, i < N → f i = g i) : RowSq L N r g := ⟨m.1, m.2.1, fun i hi => by rw [← h i hi]; exact m.2.2 i hi⟩
end Wk

/-! min(t), max(t), t a tuple of ints; a, b, c = a list -/
namespace Wk
open PySem PySem.Spec PyProof.Rows L2
section
variable {prog : Program} {w : World} {A : Around} {E : Value → Shared → Prop} {s : Shared} {l : Addr} {xs : Array (Int × Tok)}
theorem iter_it {Q : Value → Shared → Prop} (hl : s.heap.IsTuple l (intItems xs))
    (h : ∀ s₂ : Shared, s₂ = { s with heap := s.heap.push (ZM.itO true l) } → (s₂.heap.IsTupleIter s.heap.objs.size l 0 ∧ s₂.heap.IsTuple l (intItems xs)) → (∀ b ∈ [s.heap.objs.size, l], b < s₂.heap.objs.size) → l ≠ s.heap.objs.size → Q (.ref s.heap.objs.size) s₂) :
    wpAny (model prog w) A (pyIter (.ref l)) Q E s := by
  have hlt : l < s.heap.objs.size := by
    obtain ⟨_, e, _⟩ := hl
    exact Heap.lt_size e
  refine wpAny_pyIter_tuple hl (h _ rfl ⟨⟨_, Heap.get?_push_size _ rfl, rfl, rfl⟩, hl.push _⟩ (fun b hb => ?_) (Nat.ne_of_lt hlt))
  show b < (s.heap.push _).objs.size
  rw [Heap.size_push]
  simp only [List.mem_cons, List.not_mem_nil, or_false] at hb
  rcases hb with rfl | rfl
  · exact Nat.lt_succ_self _
  · exact Nat.lt_succ_of_lt hlt
theorem old_it {h' : Heap} (hk : ∀ b o, b ∉ [s.heap.objs.size] → (s.heap.push (ZM.itO true l)).get? b = some o → h'.get? b = some o) : ∀ b o, s.heap.get? b = some o → h'.get? b = some o := fun b o e => by
  refine hk b o (fun hm => ?_) (Heap.get?_push_of_some _ e)
  simp only [List.mem_cons, List.not_mem_nil, or_false] at hm
  exact absurd (hm ▸ Heap.lt_size e) (Nat.lt_irrefl _)
theorem min_it {ns : List Int} {its : List Value} {Q : Value → Shared → Prop} (hh : A.handled = none) (hl : s.heap.IsTuple l its.toArray) (hi : IntsAre its ns) (hne : 0 < ns.length)
    (h : ∀ h' tk M t', (∀ b o, s.heap.get? b = some o → h'.get? b = some o) → M ∈ ns → (∀ a, a ∈ ns → M ≤ a) → Q (.int M t') { s with heap := h', toks := tk }) : wpAny (model prog w) A (call (.builtin "min") [.ref l]) Q E s := by
  obtain ⟨xs, e⟩ := hi.allInts.items
  have hn : numsOf (intItems xs).toList = ns := by rw [← e]; exact hi.numsOf
  rw [nums_intItems] at hn
  subst hn
  rw [e] at hl
  have hsz : 0 < xs.size := by simpa using hne
  refine call_min_walk (iter_it hl fun s₂ e st hfp hlI => ?_)
  subst e
  refine ⟨_, _, _, _, _, _, _, rfl, Walks.tuple (A := A.in1) hh _ l hlI (intItems xs), st, hfp, by simpa [intItems] using hsz, CmpOf.ints_lt (numAt xs) (fun _ _ => intItems_at), fun v h' tk hP hk => ?_⟩
  have hv : (intItems xs)[argBest (fun i j => decide (numAt xs i < numAt xs j)) (xs.size - 1)]? = some v := by simpa [intItems] using hP
  obtain ⟨t, rfl⟩ := intItems_at hv
  obtain ⟨h1, h2⟩ := argBest_lt (numAt xs) (xs.size - 1)
  refine h h' tk _ t (old_it hk) ?_ fun a ha => ?_
  · rw [numAt_eq]
    exact PySem.getD_mem (by rw [List.length_map, Array.length_toList]; omega)
  · obtain ⟨j, hj, rfl⟩ := mem_getD ha
    rw [List.length_map, Array.length_toList] at hj
    rw [← numAt_eq]
    exact h2 j (by omega)
theorem max_it {ns : List Int} {its : List Value} {Q : Value → Shared → Prop} (hh : A.handled = none) (hl : s.heap.IsTuple l its.toArray) (hi : IntsAre its ns) (hne : 0 < ns.length)
    (h : ∀ h' tk M t', (∀ b o, s.heap.get? b = some o → h'.get? b = some o) → M ∈ ns → (∀ a, a ∈ ns → a ≤ M) → Q (.int M t') { s with heap := h', toks := tk }) : wpAny (model prog w) A (call (.builtin "max") [.ref l]) Q E s := by
  obtain ⟨xs, e⟩ := hi.allInts.items
  have hn : numsOf (intItems xs).toList = ns := by rw [← e]; exact hi.numsOf
  rw [nums_intItems] at hn
  subst hn
  rw [e] at hl
  have hsz : 0 < xs.size := by simpa using hne
  refine call_max_walk (iter_it hl fun s₂ e st hfp hlI => ?_)
  subst e
  refine ⟨_, _, _, _, _, _, _, rfl, Walks.tuple (A := A.in1) hh _ l hlI (intItems xs), st, hfp, by simpa [intItems] using hsz, CmpOf.ints_gt (numAt xs) (fun _ _ => intItems_at), fun v h' tk hP hk => ?_⟩
  have hv : (intItems xs)[argBest (fun i j => decide (numAt xs i > numAt xs j)) (xs.size - 1)]? = some v := by simpa [intItems] using hP
  obtain ⟨t, rfl⟩ := intItems_at hv
  obtain ⟨h1, h2⟩ := argBest_gt (numAt xs) (xs.size - 1)
  refine h h' tk _ t (old_it hk) ?_ fun a ha => ?_
  · rw [numAt_eq]
    exact PySem.getD_mem (by rw [List.length_map, Array.length_toList]; omega)
  · obtain ⟨j, hj, rfl⟩ := mem_getD ha
    rw [List.length_map, Array.length_toList] at hj
    rw [← numAt_eq]
    exact h2 j (by omega)
end
section
variable {X : Cx} {K : PySem.W.Frag}
def rLenK (K : PySem.W.Frag) : List V → Hp → VK → Prop := fun xs H Q => ∃ p ys, xs = [V.ref p] ∧ (SqL K H p ys ∨ SqT K H p ys) ∧ Q (V.int ys.length) H
theorem call_lenK (hK : X.K = K) : CallR X (.builtin "len") (rLenK K) := hK ▸ call_len_seq
def rMinT (K : PySem.W.Frag) : List V → Hp → VK → Prop := fun vs H Q => ∃ (a : Addr) (ns : List Int), vs = [V.ref a] ∧ SqT K H a (ns.map V.int) ∧ 0 < ns.length ∧ ∀ m, m ∈ ns → Q (.int m) H
theorem cr_minT (hK : X.K = K) (hc : X.calm = true) : CallR X (.builtin "min") (rMinT K) := by
  subst hK
  intro pins s σ H vs us Q I r h
  obtain ⟨a, ns, rfl, hs, hne, q⟩ := h
  obtain ⟨its, rv, hl, _⟩ := I.tuple hs
  rw [Vals.ref1 r]
  exact min_it (I.ok.hd hc) hl rv.ints hne fun h' tk m t' hk h1 h2 => ⟨.int _, H, I.kept hk, ⟨_, rfl⟩, q m h1⟩
theorem cr_maxT (hK : X.K = K) (hc : X.calm = true) : CallR X (.builtin "max") (rMinT K) := by
  subst hK
  intro pins s σ H vs us Q I r h
  obtain ⟨a, ns, rfl, hs, hne, q⟩ := h
  obtain ⟨its, rv, hl, _⟩ := I.tuple hs
  rw [Vals.ref1 r]
  exact max_it (I.ok.hd hc) hl rv.ints hne fun h' tk m t' hk h1 h2 => ⟨.int _, H, I.kept hk, ⟨_, rfl⟩, q m h1⟩
end
end Wk

/-! sum of a tuple, the greatest of a tuple, a row among rows -/
namespace Wk
open PySem PySem.Spec PyProof.Rows L2
section
variable {X : Cx} {K : PySem.W.Frag}
def rSumT (K : PySem.W.Frag) : List V → Hp → VK → Prop := fun vs H Q => ∃ (a : Addr) (ns : List Int), vs = [V.ref a] ∧ SqT K H a (ns.map V.int) ∧ Q (.int ns.sum) H
theorem cr_sumT (hK : X.K = K) (hc : X.calm = true) : CallR X (.builtin "sum") (rSumT K) := by
  subst hK
  intro pins s σ H vs us Q I r h
  obtain ⟨a, ns, rfl, hs, q⟩ := h
  obtain ⟨its, rv, hl, _⟩ := I.tuple hs
  rw [Vals.ref1 r]
  have hi := rv.ints
  obtain ⟨xs, hx⟩ := hi.allInts.items
  have hn : numsOf its.toArray.toList = ns := by rw [show its.toArray.toList = its from rfl, hi.numsOf]
  rw [hx] at hl hn
  rw [nums_intItems] at hn
  refine PySem.W.ktm_sumG (I.ok.hd hc) hl fun h' tk t' hk => ?_
  rw [preSum_eq, List.take_of_length_le (by simp), hn]
  exact ⟨.int _, H, I.kept hk, ⟨_, rfl⟩, q⟩
def rMaxU (K : PySem.W.Frag) : List V → Hp → VK → Prop := fun vs H Q => ∃ (a : Addr) (ns : List Int), vs = [V.ref a] ∧ SqT K H a (ns.map V.int) ∧ 0 < ns.length ∧ ∀ m, m ∈ ns → (∀ y, y ∈ ns → y ≤ m) → Q (.int m) H
theorem cr_maxU (hK : X.K = K) (hc : X.calm = true) : CallR X (.builtin "max") (rMaxU K) := by
  subst hK
  intro pins s σ H vs us Q I r h
  obtain ⟨a, ns, rfl, hs, hne, q⟩ := h
  obtain ⟨its, rv, hl, _⟩ := I.tuple hs
  rw [Vals.ref1 r]
  exact max_it (I.ok.hd hc) hl rv.ints hne fun h' tk m t' hk h1 h2 => ⟨.int _, H, I.kept hk, ⟨_, rfl⟩, q m h1 h2⟩
def rInT (K : PySem.W.Frag) (neg : Bool) : R2 := fun x y H Q => ∃ (p q : Addr) (xs : List V) (A : List (List Int)) (r : List Int), x = .ref q ∧ y = .ref p ∧ (SqL K H p xs ∨ SqT K H p xs) ∧ RowsAre K H xs A ∧ RowAt K H q r ∧ Q (.bl (if neg then !decide (r ∈ A) else decide (r ∈ A))) H
theorem rows_ints {pins : List (Addr × Obj)} {σ : L2.St} {H : Hp} {s : Shared} (I : Inv X pins σ H s) : ∀ {xs : List V} {us : List Value} {A : List (List Int)}, Vals xs us → RowsAre X.K H xs A → A = us.map (TS.intsOf s.heap) ∧ ∀ u ∈ us, ∃ b r, u = .ref b ∧ RowAt X.K H b r ∧ TS.intsOf s.heap u = r
  | _, _, _, .nil, .nil => ⟨rfl, fun u hu => by cases hu⟩
  | _, _, _, .cons rv t, .cons h R => by
    obtain ⟨e, f⟩ := rows_ints I t R
    obtain ⟨its, r, pl, _⟩ := I.tuple h
    have hT : TS.TupInts s.heap (.ref _) _ := ⟨_, its.toArray, rfl, pl, r.ints⟩
    cases rv
    refine ⟨by rw [List.map_cons, ← e, hT.ints], fun u hu => ?_⟩
    rcases List.mem_cons.mp hu with rfl | hu
    · exact ⟨_, _, rfl, h, hT.ints⟩
    · exact f u hu
theorem in_rows {pins : List (Addr × Obj)} {σ : L2.St} {H : Hp} {s : Shared} (I : Inv X pins σ H s) (hu : X.A.units + 64 < cLine) {xs : List V} {us : List Value} {A : List (List Int)} {q : Addr} {r : List Int} (rv : Vals xs us) (hR : RowsAre X.K H xs A) (hr : RowAt X.K H q r) :
    (∀ u ∈ us, SeqAt.EqAt X.A.in1 s u (.ref q) (decide (TS.intsOf s.heap u = r))) ∧ us.any (fun u => decide (TS.intsOf s.heap u = r)) = decide (r ∈ A) := by
  obtain ⟨e, f⟩ := rows_ints I rv hR
  refine ⟨fun u hu2 => ?_, ?_⟩
  · obtain ⟨b, r', rfl, hb, e2⟩ := f u hu2
    obtain ⟨as, r1⟩ := Dp.reads I (dI r') (.ref b) (.ref b) hb.dp rfl
    obtain ⟨bs, r2⟩ := Dp.reads I (dI r) (.ref q) (.ref q) hr.dp rfl
    have d1 := dI_depth r'
    have h1 : X.A.in1.units ≤ X.A.units + 1 := Nat.le_refl _
    have hmin : min (dI r').depth (dI r).depth ≤ 1 := Nat.le_trans (Nat.min_le_left _ _) d1
    have := SeqAt.eqAt_reads (dI r') (dI r) X.A.in1 s _ _ _ _ r1 r2 (dI_lay _) (dI_lay _) (by omega)
    rw [dI_eqv] at this
    rw [e2]
    exact this
  · rw [e]
    clear e f rv hR
    induction us with
    | nil => rfl
    | cons u us ih =>
      rw [List.any_cons, ih, List.map_cons]
      by_cases h : TS.intsOf s.heap u = r
      · simp [h]
      · have : ¬ r = TS.intsOf s.heap u := fun z => h z.symm
        simp [h, this]
theorem op_inT (hK : X.K = K) (hu : X.A.units + 64 < cLine) : OpR X (compareOp .In) (rInT K false) := by
  subst hK
  intro pins s σ H x y v u Q I rx ry h
  obtain ⟨p, q, xs, A, r, rfl, rfl, hs, hR, hr, k⟩ := h
  cases rx
  cases ry
  rcases hs with hq | hq
  · obtain ⟨its, rv, pl, hz⟩ := I.list hq
    obtain ⟨h1, h2⟩ := in_rows I hu rv hR hr
    refine SeqAt.in_listAt _ pl.isList (fun w hw => h1 w (by simpa using hw)) ⟨.bl _, H, I, rfl, ?_⟩
    rw [List.any_toArray, h2]
    exact k
  · obtain ⟨its, rv, pl, hz⟩ := I.tuple hq
    obtain ⟨h1, h2⟩ := in_rows I hu rv hR hr
    refine SeqAt.in_tupleAt _ pl (fun w hw => h1 w (by simpa using hw)) ⟨.bl _, H, I, rfl, ?_⟩
    rw [List.any_toArray, h2]
    exact k
theorem op_notInT (hK : X.K = K) (hu : X.A.units + 64 < cLine) : OpR X (compareOp .NotIn) (rInT K true) := by
  subst hK
  intro pins s σ H x y v u Q I rx ry h
  obtain ⟨p, q, xs, A, r, rfl, rfl, hs, hR, hr, k⟩ := h
  cases rx
  cases ry
  rcases hs with hq | hq
  · obtain ⟨its, rv, pl, hz⟩ := I.list hq
    obtain ⟨h1, h2⟩ := in_rows I hu rv hR hr
    refine SeqAt.notIn_listAt _ pl.isList (fun w hw => h1 w (by simpa using hw)) ⟨.bl _, H, I, rfl, ?_⟩
    rw [List.any_toArray, h2]
    exact k
  · obtain ⟨its, rv, pl, hz⟩ := I.tuple hq
    obtain ⟨h1, h2⟩ := in_rows I hu rv hR hr
    refine SeqAt.notIn_tupleAt _ pl (fun w hw => h1 w (by simpa using hw)) ⟨.bl _, H, I, rfl, ?_⟩
    rw [List.any_toArray, h2]
    exact k
end
end Wk

namespace Wk
open PySem L2
def spPow (K : PySem.W.Frag) : Sp := fun vs H Q _ => ∃ (M : Int) (a : Addr) (A : Mat) (n e : Nat), vs = [.int M, .ref a, .int (e : Int)] ∧ 2 ≤ M ∧ M < 2 ^ 64 ∧ MatAt K H a A ∧ Shp n n A ∧ MWd A ∧ 1 ≤ n ∧ n ≤ 16 ∧ NewMat K H (mpow M n A e) Q
theorem mred_wdC {M : Int} {A : Mat} (h : MRed M A) (hM : M < 2 ^ 64) : MWd A := fun r hr x hx => by
  have := h r hr x hx
  show x.natAbs < 2 ^ 200
  omega
theorem pow_odd {M : Int} {n : Nat} {R S : Fm} {m : Nat} (h : m % 2 = 1) : EqF M n (mulF n (mulF n R S) (powF n (mulF n S S) (m / 2))) (mulF n R (powF n S m)) := by
  rw [mulF_assoc]
  refine (EqF.refl _ _ _).mul ?_
  refine ((EqF.refl M n S).mul (powF_sq n S (m / 2))).trans ?_
  have e := powF_add (M := M) n S 1 (2 * (m / 2))
  rw [show 1 + 2 * (m / 2) = m by omega] at e
  exact ((one_mulF n S).symm.mul (.refl _ _ _)).trans e.symm
theorem pow_even {M : Int} {n : Nat} {R S : Fm} {m : Nat} (h : m % 2 = 0) : EqF M n (mulF n R (powF n (mulF n S S) (m / 2))) (mulF n R (powF n S m)) := by
  have e := powF_sq (M := M) n S (m / 2)
  rw [show 2 * (m / 2) = m by omega] at e
  exact (EqF.refl _ _ _).mul e
/-- while many > 0 -/
structure PInv (M : Int) (n : Nat) (T : Fm) (R S : Mat) (m : Nat) : Prop where
  r1 : Shp n n R
  r2 : MRed M R
  s1 : Shp n n S
  s2 : MWd S
  eq : EqF M n (mulF n (ent R) (powF n (ent S) m)) T
def muP (σ : L2.St) : Nat := match σ[2]? with
  | some (some (V.int y)) => y.toNat
  | _ => 0
section
variable {P : Program} {w : World} {K : PySem.W.Frag} {mg : Str → Option Value} {base : Heap}
end
end Wk

/-! guards made of guards: packed, mirrored, turned, behind zeros -/
namespace Wk
open PySem L2
theorem inv2_of {M : Int} {n : Nat} {A L R : Fm} (h : EqF M n (mulF n L A) oneF) (g : EqF M n (mulF n A R) oneF) : Inv2 M n A := by
  refine ⟨L, h, ?_⟩
  have e1 : EqF M n (mulF n A L) (mulF n (mulF n A L) (mulF n A R)) := ((mulF_one n _).symm).trans ((EqF.refl M n _).mul g.symm)
  refine e1.trans ?_
  rw [mulF_assoc, ← mulF_assoc n L]
  exact ((EqF.refl M n A).mul ((h.mul (EqF.refl M n R)).trans (one_mulF n _))).trans g
def trF (A : Fm) : Fm := fun i j => A j i
theorem trF_mul (n : Nat) (A B : Fm) (i j : Nat) : mulF n A (trF B) i j = mulF n B (trF A) j i := sumN_congr fun k _ => Int.mul_comm _ _
theorem inv2_prod {M : Int} (hM : 2 ≤ M) {n : Nat} {Lo Hi : Mat} (lL : Lo.length = n) (lH : Hi.length = n) (okL : ∀ i r, Lo[i]? = some r → LowR M n i r) (okH : ∀ i r, Hi[i]? = some r → HighR M n i r) : Inv2 M n (ent (prodL M n n Lo Hi)) := by
  have gL : ∀ i, i < n → ∃ r, Lo[i]? = some r ∧ LowR M n i r := fun i hi => ⟨Lo[i]'(by omega), List.getElem?_eq_getElem _, okL i _ (List.getElem?_eq_getElem _)⟩
  have gH : ∀ i, i < n → ∃ r, Hi[i]? = some r ∧ HighR M n i r := fun i hi => ⟨Hi[i]'(by omega), List.getElem?_eq_getElem _, okH i _ (List.getElem?_eq_getElem _)⟩
  obtain ⟨BL, hBL⟩ := tri_up (M := M) (n := n) (F := trF (ent Lo)) (fun i hi => by
    obtain ⟨r, e, h⟩ := gL i hi
    exact ⟨1, Eqm.eq (by show 1 * ent Lo i i = 1; rw [ent_at e, h.2.2.1]; rfl)⟩) fun i j hi hj hij => by
    obtain ⟨r, e, h⟩ := gL j hj
    exact Eqm.eq (by show ent Lo j i = 0; rw [ent_at e, h.2.2.2 i hij])
  obtain ⟨BH, hBH⟩ := tri_low (M := M) (n := n) (F := trF (ent Hi)) (fun i hi => by
    obtain ⟨r, e, h⟩ := gH i hi
    have hr : r.getD i 0 ∈ r := by
      rw [List.getD_eq_getElem?_getD, List.getElem?_eq_getElem (by rw [h.1]; exact hi)]
      exact List.getElem_mem _
    obtain ⟨v, hv⟩ := unit_inv (M := M) (by omega) (h.2.1 _ hr).1 h.2.2.1
    refine ⟨v, ?_⟩
    show Eqm M (v * ent Hi i i) 1
    rw [ent_at e, Int.mul_comm]
    exact hv) fun i j hi hj hij => by
    obtain ⟨r, e, h⟩ := gH j hj
    exact Eqm.eq (by show ent Hi j i = 0; rw [ent_at e, h.2.2.2 i hij])
  have eP : EqF M n (ent (prodL M n n Lo Hi)) (mulF n (ent Lo) (ent Hi)) := fun i j hi hj => by
    obtain ⟨r, e, h⟩ := gL i hi
    have e1 : (prodL M n n Lo Hi)[i]? = some ((List.range n).map fun j => (sumN n fun k => r.getD k 0 * (Hi.getD k []).getD j 0) % M) := by
      unfold prodL
      rw [List.getElem?_map, e]
      rfl
    rw [ent_at e1, List.getD_eq_getElem?_getD, List.getElem?_map, List.getElem?_range hj]
    refine (Eqm.mod M _).trans (Eqm.eq (sumN_congr fun k _ => ?_))
    rw [ent_at e]
    rfl
  have rL : EqF M n (mulF n (ent Lo) (trF BL)) oneF := fun i j hi hj => by
    rw [trF_mul]
    refine (hBL j i hj hi).trans (.eq ?_)
    unfold oneF
    by_cases e : i = j
    · rw [if_pos e, if_pos e.symm]
    · rw [if_neg e, if_neg fun z => e z.symm]
  have rH : EqF M n (mulF n (ent Hi) (trF BH)) oneF := fun i j hi hj => by
    rw [trF_mul]
    refine (hBH j i hj hi).trans (.eq ?_)
    unfold oneF
    by_cases e : i = j
    · rw [if_pos e, if_pos e.symm]
    · rw [if_neg e, if_neg fun z => e z.symm]
  obtain ⟨C, hC⟩ := linv_prod hM lL lH okL okH
  refine inv2_of hC (R := mulF n (trF BH) (trF BL)) ?_
  refine (eP.mul (EqF.refl M n _)).trans ?_
  rw [mulF_assoc, ← mulF_assoc n (ent Hi)]
  exact ((EqF.refl M n (ent Lo)).mul ((rH.mul (EqF.refl M n _)).trans (one_mulF n _))).trans rL
theorem powF_comm {M : Int} (n : Nat) (A : Fm) : ∀ j, EqF M n (mulF n A (powF n A j)) (mulF n (powF n A j) A)
  | 0 => (mulF_one n A).trans (one_mulF n A).symm
  | j + 1 => by
    show EqF M n (mulF n A (mulF n (powF n A j) A)) (mulF n (mulF n (powF n A j) A) A)
    rw [← mulF_assoc]
    exact (powF_comm n A j).mul (EqF.refl M n A)
theorem powF_linv {M : Int} {n : Nat} {A B : Fm} (h : EqF M n (mulF n B A) oneF) : ∀ j, ∃ C, EqF M n (mulF n C (powF n A j)) oneF
  | 0 => ⟨oneF, one_mulF n _⟩
  | j + 1 => by
    obtain ⟨C, hC⟩ := powF_linv h j
    refine ⟨mulF n B C, ?_⟩
    show EqF M n (mulF n (mulF n B C) (mulF n (powF n A j) A)) oneF
    rw [mulF_assoc, ← mulF_assoc n C]
    exact ((EqF.refl M n B).mul ((hC.mul (EqF.refl M n A)).trans (one_mulF n A))).trans h
theorem one_mulG {n i l : Nat} (hi : i < n) (G : Fm) : mulF n oneF G i l = G i l := by
  show (sumN n fun k => oneF i k * G k l) = _
  have : (sumN n fun k => oneF i k * G k l) = sumN n fun k => if k = i then G i l else 0 := sumN_congr fun k _ => by
    unfold oneF
    by_cases e : i = k
    · rw [if_pos e, if_pos e.symm, e, Int.one_mul]
    · rw [if_neg e, if_neg fun z => e z.symm, Int.zero_mul]
  rw [this, sumN_one hi]
theorem mulG_congr {M : Int} {n : Nat} {X Y G : Fm} {i l : Nat} (h : ∀ k, k < n → Eqm M (X i k) (Y i k)) : Eqm M (mulF n X G i l) (mulF n Y G i l) := Eqm.sum fun k hk => (h k hk).mul (.refl _ _)
/-! ### packed -/
def packB (M : Int) (w : Nat) (A G : Mat) : Nat → Mat
  | 0 => G
  | j + 1 => prodM M w A (packB M w A G j)
def packC (M : Int) (w : Nat) (A G : Mat) : Nat → Mat
  | 0 => G
  | j + 1 => besideM (packB M w A G (j + 1)) (packC M w A G j)
def packG (D : GD) (j : Nat) : GD := { M := D.M, A := mpow D.M D.n D.A (j + 1), G := packC D.M D.w D.A D.G j, st := D.st, en := D.en, n := D.n, w := D.w * (j + 1) }
theorem packB_ok {D : GD} (ok : GOk D) : ∀ j, Shp D.n D.w (packB D.M D.w D.A D.G j) ∧ MRed D.M (packB D.M D.w D.A D.G j) ∧ ∀ i l, i < D.n → l < D.w → Eqm D.M (ent (packB D.M D.w D.A D.G j) i l) (mulF D.n (powF D.n (ent D.A) j) (ent D.G) i l)
  | 0 => ⟨ok.sG, ok.rG, fun i l hi _ => .eq (one_mulG hi _).symm⟩
  | j + 1 => by
    obtain ⟨h1, h2, h3⟩ := packB_ok ok j
    refine ⟨prod_shp ok.sA, prod_red (by have := ok.m2; omega), fun i l hi hl => ?_⟩
    show Eqm D.M (ent (prodM D.M D.w D.A (packB D.M D.w D.A D.G j)) i l) _
    rw [ent_prod ok.sA h1 hi hl]
    refine (Eqm.mod _ _).trans ?_
    have e1 : Eqm D.M (sumN D.n fun k => ent D.A i k * ent (packB D.M D.w D.A D.G j) k l) (mulF D.n (ent D.A) (mulF D.n (powF D.n (ent D.A) j) (ent D.G)) i l) := Eqm.sum fun k hk => (Eqm.refl _ _).mul (h3 k l hk hl)
    refine e1.trans ?_
    rw [← mulF_assoc]
    exact mulG_congr fun k hk => powF_comm D.n (ent D.A) j i k hi hk
theorem beside_at {A B : Mat} {i : Nat} {a b : Row} (ha : A[i]? = some a) (hb : B[i]? = some b) : (besideM A B)[i]? = some (a ++ b) := by
  unfold besideM
  rw [List.getElem?_zipWith, ha, hb]
theorem packC_ok {D : GD} (ok : GOk D) : ∀ j, Shp D.n (D.w * (j + 1)) (packC D.M D.w D.A D.G j) ∧ MRed D.M (packC D.M D.w D.A D.G j)
  | 0 => ⟨by rw [Nat.zero_add, Nat.mul_one]; exact ok.sG, ok.rG⟩
  | j + 1 => by
    obtain ⟨h1, h2⟩ := packC_ok ok j
    obtain ⟨b1, b2, _⟩ := packB_ok ok (j + 1)
    have len : (packC D.M D.w D.A D.G (j + 1)).length = D.n := by
      show (List.zipWith _ _ _).length = _
      rw [List.length_zipWith, b1.1, h1.1, Nat.min_self]
    have row : ∀ r ∈ packC D.M D.w D.A D.G (j + 1), ∃ b ∈ packB D.M D.w D.A D.G (j + 1), ∃ c ∈ packC D.M D.w D.A D.G j, r = b ++ c := fun r hr => by
      obtain ⟨i, hi⟩ := List.mem_iff_getElem?.mp hr
      have hin : i < D.n := by
        have := (List.getElem?_eq_some_iff.mp hi).1
        omega
      obtain ⟨b, hb, _⟩ := shp_at b1 hin
      obtain ⟨c, hc, _⟩ := shp_at h1 hin
      have e := beside_at hb hc
      rw [show (packC D.M D.w D.A D.G (j + 1))[i]? = (besideM (packB D.M D.w D.A D.G (j + 1)) (packC D.M D.w D.A D.G j))[i]? from rfl, e] at hi
      cases hi
      exact ⟨b, List.mem_of_getElem? hb, c, List.mem_of_getElem? hc, rfl⟩
    refine ⟨⟨len, fun r hr => ?_⟩, fun r hr => ?_⟩
    · obtain ⟨b, hb, c, hc, rfl⟩ := row r hr
      rw [List.length_append, b1.2 b hb, h1.2 c hc, Nat.mul_succ D.w (j + 1)]
      omega
    · obtain ⟨b, hb, c, hc, rfl⟩ := row r hr
      intro x hx
      rcases List.mem_append.mp hx with hx | hx
      · exact b2 b hb x hx
      · exact h2 c hc x hx
theorem packG_ok {D : GD} (ok : GOk D) {j : Nat} (hj : D.w * (j + 1) ≤ 16) : GOk (packG D j) := by
  obtain ⟨p1, p2, p3⟩ := mpow_ok ok.m2 ok.sA (j + 1)
  obtain ⟨c1, c2⟩ := packC_ok ok j
  have hw := ok.w1
  obtain ⟨B, hB⟩ := ok.inv
  obtain ⟨C, hC⟩ := powF_linv hB (j + 1)
  exact { m2 := ok.m2, m18 := ok.m18, n1 := ok.n1, n16 := ok.n16, w1 := by show 1 ≤ D.w * (j + 1); exact Nat.le_trans hw (Nat.le_mul_of_pos_right _ (by omega)), w16 := hj, sA := p1, sG := c1, lst := ok.lst, len := ok.len, rA := p2, rG := c2, rst := ok.rst, ren := ok.ren, inv := ⟨C, ((EqF.refl D.M D.n C).mul p3).trans hC⟩ }
theorem pack_step {D : GD} (ok : GOk D) : ∀ (j : Nat) (v : Row) (xs : Mat), v.length = D.n → xs.length = j + 1 → (∀ x ∈ xs, x.length = D.w) → ∀ i, i < D.n → ∀ c, (packC D.M D.w D.A D.G j)[i]? = some c → Eqm D.M (mulV D.n (powF D.n (ent D.A) (j + 1)) (fn v) i + dotZ c xs.flatten) (fn (behindS D v xs) i)
  | 0, v, [x], hv, _, hx, i, hi, c, hc => by
    have lx := hx x List.mem_cons_self
    refine Eqm.trans ?_ (step_fn ok hv lx hi).symm
    have lc := ok.sG.2 c (List.mem_of_getElem? hc)
    have hc2 : D.G[i]? = some c := hc
    rw [show List.flatten [x] = x by simp, dot_fn lc lx]
    refine Eqm.add ?_ (.eq (sumN_congr fun k _ => by rw [ent_fn hc2]))
    show Eqm D.M (mulV D.n (mulF D.n oneF (ent D.A)) (fn v) i) _
    exact mulV_congr (fun k _ => .eq (one_mulG hi _)) fun k _ => .refl _ _
  | j + 1, v, x :: xs, hv, hl, hx, i, hi, r, hr => by
    have lx := hx x List.mem_cons_self
    obtain ⟨b1, b2, b3⟩ := packB_ok ok (j + 1)
    obtain ⟨b, hb, lb⟩ := shp_at b1 hi
    obtain ⟨c, hc, _⟩ := shp_at (packC_ok ok j).1 hi
    have e := beside_at hb hc
    rw [show (packC D.M D.w D.A D.G (j + 1))[i]? = (besideM (packB D.M D.w D.A D.G (j + 1)) (packC D.M D.w D.A D.G j))[i]? from rfl, e] at hr
    cases hr
    have ih := pack_step ok j (stepS D v x) xs (step_ok ok hv).1 (by simpa using hl) (fun y hy => hx y (List.mem_cons_of_mem _ hy)) i hi c hc
    refine Eqm.trans ?_ ih
    rw [List.flatten_cons, dotZ_append _ _ _ _ (by rw [lb, lx]), ← Int.add_assoc]
    refine Eqm.add ?_ (.refl _ _)
    have h2 : Eqm D.M (mulV D.n (powF D.n (ent D.A) (j + 1)) (fn (stepS D v x)) i) (mulV D.n (powF D.n (ent D.A) (j + 1)) (fun k => mulV D.n (ent D.A) (fn v) k + mulV D.w (ent D.G) (fn x) k) i) := mulV_congr (fun k _ => .refl _ _) fun k hk => step_fn ok hv lx hk
    refine Eqm.trans ?_ h2.symm
    rw [mulV_add, ← mulV_mul, ← mulV_mul]
    refine Eqm.add (.refl _ _) ?_
    rw [dot_fn lb lx]
    exact Eqm.sum fun k hk => by
      rw [← ent_fn hb]
      exact (b3 i k hi hk).mul (.refl _ _)
  | 0, _, [], _, h, _, _, _, _, _ => by cases h
  | 0, _, _ :: _ :: _, _, h, _, _, _, _, _ => by simp at h
  | _ + 1, _, [], _, h, _, _, _, _, _ => by simp at h
theorem pack_one {D : GD} (ok : GOk D) {j : Nat} (hj : D.w * (j + 1) ≤ 16) {v : Row} {xs : Mat} (hv : v.length = D.n) (rv : RRed D.M v) (hl : xs.length = j + 1) (hx : ∀ x ∈ xs, x.length = D.w) : stepS (packG D j) v xs.flatten = behindS D v xs := by
  have okP := packG_ok ok hj
  obtain ⟨s1, s2⟩ := step_ok okP (v := v) (x := xs.flatten) hv
  obtain ⟨t1, t2⟩ := behindS_ok ok (B := xs) hv rv
  refine rows_eqm s1 t1 s2 t2 fun i hi => ?_
  have hi : i < D.n := hi
  obtain ⟨p1, p2, p3⟩ := mpow_ok ok.m2 ok.sA (j + 1)
  obtain ⟨a, ha, la⟩ := shp_at p1 hi
  obtain ⟨c, hc, _⟩ := shp_at (packC_ok ok j).1 hi
  rw [fn_of (stepS_at okP (x := xs.flatten) hv ha hc)]
  refine (Eqm.mod _ _).trans (Eqm.trans ?_ (pack_step ok j v xs hv hl hx i hi c hc))
  refine Eqm.add ?_ (.refl _ _)
  rw [dot_fn la hv]
  exact Eqm.sum fun k hk => by
    rw [← ent_fn ha]
    exact (p3 i k hi hk).mul (.refl _ _)
theorem pack_behind {D : GD} (ok : GOk D) {j : Nat} (hj : D.w * (j + 1) ≤ 16) : ∀ (Xs : List Mat) (v : Row), v.length = D.n → RRed D.M v → (∀ xs ∈ Xs, xs.length = j + 1 ∧ ∀ x ∈ xs, x.length = D.w) → behindS (packG D j) v (Xs.map List.flatten) = behindS D v Xs.flatten
  | [], _, _, _, _ => rfl
  | xs :: Xs, v, hv, rv, h => by
    obtain ⟨h1, h2⟩ := h xs List.mem_cons_self
    rw [List.flatten_cons, behindS_app]
    obtain ⟨t1, t2⟩ := behindS_ok ok (B := xs) hv rv
    rw [← pack_behind ok hj Xs _ t1 t2 fun ys hy => h ys (List.mem_cons_of_mem _ hy), ← pack_one ok hj hv rv h1 h2]
    rfl
theorem pack_told {D : GD} (ok : GOk D) {j : Nat} (hj : D.w * (j + 1) ≤ 16) {Xs : List Mat} (h : ∀ xs ∈ Xs, xs.length = j + 1 ∧ ∀ x ∈ xs, x.length = D.w) : toldS (packG D j) (Xs.map List.flatten) = toldS D Xs.flatten := by
  unfold toldS
  rw [show (packG D j).st = D.st from rfl, pack_behind ok hj Xs _ ok.lst ok.rst h]
  rfl
theorem pack_same {D : GD} (ok : GOk D) : (packG D 0).Same D = true := by
  have e : mpow D.M D.n D.A 1 = D.A := by
    obtain ⟨p1, p2, p3⟩ := mpow_ok ok.m2 ok.sA 1
    exact mat_eqm p1 ok.sA p2 ok.rA (p3.trans (one_mulF D.n _))
  unfold GD.Same
  simp [packG, packC, e]
/-! ### mirrored -/
def mirG (D : GD) : GD := { D with G := D.G.map List.reverse }
theorem mirG_ok {D : GD} (ok : GOk D) : GOk (mirG D) := by
  have h1 : Shp D.n D.w (D.G.map List.reverse) := ⟨by rw [List.length_map]; exact ok.sG.1, fun r hr => by
    obtain ⟨g, hg, rfl⟩ := List.mem_map.mp hr
    rw [List.length_reverse]
    exact ok.sG.2 g hg⟩
  have h2 : MRed D.M (D.G.map List.reverse) := fun r hr x hx => by
    obtain ⟨g, hg, rfl⟩ := List.mem_map.mp hr
    exact ok.rG g hg x (List.mem_reverse.mp hx)
  exact { m2 := ok.m2, m18 := ok.m18, n1 := ok.n1, n16 := ok.n16, w1 := ok.w1, w16 := ok.w16, sA := ok.sA, sG := h1, lst := ok.lst, len := ok.len, rA := ok.rA, rG := h2, rst := ok.rst, ren := ok.ren, inv := ok.inv }
theorem sum_rev (l : List Int) : l.reverse.sum = l.sum := by
  induction l with
  | nil => rfl
  | cons a l ih => rw [List.reverse_cons, List.sum_append, List.sum_cons, ih, List.sum_cons, List.sum_nil]; omega
theorem dot_rev {a b : Row} (h : a.length = b.length) : dotZ a.reverse b = dotZ a b.reverse := by
  unfold dotZ
  rw [← sum_rev, List.reverse_zipWith (by simpa using h), List.reverse_reverse]
theorem mir_step {D : GD} (ok : GOk D) {v x : Row} (hv : v.length = D.n) (hx : x.length = D.w) : stepS (mirG D) v x = stepS D v x.reverse := by
  have okM := mirG_ok ok
  obtain ⟨s1, s2⟩ := step_ok okM (v := v) (x := x) hv
  obtain ⟨t1, t2⟩ := step_ok ok (v := v) (x := x.reverse) hv
  refine rows_eqm s1 t1 s2 t2 fun i hi => ?_
  have hi : i < D.n := hi
  obtain ⟨a, ha, la⟩ := shp_at ok.sA hi
  obtain ⟨g, hg, lg⟩ := shp_at ok.sG hi
  have hg2 : (mirG D).G[i]? = some g.reverse := by
    show (D.G.map List.reverse)[i]? = _
    rw [List.getElem?_map, hg]
    rfl
  rw [fn_of (stepS_at okM (x := x) hv ha hg2), fn_of (stepS_at ok (x := x.reverse) hv ha hg), dot_rev (by omega)]
  exact .refl _ _
theorem mir_behind {D : GD} (ok : GOk D) : ∀ (B : Mat) (v : Row), v.length = D.n → (∀ r ∈ B, r.length = D.w) → behindS (mirG D) v B = behindS D v (B.map List.reverse)
  | [], _, _, _ => rfl
  | x :: B, v, hv, h => by
    show behindS (mirG D) (stepS (mirG D) v x) B = behindS D (stepS D v x.reverse) (B.map List.reverse)
    rw [mir_step ok hv (h x List.mem_cons_self)]
    exact mir_behind ok B _ (step_ok ok hv).1 fun r hr => h r (List.mem_cons_of_mem _ hr)
theorem mir_told {D : GD} (ok : GOk D) {B : Mat} (h : ∀ r ∈ B, r.length = D.w) : toldS (mirG D) B = toldS D (B.map List.reverse) := by
  unfold toldS
  rw [show (mirG D).st = D.st from rfl, mir_behind ok B _ ok.lst h]
  rfl
end Wk

/-! guards made of guards: turned, behind zeros -/
namespace Wk
open PySem L2
theorem applyM_fn {M : Int} {h n : Nat} {T : Mat} (sT : Shp h n T) {v : Row} (hv : v.length = n) {i : Nat} (hi : i < h) : Eqm M (fn (applyM M T v) i) (mulV n (ent T) (fn v) i) := by
  obtain ⟨t, ht, lt⟩ := shp_at sT hi
  have e : (applyM M T v)[i]? = some (dotZ t v % M) := by
    unfold applyM
    rw [List.getElem?_map, ht]
    rfl
  rw [fn_of e]
  refine (Eqm.mod _ _).trans (.eq ?_)
  rw [dot_fn lt hv]
  exact sumN_congr fun k _ => by rw [ent_fn ht]
theorem told_fn {D : GD} (ok : GOk D) {v : Row} (hv : v.length = D.n) : (List.zipWith (fun a b => (a + b) % D.M) v D.en).length = D.n ∧ RRed D.M (List.zipWith (fun a b => (a + b) % D.M) v D.en) ∧ ∀ i, i < D.n → Eqm D.M (fn (List.zipWith (fun a b => (a + b) % D.M) v D.en) i) (fn v i + fn D.en i) := by
  have hM := ok.m2
  refine ⟨by rw [List.length_zipWith, hv, ok.len, Nat.min_self], fun x hx => ?_, fun i hi => ?_⟩
  · obtain ⟨i, hi⟩ := List.mem_iff_getElem?.mp hx
    rw [List.getElem?_zipWith] at hi
    cases h1 : v[i]? with
    | none =>
      rw [h1] at hi
      cases hi
    | some a =>
      cases h2 : D.en[i]? with
      | none =>
        rw [h1, h2] at hi
        cases hi
      | some b =>
        rw [h1, h2] at hi
        cases hi
        exact mod_red (by omega) _
  · have h1 := of_fn (show i < v.length by omega)
    have h2 := of_fn (show i < D.en.length by rw [ok.len]; exact hi)
    have e : (List.zipWith (fun a b => (a + b) % D.M) v D.en)[i]? = some ((fn v i + fn D.en i) % D.M) := by rw [List.getElem?_zipWith, h1, h2]
    rw [fn_of e]
    exact Eqm.mod _ _
def turG (D : GD) (T Y : Mat) : GD := { D with A := prodM D.M D.n (prodM D.M D.n T D.A) Y, G := prodM D.M D.w T D.G, st := applyM D.M T D.st, en := applyM D.M T D.en }
theorem tur_A {D : GD} (ok : GOk D) {T Y : Mat} (sT : Shp D.n D.n T) (sY : Shp D.n D.n Y) : EqF D.M D.n (ent (turG D T Y).A) (mulF D.n (mulF D.n (ent T) (ent D.A)) (ent Y)) :=
  (prod_F (prod_shp sT) sY).trans ((prod_F sT ok.sA).mul (EqF.refl D.M D.n _))
theorem turG_ok {D : GD} (ok : GOk D) {T Y : Mat} (sT : Shp D.n D.n T) (sY : Shp D.n D.n Y) (I : Inv2 D.M D.n (ent T)) (hY : EqF D.M D.n (mulF D.n (ent Y) (ent T)) oneF) : GOk (turG D T Y) := by
  have hM : 1 ≤ D.M := by have := ok.m2; omega
  obtain ⟨B, hB⟩ := ok.inv
  have hR := inv_right I hY
  have hinv : LInv D.M D.n (turG D T Y).A := by
    refine ⟨mulF D.n (mulF D.n (ent T) B) (ent Y), ?_⟩
    refine ((EqF.refl D.M D.n _).mul (tur_A ok sT sY)).trans ?_
    rw [mulF_assoc D.n (mulF D.n (ent T) B) (ent Y), ← mulF_assoc D.n (ent Y), ← mulF_assoc D.n (ent Y)]
    refine ((EqF.refl D.M D.n _).mul (((hY.mul (EqF.refl D.M D.n (ent D.A))).trans (one_mulF D.n _)).mul (EqF.refl D.M D.n (ent Y)))).trans ?_
    rw [mulF_assoc D.n (ent T) B, ← mulF_assoc D.n B]
    exact ((EqF.refl D.M D.n (ent T)).mul ((hB.mul (EqF.refl D.M D.n (ent Y))).trans (one_mulF D.n _))).trans hR
  exact { m2 := ok.m2, m18 := ok.m18, n1 := ok.n1, n16 := ok.n16, w1 := ok.w1, w16 := ok.w16, sA := prod_shp (prod_shp sT), sG := prod_shp sT, lst := applyM_len.trans sT.1, len := applyM_len.trans sT.1, rA := prod_red hM, rG := prod_red hM, rst := applyM_red hM, ren := applyM_red hM, inv := hinv }
theorem tur_told {D : GD} (ok : GOk D) {T Y : Mat} (sT : Shp D.n D.n T) (sY : Shp D.n D.n Y) (I : Inv2 D.M D.n (ent T)) (hY : EqF D.M D.n (mulF D.n (ent Y) (ent T)) oneF) {B : Mat} (hB : ∀ r ∈ B, r.length = D.w) : toldS (turG D T Y) B = applyM D.M T (toldS D B) := by
  have hM : 1 ≤ D.M := by have := ok.m2; omega
  have ok' := turG_ok ok sT sY I hY
  obtain ⟨b1, b2⟩ := behindS_ok ok (B := B) ok.lst ok.rst
  obtain ⟨c1, c2⟩ := behindS_ok ok' (B := B) ok'.lst ok'.rst
  obtain ⟨t1, t2, t3⟩ := told_fn ok b1
  obtain ⟨u1, u2, u3⟩ := told_fn ok' c1
  have lenR : (applyM D.M T (toldS D B)).length = D.n := applyM_len.trans sT.1
  refine rows_eqm (M := D.M) (w := D.n) (r := toldS (turG D T Y) B) u1 lenR u2 (applyM_red hM) fun i hi => ?_
  refine (u3 i hi).trans (Eqm.trans ?_ (applyM_fn sT t1 hi).symm)
  have hA : EqF D.M D.n (mulF D.n (ent T) (ent D.A)) (mulF D.n (ent (turG D T Y).A) (ent T)) := by
    refine EqF.symm (((tur_A ok sT sY).mul (EqF.refl D.M D.n (ent T))).trans ?_)
    rw [mulF_assoc D.n (mulF D.n (ent T) (ent D.A))]
    exact ((EqF.refl D.M D.n _).mul hY).trans (mulF_one D.n _)
  have h1 := intertwine ok ok' rfl rfl rfl (ent T) hA (fun i j hi hj => by
    show Eqm D.M (ent (prodM D.M D.w T D.G) i j) _
    rw [ent_prod sT ok.sG hi hj]
    exact Eqm.mod _ _) B D.st (turG D T Y).st hB ok.lst ok'.lst (fun i hi => applyM_fn sT ok.lst hi) i hi
  refine (h1.add (applyM_fn sT ok.len hi)).trans ?_
  rw [← mulV_add]
  exact mulV_congr (fun k _ => .refl _ _) fun k hk => (t3 k hk).symm
/-! ### behind zeros -/
def zerG (D : GD) (m : Nat) : GD := { D with G := prodM D.M D.w (mpow D.M D.n D.A m) D.G, st := applyM D.M (mpow D.M D.n D.A m) D.st }
theorem zerG_ok {D : GD} (ok : GOk D) (m : Nat) : GOk (zerG D m) := by
  have hM : 1 ≤ D.M := by have := ok.m2; omega
  obtain ⟨p1, p2, p3⟩ := mpow_ok ok.m2 ok.sA m
  exact { m2 := ok.m2, m18 := ok.m18, n1 := ok.n1, n16 := ok.n16, w1 := ok.w1, w16 := ok.w16, sA := ok.sA, sG := prod_shp p1, lst := applyM_len.trans p1.1, len := ok.len, rA := ok.rA, rG := prod_red hM, rst := applyM_red hM, ren := ok.ren, inv := ok.inv }
theorem zeros_fn0 (w j : Nat) : fn (List.replicate w (0 : Int)) j = 0 := by
  show (List.replicate w (0 : Int)).getD j 0 = 0
  rw [List.getD_eq_getElem?_getD, List.getElem?_replicate]
  split <;> rfl
theorem behind_zeros {D : GD} (ok : GOk D) : ∀ (m : Nat) (v : Row), v.length = D.n → ∀ i, i < D.n → Eqm D.M (fn (behindS D v (List.replicate m (List.replicate D.w 0))) i) (mulV D.n (powF D.n (ent D.A) m) (fn v) i)
  | 0, v, hv, i, hi => .eq (by
    show fn v i = sumN D.n fun k => oneF i k * fn v k
    exact (one_mulG (l := 0) hi (fun k _ => fn v k)).symm)
  | m + 1, v, hv, i, hi => by
    rw [List.replicate_succ]
    show Eqm D.M (fn (behindS D (stepS D v (List.replicate D.w 0)) (List.replicate m (List.replicate D.w 0))) i) _
    refine (behind_zeros ok m _ (step_ok ok hv).1 i hi).trans ?_
    show Eqm D.M _ (mulV D.n (mulF D.n (powF D.n (ent D.A) m) (ent D.A)) (fn v) i)
    rw [mulV_mul]
    refine mulV_congr (fun k _ => .refl _ _) fun k hk => (step_fn ok hv (by simp) hk).trans (.eq ?_)
    have : mulV D.w (ent D.G) (fn (List.replicate D.w 0)) k = 0 := by
      show (sumN D.w fun j => ent D.G k j * fn (List.replicate D.w 0) j) = 0
      rw [sumN_congr (g := fun _ => 0) fun j _ => by rw [zeros_fn0, Int.mul_zero], sumN_zero]
    rw [this, Int.add_zero]
theorem zer_told {D : GD} (ok : GOk D) (m : Nat) {B : Mat} (hB : ∀ r ∈ B, r.length = D.w) : toldS (zerG D m) B = toldS D (B ++ List.replicate m (List.replicate D.w 0)) := by
  have ok' := zerG_ok ok m
  obtain ⟨p1, p2, p3⟩ := mpow_ok ok.m2 ok.sA m
  obtain ⟨b1, b2⟩ := behindS_ok ok (B := B) ok.lst ok.rst
  obtain ⟨c1, c2⟩ := behindS_ok ok' (B := B) ok'.lst ok'.rst
  obtain ⟨d1, d2⟩ := behindS_ok ok (B := B ++ List.replicate m (List.replicate D.w 0)) ok.lst ok.rst
  have e : behindS (zerG D m) (zerG D m).st B = behindS D D.st (B ++ List.replicate m (List.replicate D.w 0)) := by
    refine rows_eqm (M := D.M) (w := D.n) c1 d1 c2 d2 fun i hi => ?_
    rw [behindS_app]
    have h1 := intertwine ok ok' rfl rfl rfl (powF D.n (ent D.A) m) (EqF.symm (powF_comm D.n (ent D.A) m)) (fun i j hi hj => by
      show Eqm D.M (ent (prodM D.M D.w (mpow D.M D.n D.A m) D.G) i j) _
      rw [ent_prod p1 ok.sG hi hj]
      refine (Eqm.mod _ _).trans ?_
      exact mulG_congr fun k hk => p3 i k hi hk) B D.st (zerG D m).st hB ok.lst ok'.lst (fun i hi => (applyM_fn p1 ok.lst hi).trans (mulV_congr (fun k hk => p3 i k hi hk) fun k _ => .refl _ _)) i hi
    exact h1.trans (behind_zeros ok m _ b1 i hi).symm
  unfold toldS
  rw [e]
  rfl
theorem id_apply {M : Int} (hM : 2 ≤ M) {n : Nat} {v : Row} (hv : v.length = n) (rv : RRed M v) : applyM M (idM n) v = v := by
  refine rows_eqm (M := M) (w := n) (applyM_len.trans (one_shp n).1) hv (applyM_red (by omega)) rv fun i hi => ?_
  refine (applyM_fn (one_shp n) hv hi).trans ?_
  refine (mulV_congr (B := oneF) (u := fn v) (fun k hk => .eq (one_ent hi hk)) fun k _ => .refl _ _).trans (.eq ?_)
  exact one_mulG (l := 0) hi (fun k _ => fn v k)
theorem id_prod {M : Int} (hM : 2 ≤ M) {n w : Nat} {G : Mat} (sG : Shp n w G) (rG : MRed M G) : prodM M w (idM n) G = G := by
  refine mat_ext (prod_shp (one_shp n)) sG fun i j hi hj => ?_
  rw [ent_prod (one_shp n) sG hi hj]
  have e : Eqm M (sumN n fun k => ent (idM n) i k * ent G k j) (ent G i j) := (mulG_congr (Y := oneF) fun k hk => .eq (one_ent hi hk)).trans (.eq (one_mulG hi _))
  rw [e.emod, Int.emod_eq_of_lt (mred_ent sG rG hi hj).1 (mred_ent sG rG hi hj).2]
theorem zer_same {D : GD} (ok : GOk D) : (zerG D 0).Same D = true := by
  have e1 : prodM D.M D.w (mpow D.M D.n D.A 0) D.G = D.G := id_prod ok.m2 ok.sG ok.rG
  have e2 : applyM D.M (mpow D.M D.n D.A 0) D.st = D.st := id_apply ok.m2 ok.lst ok.rst
  unfold GD.Same
  simp [zerG, e1, e2]
end Wk

/-! bits of a number, the highest one first; the register -/
namespace Wk
def bitsL : Nat → Int → Row
  | 0, _ => []
  | k + 1, n => (n / 2 ^ k % 2) :: bitsL k n
def numL : Row → Int
  | [] => 0
  | b :: bs => b * 2 ^ bs.length + numL bs
def xorL (a b : Row) : Row := List.zipWith (fun x y => if x ≠ y then 1 else 0) a b
def IsBits (r : Row) : Prop := ∀ x ∈ r, x = 0 ∨ x = 1
theorem mod2 (x : Int) : x % 2 = 0 ∨ x % 2 = 1 := by omega
theorem bits_len (k : Nat) (n : Int) : (bitsL k n).length = k := by
  induction k with
  | zero => rfl
  | succ k ih => simp [bitsL, ih]
theorem bits_bits (k : Nat) (n : Int) : IsBits (bitsL k n) := by
  induction k with
  | zero => intro x hx; cases hx
  | succ k ih =>
    intro x hx
    rcases List.mem_cons.mp hx with rfl | h
    · exact mod2 _
    · exact ih x h
theorem IsBits.red {r : Row} (h : IsBits r) : RRed 2 r := fun x hx => by
  rcases h x hx with rfl | rfl <;> omega
theorem bits_at {k i : Nat} (n : Int) (h : i < k) : (bitsL k n)[i]? = some (n / 2 ^ (k - 1 - i) % 2) := by
  induction k generalizing i with
  | zero => omega
  | succ k ih =>
    cases i with
    | zero => simp [bitsL]
    | succ i =>
      show (bitsL k n)[i]? = _
      rw [ih (by omega)]
      congr 4
      omega
theorem pow2_pos (k : Nat) : (0 : Int) < 2 ^ k := Int.pow_pos (by decide)
theorem bits_congr {k : Nat} {n m : Int} (h : n % 2 ^ k = m % 2 ^ k) : bitsL k n = bitsL k m := by
  induction k generalizing n m with
  | zero => rfl
  | succ k ih =>
    have p := pow2_pos k
    have e : (2 : Int) ^ (k + 1) = 2 ^ k * 2 := Int.pow_succ 2 k
    rw [e] at h
    have h2 : n % 2 ^ k = m % 2 ^ k := by
      have := congrArg (· % (2 : Int) ^ k) h
      simpa [Int.emod_emod_of_dvd _ (Int.dvd_mul_right ((2 : Int) ^ k) 2)] using this
    have h3 : n / 2 ^ k % 2 = m / 2 ^ k % 2 := by
      have q : ∀ x : Int, x / 2 ^ k % 2 = x % (2 ^ k * 2) / 2 ^ k := fun x => by
        have e1 := Int.emod_add_mul_ediv x (2 ^ k * 2)
        have e2 : x / (2 ^ k * 2) = x / 2 ^ k / 2 := (Int.ediv_ediv_of_nonneg (Int.le_of_lt p)).symm
        have e3 : x % (2 ^ k * 2) = x - 2 ^ k * 2 * (x / (2 ^ k * 2)) := by omega
        rw [e3, e2, Int.mul_assoc, Int.sub_mul_ediv_left x _ (by omega)]
        omega
      rw [q, q, h]
    simp [bitsL, h3, ih h2]
theorem bits_mod (k : Nat) (n : Int) : bitsL k (n % 2 ^ k) = bitsL k n := bits_congr (Int.emod_emod_of_dvd n (Int.dvd_refl _))
theorem num_bits {k : Nat} : ∀ {n : Int}, 0 ≤ n → n < 2 ^ k → numL (bitsL k n) = n := by
  induction k with
  | zero =>
    intro n h0 h1
    show (0 : Int) = n
    have : (2 : Int) ^ 0 = 1 := rfl
    omega
  | succ k ih =>
    intro n h0 h1
    have p := pow2_pos k
    have e : (2 : Int) ^ (k + 1) = 2 ^ k * 2 := Int.pow_succ 2 k
    show (n / 2 ^ k % 2) * 2 ^ (bitsL k n).length + numL (bitsL k n) = n
    rw [bits_len, ← bits_mod k n, ih (Int.emod_nonneg _ (by omega)) (Int.emod_lt_of_pos _ p)]
    have h2 : n / 2 ^ k < 2 := Int.ediv_lt_of_lt_mul p (by rw [e, Int.mul_comm] at h1; exact h1)
    have h3 : 0 ≤ n / 2 ^ k := Int.ediv_nonneg h0 (by omega)
    rw [Int.emod_eq_of_lt h3 h2, Int.mul_comm]
    have := Int.emod_add_mul_ediv n (2 ^ k)
    omega
theorem num_le {r : Row} (h : IsBits r) : 0 ≤ numL r ∧ numL r < 2 ^ r.length := by
  induction r with
  | nil => exact ⟨Int.le_refl _, by decide⟩
  | cons b bs ih =>
    obtain ⟨h1, h2⟩ := ih fun x hx => h x (List.mem_cons_of_mem _ hx)
    have p := pow2_pos bs.length
    have e : (2 : Int) ^ (bs.length + 1) = 2 ^ bs.length * 2 := Int.pow_succ 2 _
    show 0 ≤ b * 2 ^ bs.length + numL bs ∧ b * 2 ^ bs.length + numL bs < 2 ^ (bs.length + 1)
    rw [e]
    rcases h b (List.mem_cons_self ..) with rfl | rfl <;> constructor <;> omega
theorem bits_num {r : Row} (h : IsBits r) : bitsL r.length (numL r) = r := by
  induction r with
  | nil => rfl
  | cons b bs ih =>
    have hb := fun x hx => h x (List.mem_cons_of_mem _ hx)
    obtain ⟨h1, h2⟩ := num_le hb
    have p := pow2_pos bs.length
    show ((b * 2 ^ bs.length + numL bs) / 2 ^ bs.length % 2) :: bitsL bs.length (b * 2 ^ bs.length + numL bs) = b :: bs
    have e1 : (b * 2 ^ bs.length + numL bs) / 2 ^ bs.length = b := by
      rw [Int.add_comm, Int.add_mul_ediv_right _ _ (by omega), Int.ediv_eq_zero_of_lt h1 h2]
      omega
    have e2 : bitsL bs.length (b * 2 ^ bs.length + numL bs) = bitsL bs.length (numL bs) := bits_congr (by
      rw [Int.add_comm, Int.add_mul_emod_self_right])
    rw [e1, e2, ih hb]
    rcases h b (List.mem_cons_self ..) with rfl | rfl <;> rfl
theorem bits_dbl (k : Nat) (h : Int) : bitsL (k + 1) (2 * h) = bitsL k h ++ [0] := by
  induction k with
  | zero =>
    show [2 * h / 2 ^ 0 % 2] = [0]
    rw [Int.pow_zero, Int.ediv_one]
    simp
  | succ k ih =>
    show (2 * h / 2 ^ (k + 1) % 2) :: bitsL (k + 1) (2 * h) = (h / 2 ^ k % 2) :: (bitsL k h ++ [0])
    rw [ih, Int.pow_succ, Int.mul_comm (2 ^ k) 2, Int.mul_ediv_mul_of_pos _ _ (by decide)]
theorem xor_len (a b : Row) : (xorL a b).length = min a.length b.length := by simp [xorL]
theorem xor_bits (a b : Row) : IsBits (xorL a b) := fun x hx => by
  unfold xorL at hx
  obtain ⟨i, hi, e⟩ := List.mem_iff_getElem.mp hx
  rw [List.getElem_zipWith] at e
  split at e
  · exact .inr e.symm
  · exact .inl e.symm
/-- one bit -/
def regStep (w : Nat) (p h b : Int) : Int :=
  if h / 2 ^ (w - 1) ≠ b then numL (xorL (bitsL w (2 * h % (2 * 2 ^ (w - 1)))) (bitsL w p)) else 2 * h % (2 * 2 ^ (w - 1))
def regRun (w : Nat) (p h : Int) (bs : Row) : Int := bs.foldl (regStep w p) h
theorem top_eq {w : Nat} (h : 1 ≤ w) : (2 : Int) * 2 ^ (w - 1) = 2 ^ w := by
  obtain ⟨k, rfl⟩ : ∃ k, w = k + 1 := ⟨w - 1, by omega⟩
  rw [Nat.add_sub_cancel, Int.pow_succ, Int.mul_comm]
theorem regStep_ok {w : Nat} (hw : 1 ≤ w) (p h b : Int) : 0 ≤ regStep w p h b ∧ regStep w p h b < 2 ^ w := by
  unfold regStep
  split
  · have := num_le (xor_bits (bitsL w (2 * h % (2 * 2 ^ (w - 1)))) (bitsL w p))
    rw [xor_len, bits_len, bits_len, Nat.min_self] at this
    exact this
  · rw [top_eq hw]
    exact ⟨Int.emod_nonneg _ (by have := pow2_pos w; omega), Int.emod_lt_of_pos _ (pow2_pos w)⟩
theorem regRun_ok {w : Nat} (hw : 1 ≤ w) (p : Int) : ∀ (bs : Row) (h : Int), 0 ≤ h → h < 2 ^ w → 0 ≤ regRun w p h bs ∧ regRun w p h bs < 2 ^ w
  | [], h, h0, h1 => ⟨h0, h1⟩
  | b :: bs, h, h0, h1 => regRun_ok hw p bs _ (regStep_ok hw p h b).1 (regStep_ok hw p h b).2
theorem xor_at {a b : Row} {i : Nat} {x y : Int} (ha : a[i]? = some x) (hb : b[i]? = some y) (hx : x = 0 ∨ x = 1) (hy : y = 0 ∨ y = 1) : (xorL a b)[i]? = some ((x + y) % 2) := by
  unfold xorL
  rw [List.getElem?_zipWith, ha, hb]
  rcases hx with rfl | rfl <;> rcases hy with rfl | rfl <;> simp
theorem bits_get {k i : Nat} (n : Int) (h : i < k) : ∃ x, (bitsL k n)[i]? = some x ∧ (x = 0 ∨ x = 1) := ⟨_, bits_at n h, mod2 _⟩
/-- the bits behind one bit -/
theorem reg_bits {k : Nat} {p h b : Int} (h0 : 0 ≤ h) (h1 : h < 2 ^ (k + 1)) (hb : b = 0 ∨ b = 1) {i : Nat} (hi : i < k + 1) :
    ∃ t, (bitsL (k + 1) p)[i]? = some t ∧ (bitsL (k + 1) (regStep (k + 1) p h b))[i]? = some ((t * (h / 2 ^ k % 2) + (bitsL k h).getD i 0 + t * b) % 2) := by
  have hp := pow2_pos k
  have e : (2 : Int) ^ (k + 1) = 2 ^ k * 2 := Int.pow_succ 2 k
  have hq0 : 0 ≤ h / 2 ^ k := Int.ediv_nonneg h0 (by omega)
  have hq1 : h / 2 ^ k < 2 := Int.ediv_lt_of_lt_mul hp (by rw [e, Int.mul_comm] at h1; exact h1)
  have hq : h / 2 ^ k % 2 = h / 2 ^ k := Int.emod_eq_of_lt hq0 hq1
  obtain ⟨t, ht, hb2⟩ := bits_get p hi
  refine ⟨t, ht, ?_⟩
  have e2 : bitsL (k + 1) (2 * h % (2 * 2 ^ k)) = bitsL k h ++ [0] := by
    rw [show (2 : Int) * 2 ^ k = 2 ^ (k + 1) by rw [e, Int.mul_comm], bits_mod, bits_dbl]
  have hv : ∃ v, (bitsL k h ++ [0])[i]? = some v ∧ (bitsL k h).getD i 0 = v ∧ (v = 0 ∨ v = 1) := by
    rcases Nat.lt_or_ge i k with hik | hik
    · obtain ⟨x, hx, hx2⟩ := bits_get h hik
      exact ⟨x, by rw [List.getElem?_append_left (by rw [bits_len]; exact hik)]; exact hx, by simp [List.getD_eq_getElem?_getD, hx], hx2⟩
    · have : i = k := by omega
      subst this
      refine ⟨0, ?_, ?_, .inl rfl⟩
      · rw [List.getElem?_append_right (by rw [bits_len]; exact Nat.le_refl _), bits_len, Nat.sub_self]
        rfl
      · rw [List.getD_eq_getElem?_getD, List.getElem?_eq_none (by rw [bits_len]; exact Nat.le_refl _)]
        rfl
  obtain ⟨v, hv1, hv2, hv3⟩ := hv
  rw [hv2, hq]
  show (bitsL (k + 1) (if h / 2 ^ k ≠ b then numL (xorL (bitsL (k + 1) (2 * h % (2 * 2 ^ k))) (bitsL (k + 1) p)) else 2 * h % (2 * 2 ^ k)))[i]? = _
  rw [e2]
  generalize h / 2 ^ k = q at *
  have hq2 : q = 0 ∨ q = 1 := by omega
  split
  · rename_i ne
    have e3 : bitsL (k + 1) (numL (xorL (bitsL k h ++ [0]) (bitsL (k + 1) p))) = xorL (bitsL k h ++ [0]) (bitsL (k + 1) p) := by
      have := bits_num (xor_bits (bitsL k h ++ [0]) (bitsL (k + 1) p))
      rw [xor_len, bits_len, List.length_append, bits_len] at this
      simpa using this
    rw [e3, xor_at hv1 ht hv3 hb2]
    rcases hq2 with rfl | rfl <;> rcases hb with rfl | rfl
    · exact absurd rfl ne
    · congr 2; omega
    · congr 2; omega
    · exact absurd rfl ne
  · rename_i ne
    have ne : q = b := Classical.byContradiction ne
    subst ne
    rw [e2, hv1]
    rcases hv3 with rfl | rfl <;> rcases hb2 with rfl | rfl <;> rcases hq2 with rfl | rfl <;> rfl
theorem num_snoc (r : Row) (b : Int) : numL (r ++ [b]) = 2 * numL r + b := by
  induction r with
  | nil =>
    show b * 2 ^ 0 + 0 = 2 * 0 + b
    simp
  | cons x r ih =>
    show x * 2 ^ (r ++ [b]).length + numL (r ++ [b]) = 2 * (x * 2 ^ r.length + numL r) + b
    rw [ih, List.length_append, List.length_singleton, Int.pow_succ, ← Int.mul_assoc, Int.mul_add, Int.mul_comm (x * 2 ^ r.length) 2]
    omega
theorem num_ones (k : Nat) : numL (List.replicate k 1) = 2 ^ k - 1 := by
  induction k with
  | zero => rfl
  | succ k ih =>
    rw [List.replicate_succ]
    show 1 * 2 ^ (List.replicate k 1).length + numL (List.replicate k 1) = 2 ^ (k + 1) - 1
    rw [ih, List.length_replicate, Int.pow_succ]
    omega
theorem num_zeros (k : Nat) : numL (List.replicate k 0) = 0 := by
  induction k with
  | zero => rfl
  | succ k ih =>
    rw [List.replicate_succ]
    show 0 * 2 ^ (List.replicate k 0).length + numL (List.replicate k 0) = 0
    rw [ih]
    simp
theorem num_top (k : Nat) : numL (1 :: List.replicate k 0) = 2 ^ k := by
  show 1 * 2 ^ (List.replicate k (0 : Int)).length + numL (List.replicate k 0) = 2 ^ k
  rw [num_zeros, List.length_replicate]
  omega
theorem pow2_le {k n : Nat} (h : k ≤ n) : (2 : Int) ^ k ≤ 2 ^ n := by
  obtain ⟨d, rfl⟩ : ∃ d, n = k + d := ⟨n - k, by omega⟩
  rw [Int.pow_add]
  have h1 := pow2_pos d
  have h2 := pow2_pos k
  have := Int.mul_le_mul_of_nonneg_left (show (1 : Int) ≤ 2 ^ d by omega) (Int.le_of_lt h2)
  rw [Int.mul_one] at this
  exact this
theorem xor_num_succ (k : Nat) (a b : Int) : numL (xorL (bitsL (k + 1) a) (bitsL (k + 1) b)) = 2 ^ k * (if a / 2 ^ k % 2 ≠ b / 2 ^ k % 2 then 1 else 0) + numL (xorL (bitsL k a) (bitsL k b)) := by
  show (if a / 2 ^ k % 2 ≠ b / 2 ^ k % 2 then 1 else 0) * 2 ^ (xorL (bitsL k a) (bitsL k b)).length + numL (xorL (bitsL k a) (bitsL k b)) = _
  rw [xor_len, bits_len, bits_len, Nat.min_self, Int.mul_comm]
theorem xor_num_sum (k : Nat) (a b : Int) : ((List.range k).map fun i => (2 : Int) ^ i * (if a / 2 ^ i % 2 ≠ b / 2 ^ i % 2 then 1 else 0)).sum = numL (xorL (bitsL k a) (bitsL k b)) := by
  induction k with
  | zero => rfl
  | succ k ih =>
    rw [List.range_succ, List.map_append, List.sum_append, ih, xor_num_succ]
    simp only [List.map_cons, List.map_nil, List.sum_cons, List.sum_nil]
    omega
/-- the register by tops -/
theorem regStep_top {k : Nat} {p h b : Int} (h0 : 0 ≤ h) (h1 : h < 2 ^ (k + 1)) (hb : b = 0 ∨ b = 1) : regStep (k + 1) p h b = if (h / 2 ^ k + b) % 2 = 1 then numL (xorL (bitsL (k + 1) (2 * h % 2 ^ (k + 1))) (bitsL (k + 1) p)) else 2 * h % 2 ^ (k + 1) := by
  have hp := pow2_pos k
  have e : (2 : Int) ^ (k + 1) = 2 ^ k * 2 := Int.pow_succ 2 k
  have hq0 : 0 ≤ h / 2 ^ k := Int.ediv_nonneg h0 (by omega)
  have hq1 : h / 2 ^ k < 2 := Int.ediv_lt_of_lt_mul hp (by rw [e, Int.mul_comm] at h1; exact h1)
  have et : (2 : Int) * 2 ^ k = 2 ^ (k + 1) := by rw [e, Int.mul_comm]
  show (if h / 2 ^ k ≠ b then numL (xorL (bitsL (k + 1) (2 * h % (2 * 2 ^ k))) (bitsL (k + 1) p)) else 2 * h % (2 * 2 ^ k)) = _
  rw [et]
  by_cases c : h / 2 ^ k = b
  · rw [if_neg (by simp [c]), if_neg (by rw [c]; omega)]
  · rw [if_pos c, if_pos (by omega)]
end Wk

/-! the guard of remainders, of sums -/
namespace Wk
open PySem L2
def remA (k : Nat) (t : Row) : Mat := (List.range (k + 1)).map fun i => t.getD i 0 :: unitRow k i
def remG (k : Nat) (p s e : Int) : GD := { M := 2, A := remA k (bitsL (k + 1) p), G := (bitsL (k + 1) p).map fun x => [x], st := bitsL (k + 1) s, en := bitsL (k + 1) e, n := k + 1, w := 1 }
theorem getD_of {r : Row} {i : Nat} {x : Int} (h : r[i]? = some x) : r.getD i 0 = x := by rw [List.getD_eq_getElem?_getD, h]; rfl
theorem remA_at {k i : Nat} {t : Row} (h : i < k + 1) : (remA k t)[i]? = some (t.getD i 0 :: unitRow k i) := by
  unfold remA
  rw [List.getElem?_map, List.getElem?_range h]
  rfl
theorem unit_get {s p j : Nat} (h : j < s) : (unitRow s p).getD j 0 = if j = p then 1 else 0 := by
  unfold unitRow
  rw [List.getD_eq_getElem?_getD, List.getElem?_map, List.getElem?_range h]
  rfl
theorem remA_ent {k i j : Nat} {t : Row} (hi : i < k + 1) (hj : j < k + 1) : ent (remA k t) i j = if j = 0 then t.getD i 0 else if j = i + 1 then 1 else 0 := by
  rw [ent_at (remA_at hi)]
  cases j with
  | zero => rfl
  | succ j =>
    show (unitRow k i).getD j 0 = _
    rw [unit_get (by omega)]
    simp
theorem remA_inv {k : Nat} {t : Row} (ht : t.getD k 0 = 1) : LInv 2 (k + 1) (remA k t) := by
  refine ⟨fun i l => match i with | 0 => if l = k then 1 else 0 | i + 1 => (if l = i then 1 else 0) + (-(t.getD i 0)) * (if l = k then 1 else 0), fun i j hi hj => .eq ?_⟩
  have one : ∀ a, a < k + 1 → sumN (k + 1) (fun l => (if l = a then 1 else 0) * ent (remA k t) l j) = ent (remA k t) a j := fun a ha => by
    rw [sumN_congr (g := fun l => if l = a then ent (remA k t) a j else 0), sumN_one ha]
    intro l _
    split
    · rename_i e; rw [e, Int.one_mul]
    · rw [Int.zero_mul]
  have last : ent (remA k t) k j = if j = 0 then 1 else 0 := by
    rw [remA_ent (by omega) hj, ht]
    split
    · rfl
    · rw [if_neg (by omega)]
  cases i with
  | zero =>
    show sumN (k + 1) (fun l => (if l = k then 1 else 0) * ent (remA k t) l j) = _
    rw [one k (by omega), last]
    unfold oneF
    by_cases e : j = 0
    · rw [if_pos e, if_pos e.symm]
    · rw [if_neg e, if_neg (fun z => e z.symm)]
  | succ i =>
    show sumN (k + 1) (fun l => ((if l = i then 1 else 0) + (-(t.getD i 0)) * (if l = k then 1 else 0)) * ent (remA k t) l j) = _
    have : ∀ l, l < k + 1 → ((if l = i then 1 else 0) + (-(t.getD i 0)) * (if l = k then 1 else 0)) * ent (remA k t) l j = (if l = i then 1 else 0) * ent (remA k t) l j + (-(t.getD i 0)) * ((if l = k then 1 else 0) * ent (remA k t) l j) := fun l _ => by
      rw [Int.add_mul, Int.mul_assoc]
    rw [sumN_congr this, sumN_add, sumN_mul, one i (by omega), one k (by omega), last, remA_ent (by omega) hj]
    unfold oneF
    by_cases e : j = 0
    · subst e
      simp
      omega
    · rw [if_neg e, if_neg e, Int.mul_zero, Int.add_zero]
      by_cases e2 : j = i + 1
      · rw [if_pos e2, if_pos e2.symm]
      · rw [if_neg e2, if_neg (fun z => e2 z.symm)]
theorem unit_red (s p : Nat) : RRed 2 (unitRow s p) := fun x hx => by
  unfold unitRow at hx
  obtain ⟨j, _, rfl⟩ := List.mem_map.mp hx
  split <;> omega
theorem unit_len (s p : Nat) : (unitRow s p).length = s := by simp [unitRow]
theorem remG_ok {k : Nat} (hk : k ≤ 15) {p : Int} (hp : p % 2 = 1) (s e : Int) : GOk (remG k p s e) where
  m2 := Int.le_refl _
  m18 := by show (2 : Int) ≤ 1000000000000000000; decide
  n1 := by show 1 ≤ k + 1; omega
  n16 := by show k + 1 ≤ 16; omega
  w1 := Nat.le_refl _
  w16 := by show 1 ≤ 16; decide
  sA := ⟨by show (remA k _).length = k + 1; simp [remA], fun r hr => by
    obtain ⟨i, _, rfl⟩ := List.mem_map.mp hr
    show (unitRow k i).length + 1 = k + 1
    rw [unit_len]⟩
  sG := ⟨by show ((bitsL (k + 1) p).map _).length = k + 1; rw [List.length_map, bits_len], fun r hr => by
    obtain ⟨i, _, rfl⟩ := List.mem_map.mp hr
    rfl⟩
  lst := bits_len _ _
  len := bits_len _ _
  rA := fun r hr => by
    obtain ⟨i, hi, rfl⟩ := List.mem_map.mp hr
    have hi := List.mem_range.mp hi
    intro x hx
    rcases List.mem_cons.mp hx with rfl | hx
    · obtain ⟨x, e, h⟩ := bits_get p hi
      rw [getD_of e]
      show 0 ≤ x ∧ x < 2
      omega
    · exact unit_red k i x hx
  rG := fun r hr => by
    obtain ⟨x, hx, rfl⟩ := List.mem_map.mp hr
    intro y hy
    rw [List.mem_singleton.mp hy]
    exact (bits_bits _ _).red x hx
  rst := (bits_bits _ _).red
  ren := (bits_bits _ _).red
  inv := remA_inv (getD_of (by rw [bits_at p (by omega)]; simp [hp]))
theorem unit_dot {k i : Nat} {r : Row} (hr : r.length = k) : dotZ (unitRow k i) r = r.getD i 0 := by
  rw [dot_sum k _ _ (unit_len k i) hr, sumN_congr (g := fun l => if l = i then r.getD i 0 else 0)]
  · rcases Nat.lt_or_ge i k with h | h
    · exact sumN_one h _
    · rw [sumN_congr (g := fun _ => 0) (fun l hl => if_neg (by omega)), sumN_zero, List.getD_eq_getElem?_getD, List.getElem?_eq_none (by omega)]
      rfl
  · intro l hl
    rw [unit_get hl]
    split
    · rename_i e; rw [e, Int.one_mul]
    · rw [Int.zero_mul]
theorem reg_step {k : Nat} (hk : k ≤ 15) {p : Int} (hp : p % 2 = 1) (s e : Int) {h b : Int} (h0 : 0 ≤ h) (h1 : h < 2 ^ (k + 1)) (hb : b = 0 ∨ b = 1) :
    stepS (remG k p s e) (bitsL (k + 1) h) [b] = bitsL (k + 1) (regStep (k + 1) p h b) := by
  have ok := remG_ok hk hp s e
  obtain ⟨l1, _⟩ := step_ok (x := [b]) ok (v := bitsL (k + 1) h) (bits_len _ _)
  refine List.ext_getElem? fun i => ?_
  rcases Nat.lt_or_ge i (k + 1) with hi | hi
  · obtain ⟨t, ht, hr⟩ := reg_bits (p := p) h0 h1 hb hi
    rw [hr, stepS_at ok (v := bitsL (k + 1) h) (x := [b]) (bits_len _ _) (remA_at hi) (show ((bitsL (k + 1) p).map fun x => [x])[i]? = some [t] by rw [List.getElem?_map, ht]; rfl)]
    rw [getD_of ht]
    have e1 : dotZ (t :: unitRow k i) (bitsL (k + 1) h) = t * (h / 2 ^ k % 2) + (bitsL k h).getD i 0 := by
      have : dotZ (t :: unitRow k i) (bitsL (k + 1) h) = t * (h / 2 ^ k % 2) + dotZ (unitRow k i) (bitsL k h) := by simp [dotZ, bitsL]
      rw [this, unit_dot (bits_len _ _)]
    rw [e1]
    simp [dotZ, remG]
  · rw [List.getElem?_eq_none (by rw [l1]; exact hi), List.getElem?_eq_none (by rw [bits_len]; exact hi)]
theorem reg_behind {k : Nat} (hk : k ≤ 15) {p : Int} (hp : p % 2 = 1) (s e : Int) : ∀ (bs : Row) (h : Int), IsBits bs → 0 ≤ h → h < 2 ^ (k + 1) →
    behindS (remG k p s e) (bitsL (k + 1) h) (bs.map fun b => [b]) = bitsL (k + 1) (regRun (k + 1) p h bs)
  | [], h, _, _, _ => rfl
  | b :: bs, h, hb, h0, h1 => by
    show behindS (remG k p s e) (stepS (remG k p s e) (bitsL (k + 1) h) [b]) (bs.map fun b => [b]) = _
    rw [reg_step hk hp s e h0 h1 (hb b (List.mem_cons_self ..))]
    obtain ⟨r0, r1⟩ := regStep_ok (w := k + 1) (by omega) p h b
    exact reg_behind hk hp s e bs _ (fun x hx => hb x (List.mem_cons_of_mem _ hx)) r0 r1
theorem xor_sum {a b : Row} (ha : IsBits a) (hb : IsBits b) : List.zipWith (fun x y => (x + y) % 2) a b = xorL a b := by
  unfold xorL
  induction a generalizing b with
  | nil => rfl
  | cons x a ih =>
    cases b with
    | nil => rfl
    | cons y b =>
      rw [List.zipWith_cons_cons, List.zipWith_cons_cons, ih (fun z hz => ha z (List.mem_cons_of_mem _ hz)) (fun z hz => hb z (List.mem_cons_of_mem _ hz))]
      congr 1
      rcases ha x (List.mem_cons_self ..) with rfl | rfl <;> rcases hb y (List.mem_cons_self ..) with rfl | rfl <;> rfl
theorem reg_told {k : Nat} (hk : k ≤ 15) {p : Int} (hp : p % 2 = 1) {s : Int} (e : Int) (h0 : 0 ≤ s) (h1 : s < 2 ^ (k + 1)) {bs : Row} (hb : IsBits bs) :
    toldS (remG k p s e) (bs.map fun b => [b]) = xorL (bitsL (k + 1) (regRun (k + 1) p s bs)) (bitsL (k + 1) e) := by
  unfold toldS
  rw [show (remG k p s e).st = bitsL (k + 1) s from rfl, reg_behind hk hp s e bs s hb h0 h1]
  exact xor_sum (bits_bits _ _) (bits_bits _ _)
/-! sums, digits, pairs -/
def digG (M b : Int) : GD := { M := M, A := [[b]], G := [[1]], st := [0], en := [0], n := 1, w := 1 }
def pairG (M f : Int) : GD := { M := M, A := [[1, 0], [1, 1]], G := [[1], [1]], st := [f, 0], en := [0, 0], n := 2, w := 1 }
theorem digG_ok {M b : Int} (h2 : 2 ≤ M) (h18 : M ≤ 1000000000000000000) (b0 : 0 ≤ b) (b1 : b < M) (hu : ∃ v, Eqm M (v * b) 1) : GOk (digG M b) where
  m2 := h2
  m18 := h18
  n1 := Nat.le_refl _
  n16 := by show 1 ≤ 16; decide
  w1 := Nat.le_refl _
  w16 := by show 1 ≤ 16; decide
  sA := ⟨rfl, fun r hr => by rw [List.mem_singleton.mp hr]; rfl⟩
  sG := ⟨rfl, fun r hr => by rw [List.mem_singleton.mp hr]; rfl⟩
  lst := rfl
  len := rfl
  rA := fun r hr x hx => by
    rw [List.mem_singleton.mp hr] at hx
    rw [List.mem_singleton.mp hx]
    exact ⟨b0, b1⟩
  rG := fun r hr x hx => by
    rw [List.mem_singleton.mp hr] at hx
    rw [List.mem_singleton.mp hx]
    show 0 ≤ (1 : Int) ∧ 1 < M
    omega
  rst := fun x hx => by
    rw [List.mem_singleton.mp hx]
    show 0 ≤ (0 : Int) ∧ 0 < M
    omega
  ren := fun x hx => by
    rw [List.mem_singleton.mp hx]
    show 0 ≤ (0 : Int) ∧ 0 < M
    omega
  inv := by
    obtain ⟨v, hv⟩ := hu
    refine ⟨fun _ _ => v, fun i j hi hj => ?_⟩
    have hi : i < 1 := hi
    have hj : j < 1 := hj
    obtain rfl : i = 0 := by omega
    obtain rfl : j = 0 := by omega
    show Eqm M (0 + v * b) 1
    rw [Int.zero_add]
    exact hv
theorem pairG_ok {M f : Int} (h2 : 2 ≤ M) (h18 : M ≤ 1000000000000000000) (f0 : 0 ≤ f) (f1 : f < M) : GOk (pairG M f) where
  m2 := h2
  m18 := h18
  n1 := by show 1 ≤ 2; decide
  n16 := by show 2 ≤ 16; decide
  w1 := Nat.le_refl _
  w16 := by show 1 ≤ 16; decide
  sA := ⟨rfl, fun r hr => by
    have : r = [1, 0] ∨ r = [1, 1] := by simpa [pairG] using hr
    rcases this with rfl | rfl <;> rfl⟩
  sG := ⟨rfl, fun r hr => by
    have : r = [1] := by simpa [pairG] using hr
    subst this
    rfl⟩
  lst := rfl
  len := rfl
  rA := fun r hr x hx => by
    have : r = [1, 0] ∨ r = [1, 1] := by simpa [pairG] using hr
    have e : x = 0 ∨ x = 1 := by
      rcases this with rfl | rfl
      · have : x = 1 ∨ x = 0 := by simpa using hx
        exact this.symm
      · have : x = 1 := by simpa using hx
        exact .inr this
    show 0 ≤ x ∧ x < M
    omega
  rG := fun r hr x hx => by
    have : r = [1] := by simpa [pairG] using hr
    subst this
    rw [List.mem_singleton.mp hx]
    show 0 ≤ (1 : Int) ∧ 1 < M
    omega
  rst := fun x hx => by
    have : x = f ∨ x = 0 := by simpa [pairG] using hx
    show 0 ≤ x ∧ x < M
    omega
  ren := fun x hx => by
    have : x = 0 := by simpa [pairG] using hx
    show 0 ≤ x ∧ x < M
    omega
  inv := tri_low (fun i hi => ⟨1, .eq (by
    have hi : i < 2 := hi
    rcases (show i = 0 ∨ i = 1 by omega) with rfl | rfl <;> rfl)⟩) (fun i j hi hj hij => .eq (by
    have hj : j < 2 := hj
    obtain rfl : i = 0 := by omega
    obtain rfl : j = 1 := by omega
    rfl))
def digRun (b x : Int) (ns : Row) : Int := ns.foldl (fun v n => v * b + n) x
theorem dig_behind {M b : Int} (hM : 1 ≤ M) : ∀ (ns : Row) (x y : Int), y = x % M → behindS (digG M b) [y] (ns.map fun n => [n]) = [digRun b x ns % M]
  | [], x, y, e => by rw [e]; rfl
  | n :: ns, x, y, e => by
    subst e
    show behindS (digG M b) (stepS (digG M b) [x % M] [n]) (ns.map fun n => [n]) = _
    have e1 : stepS (digG M b) [x % M] [n] = [(b * (x % M) + (1 * n + 0)) % M] := rfl
    rw [e1]
    refine dig_behind hM ns (x * b + n) _ ?_
    rw [Int.one_mul, Int.add_zero, Int.mul_comm, Int.add_emod, Int.mul_emod, Int.emod_emod_of_dvd _ (Int.dvd_refl _), ← Int.mul_emod, ← Int.add_emod]
theorem dig_told {M b : Int} (hM : 1 ≤ M) (ns : Row) : toldS (digG M b) (ns.map fun n => [n]) = [digRun b 0 ns % M] := by
  show List.zipWith (fun a b => (a + b) % M) (behindS (digG M b) [0] (ns.map fun n => [n])) [0] = _
  rw [dig_behind hM ns 0 0 (by simp)]
  show [(digRun b 0 ns % M + 0) % M] = _
  rw [Int.add_zero, Int.emod_emod_of_dvd _ (Int.dvd_refl _)]
theorem dig_one (ns : Row) : ∀ x, digRun 1 x ns = ns.foldl (· + ·) x := fun x => by
  unfold digRun
  congr 1
  funext v n
  rw [Int.mul_one]
def pairRun (v : Int × Int) (ns : Row) : Int × Int := ns.foldl (fun v n => (v.1 + n, v.2 + v.1 + n)) v
theorem pair_behind {M f : Int} (hM : 1 ≤ M) : ∀ (ns : Row) (v : Int × Int) (a b : Int), a = v.1 % M → b = v.2 % M → behindS (pairG M f) [a, b] (ns.map fun n => [n]) = [(pairRun v ns).1 % M, (pairRun v ns).2 % M]
  | [], v, a, b, e, e2 => by rw [e, e2]; rfl
  | n :: ns, v, a, b, e, e2 => by
    subst e e2
    show behindS (pairG M f) (stepS (pairG M f) [v.1 % M, v.2 % M] [n]) (ns.map fun n => [n]) = _
    have e1 : stepS (pairG M f) [v.1 % M, v.2 % M] [n] = [(1 * (v.1 % M) + (0 * (v.2 % M) + (1 * n + 0))) % M, (1 * (v.1 % M) + (1 * (v.2 % M) + (1 * n + 0))) % M] := rfl
    rw [e1]
    refine pair_behind hM ns (v.1 + n, v.2 + v.1 + n) _ _ ?_ ?_
    · show _ = (v.1 + n) % M
      rw [Int.one_mul, Int.zero_mul, Int.zero_add, Int.one_mul, Int.add_zero, Int.add_emod, Int.emod_emod_of_dvd _ (Int.dvd_refl _), ← Int.add_emod]
    · show _ = (v.2 + v.1 + n) % M
      rw [Int.one_mul, Int.one_mul, Int.one_mul, Int.add_zero]
      refine Eqm.emod (((Eqm.mod M v.1).add ((Eqm.mod M v.2).add (.refl M n))).trans (.eq (by omega)))
theorem pair_told {M f : Int} (hM : 1 ≤ M) (f0 : 0 ≤ f) (f1 : f < M) (ns : Row) : toldS (pairG M f) (ns.map fun n => [n]) = [(pairRun (f, 0) ns).1 % M, (pairRun (f, 0) ns).2 % M] := by
  show List.zipWith (fun a b => (a + b) % M) (behindS (pairG M f) [f, 0] (ns.map fun n => [n])) [0, 0] = _
  rw [pair_behind hM ns (f, 0) f 0 (Int.emod_eq_of_lt f0 f1).symm (by simp)]
  show [((pairRun (f, 0) ns).1 % M + 0) % M, ((pairRun (f, 0) ns).2 % M + 0) % M] = _
  rw [Int.add_zero, Int.add_zero, Int.emod_emod_of_dvd _ (Int.dvd_refl _), Int.emod_emod_of_dvd _ (Int.dvd_refl _)]
theorem pair_shift (ns : Row) : ∀ (a b c d : Int) (v : Int × Int), v = (a + c, b + d) → pairRun v ns = ((pairRun (a, b) ns).1 + c, (pairRun (a, b) ns).2 + d + c * (ns.length : Int)) := by
  induction ns with
  | nil =>
    intro a b c d v e
    subst e
    show (a + c, b + d) = (a + c, b + d + c * ((0 : Nat) : Int))
    simp
  | cons n ns ih =>
    intro a b c d v e
    subst e
    show pairRun (a + c + n, b + d + (a + c) + n) ns = ((pairRun (a + n, b + a + n) ns).1 + c, (pairRun (a + n, b + a + n) ns).2 + d + c * ((ns.length + 1 : Nat) : Int))
    rw [ih (a + n) (b + a + n) c (d + c) _ (by congr 1 <;> omega)]
    congr 1
    rw [Int.natCast_add, Int.mul_add]
    show _ = (pairRun (a + n, b + a + n) ns).2 + d + (c * (ns.length : Int) + c * 1)
    omega
theorem dig_snoc (b x : Int) (ns : Row) (n : Int) : digRun b x (ns ++ [n]) = digRun b x ns * b + n := by simp [digRun]
theorem pair_snoc (v : Int × Int) (ns : Row) (n : Int) : pairRun v (ns ++ [n]) = ((pairRun v ns).1 + n, (pairRun v ns).2 + (pairRun v ns).1 + n) := by simp [pairRun]
theorem sum_snoc (ns : Row) (n : Int) : (ns ++ [n]).foldl (· + ·) 0 = ns.foldl (· + ·) 0 + n := by simp
theorem dig_bound {b : Int} (b0 : 0 ≤ b) (b1 : b < 1000) : ∀ (ns : Row) (x : Int) (k : Nat), (∀ n ∈ ns, 0 ≤ n ∧ n < 1000) → 0 ≤ x → x < 1000 ^ k → 0 ≤ digRun b x ns ∧ digRun b x ns < 1000 ^ (k + ns.length)
  | [], x, k, _, x0, x1 => ⟨x0, x1⟩
  | n :: ns, x, k, h, x0, x1 => by
    obtain ⟨n0, n1⟩ := h n (List.mem_cons_self ..)
    have e : (1000 : Int) ^ (k + 1) = 1000 ^ k * 1000 := Int.pow_succ 1000 k
    have m0 : 0 ≤ x * b := Int.mul_nonneg x0 b0
    have m1 : x * b ≤ x * 999 := Int.mul_le_mul_of_nonneg_left (by omega) x0
    have := dig_bound b0 b1 ns (x * b + n) (k + 1) (fun y hy => h y (List.mem_cons_of_mem _ hy)) (by omega) (by rw [e]; omega)
    rw [show k + 1 + ns.length = k + (ns.length + 1) by omega] at this
    exact this
end Wk

/-! xs[::-1] of a tuple -/
namespace HT
open PySem PyProof.Rows
section
variable {prog : Program} {w : World} {A : Around} {E : Value → Shared → Prop} {s : Shared}
theorem adjust_rev (n : Nat) : Builtin.Slice.sliceAdjust none none (-1) (n : Int) = ((n : Int) - 1, -1) := rfl
theorem places_rev (n : Nat) : Builtin.Slice.slicePlaces ((n : Int) - 1) (-1) (-1) = n := by
  unfold Builtin.Slice.slicePlaces
  rw [if_neg (by decide)]
  by_cases h : ((n : Int) - 1) > -1
  · rw [if_pos h]
    have : ((n : Int) - 1 - -1 - 1) / (- -1) = (n : Int) - 1 := by
      rw [show (- -1 : Int) = 1 by decide, Int.ediv_one]
      omega
    rw [this]
    omega
  · rw [if_neg h]
    omega
theorem sliceApplied_rev {sl : Addr} {vs : Value} {n : Nat} {Q : Int × Int × Nat → Shared → Prop} (hs : s.heap.IsSliceOf sl .none .none vs) (ps : IsPart vs (some (-1)))
    (h : Q ((n : Int) - 1, -1, n) s) : wpAny (model prog w) A (Builtin.Slice.sliceApplied (.ref sl) (pure (n : Int))) Q E s := by
  obtain ⟨os, hos, hcs, hds⟩ := id hs
  unfold Builtin.Slice.sliceApplied Builtin.Slice.sliceFields
  refine wpAny_bind (wpAny_bind (wpAny_field hos hds (x := .none) rfl (wpAny_bind (wpAny_field hos hds (x := .none) rfl (wpAny_bind (wpAny_field hos hds (x := vs) rfl (wpAny_pure ?_)))))))
  refine wpAny_bind (slicePart_ ps ?_)
  show wpAny _ _ (if ((-1 : Int) == 0) = true then _ else _) _ _ s
  rw [if_neg (by decide)]
  refine wpAny_bind (slicePart_none (wpAny_bind (slicePart_none (wpAny_bind (wpAny_pure ?_)))))
  show wpAny _ _ (match Builtin.Slice.sliceAdjust none none (-1) (n : Int) with | (lo, hi) => pure (lo, (-1 : Int), Builtin.Slice.slicePlaces lo hi (-1))) _ _ s
  rw [adjust_rev n]
  show wpAny _ _ (pure ((n : Int) - 1, (-1 : Int), Builtin.Slice.slicePlaces ((n : Int) - 1) (-1) (-1))) _ _ s
  rw [places_rev]
  exact wpAny_pure h
theorem fm_congr {α β : Type} {f g : α → Option β} : ∀ {l : List α}, (∀ x ∈ l, f x = g x) → l.filterMap f = l.filterMap g
  | [], _ => rfl
  | x :: l, h => by
    rw [List.filterMap_cons, List.filterMap_cons, h x List.mem_cons_self, fm_congr fun y hy => h y (List.mem_cons_of_mem _ hy)]
theorem pick_rev (xs : Array Value) : ((List.range xs.size).filterMap fun (m : Nat) => xs[(((xs.size : Nat) : Int) - 1 + (m : Int) * (-1)).toNat]?).toArray = xs.toList.reverse.toArray := by
  have e : (List.range xs.size).filterMap (fun (m : Nat) => xs[(((xs.size : Nat) : Int) - 1 + (m : Int) * (-1)).toNat]?) = ((List.range xs.size).map fun k => xs.size - 1 - k).filterMap (xs[·]?) := by
    rw [List.filterMap_map]
    refine fm_congr fun m hm => ?_
    have hm := List.mem_range.mp hm
    have : (((xs.size : Nat) : Int) - 1 + (m : Int) * (-1)).toNat = xs.size - 1 - m := by omega
    rw [this]
    rfl
  rw [e, PySem.W.krv_range, List.filterMap_reverse, PySem.W.krv_all]
theorem getItem_tuple_rev {t sl : Addr} {items : Array Value} {vs : Value} {Q : Value → Shared → Prop} (ht : IsTup s.heap t items) (hs : s.heap.IsSliceOf sl .none .none vs) (ps : IsPart vs (some (-1)))
    (h : Q (.ref s.heap.objs.size) { s with heap := s.heap.push { cls := .type "tuple", data := .seq items.toList.reverse.toArray } })
    (hsz : items.size ≤ sizeLine) : wpAny (model prog w) A (getItem (.ref t) (.ref sl)) Q E s := by
  have htake : sizeOk (.seq items.toList.reverse.toArray) := by
    show items.toList.reverse.toArray.size ≤ sizeLine
    rw [List.size_toArray, List.length_reverse, Array.length_toList]
    exact hsz
  obtain ⟨os, hos, hcs, hds⟩ := id hs
  have hTs : s.TypeIs (.ref sl) "slice" := ⟨os, hos, hcs⟩
  unfold getItem
  try with_reducible refine wpAny_holding ?_
  first | refine wpAny_bind (wpAny_pure ?_) | skip
  refine wpAny_bind (wpAny_sequenceKey ht.typeIs (by decide) ?_)
  refine wpAny_bind (wpAny_callSpecial?_slot (name := Str.ofString "__getitem__") ht.typeIs PyProof.Rows.slot_tuple_getitem
    (wpAny_call_entry PyProof.Rows.slot_tuple_getitem ht.typeIs entry_tuple_getitem ?_ (args_tuple_getitem _ _)))
  show wpAny _ _ (Builtin.Tuple.tupleItemsOf (.ref t) >>= _) _ _ s
  refine wpAny_bind (tupleItemsOf_ ht ?_)
  refine wpAny_bind (wpAny_typeOf hTs ?_)
  rw [if_pos (by decide)]
  refine wpAny_bind (sliceApplied_rev hs ps ?_)
  have hno : ¬ (((((items.size : Nat) : Int) - 1) == 0 && (-1 : Int) == 1 && items.size == items.size) = true) := by
    intro q
    rw [Bool.and_eq_true, Bool.and_eq_true] at q
    exact absurd (eq_of_beq q.1.2) (by decide)
  show wpAny _ _ (if ((((items.size : Nat) : Int) - 1) == 0 && (-1 : Int) == 1 && items.size == items.size) = true then _ else _) _ _ s
  rw [if_neg hno, pick_rev]
  first
    | exact wpAny_bind (m := Builtin.Tuple.tupleExact _) (wpAny_newObj_type (wpAny_pure ⟨_, rfl, wpAny_pure h⟩) htake)
    | exact wpAny_bind (m := Builtin.Tuple.tupleExact _) (wpAny_newObj_type (wpAny_bind (wpAny_pure (wpAny_pure ⟨_, rfl, wpAny_pure h⟩))) htake)
end
end HT
namespace L2
open PySem PySem.Spec PyProof.Rows
section
variable {X : Cx}
def tRevT (K : PySem.W.Frag) (te : TE) : TE := fun σ H Q => te σ H fun x H1 => ∃ a xs, x = .ref a ∧ SqT K H1 a xs ∧ ∀ p, H1 p = none → Q (.ref p) (upd H1 p (.tup xs.reverse))
theorem pe_revT {e : Expr} {te : TE} {k : Nat} {p1 p2 p3 pos : Pos} (he : PE X e te) : PE X (.Subscript e (.Slice none none (some (.UnaryOp .USub (.Constant (.int 1) k p1) p2)) p3) pos) (tRevT X.K te) := by
  refine ⟨fun pins s σ H Q I h => ?_⟩
  refine Subscript_ (thn (he.run pins s σ H _ I h) fun v s1 ⟨x, H1, I1, r1, q1⟩ => ?_)
  obtain ⟨a, xs, ex, hx, q⟩ := q1
  subst ex
  cases r1
  have hst : PO X (some (.UnaryOp .USub (.Constant (.int 1) k p1) p2)) (tPart (tUn (rU fun i => .int (-i)) (tC (.int 1)))) := po_some (pe_un un_neg pe_int)
  refine wpAny_Slice (thn (po_none.run pins s1 σ H1 (fun o H2 => o = none ∧ H2 = H1) I1 ⟨rfl, rfl⟩) fun vl s2 ⟨l, H2, I2, pl, el, e2⟩ => ?_)
  subst el e2
  refine thn (po_none.run pins s2 σ H2 (fun o H3 => o = none ∧ H3 = H2) I2 ⟨rfl, rfl⟩) fun vu s3 ⟨u, H3, I3, pu, eu, e3⟩ => ?_
  subst eu e3
  refine thn (hst.run pins s3 σ H3 (fun o H4 => o = some (-1) ∧ H4 = H3) I3 ⟨1, rfl, -1, rfl, rfl, rfl⟩) fun vs s4 ⟨o, H4, I4, ps, eo, e4⟩ => ?_
  subst eo e4
  cases pl
  cases pu
  have I5 : Inv X pins σ H4 { s4 with heap := s4.heap.push { cls := .type "slice", data := .fields #[.none, .none, vs] } } := I4.kept (t' := s4.toks) fun b ob q => Heap.get?_push_of_some _ q
  obtain ⟨its, r, ht, hz⟩ := I5.tuple hx
  have hlen := r.length
  show wpAny (model X.prog X.w) X.A (subscriptTail e (.Slice none none (some (.UnaryOp .USub (.Constant (.int 1) k p1) p2)) p3) (.ref a) (.ref s4.heap.objs.size)) (EP X pins σ Q) X.xe { s4 with heap := s4.heap.push { cls := .type "slice", data := .fields #[.none, .none, vs] } }
  refine tail_any (ops := [.ref a, .ref s4.heap.objs.size]) ht.typeIs (PyProof.Rows.slot_tuple_getitem.lookup) ?_ (by with_unfolding_all rfl)
  refine HT.getItem_tuple_rev ht (Heap.IsSliceOf.new _ .none .none vs) ps ?_ (by rw [List.size_toArray]; omega)
  refine ⟨.ref _, _, I5.laid (t' := s4.toks) (o := .tup xs.reverse) (fun b ob q => Heap.get?_push_of_some _ q) (Nat.le_refl _) ?_, rfl, q _ (I5.hok.fresh (Nat.le_refl _))⟩
  exact ⟨by rw [List.length_reverse]; exact hz, _, r.reverse, IsTup.new _ _⟩
end
end L2
namespace L2
open PySem PySem.Spec PyProof.Rows
theorem pe_revTK {X : Cx} {K : PySem.W.Frag} (hK : X.K = K) {e : Expr} {te : TE} {k : Nat} {p1 p2 p3 pos : Pos} (he : PE X e te) : PE X (.Subscript e (.Slice none none (some (.UnaryOp .USub (.Constant (.int 1) k p1) p2)) p3) pos) (tRevT K te) := hK ▸ pe_revT he
end L2

/-! all rows -/
namespace Wk
def exts (M : Int) (r : Row) : List Row := (List.range M.toNat).map fun x : Nat => r ++ [(x : Int)]
/-- all rows of numbers below M -/
def allR (M : Int) : Nat → List Row
  | 0 => [[]]
  | n + 1 => (allR M n).flatMap (exts M)
theorem allR_mem {M : Int} : ∀ {n : Nat} {r : Row}, r ∈ allR M n ↔ r.length = n ∧ RRed M r
  | 0, r => by
    unfold allR
    rw [List.mem_singleton]
    exact ⟨fun h => ⟨by rw [h]; rfl, by rw [h]; exact fun x hx => nomatch hx⟩, fun h => List.length_eq_zero_iff.mp h.1⟩
  | n + 1, r => by
    unfold allR
    rw [List.mem_flatMap]
    constructor
    · rintro ⟨s, hs, h⟩
      obtain ⟨x, hx, rfl⟩ := List.mem_map.mp h
      obtain ⟨a, b⟩ := allR_mem.mp hs
      have hx := List.mem_range.mp hx
      refine ⟨by simp [a], fun y hy => ?_⟩
      rcases List.mem_append.mp hy with hy | hy
      · exact b y hy
      · rw [List.mem_singleton.mp hy]
        omega
    · rintro ⟨h1, h2⟩
      obtain ⟨s, x, rfl⟩ : ∃ s x, r = s ++ [x] := by
        rcases List.eq_nil_or_concat r with rfl | ⟨s, x, rfl⟩
        · cases h1
        · exact ⟨s, x, by simp⟩
      have hx := h2 x (by simp)
      refine ⟨s, allR_mem.mpr ⟨by simpa using h1, fun y hy => h2 y (by simp [hy])⟩, List.mem_map.mpr ⟨x.toNat, List.mem_range.mpr (by omega), ?_⟩⟩
      rw [Int.toNat_of_nonneg hx.1]
theorem exts_nodup {M : Int} (r : Row) : (exts M r).Nodup := by
  unfold exts
  rw [List.nodup_iff_pairwise_ne]
  refine List.Pairwise.map _ (fun x y hxy h => hxy ?_) (List.nodup_iff_pairwise_ne.mp List.nodup_range)
  have := List.append_cancel_left h
  simp at this
  omega
theorem allR_nodup {M : Int} : ∀ n, (allR M n).Nodup
  | 0 => by simp [allR]
  | n + 1 => by
    unfold allR
    have ih := allR_nodup (M := M) n
    generalize allR M n = L at ih
    induction L with
    | nil => simp
    | cons a L ihL =>
      rw [List.nodup_cons] at ih
      rw [List.flatMap_cons, List.nodup_append]
      refine ⟨exts_nodup a, ihL ih.2, ?_⟩
      intro x hx y hy hxy
      subst hxy
      obtain ⟨i, _, rfl⟩ := List.mem_map.mp hx
      obtain ⟨b, hb, h2⟩ := List.mem_flatMap.mp hy
      obtain ⟨j, _, h3⟩ := List.mem_map.mp h2
      have : b = a := (List.append_inj' h3 rfl).1
      exact ih.1 (this ▸ hb)
theorem exts_len {M : Int} (L : List Row) : (L.flatMap (exts M)).length = L.length * M.toNat := by
  induction L with
  | nil => simp
  | cons a L ihL =>
    rw [List.flatMap_cons, List.length_append, ihL, List.length_cons]
    have : (exts M a).length = M.toNat := by simp [exts]
    rw [this, Nat.succ_mul]
    omega
theorem allR_len {M : Int} : ∀ n, (allR M n).length = M.toNat ^ n
  | 0 => rfl
  | n + 1 => by
    unfold allR
    rw [exts_len, allR_len n, Nat.pow_succ]
theorem allR_few {M : Int} (hM : M ≤ 12) {n : Nat} (hn : n ≤ 4) : (allR M n).length ≤ 20736 := by
  rw [allR_len]
  exact Nat.le_trans (Nat.pow_le_pow_left (show M.toNat ≤ 12 by omega) n) (Nat.pow_le_pow_right (by decide) hn)
theorem nodup_one {α : Type} {L : List α} {a : α} (h : L.Nodup) (ha : a ∈ L) (e : ∀ b ∈ L, b = a) : L.length = 1 := by
  match L, h, ha, e with
  | [x], _, _, _ => rfl
  | x :: y :: L, h, _, e =>
    rw [List.nodup_cons] at h
    have h1 := e x (by simp)
    have h2 := e y (by simp)
    exact absurd (by rw [h1, ← h2]; simp) h.1
theorem two_not_one {α : Type} {L : List α} {a b : α} (ha : a ∈ L) (hb : b ∈ L) (n : a ≠ b) : L.length ≠ 1 := by
  intro z
  match L, z with
  | [x], _ =>
    rw [List.mem_singleton] at ha hb
    exact n (ha.trans hb.symm)
end Wk

/-! lists of tuples of ints; a walk with any body -/
namespace Wk
open PySem L2
/-- a walk with any body (comprehensions within comprehensions) -/
theorem w_it {J : It} {n : Nat} {G : Hp → Prop} {Y : Nat → Hp → V → Hp → Prop} (w : Walk J n G Y) {H0 : Hp} {Qd : Hp → Prop} {Body : V → Hp → (Hp → Prop) → Prop} (Pv : Nat → Hp → Prop) (h0 : Pv 0 H0) (hG : ∀ i H, i ≤ n → Pv i H → G H) (hs : ∀ i x H H', i < n → Pv i H → Y i H x H' → Body x H' (Pv (i + 1))) (hd : ∀ H, Pv n H → Qd H) :
    ∃ W : Nat → Nat → Hp → Prop, (∃ m, W 0 m H0) ∧ ∀ i m H, W i m H → (J.stop i H ∧ Qd H) ∨ (J.go i H ∧ ∃ Nx : Hp → Prop, (∀ H', Nx H' → ∃ m', m' < m ∧ W (i + 1) m' H') ∧ ∀ x H', J.yld i H x H' → Body x H' Nx) := by
  refine ⟨fun i m H => m = n - i ∧ i ≤ n ∧ Pv i H, ⟨n, by simp, Nat.zero_le _, h0⟩, ?_⟩
  rintro i m H ⟨rfl, hi, p⟩
  have q := hG i H hi p
  by_cases hlt : i < n
  · refine .inr ⟨w.goes i H hlt q, Pv (i + 1), fun H' p' => ⟨n - (i + 1), by omega, rfl, hlt, p'⟩, fun x H' y => hs i x H H' hlt p (w.yields i H x H' hlt q y)⟩
  · have e : i = n := by omega
    subst e
    exact .inl ⟨w.stops H q, hd H p⟩
/-- tuples of ints at us -/
def TRows (H : Hp) (us : List V) (A : Mat) : Prop := us.length = A.length ∧ ∀ (k : Nat) (r : Row), A[k]? = some r → ∃ b, us[k]? = some (.ref b) ∧ H b = some (.tup (r.map V.int))
theorem TRows.same {H H' : Hp} {us : List V} {A : Mat} (h : TRows H us A) (e : Same H H') : TRows H' us A := ⟨h.1, fun k r hk => by
  obtain ⟨b, h1, h2⟩ := h.2 k r hk
  exact ⟨b, h1, e _ _ h2⟩⟩
theorem TRows.but {l : Addr} {xs : List V} {H H' : Hp} {us : List V} {A : Mat} (h : TRows H us A) (e : But l H H') (hl : H l = some (.lst xs)) : TRows H' us A := ⟨h.1, fun k r hk => by
  obtain ⟨b, h1, h2⟩ := h.2 k r hk
  exact ⟨b, h1, e _ _ (ne_of h2 hl (by intro z; cases z)) h2⟩⟩
theorem TRows.app {H : Hp} {us us' : List V} {A A' : Mat} (h : TRows H us A) (h' : TRows H us' A') : TRows H (us ++ us') (A ++ A') := by
  refine ⟨by rw [List.length_append, List.length_append, h.1, h'.1], fun k r hk => ?_⟩
  by_cases z : k < A.length
  · rw [List.getElem?_append_left z] at hk
    rw [List.getElem?_append_left (by rw [h.1]; exact z)]
    exact h.2 k r hk
  · rw [List.getElem?_append_right (by omega)] at hk
    rw [List.getElem?_append_right (by rw [h.1]; omega), h.1]
    exact h'.2 _ r hk
theorem TRows.rows {K : PySem.W.Frag} {H : Hp} {us : List V} {A : Mat} (h : TRows H us A) : RowsAre K H us A := by
  refine rows_of h.1 fun k v r hv hr => ?_
  obtain ⟨b, h1, h2⟩ := h.2 k r hr
  rw [hv] at h1
  cases h1
  exact ⟨b, rfl, SqT.of h2⟩
end Wk

namespace Wk
open PySem L2

-- 
-- 
-- 
-- 
-- 
structure TxtK (mg : Str → Option Value) : Prop where
def spPacked (K : PySem.W.Frag) (C : Addr) : Sp := fun vs H Q _ => ∃ (g : Addr) (D : GD) (j : Nat), vs = [.ref g, .int ((j : Int) + 1)] ∧ GuardAt K C H g D ∧ GOk D ∧ D.n ≤ 16 ∧ D.w * (j + 1) ≤ 16 ∧ ∀ q H', Same H H' → H q = none → GuardAt K C H' q (packG D j) → Q (.ref q) H'
def spMirr (K : PySem.W.Frag) (C : Addr) : Sp := fun vs H Q _ => ∃ (g : Addr) (D : GD), vs = [.ref g] ∧ GuardAt K C H g D ∧ GOk D ∧ ∀ q H', Same H H' → H q = none → GuardAt K C H' q (mirG D) → Q (.ref q) H'
def spTurn (K : PySem.W.Frag) (C : Addr) : Sp := fun vs H Q _ => ∃ (t u : Bool) (g m : Addr) (D : GD) (T : Mat), vs = [.ref g, .ref m] ∧ GuardAt K C H g D ∧ GOk D ∧ D.n ≤ 16 ∧ RowsG t u K H m T ∧ Shp D.n D.n T ∧ MRed D.M T ∧ Inv2 D.M D.n (ent T) ∧
  ∀ q H' Y, Same H H' → H q = none → Shp D.n D.n Y → EqF D.M D.n (mulF D.n (ent Y) (ent T)) oneF → GuardAt K C H' q (turG D T Y) → Q (.ref q) H'
def spZer (K : PySem.W.Frag) (C : Addr) : Sp := fun vs H Q _ => ∃ (g : Addr) (D : GD) (m : Nat), vs = [.ref g, .int (m : Int)] ∧ GuardAt K C H g D ∧ GOk D ∧ D.n ≤ 16 ∧ m ≤ 1000 ∧ ∀ q H', Same H H' → H q = none → GuardAt K C H' q (zerG D m) → Q (.ref q) H'
def tabM (D : GD) : Mat := (allR D.M D.w).map (applyM D.M D.G)
def spTab (K : PySem.W.Frag) (C : Addr) : Sp := fun vs H Q _ => ∃ (g : Addr) (D : GD), vs = [.ref g] ∧ GuardAt K C H g D ∧ GOk D ∧ D.M ^ D.w ≤ 4096 ∧ ∀ q H', Same H H' → MatAt K H' q (tabM D) → Q (.ref q) H'
theorem pow_le_of {M : Int} (hM : 1 ≤ M) {i w : Nat} (h : i ≤ w) : 1 ≤ M ^ i ∧ M ^ i ≤ M ^ w := by
  induction w with
  | zero =>
    have : i = 0 := by omega
    subst this
    exact ⟨by simp, Int.le_refl _⟩
  | succ w ih =>
    have hp : ∀ n : Nat, 1 ≤ M ^ n := fun n => by
      induction n with
      | zero => simp
      | succ n ihn =>
        rw [Int.pow_succ]
        have := Int.mul_le_mul ihn hM (by omega) (by omega)
        omega
    refine ⟨hp i, ?_⟩
    rcases Nat.lt_or_ge w i with hw | hw
    · have : i = w + 1 := by omega
      subst this
      exact Int.le_refl _
    · refine Int.le_trans (ih hw).2 ?_
      rw [Int.pow_succ]
      have := Int.mul_le_mul (Int.le_refl (M ^ w)) hM (by omega) (by have := hp w; omega)
      omega
theorem MatAt.rowsG {K : PySem.W.Frag} {H : Hp} {a : Addr} {A : Mat} (h : MatAt K H a A) : RowsG true true K H a A := by
  obtain ⟨vs, h1, h2⟩ := h
  exact ⟨vs, h1, h2.rowsS⟩
theorem own_same {H : Hp} {x dx C : Addr} (nx : H x = none) (nd : H dx = none) : Same H (upd (upd H dx (.own x)) x (.ins C dx [])) := fun b o e => by
  rw [upd_ne (ne_of_none e nx), upd_ne (ne_of_none e nd)]
  exact e
theorem own_but {H : Hp} {x dx C : Addr} {H' : Hp} (nx : H x = none) (nd : H dx = none) (b : But x (upd (upd H dx (.own x)) x (.ins C dx [])) H') : Same H H' := fun a o e => b _ _ (ne_of_none e nx) (own_same nx nd _ _ e)
section
variable {P : Program} {w0 : World} {K : PySem.W.Frag} {mg : Str → Option Value} {base : Heap} {C fI fT fB fQ : Addr}
end
end Wk

namespace Wk
open PySem L2
abbrev s_plain : Stmt := top 54
theorem sc_plain : FnScope ["modulus"] ["modulus"] (defScope s_plain) := ⟨rfl, rfl, rfl, by decide +kernel, rfl, by decide +kernel, by decide +kernel⟩
abbrev s_digits : Stmt := top 55
theorem sc_digits : FnScope ["modulus", "base"] ["modulus", "base"] (defScope s_digits) := ⟨rfl, rfl, rfl, by decide +kernel, rfl, by decide +kernel, by decide +kernel⟩
abbrev s_pair : Stmt := top 56
theorem sc_pair : FnScope ["modulus", "first"] ["modulus", "first"] (defScope s_pair) := ⟨rfl, rfl, rfl, by decide +kernel, rfl, by decide +kernel, by decide +kernel⟩

-- 
-- 
structure TxtR (mg : Str → Option Value) : Prop where
  f_reversed : mg "reversed" = none
def spBits : Sp := fun vs H Q _ => ∃ (w : Nat) (n : Int), vs = [.int (w : Int), .int n] ∧ w ≤ 100 ∧ ∀ q H', Same H H' → H q = none → H' q = some (.lst ((bitsL w n).map V.int)) → Q (.ref q) H'
def spRem (K : PySem.W.Frag) (C : Addr) : Sp := fun vs H Q _ => ∃ (k : Nat) (p s e : Int), vs = [.int ((k : Int) + 1), .int p, .int s, .int e] ∧ k ≤ 15 ∧ p % 2 = 1 ∧ 1 ≤ p ∧ p < 2 ^ (k + 1) ∧ 0 ≤ s ∧ s < 2 ^ (k + 1) ∧ 0 ≤ e ∧ e < 2 ^ (k + 1) ∧
  ∀ q H', Same H H' → H q = none → GuardAt K C H' q (remG k p s e) → Q (.ref q) H'
def spPlain (K : PySem.W.Frag) (C : Addr) : Sp := fun vs H Q _ => ∃ (M : Int), vs = [.int M] ∧ 2 ≤ M ∧ M ≤ 1000000000000000000 ∧ ∀ q H', Same H H' → H q = none → GuardAt K C H' q (digG M 1) → Q (.ref q) H'
def spDigits (K : PySem.W.Frag) (C : Addr) : Sp := fun vs H Q _ => ∃ (M b : Int), vs = [.int M, .int b] ∧ 2 ≤ M ∧ M ≤ 1000000000000000000 ∧ 1 ≤ b ∧ b < M ∧ (∃ v, Eqm M (v * b) 1) ∧ ∀ q H', Same H H' → H q = none → GuardAt K C H' q (digG M b) → Q (.ref q) H'
def spPair (K : PySem.W.Frag) (C : Addr) : Sp := fun vs H Q _ => ∃ (M f : Int), vs = [.int M, .int f] ∧ 2 ≤ M ∧ M ≤ 1000000000000000000 ∧ 0 ≤ f ∧ f < M ∧ ∀ q H', Same H H' → H q = none → GuardAt K C H' q (pairG M f) → Q (.ref q) H'
/-- lists of lists of ints that a comprehension made -/
theorem rowsG_of {K : PySem.W.Frag} {H : Hp} {a : Addr} {acc : List V} {A : Mat} (ha : H a = some (.lst acc)) (hl : acc.length = A.length) (h : ∀ (j : Nat) (v : V), acc[j]? = some v → ∃ b r, v = .ref b ∧ A[j]? = some r ∧ H b = some (.lst (r.map V.int))) : RowsG false false K H a A := by
  obtain ⟨bs, B, rfl, e1, e2, e3⟩ := lmat_of (R := fun j b r => A[j]? = some r) (fun j v hv => by
    obtain ⟨b, r, h1, h2, h3⟩ := h j v hv
    exact ⟨b, r, h1, h3, h2⟩)
  have eB : B = A := List.ext_getElem? fun j => by
    rcases Nat.lt_or_ge j B.length with hj | hj
    · have hb : bs[j]? = some (bs[j]'(by omega)) := List.getElem?_eq_getElem _
      obtain ⟨_, q⟩ := e3 j _ _ hb (List.getElem?_eq_getElem hj)
      rw [List.getElem?_eq_getElem hj, q]
    · rw [List.getElem?_eq_none hj, List.getElem?_eq_none (by omega)]
  subst eB
  exact LMat.rowsG ⟨ha, e1, fun k b r h1 h2 => (e3 k b r h1 h2).1⟩
theorem lst_new {H : Hp} {a : Addr} {xs : List V} (n : H a = none) : Same H (upd H a (.lst xs)) ∧ (upd H a (.lst xs)) a = some (.lst xs) := ⟨same_upd n, upd_same⟩
theorem rows1 {K : PySem.W.Frag} {H : Hp} {a b : Addr} {r : Row} (ha : H a = some (.lst [.ref b])) (hb : H b = some (.lst (r.map V.int))) : RowsG false false K H a [r] := LMat.rowsG (bs := [b]) ⟨ha, rfl, fun k d q e1 e2 => by
  cases k with
  | zero => cases e1; cases e2; exact hb
  | succ k => cases e1⟩
theorem rows2 {K : PySem.W.Frag} {H : Hp} {a b c : Addr} {r s : Row} (ha : H a = some (.lst [.ref b, .ref c])) (hb : H b = some (.lst (r.map V.int))) (hc : H c = some (.lst (s.map V.int))) : RowsG false false K H a [r, s] := LMat.rowsG (bs := [b, c]) ⟨ha, rfl, fun k d q e1 e2 => by
  match k with
  | 0 => cases e1; cases e2; exact hb
  | 1 => cases e1; cases e2; exact hc
  | k + 2 => cases e1⟩
section
variable {P : Program} {w0 : World} {K : PySem.W.Frag} {mg : Str → Option Value} {base : Heap} {C fI fT fB fQ : Addr}
theorem ok_plain {f : Addr} {fd fdI : FuncData} (F : Fun K "plain" "plain" s_plain f fd) (T : TxtGd K mg C fI fT fB fQ)
    (G_init : FnOk P w0 K mg base CX0 6 fI fdI ["self", "modulus", "matrix", "columns", "start", "end"] (spGInit K C)) (b_init : Binds K fdI ["self", "modulus", "matrix", "columns", "start", "end"] [])
    : FnOk P w0 K mg base CX0 8 f fd ["modulus"] (spPlain K C) := by
  refine F.ok sc_plain (fun vs H Q E h => ?_) (fun cdv A outer s H vs Q E hr h => ?_)
  · obtain ⟨M, rfl, _⟩ := h
    rfl
  · obtain ⟨M, rfl, hM, hM18, kk⟩ := h
    refine ⟨_, (pss_one (ps_ret (pe_make T.mkr G_init (hr.mono (by decide)) rfl T.mgC b_init .nil pass0 (pa_cons (pv 0) (pa_cons (pe_lst (pa_cons (pe_lst (pa_cons pe_int pa_nil)) pa_nil)) (pa_cons (pe_lst (pa_cons (pe_lst (pa_cons pe_int pa_nil)) pa_nil)) (pa_cons (pe_lst (pa_cons pe_int pa_nil)) (pa_cons (pe_lst (pa_cons pe_int pa_nil)) pa_nil)))))))), ?_⟩
    refine ⟨_, rfl, by show 1 ≤ sizeLine; decide, fun a n_a => ?_⟩
    obtain ⟨s1, g_a⟩ := lst_new (xs := [.int 1]) n_a
    generalize upd H a (.lst [.int 1]) = H1 at s1 g_a ⊢
    refine ⟨by show 1 ≤ sizeLine; decide, fun AM n_AM => ?_⟩
    obtain ⟨s2, g_AM⟩ := lst_new (xs := [.ref a]) n_AM
    generalize upd H1 AM (.lst [.ref a]) = H2 at s2 g_AM ⊢
    refine ⟨by show 1 ≤ sizeLine; decide, fun c n_c => ?_⟩
    obtain ⟨s3, g_c⟩ := lst_new (xs := [.int 1]) n_c
    generalize upd H2 c (.lst [.int 1]) = H3 at s3 g_c ⊢
    refine ⟨by show 1 ≤ sizeLine; decide, fun AC n_AC => ?_⟩
    obtain ⟨s4, g_AC⟩ := lst_new (xs := [.ref c]) n_AC
    generalize upd H3 AC (.lst [.ref c]) = H4 at s4 g_AC ⊢
    refine ⟨by show 1 ≤ sizeLine; decide, fun AS n_AS => ?_⟩
    obtain ⟨s5, g_AS⟩ := lst_new (xs := [.int 0]) n_AS
    generalize upd H4 AS (.lst [.int 0]) = H5 at s5 g_AS ⊢
    refine ⟨by show 1 ≤ sizeLine; decide, fun AE n_AE => ?_⟩
    obtain ⟨s6, g_AE⟩ := lst_new (xs := [.int 0]) n_AE
    generalize upd H5 AE (.lst [.int 0]) = H6 at s6 g_AE ⊢
    refine fun x dx2 nx nd ne => ?_
    have sI := own_same (C := C) nx nd
    have t6 : Same H6 (upd (upd H6 dx2 (.own x)) x (.ins C dx2 [])) := sI
    have t5 := same_trans s6 t6
    have t4 := same_trans s5 t5
    have t3 := same_trans s4 t4
    have t2 := same_trans s3 t3
    have t1 := same_trans s2 t2
    have sA : Same H H6 := same_trans s1 (same_trans s2 (same_trans s3 (same_trans s4 (same_trans s5 s6))))
    exact ⟨false, false, false, false, false, false, x, dx2, AM, AC, AS, AE, digG M 1, rfl, upd_same, digG_ok hM hM18 (by decide) (by omega) ⟨1, .eq rfl⟩, rows1 (t2 _ _ g_AM) (r := [1]) (t1 _ _ g_a), rows1 (t4 _ _ g_AC) (r := [1]) (t3 _ _ g_c), SqL.of (t5 _ _ g_AS), SqL.of (t6 _ _ g_AE), fun H' b' hG' => ⟨rfl, kk x H' (same_trans sA (own_but nx nd b')) (none_back sA nx) hG'⟩⟩
theorem ok_digits {f f0 f1 : Addr} {fd fdI fd0 fd1 : FuncData} (F : Fun K "digits" "digits" s_digits f fd) (T : TxtGd K mg C fI fT fB fQ)
    (G_init : FnOk P w0 K mg base CX0 6 fI fdI ["self", "modulus", "matrix", "columns", "start", "end"] (spGInit K C)) (b_init : Binds K fdI ["self", "modulus", "matrix", "columns", "start", "end"] [])
    (G_check_modulus : FnOk P w0 K mg base CX0 3 f0 fd0 ["modulus"] spChkM) (g_check_modulus : mg "check_modulus" = some (.ref f0)) (kp_check_modulus : PySem.W.keepIn K (.ref f0) = true) (b_check_modulus : Binds K fd0 ["modulus"] [])
    (G_is_within : FnOk P w0 K mg base CX0 2 f1 fd1 ["value", "least", "most"] spWithinI) (g_is_within : mg "is_within" = some (.ref f1)) (kp_is_within : PySem.W.keepIn K (.ref f1) = true) (b_is_within : Binds K fd1 ["value", "least", "most"] [])
    : FnOk P w0 K mg base CX0 8 f fd ["modulus", "base"] (spDigits K C) := by
  refine F.ok sc_digits (fun vs H Q E h => ?_) (fun cdv A outer s H vs Q E hr h => ?_)
  · obtain ⟨M, b, rfl, _⟩ := h
    rfl
  · obtain ⟨M, b, rfl, hM, hM18, b1, b2, hu, kk⟩ := h
    refine ⟨_, (pss_cons (ps_expr (pe_call G_check_modulus (hr.mono (by decide)) rfl g_check_modulus kp_check_modulus b_check_modulus .nil pass0 (pa_cons (pv 0) pa_nil)))
        (pss_cons (ps_if (pt_not (pt_val (pe_call G_is_within (hr.mono (by decide)) rfl g_is_within kp_is_within b_is_within .nil pass0 (pa_cons (pv 1) (pa_cons pe_int (pa_cons (pe_op op_sub (pv 0) pe_int) pa_nil)))))) (pss_one ps_never) pss_nil)
        (pss_one (ps_ret (pe_make T.mkr G_init (hr.mono (by decide)) rfl T.mgC b_init .nil pass0 (pa_cons (pv 0) (pa_cons (pe_lst (pa_cons (pe_lst (pa_cons (pv 1) pa_nil)) pa_nil)) (pa_cons (pe_lst (pa_cons (pe_lst (pa_cons pe_int pa_nil)) pa_nil)) (pa_cons (pe_lst (pa_cons pe_int pa_nil)) (pa_cons (pe_lst (pa_cons pe_int pa_nil)) pa_nil)))))))))), ?_⟩
    refine ⟨_, rfl, M, rfl, hM, hM18, ?_⟩
    refine ⟨_, rfl, _, rfl, _, _, rfl, rfl, _, 1, _, rfl, _, rfl, ?_⟩
    rw [show (decide ((1 : Int) ≤ b) && decide (b ≤ M - 1)) = true by simp; omega]
    refine iteF ?_
    refine ⟨_, rfl, _, rfl, by show 1 ≤ sizeLine; decide, fun a n_a => ?_⟩
    obtain ⟨s1, g_a⟩ := lst_new (xs := [.int b]) n_a
    generalize upd H a (.lst [.int b]) = H1 at s1 g_a ⊢
    refine ⟨by show 1 ≤ sizeLine; decide, fun AM n_AM => ?_⟩
    obtain ⟨s2, g_AM⟩ := lst_new (xs := [.ref a]) n_AM
    generalize upd H1 AM (.lst [.ref a]) = H2 at s2 g_AM ⊢
    refine ⟨by show 1 ≤ sizeLine; decide, fun c n_c => ?_⟩
    obtain ⟨s3, g_c⟩ := lst_new (xs := [.int 1]) n_c
    generalize upd H2 c (.lst [.int 1]) = H3 at s3 g_c ⊢
    refine ⟨by show 1 ≤ sizeLine; decide, fun AC n_AC => ?_⟩
    obtain ⟨s4, g_AC⟩ := lst_new (xs := [.ref c]) n_AC
    generalize upd H3 AC (.lst [.ref c]) = H4 at s4 g_AC ⊢
    refine ⟨by show 1 ≤ sizeLine; decide, fun AS n_AS => ?_⟩
    obtain ⟨s5, g_AS⟩ := lst_new (xs := [.int 0]) n_AS
    generalize upd H4 AS (.lst [.int 0]) = H5 at s5 g_AS ⊢
    refine ⟨by show 1 ≤ sizeLine; decide, fun AE n_AE => ?_⟩
    obtain ⟨s6, g_AE⟩ := lst_new (xs := [.int 0]) n_AE
    generalize upd H5 AE (.lst [.int 0]) = H6 at s6 g_AE ⊢
    refine fun x dx2 nx nd ne => ?_
    have sI := own_same (C := C) nx nd
    have t6 : Same H6 (upd (upd H6 dx2 (.own x)) x (.ins C dx2 [])) := sI
    have t5 := same_trans s6 t6
    have t4 := same_trans s5 t5
    have t3 := same_trans s4 t4
    have t2 := same_trans s3 t3
    have t1 := same_trans s2 t2
    have sA : Same H H6 := same_trans s1 (same_trans s2 (same_trans s3 (same_trans s4 (same_trans s5 s6))))
    exact ⟨false, false, false, false, false, false, x, dx2, AM, AC, AS, AE, digG M b, rfl, upd_same, digG_ok hM hM18 (by omega) (by omega) hu, rows1 (t2 _ _ g_AM) (r := [b]) (t1 _ _ g_a), rows1 (t4 _ _ g_AC) (r := [1]) (t3 _ _ g_c), SqL.of (t5 _ _ g_AS), SqL.of (t6 _ _ g_AE), fun H' b' hG' => ⟨rfl, kk x H' (same_trans sA (own_but nx nd b')) (none_back sA nx) hG'⟩⟩
theorem ok_pair {f f0 f1 : Addr} {fd fdI fd0 fd1 : FuncData} (F : FunD K "pair" "pair" (defArgs s_pair) (defBody s_pair) (defScope s_pair) [.int 0] [] f fd) (T : TxtGd K mg C fI fT fB fQ)
    (G_init : FnOk P w0 K mg base CX0 6 fI fdI ["self", "modulus", "matrix", "columns", "start", "end"] (spGInit K C)) (b_init : Binds K fdI ["self", "modulus", "matrix", "columns", "start", "end"] [])
    (G_check_modulus : FnOk P w0 K mg base CX0 3 f0 fd0 ["modulus"] spChkM) (g_check_modulus : mg "check_modulus" = some (.ref f0)) (kp_check_modulus : PySem.W.keepIn K (.ref f0) = true) (b_check_modulus : Binds K fd0 ["modulus"] [])
    (G_is_within : FnOk P w0 K mg base CX0 2 f1 fd1 ["value", "least", "most"] spWithinI) (g_is_within : mg "is_within" = some (.ref f1)) (kp_is_within : PySem.W.keepIn K (.ref f1) = true) (b_is_within : Binds K fd1 ["value", "least", "most"] [])
    : FnOk P w0 K mg base CX0 8 f fd ["modulus", "first"] (spPair K C) := by
  refine F.ok sc_pair (fun vs H Q E h => ?_) (fun cdv A outer s H vs Q E hr h => ?_)
  · obtain ⟨M, b, rfl, _⟩ := h
    rfl
  · obtain ⟨M, b, rfl, hM, hM18, b1, b2, kk⟩ := h
    refine ⟨_, (pss_cons (ps_expr (pe_call G_check_modulus (hr.mono (by decide)) rfl g_check_modulus kp_check_modulus b_check_modulus .nil pass0 (pa_cons (pv 0) pa_nil)))
        (pss_cons (ps_if (pt_not (pt_val (pe_call G_is_within (hr.mono (by decide)) rfl g_is_within kp_is_within b_is_within .nil pass0 (pa_cons (pv 1) (pa_cons pe_int (pa_cons (pe_op op_sub (pv 0) pe_int) pa_nil)))))) (pss_one ps_never) pss_nil)
        (pss_one (ps_ret (pe_make T.mkr G_init (hr.mono (by decide)) rfl T.mgC b_init .nil pass0 (pa_cons (pv 0) (pa_cons (pe_lst (pa_cons (pe_lst (pa_cons pe_int (pa_cons pe_int pa_nil))) (pa_cons (pe_lst (pa_cons pe_int (pa_cons pe_int pa_nil))) pa_nil))) (pa_cons (pe_lst (pa_cons (pe_lst (pa_cons pe_int pa_nil)) (pa_cons (pe_lst (pa_cons pe_int pa_nil)) pa_nil))) (pa_cons (pe_lst (pa_cons (pv 1) (pa_cons pe_int pa_nil))) (pa_cons (pe_lst (pa_cons pe_int (pa_cons pe_int pa_nil))) pa_nil)))))))))), ?_⟩
    refine ⟨_, rfl, M, rfl, hM, hM18, ?_⟩
    refine ⟨_, rfl, _, rfl, _, _, rfl, rfl, _, 0, _, rfl, _, rfl, ?_⟩
    rw [show (decide ((0 : Int) ≤ b) && decide (b ≤ M - 1)) = true by simp; omega]
    refine iteF ?_
    refine ⟨_, rfl, by show 2 ≤ sizeLine; decide, fun a n_a => ?_⟩
    obtain ⟨s1, g_a⟩ := lst_new (xs := [.int 1, .int 0]) n_a
    generalize upd H a (.lst [.int 1, .int 0]) = H1 at s1 g_a ⊢
    refine ⟨by show 2 ≤ sizeLine; decide, fun a2 n_a2 => ?_⟩
    obtain ⟨s2, g_a2⟩ := lst_new (xs := [.int 1, .int 1]) n_a2
    generalize upd H1 a2 (.lst [.int 1, .int 1]) = H2 at s2 g_a2 ⊢
    refine ⟨by show 2 ≤ sizeLine; decide, fun AM n_AM => ?_⟩
    obtain ⟨s3, g_AM⟩ := lst_new (xs := [.ref a, .ref a2]) n_AM
    generalize upd H2 AM (.lst [.ref a, .ref a2]) = H3 at s3 g_AM ⊢
    refine ⟨by show 1 ≤ sizeLine; decide, fun c n_c => ?_⟩
    obtain ⟨s4, g_c⟩ := lst_new (xs := [.int 1]) n_c
    generalize upd H3 c (.lst [.int 1]) = H4 at s4 g_c ⊢
    refine ⟨by show 1 ≤ sizeLine; decide, fun c2 n_c2 => ?_⟩
    obtain ⟨s5, g_c2⟩ := lst_new (xs := [.int 1]) n_c2
    generalize upd H4 c2 (.lst [.int 1]) = H5 at s5 g_c2 ⊢
    refine ⟨by show 2 ≤ sizeLine; decide, fun AC n_AC => ?_⟩
    obtain ⟨s6, g_AC⟩ := lst_new (xs := [.ref c, .ref c2]) n_AC
    generalize upd H5 AC (.lst [.ref c, .ref c2]) = H6 at s6 g_AC ⊢
    refine ⟨_, rfl, by show 2 ≤ sizeLine; decide, fun AS n_AS => ?_⟩
    obtain ⟨s7, g_AS⟩ := lst_new (xs := [.int b, .int 0]) n_AS
    generalize upd H6 AS (.lst [.int b, .int 0]) = H7 at s7 g_AS ⊢
    refine ⟨by show 2 ≤ sizeLine; decide, fun AE n_AE => ?_⟩
    obtain ⟨s8, g_AE⟩ := lst_new (xs := [.int 0, .int 0]) n_AE
    generalize upd H7 AE (.lst [.int 0, .int 0]) = H8 at s8 g_AE ⊢
    refine fun x dx2 nx nd ne => ?_
    have sI := own_same (C := C) nx nd
    have t8 : Same H8 (upd (upd H8 dx2 (.own x)) x (.ins C dx2 [])) := sI
    have t7 := same_trans s8 t8
    have t6 := same_trans s7 t7
    have t5 := same_trans s6 t6
    have t4 := same_trans s5 t5
    have t3 := same_trans s4 t4
    have t2 := same_trans s3 t3
    have t1 := same_trans s2 t2
    have sA : Same H H8 := same_trans s1 (same_trans s2 (same_trans s3 (same_trans s4 (same_trans s5 (same_trans s6 (same_trans s7 s8))))))
    exact ⟨false, false, false, false, false, false, x, dx2, AM, AC, AS, AE, pairG M b, rfl, upd_same, pairG_ok hM hM18 b1 b2, rows2 (t3 _ _ g_AM) (r := [1, 0]) (s := [1, 1]) (t1 _ _ g_a) (t2 _ _ g_a2), rows2 (t6 _ _ g_AC) (r := [1]) (s := [1]) (t4 _ _ g_c) (t5 _ _ g_c2), SqL.of (t7 _ _ g_AS), SqL.of (t8 _ _ g_AE), fun H' b' hG' => ⟨rfl, kk x H' (same_trans sA (own_but nx nd b')) (none_back sA nx) hG'⟩⟩
end
end Wk

namespace Wk
open PySem L2

/-- a comprehension whose items are new lists of ints -/
theorem lc_new {J : It} {n : Nat} {G : Hp → Prop} {Y : Nat → Hp → V → Hp → Prop} (w : Walk J n G Y) {g : TG} {tt : TT} {te : TE} {vs : List Nat} {σ : L2.St} {H1 : Hp} {D : Addr} {Qd : Hp → Prop} (hD : H1 D = none) (hn : n ≤ 1000000)
    (A : Mat) (hA : A.length = n) (hG : ∀ H, Same H1 H → G H) (hY : ∀ i H x H', Y i H x H' → H' = H)
    (hs : ∀ (i : Nat) (r : Row) (x : V) (H : Hp) (Fn : V → Hp → Prop) (Nn : Hp → Prop), i < n → A[i]? = some r → (∀ p, H p = none → Fn (.ref p) (upd H p (.lst (r.map V.int)))) → Same H1 H → Y i H x H → g x (wipe σ vs) H fun σ2 H2 => wipe σ2 vs = wipe σ vs ∧ tt σ2 H2 fun b H3 => if b = true then te σ2 H3 Fn else Nn H3)
    (hd : ∀ (bs : List Addr) H, LMat H D A bs → Same H1 H → (D :: bs).Nodup → (∀ b ∈ bs, H1 b = none) → Qd H) :
    ∃ W : Nat → Nat → Hp → Prop, (∃ m, W 0 m (upd H1 D (.lst []))) ∧ ∀ i m H, W i m H →
      (J.stop i H ∧ Qd H) ∨ (J.go i H ∧ ∃ Nx : Hp → Prop, (∀ H', Nx H' → ∃ m', m' < m ∧ W (i + 1) m' H') ∧ ∀ x H', J.yld i H x H' → g x (wipe σ vs) H' fun σ2 H2 => wipe σ2 vs = wipe σ vs ∧ tt σ2 H2 fun b H3 =>
        if b = true then te σ2 H3 fun y H4 => ∃ acc, H4 D = some (.lst acc) ∧ acc.length < sizeLine ∧ Nx (upd H4 D (.lst (acc ++ [y]))) else Nx H3) := by
  have sam : ∀ {H}, (∀ b o, b ≠ D → H1 b = some o → H b = some o) → Same H1 H := fun {H} h b o e => h b o (fun z => by rw [z, hD] at e; cases e) e
  refine lc_it w (fun i H => ∃ bs : List Addr, bs.length = i ∧ H D = some (.lst (bs.map V.ref)) ∧ (∀ b o, b ≠ D → H1 b = some o → H b = some o) ∧ (D :: bs).Nodup ∧ (∀ b ∈ bs, H1 b = none ∧ ∃ o, H b = some o) ∧ ∀ (k : Nat) (b : Addr) (r : Row), bs[k]? = some b → A[k]? = some r → H b = some (.lst (r.map V.int)))
    ⟨[], rfl, upd_same, fun b o n e => by rw [upd_ne n]; exact e, by simp, fun b hb => (nomatch hb), fun k b r e => by simp at e⟩ (fun i H hi ⟨bs, _, _, h3, _⟩ => hG H (sam h3)) ?_ fun H ⟨bs, h1, h2, h3, h4, h5, h6⟩ => hd bs H ⟨h2, by omega, h6⟩ (sam h3) h4 fun b hb => (h5 b hb).1
  intro i x H H' hi ⟨bs, h1, h2, h3, h4, h5, h6⟩ hy
  have eH := hY _ _ _ _ hy
  subst eH
  have hAi : A[i]? = some (A[i]'(by omega)) := List.getElem?_eq_getElem (by omega)
  refine hs i _ x H' _ _ hi hAi (fun p np => ?_) (sam h3) hy
  have hpD : p ≠ D := fun z => by rw [z, h2] at np; cases np
  have hpb : ∀ b ∈ bs, b ≠ p := fun b hb z => by
    obtain ⟨_, o, ho⟩ := h5 b hb
    rw [z, np] at ho
    cases ho
  have hbD : ∀ b ∈ bs, b ≠ D := fun b hb z => by
    rw [z] at hb
    exact (List.nodup_cons.mp h4).1 hb
  have e4 : ∀ {b : Addr} {o : HO}, b ≠ D → b ≠ p → H' b = some o → (upd (upd H' p (.lst ((A[i]'(by omega)).map V.int))) D (.lst (bs.map V.ref ++ [.ref p]))) b = some o := fun {b o} hb hb2 e => by rw [upd_ne hb, upd_ne hb2]; exact e
  refine ⟨bs.map V.ref, by rw [upd_ne hpD.symm]; exact h2, by rw [List.length_map, h1]; exact Nat.lt_of_lt_of_le hi (Nat.le_trans hn (by decide)), bs ++ [p], by simp [h1], by rw [upd_same]; simp, fun b o hb e => ?_, ?_, fun b hb => ?_, fun k b r e1 e2 => ?_⟩
  · have := h3 b o hb e
    exact e4 hb (fun z => by rw [z, np] at this; cases this) this
  · rw [← List.cons_append]
    refine List.nodup_append.mpr ⟨h4, by simp, fun x hx y hy => ?_⟩
    rw [List.mem_singleton.mp hy]
    rcases List.mem_cons.mp hx with h | h
    · rw [h]
      exact hpD.symm
    · exact hpb x h
  · rcases List.mem_append.mp hb with h | h
    · obtain ⟨q1, o, ho⟩ := h5 b h
      exact ⟨q1, o, e4 (hbD b h) (hpb b h) ho⟩
    · rw [List.mem_singleton.mp h]
      refine ⟨?_, _, by rw [upd_ne hpD]; exact upd_same⟩
      cases z : H1 p with
      | none => rfl
      | some o => rw [h3 p o hpD z] at np; cases np
  · rcases Nat.lt_or_ge k bs.length with hk | hk
    · rw [List.getElem?_append_left hk] at e1
      have hm := List.mem_of_getElem? e1
      exact e4 (hbD b hm) (hpb b hm) (h6 k b r e1 e2)
    · have hke : k = bs.length := by
        have := (List.getElem?_eq_some_iff.mp e1).1
        simp at this
        omega
      subst hke
      rw [List.getElem?_append_right (Nat.le_refl _), Nat.sub_self] at e1
      cases e1
      rw [h1, hAi] at e2
      cases e2
      rw [upd_ne hpD]
      exact upd_same
def spCopied : Sp := fun vs H Q _ => ∃ (L : Fl) (D : GD), vs = [.ref L.f] ∧ FldAt H L D ∧ GOk D ∧ ∀ (L2 : Fl) H', Same H H' → FldAt H' L2 D → L2.all.Nodup → (∀ b ∈ L2.all, H b = none) → Q (.ref L2.f) H'
section
variable {P : Program} {w0 : World} {K : PySem.W.Frag} {mg : Str → Option Value} {base : Heap}
end
end Wk

namespace Wk
open PySem L2

theorem same_rows {K : PySem.W.Frag} {H : Hp} {a b : Addr} {r s : List Int} (ha : RowAt K H a r) (hb : RowAt K H b s) (e : r = s) {Q : VK} (q : Q (.bl false) H) : rNeD K (.ref a) (.ref b) H Q := by
  subst e
  refine ⟨_, _, ha.dp, hb.dp, dI_shaped _, dI_shaped _, ?_⟩
  rw [dI_eqv, decide_eq_true rfl]
  exact q
theorem same_mats {K : PySem.W.Frag} {H : Hp} {a b : Addr} {A B : Mat} (ha : MatAt K H a A) (hb : MatAt K H b B) (e : A = B) {Q : VK} (q : Q (.bl false) H) : rNeD K (.ref a) (.ref b) H Q := by
  subst e
  refine ⟨_, _, ha.dp, hb.dp, dM_shaped _, dM_shaped _, ?_⟩
  rw [dM_eqv, decide_eq_true rfl]
  exact q
def spKept (K : PySem.W.Frag) (C : Addr) : Sp := fun vs H Q _ => ∃ (g : Addr) (L : Fl) (D : GD), vs = [.ref g, .ref L.f] ∧ GuardAt K C H g D ∧ FldAt H L D ∧ GOk D ∧ ∀ H', Same H H' → Q (.bl true) H'
def spIsTold (K : PySem.W.Frag) (C : Addr) : Sp := fun vs H Q _ => ∃ (g b s : Addr) (L : Fl) (D : GD) (B : Mat) (v : Row), vs = [.ref g, .ref L.f, .ref b, .ref s] ∧ GuardAt K C H g D ∧ FldAt H L D ∧ GOk D ∧ BlkAt K H b B ∧ B.length ≤ 100 ∧ (∀ r ∈ B, r.length = D.w) ∧ MRed D.M B ∧ RowAt K H s v ∧ v.length = D.n ∧ RRed D.M v ∧
  ∀ H', Same H H' → Q (.bl true) H'
theorem BlkAt.same {K : PySem.W.Frag} {H H' : Hp} {b : Addr} {B : Mat} (h : BlkAt K H b B) (e : Same H H') : BlkAt K H' b B := by
  obtain ⟨us, h1, h2⟩ := h
  exact ⟨us, e _ _ h1, h2.same e⟩
section
variable {P : Program} {w0 : World} {K : PySem.W.Frag} {mg : Str → Option Value} {base : Heap} {C fI fT fB fQ : Addr}
/-- another guard's fields -/
theorem LMat.setRow {H : Hp} {a b : Addr} {A : Mat} {bs : List Addr} {i : Nat} {r : Row} (h : LMat H a A bs) (nd : (a :: bs).Nodup) (hb : bs[i]? = some b) : LMat (upd H b (.lst (r.map V.int))) a (A.set i r) bs := by
  have hm := List.mem_of_getElem? hb
  have c := List.nodup_cons.mp nd
  refine ⟨by rw [upd_ne (fun z => c.1 (by rw [z]; exact hm))]; exact h.top, by rw [List.length_set]; exact h.len, fun k d rr h1 h2 => ?_⟩
  by_cases e : k = i
  · subst e
    rw [hb] at h1
    cases h1
    rw [List.getElem?_set_self (by
      have := (List.getElem?_eq_some_iff.mp hb).1
      rw [← h.len]
      exact this)] at h2
    cases h2
    exact upd_same
  · rw [List.getElem?_set_ne (fun z => e z.symm)] at h2
    rw [upd_ne (fun z => ?_)]
    · exact h.row k d rr h1 h2
    · rw [z] at h1
      obtain ⟨k1, e1⟩ := List.getElem?_eq_some_iff.mp h1
      obtain ⟨k2, e2⟩ := List.getElem?_eq_some_iff.mp hb
      have pw := List.pairwise_iff_getElem.mp c.2
      rcases Nat.lt_or_gt_of_ne e with q | q
      · exact pw k i k1 k2 q (e1.trans e2.symm)
      · exact pw i k k2 k1 q (e2.trans e1.symm)
theorem succ_ne {M x : Int} (hM : 2 ≤ M) (h0 : 0 ≤ x) (h1 : x < M) : (x + 1) % M ≠ x ∧ 0 ≤ (x + 1) % M ∧ (x + 1) % M < M := by
  refine ⟨fun z => ?_, Int.emod_nonneg _ (by omega), Int.emod_lt_of_pos _ (by omega)⟩
  by_cases e : x + 1 = M
  · rw [e, Int.emod_self] at z
    omega
  · rw [Int.emod_eq_of_lt (by omega) (by omega)] at z
    omega
theorem red_set {M : Int} {r : Row} {j : Nat} {x : Int} (h : RRed M r) (hx : 0 ≤ x ∧ x < M) : RRed M (r.set j x) := fun y hy => by
  rcases List.mem_or_eq_of_mem_set hy with z | z
  · exact h y z
  · rw [z]; exact hx
theorem set_ne {r : Row} {j : Nat} {x y : Int} (h : r[j]? = some y) (ne : x ≠ y) : r.set j x ≠ r := fun z => by
  have hj := (List.getElem?_eq_some_iff.mp h).1
  have e1 : (r.set j x)[j]? = some x := List.getElem?_set_self hj
  rw [z, h] at e1
  cases e1
  exact ne rfl
theorem GOk.setG {D : GD} (ok : GOk D) {i : Nat} {r : Row} (hl : r.length = D.w) (hr : RRed D.M r) : GOk { D with G := D.G.set i r } where
  m2 := ok.m2
  m18 := ok.m18
  n1 := ok.n1
  n16 := ok.n16
  w1 := ok.w1
  w16 := ok.w16
  sA := ok.sA
  sG := ⟨by show (D.G.set i r).length = D.n; rw [List.length_set]; exact ok.sG.1, fun x hx => by
    rcases List.mem_or_eq_of_mem_set hx with z | z
    · exact ok.sG.2 x z
    · rw [z]; exact hl⟩
  lst := ok.lst
  len := ok.len
  rA := ok.rA
  rG := fun x hx => by
    rcases List.mem_or_eq_of_mem_set hx with z | z
    · exact ok.rG x z
    · rw [z]; exact hr
  rst := ok.rst
  ren := ok.ren
  inv := ok.inv
theorem GOk.setS {D : GD} (ok : GOk D) {r : Row} (hl : r.length = D.n) (hr : RRed D.M r) : GOk { D with st := r } := { ok with lst := hl, rst := hr }
theorem GOk.setE {D : GD} (ok : GOk D) {r : Row} (hl : r.length = D.n) (hr : RRed D.M r) : GOk { D with en := r } := { ok with len := hl, ren := hr }
theorem nd_parts {L : Fl} (h : L.all.Nodup) : (L.f ∉ L.aM :: L.aC :: L.aS :: L.aE :: (L.ms ++ L.cs)) ∧ (L.aM ∉ L.aC :: L.aS :: L.aE :: (L.ms ++ L.cs)) ∧ (L.aC ∉ L.aS :: L.aE :: (L.ms ++ L.cs)) ∧ (L.aS ∉ L.aE :: (L.ms ++ L.cs)) ∧ (L.aE ∉ L.ms ++ L.cs) ∧ L.ms.Nodup ∧ L.cs.Nodup ∧ ∀ a ∈ L.ms, ∀ b ∈ L.cs, a ≠ b := by
  unfold Fl.all at h
  have a1 := List.nodup_cons.mp h
  have a2 := List.nodup_cons.mp a1.2
  have a3 := List.nodup_cons.mp a2.2
  have a4 := List.nodup_cons.mp a3.2
  have a5 := List.nodup_cons.mp a4.2
  have a6 := List.nodup_append.mp a5.2
  exact ⟨a1.1, a2.1, a3.1, a4.1, a5.1, a6.1, a6.2.1, a6.2.2⟩
theorem FldAt.setG {H : Hp} {L : Fl} {D : GD} {i : Nat} {b : Addr} {r : Row} (h : FldAt H L D) (nd : L.all.Nodup) (hb : L.cs[i]? = some b) : FldAt (upd H b (.lst (r.map V.int))) L { D with G := D.G.set i r } := by
  obtain ⟨n1, n2, n3, n4, n5, n6, n7, n8⟩ := nd_parts nd
  have hm := List.mem_of_getElem? hb
  refine ⟨by rw [upd_ne (fun z => n1 (by rw [z]; simp [hm]))]; exact h.top, h.mat.keep fun d o hd e => ?_, h.col.setRow (List.nodup_cons.mpr ⟨fun z => n3 (by simp [z]), n7⟩) hb, by rw [upd_ne (fun z => n4 (by rw [z]; simp [hm]))]; exact h.st, by rw [upd_ne (fun z => n5 (by rw [z]; simp [hm]))]; exact h.en⟩
  rw [upd_ne (fun z => ?_)]
  · exact e
  · rcases List.mem_cons.mp hd with y | y
    · exact n2 (by rw [← y, z]; simp [hm])
    · exact n8 d y b hm z
theorem FldAt.setS {H : Hp} {L : Fl} {D : GD} {r : Row} (h : FldAt H L D) (nd : L.all.Nodup) : FldAt (upd H L.aS (.lst (r.map V.int))) L { D with st := r } := by
  obtain ⟨n1, n2, n3, n4, n5, n6, n7, n8⟩ := nd_parts nd
  have k : ∀ d o, d ≠ L.aS → H d = some o → (upd H L.aS (.lst (r.map V.int))) d = some o := fun d o hd e => by rw [upd_ne hd]; exact e
  refine ⟨k _ _ (fun z => n1 (by simp [z])) h.top, h.mat.keep fun d o hd e => k d o (fun z => ?_) e, h.col.keep fun d o hd e => k d o (fun z => ?_) e, upd_same, k _ _ (fun z => n4 (by simp [z])) h.en⟩
  · rcases List.mem_cons.mp hd with y | y
    · exact n2 (by simp [← y, z])
    · exact n4 (by simp [← z, y])
  · rcases List.mem_cons.mp hd with y | y
    · exact n3 (by simp [← y, z])
    · exact n4 (by simp [← z, y])
theorem FldAt.setE {H : Hp} {L : Fl} {D : GD} {r : Row} (h : FldAt H L D) (nd : L.all.Nodup) : FldAt (upd H L.aE (.lst (r.map V.int))) L { D with en := r } := by
  obtain ⟨n1, n2, n3, n4, n5, n6, n7, n8⟩ := nd_parts nd
  have k : ∀ d o, d ≠ L.aE → H d = some o → (upd H L.aE (.lst (r.map V.int))) d = some o := fun d o hd e => by rw [upd_ne hd]; exact e
  refine ⟨k _ _ (fun z => n1 (by simp [z])) h.top, h.mat.keep fun d o hd e => k d o (fun z => ?_) e, h.col.keep fun d o hd e => k d o (fun z => ?_) e, k _ _ (fun z => n4 (by simp [z])) h.st, upd_same⟩
  · rcases List.mem_cons.mp hd with y | y
    · exact n2 (by simp [← y, z])
    · exact n5 (by simp [← z, y])
  · rcases List.mem_cons.mp hd with y | y
    · exact n3 (by simp [← y, z])
    · exact n5 (by simp [← z, y])
def spOther (K : PySem.W.Frag) : Sp := fun vs H Q _ => ∃ (p c : Addr) (ns : List Int) (m : Nat) (L : Fl) (D : GD), vs = [.ref p, .ref L.f] ∧ Pen H p c ns m ∧ m < 70000 ∧ FldAt H L D ∧ GOk D ∧ (∀ b ∈ L.all, b ≠ p) ∧
  ∀ (L2 : Fl) (D2 : GD) H', But p H H' → Pen H' p c ns (m + 3) → FldAt H' L2 D2 → GOk D2 → D.Same D2 = false → (∀ b ∈ L2.all, H b = none) → Q (.ref L2.f) H'
end
end Wk

namespace Wk
open PySem L2
abbrev s_taken : Stmt := top 36
theorem sc_taken : FnScope ["step", "state", "limit", "row", "a", "b"] ["step", "state", "limit"] (defScope s_taken) := ⟨rfl, rfl, rfl, by decide +kernel, rfl, by decide +kernel, by decide +kernel⟩
abbrev s_is_reached : Stmt := top 38
theorem sc_is_reached : FnScope ["state", "limit"] ["state", "limit"] (defScope s_is_reached) := ⟨rfl, rfl, rfl, by decide +kernel, rfl, by decide +kernel, by decide +kernel⟩

def NewR (K : PySem.W.Frag) (H : Hp) (r : Row) (Q : VK) : Prop := ∀ q H', Same H H' → RowAt K H' q r → Q (.ref q) H'
theorem take_snoc {α : Type} {r : List α} {i : Nat} {x : α} (h : r[i]? = some x) : r.take (i + 1) = r.take i ++ [x] := by
  rw [List.take_succ, h]
  rfl
def spTrnL (K : PySem.W.Frag) : Sp := fun vs H Q _ => ∃ (a : Addr) (B : Mat) (n : Nat), vs = [.ref a] ∧ RowsG false true K H a B ∧ 1 ≤ B.length ∧ B.length ≤ 16 ∧ 1 ≤ n ∧ n ≤ 1000 ∧ (∀ r ∈ B, r.length = n) ∧ NewMat K H (colsOf n B) Q
def spTaken (K : PySem.W.Frag) : Sp := fun vs H Q _ => ∃ (t : Bool) (p q : Addr) (P : Mat) (z : Row) (L : Int), vs = [.ref p, .ref q, .int L] ∧ RowsG t true K H p P ∧ RowAt K H q z ∧ (∀ r ∈ P, r.length = z.length) ∧ P.length ≤ 1000 ∧ z.length ≤ 1000 ∧ MWd P ∧ RWd z ∧ NewR K H (satR L P z) Q
def spIsR (K : PySem.W.Frag) : Sp := fun vs H Q _ => ∃ (q : Addr) (z : Row) (L : Int), vs = [.ref q, .int L] ∧ RowAt K H q z ∧ 0 < z.length ∧ ((∃ x ∈ z, L ≤ x) → Q (.bl true) H) ∧ (¬ (∃ x ∈ z, L ≤ x) → Q (.bl false) H)
theorem RowsS.are {K : PySem.W.Frag} {H : Hp} : ∀ {vs : List V} {A : Mat}, RowsS true K H vs A → RowsAre K H vs A
  | _, _, .nil => .nil
  | _, _, .cons h t => .cons h t.are
section
variable {P : Program} {w0 : World} {K : PySem.W.Frag} {mg : Str → Option Value} {base : Heap}
theorem ok_transL {f : Addr} {fd : FuncData} (F : Fun K "transposed" "transposed" s_transposed f fd) (T : TxtM mg) : FnOk P w0 K mg base CX0 1 f fd ["matrix"] (spTrnL K) := by
  refine F.ok sc_transposed (fun vs H Q E h => ?_) (fun cdv A outer s H vs Q E hr h => ?_)
  · obtain ⟨a, B, n, rfl, _⟩ := h
    rfl
  · obtain ⟨a, B, n, rfl, ⟨vs, hB, hRs⟩, h1, h8, n1, n2, hw, k⟩ := h
    have hR := hRs.are
    refine ⟨_, (pss_one (ps_ret (pe_trn rfl rfl T.f_tuple rfl T.f_zip (pv 0)))), ?_⟩
    obtain ⟨ls, rfl, hl, hh⟩ := rows_refs hR
    refine ⟨_, rfl, a, ls, B.map (fun r => r.map V.int), n, rfl, .inr hB, by simp [hl], by omega, by omega, n1, n2, fun i l r e1 e2 => ?_, fun as p H2 sm has hp hc => ?_⟩
    · rw [List.getElem?_map] at e2
      cases e : B[i]? with
      | none => rw [e] at e2; cases e2
      | some r0 =>
        rw [e] at e2
        cases e2
        exact ⟨hh i l r0 e1 e, by rw [List.length_map]; exact hw _ (List.mem_of_getElem? e)⟩
    · refine k p H2 sm ⟨as.map V.ref, SqT.of hp, rows_of (by simp [colsOf, has]) fun i v r e1 e2 => ?_⟩
      rw [List.getElem?_map] at e1
      cases ea : as[i]? with
      | none => rw [ea] at e1; cases e1
      | some b =>
        rw [ea] at e1
        cases e1
        have hi : i < n := by
          rw [← has]
          exact (List.getElem?_eq_some_iff.mp ea).1
        refine ⟨b, rfl, SqT.of ((hc i b ea).trans ?_)⟩
        have er : r = B.map fun r => r.getD i 0 := by
          simp only [colsOf, List.getElem?_map, List.getElem?_range hi, Option.map_some, Option.some.injEq] at e2
          exact e2.symm
        rw [er, List.map_map, List.map_map]
        congr 2
        refine List.map_congr_left fun q hq => ?_
        have hql := hw q hq
        have hq2 : i < q.length := by omega
        simp [List.getD_eq_getElem?_getD, List.getElem?_eq_getElem hq2]
theorem ok_taken {f : Addr} {fd : FuncData} (F : Fun K "taken" "taken" s_taken f fd) (T : TxtL mg) : FnOk P w0 K mg base CX0 1 f fd ["step", "state", "limit"] (spTaken K) := by
  refine F.ok sc_taken (fun vs H Q E h => ?_) (fun cdv A outer s H vs Q E hr h => ?_)
  · obtain ⟨t, p, q, Pm, z, L, rfl, _⟩ := h
    rfl
  · obtain ⟨t, p, q, Pm, z, L, rfl, ⟨vs, hA, hRs⟩, hz, hw, l1, l2, wP, wz, k⟩ := h
    refine ⟨_, (pss_one (ps_ret (pe_callTy (call_tupleK (K := K) rfl) rfl T.f_tuple (by decide +kernel) (pa_cons (pe_lc (own := [("row", 3)]) (g := gName 3) rfl sc_taken.nd (pi_sqK (K := K) rfl t (pv 0)) (blkOk_by (N := ["step", "state", "limit", "row", "a", "b"]) (sc := defScope s_taken) (by decide +kernel)) (fun _ _ _ _ _ => (pg_name (i := 3) sc_taken.nd rfl (Or.inl rfl))) (fun _ _ _ _ _ => pts_nil) (fun _ _ _ _ _ => (pe_callB (call_min2 rfl) rfl T.f_min (by decide +kernel) (pa_cons (pv 2) (pa_cons (pe_callB (cr_sumK (K := K) rfl rfl) rfl T.f_sum (by decide +kernel) (pa_cons (pe_lc (own := [("a", 4), ("b", 5)]) (g := gTup K 2 (gCons (gName 4) (gCons (gName 5) gNil))) rfl sc_taken.nd (pi_zip2K (K := K) rfl true true rfl T.f_zip (pa_cons (pv 3) (pa_cons (pv 1) pa_nil))) (blkOk_by (N := ["step", "state", "limit", "row", "a", "b"]) (sc := relS _ (defScope s_taken)) (by decide +kernel)) (fun _ _ _ _ _ => (pg_tupK rfl rfl (pgs_cons (pg_name (i := 4) sc_taken.nd rfl (Or.inl rfl)) (pgs_cons (pg_name (i := 5) sc_taken.nd rfl (Or.inl rfl)) pgs_nil)))) (fun _ _ _ _ _ => pts_nil) (fun _ _ _ _ _ => (pe_op op_mulW (pv 4) (pv 5)))) pa_nil)) pa_nil))))) pa_nil)))), ?_⟩
    have hR := hRs.are
    have hlen := hR.length
    refine ⟨_, rfl, p, rfl, ⟨vs, hA⟩, fun D hD => lc_rel (walk_sq (t := t) (xs := vs)) hD (by omega) (fun i v _ => ∃ x, (satR L Pm z)[i]? = some x ∧ v = .int x) (fun i v H H' h _ => h) (fun H1 e => SqK.same hA e) ?_ ?_⟩
    · intro i x H1 H1' Fn Nn fin hi sm hacc hy
      obtain ⟨rfl, hx⟩ := hy
      obtain ⟨b, l, rfl, hl, hp⟩ := rows_at hR hx
      have hll : l.length = z.length := hw _ (List.mem_of_getElem? hl)
      refine ⟨rfl, yesT ⟨_, rfl, ?_⟩⟩
      refine dot_read rfl rfl (t := true) (u := true) (SqT.same hp sm) (SqT.same hz sm) hll (by omega) (wP _ (List.mem_of_getElem? hl)) wz (fun _ _ => rfl) (fun _ _ => rfl) (fun _ _ => rfl) fun H2 s2 => ?_
      exact ⟨_, _, rfl, fin _ _ s2 ⟨_, satR_at hl, rfl⟩⟩
    · intro acc H1 e1 e2 sm hR2
      have e : acc = (satR L Pm z).map V.int := acc_map (by rw [e1, hlen, satR_len]) hR2
      rw [e] at e2
      dsimp only [tNil]
      exact tup_ofR (u := false) (SqL.of e2) fun q7 H7 s7 h7 => k q7 H7 (same_trans sm s7) h7
theorem ok_isr {f : Addr} {fd : FuncData} (F : Fun K "is_reached" "is_reached" s_is_reached f fd) (T : TxtL mg) (fmax : mg "max" = none) : FnOk P w0 K mg base CX0 1 f fd ["state", "limit"] (spIsR K) := by
  refine F.ok sc_is_reached (fun vs H Q E h => ?_) (fun cdv A outer s H vs Q E hr h => ?_)
  · obtain ⟨q, z, L, rfl, _⟩ := h
    rfl
  · obtain ⟨q, z, L, rfl, hz, l0, k1, k2⟩ := h
    refine ⟨_, (pss_one (ps_ret (pe_cmpR op_ge (pe_callB (cr_maxU (K := K) rfl rfl) rfl fmax (by decide +kernel) (pa_cons (pv 0) pa_nil)) (pv 1) (nomark _)))), ?_⟩
    refine ⟨_, rfl, q, z, rfl, hz, l0, fun m hm hmx => ⟨_, rfl, _, _, rfl, rfl, ?_⟩⟩
    by_cases h : ∃ x ∈ z, L ≤ x
    · have h2 := k1 h
      obtain ⟨x, hx, hL⟩ := h
      have := hmx x hx
      dsimp only
      rw [decide_eq_true (show L ≤ m by omega)]
      exact h2
    · have h2 := k2 h
      dsimp only
      rw [decide_eq_false (fun z : L ≤ m => h ⟨m, hm, z⟩)]
      exact h2
end
end Wk

namespace Wk
open PySem L2
abbrev s_steps_below : Stmt := top 37
theorem sc_steps_below : FnScope ["step", "state", "limit", "doubled", "columns", "many", "place", "further", "row"] ["step", "state", "limit"] (defScope s_steps_below) := ⟨rfl, rfl, rfl, by decide +kernel, rfl, by decide +kernel, by decide +kernel⟩

-- step=0 state=1 limit=2 doubled=3 columns=4 many=5 place=6 further=7 row=8
theorem rows_butL {K : PySem.W.Frag} {H H' : Hp} {l : Addr} {us : List V} (e : But l H H') (hl : H l = some (.lst us)) : ∀ {vs : List V} {A : Mat}, RowsAre K H vs A → RowsAre K H' vs A
  | _, _, .nil => .nil
  | _, _, .cons h t => .cons (by
      rcases h with (h | ⟨o, h⟩) | h
      · exact .inl (.inl (e _ _ (fun z => by rw [z, hl] at h; cases h) h))
      · exact .inl (.inr ⟨o, e _ _ (fun z => by rw [z, hl] at h; cases h) h⟩)
      · exact .inr h) (rows_butL e hl t)
theorem BlkAt.butL {K : PySem.W.Frag} {H H' : Hp} {b l : Addr} {us : List V} {A : Mat} (h : BlkAt K H b A) (e : But l H H') (hl : H l = some (.lst us)) (n : b ≠ l) : BlkAt K H' b A := by
  obtain ⟨vs, h1, h2⟩ := h
  exact ⟨vs, e _ _ n h1, rows_butL e hl h2⟩
/-- the steps doubled so far -/
def Dbl (K : PySem.W.Frag) (L : Int) (N : Nat) (Pf : Fm) (H : Hp) (dbl : Addr) (bs : List Addr) : Prop := H dbl = some (.lst (bs.map V.ref)) ∧ ∀ i b, bs[i]? = some b → b ≠ dbl ∧ ∃ Pm, BlkAt K H b Pm ∧ MatSq L N Pm (powF N Pf (2 ^ i))
theorem Dbl.same {K : PySem.W.Frag} {L : Int} {N : Nat} {Pf : Fm} {H H' : Hp} {dbl : Addr} {bs : List Addr} (h : Dbl K L N Pf H dbl bs) (e : Same H H') : Dbl K L N Pf H' dbl bs := ⟨e _ _ h.1, fun i b hb => by
  obtain ⟨n, Pm, h1, h2⟩ := h.2 i b hb
  exact ⟨n, Pm, h1.same e, h2⟩⟩
theorem Dbl.push {K : PySem.W.Frag} {L : Int} {N : Nat} {Pf : Fm} {H : Hp} {dbl p : Addr} {bs : List Addr} {Pm : Mat} (h : Dbl K L N Pf H dbl bs) (n : p ≠ dbl) (hp : BlkAt K H p Pm) (m : MatSq L N Pm (powF N Pf (2 ^ bs.length))) : Dbl K L N Pf (upd H dbl (.lst (bs.map V.ref ++ [.ref p]))) dbl (bs ++ [p]) := by
  have b : But dbl H (upd H dbl (.lst (bs.map V.ref ++ [.ref p]))) := fun a o n e => by rw [upd_ne n]; exact e
  refine ⟨by rw [upd_same, List.map_append]; rfl, fun i a ha => ?_⟩
  rcases Nat.lt_or_ge i bs.length with hi | hi
  · rw [List.getElem?_append_left hi] at ha
    obtain ⟨n2, Q, h1, h2⟩ := h.2 i a ha
    exact ⟨n2, Q, h1.butL b h.1 n2, h2⟩
  · have hi2 : i = bs.length := by
      have := (List.getElem?_eq_some_iff.mp ha).1
      simp at this
      omega
    subst hi2
    rw [List.getElem?_append_right (Nat.le_refl _), Nat.sub_self] at ha
    cases ha
    exact ⟨n, Pm, hp.butL b h.1 n, m⟩
theorem pow_twice {N : Nat} {P : Fm} (m : Nat) : ∀ i k, i < N → k < N → mulF N (powF N P m) (powF N P m) i k = powF N P (m + m) i k := fun i k hi hk => (eq0 (powF_add (M := 0) N P m m i k hi hk)).symm
theorem dbl_bound {n : Nat} {L : Int} {t : Nat} (hn : n ≤ 16) (hL : L ≤ 2 ^ 128) (h1 : 1 ≤ L) (h : ((2 ^ t : Nat) : Int) ≤ n * (L - 1)) : t < 140 := by
  refine Nat.lt_of_not_le fun z => ?_
  have h2 : 2 ^ 140 ≤ 2 ^ t := Nat.pow_le_pow_right (by decide) z
  have h3 : (n : Int) * (L - 1) ≤ 16 * (L - 1) := Int.mul_le_mul_of_nonneg_right (by omega) (by omega)
  have h4 : (2 : Int) ^ 128 = 340282366920938463463374607431768211456 := by decide
  have h5 : (2 : Nat) ^ 140 = 1393796574908163946345982392040522594123776 := by decide
  omega
theorem sub_one_sub (a b : Nat) : a - (b + 1) = a - 1 - b := by omega
def muD (σ : L2.St) (H : Hp) : Nat := match σ[3]? with
  | some (some (V.ref a)) => match H a with
    | some (.lst xs) => 200 - xs.length
    | _ => 0
  | _ => 0
def spBelow (K : PySem.W.Frag) : Sp := fun vs H Q _ => ∃ (p q : Addr) (Pm : Mat) (z : Row) (L : Int) (n N : Nat) (Pf : Fm) (zf : Nat → Int), vs = [.ref p, .ref q, .int L] ∧ BlkAt K H p Pm ∧ RowAt K H q z ∧ MatSq L N Pm Pf ∧ RowSq L N z zf ∧ Grow n N Pf zf ∧ 1 ≤ n ∧ N ≤ 16 ∧ 2 ≤ L ∧ L ≤ 2 ^ 128 ∧
  (∃ i, i < n ∧ runF N Pf zf 1 i ≠ zf i) ∧ (∀ m i, n ≤ i → i < N → runF N Pf zf m i < L) ∧ ¬ Rch n L zf ∧ ∀ (m : Nat) H', Same H H' → ¬ Rch n L (runF N Pf zf m) → Rch n L (runF N Pf zf (m + 1)) → Q (.int (m : Int)) H'
section
variable {P : Program} {w0 : World} {K : PySem.W.Frag} {mg : Str → Option Value} {base : Heap}
theorem ok_below {f f0 f1 f2 : Addr} {fd fd0 fd1 fd2 : FuncData} (F : Fun K "steps_below" "steps_below" s_steps_below f fd) (T : TxtL mg) (TR : TxtR mg)
    (G_taken : FnOk P w0 K mg base CX0 1 f0 fd0 ["step", "state", "limit"] (spTaken K)) (g_taken : mg "taken" = some (.ref f0)) (kp_taken : PySem.W.keepIn K (.ref f0) = true) (b_taken : Binds K fd0 ["step", "state", "limit"] [])
    (G_is_reached : FnOk P w0 K mg base CX0 1 f1 fd1 ["state", "limit"] (spIsR K)) (g_is_reached : mg "is_reached" = some (.ref f1)) (kp_is_reached : PySem.W.keepIn K (.ref f1) = true) (b_is_reached : Binds K fd1 ["state", "limit"] [])
    (G_transposed : FnOk P w0 K mg base CX0 1 f2 fd2 ["matrix"] (spTrnL K)) (g_transposed : mg "transposed" = some (.ref f2)) (kp_transposed : PySem.W.keepIn K (.ref f2) = true) (b_transposed : Binds K fd2 ["matrix"] [])
    : FnOk P w0 K mg base CX0 2 f fd ["step", "state", "limit"] (spBelow K) := by
  refine F.ok sc_steps_below (fun vs H Q E h => ?_) (fun cdv A outer s H vs Q E hr h => ?_)
  · obtain ⟨p, q, Pm, z, L, n, N, Pf, zf, rfl, _⟩ := h
    rfl
  · obtain ⟨p, q, Pm, z, L, n, N, Pf, zf, rfl, hP, hz, mP, rz, g, n1, N16, L2', L60, mv, last, r0, kk⟩ := h
    refine ⟨_, (pss_cons (ps_set (i := 3) sc_steps_below.nd rfl (Or.inl rfl) (pe_lst pa_nil))
        (pss_cons (ps_while PassesOwn.never (pt_not (pt_val (pe_call G_is_reached (hr.mono (by decide)) rfl g_is_reached kp_is_reached b_is_reached .nil pass0 (pa_cons (pe_call G_taken (hr.mono (by decide)) rfl g_taken kp_taken b_taken .nil pass0 (pa_cons (pv 0) (pa_cons (pv 1) (pa_cons (pv 2) pa_nil)))) (pa_cons (pv 2) pa_nil))))) (pss_cons (ps_expr (pe_bm PySem.F.plainAttrs_list PySem.F.slot_list_append PySem.F.type_list_append mt_append (pv 3) (pa_cons (pv 0) pa_nil)))
        (pss_cons (ps_set (i := 4) sc_steps_below.nd rfl (Or.inr rfl) (pe_call G_transposed (hr.mono (by decide)) rfl g_transposed kp_transposed b_transposed .nil pass0 (pa_cons (pv 0) pa_nil)))
        (pss_one (ps_setLc (i := 0) (own := [("row", 8)]) (g := gName 8) rfl sc_steps_below.nd rfl rfl (sw_true rfl rfl rfl (by decide +kernel)) (pi_list (pv 0)) (blkOk_by (N := ["step", "state", "limit", "doubled", "columns", "many", "place", "further", "row"]) (sc := defScope s_steps_below) (by decide +kernel)) (fun _ _ _ _ _ => (pg_name (i := 8) sc_steps_below.nd rfl (Or.inl rfl))) (fun _ _ _ _ _ => pts_nil) (fun _ _ _ _ _ => (pe_call G_taken (hr.mono (by decide)) rfl g_taken kp_taken b_taken .nil pass0 (pa_cons (pv 4) (pa_cons (pv 8) (pa_cons (pv 2) pa_nil))))))))))
        (pss_cons (ps_set (i := 5) sc_steps_below.nd rfl (Or.inl rfl) pe_int)
        (pss_cons (ps_for PassesOwn.never rfl (pi_revR rfl TR.f_reversed (prg_1 rfl T.f_range (pe_callB call_len_seq rfl T.f_len PySem.boot_len (pa_cons (pv 3) pa_nil)))) (pg_name (i := 6) sc_steps_below.nd rfl (Or.inl rfl)) (pss_cons (ps_set (i := 7) sc_steps_below.nd rfl (Or.inl rfl) (pe_call G_taken (hr.mono (by decide)) rfl g_taken kp_taken b_taken .nil pass0 (pa_cons (pe_ix ix_list (pv 3) (pv 6) (fun _ _ => rfl)) (pa_cons (pv 1) (pa_cons (pv 2) pa_nil)))))
        (pss_one (ps_if (pt_not (pt_val (pe_call G_is_reached (hr.mono (by decide)) rfl g_is_reached kp_is_reached b_is_reached .nil pass0 (pa_cons (pv 7) (pa_cons (pv 2) pa_nil))))) (pss_one (ps_par (i := 5) (j := 1) rfl sc_steps_below.nd rfl rfl (by decide) rfl rfl (pa_cons (pe_op op_add (pv 5) (pe_op op_oneShl pe_int (pv 6))) (pa_cons (pv 7) pa_nil)) (by rfl))) pss_nil))))
        (pss_one (ps_ret (pv 5))))))), ?_⟩
    have hnN := g.le
    have lz := rz.1
    have L64 : L < 2 ^ 136 := Int.lt_of_le_of_lt L60 (by decide)
    have m1 : MatSq L N Pm (powF N Pf (2 ^ 0)) := mP.pow_congr fun i k hi hk => (pow1 hi hk).symm
    refine ⟨Nat.zero_le _, fun dbl ndbl => ?_⟩
    have s0 : Same H (upd H dbl (.lst [])) := same_upd ndbl
    have pne : ∀ {H' : Hp} {b : Addr} {o : HO}, H' b = some o → H' = H → b ≠ dbl := fun {H' b o} e1 e2 z => by rw [e2, z, ndbl] at e1; cases e1
    refine while_by (fun σ H' => ∃ (t : Nat) (p : Addr) (Pm : Mat) (bs : List Addr) (x4 : Option V), σ = [some (.ref p), some (.ref q), some (.int L), some (.ref dbl), x4, none, none, none, none] ∧ Same H H' ∧ p ≠ dbl ∧ BlkAt K H' p Pm ∧ MatSq L N Pm (powF N Pf (2 ^ t)) ∧ bs.length = t ∧ Dbl K L N Pf H' dbl bs ∧ t ≤ 140) muD ?_ ?_ ?_
    · refine ⟨0, p, Pm, [], none, rfl, s0, ?_, hP.same s0, m1, rfl, ⟨upd_same, fun i b hb => by cases hb⟩, by decide⟩
      obtain ⟨vs, h1, _⟩ := hP
      exact fun e => by rw [e, ndbl] at h1; cases h1
    · rintro σ H' ⟨t, p, Pm, bs, x4, rfl, s', np, hP', mP', lb, hd, t90⟩
      have hz' := SqT.same hz s'
      refine ⟨_, rfl, _, rfl, _, rfl, false, p, q, Pm, z, L, rfl, hP'.rowsG, hz', fun r hr => by rw [mP'.shp.2 r hr, lz], by rw [mP'.shp.1]; omega, by omega, mP'.wd, rz.2.1, fun q1 H1 s1 h1 => ?_⟩
      have rs := sat_apply (by omega) L64 mP' rz
      have rch := sat_reach rs hnN (last (2 ^ t))
      refine ⟨_, rfl, q1, _, L, rfl, h1, by rw [rs.1]; omega, fun hr => ⟨true, rfl, iteF ?_⟩, fun hr => ⟨false, rfl, iteT ?_⟩⟩
      · have hr := rch.mp hr
        have s1' := same_trans s' s1
        have hd1 := hd.same s1
        refine ⟨_, rfl, dbl, _, rfl, .inl (SqL.of hd1.1), (t : Int), by rw [List.length_map, lb], by omega, by omega, by omega, by omega, ?_⟩
        clear hP' hz' h1 rs rch hd s' s1
        refine for_it (walk_rangeC (c := -1) (n := t)) (fun i σ H' => ∃ (m : Nat) (q' : Addr) (z' : Row) (x6 x7 : Option V), σ = [some (.ref p), some (.ref q'), some (.int L), some (.ref dbl), x4, some (.int (m : Int)), x6, x7, none] ∧ Same H1 H' ∧ RowAt K H' q' z' ∧ RowSq L N z' (runF N Pf zf m) ∧ ¬ Rch n L (runF N Pf zf m) ∧ Rch n L (runF N Pf zf (m + 2 ^ (t - i)))) ⟨0, q, z, none, none, rfl, fun _ _ e => e, SqT.same hz s1', rz.congr fun i hi => (runF_zero hi).symm, fun ⟨i, hi, e⟩ => r0 ⟨i, hi, by rw [runF_zero (Nat.lt_of_lt_of_le hi hnN)] at e; exact e⟩, by rw [Nat.zero_add]; exact hr⟩ (fun _ _ _ _ _ => trivial) ?_ ?_
        · rintro i v σ H2 H2' hi ⟨m, q', z', x6, x7, rfl, s2, hz2, rz2, nr, rc⟩ ⟨rfl, rfl⟩
          have hd2 := hd1.same s2
          have hj : bs[t - 1 - i]? = some (bs[t - 1 - i]'(by omega)) := List.getElem?_eq_getElem _
          obtain ⟨nb, Pb, hPb, mPb⟩ := hd2.2 _ _ hj
          generalize bs[t - 1 - i]'(by omega) = b at *
          have lz2 := rz2.1
          have ej : (0 : Int) + (((t : Int) - 0).toNat : Int) - 1 + (i : Int) * -1 = ((t - 1 - i : Nat) : Int) := by omega
          have eT : t - i = (t - 1 - i) + 1 := by omega
          have hb27 : t - 1 - i ≤ 134217727 := by omega
          dsimp only
          rw [ej]
          refine ⟨_, rfl, _, rfl, dbl, _, _, _, rfl, rfl, SqL.of hd2.1, atI_nat (v := V.ref b) (by rw [List.getElem?_map, hj]; rfl), _, rfl, _, rfl, false, b, q', Pb, z', L, rfl, hPb.rowsG, hz2, fun r hr => by rw [mPb.shp.2 r hr, lz2], by rw [mPb.shp.1]; omega, by omega, mPb.wd, rz2.2.1, fun qf H3 s3 hf => ?_⟩
          have rs := (sat_apply (by omega) L64 mPb rz2).congr (g := runF N Pf zf (m + 2 ^ (t - 1 - i))) fun k hk => by rw [Nat.add_comm]; exact (runF_add _ _ hk).symm
          have rch := sat_reach rs hnN (last _)
          have p2 : m + 2 ^ (t - i) = m + 2 ^ (t - 1 - i) + 2 ^ (t - 1 - i) := by rw [eT, Nat.pow_succ]; omega
          have sub1 : t - (i + 1) = t - 1 - i := sub_one_sub t i
          refine ⟨_, rfl, _, rfl, qf, _, L, rfl, hf, by rw [rs.1]; omega, fun hr => ⟨true, rfl, iteF ?_⟩, fun hr => ⟨false, rfl, iteT ?_⟩⟩
          · refine ⟨m, q', z', _, _, rfl, same_trans s2 s3, SqT.same hz2 s3, rz2, nr, ?_⟩
            rw [sub1]
            exact rch.mp hr
          · have nr2 : ¬ Rch n L (runF N Pf zf (m + 2 ^ (t - 1 - i))) := fun z => hr (rch.mpr z)
            refine ⟨_, rfl, _, rfl, t - 1 - i, rfl, rfl, hb27, _, _, rfl, rfl, _, rfl, _, _, rfl, ?_⟩
            refine ⟨m + 2 ^ (t - 1 - i), qf, _, some (.int ((t - 1 - i : Nat) : Int)), some (.ref qf), ?_, same_trans s2 s3, hf, rs, nr2, by rw [sub1, ← p2]; exact rc⟩
            have e : (m : Int) + 2 ^ (t - 1 - i) = ((m + 2 ^ (t - 1 - i) : Nat) : Int) := by rw [Int.natCast_add, Int.natCast_pow]; rfl
            rw [← e]
            rfl
        · rintro σ H2 ⟨m, q', z', x6, x7, rfl, s2, hz2, rz2, nr, rc⟩
          rw [Nat.sub_self] at rc
          exact ⟨_, rfl, kk m H2 (same_trans s1' s2) nr rc⟩
      · have nr : ¬ Rch n L (runF N Pf zf (2 ^ t)) := fun z => hr (rch.mpr z)
        have tb := dbl_bound (by omega) L60 (by omega) (g.bound mv nr)
        have s1' := same_trans s' s1
        have hd1 := hd.same s1
        have hP1 := hP'.same s1
        refine ⟨_, rfl, .inl ⟨rfl, _, SqL.of hd1.1⟩, _, rfl, dbl, _, _, rfl, rfl, hd1.1, Nat.lt_of_le_of_lt (show _ ≤ 1000 by rw [List.length_map]; omega) (by decide), ?_⟩
        have hd2 := hd1.push np hP1 (by rw [lb]; exact mP')
        have b2 : But dbl H1 (upd H1 dbl (.lst (bs.map V.ref ++ [.ref p]))) := fun a o n e => by rw [upd_ne n]; exact e
        have hP2 := hP1.butL b2 hd1.1 np
        have s2 : Same H (upd H1 dbl (.lst (bs.map V.ref ++ [.ref p]))) := fun a o e => by
          have : a ≠ dbl := fun z => by rw [z, ndbl] at e; cases e
          rw [upd_ne this]
          exact s1' _ _ e
        have hmu : muD [some (.ref p), some (.ref q), some (.int L), some (.ref dbl), x4, none, none, none, none] H' = 200 - t := by
          show (match H' dbl with | some (.lst xs) => 200 - xs.length | _ => 0) = 200 - t
          rw [hd.1]
          show 200 - (bs.map V.ref).length = 200 - t
          rw [List.length_map, lb]
        revert hd2 b2 hP2 s2
        generalize upd H1 dbl (.lst (bs.map V.ref ++ [.ref p])) = H2
        intro hd2 b2 hP2 s2
        have lP := mP'.shp.1
        refine ⟨_, rfl, p, Pm, N, rfl, hP2.rowsG, by omega, by omega, by omega, by omega, mP'.shp.2, fun c H3 s3 hc => ?_⟩
        obtain ⟨vs, gv, hR⟩ := hP2.same s3
        have lvs := hR.length
        have rowz := SqT.same hz (same_trans s2 s3)
        refine ⟨_, rfl, p, rfl, ⟨_, SqL.of gv⟩, fun D hD => lc_rowsT (K := K) (walk_list (xs := vs)) hD (by omega) (Pm.map fun r => satR L (colsOf N Pm) r) (by rw [List.length_map, lvs]) (fun H' e => SqL.of (e _ _ gv)) ?_ (fun acc H4 e4 s4 hR4 => ?_)⟩
        · rintro i r v H6 H6' Fn Nn hi hr3 fin s6 ⟨rfl, hx⟩
          obtain ⟨b, l, rfl, gl, hb⟩ := rows_at hR hx
          have er : r = satR L (colsOf N Pm) l := by
            rw [List.getElem?_map, gl] at hr3
            cases hr3
            rfl
          subst er
          have ll := mP'.shp.2 _ (List.mem_of_getElem? gl)
          exact ⟨rfl, yesT ⟨_, rfl, _, rfl, _, rfl, true, c, b, colsOf N Pm, l, L, rfl, (hc.same s6).rowsG, SqT.same hb s6, fun x hx => by rw [cols_len hx, ll]; exact lP, by simp [colsOf]; omega, by omega, cols_wd mP'.wd, mP'.wd _ (List.mem_of_getElem? gl), fun q H s h => fin q H s h⟩⟩
        have nD : D ≠ dbl := fun z => by
          have := s3 _ _ hd2.1
          rw [z, this] at hD
          cases hD
        refine ⟨⟨t + 1, D, _, bs ++ [p], some (.ref c), rfl, same_trans s2 (same_trans s3 s4), nD, ⟨acc, e4, hR4⟩, ?_, by rw [List.length_append, lb]; rfl, hd2.same (same_trans s3 s4), by omega⟩, ?_⟩
        · have := sat_twice (by omega) L64 mP'
          refine this.pow_congr fun i k hi hk => ?_
          rw [pow_twice _ i k hi hk, Nat.pow_succ, Nat.mul_two]
        · rw [hmu]
          show (match H4 dbl with | some (.lst xs) => 200 - xs.length | _ => 0) < 200 - t
          rw [s4 _ _ (s3 _ _ hd2.1)]
          show 200 - ((bs ++ [p]).map V.ref).length < 200 - t
          rw [List.length_map, List.length_append, lb]
          show 200 - (t + 1) < 200 - t
          omega
    · rintro σ H Q Q' hq ⟨a1, e1, a2, e2, a3, e3, t, p, q, Pm, z, L, ev, h1, h2, h3, h4, h5, h6, h7, k⟩
      refine ⟨a1, e1, a2, e2, a3, e3, t, p, q, Pm, z, L, ev, h1, h2, h3, h4, h5, h6, h7, fun q1 H1 s1 hr1 => ?_⟩
      obtain ⟨a4, e4, q2, z2, L2, ev2, hz, l0, k1, k2⟩ := k q1 H1 s1 hr1
      exact ⟨a4, e4, q2, z2, L2, ev2, hz, l0, fun h => (k1 h).imp fun b hb => ⟨hb.1, hq _ _ hb.2⟩, fun h => (k2 h).imp fun b hb => ⟨hb.1, hq _ _ hb.2⟩⟩
end
end Wk

/-! the greatest state of a guard, in integers -/
namespace Wk
open PySem L2
def augU (D : GD) (most : Int) : Row := D.G.map fun g => most * g.sum
def augP (D : GD) (most : Int) : Mat := List.zipWith (fun a x => a ++ [x]) D.A (augU D most) ++ [List.replicate D.n 0 ++ [1]]
def augZ (D : GD) : Row := List.replicate D.n (D.M - 1) ++ [1]
theorem augU_len {D : GD} (ok : GOk D) (most : Int) : (augU D most).length = D.n := by
  unfold augU
  rw [List.length_map]
  exact ok.sG.1
theorem augP_at {D : GD} (ok : GOk D) (most : Int) {i : Nat} (hi : i < D.n) : ∃ a g, D.A[i]? = some a ∧ D.G[i]? = some g ∧ (augP D most)[i]? = some (a ++ [most * g.sum]) ∧ a.length = D.n ∧ g.length = D.w := by
  obtain ⟨a, ha, la⟩ := shp_at ok.sA hi
  obtain ⟨g, hg, lg⟩ := shp_at ok.sG hi
  refine ⟨a, g, ha, hg, ?_, la, lg⟩
  unfold augP
  rw [List.getElem?_append_left (by rw [List.length_zipWith, augU_len ok, ok.sA.1]; omega), List.getElem?_zipWith, ha]
  unfold augU
  rw [List.getElem?_map, hg]
  rfl
theorem augP_last {D : GD} (ok : GOk D) (most : Int) : (augP D most)[D.n]? = some (List.replicate D.n 0 ++ [1]) := by
  unfold augP
  have l : (List.zipWith (fun a x => a ++ [x]) D.A (augU D most)).length = D.n := by rw [List.length_zipWith, augU_len ok, ok.sA.1]; omega
  rw [List.getElem?_append_right (by omega), l, Nat.sub_self]
  rfl
theorem augP_shp {D : GD} (ok : GOk D) (most : Int) : Shp (D.n + 1) (D.n + 1) (augP D most) := by
  refine ⟨?_, fun r hr => ?_⟩
  · unfold augP
    rw [List.length_append, List.length_zipWith, augU_len ok, ok.sA.1]
    simp
  · unfold augP at hr
    rcases List.mem_append.mp hr with h | h
    · obtain ⟨i, hi, e⟩ := List.mem_iff_getElem.mp h
      rw [List.getElem_zipWith] at e
      rw [← e, List.length_append, ok.sA.2 _ (List.getElem_mem _)]
      rfl
    · rw [List.mem_singleton.mp h]
      simp
theorem fn_app_l {a b : Row} {k : Nat} (h : k < a.length) : fn (a ++ b) k = fn a k := by
  unfold fn
  rw [List.getD_eq_getElem?_getD, List.getD_eq_getElem?_getD, List.getElem?_append_left h]
theorem fn_app_r {a : Row} {x : Int} {k : Nat} (h : k = a.length) : fn (a ++ [x]) k = x := fn_of (by rw [List.getElem?_append_right (by omega), h, Nat.sub_self]; rfl)
theorem fn_rep {n k : Nat} {x : Int} (h : k < n) : fn (List.replicate n x) k = x := fn_of (by rw [List.getElem?_replicate, if_pos h])
theorem augZ_len (D : GD) : (augZ D).length = D.n + 1 := by simp [augZ]
theorem augZ_lt {D : GD} {i : Nat} (h : i < D.n) : fn (augZ D) i = D.M - 1 := by
  unfold augZ
  rw [fn_app_l (by simpa using h), fn_rep h]
theorem augZ_n (D : GD) : fn (augZ D) D.n = 1 := fn_app_r (by simp)
theorem ent_lt {D : GD} (ok : GOk D) (most : Int) {i j : Nat} (hi : i < D.n) (hj : j < D.n) : ent (augP D most) i j = ent D.A i j := by
  obtain ⟨a, g, ha, hg, h, la, lg⟩ := augP_at ok most hi
  rw [ent_fn h, ent_fn ha, fn_app_l (by omega)]
theorem ent_in {D : GD} (ok : GOk D) (most : Int) {i : Nat} {g : Row} (hi : i < D.n) (hg : D.G[i]? = some g) : ent (augP D most) i D.n = most * g.sum := by
  obtain ⟨a, g', ha, hg', h, la, lg⟩ := augP_at ok most hi
  rw [hg] at hg'
  cases hg'
  rw [ent_fn h, fn_app_r la.symm]
theorem ent_nj {D : GD} (ok : GOk D) (most : Int) {j : Nat} (hj : j < D.n) : ent (augP D most) D.n j = 0 := by
  rw [ent_fn (augP_last ok most), fn_app_l (by simpa using hj), fn_rep hj]
theorem ent_nn {D : GD} (ok : GOk D) (most : Int) : ent (augP D most) D.n D.n = 1 := by
  rw [ent_fn (augP_last ok most), fn_app_r (by simp)]
theorem sum_nonneg {r : Row} (h : ∀ x ∈ r, 0 ≤ x) : 0 ≤ r.sum := by
  induction r with
  | nil => exact Int.le_refl _
  | cons x r ih =>
    rw [List.sum_cons]
    have := h x (List.mem_cons_self ..)
    have := ih fun y hy => h y (List.mem_cons_of_mem _ hy)
    omega
/-- the true state behind so many symbols -/
def stF (D : GD) (most : Int) (m : Nat) : Nat → Int := runF (D.n + 1) (ent (augP D most)) (fn (augZ D)) m
def stL (D : GD) (most : Int) : Nat → Row
  | 0 => List.replicate D.n (D.M - 1)
  | m + 1 => List.zipWith (fun a g => dotZ a (stL D most m) + most * g.sum) D.A D.G
theorem stL_len {D : GD} (ok : GOk D) (most : Int) : ∀ m, (stL D most m).length = D.n
  | 0 => by simp [stL]
  | m + 1 => by
    show (List.zipWith _ D.A D.G).length = D.n
    rw [List.length_zipWith, ok.sA.1, ok.sG.1, Nat.min_self]
theorem stF_n {D : GD} (ok : GOk D) (most : Int) : ∀ m, stF D most m D.n = 1
  | 0 => by
    unfold stF
    rw [runF_zero (by omega), augZ_n]
  | m + 1 => by
    have ih := stF_n ok most m
    unfold stF at *
    rw [runF_succ m (by omega)]
    show sumN (D.n + 1) (fun k => ent (augP D most) D.n k * runF (D.n + 1) (ent (augP D most)) (fn (augZ D)) m k) = 1
    rw [sumN_congr (g := fun k => if k = D.n then 1 else 0), sumN_one (by omega)]
    intro k hk
    by_cases e : k = D.n
    · subst e
      rw [ent_nn ok, ih, if_pos rfl]
      decide
    · rw [ent_nj ok most (by omega), if_neg e, Int.zero_mul]
theorem stF_stL {D : GD} (ok : GOk D) (most : Int) : ∀ m i, i < D.n → stF D most m i = fn (stL D most m) i
  | 0, i, hi => by
    unfold stF
    rw [runF_zero (by omega), augZ_lt hi]
    exact (fn_rep hi).symm
  | m + 1, i, hi => by
    have ih := stF_stL ok most m
    obtain ⟨a, g, ha, hg, h, la, lg⟩ := augP_at ok most hi
    have hn := stF_n ok most m
    unfold stF at *
    rw [runF_succ m (by omega)]
    show sumN (D.n + 1) (fun k => ent (augP D most) i k * runF (D.n + 1) (ent (augP D most)) (fn (augZ D)) m k) = _
    show sumN D.n (fun k => ent (augP D most) i k * runF (D.n + 1) (ent (augP D most)) (fn (augZ D)) m k) + ent (augP D most) i D.n * runF (D.n + 1) (ent (augP D most)) (fn (augZ D)) m D.n = _
    rw [hn, ent_in ok most hi hg, Int.mul_one]
    have e : fn (stL D most (m + 1)) i = dotZ a (stL D most m) + most * g.sum := fn_of (by
      show (List.zipWith _ D.A D.G)[i]? = _
      rw [List.getElem?_zipWith, ha, hg])
    rw [e, dot_fn la (stL_len ok most m)]
    congr 1
    exact sumN_congr fun k hk => by rw [ent_lt ok most hi hk, ent_fn ha, ih k hk]
/-- no row and no column is 0 -/
theorem not_zero {M : Int} (hM : 2 ≤ M) {n : Nat} {f g : Nat → Int} (h : Eqm M (sumN n fun k => f k * g k) 1) (h0 : ∀ k, k < n → 0 ≤ f k) : ∃ k, k < n ∧ 1 ≤ f k := by
  refine Classical.byContradiction fun c => ?_
  have z : ∀ k, k < n → f k = 0 := fun k hk => by
    have := h0 k hk
    have : ¬ 1 ≤ f k := fun x => c ⟨k, hk, x⟩
    omega
  rw [sumN_congr (g := fun _ => 0) (fun k hk => by rw [z k hk, Int.zero_mul]), sumN_zero] at h
  have := h.emod
  rw [Int.emod_eq_of_lt (by decide) (by omega), Int.emod_eq_of_lt (by decide) (by omega)] at this
  omega
theorem aug_grow {D : GD} (ok : GOk D) (I : Inv2 D.M D.n (ent D.A)) {most : Int} (h0 : 0 ≤ most) : Grow D.n (D.n + 1) (ent (augP D most)) (fn (augZ D)) := by
  have hM := ok.m2
  have nnA : ∀ i j, i < D.n → j < D.n → 0 ≤ ent D.A i j := fun i j hi hj => (mred_ent ok.sA ok.rA hi hj).1
  obtain ⟨C, c1, c2⟩ := I
  have nn : NN (D.n + 1) (ent (augP D most)) := fun i k hi hk => by
    rcases Nat.lt_or_ge i D.n with h | h
    · rcases Nat.lt_or_ge k D.n with h2 | h2
      · rw [ent_lt ok most h h2]
        exact nnA i k h h2
      · have : k = D.n := by omega
        subst this
        obtain ⟨g, hg, lg⟩ := shp_at ok.sG h
        rw [ent_in ok most h hg]
        exact Int.mul_nonneg h0 (sum_nonneg fun x hx => (ok.rG _ (List.mem_of_getElem? hg) x hx).1)
    · have : i = D.n := by omega
      subst this
      rcases Nat.lt_or_ge k D.n with h2 | h2
      · rw [ent_nj ok most h2]
        exact Int.le_refl _
      · have : k = D.n := by omega
        subst this
        rw [ent_nn ok]
        decide
  have z0 : ∀ k, k < D.n + 1 → 0 ≤ fn (augZ D) k := fun k hk => by
    rcases Nat.lt_or_ge k D.n with h | h
    · rw [augZ_lt h]; omega
    · have : k = D.n := by omega
      subst this
      rw [augZ_n]; decide
  refine ⟨by omega, nn, z0, fun k hk => ?_, fun j hj => ?_⟩
  · rcases Nat.lt_or_ge k D.n with h | h
    · obtain ⟨l, hl, h1⟩ := not_zero hM (c2 k k h h |>.trans (.eq (by unfold oneF; rw [if_pos rfl]))) (fun l hl => nnA k l h hl)
      have t := sumN_term (f := fun l => ent (augP D most) k l * fn (augZ D) l) (fun q hq => Int.mul_nonneg (nn k q hk hq) (z0 q hq)) l (by omega)
      have e1 : ent (augP D most) k l * fn (augZ D) l = ent D.A k l * (D.M - 1) := by rw [ent_lt ok most h hl, augZ_lt hl]
      have e2 : 1 * (D.M - 1) ≤ ent D.A k l * (D.M - 1) := Int.mul_le_mul_of_nonneg_right h1 (by omega)
      show fn (augZ D) k ≤ sumN (D.n + 1) fun l => ent (augP D most) k l * fn (augZ D) l
      rw [augZ_lt h]
      rw [e1] at t
      omega
    · have : k = D.n := by omega
      subst this
      have := stF_n ok most 1
      unfold stF at this
      rw [runF_succ 0 (by omega)] at this
      have e : apF (D.n + 1) (ent (augP D most)) (runF (D.n + 1) (ent (augP D most)) (fn (augZ D)) 0) D.n = apF (D.n + 1) (ent (augP D most)) (fn (augZ D)) D.n := apF_congr (fun _ _ => rfl) fun l hl => runF_zero hl
      rw [e] at this
      rw [this, augZ_n]
      exact Int.le_refl _
  · have e : Eqm D.M (sumN D.n fun k => ent D.A k j * C j k) 1 := by
      have := (c1 j j hj hj).trans (.eq (by unfold oneF; rw [if_pos rfl]))
      refine (Eqm.eq (sumN_congr fun k _ => Int.mul_comm _ _)).trans this
    obtain ⟨i, hi, h1⟩ := not_zero hM e (fun k hk => nnA k j hk hj)
    exact ⟨i, hi, by rw [ent_lt ok most hi hj]; exact h1⟩
theorem sum_bd {M : Int} : ∀ {r : Row}, (∀ x ∈ r, 0 ≤ x ∧ x < M) → 0 ≤ r.sum ∧ r.sum ≤ r.length * M := fun {r} h => by
  induction r with
  | nil => simp
  | cons x r ih =>
    have a := h x (List.mem_cons_self ..)
    have b := ih fun y hy => h y (List.mem_cons_of_mem _ hy)
    rw [List.sum_cons, List.length_cons, Int.natCast_succ, Int.add_mul, Int.one_mul]
    omega
theorem sum_row {D : GD} (ok : GOk D) {g : Row} (h : g ∈ D.G) : 0 ≤ g.sum ∧ g.sum ≤ 16 * D.M := by
  have hg := ok.rG g h
  have lg := ok.sG.2 g h
  have w16 := ok.w16
  have hM := ok.m2
  obtain ⟨s0, s1⟩ := sum_bd hg
  rw [lg] at s1
  have s2 : (D.w : Int) * D.M ≤ 16 * D.M := Int.mul_le_mul_of_nonneg_right (by omega) (by omega)
  omega
theorem aug_mat {D : GD} (ok : GOk D) {L most : Int} (h0 : 0 ≤ most) (wd : MWd (augP D most)) : MatSq L (D.n + 1) (augP D most) (ent (augP D most)) := by
  refine ⟨augP_shp ok most, wd, fun i k hi hk => Sq.refl ?_⟩
  rcases Nat.lt_or_ge i D.n with h | h
  · rcases Nat.lt_or_ge k D.n with h2 | h2
    · rw [ent_lt ok most h h2]
      exact (mred_ent ok.sA ok.rA h h2).1
    · have : k = D.n := by omega
      subst this
      obtain ⟨g, hg, lg⟩ := shp_at ok.sG h
      rw [ent_in ok most h hg]
      exact Int.mul_nonneg h0 (sum_row ok (List.mem_of_getElem? hg)).1
  · have : i = D.n := by omega
    subst this
    rcases Nat.lt_or_ge k D.n with h2 | h2
    · rw [ent_nj ok most h2]
      exact Int.le_refl _
    · have : k = D.n := by omega
      subst this
      rw [ent_nn ok]
      decide
theorem aug_row {D : GD} (ok : GOk D) {L : Int} (wd : RWd (augZ D)) : RowSq L (D.n + 1) (augZ D) (fn (augZ D)) := by
  refine ⟨augZ_len D, wd, fun k hk => Sq.refl ?_⟩
  have := ok.m2
  rcases Nat.lt_or_ge k D.n with h | h
  · rw [augZ_lt h]; omega
  · have : k = D.n := by omega
    subst this
    rw [augZ_n]; decide
theorem sat_one {D : GD} (ok : GOk D) {L most : Int} {i : Nat} (hi : i < D.n + 1) : fn (satR L (augP D most) (augZ D)) i = if stF D most 1 i < L then stF D most 1 i else L := by
  obtain ⟨r, hr, lr⟩ := shp_at (augP_shp ok most) hi
  rw [fn_of (satR_at hr)]
  have e : dotZ r (augZ D) = stF D most 1 i := by
    unfold stF
    rw [runF_succ 0 hi, dot_fn lr (augZ_len D)]
    exact sumN_congr fun k hk => by rw [runF_zero hk, ent_fn hr]
  rw [e]
theorem row_ext {N : Nat} {a b : Row} (ha : a.length = N) (hb : b.length = N) (h : ∀ k, k < N → fn a k = fn b k) : a = b := List.ext_getElem? fun k => by
  rcases Nat.lt_or_ge k N with hk | hk
  · rw [of_fn (by omega), of_fn (by omega), h k hk]
  · rw [List.getElem?_eq_none (by omega), List.getElem?_eq_none (by omega)]
def Stay (D : GD) (most : Int) : Prop := ∀ i, i < D.n → stF D most 1 i = D.M - 1
theorem sat_stay {D : GD} (ok : GOk D) {L most : Int} (hL : D.M ≤ L) : satR L (augP D most) (augZ D) = augZ D ↔ Stay D most := by
  have hM := ok.m2
  constructor
  · intro e i hi
    have := sat_one ok (L := L) (most := most) (i := i) (by omega)
    rw [e, augZ_lt hi] at this
    split at this <;> omega
  · intro h
    refine row_ext (by rw [satR_len]; exact (augP_shp ok most).1) (augZ_len D) fun k hk => ?_
    rw [sat_one ok hk]
    rcases Nat.lt_or_ge k D.n with hk2 | hk2
    · rw [h k hk2, augZ_lt hk2, if_pos (by omega)]
    · have : k = D.n := by omega
      subst this
      rw [stF_n ok, augZ_n, if_pos (by omega)]
end Wk

namespace Wk
open PySem L2
abbrev s_late : Stmt := top 35
theorem sc_late : FnScope ["guard", "most", "bits", "limit", "step", "state", "row", "more"] ["guard", "most", "bits"] (defScope s_late) := ⟨rfl, rfl, rfl, by decide +kernel, rfl, by decide +kernel, by decide +kernel⟩

-- guard=0 most=1 bits=2 limit=3 step=4 state=5 row=6 more=7
structure TxtB (mg : Str → Option Value) : Prop where
  gGREATEST_NUMBER : ∃ t, mg "GREATEST_NUMBER" = some (.int 1000000000000000000 t)
  gMOST_BITS : ∃ t, mg "MOST_BITS" = some (.int 128 t)
theorem cat_readT {K : PySem.W.Frag} {H : Hp} {Q : VK} {a b : Addr} {xs ys : List V} (ha : SqT K H a xs) (hb : SqT K H b ys) (hn : xs.length + ys.length ≤ 1000000) (tail : ∀ q G, Same H G → SqT K G q (xs ++ ys) → Q (.ref q) G) : rCatA K (.ref a) (.ref b) H Q := by
  refine ⟨a, b, xs, ys, rfl, rfl, ha, hb, Nat.le_trans hn (by decide), fun z => ?_, fun _ z => ?_, fun _ _ p hp => ?_⟩
  · subst z
    exact tail b H (fun _ _ e => e) hb
  · subst z
    exact tail a H (fun _ _ e => e) (by rw [List.append_nil]; exact ha)
  · exact tail p _ (same_upd hp) (SqT.of upd_same)
def spLate (K : PySem.W.Frag) (C : Addr) : Sp := fun vs H Q _ => ∃ (g : Addr) (D : GD) (most : Int) (bits : Nat), vs = [.ref g, .int most, .int (bits : Int)] ∧ GuardAt K C H g D ∧ GOk D ∧ D.n ≤ 15 ∧ 0 ≤ most ∧ most ≤ 1000000000000000000 ∧ 1 ≤ bits ∧ bits ≤ 128 ∧ D.M ≤ 2 ^ bits ∧ Inv2 D.M D.n (ent D.A) ∧
  (Stay D most → ∀ H', Same H H' → Q .non H') ∧ (¬ Stay D most → ∀ (m : Nat) H', Same H H' → ¬ Rch D.n (2 ^ bits) (stF D most m) → Rch D.n (2 ^ bits) (stF D most (m + 1)) → Q (.int (m : Int)) H')
theorem aug_wd {D : GD} (ok : GOk D) {most : Int} (h0 : 0 ≤ most) (h1 : most ≤ 1000000000000000000) (hM : D.M ≤ 1000000000000000000) : MWd (augP D most) ∧ RWd (augZ D) := by
  
  have hM2 := ok.m2
  refine ⟨fun r hr x hx => ?_, fun x hx => ?_⟩
  · unfold augP at hr
    show x.natAbs < 2 ^ 200
    rcases List.mem_append.mp hr with h | h
    · obtain ⟨i, hi, e⟩ := List.mem_iff_getElem.mp h
      rw [List.length_zipWith] at hi
      rw [List.getElem_zipWith] at e
      subst e
      rcases List.mem_append.mp hx with hx | hx
      · have := ok.rA _ (List.getElem_mem _) x hx
        omega
      · rw [List.mem_singleton.mp hx]
        have hiG : i < D.G.length := by have := ok.sG.1; have := ok.sA.1; omega
        have e2 : (augU D most)[i]'(by omega) = most * (D.G[i]).sum := by simp [augU]
        rw [e2]
        have hg := ok.rG _ (List.getElem_mem hiG)
        have lg := ok.sG.2 _ (List.getElem_mem hiG)
        have w16 := ok.w16
        have sb : ∀ {r : Row}, (∀ x ∈ r, 0 ≤ x ∧ x < D.M) → 0 ≤ r.sum ∧ r.sum ≤ r.length * D.M := fun {r} h => by
          induction r with
          | nil => simp
          | cons x r ih =>
            have a := h x (List.mem_cons_self ..)
            have b := ih fun y hy => h y (List.mem_cons_of_mem _ hy)
            rw [List.sum_cons, List.length_cons, Int.natCast_succ, Int.add_mul, Int.one_mul]
            omega
        obtain ⟨s0, s1⟩ := sb hg
        rw [lg] at s1
        have s2 : (D.w : Int) * D.M ≤ 16 * D.M := Int.mul_le_mul_of_nonneg_right (by omega) (by omega)
        have s3 : most * (D.G[i]).sum ≤ 1000000000000000000 * (16 * D.M) := Int.mul_le_mul h1 (by omega) s0 (by decide)
        have s4 : 0 ≤ most * (D.G[i]).sum := Int.mul_nonneg h0 s0
        omega
    · rw [List.mem_singleton.mp h] at hx
      rcases List.mem_append.mp hx with hx | hx
      · rw [List.eq_of_mem_replicate hx]
        decide
      · rw [List.mem_singleton.mp hx]
        decide
  · unfold augZ at hx
    show x.natAbs < 2 ^ 200
    rcases List.mem_append.mp hx with hx | hx
    · rw [List.eq_of_mem_replicate hx]
      omega
    · rw [List.mem_singleton.mp hx]
      decide
section
variable {P : Program} {w0 : World} {K : PySem.W.Frag} {mg : Str → Option Value} {base : Heap} {C fI fT fB fQ : Addr}
theorem ok_late {f f0 f1 f2 : Addr} {fd fd0 fd1 fd2 : FuncData} (F : Fun K "late" "late" s_late f fd) (T : TxtL mg) (TG : TxtGd K mg C fI fT fB fQ) (TB : TxtB mg)
    (G_is_within : FnOk P w0 K mg base CX0 2 f0 fd0 ["value", "least", "most"] spWithinI) (g_is_within : mg "is_within" = some (.ref f0)) (kp_is_within : PySem.W.keepIn K (.ref f0) = true) (b_is_within : Binds K fd0 ["value", "least", "most"] [])
    (G_taken : FnOk P w0 K mg base CX0 1 f1 fd1 ["step", "state", "limit"] (spTaken K)) (g_taken : mg "taken" = some (.ref f1)) (kp_taken : PySem.W.keepIn K (.ref f1) = true) (b_taken : Binds K fd1 ["step", "state", "limit"] [])
    (G_steps_below : FnOk P w0 K mg base CX0 2 f2 fd2 ["step", "state", "limit"] (spBelow K)) (g_steps_below : mg "steps_below" = some (.ref f2)) (kp_steps_below : PySem.W.keepIn K (.ref f2) = true) (b_steps_below : Binds K fd2 ["step", "state", "limit"] [])
    : FnOk P w0 K mg base CX0 3 f fd ["guard", "most", "bits"] (spLate K C) := by
  refine F.ok sc_late (fun vs H Q E h => ?_) (fun cdv A outer s H vs Q E hr h => ?_)
  · obtain ⟨g, D, most, bits, rfl, _⟩ := h
    rfl
  · obtain ⟨g, D, most, bits, rfl, hG, ok, n15, m0, m1, b1, b60, hMb, I, k1, k2⟩ := h
    have hu := hu_of hr
    refine ⟨_, (pss_cons (ps_if (pt_not (pt_val (pe_call G_is_within (hr.mono (by decide)) rfl g_is_within kp_is_within b_is_within .nil pass0 (pa_cons (pv 1) (pa_cons pe_int (pa_cons (pe_glob (v := .int 1000000000000000000) rfl TB.gGREATEST_NUMBER.choose_spec ⟨_, rfl⟩) pa_nil)))))) (pss_one ps_never) pss_nil)
        (pss_cons (ps_if (pt_not (pt_val (pe_call G_is_within (hr.mono (by decide)) rfl g_is_within kp_is_within b_is_within .nil pass0 (pa_cons (pv 2) (pa_cons pe_int (pa_cons (pe_glob (v := .int 128) rfl TB.gMOST_BITS.choose_spec ⟨_, rfl⟩) pa_nil)))))) (pss_one ps_never) pss_nil)
        (pss_cons (ps_set (i := 3) sc_late.nd rfl (Or.inl rfl) (pe_op op_oneShl pe_int (pv 2)))
        (pss_cons (ps_if (pt_cmpR op_gt (pe_fld (pv 0) rfl) (pv 3) (nomark _)) (pss_one ps_never) pss_nil)
        (pss_cons (ps_setLc (i := 4) (own := [("row", 6), ("more", 7)]) (g := gTup K 2 (gCons (gName 6) (gCons (gName 7) gNil))) rfl sc_late.nd rfl rfl (sw_true rfl rfl rfl (by decide +kernel)) (pi_zip2K (K := K) rfl true true rfl T.f_zip (pa_cons (pe_fld (pv 0) rfl) (pa_cons (pe_fld (pv 0) rfl) pa_nil))) (blkOk_by (N := ["guard", "most", "bits", "limit", "step", "state", "row", "more"]) (sc := defScope s_late) (by decide +kernel)) (fun _ _ _ _ _ => (pg_tupK rfl rfl (pgs_cons (pg_name (i := 6) sc_late.nd rfl (Or.inl rfl)) (pgs_cons (pg_name (i := 7) sc_late.nd rfl (Or.inl rfl)) pgs_nil)))) (fun _ _ _ _ _ => pts_nil) (fun _ _ _ _ _ => (pe_op (op_catAK (K := K) rfl) (pv 6) (pe_tup (pa_cons (pe_op op_mulW (pv 1) (pe_callB (cr_sumT (K := K) rfl rfl) rfl T.f_sum (by decide +kernel) (pa_cons (pv 7) pa_nil))) pa_nil)))))
        (pss_cons (ps_expr (pe_bm PySem.F.plainAttrs_list PySem.F.slot_list_append PySem.F.type_list_append mt_append (pv 4) (pa_cons (pe_op (op_catAK (K := K) rfl) (pe_op (op_repAK (K := K) rfl) (pe_tup (pa_cons pe_int pa_nil)) (pe_fld (pv 0) rfl)) (pe_tup (pa_cons pe_int pa_nil))) pa_nil)))
        (pss_cons (ps_set (i := 5) sc_late.nd rfl (Or.inl rfl) (pe_op (op_catAK (K := K) rfl) (pe_op (op_repAK (K := K) rfl) (pe_tup (pa_cons (pe_op op_sub (pe_fld (pv 0) rfl) pe_int) pa_nil)) (pe_fld (pv 0) rfl)) (pe_tup (pa_cons pe_int pa_nil))))
        (pss_cons (ps_if (pt_cmpR (op_eqD hr.units) (pe_call G_taken (hr.mono (by decide)) rfl g_taken kp_taken b_taken .nil pass0 (pa_cons (pv 4) (pa_cons (pv 5) (pa_cons (pv 3) pa_nil)))) (pv 5) (nomark _)) (pss_one (ps_ret pe_non)) pss_nil)
        (pss_one (ps_ret (pe_call G_steps_below (hr.mono (by decide)) rfl g_steps_below kp_steps_below b_steps_below .nil pass0 (pa_cons (pv 4) (pa_cons (pv 5) (pa_cons (pv 3) pa_nil)))))))))))))), ?_⟩
    obtain ⟨dx, aM, aC, aS, aE, hp, hA, hC, hS, hE⟩ := hG.ex
    have hM2 := ok.m2
    have hw16 := ok.w16
    have hn1 := ok.n1
    have hm18 := ok.m18
    have p60 : (2 : Int) ^ bits ≤ 2 ^ 128 := pow2_le b60
    have L2' : (2 : Int) ≤ 2 ^ bits := by have := pow2_le b1; omega
    have L64 : (2 : Int) ^ bits < 2 ^ 136 := Int.lt_of_le_of_lt p60 (by decide)
    refine ⟨_, rfl, _, 0, 1000000000000000000, rfl, _, rfl, ?_⟩
    rw [show (decide ((0 : Int) ≤ most) && decide (most ≤ 1000000000000000000)) = true by simp; omega]
    refine iteF ?_
    refine ⟨_, rfl, _, 1, 128, rfl, _, rfl, ?_⟩
    rw [show (decide ((1 : Int) ≤ (bits : Int)) && decide ((bits : Int) ≤ 128)) = true by simp; omega]
    refine iteF ?_
    refine ⟨_, rfl, bits, rfl, rfl, by omega, ?_⟩
    refine ⟨_, rfl, g, C, dx, _, _, rfl, hp, TG.cl, TG.a_modulus, flG_m, _, rfl, _, _, rfl, rfl, _, rfl, ite2 (fun hd => absurd (of_decide_eq_true hd) (by omega)) fun _ => ?_⟩
    -- the step
    obtain ⟨va, hAv, rA⟩ := id hA
    obtain ⟨vb, hCv, rC⟩ := id hC
    have la := rA.length
    have lb := rC.length
    have la2 : va.length = D.n := by rw [la]; exact ok.sA.1
    have lb2 : vb.length = D.n := by rw [lb]; exact ok.sG.1
    obtain ⟨wP, wZ⟩ := aug_wd ok m0 m1 ok.m18
    refine ⟨_, rfl, g, C, dx, _, _, rfl, hp, TG.cl, TG.a_matrix, flG_A, _, rfl, g, C, dx, _, _, rfl, hp, TG.cl, TG.a_columns, flG_G, aM, aC, _, _, rfl, hAv, hCv, fun D0 hD => lc_rowsT (K := K) (ZM.walk_two (t := true) (u := true) (n := D.n) (by rw [la2, lb2]; simp)) hD (by omega) (List.zipWith (fun a x => a ++ [x]) D.A (augU D most)) (by rw [List.length_zipWith, augU_len ok, ok.sA.1, Nat.min_self]) (fun H' e => ⟨SqT.same hAv e, SqT.same hCv e⟩) ?_ (fun acc H6 e6 s6 hR6 => ?_)⟩
    · rintro l r v H6 H6' Fn Nn hi hr3 fin s6 ⟨T2, x, y, rfl, hT2, rfl, hx, hy⟩
      obtain ⟨pa, ra, rfl, ga, ha⟩ := rows_at rA hx
      obtain ⟨pb, rb, rfl, gb, hb⟩ := rows_at rC hy
      have er : r = ra ++ [most * rb.sum] := by
        rw [List.getElem?_zipWith, ga] at hr3
        unfold augU at hr3
        rw [List.getElem?_map, gb] at hr3
        cases hr3
        rfl
      subst er
      have sT := same_upd (o := .tup [.ref pa, .ref pb]) hT2
      have s7 := same_trans s6 sT
      have sb := sum_row ok (List.mem_of_getElem? gb)
      refine ⟨T2, _, rfl, SqT.of upd_same, rfl, _, _, rfl, _, _, rfl, rfl, rfl, yesT ⟨_, rfl, _, rfl, _, rfl, pb, rb, rfl, SqT.same hb s7, _, _, rfl, rfl, wide_mul (a := 64) (b := 128) (by omega) (by omega) (by decide) (by decide) (by decide), by show 1 ≤ sizeLine; decide, fun q nq => ?_⟩⟩
      have sq := same_upd (o := .tup [V.int (most * rb.sum)]) nq
      have lra := ok.sA.2 _ (List.mem_of_getElem? ga)
      refine cat_readT (SqT.same ha (same_trans s7 sq)) (SqT.of upd_same) (by simp; omega) fun q2 G sG hG => fin q2 G (same_trans sT (same_trans sq sG)) ?_
      have e : (ra ++ [most * rb.sum]).map V.int = ra.map V.int ++ [V.int (most * rb.sum)] := by simp
      rw [e]
      exact hG
    have hp6 := s6 _ _ hp
    -- the last row
    refine ⟨_, rfl, .inl ⟨rfl, _, SqL.of e6⟩, by show 1 ≤ sizeLine; decide, fun t1 nt1 => ⟨_, rfl, g, C, dx, _, _, rfl, same_upd nt1 _ _ hp6, TG.cl, TG.a_size, flG_n, ?_⟩⟩
    refine rep_read upd_same (by omega) (by omega) fun q1 G1 sG1 hG1 => ?_
    rw [show ((D.n : Int)).toNat = D.n by omega] at hG1
    refine ⟨by show 1 ≤ sizeLine; decide, fun t2 nt2 => ?_⟩
    refine cat_read (same_upd nt2 _ _ hG1) upd_same (by simp; omega) fun q2 G2 sG2 hG2 => ?_
    have s62 : Same H6 G2 := same_trans (same_upd nt1) (same_trans sG1 (same_trans (same_upd nt2) sG2))
    refine ⟨D0, acc, _, rfl, rfl, s62 _ _ e6, ?_, ?_⟩
    · have := hR6.length
      rw [List.length_zipWith, augU_len ok, ok.sA.1] at this
      exact Nat.lt_of_le_of_lt (show acc.length ≤ 1000 by omega) (by decide)
    have b3 : But D0 G2 (upd G2 D0 (.lst (acc ++ [V.ref q2]))) := fun a o n e => by rw [upd_ne n]; exact e
    have hP3 : BlkAt K (upd G2 D0 (.lst (acc ++ [V.ref q2]))) D0 (augP D most) := by
      refine ⟨_, upd_same, ?_⟩
      have r1 := rows_butL (K := K) b3 (s62 _ _ e6) (hR6.same s62)
      have r2 : RowAt K (upd G2 D0 (.lst (acc ++ [V.ref q2]))) q2 (List.replicate D.n 0 ++ [1]) := by
        have : q2 ≠ D0 := fun z => by rw [z, s62 _ _ e6] at hG2; cases hG2
        refine SqT.of ((b3 _ _ this hG2).trans ?_)
        simp
      have app : ∀ {vs : List V} {A : Mat}, RowsAre K (upd G2 D0 (.lst (acc ++ [V.ref q2]))) vs A → RowsAre K (upd G2 D0 (.lst (acc ++ [V.ref q2]))) (vs ++ [V.ref q2]) (A ++ [List.replicate D.n 0 ++ [1]]) := fun {vs A} h => by
        induction h with
        | nil => exact .cons r2 .nil
        | cons h _ ih => exact .cons h ih
      exact app r1
    have s3 : Same H (upd G2 D0 (.lst (acc ++ [V.ref q2]))) := fun a o e => by
      have : a ≠ D0 := fun z => by rw [z, hD] at e; cases e
      rw [upd_ne this]
      exact s62 _ _ (s6 _ _ e)
    revert hP3 s3
    generalize upd G2 D0 (.lst (acc ++ [V.ref q2])) = H3
    intro hP3 s3
    clear b3 s62 hG2 sG2 nt2 hG1 sG1 nt1 e6 hR6 s6 hp6
    have hp3 := s3 _ _ hp
    -- the state
    refine ⟨_, rfl, g, C, dx, _, _, rfl, hp3, TG.cl, TG.a_modulus, flG_m, _, _, rfl, rfl, by show 1 ≤ sizeLine; decide, fun t1 nt1 => ⟨_, rfl, g, C, dx, _, _, rfl, same_upd nt1 _ _ hp3, TG.cl, TG.a_size, flG_n, ?_⟩⟩
    refine rep_read upd_same (by omega) (by omega) fun q1 G1 sG1 hG1 => ?_
    rw [show ((D.n : Int)).toNat = D.n by omega] at hG1
    refine ⟨by show 1 ≤ sizeLine; decide, fun t2 nt2 => ?_⟩
    refine cat_read (same_upd nt2 _ _ hG1) upd_same (by simp; omega) fun qz H4 sG2 hG2 => ?_
    have s34 : Same H3 H4 := same_trans (same_upd nt1) (same_trans sG1 (same_trans (same_upd nt2) sG2))
    have hz : RowAt K H4 qz (augZ D) := SqT.of (hG2.trans (by simp [augZ]))
    have hP4 := hP3.same s34
    have s04 := same_trans s3 s34
    clear sG2 hG2 nt2 hG1 sG1 nt1 hP3 s34 s3
    have mP := aug_mat ok (L := 2 ^ bits) m0 wP
    have rz := aug_row ok (L := 2 ^ bits) wZ
    -- does it move
    refine ⟨_, rfl, _, rfl, _, rfl, false, D0, qz, augP D most, augZ D, 2 ^ bits, rfl, hP4.rowsG, hz, fun r hr => by rw [mP.shp.2 r hr, augZ_len], by rw [mP.shp.1]; omega, by rw [augZ_len]; omega, wP, wZ, fun q5 H5 s5 h5 => ?_⟩
    refine ⟨_, rfl, eqR_read h5 (SqT.same hz s5) ⟨_, rfl, ite2 (fun hd => ?_) (fun hd => ?_)⟩⟩
    · exact k1 ((sat_stay ok hMb).mp (of_decide_eq_true hd)) H5 (same_trans s04 s5)
    · have ns : ¬ Stay D most := fun z => hd (decide_eq_true ((sat_stay ok hMb).mpr z))
      have gr := aug_grow ok I m0
      refine ⟨_, rfl, _, rfl, _, rfl, D0, qz, augP D most, augZ D, 2 ^ bits, D.n, D.n + 1, _, _, rfl, hP4.same s5, SqT.same hz s5, mP, rz, gr, hn1, by omega, L2', p60, ?_, ?_, ?_, fun m H6 s6 r1 r2 => k2 ns m H6 (same_trans s04 (same_trans s5 s6)) r1 r2⟩
      · refine Classical.byContradiction fun c => ns fun i hi => ?_
        refine Classical.byContradiction fun ne => c ⟨i, hi, fun e => ne ?_⟩
        rw [augZ_lt hi] at e
        exact e
      · intro m i h1 h2
        have : i = D.n := by omega
        subst this
        have := stF_n ok most m
        unfold stF at this
        rw [this]
        omega
      · rintro ⟨i, hi, e⟩
        rw [augZ_lt hi] at e
        omega
end
end Wk

namespace Wk
open PySem L2
/-! values that are no integers; errors with one field -/
/-- neither an int, or a bool -/
def NoI (K : PySem.W.Frag) (H : Hp) (v : V) : Prop := ∃ (t : Value) (b1 b2 : Bool), TyX K H v t ∧ PySem.W.kitOne K t (.type "int") = some b1 ∧ PySem.W.kitOne K t (.type "bool") = some b2 ∧ (b1 && !b2) = false
theorem NoI.non {K : PySem.W.Frag} {H : Hp} : NoI K H .non := ⟨_, false, false, .base .non, kit_ty (by decide +kernel), kit_ty (by decide +kernel), rfl⟩
theorem NoI.bl {K : PySem.W.Frag} {H : Hp} (b : Bool) : NoI K H (.bl b) := ⟨_, true, true, .base (.bl b), kit_ty (by decide +kernel), kit_ty (by decide +kernel), rfl⟩
theorem NoI.str {K : PySem.W.Frag} {H : Hp} (x : Str) : NoI K H (.str x) := ⟨_, false, false, .base (.str x), kit_ty (by decide +kernel), kit_ty (by decide +kernel), rfl⟩
theorem NoI.lst {K : PySem.W.Frag} {H : Hp} {a : Addr} {xs : List V} (h : H a = some (.lst xs)) : NoI K H (.ref a) := ⟨_, false, false, .base (.lst h), kit_ty (by decide +kernel), kit_ty (by decide +kernel), rfl⟩
theorem NoI.tup {K : PySem.W.Frag} {H : Hp} {a : Addr} {xs : List V} (h : H a = some (.tup xs)) : NoI K H (.ref a) := ⟨_, false, false, .base (.tup h), kit_ty (by decide +kernel), kit_ty (by decide +kernel), rfl⟩
theorem NoI.dic {K : PySem.W.Frag} {H : Hp} {a : Addr} {xs : List (Key × V)} (h : H a = some (.dK xs)) : NoI K H (.ref a) := ⟨_, false, false, .base (.dK h), kit_ty (by decide +kernel), kit_ty (by decide +kernel), rfl⟩
/-- no integer from lo to hi -/
def NoW (K : PySem.W.Frag) (H : Hp) (v : V) (lo hi : Int) : Prop := (∃ i : Int, v = .int i ∧ ¬ (lo ≤ i ∧ i ≤ hi)) ∨ NoI K H v
def spIntA (K : PySem.W.Frag) : Sp := fun vs H Q _ => ∃ v : V, vs = [v] ∧ ((∃ i : Int, v = .int i ∧ Q (.bl true) H) ∨ (NoI K H v ∧ Q (.bl false) H))
/-- b tells whether v is an integer from lo to hi -/
def WIs (K : PySem.W.Frag) (H : Hp) (v : V) (lo hi : Int) (b : Bool) : Prop := (∃ n : Int, v = .int n ∧ b = (decide (lo ≤ n) && decide (n ≤ hi))) ∨ (NoI K H v ∧ b = false)
theorem WIs.yes {K : PySem.W.Frag} {H : Hp} {i lo hi : Int} (h1 : lo ≤ i) (h2 : i ≤ hi) : WIs K H (.int i) lo hi true := .inl ⟨i, rfl, by rw [decide_eq_true h1, decide_eq_true h2]; rfl⟩
theorem NoW.is {K : PySem.W.Frag} {H : Hp} {v : V} {lo hi : Int} (h : NoW K H v lo hi) : WIs K H v lo hi false := by
  rcases h with ⟨i, rfl, h1⟩ | h
  · refine .inl ⟨i, rfl, ?_⟩
    have e : (decide (lo ≤ i) && decide (i ≤ hi)) = false := by
      rw [Bool.and_eq_false_iff, decide_eq_false_iff_not, decide_eq_false_iff_not]
      omega
    rw [e]
  · exact .inr ⟨h, rfl⟩
def spWithinA (K : PySem.W.Frag) : Sp := fun vs H Q _ => ∃ (v : V) (lo hi : Int), vs = [v, .int lo, .int hi] ∧ ∃ b, WIs K H v lo hi b ∧ Q (.bl b) H
/-- an error's class with one field -/
structure Err1 (K : PySem.W.Frag) (mg : Str → Option Value) (name f : Str) (C fI CS : Addr) : Prop where
  g : mg name = some (.ref C)
  o : OexC K C
  i : PySem.W.findIn K (.ref C) "__init__" = some (some (.ref fI))
  t : PySem.W.typeIn K (.ref fI) = some (.type "function")
  no : PySem.W.findIn K (.ref C) f = some none
  ec : ExcC K C
  xf : XfC K C
  kS : PySem.W.kitOne K (.ref C) (.ref CS) = some true
def spE1 (C : Addr) (f : Str) : Sp := fun vs H Q _ => ∃ (e : Addr) (y : V), vs = [.ref e, y] ∧ H e = some (exo e C none) ∧ ∀ dx, H dx = none → dx ≠ e → Q .non (upd (upd H dx (exd dx [(f, y)])) e (exo e C (some dx)))
/-- what is raised: the class, and its one field's value -/
def Rsd (H : Hp) (C : Addr) (f : Str) (v : V) (E : XK) : Prop := ∀ (d : Addr) (H' : Hp), Same H H' → H' d = some (.xd [(f, v)]) → E (.ref C) (some d) H'
theorem raised {H : Hp} {C a d : Addr} {f : Str} {v : V} {E : XK} (k : Rsd H C f v E) (ha : H a = none) (hd : upd H a (exo a C none) d = none) (hda : d ≠ a) :
    E (.ref C) (some d) (upd (del (upd (upd (upd H a (exo a C none)) d (exd d [(f, v)])) a (exo a C (some d))) a) d (.xd [(f, v)])) := by
  have h1 : H d = none := by rw [upd_ne hda] at hd; exact hd
  refine k d _ (fun b o e => ?_) upd_same
  have hb : b ≠ a := ne_of_none e ha
  have hbd : b ≠ d := ne_of_none e h1
  rw [upd_ne hbd, del_ne hb, upd_ne hb, upd_ne hbd, upd_ne hb]
  exact e
section
variable {P : Program} {w0 : World} {K : PySem.W.Frag} {mg : Str → Option Value} {base : Heap}
theorem ok_isintA {f : Addr} {fd : FuncData} (F : Fun K "is_integer" "is_integer" s_is_integer f fd) (T : TxtV mg) : FnOk P w0 K mg base CX0 1 f fd ["value"] (spIntA K) := by
  refine F.ok sc_is_integer (fun vs H Q E h => ?_) (fun cdv A outer s H vs Q E hr h => ?_)
  · obtain ⟨v, rfl, _⟩ := h
    rfl
  · obtain ⟨v, rfl, h⟩ := h
    refine ⟨_, (pss_one (ps_ret (pe_and (pe_callB (call_isiK (K := K) rfl) rfl T.f_isinstance (by decide +kernel) (pa_cons (pv 0) (pa_cons (pe_bltn (v := .ty "int") rfl T.f_int (by decide +kernel) rfl) pa_nil))) (pe_one (pe_not (pe_callB (call_isiK (K := K) rfl) rfl T.f_isinstance (by decide +kernel) (pa_cons (pv 0) (pa_cons (pe_bltn (v := .ty "bool") rfl T.f_bool (by decide +kernel) rfl) pa_nil)))))))), ?_⟩
    rcases h with ⟨i, rfl, q⟩ | ⟨⟨t, b1, b2, ty, k1, k2, e⟩, q⟩
    · exact ⟨_, rfl, _, _, _, _, true, rfl, .ty _, .base (.int i), kit_ty (by decide +kernel), _, rfl, iteT ⟨_, rfl, _, _, _, _, false, rfl, .ty _, .base (.int i), kit_ty (by decide +kernel), _, rfl, q⟩⟩
    · cases b1 with
      | false => exact ⟨_, rfl, _, _, _, _, false, rfl, .ty _, ty, k1, _, rfl, iteF q⟩
      | true =>
        cases b2 with
        | false => cases e
        | true => exact ⟨_, rfl, _, _, _, _, true, rfl, .ty _, ty, k1, _, rfl, iteT ⟨_, rfl, _, _, _, _, true, rfl, .ty _, ty, k2, _, rfl, q⟩⟩
theorem ok_withinA {f fN : Addr} {fd fdN : FuncData} (F : Fun K "is_within" "is_within" s_is_within f fd)
    (G_is_integer : FnOk P w0 K mg base CX0 1 fN fdN ["value"] (spIntA K)) (g_is_integer : mg "is_integer" = some (.ref fN)) (kp_is_integer : PySem.W.keepIn K (.ref fN) = true) (b_is_integer : Binds K fdN ["value"] []) :
    FnOk P w0 K mg base CX0 2 f fd ["value", "least", "most"] (spWithinA K) := by
  refine F.ok sc_is_within (fun vs H Q E h => ?_) (fun cdv A outer s H vs Q E hr h => ?_)
  · obtain ⟨v, lo, hi, rfl, _⟩ := h
    rfl
  · obtain ⟨v, lo, hi, rfl, b, h, k⟩ := h
    refine ⟨_, (pss_one (ps_ret (pe_and (pe_call G_is_integer (hr.mono (by decide)) rfl g_is_integer kp_is_integer b_is_integer .nil pass0 (pa_cons (pv 0) pa_nil)) (pe_one (pe_chain op_le op_le (pv 1) (pv 0) (pv 2)))))), ?_⟩
    rcases h with ⟨n, rfl, rfl⟩ | ⟨hn, rfl⟩
    · refine ⟨_, rfl, _, rfl, .inl ⟨n, rfl, true, rfl, iteT ?_⟩⟩
      refine ⟨_, rfl, _, rfl, _, _, rfl, rfl, decide (lo ≤ n), rfl, ?_⟩
      cases e : decide (lo ≤ n)
      · rw [e] at k
        exact iteF k
      · rw [e] at k
        exact iteT ⟨_, rfl, _, _, rfl, rfl, k⟩
    · exact ⟨_, rfl, _, rfl, .inr ⟨hn, false, rfl, iteF k⟩⟩
end
end Wk

namespace Wk
open PySem L2
abbrev s_BadSize_init : Stmt := inClass (top 6) 0
theorem sc_BadSize_init : FnScope ["self", "size"] ["self", "size"] (defScope s_BadSize_init) := ⟨rfl, rfl, rfl, by decide +kernel, rfl, by decide +kernel, by decide +kernel⟩
abbrev s_BadModulus_init : Stmt := inClass (top 3) 0
theorem sc_BadModulus_init : FnScope ["self", "number"] ["self", "number"] (defScope s_BadModulus_init) := ⟨rfl, rfl, rfl, by decide +kernel, rfl, by decide +kernel, by decide +kernel⟩

/-- the right call -/
def RightL (D : GD) (most : Int) (bits : Nat) (H : Hp) (Q : VK) : Prop := 0 ≤ most ∧ most ≤ 1000000000000000000 ∧ 1 ≤ bits ∧ bits ≤ 128 ∧ D.M ≤ 2 ^ bits ∧
  (Stay D most → ∀ H', Same H H' → Q .non H') ∧ (¬ Stay D most → ∀ (m : Nat) H', Same H H' → ¬ Rch D.n (2 ^ bits) (stF D most m) → Rch D.n (2 ^ bits) (stF D most (m + 1)) → Q (.int (m : Int)) H')
def spLateX (K : PySem.W.Frag) (C CS CM : Addr) : Sp := fun vs H Q E => ∃ (g : Addr) (D : GD) (vm vb : V), vs = [.ref g, vm, vb] ∧ GuardAt K C H g D ∧ GOk D ∧ D.n ≤ 15 ∧ Inv2 D.M D.n (ent D.A) ∧
  ((∃ (most : Int) (bits : Nat), vm = .int most ∧ vb = .int (bits : Int) ∧ RightL D most bits H Q) ∨
   (NoW K H vm 0 1000000000000000000 ∧ Rsd H CS "size" vm E) ∨
   (∃ most : Int, vm = .int most ∧ 0 ≤ most ∧ most ≤ 1000000000000000000 ∧ ((NoW K H vb 1 128 ∧ Rsd H CS "size" vb E) ∨ (∃ bits : Nat, vb = .int (bits : Int) ∧ 1 ≤ bits ∧ bits ≤ 128 ∧ ¬ D.M ≤ 2 ^ bits ∧ Rsd H CM "number" (.int D.M) E))))
section
variable {P : Program} {w0 : World} {K : PySem.W.Frag} {mg : Str → Option Value} {base : Heap} {C fI fT fB fQ : Addr}
theorem okE_BadSize {f : Addr} {fd : FuncData} {C fI CS : Addr} (F : FunD K "__init__" "BadSize.__init__" (defArgs s_BadSize_init) (defBody s_BadSize_init) (defScope s_BadSize_init) [] [] f fd) (e1 : Err1 K mg "BadSize" "size" C fI CS) : FnOk P w0 K mg base CX0 1 f fd ["self", "size"] (spE1 C "size") := by
  refine F.ok sc_BadSize_init (fun vs H Q E h => ?_) (fun cdv A outer s H vs Q E hr h => ?_)
  · obtain ⟨e, y, rfl, _⟩ := h
    rfl
  · obtain ⟨e, y, rfl, he, k⟩ := h
    exact ⟨_, PSs.nox (pss_one (ps_ost (pv 0) (pv 1))), _, rfl, _, rfl, e, C, rfl, e1.o, e1.no, .inl ⟨he, fun dx h1 h2 => k dx h1 h2⟩⟩
theorem okE_BadModulus {f : Addr} {fd : FuncData} {C fI CS : Addr} (F : FunD K "__init__" "BadModulus.__init__" (defArgs s_BadModulus_init) (defBody s_BadModulus_init) (defScope s_BadModulus_init) [] [] f fd) (e1 : Err1 K mg "BadModulus" "number" C fI CS) : FnOk P w0 K mg base CX0 1 f fd ["self", "number"] (spE1 C "number") := by
  refine F.ok sc_BadModulus_init (fun vs H Q E h => ?_) (fun cdv A outer s H vs Q E hr h => ?_)
  · obtain ⟨e, y, rfl, _⟩ := h
    rfl
  · obtain ⟨e, y, rfl, he, k⟩ := h
    exact ⟨_, PSs.nox (pss_one (ps_ost (pv 0) (pv 1))), _, rfl, _, rfl, e, C, rfl, e1.o, e1.no, .inl ⟨he, fun dx h1 h2 => k dx h1 h2⟩⟩
theorem ok_lateX {f f0 f1 f2 CE CM CS iE iM : Addr} {fd fd0 fd1 fd2 fdE fdM : FuncData} (F : Fun K "late" "late" s_late f fd) (ES : Err1 K mg "BadSize" "size" CE iE CS) (EM : Err1 K mg "BadModulus" "number" CM iM CS)
    (GES : FnOk P w0 K mg base CX0 1 iE fdE ["self", "size"] (spE1 CE "size")) (bES : Binds K fdE ["self", "size"] []) (GEM : FnOk P w0 K mg base CX0 1 iM fdM ["self", "number"] (spE1 CM "number")) (bEM : Binds K fdM ["self", "number"] []) (T : TxtL mg) (TG : TxtGd K mg C fI fT fB fQ) (TB : TxtB mg)
    (G_is_within : FnOk P w0 K mg base CX0 2 f0 fd0 ["value", "least", "most"] (spWithinA K)) (g_is_within : mg "is_within" = some (.ref f0)) (kp_is_within : PySem.W.keepIn K (.ref f0) = true) (b_is_within : Binds K fd0 ["value", "least", "most"] [])
    (G_taken : FnOk P w0 K mg base CX0 1 f1 fd1 ["step", "state", "limit"] (spTaken K)) (g_taken : mg "taken" = some (.ref f1)) (kp_taken : PySem.W.keepIn K (.ref f1) = true) (b_taken : Binds K fd1 ["step", "state", "limit"] [])
    (G_steps_below : FnOk P w0 K mg base CX0 2 f2 fd2 ["step", "state", "limit"] (spBelow K)) (g_steps_below : mg "steps_below" = some (.ref f2)) (kp_steps_below : PySem.W.keepIn K (.ref f2) = true) (b_steps_below : Binds K fd2 ["step", "state", "limit"] [])
    : FnOk P w0 K mg base (L2.CX P w0) 3 f fd ["guard", "most", "bits"] (spLateX K C CE CM) := by
  refine F.okX sc_late (fun vs H Q E h => ?_) (fun cdv A outer s H vs Q E hr h => ?_)
  · obtain ⟨g, D, vm, vb, rfl, _⟩ := h
    rfl
  · obtain ⟨g, D, vm, vb, rfl, hG, ok, n15, I, ways⟩ := h
    have hu := hu_of hr
    refine ⟨_, (pss_cons (ps_if (pt_not (pt_val (pe_call G_is_within (hr.mono (by decide)) rfl g_is_within kp_is_within b_is_within .nil pass0 (pa_cons (pv 1) (pa_cons pe_int (pa_cons (pe_glob (v := .int 1000000000000000000) rfl TB.gGREATEST_NUMBER.choose_spec ⟨_, rfl⟩) pa_nil)))))) (pss_one (ps_raise rfl (takes_of rfl rfl rfl rfl) (pmk_oex ES.o ES.i ES.t GES (hr.mono (by decide)) bES .nil pass0 rfl ES.g (pa_cons (pv 1) pa_nil)))) pss_nil)
        (pss_cons (ps_if (pt_not (pt_val (pe_call G_is_within (hr.mono (by decide)) rfl g_is_within kp_is_within b_is_within .nil pass0 (pa_cons (pv 2) (pa_cons pe_int (pa_cons (pe_glob (v := .int 128) rfl TB.gMOST_BITS.choose_spec ⟨_, rfl⟩) pa_nil)))))) (pss_one (ps_raise rfl (takes_of rfl rfl rfl rfl) (pmk_oex ES.o ES.i ES.t GES (hr.mono (by decide)) bES .nil pass0 rfl ES.g (pa_cons (pv 2) pa_nil)))) pss_nil)
        (pss_cons (ps_set (i := 3) sc_late.nd rfl (Or.inl rfl) (pe_op op_oneShl pe_int (pv 2)))
        (pss_cons (ps_if (pt_cmpR op_gt (pe_fld (pv 0) rfl) (pv 3) (nomark _)) (pss_one (ps_raise rfl (takes_of rfl rfl rfl rfl) (pmk_oex EM.o EM.i EM.t GEM (hr.mono (by decide)) bEM .nil pass0 rfl EM.g (pa_cons (pe_fld (pv 0) rfl) pa_nil)))) pss_nil)
        (pss_cons (ps_setLc (i := 4) (own := [("row", 6), ("more", 7)]) (g := gTup K 2 (gCons (gName 6) (gCons (gName 7) gNil))) rfl sc_late.nd rfl rfl (sw_true rfl rfl rfl (by decide +kernel)) (pi_zip2K (K := K) rfl true true rfl T.f_zip (pa_cons (pe_fld (pv 0) rfl) (pa_cons (pe_fld (pv 0) rfl) pa_nil))) (blkOk_by (N := ["guard", "most", "bits", "limit", "step", "state", "row", "more"]) (sc := defScope s_late) (by decide +kernel)) (fun _ _ _ _ _ => (pg_tupK rfl rfl (pgs_cons (pg_name (i := 6) sc_late.nd rfl (Or.inl rfl)) (pgs_cons (pg_name (i := 7) sc_late.nd rfl (Or.inl rfl)) pgs_nil)))) (fun _ _ _ _ _ => pts_nil) (fun _ _ _ _ _ => (pe_op (op_catAK (K := K) rfl) (pv 6) (pe_tup (pa_cons (pe_op op_mulW (pv 1) (pe_callB (cr_sumT (K := K) rfl rfl) rfl T.f_sum (by decide +kernel) (pa_cons (pv 7) pa_nil))) pa_nil)))))
        (pss_cons (ps_expr (pe_bm PySem.F.plainAttrs_list PySem.F.slot_list_append PySem.F.type_list_append mt_append (pv 4) (pa_cons (pe_op (op_catAK (K := K) rfl) (pe_op (op_repAK (K := K) rfl) (pe_tup (pa_cons pe_int pa_nil)) (pe_fld (pv 0) rfl)) (pe_tup (pa_cons pe_int pa_nil))) pa_nil)))
        (pss_cons (ps_set (i := 5) sc_late.nd rfl (Or.inl rfl) (pe_op (op_catAK (K := K) rfl) (pe_op (op_repAK (K := K) rfl) (pe_tup (pa_cons (pe_op op_sub (pe_fld (pv 0) rfl) pe_int) pa_nil)) (pe_fld (pv 0) rfl)) (pe_tup (pa_cons pe_int pa_nil))))
        (pss_cons (ps_if (pt_cmpR (op_eqD hr.units) (pe_call G_taken (hr.mono (by decide)) rfl g_taken kp_taken b_taken .nil pass0 (pa_cons (pv 4) (pa_cons (pv 5) (pa_cons (pv 3) pa_nil)))) (pv 5) (nomark _)) (pss_one (ps_ret pe_non)) pss_nil)
        (pss_one (ps_ret (pe_call G_steps_below (hr.mono (by decide)) rfl g_steps_below kp_steps_below b_steps_below .nil pass0 (pa_cons (pv 4) (pa_cons (pv 5) (pa_cons (pv 3) pa_nil)))))))))))))), ?_⟩
    obtain ⟨dx, aM, aC, aS, aE, hp, hA, hC, hS, hE⟩ := hG.ex
    have hM2 := ok.m2
    have hw16 := ok.w16
    have hn1 := ok.n1
    have hm18 := ok.m18
    have p128 : ∀ {bits : Nat}, 1 ≤ bits → bits ≤ 128 → (2 : Int) ≤ 2 ^ bits ∧ (2 : Int) ^ bits < 2 ^ 136 ∧ (2 : Int) ^ bits ≤ 2 ^ 128 := fun {bits} b1 b2 => by
      have h1 : (2 : Int) ^ bits ≤ 2 ^ 128 := pow2_le b2
      have h2 := pow2_le b1
      exact ⟨by omega, Int.lt_of_le_of_lt h1 (by decide), h1⟩
    have raise : ∀ {C : Addr} {x : Str} {v : V} {H1 : Hp}, H1 = H → Rsd H C x v E → Rsd H1 C x v E := fun e k => e ▸ k
    rcases ways with ⟨most, bits, rfl, rfl, m0, m1, b1, b60, hMb, k1, k2⟩ | ⟨hw, k⟩ | ⟨most, rfl, m0, m1, ⟨hw, k⟩ | ⟨bits, rfl, b1, b60, hMb, k⟩⟩
    rotate_left
    · refine ⟨_, rfl, _, 0, 1000000000000000000, rfl, false, hw.is, ?_⟩
      refine ⟨_, rfl, iteT ?_⟩
      exact ⟨_, rfl, (by show 1 ≤ 1000; decide), fun a ha => ⟨a, _, rfl, upd_same, fun d hd hda => ⟨rfl, d, _, upd_same, (by rw [upd_ne hda]; exact upd_same), (by rw [upd_ne hda] at hd; exact hd), raised k ha hd hda⟩⟩⟩
    · refine ⟨_, rfl, _, 0, 1000000000000000000, rfl, true, .yes m0 m1, ?_⟩
      refine ⟨_, rfl, iteF ?_⟩
      refine ⟨_, rfl, _, 1, 128, rfl, false, hw.is, ?_⟩
      refine ⟨_, rfl, iteT ?_⟩
      exact ⟨_, rfl, (by show 1 ≤ 1000; decide), fun a ha => ⟨a, _, rfl, upd_same, fun d hd hda => ⟨rfl, d, _, upd_same, (by rw [upd_ne hda]; exact upd_same), (by rw [upd_ne hda] at hd; exact hd), raised k ha hd hda⟩⟩⟩
    · obtain ⟨L2', L64, p60⟩ := p128 b1 b60
      refine ⟨_, rfl, _, 0, 1000000000000000000, rfl, true, .yes m0 m1, ?_⟩
      refine ⟨_, rfl, iteF ?_⟩
      refine ⟨_, rfl, _, 1, 128, rfl, true, .yes (by omega) (by omega), ?_⟩
      refine ⟨_, rfl, iteF ?_⟩
      refine ⟨_, rfl, bits, rfl, rfl, by omega, ?_⟩
      refine ⟨_, rfl, g, C, dx, _, _, rfl, hp, TG.cl, TG.a_modulus, flG_m, _, rfl, _, _, rfl, rfl, _, rfl, ite2 (fun _ => ?_) fun hd => absurd (decide_eq_true (by omega)) hd⟩
      exact ⟨_, rfl, g, C, dx, _, _, rfl, hp, TG.cl, TG.a_modulus, flG_m, (by show 1 ≤ 1000; decide), fun a ha => ⟨a, _, rfl, upd_same, fun d hd hda => ⟨rfl, d, _, upd_same, (by rw [upd_ne hda]; exact upd_same), (by rw [upd_ne hda] at hd; exact hd), raised k ha hd hda⟩⟩⟩
    obtain ⟨L2', L64, p60⟩ := p128 b1 b60
    refine ⟨_, rfl, _, 0, 1000000000000000000, rfl, true, .yes m0 m1, ?_⟩
    refine ⟨_, rfl, iteF ?_⟩
    refine ⟨_, rfl, _, 1, 128, rfl, true, .yes (by omega) (by omega), ?_⟩
    refine ⟨_, rfl, iteF ?_⟩
    refine ⟨_, rfl, bits, rfl, rfl, by omega, ?_⟩
    refine ⟨_, rfl, g, C, dx, _, _, rfl, hp, TG.cl, TG.a_modulus, flG_m, _, rfl, _, _, rfl, rfl, _, rfl, ite2 (fun hd => absurd (of_decide_eq_true hd) (by omega)) fun _ => ?_⟩
    -- the step
    obtain ⟨va, hAv, rA⟩ := id hA
    obtain ⟨vb, hCv, rC⟩ := id hC
    have la := rA.length
    have lb := rC.length
    have la2 : va.length = D.n := by rw [la]; exact ok.sA.1
    have lb2 : vb.length = D.n := by rw [lb]; exact ok.sG.1
    obtain ⟨wP, wZ⟩ := aug_wd ok m0 m1 ok.m18
    refine ⟨_, rfl, g, C, dx, _, _, rfl, hp, TG.cl, TG.a_matrix, flG_A, _, rfl, g, C, dx, _, _, rfl, hp, TG.cl, TG.a_columns, flG_G, aM, aC, _, _, rfl, hAv, hCv, fun D0 hD => lc_rowsT (K := K) (ZM.walk_two (t := true) (u := true) (n := D.n) (by rw [la2, lb2]; simp)) hD (by omega) (List.zipWith (fun a x => a ++ [x]) D.A (augU D most)) (by rw [List.length_zipWith, augU_len ok, ok.sA.1, Nat.min_self]) (fun H' e => ⟨SqT.same hAv e, SqT.same hCv e⟩) ?_ (fun acc H6 e6 s6 hR6 => ?_)⟩
    · rintro l r v H6 H6' Fn Nn hi hr3 fin s6 ⟨T2, x, y, rfl, hT2, rfl, hx, hy⟩
      obtain ⟨pa, ra, rfl, ga, ha⟩ := rows_at rA hx
      obtain ⟨pb, rb, rfl, gb, hb⟩ := rows_at rC hy
      have er : r = ra ++ [most * rb.sum] := by
        rw [List.getElem?_zipWith, ga] at hr3
        unfold augU at hr3
        rw [List.getElem?_map, gb] at hr3
        cases hr3
        rfl
      subst er
      have sT := same_upd (o := .tup [.ref pa, .ref pb]) hT2
      have s7 := same_trans s6 sT
      have sb := sum_row ok (List.mem_of_getElem? gb)
      refine ⟨T2, _, rfl, SqT.of upd_same, rfl, _, _, rfl, _, _, rfl, rfl, rfl, yesT ⟨_, rfl, _, rfl, _, rfl, pb, rb, rfl, SqT.same hb s7, _, _, rfl, rfl, wide_mul (a := 64) (b := 128) (by omega) (by omega) (by decide) (by decide) (by decide), by show 1 ≤ sizeLine; decide, fun q nq => ?_⟩⟩
      have sq := same_upd (o := .tup [V.int (most * rb.sum)]) nq
      have lra := ok.sA.2 _ (List.mem_of_getElem? ga)
      refine cat_readT (SqT.same ha (same_trans s7 sq)) (SqT.of upd_same) (by simp; omega) fun q2 G sG hG => fin q2 G (same_trans sT (same_trans sq sG)) ?_
      have e : (ra ++ [most * rb.sum]).map V.int = ra.map V.int ++ [V.int (most * rb.sum)] := by simp
      rw [e]
      exact hG
    have hp6 := s6 _ _ hp
    -- the last row
    refine ⟨_, rfl, .inl ⟨rfl, _, SqL.of e6⟩, by show 1 ≤ sizeLine; decide, fun t1 nt1 => ⟨_, rfl, g, C, dx, _, _, rfl, same_upd nt1 _ _ hp6, TG.cl, TG.a_size, flG_n, ?_⟩⟩
    refine rep_read upd_same (by omega) (by omega) fun q1 G1 sG1 hG1 => ?_
    rw [show ((D.n : Int)).toNat = D.n by omega] at hG1
    refine ⟨by show 1 ≤ sizeLine; decide, fun t2 nt2 => ?_⟩
    refine cat_read (same_upd nt2 _ _ hG1) upd_same (by simp; omega) fun q2 G2 sG2 hG2 => ?_
    have s62 : Same H6 G2 := same_trans (same_upd nt1) (same_trans sG1 (same_trans (same_upd nt2) sG2))
    refine ⟨D0, acc, _, rfl, rfl, s62 _ _ e6, ?_, ?_⟩
    · have := hR6.length
      rw [List.length_zipWith, augU_len ok, ok.sA.1] at this
      exact Nat.lt_of_le_of_lt (show acc.length ≤ 1000 by omega) (by decide)
    have b3 : But D0 G2 (upd G2 D0 (.lst (acc ++ [V.ref q2]))) := fun a o n e => by rw [upd_ne n]; exact e
    have hP3 : BlkAt K (upd G2 D0 (.lst (acc ++ [V.ref q2]))) D0 (augP D most) := by
      refine ⟨_, upd_same, ?_⟩
      have r1 := rows_butL (K := K) b3 (s62 _ _ e6) (hR6.same s62)
      have r2 : RowAt K (upd G2 D0 (.lst (acc ++ [V.ref q2]))) q2 (List.replicate D.n 0 ++ [1]) := by
        have : q2 ≠ D0 := fun z => by rw [z, s62 _ _ e6] at hG2; cases hG2
        refine SqT.of ((b3 _ _ this hG2).trans ?_)
        simp
      have app : ∀ {vs : List V} {A : Mat}, RowsAre K (upd G2 D0 (.lst (acc ++ [V.ref q2]))) vs A → RowsAre K (upd G2 D0 (.lst (acc ++ [V.ref q2]))) (vs ++ [V.ref q2]) (A ++ [List.replicate D.n 0 ++ [1]]) := fun {vs A} h => by
        induction h with
        | nil => exact .cons r2 .nil
        | cons h _ ih => exact .cons h ih
      exact app r1
    have s3 : Same H (upd G2 D0 (.lst (acc ++ [V.ref q2]))) := fun a o e => by
      have : a ≠ D0 := fun z => by rw [z, hD] at e; cases e
      rw [upd_ne this]
      exact s62 _ _ (s6 _ _ e)
    revert hP3 s3
    generalize upd G2 D0 (.lst (acc ++ [V.ref q2])) = H3
    intro hP3 s3
    clear b3 s62 hG2 sG2 nt2 hG1 sG1 nt1 e6 hR6 s6 hp6
    have hp3 := s3 _ _ hp
    -- the state
    refine ⟨_, rfl, g, C, dx, _, _, rfl, hp3, TG.cl, TG.a_modulus, flG_m, _, _, rfl, rfl, by show 1 ≤ sizeLine; decide, fun t1 nt1 => ⟨_, rfl, g, C, dx, _, _, rfl, same_upd nt1 _ _ hp3, TG.cl, TG.a_size, flG_n, ?_⟩⟩
    refine rep_read upd_same (by omega) (by omega) fun q1 G1 sG1 hG1 => ?_
    rw [show ((D.n : Int)).toNat = D.n by omega] at hG1
    refine ⟨by show 1 ≤ sizeLine; decide, fun t2 nt2 => ?_⟩
    refine cat_read (same_upd nt2 _ _ hG1) upd_same (by simp; omega) fun qz H4 sG2 hG2 => ?_
    have s34 : Same H3 H4 := same_trans (same_upd nt1) (same_trans sG1 (same_trans (same_upd nt2) sG2))
    have hz : RowAt K H4 qz (augZ D) := SqT.of (hG2.trans (by simp [augZ]))
    have hP4 := hP3.same s34
    have s04 := same_trans s3 s34
    clear sG2 hG2 nt2 hG1 sG1 nt1 hP3 s34 s3
    have mP := aug_mat ok (L := 2 ^ bits) m0 wP
    have rz := aug_row ok (L := 2 ^ bits) wZ
    -- does it move
    refine ⟨_, rfl, _, rfl, _, rfl, false, D0, qz, augP D most, augZ D, 2 ^ bits, rfl, hP4.rowsG, hz, fun r hr => by rw [mP.shp.2 r hr, augZ_len], by rw [mP.shp.1]; omega, by rw [augZ_len]; omega, wP, wZ, fun q5 H5 s5 h5 => ?_⟩
    refine ⟨_, rfl, eqR_read h5 (SqT.same hz s5) ⟨_, rfl, ite2 (fun hd => ?_) (fun hd => ?_)⟩⟩
    · exact k1 ((sat_stay ok hMb).mp (of_decide_eq_true hd)) H5 (same_trans s04 s5)
    · have ns : ¬ Stay D most := fun z => hd (decide_eq_true ((sat_stay ok hMb).mpr z))
      have gr := aug_grow ok I m0
      refine ⟨_, rfl, _, rfl, _, rfl, D0, qz, augP D most, augZ D, 2 ^ bits, D.n, D.n + 1, _, _, rfl, hP4.same s5, SqT.same hz s5, mP, rz, gr, hn1, by omega, L2', p60, ?_, ?_, ?_, fun m H6 s6 r1 r2 => k2 ns m H6 (same_trans s04 (same_trans s5 s6)) r1 r2⟩
      · refine Classical.byContradiction fun c => ns fun i hi => ?_
        refine Classical.byContradiction fun ne => c ⟨i, hi, fun e => ne ?_⟩
        rw [augZ_lt hi] at e
        exact e
      · intro m i h1 h2
        have : i = D.n := by omega
        subst this
        have := stF_n ok most m
        unfold stF at this
        rw [this]
        omega
      · rintro ⟨i, hi, e⟩
        rw [augZ_lt hi] at e
        omega
end
end Wk

/-! how plain sums and pairs of sums grow -/
namespace Wk
theorem plain_st {M most : Int} : ∀ m : Nat, stL (digG M 1) most m = [M - 1 + most * m]
  | 0 => by
    show [M - 1] = [M - 1 + most * ((0 : Nat) : Int)]
    rw [Int.natCast_zero, Int.mul_zero, Int.add_zero]
  | m + 1 => by
    have ih := plain_st (M := M) (most := most) m
    show List.zipWith (fun a g => dotZ a (stL (digG M 1) most m) + most * g.sum) [[1]] [[1]] = _
    rw [ih]
    show [1 * (M - 1 + most * (m : Int)) + 0 + most * (1 + 0)] = [M - 1 + most * ((m + 1 : Nat) : Int)]
    rw [Int.natCast_succ]
    congr 1
    grind
/-- the second number of a pair of sums after m symbols -/
def pairV (M most : Int) : Nat → Int
  | 0 => M - 1
  | m + 1 => pairV M most m + (M - 1) + most * (m + 1)
theorem pair_st {M f most : Int} : ∀ m : Nat, stL (pairG M f) most m = [M - 1 + most * m, pairV M most m]
  | 0 => by
    show [M - 1, M - 1] = [M - 1 + most * ((0 : Nat) : Int), M - 1]
    rw [Int.natCast_zero, Int.mul_zero, Int.add_zero]
  | m + 1 => by
    have ih := pair_st (M := M) (f := f) (most := most) m
    show List.zipWith (fun a g => dotZ a (stL (pairG M f) most m) + most * g.sum) [[1, 0], [1, 1]] [[1], [1]] = _
    rw [ih]
    show [1 * (M - 1 + most * (m : Int)) + (0 * pairV M most m + 0) + most * (1 + 0), 1 * (M - 1 + most * (m : Int)) + (1 * pairV M most m + 0) + most * (1 + 0)] = [M - 1 + most * ((m + 1 : Nat) : Int), pairV M most m + (M - 1) + most * ((m : Int) + 1)]
    rw [Int.natCast_succ]
    congr 1
    · grind
    · congr 1
      grind
theorem pair_twice {M most : Int} : ∀ m : Nat, 2 * pairV M most m = 2 * ((M - 1) * ((m : Int) + 1)) + most * ((m : Int) * ((m : Int) + 1))
  | 0 => by
    show 2 * (M - 1) = 2 * ((M - 1) * (((0 : Nat) : Int) + 1)) + most * (((0 : Nat) : Int) * (((0 : Nat) : Int) + 1))
    simp
  | m + 1 => by
    have ih := pair_twice (M := M) (most := most) m
    show 2 * (pairV M most m + (M - 1) + most * ((m : Int) + 1)) = _
    rw [Int.mul_add, Int.mul_add, ih, Int.natCast_succ]
    grind
theorem tri_even (m : Nat) : ∃ k : Int, (m : Int) * ((m : Int) + 1) = 2 * k := by
  induction m with
  | zero => exact ⟨0, by simp⟩
  | succ m ih =>
    obtain ⟨k, e⟩ := ih
    exact ⟨k + m + 1, by rw [Int.natCast_succ]; grind⟩
theorem pair_val {M most : Int} (m : Nat) : (M - 1) * ((m : Int) + 1) + most * (m : Int) * ((m : Int) + 1) / 2 = pairV M most m := by
  obtain ⟨k, e⟩ := tri_even m
  have h := pair_twice (M := M) (most := most) m
  have e2 : most * (m : Int) * ((m : Int) + 1) = 2 * (most * k) := by rw [Int.mul_assoc, e]; grind
  rw [e2, Int.mul_ediv_cancel_left _ (by decide)]
  rw [e] at h
  have h3 : most * (2 * k) = 2 * (most * k) := by grind
  rw [h3] at h
  omega
theorem pair_up {M most : Int} (hM : 2 ≤ M) (h0 : 0 ≤ most) : ∀ {a b : Nat}, a ≤ b → pairV M most a ≤ pairV M most b
  | a, b, h => by
    induction h with
    | refl => exact Int.le_refl _
    | @step b h ih =>
      show _ ≤ pairV M most b + (M - 1) + most * ((b : Int) + 1)
      have : 0 ≤ most * ((b : Int) + 1) := Int.mul_nonneg h0 (by omega)
      omega
theorem pair_ge {M most : Int} (hM : 2 ≤ M) (h0 : 0 ≤ most) : ∀ m : Nat, M - 1 + m ≤ pairV M most m
  | 0 => by
    show M - 1 + ((0 : Nat) : Int) ≤ M - 1
    omega
  | m + 1 => by
    have ih := pair_ge hM h0 m
    show M - 1 + ((m + 1 : Nat) : Int) ≤ pairV M most m + (M - 1) + most * ((m : Int) + 1)
    have : 0 ≤ most * ((m : Int) + 1) := Int.mul_nonneg h0 (by omega)
    omega
theorem plain_ok {M : Int} (hM : 2 ≤ M) (h18 : M ≤ 1000000000000000000) : GOk (digG M 1) := digG_ok hM h18 (by decide) (by omega) ⟨1, .refl _ _⟩
theorem plain_rch {M most L : Int} (hM : 2 ≤ M) (h18 : M ≤ 1000000000000000000) (m : Nat) : Rch (digG M 1).n L (stF (digG M 1) most m) ↔ L ≤ M - 1 + most * m := by
  have e0 : stF (digG M 1) most m 0 = M - 1 + most * m := by
    rw [stF_stL (plain_ok hM h18) most m 0 (by show 0 < 1; decide), plain_st]
    rfl
  constructor
  · rintro ⟨i, hi, h⟩
    match i, hi, h with
    | 0, _, h => rw [e0] at h; exact h
    | i + 1, hi, _ => exact absurd (show i + 1 < 1 from hi) (by omega)
  · intro h
    exact ⟨0, by show 0 < 1; decide, by rw [e0]; exact h⟩
theorem plain_inv {M : Int} : Inv2 M 1 (ent (digG M 1).A) := by
  refine ⟨ent [[1]], fun i j hi hj => ?_, fun i j hi hj => ?_⟩
  all_goals
    obtain rfl : i = 0 := by omega
    obtain rfl : j = 0 := by omega
    exact Eqm.refl _ _
theorem pair_rch {M f most L : Int} (hM : 2 ≤ M) (h18 : M ≤ 1000000000000000000) (f0 : 0 ≤ f) (f1 : f < M) (h0 : 0 ≤ most) (m : Nat) : Rch (pairG M f).n L (stF (pairG M f) most m) ↔ L ≤ pairV M most m := by
  have ok := pairG_ok hM h18 f0 f1
  have e0 : stF (pairG M f) most m 0 = M - 1 + most * m := by
    rw [stF_stL ok most m 0 (by show 0 < 2; decide), pair_st]
    rfl
  have e1 : stF (pairG M f) most m 1 = pairV M most m := by
    rw [stF_stL ok most m 1 (by show 1 < 2; decide), pair_st]
    rfl
  have h2 : M - 1 + most * m ≤ pairV M most m := by
    cases m with
    | zero =>
      show M - 1 + most * ((0 : Nat) : Int) ≤ M - 1
      simp
    | succ m =>
      have a := pair_ge hM h0 m
      show M - 1 + most * ((m + 1 : Nat) : Int) ≤ pairV M most m + (M - 1) + most * ((m : Int) + 1)
      rw [Int.natCast_succ]
      omega
  constructor
  · rintro ⟨i, hi, h⟩
    match i, hi, h with
    | 0, _, h => rw [e0] at h; omega
    | 1, _, h => rw [e1] at h; exact h
    | i + 2, hi, _ => exact absurd (show i + 2 < 2 from hi) (by omega)
  · intro h
    exact ⟨1, by show 1 < 2; decide, by rw [e1]; exact h⟩
end Wk

namespace Wk
open PySem L2
abbrev s_law_two_to : Stmt := top 70
theorem sc_law_two_to : FnScope ["_law_many", "_law_found", "_law_k"] ["_law_many"] (defScope s_law_two_to) := ⟨rfl, rfl, rfl, by decide +kernel, rfl, by decide +kernel, by decide +kernel⟩
abbrev s_law_linear : Stmt := top 73
theorem sc_law_linear : FnScope ["_law_first", "_law_by", "_law_limit"] ["_law_first", "_law_by", "_law_limit"] (defScope s_law_linear) := ⟨rfl, rfl, rfl, by decide +kernel, rfl, by decide +kernel, by decide +kernel⟩
abbrev s_law_pair_number : Stmt := top 74
theorem sc_law_pair_number : FnScope ["_law_modulus_here", "_law_most", "_law_limit", "_law_low", "_law_high", "_law_middle", "_law_value"] ["_law_modulus_here", "_law_most", "_law_limit"] (defScope s_law_pair_number) := ⟨rfl, rfl, rfl, by decide +kernel, rfl, by decide +kernel, by decide +kernel⟩

-- _law_modulus_here=0 _law_most=1 _law_limit=2 _law_low=3 _law_high=4 _law_middle=5 _law_value=6
def spTwo : Sp := fun vs H Q _ => ∃ (n : Nat), vs = [.int (n : Int)] ∧ n ≤ 200 ∧ Q (.int (2 ^ n)) H
def spLinear : Sp := fun vs H Q _ => ∃ (a b L : Int), vs = [.int a, .int b, .int L] ∧ 0 ≤ a ∧ a ≤ L ∧ 1 ≤ b ∧ b < 2 ^ 64 ∧ Q (.int ((L - a) / b)) H
def spPairN : Sp := fun vs H Q _ => ∃ (M most L : Int), vs = [.int M, .int most, .int L] ∧ 2 ≤ M ∧ M ≤ 1000000000000000000 ∧ 0 ≤ most ∧ most ≤ 1000000000000000000 ∧ M - 1 ≤ L ∧ L < 2 ^ 128 ∧ ∀ (m : Nat) H', Same H H' → pairV M most m ≤ L → L < pairV M most (m + 1) → Q (.int (m : Int)) H'
def muPn (σ : L2.St) : Nat := match σ[3]?, σ[4]? with
  | some (some (V.int a)), some (some (V.int b)) => (b - a).toNat
  | _, _ => 0
section
variable {P : Program} {w0 : World} {K : PySem.W.Frag} {mg : Str → Option Value} {base : Heap}
theorem ok_two {f : Addr} {fd : FuncData} (F : Fun K "_law_two_to" "_law_two_to" s_law_two_to f fd) (T : TxtL mg) : FnOk P w0 K mg base CX0 1 f fd ["_law_many"] spTwo := by
  refine F.ok sc_law_two_to (fun vs H Q E h => ?_) (fun cdv A outer s H vs Q E hr h => ?_)
  · obtain ⟨n, rfl, _⟩ := h
    rfl
  · obtain ⟨n, rfl, hn, k⟩ := h
    refine ⟨_, (pss_cons (ps_set (i := 1) sc_law_two_to.nd rfl (Or.inl rfl) pe_int)
        (pss_cons (ps_for PassesOwn.never rfl (pi_range1 rfl T.f_range (pa_cons (pv 0) pa_nil)) (pg_name (i := 2) sc_law_two_to.nd rfl (Or.inl rfl)) (pss_one (ps_set (i := 1) sc_law_two_to.nd rfl (Or.inl rfl) (pe_op op_add (pv 1) (pv 1)))))
        (pss_one (ps_ret (pv 1))))), ?_⟩
    refine ⟨_, rfl, (n : Int), rfl, by omega, by omega, ?_⟩
    refine for_it (walk_range (lo := 0) (n := n)) (fun i σ H' => ∃ (x2 : Option V), σ = [some (.int (n : Int)), some (.int (2 ^ i)), x2] ∧ H' = H) ⟨none, rfl, rfl⟩ (fun _ _ _ _ _ => trivial) ?_ ?_
    · rintro i v σ H2 H2' hi ⟨x2, rfl, rfl⟩ ⟨rfl, rfl⟩
      refine ⟨_, rfl, _, rfl, _, _, rfl, rfl, some (.int (0 + (i : Int))), ?_, rfl⟩
      rw [Int.pow_succ, Int.mul_comm, Int.two_mul]
      rfl
    · rintro σ H2 ⟨x2, rfl, rfl⟩
      exact ⟨_, rfl, k⟩
theorem ok_linear {f : Addr} {fd : FuncData} (F : Fun K "_law_linear" "_law_linear" s_law_linear f fd) : FnOk P w0 K mg base CX0 1 f fd ["_law_first", "_law_by", "_law_limit"] spLinear := by
  refine F.ok sc_law_linear (fun vs H Q E h => ?_) (fun cdv A outer s H vs Q E hr h => ?_)
  · obtain ⟨a, b, L, rfl, _⟩ := h
    rfl
  · obtain ⟨a, b, L, rfl, ha, hL, hb, hb2, k⟩ := h
    refine ⟨_, (pss_one (ps_ret (pe_op op_fdivW (pe_op op_sub (pv 2) (pv 0)) (pv 1)))), ?_⟩
    exact ⟨_, rfl, _, rfl, _, _, rfl, rfl, _, rfl, _, _, rfl, rfl, wide_div (b := 64) (by omega) (by omega) (by decide) (by decide), k⟩
theorem ok_pairn {f : Addr} {fd : FuncData} (F : Fun K "_law_pair_number" "_law_pair_number" s_law_pair_number f fd) : FnOk P w0 K mg base CX0 1 f fd ["_law_modulus_here", "_law_most", "_law_limit"] spPairN := by
  refine F.ok sc_law_pair_number (fun vs H Q E h => ?_) (fun cdv A outer s H vs Q E hr h => ?_)
  · obtain ⟨M, most, L, rfl, _⟩ := h
    rfl
  · obtain ⟨M, most, L, rfl, hM, h18, m0, m1, hL, hL2, k⟩ := h
    refine ⟨_, (pss_cons (ps_par (i := 3) (j := 4) rfl sc_law_pair_number.nd rfl rfl (by decide) rfl rfl (pa_cons pe_int (pa_cons (pv 2) pa_nil)) (by rfl))
        (pss_cons (ps_while PassesOwn.never (pt_cmpR op_gt (pe_op op_sub (pv 4) (pv 3)) pe_int (nomark _)) (pss_cons (ps_set (i := 5) sc_law_pair_number.nd rfl (Or.inl rfl) (pe_op op_fdiv (pe_op op_add (pv 3) (pv 4)) pe_int))
        (pss_cons (ps_set (i := 6) sc_law_pair_number.nd rfl (Or.inl rfl) (pe_op op_add (pe_op op_mulW (pe_op op_sub (pv 0) pe_int) (pe_op op_add (pv 5) pe_int)) (pe_op op_fdiv (pe_op op_mulW (pe_op op_mulW (pv 1) (pv 5)) (pe_op op_add (pv 5) pe_int)) pe_int)))
        (pss_one (ps_asg (pe_ifExp (pt_cmpR op_le (pv 6) (pv 2) (nomark _)) (pe_tup (pa_cons (pv 5) (pa_cons (pv 4) pa_nil))) (pe_tup (pa_cons (pv 3) (pa_cons (pv 5) pa_nil)))) (pg_tup rfl (pgs_cons (pg_name (i := 3) sc_law_pair_number.nd rfl (Or.inl rfl)) (pgs_cons (pg_name (i := 4) sc_law_pair_number.nd rfl (Or.inl rfl)) pgs_nil))))))))
        (pss_one (ps_ret (pv 3))))), ?_⟩
    refine ⟨_, rfl, _, _, rfl, ?_⟩
    have hL1 : 1 ≤ L := by omega
    refine while_by (fun σ H' => ∃ (lo hi : Nat) (x5 x6 : Option V), σ = [some (.int M), some (.int most), some (.int L), some (.int (lo : Int)), some (.int (hi : Int)), x5, x6] ∧ Same H H' ∧ lo < hi ∧ (hi : Int) < 2 ^ 128 ∧ pairV M most lo ≤ L ∧ L < pairV M most hi) (fun σ _ => muPn σ) ?_ ?_ (fun σ H Q Q' hq ⟨v, hv, v2, hv2, i, j, e1, e2, i2, j2, e3, e4, k, e5, q⟩ => ⟨v, hv, v2, hv2, i, j, e1, e2, i2, j2, e3, e4, k, e5, hq _ _ q⟩)
    · obtain ⟨l, rfl⟩ : ∃ l : Nat, L = l := ⟨L.toNat, by omega⟩
      refine ⟨0, l, none, none, rfl, fun _ _ e => e, by omega, hL2, hL, ?_⟩
      have := pair_ge hM m0 l
      omega
    · rintro σ H' ⟨lo, hi, x5, x6, rfl, sH, h1, h2, h3, h4⟩
      refine ⟨_, rfl, _, rfl, _, _, rfl, rfl, _, _, rfl, rfl, _, rfl, ?_⟩
      refine ite2 (fun hc => ?_) (fun hc => ?_)
      · have hc : (1 : Int) < (hi : Int) - (lo : Int) := of_decide_eq_true hc
        obtain ⟨mid, em⟩ : ∃ mid : Nat, ((lo : Int) + (hi : Int)) / 2 = (mid : Int) := ⟨(lo + hi) / 2, by omega⟩
        have p128 : (2 : Int) ^ 128 = 340282366920938463463374607431768211456 := by decide
        have m1' : lo < mid := by omega
        have m2' : mid < hi := by omega
        refine ⟨_, rfl, _, rfl, _, _, rfl, rfl, _, _, rfl, rfl, ⟨by decide, by decide⟩, ?_⟩
        dsimp only
        rw [em]
        refine ⟨_, rfl, _, _, rfl, rfl, _, rfl, _, _, rfl, rfl, _, _, rfl, rfl, wide_mul (a := 64) (b := 200) (by omega) (by omega) (by decide) (by decide) (by decide), _, rfl, _, rfl, _, _, rfl, rfl, wide_mul (a := 64) (b := 200) (by omega) (by omega) (by decide) (by decide) (by decide), _, rfl, _, _, rfl, rfl, _, _, rfl, rfl, ?_, _, _, rfl, rfl, ⟨by decide, by decide⟩, _, _, rfl, rfl, ?_⟩
        · refine wide_mul (a := 264) (b := 200) ?_ (by omega) (by decide) (by decide) (by decide)
          rw [Int.natAbs_mul]
          have a1 : most.natAbs ≤ 2 ^ 64 := by omega
          have a2 : (mid : Int).natAbs < 2 ^ 200 := by omega
          have : most.natAbs * (mid : Int).natAbs ≤ 2 ^ 64 * (mid : Int).natAbs := Nat.mul_le_mul_right _ a1
          omega
        dsimp only
        rw [pair_val]
        refine ⟨_, rfl, _, rfl, _, _, rfl, rfl, _, rfl, ?_⟩
        refine ite2 (fun hv => ?_) (fun hv => ?_)
        · have hv : pairV M most mid ≤ L := of_decide_eq_true hv
          exact ⟨_, rfl, _, rfl, by show 2 ≤ sizeLine; decide, fun q nq => ⟨q, _, rfl, SqT.of upd_same, rfl, _, _, rfl, _, _, rfl, rfl, ⟨mid, hi, _, _, rfl, same_trans sH (same_upd nq), m2', h2, hv, h4⟩, by show ((hi : Int) - (mid : Int)).toNat < ((hi : Int) - (lo : Int)).toNat; omega⟩⟩
        · have hv : ¬ pairV M most mid ≤ L := fun z => hv (decide_eq_true z)
          exact ⟨_, rfl, _, rfl, by show 2 ≤ sizeLine; decide, fun q nq => ⟨q, _, rfl, SqT.of upd_same, rfl, _, _, rfl, _, _, rfl, rfl, ⟨lo, mid, _, _, rfl, same_trans sH (same_upd nq), m1', by omega, h3, by omega⟩, by show ((mid : Int) - (lo : Int)).toNat < ((hi : Int) - (lo : Int)).toNat; omega⟩⟩
      · have hc : ¬ (1 : Int) < (hi : Int) - (lo : Int) := fun z => hc (decide_eq_true z)
        obtain rfl : hi = lo + 1 := by omega
        exact ⟨_, rfl, k lo _ sH h3 h4⟩
end
end Wk

namespace Wk
open PySem L2
abbrev s_law_step : Stmt := top 71
theorem sc_law_step : FnScope ["_law_fields_here", "_law_most", "_law_state", "_law_found", "_law_row_here", "_law_more", "_law_a", "_law_b"] ["_law_fields_here", "_law_most", "_law_state"] (defScope s_law_step) := ⟨rfl, rfl, rfl, by decide +kernel, rfl, by decide +kernel, by decide +kernel⟩
abbrev s_law_late : Stmt := top 72
theorem sc_law_late : FnScope ["_law_fields_here", "_law_most", "_law_limit", "_law_state", "_law_many", "_law_after"] ["_law_fields_here", "_law_most", "_law_limit"] (defScope s_law_late) := ⟨rfl, rfl, rfl, by decide +kernel, rfl, by decide +kernel, by decide +kernel⟩

-- _law_fields_here=0 _law_most=1 _law_state=2 _law_found=3 _law_row_here=4 _law_more=5 _law_a=6 _law_b=7
def spStep : Sp := fun vs H Q _ => ∃ (L : Fl) (D : GD) (most : Int) (q : Addr) (m : Nat), vs = [.ref L.f, .int most, .ref q] ∧ FldAt H L D ∧ GOk D ∧ D.n ≤ 15 ∧ 0 ≤ most ∧ most < 2 ^ 64 ∧ H q = some (.lst ((stL D most m).map V.int)) ∧ RWd (stL D most m) ∧ NewLst H (stL D most (m + 1)) Q
theorem take_snocT {α : Type} {r : List α} {i : Nat} {x : α} (h : r[i]? = some x) : r.take (i + 1) = r.take i ++ [x] := by
  rw [List.take_succ, h]
  rfl
section
variable {P : Program} {w0 : World} {K : PySem.W.Frag} {mg : Str → Option Value} {base : Heap}
theorem ok_step {f : Addr} {fd : FuncData} (F : Fun K "_law_step" "_law_step" s_law_step f fd) (T : TxtL mg) : FnOk P w0 K mg base CX0 1 f fd ["_law_fields_here", "_law_most", "_law_state"] spStep := by
  refine F.ok sc_law_step (fun vs H Q E h => ?_) (fun cdv A outer s H vs Q E hr h => ?_)
  · obtain ⟨L, D, most, q, m, rfl, _⟩ := h
    rfl
  · obtain ⟨L, D, most, q, m, rfl, hF, ok, hn, m0, m1, hq, wst, k⟩ := h
    refine ⟨_, (pss_cons (ps_set (i := 3) sc_law_step.nd rfl (Or.inl rfl) (pe_lst pa_nil))
        (pss_cons (ps_for PassesOwn.never rfl (pi_zip2K (K := K) rfl false false rfl T.f_zip (pa_cons (pe_ix ix_list (pv 0) pe_int (fun _ _ => rfl)) (pa_cons (pe_ix ix_list (pv 0) pe_int (fun _ _ => rfl)) pa_nil))) (pg_tup rfl (pgs_cons (pg_name (i := 4) sc_law_step.nd rfl (Or.inl rfl)) (pgs_cons (pg_name (i := 5) sc_law_step.nd rfl (Or.inl rfl)) pgs_nil))) (pss_one (ps_expr (pe_bm PySem.F.plainAttrs_list PySem.F.slot_list_append PySem.F.type_list_append mt_append (pv 3) (pa_cons (pe_op op_add (pe_callB (cr_sumK (K := K) rfl rfl) rfl T.f_sum (by decide +kernel) (pa_cons (pe_lc (own := [("_law_a", 6), ("_law_b", 7)]) (g := gTup K 2 (gCons (gName 6) (gCons (gName 7) gNil))) rfl sc_law_step.nd (pi_zip2K (K := K) rfl false false rfl T.f_zip (pa_cons (pv 4) (pa_cons (pv 2) pa_nil))) (blkOk_by (N := ["_law_fields_here", "_law_most", "_law_state", "_law_found", "_law_row_here", "_law_more", "_law_a", "_law_b"]) (sc := defScope s_law_step) (by decide +kernel)) (fun _ _ _ _ _ => (pg_tupK rfl rfl (pgs_cons (pg_name (i := 6) sc_law_step.nd rfl (Or.inl rfl)) (pgs_cons (pg_name (i := 7) sc_law_step.nd rfl (Or.inl rfl)) pgs_nil)))) (fun _ _ _ _ _ => pts_nil) (fun _ _ _ _ _ => (pe_op op_mulW (pv 6) (pv 7)))) pa_nil)) (pe_op op_mulW (pv 1) (pe_callB (cr_sumK (K := K) rfl rfl) rfl T.f_sum (by decide +kernel) (pa_cons (pv 5) pa_nil)))) pa_nil)))))
        (pss_one (ps_ret (pv 3))))), ?_⟩
    have m18 := ok.m18
    have lst := stL_len ok most m
    have ls1 := stL_len ok most (m + 1)
    have lA := ok.sA.1
    have lG := ok.sG.1
    have lms := hF.mat.len
    have lcs := hF.col.len
    refine ⟨Nat.zero_le _, fun R nR => ?_⟩
    have sR := same_upd (o := .lst []) nR
    have gR : (upd H R (.lst [])) R = some (.lst (((stL D most (m + 1)).take 0).map V.int)) := upd_same
    generalize upd H R (.lst []) = H7 at sR gR ⊢
    have hF7 := hF.same sR
    refine ⟨_, rfl, L.f, _, ((1 : Nat) : Int), _, rfl, rfl, SqL.of hF7.top, atI_nat (j := 1) rfl, _, rfl, L.f, _, ((2 : Nat) : Int), _, rfl, rfl, SqL.of hF7.top, atI_nat (j := 2) rfl, L.aM, L.aC, _, _, rfl, SqL.of hF7.mat.top, SqL.of hF7.col.top, ?_⟩
    refine for_it (ZM.walk_two (t := false) (u := false) (n := D.n) (by simp [lms, lcs, lA, lG])) (fun l σ H' => ∃ (x4 x5 : Option V), σ = [some (.ref L.f), some (.int most), some (.ref q), some (.ref R), x4, x5, none, none] ∧ Same H H' ∧ H' R = some (.lst (((stL D most (m + 1)).take l).map V.int))) ⟨none, none, rfl, sR, gR⟩ (fun l σ H' _ ⟨_, _, _, s, _⟩ => ⟨SqL.of (hF.same s).mat.top, SqL.of (hF.same s).col.top⟩) ?_ ?_
    · rintro l v σ H8 H8' hl ⟨x4, x5, rfl, s8, g8⟩ ⟨T2, y1, y2, rfl, hT2, rfl, hy1, hy2⟩
      have hF8 := hF.same s8
      obtain ⟨pa, ra, rfl, gpa, ga, ha⟩ := hF8.mat.at_ hy1
      obtain ⟨pb, rb, rfl, gpb, gb, hb⟩ := hF8.col.at_ hy2
      have la := ok.sA.2 _ (List.mem_of_getElem? ga)
      have da := ok.rA _ (List.mem_of_getElem? ga)
      have sb := sum_row ok (List.mem_of_getElem? gb)
      have sT := same_upd (o := .tup [.ref pa, .ref pb]) hT2
      refine ⟨T2, _, rfl, SqT.of upd_same, rfl, _, _, rfl, _, _, rfl, rfl, ?_⟩
      have s9 := same_trans s8 sT
      have g9 := sT _ _ g8
      have hq9 := s9 _ _ hq
      have ha9 := sT _ _ ha
      have hb9 := sT _ _ hb
      generalize upd H8 T2 (.tup [.ref pa, .ref pb]) = H9 at s9 g9 hq9 ha9 hb9 ⊢
      have en : (stL D most (m + 1))[l]? = some (dotZ ra (stL D most m) + most * rb.sum) := by
        show (List.zipWith _ D.A D.G)[l]? = _
        rw [List.getElem?_zipWith, ga, gb]
      refine ⟨_, rfl, .inl ⟨rfl, _, SqL.of g9⟩, ?_⟩
      refine dot_read rfl rfl (t := false) (u := false) (SqL.of ha9) (SqL.of hq9) (by rw [la, lst]) (by omega) (fun x hx => by
        have := da x hx
        show x.natAbs < 2 ^ 200
        omega) wst (fun _ _ => rfl) (fun _ _ => rfl) (fun _ _ => rfl) fun H10 s10 => ?_
      refine ⟨_, rfl, _, rfl, pb, rb, rfl, SqL.of (s10 _ _ hb9), _, _, rfl, rfl, wide_mul (a := 64) (b := 128) (by omega) (by omega) (by decide) (by decide) (by decide), _, _, rfl, rfl, R, _, _, rfl, rfl, s10 _ _ g9, ?_, ?_⟩
      · rw [List.length_map, List.length_take]
        exact Nat.lt_of_le_of_lt (show _ ≤ 1000 by omega) (by decide)
      · refine ⟨some (.ref pa), some (.ref pb), rfl, fun a o e => ?_, ?_⟩
        · rw [upd_ne (ne_of_none e nR)]
          exact s10 _ _ (s9 _ _ e)
        · rw [upd_same, take_snocT en, List.map_append]
          rfl
    · rintro σ H8 ⟨x4, x5, rfl, s8, g8⟩
      rw [show (stL D most (m + 1)).take D.n = stL D most (m + 1) from List.take_of_length_le (by omega)] at g8
      exact ⟨_, rfl, k R H8 s8 nR g8⟩
end
end Wk

namespace Wk
open PySem L2
-- _law_fields_here=0 _law_most=1 _law_limit=2 _law_state=3 _law_many=4 _law_after=5
/-- how many symbols the law's walk finds: none moves, the greatest number, or 300 do not do -/
def spLLate : Sp := fun vs H Q _ => ∃ (L : Fl) (D : GD) (most : Int) (bits : Nat), vs = [.ref L.f, .int most, .int (2 ^ bits - 1)] ∧ FldAt H L D ∧ GOk D ∧ D.n ≤ 15 ∧ 0 ≤ most ∧ most ≤ 1000 ∧ 1 ≤ bits ∧ bits ≤ 100 ∧ D.M ≤ 2 ^ bits ∧ Inv2 D.M D.n (ent D.A) ∧
  ∀ v H', Same H H' → ((v = .non ∧ Stay D most) ∨ (v = .int (-1) ∧ ¬ Stay D most ∧ ¬ Rch D.n (2 ^ bits) (stF D most 300)) ∨ ∃ m : Nat, v = .int (m : Int) ∧ ¬ Stay D most ∧ ¬ Rch D.n (2 ^ bits) (stF D most m) ∧ Rch D.n (2 ^ bits) (stF D most (m + 1))) → Q v H'
def muL (σ : L2.St) : Nat := match σ[4]? with
  | some (some (V.int a)) => (300 - a).toNat
  | _ => 0
def dLi (ns : List Int) : PyData := .list (ns.map PyData.int)
theorem dLi_eqv (a b : List Int) : PyData.eqv (dLi a) (dLi b) = decide (a = b) := by
  unfold dLi
  rw [PyData.eqv]
  exact eqvAll_map _ (fun i j => i == j) (fun i j => by simp [PyData.eqv]) (fun i j => by simp) a b
theorem dLi_shaped (a : List Int) : SeqAt.shaped (dLi a) = true := by
  have h1 : (dLi a).canLay0 = true := by
    unfold dLi
    rw [PyData.canLay0]
    exact canLayAll_map _ (fun i => by simp [PyData.canLay0]) a
  have h2 : (dLi a).depth ≤ 1 := by
    unfold dLi
    rw [PyData.depth]
    have := depthAll_map PyData.int 0 (fun i => by simp [PyData.depth]) a
    omega
  simp only [SeqAt.shaped, h1, Bool.true_and, decide_eq_true_eq]
  omega
theorem eqL_read {K : PySem.W.Frag} {H : Hp} {a b : Addr} {A B : Row} {Q : VK} (ha : H a = some (.lst (A.map V.int))) (hb : H b = some (.lst (B.map V.int))) (q : Q (.bl (decide (A = B))) H) : rEqD K (.ref a) (.ref b) H Q := by
  refine ⟨dLi A, dLi B, .lst (SqL.of ha) (dpAll_ints A), .lst (SqL.of hb) (dpAll_ints B), dLi_shaped _, dLi_shaped _, ?_⟩
  rw [dLi_eqv]
  exact q
theorem rch_mem {D : GD} (ok : GOk D) (most L : Int) (m : Nat) : Rch D.n L (stF D most m) ↔ ∃ x ∈ stL D most m, L ≤ x := by
  have lst := stL_len ok most m
  constructor
  · rintro ⟨j, hj, e⟩
    rw [stF_stL ok most m j hj] at e
    exact ⟨_, List.mem_of_getElem? (of_fn (by omega)), e⟩
  · rintro ⟨x, hx, e⟩
    obtain ⟨j, hj, ej⟩ := List.mem_iff_getElem.mp hx
    refine ⟨j, by omega, ?_⟩
    rw [stF_stL ok most m j (by omega), fn_of (x := x) (by rw [List.getElem?_eq_getElem hj, ej])]
    exact e
theorem stay_all {D : GD} (ok : GOk D) {most : Int} (h : Stay D most) : ∀ m i, i < D.n + 1 → stF D most m i = fn (augZ D) i
  | 0, i, hi => runF_zero hi
  | m + 1, i, hi => by
    have h1 : ∀ i, i < D.n + 1 → stF D most 1 i = fn (augZ D) i := fun i hi => by
      rcases Nat.lt_or_ge i D.n with g | g
      · rw [h i g, augZ_lt g]
      · have e : i = D.n := by omega
        subst e
        rw [stF_n ok, augZ_n]
    rw [← h1 i hi]
    show runF _ _ _ (m + 1) i = runF _ _ _ (0 + 1) i
    rw [runF_succ m hi, runF_succ 0 hi]
    refine apF_congr (fun _ _ => rfl) fun k hk => ?_
    rw [runF_zero hk]
    exact stay_all ok h m k hk
theorem stay_iff {D : GD} (ok : GOk D) (I : Inv2 D.M D.n (ent D.A)) {most : Int} (m0 : 0 ≤ most) (m : Nat) : stL D most (m + 1) = stL D most m ↔ Stay D most := by
  constructor
  · intro e i hi
    have gr := aug_grow ok I m0
    have := gr.stood (Nat.lt_succ_self m) (fun i hi => by
      have h1 := stF_stL ok most m i hi
      have h2 := stF_stL ok most (m + 1) i hi
      rw [e] at h2
      exact h1.trans h2.symm) i hi
    rw [augZ_lt hi] at this
    exact this
  · intro h
    refine row_ext (stL_len ok most _) (stL_len ok most _) fun k hk => ?_
    rw [← stF_stL ok most _ k hk, ← stF_stL ok most _ k hk, stay_all ok h _ k (by omega), stay_all ok h _ k (by omega)]
theorem stL_wd {D : GD} (ok : GOk D) (I : Inv2 D.M D.n (ent D.A)) {most : Int} (m0 : 0 ≤ most) {bits m : Nat} (b2 : bits ≤ 100) (h : ¬ Rch D.n (2 ^ bits) (stF D most m)) : RWd (stL D most m) := fun x hx => by
  obtain ⟨j, hj, ej⟩ := List.mem_iff_getElem.mp hx
  have lst := stL_len ok most m
  have e : stF D most m j = x := by rw [stF_stL ok most m j (by omega), fn_of (x := x) (by rw [List.getElem?_eq_getElem hj, ej])]
  have h0 := (aug_grow ok I m0).nonneg m (i := j) (by omega)
  have h1 : x < 2 ^ bits := Int.not_le.mp fun z => h ⟨j, by omega, by rw [e]; exact z⟩
  have h2 : (2 : Int) ^ bits ≤ 2 ^ 100 := pow2_le b2
  have e3 : (2 : Int) ^ 100 = 1267650600228229401496703205376 := by decide
  have h3 : 0 ≤ x := by
    rw [← e]
    exact h0
  show x.natAbs < 2 ^ 200
  omega
section
variable {P : Program} {w0 : World} {K : PySem.W.Frag} {mg : Str → Option Value} {base : Heap}
theorem ok_llate {f f0 : Addr} {fd fd0 : FuncData} (F : Fun K "_law_late" "_law_late" s_law_late f fd) (T : TxtL mg) (fmax : mg "max" = none)
    (G__law_step : FnOk P w0 K mg base CX0 1 f0 fd0 ["_law_fields_here", "_law_most", "_law_state"] spStep) (g__law_step : mg "_law_step" = some (.ref f0)) (kp__law_step : PySem.W.keepIn K (.ref f0) = true) (b__law_step : Binds K fd0 ["_law_fields_here", "_law_most", "_law_state"] []) :
    FnOk P w0 K mg base CX0 2 f fd ["_law_fields_here", "_law_most", "_law_limit"] spLLate := by
  refine F.ok sc_law_late (fun vs H Q E h => ?_) (fun cdv A outer s H vs Q E hr h => ?_)
  · obtain ⟨L, D, most, bits, rfl, _⟩ := h
    rfl
  · obtain ⟨L, D, most, bits, rfl, hF, ok, hn, m0, m1, b1, b2, hMb, I, k⟩ := h
    have hu := hu_of hr
    refine ⟨_, (pss_cons (ps_par (i := 3) (j := 4) rfl sc_law_late.nd rfl rfl (by decide) rfl rfl (pa_cons (pe_op op_rep (pe_lst (pa_cons (pe_op op_sub (pe_ix ix_list (pv 0) pe_int (fun _ _ => rfl)) pe_int) pa_nil)) (pe_callB call_len_seq rfl T.f_len PySem.boot_len (pa_cons (pe_ix ix_list (pv 0) pe_int (fun _ _ => rfl)) pa_nil))) (pa_cons pe_int pa_nil)) (by rfl))
        (pss_cons (ps_while PassesOwn.never (pt_cmpR op_lt (pv 4) pe_int (nomark _)) (pss_cons (ps_set (i := 5) sc_law_late.nd rfl (Or.inl rfl) (pe_call G__law_step (hr.mono (by decide)) rfl g__law_step kp__law_step b__law_step .nil pass0 (pa_cons (pv 0) (pa_cons (pv 1) (pa_cons (pv 3) pa_nil)))))
        (pss_cons (ps_if (pt_cmpR (op_eqD hr.units) (pv 5) (pv 3) (nomark _)) (pss_one (ps_ret pe_non)) pss_nil)
        (pss_cons (ps_if (pt_cmpR op_gt (pe_callB (cr_max rfl) rfl fmax (by decide +kernel) (pa_cons (pv 5) pa_nil)) (pv 2) (nomark _)) (pss_one (ps_ret (pv 4))) pss_nil)
        (pss_one (ps_par (i := 3) (j := 4) rfl sc_law_late.nd rfl rfl (by decide) rfl rfl (pa_cons (pv 5) (pa_cons (pe_op op_add (pv 4) pe_int) pa_nil)) (by rfl)))))))
        (pss_one (ps_ret (pe_un un_neg pe_int))))), ?_⟩
    have m18 := ok.m18
    have hM2 := ok.m2
    have n1 := ok.n1
    have lA := ok.sA.1
    have lms := hF.mat.len
    have p100 : (2 : Int) ^ bits ≤ 2 ^ 100 := pow2_le b2
    have e100 : (2 : Int) ^ 100 = 1267650600228229401496703205376 := by decide
    refine ⟨_, rfl, L.f, _, ((0 : Nat) : Int), _, rfl, rfl, SqL.of hF.top, atI_nat (j := 0) rfl, _, _, rfl, rfl, by show 1 ≤ sizeLine; decide, fun t1 nt1 => ?_⟩
    have s1 := same_upd (o := .lst [V.int (D.M - 1)]) nt1
    have hF1 := hF.same s1
    refine ⟨_, rfl, L.f, _, ((1 : Nat) : Int), _, rfl, rfl, SqL.of hF1.top, atI_nat (j := 1) rfl, L.aM, _, rfl, .inl (SqL.of hF1.mat.top), ?_⟩
    refine ⟨t1, _, _, rfl, rfl, upd_same, ?_, ?_, ?_, fun q nq => ⟨_, _, rfl, ?_⟩⟩
    · have : (0 : Int) ≤ ((L.ms.map V.ref).length : Int) := Int.natCast_nonneg _
      omega
    · simp [lms, lA]; omega
    · refine Nat.le_trans (m := 1000) ?_ (by decide)
      simp [lms, lA]; omega
    have s2 := same_trans s1 (same_upd (o := .lst (List.replicate (((L.ms.map V.ref).length : Nat) : Int).toNat [V.int (D.M - 1)]).flatten) nq)
    have g2 : (upd (upd H t1 (.lst [V.int (D.M - 1)])) q (.lst (List.replicate (((L.ms.map V.ref).length : Nat) : Int).toNat [V.int (D.M - 1)]).flatten)) q = some (.lst ((stL D most 0).map V.int)) := by
      rw [upd_same]
      simp [stL, lms, lA]
    revert s2 g2
    generalize upd (upd H t1 (.lst [V.int (D.M - 1)])) q (.lst (List.replicate (((L.ms.map V.ref).length : Nat) : Int).toNat [V.int (D.M - 1)]).flatten) = H2
    intro s2 g2
    clear nq nt1 s1 hF1
    have gr := aug_grow ok I m0
    have nr0 : ¬ Rch D.n (2 ^ bits) (stF D most 0) := by
      rintro ⟨i, hi, e⟩
      have : stF D most 0 i = fn (augZ D) i := runF_zero (by omega)
      rw [this, augZ_lt hi] at e
      omega
    refine while_by (fun σ H' => ∃ (q : Addr) (m : Nat) (x5 : Option V), σ = [some (.ref L.f), some (.int most), some (.int (2 ^ bits - 1)), some (.ref q), some (.int (m : Int)), x5] ∧ Same H H' ∧ H' q = some (.lst ((stL D most m).map V.int)) ∧ ¬ Rch D.n (2 ^ bits) (stF D most m) ∧ m ≤ 300 ∧ (1 ≤ m → ¬ Stay D most)) (fun σ _ => muL σ) ⟨q, 0, none, rfl, s2, g2, nr0, by omega, fun z => absurd z (by omega)⟩ ?_ (fun σ H Q Q' hq ⟨v, hv, i, j, e1, e2, b, eb, q⟩ => ⟨v, hv, i, j, e1, e2, b, eb, hq _ _ q⟩)
    rintro σ H3 ⟨q, m, x5, rfl, s3, g3, nr, hm, ns⟩
    refine ⟨_, rfl, _, _, rfl, rfl, _, rfl, ite2 (fun hc => ?_) (fun hc => ?_)⟩
    · have hc : (m : Int) < 300 := of_decide_eq_true hc
      refine ⟨_, rfl, _, rfl, _, rfl, L, D, most, q, m, rfl, hF.same s3, ok, hn, m0, by omega, g3, stL_wd ok I m0 b2 nr, fun q2 H4 s4 nq2 g4 => ?_⟩
      have g34 := s4 _ _ g3
      refine ⟨_, rfl, _, rfl, eqL_read g4 g34 ⟨_, rfl, ite2 (fun hd => ?_) (fun hd => ?_)⟩⟩
      · exact k _ _ (same_trans s3 s4) (.inl ⟨rfl, (stay_iff ok I m0 m).mp (of_decide_eq_true hd)⟩)
      have nst : ¬ Stay D most := fun z => hd (decide_eq_true ((stay_iff ok I m0 m).mpr z))
      refine ⟨_, rfl, q2, _, rfl, SqL.of g4, by rw [stL_len ok]; omega, fun mx hmx hall => ⟨_, rfl, _, _, rfl, rfl, _, rfl, ite2 (fun hd2 => ?_) (fun hd2 => ?_)⟩⟩
      · have hd2 : (2 : Int) ^ bits - 1 < mx := of_decide_eq_true hd2
        exact ⟨_, rfl, k _ _ (same_trans s3 s4) (.inr (.inr ⟨m, rfl, nst, nr, (rch_mem ok most _ _).mpr ⟨mx, hmx, by omega⟩⟩))⟩
      · have hd2 : ¬ (2 : Int) ^ bits - 1 < mx := fun z => hd2 (decide_eq_true z)
        have nr2 : ¬ Rch D.n (2 ^ bits) (stF D most (m + 1)) := fun z => by
          obtain ⟨x, hx, e⟩ := (rch_mem ok most _ _).mp z
          have := hall x hx
          omega
        refine ⟨_, rfl, _, rfl, _, _, rfl, rfl, _, _, rfl, ⟨q2, m + 1, _, by rw [Int.natCast_succ]; rfl, same_trans s3 s4, g4, nr2, by omega, fun _ => nst⟩, ?_⟩
        show (300 - ((m : Int) + 1)).toNat < (300 - (m : Int)).toNat
        omega
    · have hc : ¬ (m : Int) < 300 := fun z => hc (decide_eq_true z)
      obtain rfl : m = 300 := by omega
      exact ⟨_, rfl, k _ _ s3 (.inr (.inl ⟨rfl, ns (by omega), nr⟩))⟩
end
end Wk

namespace Wk
open PySem L2
abbrev s_law_are_known : Stmt := top 75
theorem sc_law_are_known : FnScope ["_law_pen_here", "_law_modulus_here", "_law_most", "_law_bits", "_law_limit"] ["_law_pen_here"] (defScope s_law_are_known) := ⟨rfl, rfl, rfl, by decide +kernel, rfl, by decide +kernel, by decide +kernel⟩

-- _law_pen_here=0 _law_modulus_here=1 _law_most=2 _law_bits=3 _law_limit=4
def spKnown : Sp := fun vs H Q _ => ∃ (p c : Addr) (ns : List Int) (m : Nat), vs = [.ref p] ∧ Pen H p c ns m ∧ m < 80000 ∧ ∀ H', Pen H' p c ns (m + 3) → But p H H' → Q (.bl true) H'
theorem But.tr {p : Addr} {H H' H2 : Hp} (a : But p H H') (b : But p H' H2) : But p H H2 := fun d o n e => b d o n (a d o n e)
theorem But.of {p : Addr} {H H' : Hp} (s : Same H H') : But p H H' := fun d o _ e => s d o e
/-- one right answer: late tells just it -/
theorem late_at {D : GD} (ok : GOk D) (I : Inv2 D.M D.n (ent D.A)) {most : Int} (m0 : 0 ≤ most) (m1 : most ≤ 1000000000000000000) {bits : Nat} (b1 : 1 ≤ bits) (b2 : bits ≤ 128) (hMb : D.M ≤ 2 ^ bits) {m : Nat} {H : Hp} {Q : VK}
    (a0 : ¬ Rch D.n (2 ^ bits) (stF D most m)) (a1 : Rch D.n (2 ^ bits) (stF D most (m + 1))) (k : ∀ H', Same H H' → Q (.int (m : Int)) H') : RightL D most bits H Q := by
  refine ⟨m0, m1, b1, b2, hMb, fun g => ?_, fun _ m' H' s' b0 b1 => ?_⟩
  · obtain ⟨i, hi, hr⟩ := a1
    rw [stay_all ok g _ i (by omega), augZ_lt hi] at hr
    omega
  · rw [(aug_grow ok I m0).uniq b0 b1 a0 a1]
    exact k H' s'
theorem late_none {D : GD} {most : Int} (m0 : 0 ≤ most) (m1 : most ≤ 1000000000000000000) {bits : Nat} (b1 : 1 ≤ bits) (b2 : bits ≤ 128) (hMb : D.M ≤ 2 ^ bits) {H : Hp} {Q : VK}
    (st : Stay D most) (k : ∀ H', Same H H' → Q .non H') : RightL D most bits H Q := ⟨m0, m1, b1, b2, hMb, fun _ => k, fun h => absurd st h⟩
theorem late_call {K : PySem.W.Frag} {C CS CM g : Addr} {D : GD} {H : Hp} {Q : VK} {E : XK} {most : Int} {bits : Nat} (hG : GuardAt K C H g D) (ok : GOk D) (hn : D.n ≤ 15) (I : Inv2 D.M D.n (ent D.A)) (r : RightL D most bits H Q) :
    spLateX K C CS CM [.ref g, .int most, .int (bits : Int)] H Q E := ⟨g, D, _, _, rfl, hG, ok, hn, I, .inl ⟨most, bits, rfl, rfl, r⟩⟩
theorem two_cases {p : Nat → Nat → Prop} (h0 : p 0 0) (h1 : p 0 1) (h2 : p 1 0) (h3 : p 1 1) : ∀ i j, i < 2 → j < 2 → p i j
  | 0, 0, _, _ => h0
  | 0, 1, _, _ => h1
  | 1, 0, _, _ => h2
  | 1, 1, _, _ => h3
  | i + 2, _, h, _ => absurd h (by omega)
  | _, j + 2, _, h => absurd h (by omega)
theorem pair_inv {M f : Int} : Inv2 M 2 (ent (pairG M f).A) := by
  refine ⟨ent [[1, 0], [-1, 1]], two_cases ?_ ?_ ?_ ?_, two_cases ?_ ?_ ?_ ?_⟩
  all_goals exact Eqm.refl _ _
theorem plain_stay {M : Int} (hM : 2 ≤ M) (h18 : M ≤ 1000000000000000000) : Stay (digG M 1) 0 := fun i hi => by
  have : i = 0 := by
    have : i < 1 := hi
    omega
  subst this
  rw [stF_stL (plain_ok hM h18) 0 1 0 (by show 0 < 1; decide), plain_st]
  show M - 1 + 0 * ((1 : Nat) : Int) = M - 1
  omega
theorem plain_late {M most L : Int} (hM : 2 ≤ M) (h18 : M ≤ 1000000000000000000) (m1 : 1 ≤ most) (hL : M ≤ L) : ∃ m : Nat, (L - 1 - (M - 1)) / most = (m : Int) ∧ ¬ Rch (digG M 1).n L (stF (digG M 1) most m) ∧ Rch (digG M 1).n L (stF (digG M 1) most (m + 1)) := by
  have h0 : 0 ≤ (L - 1 - (M - 1)) / most := Int.ediv_nonneg (by omega) (by omega)
  obtain ⟨m, em⟩ : ∃ m : Nat, (L - 1 - (M - 1)) / most = (m : Int) := ⟨((L - 1 - (M - 1)) / most).toNat, by omega⟩
  refine ⟨m, em, ?_, ?_⟩
  · rw [plain_rch hM h18]
    have := Int.mul_ediv_self_le (x := L - 1 - (M - 1)) (k := most) (by omega)
    rw [em] at this
    omega
  · rw [plain_rch hM h18]
    have := Int.lt_mul_ediv_self_add (x := L - 1 - (M - 1)) (k := most) (by omega)
    rw [em] at this
    rw [Int.natCast_succ, Int.mul_add, Int.mul_one]
    omega
theorem first_pair {M most L : Int} (hM : 2 ≤ M) (m0 : 0 ≤ most) (h : M ≤ L) : ∃ m : Nat, pairV M most m < L ∧ L ≤ pairV M most (m + 1) := by
  have key : ∀ n : Nat, L ≤ pairV M most n → ∃ m : Nat, pairV M most m < L ∧ L ≤ pairV M most (m + 1) := fun n => by
    induction n with
    | zero =>
      intro z
      have : pairV M most 0 = M - 1 := rfl
      omega
    | succ n ih =>
      intro z
      by_cases c : L ≤ pairV M most n
      · exact ih c
      · exact ⟨n, by omega, z⟩
  refine key L.toNat ?_
  have := pair_ge hM m0 L.toNat
  omega
theorem pair_same {M most L : Int} (hM : 2 ≤ M) (m0 : 0 ≤ most) {a b : Nat} (a0 : pairV M most a < L) (a1 : L ≤ pairV M most (a + 1)) (b0 : pairV M most b < L) (b1 : L ≤ pairV M most (b + 1)) : a = b := by
  rcases Nat.lt_trichotomy a b with h | h | h
  · have := pair_up (M := M) (most := most) hM m0 (a := a + 1) (b := b) h
    omega
  · exact h
  · have := pair_up (M := M) (most := most) hM m0 (a := b + 1) (b := a) h
    omega
section
variable {P : Program} {w0 : World} {K : PySem.W.Frag} {mg : Str → Option Value} {base : Heap} {C CS CM : Addr}
theorem ok_known {f : Addr} {fd : FuncData} (F : Fun K "_law_are_known" "_law_are_known" s_law_are_known f fd) (T : TxtL mg)
    (d1 : Dn P w0 K mg base CX0 1 "_law_draw" ["_law_pen_here", "_law_many"] spDraw) (d2 : Dn P w0 K mg base CX0 1 "_law_two_to" ["_law_many"] spTwo) (d3 : Dn P w0 K mg base (L2.CX P w0) 3 "late" ["guard", "most", "bits"] (spLateX K C CS CM)) (d4 : Dn P w0 K mg base CX0 8 "plain" ["modulus"] (spPlain K C))
    (d5 : Dn P w0 K mg base CX0 8 "pair" ["modulus", "first"] (spPair K C)) (d6 : Dn P w0 K mg base CX0 1 "_law_linear" ["_law_first", "_law_by", "_law_limit"] spLinear) (d7 : Dn P w0 K mg base CX0 1 "_law_pair_number" ["_law_modulus_here", "_law_most", "_law_limit"] spPairN)
    : FnOk P w0 K mg base CX0 9 f fd ["_law_pen_here"] spKnown := by
  obtain ⟨f1, fd1, G__law_draw, g__law_draw, kp__law_draw, b__law_draw⟩ := d1.ex
  obtain ⟨f2, fd2, G__law_two_to, g__law_two_to, kp__law_two_to, b__law_two_to⟩ := d2.ex
  obtain ⟨f3, fd3, G_late, g_late, kp_late, b_late⟩ := d3.ex
  obtain ⟨f4, fd4, G_plain, g_plain, kp_plain, b_plain⟩ := d4.ex
  obtain ⟨f5, fd5, G_pair, g_pair, kp_pair, b_pair⟩ := d5.ex
  obtain ⟨f6, fd6, G__law_linear, g__law_linear, kp__law_linear, b__law_linear⟩ := d6.ex
  obtain ⟨f7, fd7, G__law_pair_number, g__law_pair_number, kp__law_pair_number, b__law_pair_number⟩ := d7.ex
  refine F.ok sc_law_are_known (fun vs H Q E h => ?_) (fun cdv A outer s H vs Q E hr h => ?_)
  · obtain ⟨p, c, ns, m, rfl, _⟩ := h
    rfl
  · obtain ⟨p, c, ns, m, rfl, P0, hm, k⟩ := h
    refine ⟨_, (pss_cons (ps_par3 (i := 1) (j := 2) (l := 3) rfl sc_law_are_known.nd rfl rfl rfl (by decide) (by decide) (by decide) rfl rfl rfl (pa_cons (pe_op op_add pe_int (pe_call G__law_draw (hr.mono (by decide)) rfl g__law_draw kp__law_draw b__law_draw .nil pass0 (pa_cons (pv 0) (pa_cons pe_int pa_nil)))) (pa_cons (pe_op op_add pe_int (pe_call G__law_draw (hr.mono (by decide)) rfl g__law_draw kp__law_draw b__law_draw .nil pass0 (pa_cons (pv 0) (pa_cons pe_int pa_nil)))) (pa_cons (pe_op op_add pe_int (pe_call G__law_draw (hr.mono (by decide)) rfl g__law_draw kp__law_draw b__law_draw .nil pass0 (pa_cons (pv 0) (pa_cons pe_int pa_nil)))) pa_nil))) (by rfl))
        (pss_cons (ps_set (i := 4) sc_law_are_known.nd rfl (Or.inl rfl) (pe_op op_sub (pe_call G__law_two_to (hr.mono (by decide)) rfl g__law_two_to kp__law_two_to b__law_two_to .nil pass0 (pa_cons (pv 3) pa_nil)) pe_int))
        (pss_cons (ps_if (pt_cmpR op_ne (pe_call G_late (hr.mono (by decide)) rfl g_late kp_late b_late .nil passL (pa_cons (pe_call G_plain (hr.mono (by decide)) rfl g_plain kp_plain b_plain .nil pass0 (pa_cons (pv 1) pa_nil)) (pa_cons (pv 2) (pa_cons (pv 3) pa_nil)))) (pe_call G__law_linear (hr.mono (by decide)) rfl g__law_linear kp__law_linear b__law_linear .nil pass0 (pa_cons (pe_op op_sub (pv 1) pe_int) (pa_cons (pv 2) (pa_cons (pv 4) pa_nil)))) (nomark _)) (pss_one (ps_ret pe_bl)) pss_nil)
        (pss_cons (ps_if (pt_cmpR op_ne (pe_call G_late (hr.mono (by decide)) rfl g_late kp_late b_late .nil passL (pa_cons (pe_call G_pair (hr.mono (by decide)) rfl g_pair kp_pair b_pair .nil pass0 (pa_cons (pv 1) (pa_cons (pe_op op_sub (pv 1) pe_int) pa_nil))) (pa_cons (pv 2) (pa_cons (pv 3) pa_nil)))) (pe_call G__law_pair_number (hr.mono (by decide)) rfl g__law_pair_number kp__law_pair_number b__law_pair_number .nil pass0 (pa_cons (pv 1) (pa_cons (pv 2) (pa_cons (pv 4) pa_nil)))) (nomark _)) (pss_one (ps_ret pe_bl)) pss_nil)
        (pss_one (ps_ret (pe_cmpR op_isN (pe_call G_late (hr.mono (by decide)) rfl g_late kp_late b_late .nil passL (pa_cons (pe_call G_plain (hr.mono (by decide)) rfl g_plain kp_plain b_plain .nil pass0 (pa_cons (pv 1) pa_nil)) (pa_cons pe_int (pa_cons (pv 3) pa_nil)))) pe_non (nomark _)))))))), ?_⟩
    -- the numbers
    refine seq_cut (fun σ H1 => ∃ (M most : Int) (bits : Nat), σ = [some (.ref p), some (.int M), some (.int most), some (.int (bits : Int)), none] ∧ 2 ≤ M ∧ M ≤ 70001 ∧ 1 ≤ most ∧ most ≤ 300 ∧ 17 ≤ bits ∧ bits ≤ 96 ∧ Pen H1 p c ns (m + 3) ∧ But p H H1) (fun D' hD' => ?_) ?_
    · refine ⟨_, rfl, p, c, ns, _, 70000, rfl, P0, by omega, by decide, by decide, fun d H1 d0 d1 P1 b1 => ⟨_, _, rfl, rfl, ?_⟩⟩
      refine ⟨_, rfl, p, c, ns, _, 300, rfl, P1, by omega, by decide, by decide, fun e H2 e0 e1 P2 b2 => ⟨_, _, rfl, rfl, ?_⟩⟩
      refine ⟨_, rfl, p, c, ns, _, 80, rfl, P2, by omega, by decide, by decide, fun g H3 g0 g1 P3 b3 => ⟨_, _, rfl, rfl, ?_⟩⟩
      obtain ⟨g', rfl⟩ : ∃ n : Nat, g = n := ⟨g.toNat, by omega⟩
      refine ⟨_, _, _, rfl, hD' _ _ ⟨2 + d, 1 + e, g' + 17, by dsimp only; rw [show (17 : Int) + (g' : Int) = ((g' + 17 : Nat) : Int) by omega]; rfl, by omega, by omega, by omega, by omega, by omega, by omega, P3, (b1.tr b2).tr b3⟩⟩
    rintro σ H1 ⟨M, most, bits, rfl, hM, hM2, mo1, mo2, b17, b96, P1, B1⟩
    have L17 : (2 : Int) ^ 17 ≤ 2 ^ bits := pow2_le b17
    have e17 : (2 : Int) ^ 17 = 131072 := by decide
    have L96 : (2 : Int) ^ bits ≤ 2 ^ 96 := pow2_le b96
    have e96 : (2 : Int) ^ 96 = 79228162514264337593543950336 := by decide
    have hMb : M ≤ 2 ^ bits := by omega
    -- the limit
    refine seq_cut (fun σ H2 => σ = [some (.ref p), some (.int M), some (.int most), some (.int (bits : Int)), some (.int (2 ^ bits - 1))] ∧ H2 = H1) (fun D' hD' => ?_) ?_
    · exact ⟨_, rfl, bits, rfl, by omega, _, _, rfl, rfl, hD' _ _ ⟨rfl, rfl⟩⟩
    rintro σ H2 ⟨rfl, rfl⟩
    -- plain sums
    obtain ⟨mp, emp, p0, p1⟩ := plain_late hM (by omega) mo1 hMb
    refine ⟨_, rfl, M, rfl, hM, by omega, fun g H3 s3 n3 hG => ?_⟩
    refine ⟨_, rfl, _, rfl, ?_⟩
    dsimp only [tNil]
    refine late_call hG (plain_ok hM (by omega)) (by show 1 ≤ 15; decide) plain_inv (late_at (plain_ok hM (by omega)) plain_inv (by omega) (by omega) (by omega) (by omega) hMb p0 p1 fun H4 s4 => ?_)
    refine ⟨_, rfl, _, _, rfl, rfl, _, rfl, _, rfl, M - 1, most, 2 ^ bits - 1, rfl, by omega, by omega, by omega, by omega, ?_⟩
    rw [emp]
    refine ⟨rfl, _, rfl, ?_⟩
    rw [decide_eq_true rfl]
    refine iteF ?_
    have s34 := same_trans s3 s4
    clear hG
    -- pairs
    have okP := pairG_ok hM (by omega) (f := M - 1) (by omega) (by omega)
    refine ⟨_, rfl, _, rfl, _, _, rfl, rfl, M, M - 1, rfl, hM, by omega, by omega, by omega, fun g H5 s5 n5 hG => ?_⟩
    refine ⟨_, rfl, _, rfl, ?_⟩
    dsimp only [tNil]
    have hL : M ≤ (2 : Int) ^ bits := hMb
    obtain ⟨mq, q0, q1⟩ := first_pair (most := most) hM (by omega) hL
    refine late_call hG okP (by show 2 ≤ 15; decide) pair_inv (late_at okP pair_inv (by omega) (by omega) (by omega) (by omega) hMb (m := mq) ?_ ?_ fun H6 s6 => ?_)
    · rw [pair_rch hM (by omega) (by omega) (by omega) (by omega)]
      omega
    · rw [pair_rch hM (by omega) (by omega) (by omega) (by omega)]
      exact q1
    refine ⟨_, rfl, _, rfl, _, rfl, M, most, 2 ^ bits - 1, rfl, hM, by omega, by omega, by omega, by omega, by omega, fun m2 H7 s7 r0 r1 => ?_⟩
    obtain rfl := pair_same hM (by omega) (L := 2 ^ bits) q0 q1 (b := m2) (by omega) (by omega)
    refine ⟨rfl, _, rfl, ?_⟩
    rw [decide_eq_true rfl]
    refine iteF ?_
    have s37 := same_trans s34 (same_trans s5 (same_trans s6 s7))
    clear hG
    refine ⟨_, rfl, M, rfl, hM, by omega, fun g H8 s8 n8 hG => ?_⟩
    refine ⟨_, rfl, ?_⟩
    dsimp only [tNil]
    refine late_call hG (plain_ok hM (by omega)) (by show 1 ≤ 15; decide) plain_inv (late_none (by omega) (by omega) (by omega) (by omega) hMb (plain_stay hM (by omega)) fun H9 s9 => ?_)
    have s39 := same_trans s37 (same_trans s8 s9)
    exact ⟨rfl, k _ (P1.same s39) (B1.tr (But.of s39))⟩
end
end Wk

/-! several clauses 'except X as n', n the same name in all of them -/
namespace Wk
open PySem PySem.Spec PyProof.Rows L2
abbrev Cls := Value × (Addr → Value → Option Addr → TS)
/-- where the clauses end, slot i is empty again -/
def offI (i : Nat) (D : Ends) : Ends := ⟨fun σ H => D.nx (σ.set i none) H, D.rt, fun σ H => D.bk (σ.set i none) H, fun σ H => D.ct (σ.set i none) H⟩
def wAll (K : PySem.W.Frag) (i : Nat) (Wout : WX) (D : Ends) : List Cls → WX
  | [] => Wout
  | q :: r => fun cls d σ H => ∃ b, PySem.W.exmOne K cls q.1 = some b ∧ (b = true → ∀ a, H a = none → q.2 a cls d (offI i D) (σ.set i (some (.ref a))) H) ∧ (b = false → wAll K i Wout D r cls d σ H)
inductive HdsA (X : Cx) (n : Str) : List ExceptHandler → List Cls → Prop
  | nil : HdsA X n [] []
  | cons {x : Str} {c : Value} {ts : Addr → Value → Option Addr → TS} {b0 : Stmt} {su : List Stmt} {p1 p2 : Pos} {hs : List ExceptHandler} {l : List Cls} (hc : Names X x c)
      (hq : ∀ (a : Addr) (oe : Obj) (cls : Value) (d : Option Addr) (pn : List (Addr × Obj)), Zc cls d oe → (∃ vs, oe.data = .fields vs) → PSs (X.suite a ((a, oe) :: pn)) (b0 :: su) (ts a cls d)) (r : HdsA X n hs l) :
      HdsA X n (.ExceptHandler (some (.Name x p1)) (some n) (b0 :: su) p2 :: hs) ((c, ts) :: l)
section
variable {X : Cx} {n : Str} {i : Nat} {bd : List Stmt} {hh : ExceptHandler} {ht : List ExceptHandler} {cl : List Cls} {pos : Pos} {tb : WX → TS} {Wout : WX}
theorem ps_try_all (e1 : X.stack = X.env :: X.outer) (e2 : X.env.frame = some X.env.locals) (e3 : X.N.Nodup) (e4 : X.N[i]? = some n) (e5 : X.env.kindOf n = some .local) (tk : Takes X Wout)
    (hb : ∀ (W : WX) (pn : List (Addr × Obj)) (xe : Value → Shared → Prop), Takes (X.tr pn xe) W → PassesOwn (model X.prog X.w) X.A X.env xe → PSs (X.tr pn xe) bd (tb W))
    (hk : HdsA X n (hh :: ht) cl) : PS X (.Try bd (hh :: ht) [] [] pos) (fun D σ H => tb (wAll X.K i Wout D cl) D σ H) := by
  refine ⟨fun pins s σ H D I want => ?_⟩
  have okI := I.ok
  have frA : X.A.frames = some (X.env :: X.outer) := okI.frames.trans (congrArg some e1)
  have locN : Loc X.env.scope n := .inl e5
  refine wpAny_Try_except ?_
  have body := hb (wAll X.K i Wout D cl) (X.pn ++ pins) (fun ex t1 => wpAny (model X.prog X.w) X.A (noteFrame ex X.env) (fun _ t2 => wpAny (model X.prog X.w) X.A (setFlight ex none) (fun _ t3 => wpAny (model X.prog X.w) X.A (handleBy ex X.env (hh :: ht)) (SP X pins D) X.xe t3) X.xe t2) X.xe t1) ?caught PassesOwn.looking
  · refine wpAny_mono (body.run [] s σ H D (I.toTry _) want) (fun fl s1 done => ?_) (fun _ _ z => z)
    rcases fl with _ | _ | _ | u
    · obtain ⟨σa, Ha, Ja, qa⟩ := done
      exact wpAny_execs_nil ⟨σa, Ha, Ja.ofTry okI, qa⟩
    all_goals first
      | (obtain ⟨σa, Ha, Ja, qa⟩ := done; exact ⟨σa, Ha, Ja.ofTry okI, qa⟩)
      | (obtain ⟨va, σa, Ha, Ja, ra, qa⟩ := done; exact ⟨va, σa, Ha, Ja.ofTry okI, ra, qa⟩)
  case caught =>
    intro u s' xx
    obtain ⟨a, B, sI, pinz, σz, Hz, cls, d, rfl, Jz, nb, up, sky, na, os, ag, wish⟩ := xx
    have J0 : Inv X pins σz Hz sI := Jz.ofTry okI
    have sky0 : Sky B (X.env :: X.outer) a (Zc cls d) X.env.locals s'.heap := e1 ▸ sky
    show wpAny (model X.prog X.w) X.A (noteFrame (.ref a) X.env) _ _ _
    refine Sky.land Zc.steady frA e2 sky0 fun hC flC upC => ?_
    have JC : Inv X pins σz Hz { s' with heap := hC } := J0.landed nb flC.1 (up.trans upC) os ag
    obtain ⟨oC, vC, gC, zC, dC⟩ := flC.there
    have awayFr : a ∉ frs (X.env :: X.outer) := fun hm => by
      obtain ⟨_, o2, g2, bad⟩ := flC.2.2.1.mem hm
      rw [gC] at g2
      cases g2
      exact bad _ dC
    have awayL : a ≠ X.env.locals := fun z => awayFr (List.mem_filterMap.mpr ⟨X.env, .head _, by rw [e2, z]⟩)
    have awayF : a ∉ X.fs := fun hm => by
      obtain ⟨ev, hv, qv⟩ := List.mem_filterMap.mp hm
      exact awayFr (List.mem_filterMap.mpr ⟨ev, .tail _ hv, qv⟩)
    have SC := JC.suite gC dC na awayL awayF
    have walk : ∀ {hs2 : List ExceptHandler} {l2 : List Cls}, HdsA X n hs2 l2 → wAll X.K i Wout D l2 cls d σz Hz → wpAny (model X.prog X.w) X.A (handleBy (.ref a) X.env hs2) (SP X pins D) X.xe { s' with heap := hC } := by
      intro hs2 l2 k2
      induction k2 with
      | nil =>
        intro wish
        refine wpAny_handleBy_nil ?_
        obtain ⟨_, _, _, oX, vX, tX, oT, rest, gX, zX, dX, hX, _⟩ := id flC
        unfold PySem.passOn
        refine wpAny_bind (wpAny_field gX dX hX ?_)
        rw [if_neg (show ¬ ((Value.ref tX == Value.none) = true) by simp)]
        have onward : wpAny (model X.prog X.w) X.A (setFlight (.ref a) X.env.frame) (fun _ t4 => wpAny (model X.prog X.w) X.A (throw (.ref a) : Sem Flow) (SP X pins D) X.xe t4) X.xe { s' with heap := hC } := by
          rw [e2]
          refine HandSPX.setFlight_upZ flC fun hD hhD upD => wpAny_throw (tk _ _ ?_)
          exact ⟨a, B, sI, pins, σz, Hz, cls, d, rfl, J0, nb, (up.trans upC).trans upD, .inr (.inr (e1 ▸ hhD)), na, os, ag, wish⟩
        first
          | exact wpAny_bind (wpAny_pure (wpAny_bind onward))
          | exact wpAny_bind onward
      | @cons x c ts b0 su p1 p2 hs3 l3 hc hq r ih =>
        intro wish
        obtain ⟨b, hbX, yes, no⟩ := wish
        refine wpAny_handleBy_cons (codeAny_handlers_test ?_) (by intro q; cases q)
        have looks : PySem.W.Looks (model X.prog X.w) hC (typeOf (.ref a)) cls := fun _ _ _ _ k q => wpAny_typeOf_ref (k _ _ gC) (by rw [zC.1]; exact q)
        have mm := PySem.W.exm_one (M := model X.prog X.w) JC.kIn looks hbX
        have named : ∀ {Q E : Value → Shared → Prop}, Q c { s' with heap := hC } → wpAny (model X.prog X.w) (X.A.mark (some (.ref a))) (eval (.Name x p1) X.env) Q E { s' with heap := hC } := fun {Q E} q => by
          rcases hc with ⟨g1, g2, g3 | ⟨g3, g4, g5⟩⟩
          · exact ld_glob (X := X.suite a ((a, oC) :: (X.pn ++ pins))) SC g1 g3 q g2
          · exact ld_blt (X := X.suite a ((a, oC) :: (X.pn ++ pins))) SC g1 g3 g4 q g5 g2
        refine named (mm.here ?_)
        cases b with
        | false =>
          show wpAny _ X.A (handleBy (.ref a) X.env hs3) _ _ _
          exact ih (no rfl)
        | true =>
          refine codeAny_handlers_suite_as ?_
          refine HandSPX.lands_againZ flC fun hD flD upD => ?_
          have JD : Inv X pins σz Hz { s' with heap := hD } := J0.landed nb flD.1 ((up.trans upC).trans upD) os ag
          obtain ⟨oD, vD, gD, zD, dD⟩ := flD.there
          refine store_ok (X := X.suite a ((a, oD) :: (X.pn ++ pins))) (v := .ref a) (JD.suite gD dD na awayL awayF) e3 e4 locN rfl (fun s5 S5 => ?_) (.inr e5)
          refine wpAny_mono ((hq a oD cls d (X.pn ++ pins) zD ⟨_, dD⟩).run [] s5 _ Hz _ S5 (yes rfl a na)) (fun fl s6 done => ?_) (fun _ _ z => False.elim z)
          have fin : ∀ {σ6 : L2.St} {H6 : Hp} {Q : Shared → Prop}, Inv (X.suite a ((a, oD) :: (X.pn ++ pins))) [] σ6 H6 s6 → (∀ s7, Inv X pins (σ6.set i none) H6 s7 → Q s7) →
              wpAny (model X.prog X.w) X.A (do bindName X.env n .none; unbindBehindTheSuite X.env n p2) (fun _ s7 => Q s7) X.xe s6 := fun S6 k => gone_ok (S6.unsuite okI) e3 e4 e5 k
          rcases fl with _ | _ | _ | u
          all_goals first
            | (obtain ⟨σa, Ha, Ja, qa⟩ := done; exact fin Ja fun s7 J7 => ⟨_, _, J7, qa⟩)
            | (obtain ⟨va, σa, Ha, Ja, ra, qa⟩ := done; exact fin Ja fun s7 J7 => ⟨_, _, _, J7, ra, qa⟩)
    exact walk hk wish
end
end Wk

/-! repr of data -/
namespace Wk
open PySem PySem.Spec PyProof.Rows L2
mutual
/-- data that one can look at: of none, bools, ints, texts, lists, tuples, the empty dict -/
inductive Dq (H : Hp) : V → PyData → Prop
  | non : Dq H .non .none
  | bl (b : Bool) : Dq H (.bl b) (.bool b)
  | int (i : Int) : Dq H (.int i) (.int i)
  | str (x : Str) : Dq H (.str x) (.str x)
  | lst {a : Addr} {xs : List V} {ds : List PyData} : H a = some (.lst xs) → DqAll H xs ds → Dq H (.ref a) (.list ds)
  | tup {a : Addr} {xs : List V} {ds : List PyData} : H a = some (.tup xs) → DqAll H xs ds → Dq H (.ref a) (.tuple ds)
  | dic {a : Addr} : H a = some (.dK []) → Dq H (.ref a) (.dict [])
inductive DqAll (H : Hp) : List V → List PyData → Prop
  | nil : DqAll H [] []
  | cons {v : V} {vs : List V} {d : PyData} {ds : List PyData} : Dq H v d → DqAll H vs ds → DqAll H (v :: vs) (d :: ds)
end
mutual
theorem Dq.same {H H' : Hp} (e : ∀ b o, H b = some o → H' b = some o) : ∀ {v : V} {d : PyData}, Dq H v d → Dq H' v d
  | _, _, .non => .non
  | _, _, .bl b => .bl b
  | _, _, .int i => .int i
  | _, _, .str x => .str x
  | _, _, .lst h a => .lst (e _ _ h) (DqAll.same e a)
  | _, _, .tup h a => .tup (e _ _ h) (DqAll.same e a)
  | _, _, .dic h => .dic (e _ _ h)
theorem DqAll.same {H H' : Hp} (e : ∀ b o, H b = some o → H' b = some o) : ∀ {v : List V} {d : List PyData}, DqAll H v d → DqAll H' v d
  | _, _, .nil => .nil
  | _, _, .cons a b => .cons (Dq.same e a) (DqAll.same e b)
end
section
variable {X : Cx} {pins : List (Addr × Obj)} {σ : L2.St} {H : Hp} {s : Shared}
mutual
theorem Dq.reads (I : Inv X pins σ H s) (hs : ∃ o es m, X.base.get? sysModules = some o ∧ o.data = .dict es m) : ∀ (d : PyData) (v : V) (u : Value), Dq H v d → RelV v u → ∃ as, Reads s.heap u d as ∧ sysModules ∉ as
  | .none, _, _, h, r => by
    cases h
    cases r
    exact ⟨_, .none, List.not_mem_nil⟩
  | .bool b, _, _, h, r => by
    cases h
    cases r
    exact ⟨_, .bool b, List.not_mem_nil⟩
  | .int i, _, _, h, r => by
    cases h
    obtain ⟨t, rfl⟩ := r
    exact ⟨_, .int i t, List.not_mem_nil⟩
  | .str x, _, _, h, r => by
    cases h
    obtain ⟨t, rfl⟩ := r
    exact ⟨_, .str x t, List.not_mem_nil⟩
  | .list ds, _, _, h, r => by
    cases h with
    | lst hh ha =>
      cases r
      obtain ⟨its, rv, ⟨o, n, ho, hc, _, hd⟩, _⟩ := I.list (SqL.of hh)
      obtain ⟨as, hr, nm⟩ := Dq.readsAll I hs ds _ its ha rv
      refine ⟨_, .list ho hc hd hr, fun z => ?_⟩
      rcases List.mem_cons.mp z with z | z
      · obtain ⟨o2, es, m, e2, d2⟩ := hs
        have e3 := I.bk _ _ e2
        rw [z, ho] at e3
        cases e3
        rw [hd] at d2
        cases d2
      · exact nm z
  | .tuple ds, _, _, h, r => by
    cases h with
    | tup hh ha =>
      cases r
      obtain ⟨its, rv, ⟨o, ho, hc, n, hd⟩, _⟩ := I.tuple (SqT.of hh)
      obtain ⟨as, hr, nm⟩ := Dq.readsAll I hs ds _ its ha rv
      exact ⟨_, .tuple ho hc hd hr, nm⟩
  | .dict kvs, _, _, h, r => by
    cases h with
    | dic hh =>
      cases r
      have ob := I.hok _ _ hh
      obtain ⟨_, ns, vs, rv, o, es, ep, ho, ex, hd, _, hp, _⟩ := ob
      unfold KV at rv
      cases rv
      have e0 : es.toList = [] := by
        cases q : es.toList with
        | nil => rfl
        | cons z r => rw [q] at hp; cases hp
      refine ⟨_, .dict ho ex.1 hd (by rw [e0]; exact .nil) (by rw [e0]; exact .nil), fun z => ?_⟩
      simp at z
      rw [z] at ns
      simp at ns
theorem Dq.readsAll (I : Inv X pins σ H s) (hs : ∃ o es m, X.base.get? sysModules = some o ∧ o.data = .dict es m) : ∀ (ds : List PyData) (vs : List V) (us : List Value), DqAll H vs ds → Vals vs us → ∃ as, ReadsAll s.heap us ds as ∧ sysModules ∉ as
  | [], _, _, h, r => by
    cases h
    cases r
    exact ⟨_, .nil, List.not_mem_nil⟩
  | d :: ds, _, _, h, r => by
    cases h with
    | cons h1 h2 =>
      cases r with
      | cons r1 r2 =>
        obtain ⟨as, q1, n1⟩ := Dq.reads I hs d _ _ h1 r1
        obtain ⟨bs, q2, n2⟩ := Dq.readsAll I hs ds _ _ h2 r2
        exact ⟨_, .cons q1 q2, fun z => (List.mem_append.mp z).elim n1 n2⟩
end
/-- repr(x), x data -/
theorem call_reprD (hg : X.A.guards = some []) (hu : X.A.units + 64 < cLine) (hs : ∃ o es m, X.base.get? sysModules = some o ∧ o.data = .dict es m) : CallR X (.builtin "repr") (fun xs H Q => ∃ x d, xs = [x] ∧ Dq H x d ∧ d.showable = true ∧ d.depth ≤ 60 ∧ d.shown.length ≤ sizeLine ∧ Q (.str d.shown) H) := by
  intro pins s σ H xs us Q I r h
  obtain ⟨x, d, rfl, hd, sh, dp, sz, q⟩ := h
  obtain ⟨u, rfl, ru⟩ := vals1 r
  obtain ⟨as, rd, nm⟩ := Dq.reads I hs d x u hd ru
  cases hd with
  | non =>
    cases ru
    exact PySem.P.repr_of_none ⟨.str _, H, I.tok _, ⟨_, rfl⟩, by simpa [PyData.shown] using q⟩
  | bl b =>
    cases ru
    exact PySem.P.repr_of_bool ⟨.str _, H, I.tok _, ⟨_, rfl⟩, by simpa [PyData.shown] using q⟩
  | int i =>
    obtain ⟨t, rfl⟩ := ru
    exact PySem.P.repr_of_int (by simpa [PyData.showable] using sh) ⟨.str _, H, I.tok _, ⟨_, rfl⟩, by simpa [PyData.shown] using q⟩
  | str y =>
    obtain ⟨t, rfl⟩ := ru
    exact PySem.P.repr_of_str ⟨.str _, H, I.tok _, ⟨_, rfl⟩, by simpa [PyData.shown] using q⟩ (by simpa [PyData.shown] using sz)
  | lst _ _ | tup _ _ | dic _ =>
    cases ru
    exact repr_of_reads' (h₀ := s.heap) rd sh (fun _ => nm) hg (by omega) (fun _ _ e => e) (fun h' u tk k => ⟨.str _, H, I.kept (t' := tk) k, ⟨u, rfl⟩, q⟩) sz
end
end Wk

namespace Wk
open PySem L2
/-! ### defs that want to know that no repr is under way -/
structure FnG (P : Program) (w : World) (K : PySem.W.Frag) (mg : Str → Option Value) (base : Heap) (k : Nat) (f : Addr) (fd : FuncData) (ps : List Str) (sp : Sp) : Prop where
  len : ∀ vs H Q E, sp vs H Q E → vs.length = ps.length
  run : ∀ (A : Around) (outer : List Env) (s : Shared) (H : Hp) (us : List Value) (vs : List V) (Q : VK), Room k A → A.guards = some [] → Env0 P w K mg base A outer s H → BindsTo s fd ⟨us, []⟩ (ps.zip us) → Vals vs us → sp vs H Q E0 → codeAny (model P w) A (.call (.ref f) ⟨us, []⟩) (CR CX0 outer P w H s Q E0) s
section
variable {P : Program} {w : World} {K : PySem.W.Frag} {mg : Str → Option Value} {base : Heap}
theorem fun_okG {x qual : Str} {st : Stmt} {f : Addr} {fd : FuncData} {N ps : List Str} {k : Nat} {sp : Sp} (F : Fun K x qual st f fd) (S : FnScope N ps (defScope st)) (len : ∀ vs H Q E, sp vs H Q E → vs.length = ps.length)
    (hbody : ∀ (cdv : Value) (A : Around) (outer : List Env) (s : Shared) (H : Hp) (vs : List V) (Q : VK), Room k (A.deeper (PyProof.Rows.envOfC qual (defScope st) s.heap.objs.size f cdv)) → A.guards = some [] → sp vs H Q E0 →
      ∃ t, PSs (cxOf CX0 P w K mg base N qual (defScope st) f cdv A outer s H E0).nox (defBody st) t ∧ t { nx := fun _ H' => Q .non H', rt := Q } (start N vs) H) : FnG P w K mg base (k + 1) f fd ps sp := by
  obtain ⟨oc, od, kV, doc, pm, an, cdv, ct, osl, rfl, lk, hcd⟩ := F.ex
  refine ⟨len, fun A outer s H us vs Q hr hg e0 hb r h => LamX.run_ofS lk hcd S hr e0 hb r (len _ _ _ _ h) fun hr2 => ?_⟩
  obtain ⟨t, h1, h2⟩ := hbody cdv A outer s H vs Q hr2 hg h
  exact ⟨t, h1.nox, h2⟩
end
section
variable {X : Cx} {k : Nat} {f : Addr} {fd : FuncData} {ps : List Str} {sp : Sp} {x : Str} {e : Expr} {es : List Expr} {t : TA} {p pos : Pos}
theorem pe_callG (F : FnG X.prog X.w X.K X.mg X.base k f fd ps sp) (hr : Room k X.A) (hG : X.A.guards = some []) (hg : Gl X x) (hm : X.mg x = some (.ref f)) (hk : PySem.W.keepIn X.K (.ref f) = true) (hb : Binds X.K fd ps []) (ha : PA X (e :: es) t)
    (hdb : (x == ("__debug__" : Str)) = false := by decide) (he : starEach (e :: es) X.env = (false, eval e X.env) :: starEach es X.env := by rfl) (hpl : (backTo pos (starEach es X.env)).any (·.1) = false := by rfl) :
    PE X (.Call (.Name x p) (e :: es) [] pos) (fun σ H Q => t σ H fun vs H1 => sp vs H1 Q E0) := by
  refine ⟨fun pins s σ H Q I h => wpAny_Call_Name_kw (ld_glob I hg hm (PySem.W.callWith_K (h₀ := X.base) I.ok.mod.kin hk (thn (ha.run pos pins s σ H _ I h) fun us s1 ⟨vs, H1, I1, r, q⟩ => ⟨I1.kIn, ?_⟩) he hpl) hdb)⟩
  have hl : us.length = ps.length := r.length.symm.trans (F.len _ _ _ _ q)
  have b := hb s1 us I1.kIn (by rw [List.append_nil]; exact hl)
  rw [List.append_nil] at b
  refine wpAny_call (codeAny_mono (F.run X.A X.stack s1 H1 us vs Q hr hG I1.env0 b r q) fun r s' z => ?_)
  rcases r with er | (_ | _ | _ | u)
  · exact z.elim
  · exact False.elim z
  · exact False.elim z
  · exact False.elim z
  · exact I1.after z
end
/-- isinstance(e, c), e the caught error, with its dict -/
def rIsD (K : PySem.W.Frag) (a : Addr) (cls : Value) (d : Option Addr) : List V → Hp → VK → Prop := fun xs H Q => ∃ (D : Addr) (c : V) (cv : Value) (b : Bool), xs = [.ref a, c] ∧ cls = .ref D ∧ ExcC K D ∧ (∀ x, d = some x → ∃ fs, H x = some (.xd fs)) ∧ (∀ u, RelV c u → u = cv) ∧ PySem.W.kitOne K (.ref D) cv = some b ∧ Q (.bl b) H
theorem call_isD {X : Cx} {a : Addr} {oe : Obj} {cls : Value} {d : Option Addr} {pn : List (Addr × Obj)} (hz : Zc cls d oe) (hf : ∃ vs, oe.data = .fields vs) : CallR (X.suite a ((a, oe) :: pn)) (.builtin "isinstance") (rIsD X.K a cls d) := by
  intro pins s σ H xs us Q I r h
  obtain ⟨D, c, cv, b, rfl, rfl, T, hd, hcv, e, q⟩ := h
  cases r with
  | cons rx rr =>
    cases rr with
    | cons rt rr =>
      cases rr
      cases rx
      have ec := hcv _ rt
      subst ec
      obtain ⟨hget, _⟩ := I.pin (a, oe) (List.mem_append.mpr (.inl List.mem_cons_self))
      obtain ⟨vs, hv⟩ := hf
      have J : ∃ od, PySem.W.InstAt s.heap a oe D od := by
        obtain ⟨oc, od, oda, osl⟩ := oe
        obtain ⟨h1, h2⟩ := hz
        dsimp only at h1 h2 hv
        subst h1 h2 hv
        cases od with
        | none => exact ⟨none, hget, rfl, rfl, trivial⟩
        | some dx =>
          obtain ⟨fs, ef⟩ := hd dx rfl
          have ob : ObjOk X.prog X.w H s.heap dx (.xd fs) := I.hok _ _ ef
          obtain ⟨mA, hns, _⟩ := ob
          obtain ⟨od, hod, _⟩ := lookIn_ns hns
          exact ⟨some od, hget, rfl, rfl, hod⟩
      obtain ⟨od, J⟩ := J
      have hc : (PySem.W.clsIn X.K D).isSome = true := by
        have z := T.hd
        unfold PySem.W.hasDictIn at z
        cases q : PySem.W.clsIn X.K D with
        | none => rw [q] at z; cases z
        | some _ => rfl
      exact PySem.W.kia_one (PySem.W.kitx_exc hc T.hg T.hk T.hs T.ha T.hn T.ht T.hm) I.kIn J e (fun z => nomatch z) fun tk => ⟨.bl b, H, I.kept (t' := tk) fun _ _ z => z, rfl, q⟩
/-! ### a def with lambdas: its code object -/
structure FunL (K : PySem.W.Frag) (x : Str) (st : Stmt) (f : Addr) (fd : FuncData) (c : Addr) : Prop where
  ex : ∃ (oc : Value) (od : Option Addr) (kV doc pm : Value) (an : Option Addr) (ct : Value) (osl : Array (Option Value)),
    fd = PySem.W.fnOf x x (defArgs st) (defBody st) (defScope st) .none kV doc pm an (.ref c) ct ∧ K.lookup f = some ⟨oc, od, .func fd, osl⟩ ∧ PySem.W.codeIn K (.ref c) x = true
theorem funL_of {K : PySem.W.Frag} {x : Str} {st : Stmt} {fd : FuncData} (F : Fun K x x st (He.fAd K (x, none)) fd) : FunL K x st (He.fAd K (x, none)) fd (He.codeOf K (x, none)) := by
  obtain ⟨oc, od, kV, doc, pm, an, cdv, ct, osl, rfl, lk, hcd⟩ := F.ex
  obtain ⟨c, rfl⟩ := He.codeIn_ref hcd
  have e : He.codeOf K (x, none) = c := He.codeOf_eq lk rfl
  rw [e]
  exact ⟨oc, od, kV, doc, pm, an, ct, osl, rfl, lk, hcd⟩
section
variable {P : Program} {w : World} {K : PySem.W.Frag} {mg : Str → Option Value} {base : Heap}
theorem fun_okL {x : Str} {st : Stmt} {f c : Addr} {fd : FuncData} {N ps : List Str} {k : Nat} {sp : Sp} (F : FunL K x st f fd c) (S : FnScope N ps (defScope st)) (len : ∀ vs H Q E, sp vs H Q E → vs.length = ps.length)
    (hbody : ∀ (A : Around) (outer : List Env) (s : Shared) (H : Hp) (vs : List V) (Q : VK), Room k (A.deeper (PyProof.Rows.envOfC x (defScope st) s.heap.objs.size f (.ref c))) → A.guards = some [] → sp vs H Q E0 →
      ∃ t, PSs (cxOf CX0 P w K mg base N x (defScope st) f (.ref c) A outer s H E0).nox (defBody st) t ∧ t { nx := fun _ H' => Q .non H', rt := Q } (start N vs) H) : FnG P w K mg base (k + 1) f fd ps sp := by
  obtain ⟨oc, od, kV, doc, pm, an, ct, osl, rfl, lk, hcd⟩ := F.ex
  refine ⟨len, fun A outer s H us vs Q hr hg e0 hb r h => LamX.run_ofS lk hcd S hr e0 hb r (len _ _ _ _ h) fun hr2 => ?_⟩
  obtain ⟨t, h1, h2⟩ := hbody A outer s H vs Q hr2 hg h
  exact ⟨t, h1.nox, h2⟩
end
/-- a def as it stands: what a call of it with a lambda wants -/
structure LamAt (K : PySem.W.Frag) (mg : Str → Option Value) (x : Str) (st : Stmt) (ps : List Str) : Prop where
  ex : ∃ (g : Addr) (oc : Value) (od : Option Addr) (kV doc pm : Value) (an : Option Addr) (cdv ct : Value) (osl : Array (Option Value)), mg x = some (.ref g) ∧ PySem.W.keepIn K (.ref g) = true ∧
    K.lookup g = some ⟨oc, od, .func (PySem.W.fnOf x x (defArgs st) (defBody st) (defScope st) .none kV doc pm an cdv ct), osl⟩ ∧ PySem.W.codeIn K cdv x = true ∧
    Binds K (PySem.W.fnOf x x (defArgs st) (defBody st) (defScope st) .none kV doc pm an cdv ct) ps []
theorem lamAt_of {K : PySem.W.Frag} {mg : Str → Option Value} {x : Str} {st : Stmt} {ps : List Str} {g : Addr} {fd : FuncData} (F : Fun K x x st g fd) (hm : mg x = some (.ref g)) (kp : PySem.W.keepIn K (.ref g) = true) (b : Binds K fd ps []) : LamAt K mg x st ps := by
  obtain ⟨oc, od, kV, doc, pm, an, cdv, ct, osl, rfl, lk, hcd⟩ := F.ex
  exact ⟨g, oc, od, kV, doc, pm, an, cdv, ct, osl, hm, kp, lk, hcd, b⟩
def lamQ (x : Str) : Str := x ++ ".<locals>." ++ "<lambda>"
theorem Tabs.same {T : List (Addr × Str)} {H H' : Hp} (t : LamX.Tabs T H) (e : Same H H') : LamX.Tabs T H' := t.ext e
/-- all but the tables of code is kept -/
theorem ext_same {H H' : Hp} (s : Same H H') : LamX.ExtN H H' := fun b o e _ => s b o e
theorem NoI.ext {K : PySem.W.Frag} {H H' : Hp} {v : V} (h : NoI K H v) (e : ∀ b o, H b = some o → (∀ ps, o ≠ .tbl ps) → H' b = some o) (hv : v = .non ∨ (∃ b, v = .bl b) ∨ (∃ x, v = .str x) ∨ ∃ a, v = .ref a ∧ ((∃ xs, H a = some (.lst xs)) ∨ (∃ xs, H a = some (.tup xs)) ∨ ∃ xs, H a = some (.dK xs))) : NoI K H' v := by
  rcases hv with rfl | ⟨b, rfl⟩ | ⟨x, rfl⟩ | ⟨a, rfl, ⟨xs, h⟩ | ⟨xs, h⟩ | ⟨xs, h⟩⟩
  · exact .non
  · exact .bl b
  · exact .str x
  · exact .lst (e _ _ h fun _ z => by cases z)
  · exact .tup (e _ _ h fun _ z => by cases z)
  · exact .dic (e _ _ h fun _ z => by cases z)
end Wk

namespace Wk
open PySem PySem.Spec PyProof.Rows L2
abbrev s_law_met : Stmt := top 76
theorem sc_law_met : FnScope ["_law_call", "e"] ["_law_call"] (defScope s_law_met) := ⟨rfl, rfl, rfl, by decide +kernel, rfl, by decide +kernel, by decide +kernel⟩

-- _law_call=0 e=1
structure M_BadSize (K : PySem.W.Frag) (mg : Str → Option Value) (C CS : Addr) : Prop where
  g : mg "BadSize" = some (.ref C)
  ec : ExcC K C
  xf : XfC K C
  kS : PySem.W.kitOne K (.ref C) (.ref CS) = some true
  n_size : PySem.W.findIn K (.ref C) "size" = some none
structure M_BadModulus (K : PySem.W.Frag) (mg : Str → Option Value) (C CS : Addr) : Prop where
  g : mg "BadModulus" = some (.ref C)
  ec : ExcC K C
  xf : XfC K C
  kS : PySem.W.kitOne K (.ref C) (.ref CS) = some true
  n_number : PySem.W.findIn K (.ref C) "number" = some none
structure TxtMet (K : PySem.W.Frag) (mg : Str → Option Value) (C_BadSize C_BadModulus CS : Addr) : Prop where
  gS : mg "SumsError" = some (.ref CS)
  f_isinstance : mg "isinstance" = none
  BadSize : M_BadSize K mg C_BadSize CS
  BadModulus : M_BadModulus K mg C_BadModulus CS
  x_0_0 : PySem.W.exmOne K (.ref C_BadSize) (.ref C_BadSize) = some true
  x_1_0 : PySem.W.exmOne K (.ref C_BadModulus) (.ref C_BadSize) = some false
  x_1_1 : PySem.W.exmOne K (.ref C_BadModulus) (.ref C_BadModulus) = some true
def R_BadSize (C : Addr) (Q : VK) (cls : Value) (d : Option Addr) (H : Hp) : Prop := ∃ (dx : Addr) (v_size : V), cls = .ref C ∧ d = some dx ∧ H dx = some (.xd [("size", v_size)]) ∧ ∀ q, H q = none → Q (.ref q) (upd H q (.tup [.str "size", v_size, .bl true]))
def R_BadModulus (C : Addr) (Q : VK) (cls : Value) (d : Option Addr) (H : Hp) : Prop := ∃ (dx : Addr) (v_number : V), cls = .ref C ∧ d = some dx ∧ H dx = some (.xd [("number", v_number)]) ∧ ∀ q, H q = none → Q (.ref q) (upd H q (.tup [.str "modulus", v_number]))
def TTmet (C_BadSize C_BadModulus : Addr) : (XK → Hp → VK → Prop) → Hp → VK → Prop := fun tl H Q => tl (fun cls d H' => R_BadSize C_BadSize Q cls d H' ∨ R_BadModulus C_BadModulus Q cls d H') H (fun _ H' => Q .non H')
theorem takes_len {X : Cx} {W : WX} (t : Takes X W) : Takes X (fun c d σ H => σ.length = X.N.length → W c d σ H) := fun u s' ⟨a, B, sI, pins, σ, H, cls, d, e, I, nb, up, sky, na, os, ag, w⟩ =>
  t u s' ⟨a, B, sI, pins, σ, H, cls, d, e, I, nb, up, sky, na, os, ag, w I.len⟩
theorem met_gives {X : Cx} {g C_BadSize C_BadModulus CS : Addr} {cdg : Value} {q : Str} (T : TxtMet X.K X.mg C_BadSize C_BadModulus CS) : LamX.GivesTo X ["_law_call", "e"] "_law_met" (defScope s_law_met) g cdg (defBody s_law_met) "_law_call" q (TTmet C_BadSize C_BadModulus) := by
  intro f c' s H Q tl act hc h
  refine ⟨_, pss_cons (ps_try_all (i := 1) (n := "e") (cl := [(.ref C_BadSize, fun a cls d => tRet (tTup (tCons (tC (.str "size")) (tCons (tXf a cls d C_BadSize "size" (tVar 1)) (tCons (tCB (rIsD X.K a cls d) (tCons (tVar 1) (tCons (tC (.ref CS)) tNil))) tNil))))), (.ref C_BadModulus, fun a cls d => tRet (tTup (tCons (tC (.str "modulus")) (tCons (tXf a cls d C_BadModulus "number" (tVar 1)) tNil))))])
      (tb := fun W D σ H => ∃ Ech : XK, (∀ cls d σ' H', Ech cls d H' → σ'.length = 2 → W cls d σ' H') ∧ σ[0]? = some (some (.ref f)) ∧ H c' = some (LamX.CodeO c' q) ∧ tl Ech H (fun _ H' => D.nx σ H'))
      (Wout := fun _ _ _ _ => False) rfl rfl sc_law_met.nd rfl rfl takes0 (fun W pn xe tk _ => ?body) (.cons ⟨rfl, by decide, .inl T.BadSize.g⟩ (fun a oe cls d pn hz hf => pss_one (ps_ret (pe_tup (pa_cons pe_str (pa_cons (pe_xf T.BadSize.xf T.BadSize.n_size hz hf (pv 1)) (pa_cons (pe_callB (call_isD hz hf) rfl T.f_isinstance (by decide +kernel) (pa_cons (pv 1) (pa_cons (pe_glob (v := .ref CS) rfl T.gS rfl) pa_nil))) pa_nil)))))) (.cons ⟨rfl, by decide, .inl T.BadModulus.g⟩ (fun a oe cls d pn hz hf => pss_one (ps_ret (pe_tup (pa_cons pe_str (pa_cons (pe_xf T.BadModulus.xf T.BadModulus.n_number hz hf (pv 1)) pa_nil))))) (.nil)))) (pss_one (ps_ret pe_non)), ?_⟩
  case body =>
    refine ⟨fun pins s' σ H' D I h' => ?_⟩
    obtain ⟨Ech, hW, h1, h2, h3⟩ := h'
    have hp := fun p1 p2 => act (fun cls d σ' H' => σ'.length = 2 → W cls d σ' H') pn xe Ech p1 p2 (takes_len tk) (fun cls d σ' H' e => hW cls d σ' H' e)
    exact (pss_one (ps_expr (hp _ _))).run pins s' σ H' D I ⟨h1, h2, h3⟩
  refine ⟨fun cls d H' => R_BadSize C_BadSize Q cls d H' ∨ R_BadModulus C_BadModulus Q cls d H', ?_, rfl, hc, ?_⟩
  · intro cls d σ' H' hr hl
    obtain ⟨x0, x1, rfl⟩ : ∃ x0 x1, σ' = [x0, x1] := by
      match σ', hl with
      | [x0, x1], _ => exact ⟨x0, x1, rfl⟩
    rcases hr with ⟨dx, v_size, rfl, rfl, hd, hq⟩ | ⟨dx, v_number, rfl, rfl, hd, hq⟩
    · refine ⟨true, T.x_0_0, fun _ a ha => ?_, fun z => Bool.noConfusion z⟩
      exact ⟨_, rfl, rfl, rfl, dx, _, v_size, rfl, hd, by rfl, _, rfl, C_BadSize, .ref CS, .ref CS, true, rfl, rfl, T.BadSize.ec, (fun x z => by cases z; exact ⟨_, hd⟩), (fun u z => z), T.BadSize.kS, by show 3 ≤ sizeLine; decide, fun q nq => hq q nq⟩
    · refine ⟨false, T.x_1_0, (fun z => Bool.noConfusion z), fun _ => ⟨true, T.x_1_1, fun _ a ha => ?_, fun z => Bool.noConfusion z⟩⟩
      exact ⟨_, rfl, rfl, rfl, dx, _, v_number, rfl, hd, by rfl, by show 2 ≤ sizeLine; decide, fun q nq => hq q nq⟩
  · exact h
end Wk

namespace Wk
open PySem L2
abbrev s_law_are_refused : Stmt := top 77
theorem sc_law_are_refused : FnScope ["_law_pen_here", "_law_guard_here", "_law_large", "_law_odd", "_law_wrong"] ["_law_pen_here", "_law_guard_here"] (defScope s_law_are_refused) := ⟨rfl, rfl, rfl, by decide +kernel, rfl, by decide +kernel, by decide +kernel⟩

-- _law_pen_here=0 _law_guard_here=1 _law_large=2 _law_odd=3 _law_wrong=4
/-! what the pen's dict and the tables of code do not change -/
def ButN (p : Addr) (H H' : Hp) : Prop := ∀ b o, b ≠ p → H b = some o → (∀ ps, o ≠ .tbl ps) → H' b = some o
theorem ButN.of_same {p : Addr} {H H' : Hp} (s : Same H H') : ButN p H H' := fun b o _ e _ => s b o e
theorem ButN.of_but {p : Addr} {H H' : Hp} (s : But p H H') : ButN p H H' := fun b o n e _ => s b o n e
theorem ButN.of_ext {p : Addr} {H H' : Hp} (s : LamX.ExtN H H') : ButN p H H' := fun b o _ e t => s b o e t
theorem ButN.tr {p : Addr} {H H' H2 : Hp} (a : ButN p H H') (b : ButN p H' H2) : ButN p H H2 := fun d o n e t => b d o n (a d o n e t) t
theorem SqT.butN {K : PySem.W.Frag} {H H' : Hp} {a p : Addr} {xs : List V} (h : SqT K H a xs) (e : ButN p H H') (n : NoSq H p) : SqT K H' a xs := by
  rcases h with (h | ⟨o, h⟩) | h
  · exact .inl (.inl (e _ _ (fun z => (n xs default).2.1 (z ▸ h)) h fun _ z => by cases z))
  · exact .inl (.inr ⟨o, e _ _ (fun z => (n xs o).2.2.2 (z ▸ h)) h fun _ z => by cases z⟩)
  · exact .inr h
theorem RowsAre.butN {K : PySem.W.Frag} {H H' : Hp} {p : Addr} (e : ButN p H H') (n : NoSq H p) : ∀ {vs : List V} {A : Mat}, RowsAre K H vs A → RowsAre K H' vs A
  | _, _, .nil => .nil
  | _, _, .cons h t => .cons (SqT.butN h e n) (t.butN e n)
theorem MatAt.butN {K : PySem.W.Frag} {H H' : Hp} {a p : Addr} {A : Mat} (h : MatAt K H a A) (e : ButN p H H') (n : NoSq H p) : MatAt K H' a A := by
  obtain ⟨vs, h1, h2⟩ := h
  exact ⟨vs, SqT.butN h1 e n, h2.butN e n⟩
theorem pen_dkn {H : Hp} {p c : Addr} {ns : List Int} {n : Nat} (P : Pen H p c ns n) : ∃ kvs, H p = some (.dK kvs) ∧ kvs ≠ [] := by
  obtain ⟨i, l, z, _⟩ := P
  exact ⟨_, z.pen, fun e => by cases e⟩
theorem GuardAt.butN {K : PySem.W.Frag} {C : Addr} {H H' : Hp} {g p c : Addr} {ns : List Int} {n : Nat} {D : GD} (h : GuardAt K C H g D) (e : ButN p H H') (P : Pen H p c ns n) : GuardAt K C H' g D := by
  obtain ⟨kvs, hk, _⟩ := pen_dkn P
  obtain ⟨dx, aM, aC, aS, aE, h1, m1, m2, h4, h5⟩ := h.ex
  exact ⟨dx, aM, aC, aS, aE, e _ _ (fun z => by rw [z, hk] at h1; cases h1) h1 (fun _ z => by cases z), m1.butN e (.dk hk), m2.butN e (.dk hk), SqT.butN h4 e (.dk hk), SqT.butN h5 e (.dk hk)⟩
theorem pen_ext {H H' : Hp} {p c : Addr} {ns : List Int} {n : Nat} (h : Pen H p c ns n) (e : LamX.ExtN H H') : Pen H' p c ns n := by
  obtain ⟨i, l, a, b⟩ := h
  refine ⟨i, l, ⟨e _ _ a.pen (fun _ z => ?_), e _ _ a.cells (fun _ z => ?_), a.i0, a.l0, a.i1⟩, b⟩
  · cases z
  · cases z
theorem Tabs.but {T : List (Addr × Str)} {H H' : Hp} {p c : Addr} {ns : List Int} {n : Nat} (t : LamX.Tabs T H) (e : But p H H') (P : Pen H p c ns n) : LamX.Tabs T H' := fun q hq => by
  obtain ⟨kvs, hk, _⟩ := pen_dkn P
  obtain ⟨ps, h1, h2, h3⟩ := t q hq
  refine ⟨ps, e _ _ (fun z => by rw [z, hk] at h1; cases h1) h1, h2, fun pos cv hc => ?_⟩
  obtain ⟨c', ec, hcd⟩ := h3 pos cv hc
  refine ⟨c', ec, e _ _ (fun z => ?_) hcd⟩
  rw [z, hk] at hcd
  injection hcd with hcd
  have hcd' : HO.dK kvs = HO.ext _ := hcd
  cases hcd'
/-! odd values with their data -/
inductive OddC (H : Hp) : V → PyData → Prop
  | non : OddC H .non .none
  | bl (b : Bool) : OddC H (.bl b) (.bool b)
  | int (i : Int) : OddC H (.int i) (.int i)
  | str (x : Str) : OddC H (.str x) (.str x)
  | lst {a : Addr} {n : Int} (h : H a = some (.lst [.int n])) : OddC H (.ref a) (.list [.int n])
  | dic {a : Addr} (h : H a = some (.dK [])) : OddC H (.ref a) (.dict [])
theorem OddC.dq {H : Hp} {v : V} {d : PyData} (h : OddC H v d) : Dq H v d := by
  cases h with
  | non => exact .non
  | bl b => exact .bl b
  | int i => exact .int i
  | str x => exact .str x
  | lst h => exact .lst h (.cons (.int _) .nil)
  | dic h => exact .dic h
def oddFor (lo hi : Int) : PyData → Bool
  | .int i => !(decide (lo ≤ i) && decide (i ≤ hi))
  | _ => true
theorem OddC.noW {K : PySem.W.Frag} {H : Hp} {v : V} {d : PyData} {lo hi : Int} (h : OddC H v d) (g : oddFor lo hi d = true) : NoW K H v lo hi := by
  cases h with
  | non => exact .inr .non
  | bl b => exact .inr (.bl b)
  | int i =>
    refine .inl ⟨i, rfl, fun z => ?_⟩
    have g' : (!(decide (lo ≤ i) && decide (i ≤ hi))) = true := g
    rw [decide_eq_true z.1, decide_eq_true z.2] at g'
    cases g'
  | str x => exact .inr (.str x)
  | lst h => exact .inr (.lst h)
  | dic h => exact .inr (.dic h)
theorem OddC.butN {H H' : Hp} {p c : Addr} {ns : List Int} {n : Nat} {v : V} {d : PyData} (h : OddC H v d) (e : ButN p H H') (P : Pen H p c ns n) : OddC H' v d := by
  obtain ⟨kvs, hk, hk2⟩ := pen_dkn P
  cases h with
  | non => exact .non
  | bl b => exact .bl b
  | int i => exact .int i
  | str x => exact .str x
  | lst h => exact .lst (e _ _ (fun z => by rw [z, hk] at h; cases h) h fun _ z => by cases z)
  | dic h =>
    refine .dic (e _ _ (fun z => ?_) h fun _ z => by cases z)
    rw [z, hk] at h
    injection h with h
    injection h with h
    exact hk2 h
/-- what is told of such a value can be shown -/
def goodTold (d : PyData) : Bool := (PyData.tuple [.str "size", d, .bool true]).showable && (decide ((PyData.tuple [.str "size", d, .bool true]).depth ≤ 60) && decide ((PyData.tuple [.str "size", d, .bool true]).shown.length ≤ sizeLine))
def oddA : List PyData := [.none, .bool true, .int (-1), .int (10 ^ 18 + 1), .str "1", .list [.int 1], .dict []]
def oddB : List PyData := [.none, .bool true, .int 0, .int 129, .int (-1), .str "8", .list [.int 8]]
theorem oddA_ok : (oddA.all fun d => goodTold d && oddFor 0 1000000000000000000 d) = true := by decide +kernel
theorem oddB_ok : (oddB.all fun d => goodTold d && oddFor 1 128 d) = true := by decide +kernel
theorem good_of {ds : List PyData} {lo hi : Int} (h : (ds.all fun d => goodTold d && oddFor lo hi d) = true) {d : PyData} (m : d ∈ ds) : (PyData.tuple [.str "size", d, .bool true]).showable = true ∧ (PyData.tuple [.str "size", d, .bool true]).depth ≤ 60 ∧ (PyData.tuple [.str "size", d, .bool true]).shown.length ≤ sizeLine ∧ oddFor lo hi d = true := by
  have h1 := List.all_eq_true.mp h d m
  obtain ⟨h2, h3⟩ := Bool.and_eq_true_iff.mp h1
  unfold goodTold at h2
  obtain ⟨h4, h5⟩ := Bool.and_eq_true_iff.mp h2
  obtain ⟨h6, h7⟩ := Bool.and_eq_true_iff.mp h5
  exact ⟨h4, of_decide_eq_true h6, of_decide_eq_true h7, h3⟩
theorem dq3 {H : Hp} {q : Addr} {v : V} {d : PyData} (h : Dq H v d) (e : H q = some (.tup [.str "size", v, .bl true])) : Dq H (.ref q) (.tuple [.str "size", d, .bool true]) := .tup e (.cons (.str _) (.cons h (.cons (.bl true) .nil)))
theorem Dq.upd {H : Hp} {q : Addr} {o : HO} {v : V} {d : PyData} (h : Dq H v d) (n : H q = none) : Dq (upd H q o) v d := Dq.same (same_upd n) h
theorem late_any {D : GD} {most : Int} (m0 : 0 ≤ most) (m1 : most ≤ 1000000000000000000) {bits : Nat} (b1 : 1 ≤ bits) (b2 : bits ≤ 128) (hMb : D.M ≤ 2 ^ bits) {H : Hp} {Q : VK}
    (k : ∀ v H', Same H H' → Q v H') : RightL D most bits H Q := ⟨m0, m1, b1, b2, hMb, fun _ => k _, fun _ m H' s _ _ => k _ H' s⟩
def dMod (M : Int) : PyData := .tuple [.str "modulus", .int M]
theorem dMod_shaped (M : Int) : SeqAt.shaped (dMod M) = true := by
  simp [dMod, SeqAt.shaped, PyData.canLay0, PyData.canLayAll0, PyData.depth, PyData.depthAll]
  decide +kernel
theorem dMod_eqv (M : Int) : PyData.eqv (dMod M) (dMod M) = true := by
  simp [dMod, PyData.eqv, PyData.eqvAll]
theorem dMod_dp {K : PySem.W.Frag} {H : Hp} {q : Addr} {M : Int} (h : H q = some (.tup [.str "modulus", .int M])) : Dp K H (.ref q) (dMod M) := .tup (SqT.of h) (.cons (.str _) (.cons (.int _) .nil))
def spRefd (K : PySem.W.Frag) (C : Addr) (Tb : List (Addr × Str)) : Sp := fun vs H Q _ => ∃ (p c g : Addr) (ns : List Int) (m : Nat) (D : GD), vs = [.ref p, .ref g] ∧ Pen H p c ns m ∧ m < 80000 ∧ GuardAt K C H g D ∧ GOk D ∧ D.n ≤ 15 ∧ D.M ≤ 1000 ∧ Inv2 D.M D.n (ent D.A) ∧ LamX.Tabs Tb H ∧
  ∀ H', Pen H' p c ns (m + 3) → ButN p H H' → LamX.Tabs Tb H' → Q (.bl true) H'
section
variable {P : Program} {w0 : World} {K : PySem.W.Frag} {mg : Str → Option Value} {base : Heap} {C CS CM CE : Addr} {fI fT fB fQ : Addr}
theorem ok_refd {f c0 Pt : Addr} {fd : FuncData} {Tb : List (Addr × Str)} (F : FunL K "_law_are_refused" s_law_are_refused f fd c0) (T : TxtL mg) (frepr : mg "repr" = none) (TG : TxtGd K mg C fI fT fB fQ)
    (hS : ∃ o es m, base.get? sysModules = some o ∧ o.data = .dict es m) (TM : TxtMet K mg CS CM CE) (LM : LamAt K mg "_law_met" s_law_met ["_law_call"])
    (TBL : LamX.TabB base mg c0 Pt) (hmT : (Pt, lamQ "_law_are_refused") ∈ Tb) (hu1 : ∀ q ∈ Tb, q.1 = Pt → q.2 = lamQ "_law_are_refused")
    (d1 : Dn P w0 K mg base CX0 1 "_law_draw" ["_law_pen_here", "_law_many"] spDraw) (d2 : Dn P w0 K mg base CX0 2 "_law_pick" ["_law_pen_here", "_law_some"] (spPick K)) (d3 : Dn P w0 K mg base (L2.CX P w0) 3 "late" ["guard", "most", "bits"] (spLateX K C CS CM)) (d4 : Dn P w0 K mg base CX0 8 "digits" ["modulus", "base"] (spDigits K C))
    : FnG P w0 K mg base 9 f fd ["_law_pen_here", "_law_guard_here"] (spRefd K C Tb) := by
  obtain ⟨f1, fd1, G__law_draw, g__law_draw, kp__law_draw, b__law_draw⟩ := d1.ex
  obtain ⟨f2, fd2, G__law_pick, g__law_pick, kp__law_pick, b__law_pick⟩ := d2.ex
  obtain ⟨f3, fd3, G_late, g_late, kp_late, b_late⟩ := d3.ex
  obtain ⟨f4, fd4, G_digits, g_digits, kp_digits, b_digits⟩ := d4.ex
  obtain ⟨gBd, ocB, odB, kVB, docB, pmB, anB, cdvB, ctB, oslB, gB, kB, lkB, hcB, bB⟩ := LM.ex
  refine fun_okL F sc_law_are_refused (fun vs H Q E h => ?_) (fun A outer s H vs Q hr hGd h => ?_)
  · obtain ⟨p, c, g, ns, m, D, rfl, _⟩ := h
    rfl
  · obtain ⟨p, c, g, ns, m, D, rfl, P0, hm, hG, ok, hn, hM, I, hT, k⟩ := h
    have hu := hu_of hr
    refine ⟨_, (pss_cons (ps_set (i := 3) sc_law_are_refused.nd rfl (Or.inr rfl) (pe_call G__law_pick (hr.mono (by decide)) rfl g__law_pick kp__law_pick b__law_pick .nil pass0 (pa_cons (pv 0) (pa_cons (pe_lst (pa_cons pe_non (pa_cons pe_bl (pa_cons (pe_un un_neg pe_int) (pa_cons (pe_op op_add (pe_op op_pow pe_int pe_int) pe_int) (pa_cons pe_str (pa_cons (pe_lst (pa_cons pe_int pa_nil)) (pa_cons pe_dnewK pa_nil)))))))) pa_nil))))
        (pss_cons (ps_set (i := 4) sc_law_are_refused.nd rfl (Or.inr rfl) (pe_call G__law_pick (hr.mono (by decide)) rfl g__law_pick kp__law_pick b__law_pick .nil pass0 (pa_cons (pv 0) (pa_cons (pe_lst (pa_cons pe_non (pa_cons pe_bl (pa_cons pe_int (pa_cons pe_int (pa_cons (pe_un un_neg pe_int) (pa_cons pe_str (pa_cons (pe_lst (pa_cons pe_int pa_nil)) pa_nil)))))))) pa_nil))))
        (pss_cons (ps_if (pt_cmpR op_ne (pe_callB (call_reprD hGd hr.units hS) rfl frepr (by decide +kernel) (pa_cons (LamX.pe_lamcall (k := 5) (T := Tb) (TT := TTmet CS CM) (c := c0) (P := Pt) (t := fun E => tCall (spLateX K C CS CM) [] E (tCons (tVar 1) (tCons (tVar 3) (tCons (tVar 4) tNil)))) rfl gB kB lkB hcB bB sc_law_met rfl (Or.inl rfl) (met_gives TM) TBL rfl hmT hu1 (hr.mono (by decide)) (LamX.lamS_by (sc := defScope s_law_are_refused) (by decide +kernel)) rfl (fun _ _ _ _ _ => rfl) (fun A outer s H E f c2 hr2 => pe_call G_late (hr2.mono (by decide)) rfl g_late kp_late b_late .nil (passes_call (takes_of rfl rfl rfl rfl) fun _ _ _ _ h => h) (pa_cons (pv 1) (pa_cons (pv 3) (pa_cons (pv 4) pa_nil))))) pa_nil)) (pe_callB (call_reprD hGd hr.units hS) rfl frepr (by decide +kernel) (pa_cons (pe_tup (pa_cons pe_str (pa_cons (pv 3) (pa_cons pe_bl pa_nil)))) pa_nil)) (nomark _)) (pss_one (ps_ret pe_bl)) pss_nil)
        (pss_cons (ps_if (pt_cmpR op_ne (pe_callB (call_reprD hGd hr.units hS) rfl frepr (by decide +kernel) (pa_cons (LamX.pe_lamcall (k := 5) (T := Tb) (TT := TTmet CS CM) (c := c0) (P := Pt) (t := fun E => tCall (spLateX K C CS CM) [] E (tCons (tVar 1) (tCons (tC (.int 1)) (tCons (tVar 4) tNil)))) rfl gB kB lkB hcB bB sc_law_met rfl (Or.inl rfl) (met_gives TM) TBL rfl hmT hu1 (hr.mono (by decide)) (LamX.lamS_by (sc := defScope s_law_are_refused) (by decide +kernel)) rfl (fun _ _ _ _ _ => rfl) (fun A outer s H E f c2 hr2 => pe_call G_late (hr2.mono (by decide)) rfl g_late kp_late b_late .nil (passes_call (takes_of rfl rfl rfl rfl) fun _ _ _ _ h => h) (pa_cons (pv 1) (pa_cons pe_int (pa_cons (pv 4) pa_nil))))) pa_nil)) (pe_callB (call_reprD hGd hr.units hS) rfl frepr (by decide +kernel) (pa_cons (pe_tup (pa_cons pe_str (pa_cons (pv 4) (pa_cons pe_bl pa_nil)))) pa_nil)) (nomark _)) (pss_one (ps_ret pe_bl)) pss_nil)
        (pss_cons (ps_if (pt_cmpR op_notN (LamX.pe_lamcall (k := 5) (T := Tb) (TT := TTmet CS CM) (c := c0) (P := Pt) (t := fun E => tCall (spLateX K C CS CM) [] E (tCons (tVar 1) (tCons (tOp (rI CPow fun i j => .int (i ^ j.toNat)) (tC (.int 10)) (tC (.int 18))) (tCons (tC (.int 128)) tNil)))) rfl gB kB lkB hcB bB sc_law_met rfl (Or.inl rfl) (met_gives TM) TBL rfl hmT hu1 (hr.mono (by decide)) (LamX.lamS_by (sc := defScope s_law_are_refused) (by decide +kernel)) rfl (fun _ _ _ _ _ => rfl) (fun A outer s H E f c2 hr2 => pe_call G_late (hr2.mono (by decide)) rfl g_late kp_late b_late .nil (passes_call (takes_of rfl rfl rfl rfl) fun _ _ _ _ h => h) (pa_cons (pv 1) (pa_cons (pe_op op_pow pe_int pe_int) (pa_cons pe_int pa_nil))))) pe_non (nomark _)) (pss_one (ps_ret pe_bl)) pss_nil)
        (pss_cons (ps_set (i := 2) sc_law_are_refused.nd rfl (Or.inr rfl) (pe_call G_digits (hr.mono (by decide)) rfl g_digits kp_digits b_digits .nil pass0 (pa_cons (pe_op op_add (pe_op op_pow pe_int pe_int) (pe_call G__law_draw (hr.mono (by decide)) rfl g__law_draw kp__law_draw b__law_draw .nil pass0 (pa_cons (pv 0) (pa_cons pe_int pa_nil)))) (pa_cons pe_int pa_nil))))
        (pss_cons (ps_if (pt_cmpR (op_neD hr.units) (LamX.pe_lamcall (k := 5) (T := Tb) (TT := TTmet CS CM) (c := c0) (P := Pt) (t := fun E => tCall (spLateX K C CS CM) [] E (tCons (tVar 2) (tCons (tC (.int 1)) (tCons (tC (.int 29)) tNil)))) rfl gB kB lkB hcB bB sc_law_met rfl (Or.inl rfl) (met_gives TM) TBL rfl hmT hu1 (hr.mono (by decide)) (LamX.lamS_by (sc := defScope s_law_are_refused) (by decide +kernel)) rfl (fun _ _ _ _ _ => rfl) (fun A outer s H E f c2 hr2 => pe_call G_late (hr2.mono (by decide)) rfl g_late kp_late b_late .nil (passes_call (takes_of rfl rfl rfl rfl) fun _ _ _ _ h => h) (pa_cons (pv 2) (pa_cons pe_int (pa_cons pe_int pa_nil))))) (pe_tup (pa_cons pe_str (pa_cons (pe_fld (pv 2) rfl) pa_nil))) (nomark _)) (pss_one (ps_ret pe_bl)) pss_nil)
        (pss_one (ps_ret (pe_cmpR op_isN (pe_call G_late (hr.mono (by decide)) rfl g_late kp_late b_late .nil passL (pa_cons (pv 2) (pa_cons pe_int (pa_cons pe_int pa_nil)))) pe_non (nomark _))))))))))), ?_⟩
    refine seq_cut (fun σ H1 => ∃ (v : V) (d : PyData), σ = [some (.ref p), some (.ref g), none, some v, none] ∧ d ∈ oddA ∧ OddC H1 v d ∧ Pen H1 p c ns (m + 1) ∧ But p H H1) (fun D' hD' => ?_) ?_
    · refine ⟨_, rfl, ?_⟩
      refine ⟨_, rfl, _, _, rfl, rfl, ⟨by decide, by decide, by decide⟩, _, _, rfl, rfl, ?_⟩
      obtain ⟨op, hop⟩ := P0.some
      refine ⟨by show 1 ≤ sizeLine; decide, fun l nl => ?_⟩
      have s1 := same_upd (o := .lst [.int 1]) nl
      have gl : (upd H l (.lst [.int 1])) l = some (.lst [.int 1]) := upd_same
      have lp : l ≠ p := fun z => by rw [z, hop] at nl; cases nl
      generalize upd H l (.lst [.int 1]) = H1 at s1 gl ⊢
      refine fun dd nd => ⟨by show 7 ≤ sizeLine; decide, fun q nq => ?_⟩
      have s2 := same_upd (o := .dK []) nd
      have gd : (upd H1 dd (.dK [])) dd = some (.dK []) := upd_same
      have dp : dd ≠ p := fun z => by rw [z, s1 _ _ hop] at nd; cases nd
      have gl2 := s2 _ _ gl
      revert s2 gd gl2 nq
      generalize upd H1 dd (.dK []) = H2
      intro nq s2 gd gl2
      have s3 := same_upd (o := .lst [.non, .bl true, .int (-1), .int (10 ^ Int.toNat 18 + 1), .str "1", .ref l, .ref dd]) nq
      have s13 := same_trans s1 (same_trans s2 s3)
      refine ⟨p, c, q, ns, m, _, rfl, P0.same s13, by omega, upd_same, List.cons_ne_nil _ _, by show 7 ≤ 100000; decide, fun v H4 hv P4 b4 => ?_⟩
      have gl4 := b4 _ _ lp (s3 _ _ gl2)
      have gd4 := b4 _ _ dp (s3 _ _ gd)
      have hv' : v = .non ∨ v = .bl true ∨ v = .int (-1) ∨ v = .int (10 ^ Int.toNat 18 + 1) ∨ v = .str "1" ∨ v = .ref l ∨ v = .ref dd := by simpa using hv
      have fin : ∀ d : PyData, d ∈ oddA → OddC H4 v d → D'.nx ([some (.ref p), some (.ref g), none, some v, none]) H4 := fun d m1 o => hD' _ _ ⟨v, d, rfl, m1, o, P4, (But.of s13).tr b4⟩
      rcases hv' with rfl | rfl | rfl | rfl | rfl | rfl | rfl
      · exact fin _ (by simp [oddA]) .non
      · exact fin _ (by simp [oddA]) (.bl true)
      · exact fin _ (by simp [oddA]) (.int _)
      · exact fin _ (by simp [oddA]) (.int (10 ^ 18 + 1))
      · exact fin _ (by simp [oddA]) (.str _)
      · exact fin _ (by simp [oddA]) (.lst gl4)
      · exact fin _ (by simp [oddA]) (.dic gd4)
    rintro σ H1 ⟨va, da, rfl, ma, oa, P1, B1⟩
    have hG1 := hG.butN (.of_but B1) P0
    have T1 := Tabs.but hT B1 P0
    refine seq_cut (fun σ H2 => ∃ (v : V) (d : PyData), σ = [some (.ref p), some (.ref g), none, some va, some v] ∧ d ∈ oddB ∧ OddC H2 v d ∧ Pen H2 p c ns (m + 2) ∧ But p H1 H2) (fun D' hD' => ?_) ?_
    · obtain ⟨op, hop⟩ := P1.some
      refine ⟨_, rfl, ?_⟩
      refine ⟨_, rfl, ?_⟩
      refine ⟨by show 1 ≤ sizeLine; decide, fun l nl => ?_⟩
      have s1 := same_upd (o := .lst [.int 8]) nl
      have gl : (upd H1 l (.lst [.int 8])) l = some (.lst [.int 8]) := upd_same
      have lp : l ≠ p := fun z => by rw [z, hop] at nl; cases nl
      generalize upd H1 l (.lst [.int 8]) = H2 at s1 gl ⊢
      refine ⟨by show 7 ≤ sizeLine; decide, fun q nq => ?_⟩
      have s3 := same_upd (o := .lst [.non, .bl true, .int 0, .int 129, .int (-1), .str "8", .ref l]) nq
      have s13 := same_trans s1 s3
      refine ⟨p, c, q, ns, m + 1, _, rfl, P1.same s13, by omega, upd_same, List.cons_ne_nil _ _, by show 7 ≤ 100000; decide, fun v H4 hv P4 b4 => ?_⟩
      have gl4 := b4 _ _ lp (s3 _ _ gl)
      have hv' : v = .non ∨ v = .bl true ∨ v = .int 0 ∨ v = .int 129 ∨ v = .int (-1) ∨ v = .str "8" ∨ v = .ref l := by simpa using hv
      have fin : ∀ d : PyData, d ∈ oddB → OddC H4 v d → D'.nx ([some (.ref p), some (.ref g), none, some va, some v]) H4 := fun d m1 o => hD' _ _ ⟨v, d, rfl, m1, o, P4, (But.of s13).tr b4⟩
      rcases hv' with rfl | rfl | rfl | rfl | rfl | rfl | rfl
      · exact fin _ (by simp [oddB]) .non
      · exact fin _ (by simp [oddB]) (.bl true)
      · exact fin _ (by simp [oddB]) (.int _)
      · exact fin _ (by simp [oddB]) (.int _)
      · exact fin _ (by simp [oddB]) (.int _)
      · exact fin _ (by simp [oddB]) (.str _)
      · exact fin _ (by simp [oddB]) (.lst gl4)
    rintro σ H2 ⟨vb, db, rfl, mb, ob, P2, B2⟩
    have oa2 := oa.butN (.of_but B2) P1
    have hG2 := hG1.butN (.of_but B2) P1
    have T2 := Tabs.but T1 B2 P1
    have B02 := B1.tr B2
    clear hG1 T1 B1 B2 P1 oa
    obtain ⟨a1, a2, a3, a4⟩ := good_of oddA_ok ma
    obtain ⟨b1, b2, b3, b4⟩ := good_of oddB_ok mb
    -- most refused
    refine ⟨T2, fun H3 x3 T3 => ?_⟩
    have oa3 := oa2.butN (.of_ext x3) P2
    have ob3 := ob.butN (.of_ext x3) P2
    have hG3 := hG2.butN (.of_ext x3) P2
    have P3 := pen_ext P2 x3
    refine ⟨_, rfl, _, rfl, _, rfl, g, D, va, vb, rfl, hG3, ok, hn, I, .inr (.inl ⟨oa3.noW a4, fun d H4 s4 hd => .inl ⟨d, va, rfl, rfl, hd, fun q nq => ?_⟩⟩)⟩
    have sq := same_upd (o := .tup [.str "size", va, .bl true]) nq
    have s5 := same_trans s4 sq
    refine ⟨_, _, rfl, dq3 ((oa3.butN (.of_same s5) P3).dq) upd_same, a1, a2, a3, ?_⟩
    refine ⟨_, rfl, by show 3 ≤ sizeLine; decide, fun q2 nq2 => ?_⟩
    have s6 := same_trans s5 (same_upd (o := .tup [.str "size", va, .bl true]) nq2)
    refine ⟨_, _, rfl, dq3 ((oa3.butN (.of_same s6) P3).dq) upd_same, a1, a2, a3, ?_⟩
    refine ⟨rfl, _, rfl, ?_⟩
    rw [decide_eq_true rfl]
    refine iteF ?_
    revert s6
    generalize upd (upd H4 q (.tup [.str "size", va, .bl true])) q2 (.tup [.str "size", va, .bl true]) = H5
    intro s6
    clear s5 sq nq2 nq hd s4
    have T5 := Tabs.same T3 s6
    have P5 := P3.same s6
    have hG5 := hG3.same s6
    have ob5 := ob3.butN (.of_same s6) P3
    have B5 : ButN p H H5 := (ButN.of_but B02).tr ((ButN.of_ext x3).tr (.of_same s6))
    clear T3 hG3 P3 oa3 ob3 x3 s6 B02 T2 hG2 oa2 ob P2
    clear H4 d q q2 H3
    -- bits refused
    refine ⟨T5, fun H3 x3 T3 => ?_⟩
    have ob3 := ob5.butN (.of_ext x3) P5
    have hG3 := hG5.butN (.of_ext x3) P5
    have P3 := pen_ext P5 x3
    refine ⟨_, rfl, _, rfl, g, D, .int 1, vb, rfl, hG3, ok, hn, I, .inr (.inr ⟨1, rfl, by decide, by decide, .inl ⟨ob3.noW b4, fun d H4 s4 hd => .inl ⟨d, vb, rfl, rfl, hd, fun q nq => ?_⟩⟩⟩)⟩
    have sq := same_upd (o := .tup [.str "size", vb, .bl true]) nq
    have s5 := same_trans s4 sq
    refine ⟨_, _, rfl, dq3 ((ob3.butN (.of_same s5) P3).dq) upd_same, b1, b2, b3, ?_⟩
    refine ⟨_, rfl, by show 3 ≤ sizeLine; decide, fun q2 nq2 => ?_⟩
    have s6 := same_trans s5 (same_upd (o := .tup [.str "size", vb, .bl true]) nq2)
    refine ⟨_, _, rfl, dq3 ((ob3.butN (.of_same s6) P3).dq) upd_same, b1, b2, b3, ?_⟩
    refine ⟨rfl, _, rfl, ?_⟩
    rw [decide_eq_true rfl]
    refine iteF ?_
    revert s6
    generalize upd (upd H4 q (.tup [.str "size", vb, .bl true])) q2 (.tup [.str "size", vb, .bl true]) = H6
    intro s6
    clear s5 sq nq2 nq hd s4
    have T6 := Tabs.same T3 s6
    have P6 := P3.same s6
    have hG6 := hG3.same s6
    have B6 : ButN p H H6 := B5.tr ((ButN.of_ext x3).tr (.of_same s6))
    clear T3 hG3 P3 ob3 x3 s6 B5 T5 hG5 ob5 P5
    clear H4 d q q2 H3 H5
    -- great ones are taken
    refine ⟨T6, fun H3 x3 T3 => ?_⟩
    have hG3 := hG6.butN (.of_ext x3) P6
    have P3 := pen_ext P6 x3
    have M128 : D.M ≤ 2 ^ 128 := Int.le_trans hM (by decide)
    have fin : ∀ (v : V) (H4 : Hp), Same H3 H4 → ButN p H H4 ∧ Pen H4 p c ns (m + 2) ∧ LamX.Tabs Tb H4 := fun _ H4 s4 => ⟨B6.tr ((ButN.of_ext x3).tr (.of_same s4)), P3.same s4, Tabs.same T3 s4⟩
    refine ⟨_, rfl, _, _, rfl, rfl, ⟨by decide, by decide, by decide⟩, g, D, _, .int 128, rfl, hG3, ok, hn, I, .inl ⟨1000000000000000000, 128, rfl, rfl, ?_⟩⟩
    refine late_any (by decide) (by decide) (by decide) (by decide) M128 fun v H4 s4 => ?_
    obtain ⟨B4, P4, T4⟩ := fin v H4 s4
    refine ⟨rfl, _, rfl, iteF ?_⟩
    clear fin hG3 P3 x3 s4 T3 hG6 B6 T6 P6
    clear H3 H6
    -- a great modulus
    refine nx_cut (fun σ H5 => ∃ (g2 : Addr) (M : Int), σ = [some (.ref p), some (.ref g), some (.ref g2), some va, some vb] ∧ 1000000000 ≤ M ∧ M ≤ 1000000098 ∧ GuardAt K C H5 g2 (digG M 1) ∧ Pen H5 p c ns (m + 3) ∧ But p H4 H5) (fun D' hD' => ?_) ?_
    · refine ⟨_, _, rfl, rfl, ⟨by decide, by decide, by decide⟩, _, rfl, p, c, ns, _, 99, rfl, P4, by omega, by decide, by decide, fun d H5 d0 d1 P5 b5 => ⟨_, _, rfl, rfl, ?_⟩⟩
      have e9 : (10 : Int) ^ Int.toNat 9 = 1000000000 := by decide
      refine ⟨10 ^ Int.toNat 9 + d, 1, rfl, by omega, by omega, by omega, by omega, ⟨1, Eqm.eq (by omega)⟩ , fun g2 H6 s6 n6 hG => ?_⟩
      exact hD' _ _ ⟨g2, _, rfl, by omega, by omega, hG, P5.same s6, b5.tr (But.of s6)⟩
    rintro σ H5 ⟨g2, M, rfl, M0, M1, hG5, P5, B5⟩
    have okD := plain_ok (M := M) (by omega) (by omega)
    have T5 := Tabs.but T4 B5 P4
    refine ⟨T5, fun H3 x3 T3 => ?_⟩
    have hG3 := hG5.butN (.of_ext x3) P5
    have P3 := pen_ext P5 x3
    have e29 : (2 : Int) ^ 29 = 536870912 := by decide
    have e30 : (2 : Int) ^ 30 = 1073741824 := by decide
    refine ⟨_, rfl, g2, digG M 1, .int 1, .int 29, rfl, hG3, okD, by show 1 ≤ 15; decide, plain_inv, .inr (.inr ⟨1, rfl, by decide, by decide, .inr ⟨29, rfl, by decide, by decide, fun z => ?_, fun d H6 s6 hd => .inr ⟨d, .int M, rfl, rfl, hd, fun q nq => ?_⟩⟩⟩)⟩
    · have z' : M ≤ 2 ^ 29 := z
      omega
    have s7 := same_trans s6 (same_upd (o := .tup [.str "modulus", .int M]) nq)
    have gq : (upd H6 q (.tup [.str "modulus", .int M])) q = some (.tup [.str "modulus", .int M]) := upd_same
    revert s7 gq
    generalize upd H6 q (.tup [.str "modulus", .int M]) = H7
    intro s7 gq
    have hG7 := hG3.same s7
    obtain ⟨dx, aM, aC, aS, aE, hp, _⟩ := hG7.ex
    refine ⟨_, rfl, g2, C, dx, _, _, rfl, hp, TG.cl, TG.a_modulus, flG_m, by show 2 ≤ sizeLine; decide, fun q2 nq2 => ?_⟩
    have s8 := same_upd (o := .tup [.str "modulus", .int M]) nq2
    refine ⟨dMod M, dMod M, dMod_dp (s8 _ _ gq), dMod_dp upd_same, dMod_shaped M, dMod_shaped M, _, rfl, ?_⟩
    rw [dMod_eqv]
    refine iteF ?_
    have s78 := same_trans s7 s8
    refine ⟨_, rfl, ?_⟩
    dsimp only [tNil]
    refine late_call (hG3.same s78) okD (by show 1 ≤ 15; decide) plain_inv (late_none (bits := 30) (by omega) (by omega) (by omega) (by omega) ?_ (plain_stay (by omega) (by omega)) fun H9 s9 => ?_)
    · show M ≤ 2 ^ 30
      omega
    have s39 := same_trans s78 s9
    refine ⟨rfl, k _ (P3.same s39) (B4.tr ((ButN.of_but B5).tr ((ButN.of_ext x3).tr (.of_same s39)))) (Tabs.same T3 s39)⟩
end
end Wk

/-! a matrix modulo M that is undone from the left is undone from both sides: its powers come round -/
namespace Wk
theorem pigeon : ∀ (K : Nat) (f : Nat → Nat), (∀ i, i ≤ K → f i < K) → ∃ i j, i < j ∧ j ≤ K ∧ f i = f j
  | 0, f, h => absurd (h 0 (Nat.le_refl _)) (Nat.not_lt_zero _)
  | K + 1, f, h => by
    by_cases c : ∃ i, i ≤ K ∧ f i = f (K + 1)
    · obtain ⟨i, hi, e⟩ := c
      exact ⟨i, K + 1, by omega, Nat.le_refl _, e⟩
    · have ne : ∀ i, i ≤ K → f i ≠ f (K + 1) := fun i hi e => c ⟨i, hi, e⟩
      obtain ⟨i, j, h1, h2, e⟩ := pigeon K (fun i => if f i = K then f (K + 1) else f i) (fun i hi => by
        have a := h i (by omega)
        have b := h (K + 1) (Nat.le_refl _)
        have d := ne i hi
        show (if f i = K then f (K + 1) else f i) < K
        split
        · omega
        · omega)
      have e' : (if f i = K then f (K + 1) else f i) = (if f j = K then f (K + 1) else f j) := e
      have d1 := ne i (by omega)
      have d2 := ne j h2
      refine ⟨i, j, h1, by omega, ?_⟩
      by_cases c1 : f i = K
      · by_cases c2 : f j = K
        · omega
        · rw [if_pos c1, if_neg c2] at e'
          omega
      · by_cases c2 : f j = K
        · rw [if_neg c1, if_pos c2] at e'
          omega
        · rw [if_neg c1, if_neg c2] at e'
          exact e'
def encN (M : Nat) : Nat → (Nat → Nat) → Nat
  | 0, _ => 0
  | k + 1, g => encN M k g * M + g k
theorem encN_lt {M : Nat} {g : Nat → Nat} (h : ∀ t, g t < M) : ∀ k, encN M k g < M ^ k
  | 0 => by show 0 < 1; decide
  | k + 1 => by
    have ih := encN_lt h k
    have h1 := h k
    show encN M k g * M + g k < M ^ k * M
    have : (encN M k g + 1) * M ≤ M ^ k * M := Nat.mul_le_mul_right _ ih
    rw [Nat.add_mul] at this
    omega
theorem encN_inj {M : Nat} {g g' : Nat → Nat} (h : ∀ t, g t < M) (h' : ∀ t, g' t < M) : ∀ k, encN M k g = encN M k g' → ∀ t, t < k → g t = g' t
  | 0, _, t, ht => absurd ht (Nat.not_lt_zero _)
  | k + 1, e, t, ht => by
    have e1 : encN M k g * M + g k = encN M k g' * M + g' k := e
    have a := h k
    have b := h' k
    have m1 : g k = g' k := by
      have := congrArg (· % M) e1
      simpa [Nat.add_mod, Nat.mod_eq_of_lt a, Nat.mod_eq_of_lt b] using this
    have q1 : encN M k g = encN M k g' := by
      have hM : 0 < M := by omega
      refine Nat.eq_of_mul_eq_mul_right hM ?_
      omega
    rcases Nat.lt_or_ge t k with c | c
    · exact encN_inj h h' k q1 t c
    · have : t = k := by omega
      rw [this]
      exact m1
/-- among the powers of a matrix two are the same modulo M -/
theorem pow_round {M : Int} (hM : 1 ≤ M) (n : Nat) (A : Fm) : ∃ i j, i < j ∧ EqF M n (powF n A i) (powF n A j) := by
  obtain ⟨m, rfl⟩ : ∃ m : Nat, M = m := ⟨M.toNat, by omega⟩
  have cod : ∀ i t, (powF n A i (t / n) (t % n) % (m : Int)).toNat < m := fun i t => by
    have := Int.emod_lt_of_pos (powF n A i (t / n) (t % n)) (b := (m : Int)) (by omega)
    have := Int.emod_nonneg (powF n A i (t / n) (t % n)) (b := (m : Int)) (by omega)
    omega
  obtain ⟨i, j, h1, _, e⟩ := pigeon (m ^ (n * n)) (fun i => encN m (n * n) fun t => (powF n A i (t / n) (t % n) % (m : Int)).toNat) (fun i _ => encN_lt (cod i) _)
  refine ⟨i, j, h1, fun a b ha hb => ?_⟩
  have hn : 0 < n := by omega
  have ht : a * n + b < n * n := by
    have : (a + 1) * n ≤ n * n := Nat.mul_le_mul_right _ ha
    rw [Nat.add_mul] at this
    omega
  have := encN_inj (cod i) (cod j) _ e (a * n + b) ht
  have d1 : (a * n + b) / n = a := by
    rw [Nat.mul_comm, Nat.mul_add_div hn, Nat.div_eq_of_lt hb, Nat.add_zero]
  have d2 : (a * n + b) % n = b := by
    rw [Nat.mul_comm, Nat.mul_add_mod, Nat.mod_eq_of_lt hb]
  rw [d1, d2] at this
  refine Eqm.of ?_
  have p1 := Int.emod_nonneg (powF n A i a b) (b := (m : Int)) (by omega)
  have p2 := Int.emod_nonneg (powF n A j a b) (b := (m : Int)) (by omega)
  omega
theorem pow_left {M : Int} {n : Nat} {A B : Fm} (h : EqF M n (mulF n B A) oneF) : ∀ i k, EqF M n (mulF n (powF n B i) (powF n A (i + k))) (powF n A k)
  | 0, k => by
    rw [Nat.zero_add]
    exact one_mulF n _
  | i + 1, k => by
    have e1 : EqF M n (powF n A (i + 1 + k)) (mulF n A (powF n A (i + k))) := fun a b ha hb => by
      have := powF_add (M := M) n A 1 (i + k) a b ha hb
      rw [show 1 + (i + k) = i + 1 + k by omega] at this
      refine this.trans (Eqm.sum fun c hc => Eqm.mul ?_ (.refl _ _))
      exact one_mulF n A a c ha hc
    show EqF M n (mulF n (mulF n (powF n B i) B) (powF n A (i + 1 + k))) (powF n A k)
    rw [mulF_assoc]
    refine EqF.trans (EqF.mul (.refl _ _ _) ?_) (pow_left h i k)
    refine (EqF.mul (.refl _ _ _) e1).trans ?_
    rw [← mulF_assoc]
    exact (EqF.mul h (.refl _ _ _)).trans (one_mulF n _)
theorem inv2_of_left {M : Int} (hM : 1 ≤ M) {n : Nat} {A B : Fm} (h : EqF M n (mulF n B A) oneF) : Inv2 M n A := by
  obtain ⟨i, j, hij, e⟩ := pow_round hM n A
  obtain ⟨k, rfl⟩ : ∃ k, j = i + (k + 1) := ⟨j - i - 1, by omega⟩
  have e1 := (pow_left h i 0).symm.trans ((EqF.mul (.refl _ _ _) (by rw [Nat.add_zero]; exact e)).trans (pow_left h i (k + 1)))
  -- A to the k + 1 is 1
  refine ⟨powF n A k, e1.symm, ?_⟩
  refine EqF.trans (fun a b ha hb => ?_) e1.symm
  have := powF_add (M := M) n A 1 k a b ha hb
  rw [Nat.add_comm 1 k] at this
  refine Eqm.symm (this.trans (Eqm.sum fun c hc => Eqm.mul ?_ (.refl _ _)))
  exact one_mulF n A a c ha hc
end Wk

namespace Wk
open PySem L2
abbrev s_law : Stmt := top 78
theorem sc_law : FnScope ["_law_script", "_law_pen_here", "_law_turn", "_law_fields_here", "_law_guard_here", "_law_most", "_law_bits", "_law_due", "_law_told"] ["_law_script"] (defScope s_law) := ⟨rfl, rfl, rfl, by decide +kernel, rfl, by decide +kernel, by decide +kernel⟩

-- _law_script=0 _law_pen_here=1 _law_turn=2 _law_fields_here=3 _law_guard_here=4 _law_most=5 _law_bits=6 _law_due=7 _law_told=8
structure DnG (P : Program) (w : World) (K : PySem.W.Frag) (mg : Str → Option Value) (base : Heap) (k : Nat) (x : Str) (ps : List Str) (sp : Sp) : Prop where
  ex : ∃ (f : Addr) (fd : FuncData), FnG P w K mg base k f fd ps sp ∧ mg x = some (.ref f) ∧ PySem.W.keepIn K (.ref f) = true ∧ Binds K fd ps []
theorem GOk.inv2 {D : GD} (ok : GOk D) : Inv2 D.M D.n (ent D.A) := by
  obtain ⟨B, h⟩ := ok.inv
  have := ok.m2
  exact inv2_of_left (by omega) h
section
variable {P : Program} {w : World} {K : PySem.W.Frag} {mg : Str → Option Value} {base : Heap} {C CS CM fI fT fB fQ : Addr}
theorem law_run {f : Addr} {fd : FuncData} {Tb : List (Addr × Str)} (F : Fun K "law" "law" s_law f fd) (hb : ∀ (s : Shared) (u : Value), BindsTo s fd ⟨[u], []⟩ [("_law_script", u)]) (T : TxtL mg) (TG : TxtGd K mg C fI fT fB fQ)
    (d1 : Dn P w K mg base CX0 1 "_law_pen" ["_law_script"] (spPen K)) (d2 : Dn P w K mg base CX0 5 "_law_any_fields" ["_law_pen_here"] spAny) (d3 : Dn P w K mg base CX0 8 "_law_guard" ["_law_fields_here"] (spGuard K C))
    (d4 : Dn P w K mg base CX0 2 "_law_pick" ["_law_pen_here", "_law_some"] (spPick K)) (d5 : Dn P w K mg base CX0 1 "_law_draw" ["_law_pen_here", "_law_many"] spDraw) (d6 : Dn P w K mg base CX0 2 "_law_late" ["_law_fields_here", "_law_most", "_law_limit"] spLLate) (d7 : Dn P w K mg base CX0 1 "_law_two_to" ["_law_many"] spTwo)
    (d8 : Dn P w K mg base (L2.CX P w) 3 "late" ["guard", "most", "bits"] (spLateX K C CS CM)) (d9 : Dn P w K mg base CX0 9 "_law_are_known" ["_law_pen_here"] spKnown) (d10 : DnG P w K mg base 9 "_law_are_refused" ["_law_pen_here", "_law_guard_here"] (spRefd K C Tb))
    {f11 : Addr} {fd11 : FuncData} (G_pair : FnOk P w K mg base CX0 8 f11 fd11 ["modulus", "first"] (spPair K C)) (g_pair : mg "pair" = some (.ref f11)) (kp_pair : PySem.W.keepIn K (.ref f11) = true) (b_pair : Binds K fd11 ["modulus", "first"] []) {ds1 : List Value} (v1_pair : Vals [.int 0] ds1) (b1_pair : Binds K fd11 ["modulus", "first"] ds1)
    {s : Shared} {H : Hp} {a : Addr} {ns : List Int} (e0 : Env0 P w K mg base callerA [] s H) (hL : SqL K H a (ns.map V.int)) (hT : LamX.Tabs Tb H) : codeAny (model P w) callerA (.call (.ref f) ⟨[.ref a], []⟩) (CR CX0 [] P w H s (fun v _ => v = .bl true) E0) s := by
  obtain ⟨f1, fd1, G__law_pen, g__law_pen, kp__law_pen, b__law_pen⟩ := d1.ex
  obtain ⟨f2, fd2, G__law_any_fields, g__law_any_fields, kp__law_any_fields, b__law_any_fields⟩ := d2.ex
  obtain ⟨f3, fd3, G__law_guard, g__law_guard, kp__law_guard, b__law_guard⟩ := d3.ex
  obtain ⟨f4, fd4, G__law_pick, g__law_pick, kp__law_pick, b__law_pick⟩ := d4.ex
  obtain ⟨f5, fd5, G__law_draw, g__law_draw, kp__law_draw, b__law_draw⟩ := d5.ex
  obtain ⟨f6, fd6, G__law_late, g__law_late, kp__law_late, b__law_late⟩ := d6.ex
  obtain ⟨f7, fd7, G__law_two_to, g__law_two_to, kp__law_two_to, b__law_two_to⟩ := d7.ex
  obtain ⟨f8, fd8, G_late, g_late, kp_late, b_late⟩ := d8.ex
  obtain ⟨f9, fd9, G__law_are_known, g__law_are_known, kp__law_are_known, b__law_are_known⟩ := d9.ex
  obtain ⟨f10, fd10, G__law_are_refused, g__law_are_refused, kp__law_are_refused, b__law_are_refused⟩ := d10.ex
  obtain ⟨oc, od, kV, doc, pm, an, cdv, ct, osl, rfl, lk, hcd⟩ := F.ex
  refine LamX.run_ofS (k := 11) (us := [.ref a]) (vs := [.ref a]) lk hcd sc_law ⟨rfl, by decide, by decide⟩ e0 (hb s (.ref a)) (.cons rfl .nil) rfl fun hr => ?_
  have hu := hu_of hr
  refine ⟨_, PSs.nox ((pss_cons (ps_set (i := 1) sc_law.nd rfl (Or.inl rfl) (pe_call G__law_pen (hr.mono (by decide)) rfl g__law_pen kp__law_pen b__law_pen .nil pass0 (pa_cons (pv 0) pa_nil)))
        (pss_cons (ps_for PassesOwn.never rfl (pi_range1 rfl T.f_range (pa_cons (pe_op op_add pe_int (pe_callB (call_min2 rfl) rfl T.f_min (by decide +kernel) (pa_cons pe_int (pa_cons (pe_callB call_len_seq rfl T.f_len PySem.boot_len (pa_cons (pv 0) pa_nil)) pa_nil)))) pa_nil)) (pg_name (i := 2) sc_law.nd rfl (Or.inl rfl)) (pss_cons (ps_set (i := 3) sc_law.nd rfl (Or.inl rfl) (pe_call G__law_any_fields (hr.mono (by decide)) rfl g__law_any_fields kp__law_any_fields b__law_any_fields .nil pass0 (pa_cons (pv 1) pa_nil)))
        (pss_cons (ps_par (i := 4) (j := 5) rfl sc_law.nd rfl rfl (by decide) rfl rfl (pa_cons (pe_call G__law_guard (hr.mono (by decide)) rfl g__law_guard kp__law_guard b__law_guard .nil pass0 (pa_cons (pv 3) pa_nil)) (pa_cons (pe_call G__law_pick (hr.mono (by decide)) rfl g__law_pick kp__law_pick b__law_pick .nil pass0 (pa_cons (pv 1) (pa_cons (pe_lst (pa_cons pe_int (pa_cons pe_int (pa_cons (pe_op op_sub (pe_ix ix_list (pv 3) pe_int (fun _ _ => rfl)) pe_int) (pa_cons (pe_call G__law_draw (hr.mono (by decide)) rfl g__law_draw kp__law_draw b__law_draw .nil pass0 (pa_cons (pv 1) (pa_cons pe_int pa_nil))) pa_nil))))) pa_nil))) pa_nil)) (by rfl))
        (pss_cons (ps_set (i := 6) sc_law.nd rfl (Or.inl rfl) (pe_op op_add pe_int (pe_call G__law_draw (hr.mono (by decide)) rfl g__law_draw kp__law_draw b__law_draw .nil pass0 (pa_cons (pv 1) (pa_cons pe_int pa_nil)))))
        (pss_cons (ps_set (i := 7) sc_law.nd rfl (Or.inl rfl) (pe_call G__law_late (hr.mono (by decide)) rfl g__law_late kp__law_late b__law_late .nil pass0 (pa_cons (pv 3) (pa_cons (pv 5) (pa_cons (pe_op op_sub (pe_call G__law_two_to (hr.mono (by decide)) rfl g__law_two_to kp__law_two_to b__law_two_to .nil pass0 (pa_cons (pv 6) pa_nil)) pe_int) pa_nil)))))
        (pss_cons (ps_set (i := 8) sc_law.nd rfl (Or.inl rfl) (pe_call G_late (hr.mono (by decide)) rfl g_late kp_late b_late .nil passL (pa_cons (pv 4) (pa_cons (pv 5) (pa_cons (pv 6) pa_nil)))))
        (pss_cons (ps_if (PW.pt (pw_or (PW.pt (pw_and (pt_cmpR op_ne (pv 7) (pe_un un_neg pe_int) (nomark _)) (pw_and1 (pt_cmpR op_ne (pv 8) (pv 7) (nomark _))))) (pw_or1 (PW.pt (pw_and (pt_cmpR op_eq (pv 7) (pe_un un_neg pe_int) (nomark _)) (pw_and1 (PW.pt (pw_or (pt_cmpR op_isN (pv 8) pe_non (nomark _)) (pw_or1 (pt_cmpR op_lt (pv 8) pe_int (nomark _))))))))))) (pss_one (ps_ret pe_bl)) pss_nil)
        (pss_one (ps_if (PW.pt (pw_or (pt_not (pt_val (pe_call G__law_are_known (hr.mono (by decide)) rfl g__law_are_known kp__law_are_known b__law_are_known .nil pass0 (pa_cons (pv 1) pa_nil)))) (pw_or1 (pt_not (pt_val (pe_callG G__law_are_refused (hr.mono (by decide)) rfl rfl g__law_are_refused kp__law_are_refused b__law_are_refused (pa_cons (pv 1) (pa_cons (pv 4) pa_nil)))))))) (pss_one (ps_ret pe_bl)) pss_nil)))))))))
        (pss_one (ps_ret (pe_and (pe_cmpR op_eq (pe_call G_late (hr.mono (by decide)) rfl g_late kp_late b_late .nil passL (pa_cons (pe_call G_pair (hr.mono (by decide)) rfl g_pair kp_pair b_pair .nil pass0 (pa_cons pe_int (pa_cons pe_int pa_nil))) (pa_cons pe_int (pa_cons pe_int pa_nil)))) pe_int (nomark _)) (pe_one (pe_cmpR op_eq (pe_call G_late (hr.mono (by decide)) rfl g_late kp_late b_late .nil passL (pa_cons (pe_call G_pair (hr.mono (by decide)) rfl g_pair kp_pair b1_pair v1_pair pass0 (pa_cons pe_int pa_nil)) (pa_cons pe_int (pa_cons pe_int pa_nil)))) pe_int (nomark _))))))))), ?_⟩
  refine ⟨_, rfl, a, ns, rfl, hL, fun p c ns' H1 s1 P1 => ?_⟩
  refine ⟨_, rfl, a, _, rfl, .inl (sqL_same hL s1), 5, _, rfl, _, _, rfl, rfl, ?_⟩
  obtain ⟨m, hm, hm2⟩ : ∃ m : Nat, (4 + if ((ns.map V.int).length : Int) < 5 then ((ns.map V.int).length : Int) else 5) = (m : Int) ∧ m ≤ 9 := by
    split
    · exact ⟨4 + (ns.map V.int).length, by omega, by omega⟩
    · exact ⟨9, rfl, by omega⟩
  refine ⟨(m : Int), congrArg (fun z => [V.int z]) hm, by omega, by omega, ?_⟩
  refine for_it (walk_range (lo := 0) (n := m)) (fun i σ H' => ∃ (x2 x3 x4 x5 x6 x7 x8 : Option V), σ = [some (.ref a), some (.ref p), x2, x3, x4, x5, x6, x7, x8] ∧ Pen H' p c ns' (1600 * i) ∧ LamX.Tabs Tb H') ⟨none, none, none, none, none, none, none, rfl, ⟨0, 0, P1, by decide⟩, Tabs.same hT s1⟩ (fun _ _ _ _ _ => trivial) ?_ ?_
  · rintro i v σ H2 H2' hi ⟨x2, x3, x4, x5, x6, x7, x8, rfl, P2, T2⟩ ⟨rfl, rfl⟩
    refine lp_cut (fun σ H => ∃ (L : Fl) (D : GD), σ = [some (.ref a), some (.ref p), some (.int (0 + (i : Int))), some (.ref L.f), x4, x5, x6, x7, x8] ∧ Pen H p c ns' (1600 * i + 1510) ∧ LamX.Tabs Tb H ∧ FldAt H L D ∧ GOk D ∧ D.M ≤ 12 ∧ D.n ≤ 3 ∧ D.w ≤ 3 ∧ (∀ b ∈ L.all, b ≠ p)) (fun D' hD' => ?_) ?_
    · obtain ⟨op, hop⟩ := P2.some
      refine ⟨_, rfl, p, c, ns', _, rfl, P2, by omega, fun L D H3 b3 P3 hF ok m12 n3 w3 nw => hD' _ _ ⟨L, D, rfl, P3, Tabs.but T2 b3 P2, hF, ok, m12, n3, w3, fun b hb z => ?_⟩⟩
      have := nw b hb
      rw [z, hop] at this
      cases this
    clear P2 T2
    rintro σ H3 ⟨L, D, rfl, P3, T3, hF, ok, m12, n3, w3, nep⟩
    have I := ok.inv2
    have hM2 := ok.m2
    refine seq_cut (fun σ H => ∃ (g : Addr) (mo : Int), σ = [some (.ref a), some (.ref p), some (.int (0 + (i : Int))), some (.ref L.f), some (.ref g), some (.int mo), x6, x7, x8] ∧ Pen H p c ns' (1600 * i + 1512) ∧ LamX.Tabs Tb H ∧ FldAt H L D ∧ GuardAt K C H g D ∧ 0 ≤ mo ∧ mo ≤ 299) (fun D' hD' => ?_) ?_
    · refine ⟨_, rfl, L, D, rfl, hF, ok, fun g H5 s5 ng hg => ?_⟩
      have hF5 := hF.same s5
      have P5 := P3.same s5
      have T5 := Tabs.same T3 s5
      refine ⟨_, rfl, ?_⟩
      refine ⟨_, rfl, L.f, _, ((0 : Nat) : Int), _, rfl, rfl, SqL.of hF5.top, atI_nat (j := 0) rfl, _, _, rfl, rfl, ?_⟩
      refine ⟨_, rfl, p, c, ns', _, 300, rfl, P5, by omega, by decide, by decide, fun d H6 d0 d1 P6 b6 => ⟨by show 4 ≤ sizeLine; decide, fun q nq => ?_⟩⟩
      have s7 := same_upd (o := .lst [.int 0, .int 1, .int (D.M - 1), .int d]) nq
      refine ⟨p, c, q, ns', _, _, rfl, P6.same s7, by omega, upd_same, List.cons_ne_nil _ _, by show 4 ≤ 100000; decide, fun v H7 hv P7 b7 => ?_⟩
      obtain ⟨mo, rfl, mo0, mo1⟩ : ∃ mo : Int, v = .int mo ∧ 0 ≤ mo ∧ mo ≤ 299 := by
        have hv' : v = .int 0 ∨ v = .int 1 ∨ v = .int (D.M - 1) ∨ v = .int d := by simpa using hv
        rcases hv' with rfl | rfl | rfl | rfl
        · exact ⟨_, rfl, by omega, by omega⟩
        · exact ⟨_, rfl, by omega, by omega⟩
        · exact ⟨_, rfl, by omega, by omega⟩
        · exact ⟨_, rfl, by omega, by omega⟩
      have b67 : But p H5 H7 := b6.tr ((But.of s7).tr b7)
      have T7 := Tabs.but (Tabs.same (Tabs.but T5 b6 P5) s7) b7 (P6.same s7)
      refine ⟨_, _, rfl, hD' _ _ ⟨g, mo, rfl, P7, T7, hF5.keep fun d o hd e => b67 d o (nep d hd) e, hg.butN (.of_but b67) P5, mo0, mo1⟩⟩
    clear P3 T3 hF
    rintro σ H4 ⟨g, mo, rfl, P4, T4, hF, hG, mo0, mo1⟩
    refine seq_cut (fun σ H => ∃ (bits : Nat), σ = [some (.ref a), some (.ref p), some (.int (0 + (i : Int))), some (.ref L.f), some (.ref g), some (.int mo), some (.int (bits : Int)), x7, x8] ∧ Pen H p c ns' (1600 * i + 1513) ∧ LamX.Tabs Tb H ∧ FldAt H L D ∧ GuardAt K C H g D ∧ 4 ≤ bits ∧ bits ≤ 60) (fun D' hD' => ?_) ?_
    · refine ⟨_, rfl, p, c, ns', _, 57, rfl, P4, by omega, by decide, by decide, fun d H5 d0 d1 P5 b5 => ⟨_, _, rfl, rfl, ?_⟩⟩
      obtain ⟨d', rfl⟩ : ∃ n : Nat, d = n := ⟨d.toNat, by omega⟩
      exact hD' _ _ ⟨d' + 4, by dsimp only; rw [show (4 : Int) + (d' : Int) = ((d' + 4 : Nat) : Int) by omega]; rfl, P5, Tabs.but T4 b5 P4, hF.keep fun d o hd e => b5 d o (nep d hd) e, hG.butN (.of_but b5) P4, by omega, by omega⟩
    clear P4 T4 hF hG
    rintro σ H5 ⟨bits, rfl, P5, T5, hF, hG, b4, b60⟩
    have hMb : D.M ≤ 2 ^ bits := by
      have h4 : (2 : Int) ^ 4 ≤ 2 ^ bits := pow2_le b4
      have e4 : (2 : Int) ^ 4 = 16 := by decide
      omega
    refine seq_cut (fun σ H => ∃ (v : V), σ = [some (.ref a), some (.ref p), some (.int (0 + (i : Int))), some (.ref L.f), some (.ref g), some (.int mo), some (.int (bits : Int)), some v, x8] ∧ Same H5 H ∧ ((v = .non ∧ Stay D mo) ∨ (v = .int (-1) ∧ ¬ Stay D mo ∧ ¬ Rch D.n (2 ^ bits) (stF D mo 300)) ∨ ∃ m : Nat, v = .int (m : Int) ∧ ¬ Stay D mo ∧ ¬ Rch D.n (2 ^ bits) (stF D mo m) ∧ Rch D.n (2 ^ bits) (stF D mo (m + 1)))) (fun D' hD' => ?_) ?_
    · refine ⟨_, rfl, _, rfl, _, rfl, bits, rfl, by omega, _, _, rfl, rfl, L, D, mo, bits, rfl, hF, ok, by omega, mo0, by omega, by omega, by omega, hMb, I, fun v H6 s6 hv => hD' _ _ ⟨v, rfl, s6, hv⟩⟩
    rintro σ H6 ⟨v, rfl, s6, hv⟩
    have hG6 := hG.same s6
    have P6 := P5.same s6
    have T6 := Tabs.same T5 s6
    clear hG P5 T5 hF
    refine seq_cut (fun σ H => ∃ (t : V), σ = [some (.ref a), some (.ref p), some (.int (0 + (i : Int))), some (.ref L.f), some (.ref g), some (.int mo), some (.int (bits : Int)), some v, some t] ∧ Same H6 H ∧ ((t = v ∧ (v = .non ∨ ∃ m : Nat, v = .int (m : Int))) ∨ (v = .int (-1) ∧ ∃ m : Nat, t = .int (m : Int) ∧ 300 ≤ m))) (fun D' hD' => ?_) ?_
    · refine ⟨_, rfl, _, rfl, _, rfl, ?_⟩
      dsimp only [tNil]
      rcases hv with ⟨rfl, st⟩ | ⟨rfl, ns, nr⟩ | ⟨m', rfl, ns, r0, r1⟩
      · exact late_call hG6 ok (by omega) I (late_none mo0 (by omega) (by omega) (by omega) hMb st fun H7 s7 => hD' _ _ ⟨_, rfl, s7, .inl ⟨rfl, .inl rfl⟩⟩)
      · refine late_call hG6 ok (by omega) I ⟨mo0, by omega, by omega, by omega, hMb, fun z => absurd z ns, fun _ m' H7 s7 r0 r1 => hD' _ _ ⟨_, rfl, s7, .inr ⟨rfl, m', rfl, Nat.le_of_not_lt fun z => nr ?_⟩⟩⟩
        exact (aug_grow ok I mo0).rch (a := m' + 1) (b := 300) z r1
      · exact late_call hG6 ok (by omega) I (late_at ok I mo0 (by omega) (by omega) (by omega) hMb r0 r1 fun H7 s7 => hD' _ _ ⟨_, rfl, s7, .inl ⟨rfl, .inr ⟨m', rfl⟩⟩⟩)
    rintro σ H7 ⟨t, rfl, s7, ht⟩
    have hG7 := hG6.same s7
    have P7 := P6.same s7
    have T7 := Tabs.same T6 s7
    clear hG6 P6 T6 hv s6 s7
    refine seq_cut (fun σ H => σ = [some (.ref a), some (.ref p), some (.int (0 + (i : Int))), some (.ref L.f), some (.ref g), some (.int mo), some (.int (bits : Int)), some v, some t] ∧ H = H7) (fun D' hD' => ?_) ?_
    · rcases ht with ⟨rfl, hv⟩ | ⟨rfl, m', rfl, hm3⟩
      · have hne : ¬ t = .int (-1) := by
          rcases hv with rfl | ⟨m, rfl⟩
          · intro z
            cases z
          · intro z
            injection z with z
            omega
        have hsc : scal t (.int (-1)) = true := by
          rcases hv with rfl | ⟨m, rfl⟩
          · rfl
          · rfl
        have hsv : scal t t = true := by
          rcases hv with rfl | ⟨m, rfl⟩
          · rfl
          · rfl
        refine ⟨_, rfl, _, rfl, hsc, _, rfl, ?_⟩
        rw [decide_eq_false hne]
        refine iteT ⟨_, rfl, _, rfl, hsv, _, rfl, ?_⟩
        rw [decide_eq_true rfl]
        refine iteF ?_
        refine ⟨_, rfl, _, rfl, hsc, _, rfl, ?_⟩
        rw [decide_eq_false hne]
        exact iteF (iteF (hD' _ _ ⟨rfl, rfl⟩))
      · refine ⟨_, rfl, _, rfl, rfl, _, rfl, ?_⟩
        rw [decide_eq_true rfl]
        refine iteF ?_
        refine ⟨_, rfl, _, rfl, rfl, _, rfl, ?_⟩
        rw [decide_eq_true rfl]
        refine iteT ⟨_, rfl, rfl, _, rfl, ?_⟩
        rw [decide_eq_false (by intro z; cases z)]
        refine iteF ⟨_, rfl, _, _, rfl, rfl, _, rfl, ?_⟩
        rw [decide_eq_false (by omega)]
        exact iteF (hD' _ _ ⟨rfl, rfl⟩)
    rintro σ H8 ⟨rfl, rfl⟩
    refine ⟨_, rfl, p, c, ns', _, rfl, P7, by omega, fun H9 P9 b9 => ⟨true, rfl, iteF ?_⟩⟩
    refine ⟨_, rfl, _, rfl, p, c, g, ns', _, D, rfl, P9, by omega, hG7.butN (.of_but b9) P7, ok, by omega, by omega, I, Tabs.but T7 b9 P7, fun H10 P10 b10 T10 => ⟨true, rfl, iteF ?_⟩⟩
    exact ⟨_, _, _, _, _, _, _, rfl, P10.le (by omega), T10⟩
  · rintro σ H2 ⟨x2, x3, x4, x5, x6, x7, x8, rfl, P2, T2⟩
    have one : ∀ {M f : Int} {m : Nat} {g : Addr} {H' : Hp} {Q : VK}, 2 ≤ M → M ≤ 65521 → 0 ≤ f → f < M → GuardAt K C H' g (pairG M f) → pairV M 255 m < 2 ^ 32 → 2 ^ 32 ≤ pairV M 255 (m + 1) → (∀ H3, Same H' H3 → Q (.int (m : Int)) H3) → spLateX K C CS CM [.ref g, .int 255, .int ((32 : Nat) : Int)] H' Q E0 := fun {M f m g H' Q} h2 h3 f0 f1 hG q0 q1 k => by
      have okP := pairG_ok h2 (by omega) f0 f1
      have e32 : (2 : Int) ^ 32 = 4294967296 := by decide
      refine late_call hG okP (by show 2 ≤ 15; decide) pair_inv (late_at okP pair_inv (by decide) (by decide) (by decide) (by decide) (by show M ≤ 2 ^ 32; omega) (m := m) ?_ ?_ k)
      · rw [pair_rch h2 (by omega) f0 f1 (by decide)]
        omega
      · rw [pair_rch h2 (by omega) f0 f1 (by decide)]
        exact q1
    refine ⟨65521, 1, rfl, by decide, by decide, by decide, by decide, fun g H3 s3 n3 hG => ?_⟩
    refine one (by decide) (by decide) (by decide) (by decide) hG (m := 5552) (by rw [← pair_val]; decide) (by rw [← pair_val]; decide) fun H4 s4 => ?_
    refine ⟨rfl, true, rfl, iteT ?_⟩
    refine ⟨255, 0, rfl, by decide, by decide, by decide, by decide, fun g H5 s5 n5 hG2 => ?_⟩
    refine one (by decide) (by decide) (by decide) (by decide) hG2 (m := 5802) (by rw [← pair_val]; decide) (by rw [← pair_val]; decide) fun H6 s6 => ?_
    exact ⟨rfl, rfl⟩
end
end Wk

namespace Wk
open PySem PySem.Spec PyProof.Rows L2
theorem fun_at {K : PySem.W.Frag} {x qual : Str} {st : Stmt} {f : Addr} {fd : FuncData} (F : FunD K x qual (defArgs st) (defBody st) (defScope st) [] [] f fd) : Fun K x qual st f fd := by
  obtain ⟨oc, od, dV, kV, doc, pm, an, cdv, ct, osl, e, l, c, hd, _⟩ := F.ex
  rcases hd with ⟨_, e2⟩ | ⟨e2, _⟩
  · subst e2
    exact ⟨⟨oc, od, kV, doc, pm, an, cdv, ct, osl, e, l, c⟩, F.kp⟩
  · exact absurd rfl e2
section
variable {w : World} {K : PySem.W.Frag} {mg : Str → Option Value} {h : Heap}
theorem law_at (X : K.In h) (G : h.Ns mainGlobals mg) {fL : Addr} (hfa : mg "law" = some (.ref fL)) (c : He.SaysX fas fns [] tfs exB w h K) {base : Heap} (hm : ∃ o es m, h.get? sysModules = some o ∧ o.data = .dict es m) (bb : ∀ b o, h.get? b = some o → (∀ us m, o.data ≠ .seq us m) → o.data ≠ .fields #[] → base.get? b = some o) (tb : ∀ p ∈ tfs.map (He.cT K), LamX.TabB base mg p.1 p.2) {s : Shared} {H : Hp} {a : Addr} {ns : List Int} (ht : ∀ p ∈ tfs.map (He.cT K), H p.2 = some (.tbl #[]))
    (e0 : Env0 PySem.Challenge.rw_guardsums_k17_late_moduli.prog w K mg base callerA [] s H) (hL : SqL K H a (ns.map V.int)) :
    codeAny (model PySem.Challenge.rw_guardsums_k17_late_moduli.prog w) callerA (.call (.ref fL) ⟨[.ref a], []⟩) (CR CX0 [] PySem.Challenge.rw_guardsums_k17_late_moduli.prog w H s (fun v _ => v = .bl true) E0) s := by
  have cd := c.t.d
  have eL := hfa.symm.trans (He.glo_ok X G (cd.fact 69 (f := .glo "law") rfl))
  cases eL
  obtain ⟨d_Stairs_init, F_Stairs_init⟩ := cd.def_ 0 (d := mkM "Stairs" "__init__" "Stairs.__init__" h_Stairs_init) rfl
  obtain ⟨d_Stairs_put, F_Stairs_put⟩ := cd.def_ 1 (d := mkM "Stairs" "put" "Stairs.put" h_Stairs_put) rfl
  obtain ⟨d_Stairs_put_at, F_Stairs_put_at⟩ := cd.def_ 2 (d := mkM "Stairs" "put_at" "Stairs.put_at" h_Stairs_put_at) rfl
  obtain ⟨d_Stairs_settled, F_Stairs_settled⟩ := cd.def_ 3 (d := mkM "Stairs" "settled" "Stairs.settled" h_Stairs_settled) rfl
  obtain ⟨d_Guard_init, F_Guard_init⟩ := cd.def_ 4 (d := mkM "Guard" "__init__" "Guard.__init__" h_Guard_init) rfl
  obtain ⟨d_Guard_eq, F_Guard_eq⟩ := cd.def_ 5 (d := mkM "Guard" "__eq__" "Guard.__eq__" h_Guard_eq) rfl
  obtain ⟨d_Guard_told, F_Guard_told⟩ := cd.def_ 6 (d := mkM "Guard" "told" "Guard.told" h_Guard_told) rfl
  obtain ⟨d_Guard_behind, F_Guard_behind⟩ := cd.def_ 7 (d := mkM "Guard" "behind" "Guard.behind" h_Guard_behind) rfl
  obtain ⟨d_BadSize_init, F_BadSize_init⟩ := cd.def_ 8 (d := mkM "BadSize" "__init__" "BadSize.__init__" h_BadSize_init) rfl
  obtain ⟨d_BadModulus_init, F_BadModulus_init⟩ := cd.def_ 9 (d := mkM "BadModulus" "__init__" "BadModulus.__init__" h_BadModulus_init) rfl
  obtain ⟨d_bezout, F_bezout⟩ := cd.def_ 10 (d := mkD "bezout" h_bezout) rfl
  obtain ⟨d_multiple, F_multiple⟩ := cd.def_ 11 (d := mkD "multiple" h_multiple) rfl
  obtain ⟨d_combined, F_combined⟩ := cd.def_ 12 (d := mkD "combined" h_combined) rfl
  obtain ⟨d_product, F_product⟩ := cd.def_ 13 (d := mkD "product" h_product) rfl
  obtain ⟨d_applied, F_applied⟩ := cd.def_ 14 (d := mkD "applied" h_applied) rfl
  obtain ⟨d_transposed, F_transposed⟩ := cd.def_ 15 (d := mkD "transposed" h_transposed) rfl
  obtain ⟨d_unit, F_unit⟩ := cd.def_ 16 (d := mkD "unit" h_unit) rfl
  obtain ⟨d_undone, F_undone⟩ := cd.def_ 17 (d := mkD "undone" h_undone) rfl
  obtain ⟨d_is_integer, F_is_integer⟩ := cd.def_ 18 (d := mkD "is_integer" h_is_integer) rfl
  obtain ⟨d_is_within, F_is_within⟩ := cd.def_ 19 (d := mkD "is_within" h_is_within) rfl
  obtain ⟨d_is_list, F_is_list⟩ := cd.def_ 20 (d := mkD "is_list" h_is_list) rfl
  obtain ⟨d_wrong_number, F_wrong_number⟩ := cd.def_ 21 (d := mkD "wrong_number" h_wrong_number) rfl
  obtain ⟨d_wrong_row, F_wrong_row⟩ := cd.def_ 22 (d := mkD "wrong_row" h_wrong_row) rfl
  obtain ⟨d_wrong_symbol, F_wrong_symbol⟩ := cd.def_ 23 (d := mkD "wrong_symbol" h_wrong_symbol) rfl
  obtain ⟨d_late, F_late⟩ := cd.def_ 24 (d := mkD "late" h_late) rfl
  obtain ⟨d_taken, F_taken⟩ := cd.def_ 25 (d := mkD "taken" h_taken) rfl
  obtain ⟨d_steps_below, F_steps_below⟩ := cd.def_ 26 (d := mkD "steps_below" h_steps_below) rfl
  obtain ⟨d_is_reached, F_is_reached⟩ := cd.def_ 27 (d := mkD "is_reached" h_is_reached) rfl
  obtain ⟨d_state_behind, F_state_behind⟩ := cd.def_ 28 (d := mkD "state_behind" h_state_behind) rfl
  obtain ⟨d_beside, F_beside⟩ := cd.def_ 29 (d := mkD "beside" h_beside) rfl
  obtain ⟨d_check_modulus, F_check_modulus⟩ := cd.def_ 30 (d := mkD "check_modulus" h_check_modulus) rfl
  obtain ⟨d_checked_matrix, F_checked_matrix⟩ := cd.def_ 31 (d := mkD "checked_matrix" h_checked_matrix) rfl
  obtain ⟨d_checked_columns, F_checked_columns⟩ := cd.def_ 32 (d := mkD "checked_columns" h_checked_columns) rfl
  obtain ⟨d_plain, F_plain⟩ := cd.def_ 33 (d := mkD "plain" h_plain) rfl
  obtain ⟨d_digits, F_digits⟩ := cd.def_ 34 (d := mkD "digits" h_digits) rfl
  obtain ⟨d_pair, F_pair⟩ := cd.def_ 35 (d := mkD "pair" h_pair [.int 0]) rfl
  obtain ⟨d_law_pen, F_law_pen⟩ := cd.def_ 36 (d := mkD "_law_pen" h_law_pen) rfl
  obtain ⟨d_law_draw, F_law_draw⟩ := cd.def_ 37 (d := mkD "_law_draw" h_law_draw) rfl
  obtain ⟨d_law_pick, F_law_pick⟩ := cd.def_ 38 (d := mkD "_law_pick" h_law_pick) rfl
  obtain ⟨d_law_common, F_law_common⟩ := cd.def_ 39 (d := mkD "_law_common" h_law_common) rfl
  obtain ⟨d_law_units, F_law_units⟩ := cd.def_ 40 (d := mkD "_law_units" h_law_units) rfl
  obtain ⟨d_law_product, F_law_product⟩ := cd.def_ 41 (d := mkD "_law_product" h_law_product) rfl
  obtain ⟨d_law_undone, F_law_undone⟩ := cd.def_ 42 (d := mkD "_law_undone" h_law_undone) rfl
  obtain ⟨d_law_modulus, F_law_modulus⟩ := cd.def_ 43 (d := mkD "_law_modulus" h_law_modulus) rfl
  obtain ⟨d_law_row, F_law_row⟩ := cd.def_ 44 (d := mkD "_law_row" h_law_row) rfl
  obtain ⟨d_law_fields, F_law_fields⟩ := cd.def_ 45 (d := mkD "_law_fields" h_law_fields) rfl
  obtain ⟨d_law_any_fields, F_law_any_fields⟩ := cd.def_ 46 (d := mkD "_law_any_fields" h_law_any_fields) rfl
  obtain ⟨d_law_guard, F_law_guard⟩ := cd.def_ 47 (d := mkD "_law_guard" h_law_guard) rfl
  obtain ⟨d_law_two_to, F_law_two_to⟩ := cd.def_ 48 (d := mkD "_law_two_to" h_law_two_to) rfl
  obtain ⟨d_law_step, F_law_step⟩ := cd.def_ 49 (d := mkD "_law_step" h_law_step) rfl
  obtain ⟨d_law_late, F_law_late⟩ := cd.def_ 50 (d := mkD "_law_late" h_law_late) rfl
  obtain ⟨d_law_linear, F_law_linear⟩ := cd.def_ 51 (d := mkD "_law_linear" h_law_linear) rfl
  obtain ⟨d_law_pair_number, F_law_pair_number⟩ := cd.def_ 52 (d := mkD "_law_pair_number" h_law_pair_number) rfl
  obtain ⟨d_law_are_known, F_law_are_known⟩ := cd.def_ 53 (d := mkD "_law_are_known" h_law_are_known) rfl
  obtain ⟨d_law_met, F_law_met⟩ := cd.def_ 54 (d := mkD "_law_met" h_law_met) rfl
  obtain ⟨d_law_are_refused, F_law_are_refused⟩ := cd.def_ 55 (d := mkD "_law_are_refused" h_law_are_refused) rfl
  obtain ⟨d_law, F_law⟩ := cd.def_ 56 (d := mkD "law" h_law) rfl
  have b_Stairs_init : Binds K d_Stairs_init ["self", "modulus", "places"] [] := (FunD.bindsN F_Stairs_init fun _ _ _ _ _ _ us hl => match us, hl with | [_, _, _], _ => rfl)
  have b_Stairs_put : Binds K d_Stairs_put ["self", "row"] [] := (FunD.bindsN F_Stairs_put fun _ _ _ _ _ _ us hl => match us, hl with | [_, _], _ => rfl)
  have b_Stairs_put_at : Binds K d_Stairs_put_at ["self", "place", "row"] [] := (FunD.bindsN F_Stairs_put_at fun _ _ _ _ _ _ us hl => match us, hl with | [_, _, _], _ => rfl)
  have b_Stairs_settled : Binds K d_Stairs_settled ["self"] [] := (FunD.bindsN F_Stairs_settled fun _ _ _ _ _ _ us hl => match us, hl with | [_], _ => rfl)
  have b_Guard_init : Binds K d_Guard_init ["self", "modulus", "matrix", "columns", "start", "end"] [] := (FunD.bindsN F_Guard_init fun _ _ _ _ _ _ us hl => match us, hl with | [_, _, _, _, _, _], _ => rfl)
  have b_Guard_eq : Binds K d_Guard_eq ["self", "other"] [] := (FunD.bindsN F_Guard_eq fun _ _ _ _ _ _ us hl => match us, hl with | [_, _], _ => rfl)
  have b_Guard_told : Binds K d_Guard_told ["self", "block"] [] := (FunD.bindsN F_Guard_told fun _ _ _ _ _ _ us hl => match us, hl with | [_, _], _ => rfl)
  have b_Guard_behind : Binds K d_Guard_behind ["self", "block", "state"] [] := (FunD.bindsN F_Guard_behind fun _ _ _ _ _ _ us hl => match us, hl with | [_, _, _], _ => rfl)
  have b_BadSize_init : Binds K d_BadSize_init ["self", "size"] [] := (FunD.bindsN F_BadSize_init fun _ _ _ _ _ _ us hl => match us, hl with | [_, _], _ => rfl)
  have b_BadModulus_init : Binds K d_BadModulus_init ["self", "number"] [] := (FunD.bindsN F_BadModulus_init fun _ _ _ _ _ _ us hl => match us, hl with | [_, _], _ => rfl)
  have b_bezout : Binds K d_bezout ["one", "other"] [] := (FunD.bindsN F_bezout fun _ _ _ _ _ _ us hl => match us, hl with | [_, _], _ => rfl)
  have b_multiple : Binds K d_multiple ["modulus", "factor", "row"] [] := (FunD.bindsN F_multiple fun _ _ _ _ _ _ us hl => match us, hl with | [_, _, _], _ => rfl)
  have b_combined : Binds K d_combined ["modulus", "factor", "row", "other_factor", "other"] [] := (FunD.bindsN F_combined fun _ _ _ _ _ _ us hl => match us, hl with | [_, _, _, _, _], _ => rfl)
  have b_product : Binds K d_product ["modulus", "one", "other"] [] := (FunD.bindsN F_product fun _ _ _ _ _ _ us hl => match us, hl with | [_, _, _], _ => rfl)
  have b_applied : Binds K d_applied ["modulus", "matrix", "row"] [] := (FunD.bindsN F_applied fun _ _ _ _ _ _ us hl => match us, hl with | [_, _, _], _ => rfl)
  have b_transposed : Binds K d_transposed ["matrix"] [] := (FunD.bindsN F_transposed fun _ _ _ _ _ _ us hl => match us, hl with | [_], _ => rfl)
  have b_unit : Binds K d_unit ["size", "place"] [] := (FunD.bindsN F_unit fun _ _ _ _ _ _ us hl => match us, hl with | [_, _], _ => rfl)
  have b_undone : Binds K d_undone ["modulus", "matrix"] [] := (FunD.bindsN F_undone fun _ _ _ _ _ _ us hl => match us, hl with | [_, _], _ => rfl)
  have b_is_integer : Binds K d_is_integer ["value"] [] := (FunD.bindsN F_is_integer fun _ _ _ _ _ _ us hl => match us, hl with | [_], _ => rfl)
  have b_is_within : Binds K d_is_within ["value", "least", "most"] [] := (FunD.bindsN F_is_within fun _ _ _ _ _ _ us hl => match us, hl with | [_, _, _], _ => rfl)
  have b_is_list : Binds K d_is_list ["value"] [] := (FunD.bindsN F_is_list fun _ _ _ _ _ _ us hl => match us, hl with | [_], _ => rfl)
  have b_wrong_number : Binds K d_wrong_number ["numbers", "many", "modulus"] [] := (FunD.bindsN F_wrong_number fun _ _ _ _ _ _ us hl => match us, hl with | [_, _, _], _ => rfl)
  have b_wrong_row : Binds K d_wrong_row ["rows", "many", "width", "modulus"] [] := (FunD.bindsN F_wrong_row fun _ _ _ _ _ _ us hl => match us, hl with | [_, _, _, _], _ => rfl)
  have b_wrong_symbol : Binds K d_wrong_symbol ["block", "width", "modulus"] [] := (FunD.bindsN F_wrong_symbol fun _ _ _ _ _ _ us hl => match us, hl with | [_, _, _], _ => rfl)
  have b_late : Binds K d_late ["guard", "most", "bits"] [] := (FunD.bindsN F_late fun _ _ _ _ _ _ us hl => match us, hl with | [_, _, _], _ => rfl)
  have b_taken : Binds K d_taken ["step", "state", "limit"] [] := (FunD.bindsN F_taken fun _ _ _ _ _ _ us hl => match us, hl with | [_, _, _], _ => rfl)
  have b_steps_below : Binds K d_steps_below ["step", "state", "limit"] [] := (FunD.bindsN F_steps_below fun _ _ _ _ _ _ us hl => match us, hl with | [_, _, _], _ => rfl)
  have b_is_reached : Binds K d_is_reached ["state", "limit"] [] := (FunD.bindsN F_is_reached fun _ _ _ _ _ _ us hl => match us, hl with | [_, _], _ => rfl)
  have b_state_behind : Binds K d_state_behind ["guard", "block", "state"] [] := (FunD.bindsN F_state_behind fun _ _ _ _ _ _ us hl => match us, hl with | [_, _, _], _ => rfl)
  have b_beside : Binds K d_beside ["one", "other"] [] := (FunD.bindsN F_beside fun _ _ _ _ _ _ us hl => match us, hl with | [_, _], _ => rfl)
  have b_check_modulus : Binds K d_check_modulus ["modulus"] [] := (FunD.bindsN F_check_modulus fun _ _ _ _ _ _ us hl => match us, hl with | [_], _ => rfl)
  have b_checked_matrix : Binds K d_checked_matrix ["rows", "size", "modulus"] [] := (FunD.bindsN F_checked_matrix fun _ _ _ _ _ _ us hl => match us, hl with | [_, _, _], _ => rfl)
  have b_checked_columns : Binds K d_checked_columns ["rows", "size", "modulus"] [] := (FunD.bindsN F_checked_columns fun _ _ _ _ _ _ us hl => match us, hl with | [_, _, _], _ => rfl)
  have b_plain : Binds K d_plain ["modulus"] [] := (FunD.bindsN F_plain fun _ _ _ _ _ _ us hl => match us, hl with | [_], _ => rfl)
  have b_digits : Binds K d_digits ["modulus", "base"] [] := (FunD.bindsN F_digits fun _ _ _ _ _ _ us hl => match us, hl with | [_, _], _ => rfl)
  obtain ⟨ds_pair, v_pair, b_pair⟩ := FunD.binds1 (ps := ["modulus", "first"]) F_pair 2 1 (by intro z; cases z) rfl (fun _ _ _ _ _ _ _ us its h1 h2 => match us, h1, its, h2 with | [_, _], _, [_], _ => ⟨_, rfl, rfl⟩)
  have v_pair : Vals [] ds_pair := v_pair
  cases v_pair
  obtain ⟨ds1_pair, v1_pair, b1_pair⟩ := FunD.binds1 (ps := ["modulus", "first"]) F_pair 1 0 (by intro z; cases z) rfl (fun _ _ _ _ _ _ _ us its h1 h2 => match us, h1, its, h2 with | [_], _, [_], _ => ⟨_, rfl, rfl⟩)
  have v1_pair : Vals [V.int 0] ds1_pair := v1_pair
  have b_law_pen : Binds K d_law_pen ["_law_script"] [] := (FunD.bindsN F_law_pen fun _ _ _ _ _ _ us hl => match us, hl with | [_], _ => rfl)
  have b_law_draw : Binds K d_law_draw ["_law_pen_here", "_law_many"] [] := (FunD.bindsN F_law_draw fun _ _ _ _ _ _ us hl => match us, hl with | [_, _], _ => rfl)
  have b_law_pick : Binds K d_law_pick ["_law_pen_here", "_law_some"] [] := (FunD.bindsN F_law_pick fun _ _ _ _ _ _ us hl => match us, hl with | [_, _], _ => rfl)
  have b_law_common : Binds K d_law_common ["_law_one", "_law_other"] [] := (FunD.bindsN F_law_common fun _ _ _ _ _ _ us hl => match us, hl with | [_, _], _ => rfl)
  have b_law_units : Binds K d_law_units ["_law_modulus_here"] [] := (FunD.bindsN F_law_units fun _ _ _ _ _ _ us hl => match us, hl with | [_], _ => rfl)
  have b_law_product : Binds K d_law_product ["_law_modulus_here", "_law_one", "_law_other"] [] := (FunD.bindsN F_law_product fun _ _ _ _ _ _ us hl => match us, hl with | [_, _, _], _ => rfl)
  have b_law_undone : Binds K d_law_undone ["_law_pen_here", "_law_modulus_here", "_law_size"] [] := (FunD.bindsN F_law_undone fun _ _ _ _ _ _ us hl => match us, hl with | [_, _, _], _ => rfl)
  have b_law_modulus : Binds K d_law_modulus ["_law_pen_here"] [] := (FunD.bindsN F_law_modulus fun _ _ _ _ _ _ us hl => match us, hl with | [_], _ => rfl)
  have b_law_row : Binds K d_law_row ["_law_pen_here", "_law_modulus_here", "_law_size"] [] := (FunD.bindsN F_law_row fun _ _ _ _ _ _ us hl => match us, hl with | [_, _, _], _ => rfl)
  have b_law_fields : Binds K d_law_fields ["_law_pen_here", "_law_modulus_here", "_law_size", "_law_width"] [] := (FunD.bindsN F_law_fields fun _ _ _ _ _ _ us hl => match us, hl with | [_, _, _, _], _ => rfl)
  have b_law_any_fields : Binds K d_law_any_fields ["_law_pen_here"] [] := (FunD.bindsN F_law_any_fields fun _ _ _ _ _ _ us hl => match us, hl with | [_], _ => rfl)
  have b_law_guard : Binds K d_law_guard ["_law_fields_here"] [] := (FunD.bindsN F_law_guard fun _ _ _ _ _ _ us hl => match us, hl with | [_], _ => rfl)
  have b_law_two_to : Binds K d_law_two_to ["_law_many"] [] := (FunD.bindsN F_law_two_to fun _ _ _ _ _ _ us hl => match us, hl with | [_], _ => rfl)
  have b_law_step : Binds K d_law_step ["_law_fields_here", "_law_most", "_law_state"] [] := (FunD.bindsN F_law_step fun _ _ _ _ _ _ us hl => match us, hl with | [_, _, _], _ => rfl)
  have b_law_late : Binds K d_law_late ["_law_fields_here", "_law_most", "_law_limit"] [] := (FunD.bindsN F_law_late fun _ _ _ _ _ _ us hl => match us, hl with | [_, _, _], _ => rfl)
  have b_law_linear : Binds K d_law_linear ["_law_first", "_law_by", "_law_limit"] [] := (FunD.bindsN F_law_linear fun _ _ _ _ _ _ us hl => match us, hl with | [_, _, _], _ => rfl)
  have b_law_pair_number : Binds K d_law_pair_number ["_law_modulus_here", "_law_most", "_law_limit"] [] := (FunD.bindsN F_law_pair_number fun _ _ _ _ _ _ us hl => match us, hl with | [_, _, _], _ => rfl)
  have b_law_are_known : Binds K d_law_are_known ["_law_pen_here"] [] := (FunD.bindsN F_law_are_known fun _ _ _ _ _ _ us hl => match us, hl with | [_], _ => rfl)
  have b_law_met : Binds K d_law_met ["_law_call"] [] := (FunD.bindsN F_law_met fun _ _ _ _ _ _ us hl => match us, hl with | [_], _ => rfl)
  have b_law_are_refused : Binds K d_law_are_refused ["_law_pen_here", "_law_guard_here"] [] := (FunD.bindsN F_law_are_refused fun _ _ _ _ _ _ us hl => match us, hl with | [_, _], _ => rfl)
  have hS : ∃ o es m, base.get? sysModules = some o ∧ o.data = .dict es m := by
    obtain ⟨o, es, m, e, d⟩ := hm
    exact ⟨o, es, m, bb _ _ e (fun us n z => by rw [d] at z; cases z) (fun z => by rw [d] at z; cases z), d⟩
  have hT0 : LamX.Tabs [((He.cT K ("_law_are_refused", none)).2, lamQ "_law_are_refused")] H := fun p hp => by
    simp only [List.mem_cons, List.not_mem_nil, or_false] at hp
    rcases hp with rfl
    · exact LamX.TabS.nil (ht _ (List.mem_map_of_mem (f := He.cT K) (a := (("_law_are_refused", none) : He.Defn)) (by simp [tfs])))
  have FL_law_are_refused := funL_of (x := "_law_are_refused") (st := s_law_are_refused) (fd := d_law_are_refused) (fun_at F_law_are_refused)
  have TB_law_are_refused : LamX.TabB base mg (He.codeOf K ("_law_are_refused", none)) (He.cT K ("_law_are_refused", none)).2 := tb _ (List.mem_map_of_mem (f := He.cT K) (a := (("_law_are_refused", none) : He.Defn)) (by simp [tfs]))
  have hm_law_are_refused : ((He.cT K ("_law_are_refused", none)).2, lamQ "_law_are_refused") ∈ ([((He.cT K ("_law_are_refused", none)).2, lamQ "_law_are_refused")] : List (Addr × Str)) := by simp
  have hu_law_are_refused : ∀ q ∈ ([((He.cT K ("_law_are_refused", none)).2, lamQ "_law_are_refused")] : List (Addr × Str)), q.1 = (He.cT K ("_law_are_refused", none)).2 → q.2 = lamQ "_law_are_refused" := fun q hq e => by
    simp only [List.mem_cons, List.not_mem_nil, or_false] at hq
    rcases hq with rfl
    · rfl
  have EX_BadSize : Err1 K mg "BadSize" "size" (He.ga K "BadSize") (He.ma K (He.ga K "BadSize") "__init__") (He.ga K "SumsError") := { g := (He.glo_ok X G (cd.fact 20 (f := .glo "BadSize") rfl)), o := ⟨oexB_ok (of_decide_eq_true (ex_at c.more 7)), (of_decide_eq_true (ex_at c.more 8)), (of_decide_eq_true (ex_at c.more 9)), (of_decide_eq_true (ex_at c.more 10)), (of_decide_eq_true (ex_at c.more 11))⟩, i := (of_decide_eq_true (ex_at c.more 15)), t := (of_decide_eq_true (ex_at c.more 16)), no := (of_decide_eq_true (ex_at c.more 17)), ec := excB_ok (of_decide_eq_true (ex_at c.more 12)), xf := xfB_ok (of_decide_eq_true (ex_at c.more 13)), kS := (of_decide_eq_true (ex_at c.more 14)) }
  have G_BadSize_init := okE_BadSize (P := PySem.Challenge.rw_guardsums_k17_late_moduli.prog) (w0 := w) (base := base) F_BadSize_init EX_BadSize
  have EX_BadModulus : Err1 K mg "BadModulus" "number" (He.ga K "BadModulus") (He.ma K (He.ga K "BadModulus") "__init__") (He.ga K "SumsError") := { g := (He.glo_ok X G (cd.fact 21 (f := .glo "BadModulus") rfl)), o := ⟨oexB_ok (of_decide_eq_true (ex_at c.more 18)), (of_decide_eq_true (ex_at c.more 19)), (of_decide_eq_true (ex_at c.more 20)), (of_decide_eq_true (ex_at c.more 21)), (of_decide_eq_true (ex_at c.more 22))⟩, i := (of_decide_eq_true (ex_at c.more 26)), t := (of_decide_eq_true (ex_at c.more 27)), no := (of_decide_eq_true (ex_at c.more 28)), ec := excB_ok (of_decide_eq_true (ex_at c.more 23)), xf := xfB_ok (of_decide_eq_true (ex_at c.more 24)), kS := (of_decide_eq_true (ex_at c.more 25)) }
  have G_BadModulus_init := okE_BadModulus (P := PySem.Challenge.rw_guardsums_k17_late_moduli.prog) (w0 := w) (base := base) F_BadModulus_init EX_BadModulus
  have TMet : TxtMet K mg (He.ga K "BadSize") (He.ga K "BadModulus") (He.ga K "SumsError") := { gS := (He.glo_ok X G (cd.fact 22 (f := .glo "SumsError") rfl)), f_isinstance := (He.free_ok X G (cd.fact 71 (f := .free "isinstance") rfl)), BadSize := { g := (He.glo_ok X G (cd.fact 20 (f := .glo "BadSize") rfl)), ec := excB_ok (of_decide_eq_true (ex_at c.more 12)), xf := xfB_ok (of_decide_eq_true (ex_at c.more 13)), kS := (of_decide_eq_true (ex_at c.more 14)), n_size := (of_decide_eq_true (ex_at c.more 17)) }, BadModulus := { g := (He.glo_ok X G (cd.fact 21 (f := .glo "BadModulus") rfl)), ec := excB_ok (of_decide_eq_true (ex_at c.more 23)), xf := xfB_ok (of_decide_eq_true (ex_at c.more 24)), kS := (of_decide_eq_true (ex_at c.more 25)), n_number := (of_decide_eq_true (ex_at c.more 28)) }, x_0_0 := (of_decide_eq_true (ex_at c.more 29)), x_1_0 := (of_decide_eq_true (ex_at c.more 30)), x_1_1 := (of_decide_eq_true (ex_at c.more 31)) }
  have LMet := lamAt_of (x := "_law_met") (st := s_law_met) (fd := d_law_met) (ps := ["_law_call"]) (fun_at F_law_met) (He.glo_ok X G (cd.fact 67 (f := .glo "_law_met") rfl)) F_law_met.kp b_law_met
  have TM : TxtM mg := ⟨(He.free_ok X G (cd.fact 77 (f := .free "tuple") rfl)), (He.free_ok X G (cd.fact 82 (f := .free "zip") rfl)), (He.free_ok X G (cd.fact 81 (f := .free "sum") rfl)), (He.free_ok X G (cd.fact 74 (f := .free "range") rfl)), (He.free_ok X G (cd.fact 79 (f := .free "len") rfl))⟩
  have TA : TxtA mg := ⟨(He.free_ok X G (cd.fact 72 (f := .free "int") rfl)), (He.free_ok X G (cd.fact 79 (f := .free "len") rfl)), (He.free_ok X G (cd.fact 80 (f := .free "abs") rfl))⟩
  have TL : TxtL mg := { f_list := (He.free_ok X G (cd.fact 78 (f := .free "list") rfl)), f_tuple := (He.free_ok X G (cd.fact 77 (f := .free "tuple") rfl)), f_int := (He.free_ok X G (cd.fact 72 (f := .free "int") rfl)), f_len := (He.free_ok X G (cd.fact 79 (f := .free "len") rfl)), f_range := (He.free_ok X G (cd.fact 74 (f := .free "range") rfl)), f_zip := (He.free_ok X G (cd.fact 82 (f := .free "zip") rfl)), f_sum := (He.free_ok X G (cd.fact 81 (f := .free "sum") rfl)), f_min := (He.free_ok X G (cd.fact 75 (f := .free "min") rfl)) }
  have TS : TxtS K mg (He.ga K "Stairs") (He.ma K (He.ga K "Stairs") "__init__") (He.ma K (He.ga K "Stairs") "put") (He.ma K (He.ga K "Stairs") "put_at") (He.ma K (He.ga K "Stairs") "settled") := { cl := He.cls_ok (cd.fact 0 (f := .cls "Stairs") rfl), nM := He.noat_ok (cd.fact 1 (f := .noat "Stairs" "modulus") rfl), nS := He.noat_ok (cd.fact 2 (f := .noat "Stairs" "steps") rfl), mgC := (He.glo_ok X G (cd.fact 7 (f := .glo "Stairs") rfl)), mkr := He.mkr_ok (cd.fact 3 (f := .mkr "Stairs") rfl), m_put := (He.meth_ok (cd.fact 4 (f := .meth "Stairs" "put") rfl)), m_put_at := (He.meth_ok (cd.fact 5 (f := .meth "Stairs" "put_at") rfl)), m_settled := (He.meth_ok (cd.fact 6 (f := .meth "Stairs" "settled") rfl)), f_tuple := (He.free_ok X G (cd.fact 77 (f := .free "tuple") rfl)), f_range := (He.free_ok X G (cd.fact 74 (f := .free "range") rfl)), f_len := (He.free_ok X G (cd.fact 79 (f := .free "len") rfl)), f_reversed := (He.free_ok X G (cd.fact 84 (f := .free "reversed") rfl)), f_list := (He.free_ok X G (cd.fact 78 (f := .free "list") rfl)), f_enumerate := (He.free_ok X G (cd.fact 83 (f := .free "enumerate") rfl)) }
  have TG : TxtGd K mg (He.ga K "Guard") (He.ma K (He.ga K "Guard") "__init__") (He.ma K (He.ga K "Guard") "told") (He.ma K (He.ga K "Guard") "behind") (He.ma K (He.ga K "Guard") "__eq__") := { f_isinstance := (He.free_ok X G (cd.fact 71 (f := .free "isinstance") rfl)), f_int := (He.free_ok X G (cd.fact 72 (f := .free "int") rfl)), f_bool := (He.free_ok X G (cd.fact 73 (f := .free "bool") rfl)), f_list := (He.free_ok X G (cd.fact 78 (f := .free "list") rfl)), f_tuple := (He.free_ok X G (cd.fact 77 (f := .free "tuple") rfl)), f_len := (He.free_ok X G (cd.fact 79 (f := .free "len") rfl)), f_enumerate := (He.free_ok X G (cd.fact 83 (f := .free "enumerate") rfl)), f_zip := (He.free_ok X G (cd.fact 82 (f := .free "zip") rfl)), f_range := (He.free_ok X G (cd.fact 74 (f := .free "range") rfl)), gGREATEST_MODULUS := He.int_ok X G (cd.fact 86 (f := .int "GREATEST_MODULUS" 1000000000000000000) rfl), gMOST_NUMBERS := He.int_ok X G (cd.fact 87 (f := .int "MOST_NUMBERS" 16) rfl), gMOST_SYMBOLS := He.int_ok X G (cd.fact 88 (f := .int "MOST_SYMBOLS" 10000) rfl), gGROUP := He.int_ok X G (cd.fact 89 (f := .int "GROUP" 32) rfl), gDOUBLINGS := He.int_ok X G (cd.fact 90 (f := .int "DOUBLINGS" 5) rfl), gWORTH := He.int_ok X G (cd.fact 91 (f := .int "WORTH" 3) rfl), cl := He.cls_ok (cd.fact 8 (f := .cls "Guard") rfl), a_modulus := He.noat_ok (cd.fact 9 (f := .noat "Guard" "modulus") rfl), a_size := He.noat_ok (cd.fact 10 (f := .noat "Guard" "size") rfl), a_matrix := He.noat_ok (cd.fact 11 (f := .noat "Guard" "matrix") rfl), a_columns := He.noat_ok (cd.fact 12 (f := .noat "Guard" "columns") rfl), a_width := He.noat_ok (cd.fact 13 (f := .noat "Guard" "width") rfl), a_start := He.noat_ok (cd.fact 14 (f := .noat "Guard" "start") rfl), a_end := He.noat_ok (cd.fact 15 (f := .noat "Guard" "end") rfl), mgC := (He.glo_ok X G (cd.fact 19 (f := .glo "Guard") rfl)), mkr := He.mkr_ok (cd.fact 16 (f := .mkr "Guard") rfl), m_told := (He.meth_ok (cd.fact 17 (f := .meth "Guard" "told") rfl)), m_behind := (He.meth_ok (cd.fact 18 (f := .meth "Guard" "behind") rfl)), m_eq := (He.meth_ok (cd.fact 85 (f := .meth "Guard" "__eq__") rfl)), ca := (of_decide_eq_true (ex_at c.more 0)), cn := (of_decide_eq_true (ex_at c.more 1)), ct := (of_decide_eq_true (ex_at c.more 2)), cm := (of_decide_eq_true (ex_at c.more 3)), k1 := (of_decide_eq_true (ex_at c.more 4)), k2 := (of_decide_eq_true (ex_at c.more 5)), s1 := (of_decide_eq_true (ex_at c.more 6)) }
  have fmax : mg "max" = none := (He.free_ok X G (cd.fact 76 (f := .free "max") rfl))
  have TB : TxtB mg := ⟨He.int_ok X G (cd.fact 92 (f := .int "GREATEST_NUMBER" 1000000000000000000) rfl), He.int_ok X G (cd.fact 93 (f := .int "MOST_BITS" 128) rfl)⟩
  have TR : TxtR mg := ⟨(He.free_ok X G (cd.fact 84 (f := .free "reversed") rfl))⟩
  have TV := TG.toTxtG.toTxtV
  have TW := TG.toTxtG
  have G_law_pen := ok_pen (P := PySem.Challenge.rw_guardsums_k17_late_moduli.prog) (w := w) (base := base) (fun_at F_law_pen) (He.free_ok X G (cd.fact 78 (f := .free "list") rfl))
  have G_law_draw := ok_draw (P := PySem.Challenge.rw_guardsums_k17_late_moduli.prog) (w := w) (base := base) (fun_at F_law_draw) TA
  have G_bezout := ok_bezout (P := PySem.Challenge.rw_guardsums_k17_late_moduli.prog) (w := w) (base := base) (mg := mg) (fun_at F_bezout)
  have G_multiple := ok_multiple (P := PySem.Challenge.rw_guardsums_k17_late_moduli.prog) (w := w) (base := base) (mg := mg) (fun_at F_multiple)
  have G_combined := ok_combined (P := PySem.Challenge.rw_guardsums_k17_late_moduli.prog) (w := w) (base := base) (fun_at F_combined) TM
  have G_put_at := ok_put_at (fun_at F_Stairs_put_at) TS G_bezout (He.glo_ok X G (cd.fact 23 (f := .glo "bezout") rfl)) F_bezout.kp b_bezout G_multiple (He.glo_ok X G (cd.fact 24 (f := .glo "multiple") rfl)) F_multiple.kp b_multiple G_combined (He.glo_ok X G (cd.fact 25 (f := .glo "combined") rfl)) F_combined.kp b_combined
  have G_st_init := ok_st_init (P := PySem.Challenge.rw_guardsums_k17_late_moduli.prog) (w := w) (base := base) (fun_at F_Stairs_init) TS
  have G_put := ok_put (fun_at F_Stairs_put) TS G_put_at b_Stairs_put_at
  have G_settled := ok_settled (fun_at F_Stairs_settled) TS G_combined (He.glo_ok X G (cd.fact 25 (f := .glo "combined") rfl)) F_combined.kp b_combined
  have G_unit := ok_unit (P := PySem.Challenge.rw_guardsums_k17_late_moduli.prog) (w := w) (base := base) (mg := mg) (fun_at F_unit)
  have G_applied := ok_applied (P := PySem.Challenge.rw_guardsums_k17_late_moduli.prog) (w := w) (base := base) (fun_at F_applied) TM
  have G_undone := ok_undone (fun_at F_undone) TS G_st_init b_Stairs_init G_put b_Stairs_put G_settled b_Stairs_settled G_unit (He.glo_ok X G (cd.fact 29 (f := .glo "unit") rfl)) F_unit.kp b_unit
  have G_is_integer := ok_isintI (P := PySem.Challenge.rw_guardsums_k17_late_moduli.prog) (w0 := w) (base := base) (fun_at F_is_integer) TV
  have G_is_within := ok_withinI (P := PySem.Challenge.rw_guardsums_k17_late_moduli.prog) (w0 := w) (base := base) (fun_at F_is_within) G_is_integer (He.glo_ok X G (cd.fact 31 (f := .glo "is_integer") rfl)) F_is_integer.kp b_is_integer
  have G_is_list := ok_islist (P := PySem.Challenge.rw_guardsums_k17_late_moduli.prog) (w0 := w) (base := base) (fun_at F_is_list) TV
  have G_wrong_number := ok_wnum (fun_at F_wrong_number) TV G_is_within (He.glo_ok X G (cd.fact 32 (f := .glo "is_within") rfl)) F_is_within.kp b_is_within
  have G_wrong_row := ok_wrow (fun_at F_wrong_row) TV G_is_list (He.glo_ok X G (cd.fact 33 (f := .glo "is_list") rfl)) F_is_list.kp b_is_list G_wrong_number (He.glo_ok X G (cd.fact 34 (f := .glo "wrong_number") rfl)) F_wrong_number.kp b_wrong_number
  have G_wrong_symbol := ok_wsym (P := PySem.Challenge.rw_guardsums_k17_late_moduli.prog) (w0 := w) (base := base) (fun_at F_wrong_symbol) TV
  have G_check_modulus := ok_chkm (fun_at F_check_modulus) TW G_is_within (He.glo_ok X G (cd.fact 32 (f := .glo "is_within") rfl)) F_is_within.kp b_is_within
  have G_checked_matrix := ok_chka (fun_at F_checked_matrix) TW G_wrong_row (He.glo_ok X G (cd.fact 35 (f := .glo "wrong_row") rfl)) F_wrong_row.kp b_wrong_row
  have G_checked_columns := ok_chkc (fun_at F_checked_columns) TW G_is_list (He.glo_ok X G (cd.fact 33 (f := .glo "is_list") rfl)) F_is_list.kp b_is_list G_is_within (He.glo_ok X G (cd.fact 32 (f := .glo "is_within") rfl)) F_is_within.kp b_is_within G_wrong_row (He.glo_ok X G (cd.fact 35 (f := .glo "wrong_row") rfl)) F_wrong_row.kp b_wrong_row
  have G_beside := ok_beside (P := PySem.Challenge.rw_guardsums_k17_late_moduli.prog) (w0 := w) (base := base) (fun_at F_beside) TW
  have G_ginit := ok_ginit (fun_at F_Guard_init) TG G_check_modulus (He.glo_ok X G (cd.fact 43 (f := .glo "check_modulus") rfl)) F_check_modulus.kp b_check_modulus G_is_within (He.glo_ok X G (cd.fact 32 (f := .glo "is_within") rfl)) F_is_within.kp b_is_within G_checked_matrix (He.glo_ok X G (cd.fact 44 (f := .glo "checked_matrix") rfl)) F_checked_matrix.kp b_checked_matrix G_undone (He.glo_ok X G (cd.fact 30 (f := .glo "undone") rfl)) F_undone.kp b_undone G_checked_columns (He.glo_ok X G (cd.fact 45 (f := .glo "checked_columns") rfl)) F_checked_columns.kp b_checked_columns G_wrong_number (He.glo_ok X G (cd.fact 34 (f := .glo "wrong_number") rfl)) F_wrong_number.kp b_wrong_number
  have G_transposed := ok_transL (P := PySem.Challenge.rw_guardsums_k17_late_moduli.prog) (w0 := w) (base := base) (fun_at F_transposed) TM
  have G_taken := ok_taken (P := PySem.Challenge.rw_guardsums_k17_late_moduli.prog) (w0 := w) (base := base) (fun_at F_taken) TL
  have G_is_reached := ok_isr (P := PySem.Challenge.rw_guardsums_k17_late_moduli.prog) (w0 := w) (base := base) (fun_at F_is_reached) TL fmax
  have G_steps_below := ok_below (fun_at F_steps_below) TL TR G_taken (He.glo_ok X G (cd.fact 38 (f := .glo "taken") rfl)) F_taken.kp b_taken G_is_reached (He.glo_ok X G (cd.fact 40 (f := .glo "is_reached") rfl)) F_is_reached.kp b_is_reached G_transposed (He.glo_ok X G (cd.fact 28 (f := .glo "transposed") rfl)) F_transposed.kp b_transposed
  have G_withinA := ok_withinA (fun_at F_is_within) (ok_isintA (P := PySem.Challenge.rw_guardsums_k17_late_moduli.prog) (w0 := w) (base := base) (fun_at F_is_integer) TV) (He.glo_ok X G (cd.fact 31 (f := .glo "is_integer") rfl)) F_is_integer.kp b_is_integer
  have G_late := ok_lateX (fun_at F_late) EX_BadSize EX_BadModulus G_BadSize_init b_BadSize_init G_BadModulus_init b_BadModulus_init TL TG TB G_withinA (He.glo_ok X G (cd.fact 32 (f := .glo "is_within") rfl)) F_is_within.kp b_is_within G_taken (He.glo_ok X G (cd.fact 38 (f := .glo "taken") rfl)) F_taken.kp b_taken G_steps_below (He.glo_ok X G (cd.fact 39 (f := .glo "steps_below") rfl)) F_steps_below.kp b_steps_below
  have G_plain := ok_plain (fdI := d_Guard_init) (fun_at F_plain) TG G_ginit b_Guard_init
  have G_digits := ok_digits (fun_at F_digits) TG G_ginit b_Guard_init G_check_modulus (He.glo_ok X G (cd.fact 43 (f := .glo "check_modulus") rfl)) F_check_modulus.kp b_check_modulus G_is_within (He.glo_ok X G (cd.fact 32 (f := .glo "is_within") rfl)) F_is_within.kp b_is_within
  have G_pair := ok_pair F_pair TG G_ginit b_Guard_init G_check_modulus (He.glo_ok X G (cd.fact 43 (f := .glo "check_modulus") rfl)) F_check_modulus.kp b_check_modulus G_is_within (He.glo_ok X G (cd.fact 32 (f := .glo "is_within") rfl)) F_is_within.kp b_is_within
  have G_law_pick := ok_pick (fun_at F_law_pick) TA G_law_draw (He.glo_ok X G (cd.fact 50 (f := .glo "_law_draw") rfl)) F_law_draw.kp b_law_draw
  have G_law_common := ok_gcd (P := PySem.Challenge.rw_guardsums_k17_late_moduli.prog) (w := w) (base := base) (fun_at F_law_common) TA
  have G_law_units := ok_units (fun_at F_law_units) TL G_law_common (He.glo_ok X G (cd.fact 52 (f := .glo "_law_common") rfl)) F_law_common.kp b_law_common
  have G_law_product := ok_lprod (P := PySem.Challenge.rw_guardsums_k17_late_moduli.prog) (w0 := w) (base := base) (fun_at F_law_product) TL
  have G_law_undone := ok_lund (fun_at F_law_undone) TL G_law_draw (He.glo_ok X G (cd.fact 50 (f := .glo "_law_draw") rfl)) F_law_draw.kp b_law_draw G_law_pick (He.glo_ok X G (cd.fact 51 (f := .glo "_law_pick") rfl)) F_law_pick.kp b_law_pick G_law_units (He.glo_ok X G (cd.fact 53 (f := .glo "_law_units") rfl)) F_law_units.kp b_law_units G_law_product (He.glo_ok X G (cd.fact 54 (f := .glo "_law_product") rfl)) F_law_product.kp b_law_product
  have G_law_modulus := ok_modulus (fun_at F_law_modulus) G_law_pick (He.glo_ok X G (cd.fact 51 (f := .glo "_law_pick") rfl)) F_law_pick.kp b_law_pick
  have G_law_row := ok_row (fun_at F_law_row) TL G_law_draw (He.glo_ok X G (cd.fact 50 (f := .glo "_law_draw") rfl)) F_law_draw.kp b_law_draw
  have G_law_fields := ok_fields (fun_at F_law_fields) TL G_law_undone (He.glo_ok X G (cd.fact 55 (f := .glo "_law_undone") rfl)) F_law_undone.kp b_law_undone G_law_row (He.glo_ok X G (cd.fact 57 (f := .glo "_law_row") rfl)) F_law_row.kp b_law_row
  have G_law_any_fields := ok_any (fun_at F_law_any_fields) G_law_modulus (He.glo_ok X G (cd.fact 56 (f := .glo "_law_modulus") rfl)) F_law_modulus.kp b_law_modulus G_law_draw (He.glo_ok X G (cd.fact 50 (f := .glo "_law_draw") rfl)) F_law_draw.kp b_law_draw G_law_fields (He.glo_ok X G (cd.fact 58 (f := .glo "_law_fields") rfl)) F_law_fields.kp b_law_fields
  have G_law_guard := ok_lguard (fun_at F_law_guard) TL TG G_ginit b_Guard_init
  have G_law_two_to := ok_two (P := PySem.Challenge.rw_guardsums_k17_late_moduli.prog) (w0 := w) (base := base) (fun_at F_law_two_to) TL
  have G_law_step := ok_step (P := PySem.Challenge.rw_guardsums_k17_late_moduli.prog) (w0 := w) (base := base) (fun_at F_law_step) TL
  have G_law_late := ok_llate (fun_at F_law_late) TL fmax G_law_step (He.glo_ok X G (cd.fact 62 (f := .glo "_law_step") rfl)) F_law_step.kp b_law_step
  have G_law_linear := ok_linear (P := PySem.Challenge.rw_guardsums_k17_late_moduli.prog) (w0 := w) (base := base) (mg := mg) (fun_at F_law_linear)
  have G_law_pair_number := ok_pairn (P := PySem.Challenge.rw_guardsums_k17_late_moduli.prog) (w0 := w) (base := base) (mg := mg) (fun_at F_law_pair_number)
  have G_law_are_known := ok_known (fun_at F_law_are_known) TL ⟨⟨_, _, G_law_draw, (He.glo_ok X G (cd.fact 50 (f := .glo "_law_draw") rfl)), F_law_draw.kp, b_law_draw⟩⟩ ⟨⟨_, _, G_law_two_to, (He.glo_ok X G (cd.fact 61 (f := .glo "_law_two_to") rfl)), F_law_two_to.kp, b_law_two_to⟩⟩ ⟨⟨_, _, G_late, (He.glo_ok X G (cd.fact 37 (f := .glo "late") rfl)), F_late.kp, b_late⟩⟩ ⟨⟨_, _, G_plain, (He.glo_ok X G (cd.fact 46 (f := .glo "plain") rfl)), F_plain.kp, b_plain⟩⟩ ⟨⟨_, _, G_pair, (He.glo_ok X G (cd.fact 48 (f := .glo "pair") rfl)), F_pair.kp, b_pair⟩⟩ ⟨⟨_, _, G_law_linear, (He.glo_ok X G (cd.fact 64 (f := .glo "_law_linear") rfl)), F_law_linear.kp, b_law_linear⟩⟩ ⟨⟨_, _, G_law_pair_number, (He.glo_ok X G (cd.fact 65 (f := .glo "_law_pair_number") rfl)), F_law_pair_number.kp, b_law_pair_number⟩⟩
  have G_law_are_refused := ok_refd FL_law_are_refused TL (He.free_ok X G (cd.fact 70 (f := .free "repr") rfl)) TG hS TMet LMet TB_law_are_refused hm_law_are_refused hu_law_are_refused ⟨⟨_, _, G_law_draw, (He.glo_ok X G (cd.fact 50 (f := .glo "_law_draw") rfl)), F_law_draw.kp, b_law_draw⟩⟩ ⟨⟨_, _, G_law_pick, (He.glo_ok X G (cd.fact 51 (f := .glo "_law_pick") rfl)), F_law_pick.kp, b_law_pick⟩⟩ ⟨⟨_, _, G_late, (He.glo_ok X G (cd.fact 37 (f := .glo "late") rfl)), F_late.kp, b_late⟩⟩ ⟨⟨_, _, G_digits, (He.glo_ok X G (cd.fact 47 (f := .glo "digits") rfl)), F_digits.kp, b_digits⟩⟩
  have bl : ∀ (s : Shared) (u : Value), BindsTo s d_law ⟨[u], []⟩ [("_law_script", u)] := fun s u => (FunD.bindsA (ps := ["_law_script"]) F_law fun _ _ _ _ _ _ us hl => match us, hl with | [_], _ => rfl) s [u] rfl
  exact law_run (fun_at F_law) bl TL TG ⟨⟨_, _, G_law_pen, (He.glo_ok X G (cd.fact 49 (f := .glo "_law_pen") rfl)), F_law_pen.kp, b_law_pen⟩⟩ ⟨⟨_, _, G_law_any_fields, (He.glo_ok X G (cd.fact 59 (f := .glo "_law_any_fields") rfl)), F_law_any_fields.kp, b_law_any_fields⟩⟩ ⟨⟨_, _, G_law_guard, (He.glo_ok X G (cd.fact 60 (f := .glo "_law_guard") rfl)), F_law_guard.kp, b_law_guard⟩⟩ ⟨⟨_, _, G_law_pick, (He.glo_ok X G (cd.fact 51 (f := .glo "_law_pick") rfl)), F_law_pick.kp, b_law_pick⟩⟩ ⟨⟨_, _, G_law_draw, (He.glo_ok X G (cd.fact 50 (f := .glo "_law_draw") rfl)), F_law_draw.kp, b_law_draw⟩⟩ ⟨⟨_, _, G_law_late, (He.glo_ok X G (cd.fact 63 (f := .glo "_law_late") rfl)), F_law_late.kp, b_law_late⟩⟩ ⟨⟨_, _, G_law_two_to, (He.glo_ok X G (cd.fact 61 (f := .glo "_law_two_to") rfl)), F_law_two_to.kp, b_law_two_to⟩⟩ ⟨⟨_, _, G_late, (He.glo_ok X G (cd.fact 37 (f := .glo "late") rfl)), F_late.kp, b_late⟩⟩ ⟨⟨_, _, G_law_are_known, (He.glo_ok X G (cd.fact 66 (f := .glo "_law_are_known") rfl)), F_law_are_known.kp, b_law_are_known⟩⟩ ⟨⟨_, _, G_law_are_refused, (He.glo_ok X G (cd.fact 68 (f := .glo "_law_are_refused") rfl)), F_law_are_refused.kp, b_law_are_refused⟩⟩ G_pair (He.glo_ok X G (cd.fact 48 (f := .glo "pair") rfl)) F_pair.kp b_pair v1_pair b1_pair e0 hL hT0
end
end Wk
open PySem PySem.W PySem.Calls PyProof.Rows
theorem PySem.Challenge.cw_guardsums_k17_late_moduli_holds : PySem.Challenge.rw_guardsums_k17_late_moduli.Holds := by
  w_on; o_law
  refine HandSHeadRun.head_imp (r := Wk.RW21) (q := view Wk.RW21.prog [78]) (H := Wk.hk) (ob := Wk.obT 5 Wk.fas Wk.fns Wk.tfs Wk.exB) (M := 20000) (loose := Wk.names) (d := HandSHeadRun.topDef Wk.RW21.prog 78) (kwd := []) Wk.obT_eq Wk.run
    (by kernel_rfl) (by kernel_rfl) (by kernel_rfl) (by rfl) (by first | assumption | decide +kernel) (by decide +kernel) ⟨rfl, rfl, rfl, rfl, rfl, by decide +kernel⟩ ?hw ?hc
  case hw => w_witness2
  case hc =>
    refine Wk.walk_hereT (l := PySem.Challenge.rw_guardsums_k17_late_moduli) (n := 63) rfl (by decide) (by kernel_rfl) ?F
    intro w mg fa h Y G hmg0
    obtain ⟨⟨K, KX, c⟩, hm⟩ := Y
    have hmg : mg ("law" : PySem.Str) = some (.ref fa) := by
      have e : (HandSHeadRun.topDef Wk.RW21.prog 78).name = ("law" : PySem.Str) := by kernel_rfl
      rw [← e]
      exact hmg0
    refine ⟨K, Wk.tfs.map (He.cT K), KX, fun p hp => ?_, fun p hp => ?_, fun p hp => ?_, fun base s H a ns _ _ _ bb tb ht e0 hL => Wk.law_at KX G hmg c hm bb tb ht e0 hL⟩
    · obtain ⟨q, hq, rfl⟩ := List.mem_map.mp hp
      exact c.empty q hq
    · obtain ⟨q, hq, rfl⟩ := List.mem_map.mp hp
      exact c.out q hq
    · obtain ⟨q, hq, rfl⟩ := List.mem_map.mp hp
      exact PySem.W.codeHd_of_K KX (c.hd q hq)

