import PyProof.Rows.All
import HandS.ForMost
import HandS.ExcOwn
import HandS.CallSlots
import HandS.More
import HandS.Conv
import HandS.Walk
import HandS.Flow
import HandS.Wide
import HandS.Deep
import HandS.TupAny
import HandS.TupLe
import HandS.TupMul
import PyProof.StrOps2
import HandS.Defaults
import HandS.MakeKwOnly
import HandS.WordsExc
import HandS.ExcInit
import HandS.ExcField
import HandS.ExcIs
import KE.KExcIs
import HandS.Iter
import KE.GoesEnum
import HandS.Strs
import PyProof.SeqIndex
import HandS.IsInst
import HandS.NoneIn
import HandS.TupSets
import KE.KDictCopyH
import HandS.SetFor
import HandS.ReCall
import HandS.OwnEq
import PyProof.InstNe
import PyProof.EqKinds
import KE.DataCmp
import PySem.Challenge.RW_finestcuts_k02_whole_clashes_of_deeds
set_option Elab.async false
set_option linter.all false
set_option maxRecDepth 100000
set_option maxHeartbeats 4000000
/-! DL, part 1: data, what denotes them, slots, steps from one heap to the next. -/
namespace DL
open PySem PySem.Spec L2
open PyProof.Rows hiding St
set_option autoImplicit false

/-- the written part; the exception that a suite holds: its address, its dict's, its class's -/
structure Kx where
  K : PySem.W.Frag
  x : Option (Addr × Addr × Addr)
/-- what is wished of exceptions; the exception in hand -/
structure We where
  w : WX
  x : Option (Addr × Addr × Addr)
abbrev kx (X : Cx) (E : We) : Kx := ⟨X.K, E.x⟩
/-- the class that the module's name c stands for -/
def ClsAt (K : PySem.W.Frag) (c : Str) (C : Addr) : Prop := PySem.W.nsIn K mainGlobals c = some (some (.ref C))
theorem ClsAt.one {K : PySem.W.Frag} {c : Str} {C C' : Addr} (h : ClsAt K c C) (h' : ClsAt K c C') : C = C' := by
  unfold ClsAt at h h'
  rw [h] at h'
  cases h'
  rfl
/-- plain data. rl: a list that is only read -/
inductive D where
  | non | bl (b : Bool) | int (i : Int) | str (s : Str) | ty (n : String)
  | lst (xs : List D) | rl (xs : List D) | tup (xs : List D) | pt (xs : List D)
  | dk (kvs : List (Key × D))
  | ins (c : Str) (fs : List (Str × D))
  | cls (c : Str)
  | xc (c : Str) (fs : List (Str × D))

/-- the tuple at a has no dict of its own (of one that the program made with care this is known) -/
def PlT (P : Hp) (a : Addr) : Prop := ∃ o u, P a = some (.frz o u) ∧ o.dict = none
mutual
inductive Dn (K : Kx) (P : Hp) : V → D → Prop
  | non : Dn K P .non .non
  | bl (b : Bool) : Dn K P (.bl b) (.bl b)
  | int (i : Int) : Dn K P (.int i) (.int i)
  | str (x : Str) : Dn K P (.str x) (.str x)
  | ty (n : String) : Dn K P (.ty n) (.ty n)
  | lst {a : Addr} {xs : List V} {ds : List D} : P a = some (.lst xs) → xs.length ≤ sizeLine → DnA K P xs ds → Dn K P (.ref a) (.lst ds)
  | rl {a : Addr} {xs : List V} {ds : List D} : SqL K.K P a xs → xs.length ≤ sizeLine → DnA K P xs ds → Dn K P (.ref a) (.rl ds)
  | tup {a : Addr} {xs : List V} {ds : List D} : SqT K.K P a xs → xs.length ≤ sizeLine → DnA K P xs ds → Dn K P (.ref a) (.tup ds)
  | pt {a : Addr} {xs : List V} {ds : List D} : SqT K.K P a xs → xs.length ≤ sizeLine → DnA K P xs ds → PlT P a → Dn K P (.ref a) (.pt ds)
  | dk {a : Addr} {kvs : List (Key × V)} {ds : List (Key × D)} : P a = some (.dK kvs) → kvs.length ≤ sizeLine → DnK K P kvs ds → Dn K P (.ref a) (.dk ds)
  | ins {a C dx : Addr} {c : Str} {fs : List (Str × V)} {ds : List (Str × D)} : P a = some (.ins C dx fs) → ClsAt K.K c C → DnF K P fs ds → Dn K P (.ref a) (.ins c ds)
  | cls {a : Addr} {c : Str} : ClsAt K.K c a → Dn K P (.ref a) (.cls c)
  | xc {a x C : Addr} {c : Str} {fs : List (Str × V)} {ds : List (Str × D)} : K.x = some (a, x, C) → ClsAt K.K c C → P x = some (.xd fs) → DnF K P fs ds → Dn K P (.ref a) (.xc c ds)
inductive DnA (K : Kx) (P : Hp) : List V → List D → Prop
  | nil : DnA K P [] []
  | cons {v : V} {vs : List V} {d : D} {ds : List D} : Dn K P v d → DnA K P vs ds → DnA K P (v :: vs) (d :: ds)
inductive DnK (K : Kx) (P : Hp) : List (Key × V) → List (Key × D) → Prop
  | nil : DnK K P [] []
  | cons {k : Key} {v : V} {vs : List (Key × V)} {d : D} {ds : List (Key × D)} : Dn K P v d → DnK K P vs ds → DnK K P ((k, v) :: vs) ((k, d) :: ds)
inductive DnF (K : Kx) (P : Hp) : List (Str × V) → List (Str × D) → Prop
  | nil : DnF K P [] []
  | cons {k : Str} {v : V} {vs : List (Str × V)} {d : D} {ds : List (Str × D)} : Dn K P v d → DnF K P vs ds → DnF K P ((k, v) :: vs) ((k, d) :: ds)
end

section
variable {K : Kx} {P P' : Hp}
theorem sqt_mono {a : Addr} {xs : List V} (e : Same P P') (h : SqT K.K P a xs) : SqT K.K P' a xs := by
  rcases h with (h | ⟨o, h⟩) | h
  · exact .inl (.inl (e _ _ h))
  · exact .inl (.inr ⟨o, e _ _ h⟩)
  · exact .inr h
mutual
theorem Dn.mono (e : Same P P') : ∀ {v : V} {d : D}, Dn K P v d → Dn K P' v d
  | _, _, .non => .non
  | _, _, .bl b => .bl b
  | _, _, .int i => .int i
  | _, _, .str x => .str x
  | _, _, .ty n => .ty n
  | _, _, .lst h z t => .lst (e _ _ h) z (DnA.mono e t)
  | _, _, .rl h z t => .rl (Same.seq e h) z (DnA.mono e t)
  | _, _, .tup h z t => .tup (sqt_mono e h) z (DnA.mono e t)
  | _, _, .pt h z t ⟨o, u, q1, q2⟩ => .pt (sqt_mono e h) z (DnA.mono e t) ⟨o, u, e _ _ q1, q2⟩
  | _, _, .dk h z t => .dk (e _ _ h) z (DnK.mono e t)
  | _, _, .ins h c t => .ins (e _ _ h) c (DnF.mono e t)
  | _, _, .cls c => .cls c
  | _, _, .xc q k h t => .xc q k (e _ _ h) (DnF.mono e t)
theorem DnA.mono (e : Same P P') : ∀ {vs : List V} {ds : List D}, DnA K P vs ds → DnA K P' vs ds
  | _, _, .nil => .nil
  | _, _, .cons h t => .cons (Dn.mono e h) (DnA.mono e t)
theorem DnK.mono (e : Same P P') : ∀ {vs : List (Key × V)} {ds : List (Key × D)}, DnK K P vs ds → DnK K P' vs ds
  | _, _, .nil => .nil
  | _, _, .cons h t => .cons (Dn.mono e h) (DnK.mono e t)
theorem DnF.mono (e : Same P P') : ∀ {vs : List (Str × V)} {ds : List (Str × D)}, DnF K P vs ds → DnF K P' vs ds
  | _, _, .nil => .nil
  | _, _, .cons h t => .cons (Dn.mono e h) (DnF.mono e t)
end
theorem DnA.length : ∀ {vs : List V} {ds : List D}, DnA K P vs ds → vs.length = ds.length
  | _, _, .nil => rfl
  | _, _, .cons _ t => by rw [List.length_cons, List.length_cons, DnA.length t]
theorem DnA.append : ∀ {vs ws : List V} {ds es : List D}, DnA K P vs ds → DnA K P ws es → DnA K P (vs ++ ws) (ds ++ es)
  | _, _, _, _, .nil, s => s
  | _, _, _, _, .cons h t, s => .cons h (DnA.append t s)
theorem DnA.get : ∀ {vs : List V} {ds : List D} {i : Nat} {d : D}, DnA K P vs ds → ds[i]? = some d → ∃ v, vs[i]? = some v ∧ Dn K P v d
  | _, _, _, _, .nil, e => by simp at e
  | _, _, 0, _, .cons h _, e => by simp at e; subst e; exact ⟨_, rfl, h⟩
  | _, _, i + 1, d, .cons _ t, e => by
    obtain ⟨v, h1, h2⟩ := DnA.get (i := i) t (by simpa using e)
    exact ⟨v, by simpa using h1, h2⟩
theorem DnA.get' : ∀ {vs : List V} {ds : List D} {i : Nat} {v : V}, DnA K P vs ds → vs[i]? = some v → ∃ d, ds[i]? = some d ∧ Dn K P v d
  | _, _, _, _, .nil, e => by simp at e
  | _, _, 0, _, .cons h _, e => by simp at e; subst e; exact ⟨_, rfl, h⟩
  | _, _, i + 1, d, .cons _ t, e => by
    obtain ⟨v, h1, h2⟩ := DnA.get' (i := i) t (by simpa using e)
    exact ⟨v, by simpa using h1, h2⟩
theorem DnA.take : ∀ {vs : List V} {ds : List D} (n : Nat), DnA K P vs ds → DnA K P (vs.take n) (ds.take n)
  | _, _, 0, _ => .nil
  | _, _, _ + 1, .nil => .nil
  | _, _, n + 1, .cons h t => .cons h (DnA.take n t)
theorem DnA.drop : ∀ {vs : List V} {ds : List D} (n : Nat), DnA K P vs ds → DnA K P (vs.drop n) (ds.drop n)
  | _, _, 0, t => t
  | _, _, _ + 1, .nil => .nil
  | _, _, n + 1, .cons _ t => DnA.drop n t
theorem DnA.set : ∀ {vs : List V} {ds : List D} {v : V} {d : D} (n : Nat), Dn K P v d → DnA K P vs ds → DnA K P (vs.set n v) (ds.set n d)
  | _, _, _, _, _, _, .nil => .nil
  | _, _, _, _, 0, h, .cons _ t => .cons h t
  | _, _, _, _, n + 1, h, .cons q t => .cons q (DnA.set n h t)
theorem DnA.snoc {vs : List V} {ds : List D} {v : V} {d : D} (t : DnA K P vs ds) (h : Dn K P v d) : DnA K P (vs ++ [v]) (ds ++ [d]) := t.append (.cons h .nil)
end

/-! ### slots: sh: a datum that nothing changes; ow: a list or dict that this slot alone holds; io: a parameter's, handed in to be changed -/
inductive Sl where
  | sh (d : D) | ow (d : D) | io (d : D)
abbrev Ev := List (Option Sl)
def ownAt (es : Ev) (i : Nat) : Option D := match es[i]? with
  | some (some (.ow d)) => some d
  | some (some (.io d)) => some d
  | _ => none
/-- what the slot holds now -/
def slotD (es : Ev) (i : Nat) : Option D := match es[i]? with
  | some (some (.sh d)) => some d
  | some (some (.ow d)) => some d
  | some (some (.io d)) => some d
  | _ => none
def OwnOk (K : Kx) (P H : Hp) (a : Addr) (d : D) : Prop := P a = none ∧ match d with
  | .lst ds => ∃ xs, H a = some (.lst xs) ∧ xs.length ≤ sizeLine ∧ DnA K P xs ds
  | .dk ds => ∃ kvs, H a = some (.dK kvs) ∧ kvs.length ≤ sizeLine ∧ DnK K P kvs ds
  | .ins c ds => ∃ C dx fs, H a = some (.ins C dx fs) ∧ ClsAt K.K c C ∧ DnF K P fs ds
  | _ => False
def Own (σ : St) (es : Ev) (a : Addr) : Prop := ∃ (i : Nat) (d : D), ownAt es i = some d ∧ σ[i]? = some (some (.ref a))

structure EnvOk (K : Kx) (P H : Hp) (σ : St) (es : Ev) : Prop where
  len : σ.length = es.length
  sub : Same P H
  sh : ∀ (i : Nat) (d : D), es[i]? = some (some (.sh d)) → ∃ v, σ[i]? = some (some v) ∧ Dn K P v d
  ow : ∀ (i : Nat) (d : D), ownAt es i = some d → ∃ a, σ[i]? = some (some (.ref a)) ∧ OwnOk K P H a d
  apart : ∀ (i j : Nat) (d d' : D) (a : Addr), i ≠ j → ownAt es i = some d → ownAt es j = some d' → σ[i]? = some (some (.ref a)) → σ[j]? ≠ some (some (.ref a))

structure Step (O : Addr → Prop) (P H P' H' : Hp) : Prop where
  pp : Same P P'
  new : ∀ a o, P' a = some o → P a = some o ∨ H a = none ∨ O a
  keep : ∀ a o, ¬ O a → H a = some o → H' a = some o
  there : ∀ a o, H a = some o → ∃ o', H' a = some o'
theorem Step.refl {O : Addr → Prop} {P H : Hp} : Step O P H P H := ⟨Same.refl _, fun _ _ e => .inl e, fun _ _ _ e => e, fun _ o e => ⟨o, e⟩⟩
theorem Step.free {O : Addr → Prop} {P H P' H' : Hp} (s : Step O P H P' H') {a : Addr} (n : H' a = none) : H a = none := by
  cases e : H a with
  | none => rfl
  | some o =>
    obtain ⟨o', q⟩ := s.there a o e
    rw [n] at q; cases q
theorem Step.trans {O O1 : Addr → Prop} {P H P1 H1 P2 H2 : Hp} (s : Step O P H P1 H1) (t : Step O1 P1 H1 P2 H2) (h : ∀ a, O1 a → O a ∨ H a = none) : Step O P H P2 H2 where
  pp := s.pp.trans t.pp
  new := fun a o e => by
    rcases t.new a o e with q | q | q
    · exact s.new a o q
    · exact .inr (.inl (s.free q))
    · rcases h a q with z | z
      · exact .inr (.inr z)
      · exact .inr (.inl z)
  keep := fun a o n e => by
    refine t.keep a o (fun z => ?_) (s.keep a o n e)
    rcases h a z with q | q
    · exact n q
    · rw [e] at q; cases q
  there := fun a o e => by
    obtain ⟨o', q⟩ := s.there a o e
    exact t.there a o' q

/-- an expression's step: the slots' values stay, owned ones may change what they hold -/
structure GoE (K : Kx) (σ : St) (es : Ev) (P H : Hp) (es' : Ev) (P' H' : Hp) : Prop where
  st : Step (Own σ es) P H P' H'
  ok : EnvOk K P' H' σ es'
  le : ∀ (i : Nat) (d' : D), ownAt es' i = some d' → ∃ d, ownAt es i = some d
  io : ∀ (i : Nat) (d : D), es[i]? = some (some (.io d)) → ∃ d', es'[i]? = some (some (.io d'))
section
variable {K : Kx} {σ σ1 σ2 : St} {es es1 es2 : Ev} {P H P1 H1 P2 H2 : Hp}
theorem GoE.own (g : GoE K σ es P H es1 P1 H1) {a : Addr} (h : Own σ es1 a) : Own σ es a := by
  obtain ⟨i, d', h1, h2⟩ := h
  obtain ⟨d, h3⟩ := g.le i d' h1
  exact ⟨i, d, h3, h2⟩
theorem GoE.refl (h : EnvOk K P H σ es) : GoE K σ es P H es P H := ⟨.refl, h, fun _ d e => ⟨d, e⟩, fun _ d e => ⟨d, e⟩⟩
theorem GoE.trans (g : GoE K σ es P H es1 P1 H1) (t : GoE K σ es1 P1 H1 es2 P2 H2) : GoE K σ es P H es2 P2 H2 where
  st := g.st.trans t.st fun _ h => .inl (g.own h)
  ok := t.ok
  le := fun i d' e => by
    obtain ⟨d, q⟩ := t.le i d' e
    exact g.le i d q
  io := fun i d e => by
    obtain ⟨d', q⟩ := g.io i d e
    exact t.io i d' q

/-- a statement's step -/
structure GoS (K : Kx) (σ : St) (es : Ev) (P H : Hp) (σ' : St) (es' : Ev) (P' H' : Hp) : Prop where
  st : Step (Own σ es) P H P' H'
  ok : EnvOk K P' H' σ' es'
  le : ∀ a, Own σ' es' a → Own σ es a ∨ H a = none
  io : ∀ (i : Nat) (d : D), es[i]? = some (some (.io d)) → (∃ d', es'[i]? = some (some (.io d'))) ∧ σ'[i]? = σ[i]?
theorem GoS.of (g : GoE K σ es P H es1 P1 H1) : GoS K σ es P H σ es1 P1 H1 := ⟨g.st, g.ok, fun _ h => .inl (g.own h), fun i d e => ⟨g.io i d e, rfl⟩⟩
theorem GoS.refl (h : EnvOk K P H σ es) : GoS K σ es P H σ es P H := .of (.refl h)
theorem GoS.trans (g : GoS K σ es P H σ1 es1 P1 H1) (t : GoS K σ1 es1 P1 H1 σ2 es2 P2 H2) : GoS K σ es P H σ2 es2 P2 H2 where
  st := g.st.trans t.st g.le
  ok := t.ok
  le := fun a h => by
    rcases t.le a h with q | q
    · exact g.le a q
    · exact .inr (g.st.free q)
  io := fun i d e => by
    obtain ⟨⟨d', q⟩, r⟩ := g.io i d e
    obtain ⟨q', r'⟩ := t.io i d' q
    exact ⟨q', r'.trans r⟩
end

/-! ### results -/
inductive R where
  | sh (d : D) | ow (i : Nat) | fr (d : D)
/-- B: the heap at the beginning -/
def RelR (K : Kx) (B : Hp) (P H : Hp) (σ : St) (es : Ev) (v : V) : R → Prop
  | .sh d => Dn K P v d
  | .ow i => σ[i]? = some (some v)
  | .fr d => ∃ a, v = .ref a ∧ OwnOk K P H a d ∧ ¬ Own σ es a ∧ B a = none
def rdR (es : Ev) : R → Option D
  | .sh d => some d
  | .fr d => some d
  | .ow i => slotD es i
/-- what v is worth now -/
inductive Bw (K : Kx) (P H : Hp) : V → D → Prop
  | dn {v : V} {d : D} : Dn K P v d → Bw K P H v d
  | ow {a : Addr} {d : D} : OwnOk K P H a d → Bw K P H (.ref a) d
section
variable {K : Kx} {σ : St} {es es1 : Ev} {P H P1 H1 B : Hp} {v : V} {r : R} {d : D} {a : Addr}
theorem slotD_own {i : Nat} (h : ownAt es i = some d) : slotD es i = some d := by
  unfold ownAt at h
  unfold slotD
  split at h <;> simp_all
theorem EnvOk.slot (ok : EnvOk K P H σ es) {i : Nat} (h : slotD es i = some d) : ∃ v, σ[i]? = some (some v) ∧ Bw K P H v d := by
  unfold slotD at h
  split at h
  · rename_i x e
    cases h
    obtain ⟨v, h1, h2⟩ := ok.sh i _ e
    exact ⟨v, h1, .dn h2⟩
  · rename_i x e
    cases h
    obtain ⟨a, h1, h2⟩ := ok.ow i d (by unfold ownAt; rw [e])
    exact ⟨_, h1, .ow h2⟩
  · rename_i x e
    cases h
    obtain ⟨a, h1, h2⟩ := ok.ow i d (by unfold ownAt; rw [e])
    exact ⟨_, h1, .ow h2⟩
  · cases h
theorem RelR.bw (ok : EnvOk K P H σ es) (h : RelR K B P H σ es v r) (e : rdR es r = some d) : Bw K P H v d := by
  cases r with
  | sh x => cases e; exact .dn h
  | fr x =>
    cases e
    obtain ⟨a, rfl, h1, _⟩ := h
    exact .ow h1
  | ow i =>
    obtain ⟨w, h1, h2⟩ := ok.slot e
    have h : σ[i]? = some (some v) := h
    rw [h] at h1
    cases h1
    exact h2
theorem OwnOk.tracked (h : OwnOk K P H a d) : ∃ o, H a = some o := by
  obtain ⟨_, h⟩ := h
  cases d with
  | lst ds => obtain ⟨xs, e, _⟩ := h; exact ⟨_, e⟩
  | dk ds => obtain ⟨xs, e, _⟩ := h; exact ⟨_, e⟩
  | ins c ds => obtain ⟨C, dx, fs, e, _⟩ := h; exact ⟨_, e⟩
  | _ => exact False.elim h
/-- an owned thing that the step does not touch -/
theorem OwnOk.step {O : Addr → Prop} (s : Step O P H P1 H1) (n : ¬ O a) (h : OwnOk K P H a d) : OwnOk K P1 H1 a d := by
  obtain ⟨o, ho⟩ := h.tracked
  obtain ⟨h0, h⟩ := h
  refine ⟨?_, ?_⟩
  · cases e : P1 a with
    | none => rfl
    | some o' =>
      rcases s.new a o' e with q | q | q
      · rw [h0] at q; cases q
      · rw [ho] at q; cases q
      · exact (n q).elim
  · cases d with
    | lst ds => obtain ⟨xs, e, z, t⟩ := h; exact ⟨xs, s.keep _ _ n e, z, t.mono s.pp⟩
    | dk ds => obtain ⟨xs, e, z, t⟩ := h; exact ⟨xs, s.keep _ _ n e, z, t.mono s.pp⟩
    | ins c ds => obtain ⟨C, dx, fs, e, k, t⟩ := h; exact ⟨C, dx, fs, s.keep _ _ n e, k, t.mono s.pp⟩
    | _ => exact False.elim h
theorem RelR.step (g : GoE K σ es P H es1 P1 H1) (h : RelR K B P H σ es v r) : RelR K B P1 H1 σ es1 v r := by
  cases r with
  | sh x => exact Dn.mono g.st.pp h
  | ow i => exact h
  | fr x =>
    obtain ⟨a, rfl, h1, h2, h3⟩ := h
    exact ⟨a, rfl, h1.step g.st h2, fun z => h2 (g.own z), h3⟩
theorem RelR.base {B1 : Hp} (hb : ∀ a, B1 a = none → B a = none) (h : RelR K B1 P H σ es v r) : RelR K B P H σ es v r := by
  cases r with
  | sh x => exact h
  | ow i => exact h
  | fr x =>
    obtain ⟨a, e, h1, h2, h3⟩ := h
    exact ⟨a, e, h1, h2, hb a h3⟩
theorem Bw.dnH (ok : Same P H) (h : Bw K P H v d) : Dn K H v d := by
  cases h with
  | dn h => exact h.mono ok
  | ow h =>
    obtain ⟨h0, h⟩ := h
    cases d with
    | lst ds => obtain ⟨xs, e, z, t⟩ := h; exact .lst e z (t.mono ok)
    | dk ds => obtain ⟨xs, e, z, t⟩ := h; exact .dk e z (t.mono ok)
    | ins c ds => obtain ⟨C, dx, fs, e, k, t⟩ := h; exact .ins e k (t.mono ok)
    | _ => exact False.elim h
end

/-! ### outcomes -/
/-- an exception: of an own class, with what its fields hold; of a built-in class -/
inductive Xn where
  | own (c : Str) (fs : List (Str × D)) | bi (n : String)
inductive Rs (α : Type) where
  | ok (a : α) | ex (x : Xn) (es : Ev) | st
def Rs.bind {α β : Type} (x : Rs α) (k : α → Rs β) : Rs β := match x with
  | .ok a => k a
  | .ex x es => .ex x es
  | .st => .st
def Rs.of {α : Type} : Option α → Rs α
  | some a => .ok a
  | none => .st
@[simp] theorem Rs.bind_ok {α β : Type} (a : α) (k : α → Rs β) : (Rs.ok a).bind k = k a := rfl
@[simp] theorem Rs.bind_ex {α β : Type} (x : Xn) (es : Ev) (k : α → Rs β) : (Rs.ex x es : Rs α).bind k = .ex x es := rfl
@[simp] theorem Rs.bind_st {α β : Type} (k : α → Rs β) : (Rs.st : Rs α).bind k = .st := rfl
@[simp] theorem Rs.of_some {α : Type} (a : α) : Rs.of (some a) = .ok a := rfl
@[simp] theorem Rs.of_none {α : Type} : Rs.of (none : Option α) = .st := rfl
def XRel (K : Kx) (P H : Hp) (cls : Value) (od : Option Addr) : Xn → Prop
  | .own c fs => ∃ C, ClsAt K.K c C ∧ cls = .ref C ∧ ((fs = [] ∧ od = none) ∨ ∃ a xs, od = some a ∧ P a = some (.xd xs) ∧ DnF K P xs fs)
  | .bi n => cls = .type n
def Post (K : Kx) (E : WX) (σ : St) (es : Ev) (P H : Hp) (res : Rs (R × Ev)) (Q : VK) : Prop := match res with
  | .ok (r, es') => ∀ v P' H', GoE K σ es P H es' P' H' → RelR K H P' H' σ es' v r → Q v H'
  | .ex x es' => ∀ P' H' cls od, GoE K σ es P H es' P' H' → XRel K P' H' cls od x → E cls od σ H'
  | .st => False
abbrev Fe := Ev → Rs (R × Ev)
def tD (K : Kx) (E : WX) (f : Fe) : TE := fun σ H Q => ∃ P es, EnvOk K P H σ es ∧ Post K E σ es P H (f es) Q
def DE (X : Cx) (E : We) (e : Expr) (f : Fe) : Prop := PE X e (tD (kx X E) E.w f)
theorem pe_imp {X : Cx} {e : Expr} {t t' : TE} (h : PE X e t) (q : ∀ σ H Q, t' σ H Q → t σ H Q) : PE X e t' := ⟨fun pins s σ H Q I z => h.run pins s σ H Q I (q σ H Q z)⟩
section
variable {K : Kx} {E : WX} {σ : St} {es es1 : Ev} {P H P1 H1 : Hp} {Q : VK}
/-- on from a later point: base 0, point 1 -/
theorem Post.bind {x : Rs (R × Ev)} {k : R × Ev → Rs (R × Ev)} (g : GoE K σ es P H es1 P1 H1) (h : Post K E σ es P H (x.bind k) Q) :
    Post K E σ es1 P1 H1 x fun v H2 => ∃ r es2 P2, GoE K σ es P H es2 P2 H2 ∧ GoE K σ es1 P1 H1 es2 P2 H2 ∧ RelR K H P2 H2 σ es2 v r ∧ Post K E σ es P H (k (r, es2)) Q := by
  cases x with
  | ok p =>
    obtain ⟨r, es2⟩ := p
    exact fun v P2 H2 g2 rel => ⟨r, es2, P2, g.trans g2, g2, rel.base fun a n => g.st.free n, h⟩
  | ex x es2 => exact fun P2 H2 cls od g2 rel => h P2 H2 cls od (g.trans g2) rel
  | st => exact h
theorem tD_bind {f : Fe} {k : R × Ev → Rs (R × Ev)} (g : GoE K σ es P H es1 P1 H1) (h : Post K E σ es P H ((f es1).bind k) Q) :
    tD K E f σ H1 fun v H2 => ∃ r es2 P2, GoE K σ es P H es2 P2 H2 ∧ GoE K σ es1 P1 H1 es2 P2 H2 ∧ RelR K H P2 H2 σ es2 v r ∧ Post K E σ es P H (k (r, es2)) Q :=
  ⟨P1, es1, g.ok, Post.bind g h⟩
theorem Post.ok {r : R} {es2 : Ev} {P2 H2 : Hp} {v : V} (h : Post K E σ es P H (.ok (r, es2)) Q) (g : GoE K σ es P H es2 P2 H2) (rel : RelR K H P2 H2 σ es2 v r) : Q v H2 := h v P2 H2 g rel
theorem Post.of {o : Option (R × Ev)} (h : Post K E σ es P H (Rs.of o) Q) : ∃ r es2, o = some (r, es2) ∧ Post K E σ es P H (.ok (r, es2)) Q := by
  cases o with
  | none => exact False.elim h
  | some p => exact ⟨p.1, p.2, rfl, h⟩
end
end DL

/-! DL, part 2: expressions. -/
namespace DL
open PySem PySem.Spec L2
open PyProof.Rows hiding St
set_option autoImplicit false

section
variable {K : Kx} {E : WX} {σ : St} {es es1 es2 : Ev} {P H P1 H1 P2 H2 B : Hp} {v : V} {r : R} {d : D} {a p : Addr} {o : HO} {Q Q' : VK}
theorem ne_trk {a p : Addr} {o : HO} {H : Hp} (h : H a = some o) (n : H p = none) : a ≠ p := ne_of_none h n
theorem OwnOk.move (h : OwnOk K P H a d) (s : Same P P1) (n : P1 a = none) (k : ∀ o, H a = some o → H1 a = some o) : OwnOk K P1 H1 a d := by
  obtain ⟨h0, h⟩ := h
  refine ⟨n, ?_⟩
  cases d with
  | lst ds => obtain ⟨xs, e, z, t⟩ := h; exact ⟨xs, k _ e, z, t.mono s⟩
  | dk ds => obtain ⟨xs, e, z, t⟩ := h; exact ⟨xs, k _ e, z, t.mono s⟩
  | ins c ds => obtain ⟨C, dx, fs, e, kc, t⟩ := h; exact ⟨C, dx, fs, k _ e, kc, t.mono s⟩
  | _ => exact False.elim h
/-- a new object that is not shared yet -/
theorem EnvOk.alloc (g : EnvOk K P2 H2 σ es2) (n : H2 p = none) : EnvOk K P2 (upd H2 p o) σ es2 where
  len := g.len
  sub := fun b u e => by rw [upd_ne (ne_of_none (g.sub _ _ e) n)]; exact g.sub _ _ e
  sh := g.sh
  ow := fun i d e => by
    obtain ⟨a, h1, h2⟩ := g.ow i d e
    exact ⟨a, h1, h2.move (Same.refl _) h2.1 fun u q => by rw [upd_ne (ne_of_none q n)]; exact q⟩
  apart := g.apart
theorem same_updP {P H : Hp} {p : Addr} {o : HO} (s : Same P H) (n : H p = none) : Same P (upd P p o) := fun b u e => by
  rw [upd_ne (ne_of_none (s _ _ e) n)]; exact e
theorem EnvOk.allocP (g : EnvOk K P2 H2 σ es2) (n : H2 p = none) : EnvOk K (upd P2 p o) (upd H2 p o) σ es2 where
  len := g.len
  sub := fun b u e => by
    by_cases hb : b = p
    · subst hb; rw [upd_same] at e ⊢; exact e
    · rw [upd_ne hb] at e ⊢; exact g.sub _ _ e
  sh := fun i d e => by
    obtain ⟨v, h1, h2⟩ := g.sh i d e
    exact ⟨v, h1, h2.mono (same_updP g.sub n)⟩
  ow := fun i d e => by
    obtain ⟨a, h1, h2⟩ := g.ow i d e
    obtain ⟨u, hu⟩ := h2.tracked
    have ne := ne_of_none hu n
    exact ⟨a, h1, h2.move (same_updP g.sub n) (by rw [upd_ne ne]; exact h2.1) fun u q => by rw [upd_ne ne]; exact q⟩
  apart := g.apart
theorem GoE.alloc (g : GoE K σ es P H es2 P2 H2) (n : H2 p = none) : GoE K σ es P H es2 P2 (upd H2 p o) where
  st := ⟨g.st.pp, g.st.new, fun b u nb e => by
    have q := g.st.keep b u nb e
    rw [upd_ne (ne_of_none q n)]; exact q, fun b u e => by
    obtain ⟨u', q⟩ := g.st.there b u e
    exact ⟨u', by rw [upd_ne (ne_of_none q n)]; exact q⟩⟩
  ok := g.ok.alloc n
  le := g.le
  io := g.io
theorem GoE.allocP (g : GoE K σ es P H es2 P2 H2) (n : H2 p = none) : GoE K σ es P H es2 (upd P2 p o) (upd H2 p o) where
  st := ⟨g.st.pp.trans (same_updP g.ok.sub n), fun b u e => by
    by_cases hb : b = p
    · subst hb; exact .inr (.inl (g.st.free n))
    · rw [upd_ne hb] at e; exact g.st.new b u e, (g.alloc (o := o) n).st.keep, (g.alloc (o := o) n).st.there⟩
  ok := g.ok.allocP n
  le := g.le
  io := g.io
/-- what was fresh is shared from now on -/
theorem GoE.freeze (g : GoE K σ es P H es1 P1 H1) (h : OwnOk K P1 H1 a d) (no : ¬ Own σ es1 a) (hb : H a = none) : ∃ P2, GoE K σ es P H es1 P2 H1 ∧ Dn K P2 (.ref a) d ∧ Same P1 P2 := by
  obtain ⟨o, ho⟩ := h.tracked
  have s : Same P1 (upd P1 a o) := fun b u e => by
    rw [upd_ne (ne_of_none e h.1)]; exact e
  refine ⟨upd P1 a o, ⟨⟨g.st.pp.trans s, fun b u e => ?_, g.st.keep, g.st.there⟩, ⟨g.ok.len, fun b u e => ?_, fun i x e => ?_, fun i x e => ?_, g.ok.apart⟩, g.le, g.io⟩, ?_, s⟩
  · by_cases hb' : b = a
    · subst hb'; exact .inr (.inl hb)
    · rw [upd_ne hb'] at e; exact g.st.new b u e
  · by_cases hb' : b = a
    · subst hb'; rw [upd_same] at e; cases e; exact ho
    · rw [upd_ne hb'] at e; exact g.ok.sub b u e
  · obtain ⟨w, h1, h2⟩ := g.ok.sh i x e
    exact ⟨w, h1, h2.mono s⟩
  · obtain ⟨c, h1, h2⟩ := g.ok.ow i x e
    have ne : c ≠ a := fun z => no ⟨i, x, e, by rw [← z]; exact h1⟩
    exact ⟨c, h1, h2.move s (by rw [upd_ne ne]; exact h2.1) fun u q => q⟩
  · obtain ⟨h0, h⟩ := h
    cases d with
    | lst ds =>
      obtain ⟨xs, e, z, t⟩ := h
      rw [ho] at e; cases e
      exact .lst upd_same z (t.mono s)
    | dk ds =>
      obtain ⟨xs, e, z, t⟩ := h
      rw [ho] at e; cases e
      exact .dk upd_same z (t.mono s)
    | ins c ds =>
      obtain ⟨C, dx, fs, e, kc, t⟩ := h
      rw [ho] at e; cases e
      exact .ins upd_same kc (t.mono s)
    | _ => exact False.elim h
theorem ownAt_set_sh {es : Ev} {i j : Nat} {d x : D} (h : ownAt (es.set i (some (.sh d))) j = some x) : j ≠ i ∧ ownAt es j = some x := by
  unfold ownAt at h ⊢
  by_cases hj : i = j
  · subst hj
    by_cases hi : i < es.length
    · rw [List.getElem?_set_self hi] at h; simp at h
    · rw [List.getElem?_eq_none (by simpa using hi)] at h; simp at h
  · rw [List.getElem?_set_ne hj] at h
    exact ⟨Ne.symm hj, h⟩
/-- what a slot owns is shared from now on -/
theorem GoE.freezeO (g : GoE K σ es P H es1 P1 H1) {i : Nat} (hi : es1[i]? = some (some (.ow d))) : ∃ a P2, σ[i]? = some (some (.ref a)) ∧ GoE K σ es P H (es1.set i (some (.sh d))) P2 H1 ∧ Dn K P2 (.ref a) d ∧ Same P1 P2 := by
  have hoi : ownAt es1 i = some d := by unfold ownAt; rw [hi]
  have hlt : i < es1.length := (List.getElem?_eq_some_iff.mp hi).1
  obtain ⟨a, hs, h⟩ := g.ok.ow i d hoi
  obtain ⟨o, ho⟩ := h.tracked
  have s : Same P1 (upd P1 a o) := fun b u e => by
    rw [upd_ne (ne_of_none e h.1)]; exact e
  have dn : Dn K (upd P1 a o) (.ref a) d := by
    obtain ⟨h0, h⟩ := h
    cases d with
    | lst ds =>
      obtain ⟨xs, e, z, t⟩ := h
      rw [ho] at e; cases e
      exact .lst upd_same z (t.mono s)
    | dk ds =>
      obtain ⟨xs, e, z, t⟩ := h
      rw [ho] at e; cases e
      exact .dk upd_same z (t.mono s)
    | ins c ds =>
      obtain ⟨C, dx, fs, e, kc, t⟩ := h
      rw [ho] at e; cases e
      exact .ins upd_same kc (t.mono s)
    | _ => exact False.elim h
  refine ⟨a, upd P1 a o, hs, ⟨⟨g.st.pp.trans s, fun b u e => ?_, g.st.keep, g.st.there⟩, ⟨by rw [List.length_set]; exact g.ok.len, fun b u e => ?_, fun j x e => ?_, fun j x e => ?_, fun j k x y b hjk e1 e2 => ?_⟩, fun j x e => ?_, fun j x e => ?_⟩, dn, s⟩
  · by_cases hb' : b = a
    · subst hb'; exact .inr (.inr (g.own ⟨i, d, hoi, hs⟩))
    · rw [upd_ne hb'] at e; exact g.st.new b u e
  · by_cases hb' : b = a
    · subst hb'; rw [upd_same] at e; cases e; exact ho
    · rw [upd_ne hb'] at e; exact g.ok.sub b u e
  · by_cases hj : i = j
    · subst hj
      rw [List.getElem?_set_self hlt] at e
      cases e
      exact ⟨_, hs, dn⟩
    · rw [List.getElem?_set_ne hj] at e
      obtain ⟨w, h1, h2⟩ := g.ok.sh j x e
      exact ⟨w, h1, h2.mono s⟩
  · obtain ⟨hj, e'⟩ := ownAt_set_sh e
    obtain ⟨c, h1, h2⟩ := g.ok.ow j x e'
    have ne : c ≠ a := fun z => g.ok.apart j i x d c hj e' hoi h1 (by rw [z]; exact hs)
    exact ⟨c, h1, h2.move s (by rw [upd_ne ne]; exact h2.1) fun u q => q⟩
  · exact g.ok.apart j k x y b hjk (ownAt_set_sh e1).2 (ownAt_set_sh e2).2
  · exact g.le j x (ownAt_set_sh e).2
  · obtain ⟨x', q⟩ := g.io j x e
    refine ⟨x', ?_⟩
    have hj : i ≠ j := fun z => by subst z; rw [hi] at q; cases q
    rw [List.getElem?_set_ne hj]; exact q

/-- a result as a datum that is shared -/
def toSh (r : R) (es : Ev) : Option (D × Ev) := match r with
  | .sh d => some (d, es)
  | .fr d => some (d, es)
  | .ow i => match es[i]? with
    | some (some (.sh d)) => some (d, es)
    | some (some (.ow d)) => some (d, es.set i (some (.sh d)))
    | _ => none
theorem toSh_ok (g : GoE K σ es P H es1 P1 H1) (rel : RelR K H P1 H1 σ es1 v r) (e : toSh r es1 = some (d, es2)) : ∃ P2, GoE K σ es P H es2 P2 H1 ∧ Dn K P2 v d ∧ Same P1 P2 := by
  cases r with
  | sh x => cases e; exact ⟨P1, g, rel, Same.refl _⟩
  | fr x =>
    cases e
    obtain ⟨a, rfl, h1, h2, h3⟩ := rel
    exact g.freeze h1 h2 h3
  | ow i =>
    have rel : σ[i]? = some (some v) := rel
    unfold toSh at e
    simp only at e
    split at e
    · rename_i x q
      cases e
      obtain ⟨w, h1, h2⟩ := g.ok.sh i _ q
      rw [rel] at h1; cases h1
      exact ⟨P1, g, h2, Same.refl _⟩
    · rename_i x q
      cases e
      obtain ⟨a, P2, h1, h2, h3, h4⟩ := g.freezeO q
      rw [rel] at h1; cases h1
      exact ⟨P2, h2, h3, h4⟩
    · cases e

theorem Post.mono {x : Rs (R × Ev)} (h : Post K E σ es P H x Q) (q : ∀ v H', Q v H' → Q' v H') : Post K E σ es P H x Q' := by
  cases x with
  | ok p => obtain ⟨r, es'⟩ := p; exact fun v P' H' g rel => q _ _ (h v P' H' g rel)
  | ex x es' => exact h
  | st => exact h
theorem tD_mono {f : Fe} (h : tD K E f σ H Q) (q : ∀ v H', Q v H' → Q' v H') : tD K E f σ H Q' := by
  obtain ⟨P, es, ok, h⟩ := h
  exact ⟨P, es, ok, h.mono q⟩
end

/-- .. of an expression -/
def fSh (f : Fe) : Fe := fun es => (f es).bind fun p => (Rs.of (toSh p.1 p.2)).bind fun q => .ok (.sh q.1, q.2)
section
variable {X : Cx} {E : We} {e : Expr} {f : Fe}
theorem de_sh (h : DE X E e f) : DE X E e (fSh f) := by
  refine pe_imp h fun σ H Q ⟨P, es, ok, h⟩ => ?_
  refine tD_mono (tD_bind (GoE.refl ok) h) fun v H2 ⟨r, es2, P2, g, _, rel, q⟩ => ?_
  simp only at q
  cases e : toSh r es2 with
  | none => rw [e] at q; exact False.elim q
  | some p =>
    rw [e] at q
    obtain ⟨P3, g3, dn, _⟩ := toSh_ok g rel e
    exact q v P3 H2 g3 dn
end

/-! ### names and constants -/
def fVar (i : Nat) : Fe := fun es => match es[i]? with
  | some (some (.sh d)) => .ok (.sh d, es)
  | some (some (.ow _)) => .ok (.ow i, es)
  | some (some (.io _)) => .ok (.ow i, es)
  | _ => .st
def fCon (d : D) : Fe := fun es => .ok (.sh d, es)
section
variable {X : Cx} {E : We} {e : Expr} {f : Fe} {i : Nat}
theorem de_var (h : PE X e (tVar i)) : DE X E e (fVar i) := by
  refine pe_imp h fun σ H Q ⟨P, es, ok, h⟩ => ?_
  unfold fVar at h
  split at h
  · rename_i d q
    obtain ⟨v, h1, h2⟩ := ok.sh i d q
    exact ⟨v, h1, h.ok (.refl ok) h2⟩
  · rename_i d q
    obtain ⟨a, h1, h2⟩ := ok.ow i d (by unfold ownAt; rw [q])
    exact ⟨_, h1, h.ok (.refl ok) h1⟩
  · rename_i d q
    obtain ⟨a, h1, h2⟩ := ok.ow i d (by unfold ownAt; rw [q])
    exact ⟨_, h1, h.ok (.refl ok) h1⟩
  · exact False.elim h
theorem de_con {v : V} {d : D} (h : PE X e (tC v)) (hd : ∀ P, Dn (kx X E) P v d) : DE X E e (fCon d) :=
  pe_imp h fun σ H Q ⟨P, es, ok, h⟩ => h.ok (.refl ok) (hd P)
theorem de_int {i : Int} {j pos} : DE X E (.Constant (.int i) j pos) (fCon (.int i)) := de_con pe_int fun _ => .int _
theorem de_bl {b : Bool} {j pos} : DE X E (.Constant (.bool b) j pos) (fCon (.bl b)) := de_con pe_bl fun _ => .bl _
theorem de_non {j pos} : DE X E (.Constant .none j pos) (fCon .non) := de_con pe_non fun _ => .non
theorem de_str {x : Str} {j pos} : DE X E (.Constant (.str x) j pos) (fCon (.str x)) := de_con pe_str fun _ => .str _
end

/-! ### operators, by data -/
/-- an operator's outcome: a datum; a new list; a new tuple; a new dict -/
inductive Z where
  | sh (d : D) | lst (ds : List D) | tup (ds : List D) | dk (ds : List (Key × D))
def Z.r : Z → R
  | .sh d => .sh d
  | .lst ds => .fr (.lst ds)
  | .tup ds => .sh (.tup ds)
  | .dk ds => .fr (.dk ds)
def ZQ (K : Kx) (P H : Hp) (Q : VK) : Z → Prop
  | .sh d => ∀ w, Dn K P w d → Q w H
  | .lst ds => ∀ p zs, H p = none → zs.length ≤ sizeLine → DnA K P zs ds → Q (.ref p) (upd H p (.lst zs))
  | .tup ds => (∀ w, Dn K P w (.tup ds) → Q w H) ∧ ∀ p zs, H p = none → zs.length ≤ sizeLine → DnA K P zs ds → Q (.ref p) (upd H p (.tup zs))
  | .dk ds => ∀ p zs, H p = none → zs.length ≤ sizeLine → DnK K P zs ds → Q (.ref p) (upd H p (.dK zs))
theorem zq_of {K : Kx} {E : WX} {σ : St} {es es2 : Ev} {P H P2 H2 : Hp} {Q : VK} {z : Z} (g : GoE K σ es P H es2 P2 H2) (h : Post K E σ es P H (.ok (z.r, es2)) Q) : ZQ K P2 H2 Q z := by
  have nown : ∀ p, H2 p = none → ¬ Own σ es2 p := fun p n ⟨i, d, h1, h2⟩ => by
    obtain ⟨a, h3, h4⟩ := g.ok.ow i d h1
    rw [h2] at h3; cases h3
    obtain ⟨o, ho⟩ := h4.tracked
    rw [n] at ho; cases ho
  have noP : ∀ p, H2 p = none → P2 p = none := fun p n => by
    cases e : P2 p with
    | none => rfl
    | some o => rw [g.ok.sub _ _ e] at n; cases n
  cases z with
  | sh d => exact fun w hw => h.ok g hw
  | lst ds => exact fun p zs n z t => h.ok (g.alloc n) ⟨p, rfl, ⟨noP p n, zs, upd_same, z, t⟩, nown p n, g.st.free n⟩
  | tup ds => exact ⟨fun w hw => h.ok g hw, fun p zs n z t => h.ok (g.allocP n) (Dn.tup (.inl (.inl upd_same)) z (t.mono (same_updP g.ok.sub n)))⟩
  | dk ds => exact fun p zs n z t => h.ok (g.alloc n) ⟨p, rfl, ⟨noP p n, zs, upd_same, z, t⟩, nown p n, g.st.free n⟩

def Op2 (K : Kx) (r : R2) (g : D → D → Option Z) : Prop :=
  ∀ (P H : Hp) (v u : V) (x y : D) (z : Z) (Q : VK), Same P H → Bw K P H v x → Bw K P H u y → g x y = some z → ZQ K P H Q z → r v u H Q
def Op1 (K : Kx) (r : V → Hp → VK → Prop) (g : D → Option Z) : Prop :=
  ∀ (P H : Hp) (v : V) (x : D) (z : Z) (Q : VK), Same P H → Bw K P H v x → g x = some z → ZQ K P H Q z → r v H Q
def ap2 (g : D → D → Option Z) (ra rb : R) (es : Ev) : Option (R × Ev) := (rdR es ra).bind fun x => (rdR es rb).bind fun y => (g x y).map fun z => (z.r, es)
def ap1 (g : D → Option Z) (ra : R) (es : Ev) : Option (R × Ev) := (rdR es ra).bind fun x => (g x).map fun z => (z.r, es)
def fOp (g : D → D → Option Z) (fa fb : Fe) : Fe := fun es => (fa es).bind fun p => (fb p.2).bind fun q => Rs.of (ap2 g p.1 q.1 q.2)
def fUn (g : D → Option Z) (fa : Fe) : Fe := fun es => (fa es).bind fun p => Rs.of (ap1 g p.1 p.2)
theorem ap2_ok {K : Kx} {E : WX} {σ : St} {es es2 : Ev} {P H P2 H2 : Hp} {Q : VK} {r : R2} {g : D → D → Option Z} {ra rb : R} {v u : V} (hd : Op2 K r g) (G : GoE K σ es P H es2 P2 H2)
    (a : RelR K H P2 H2 σ es2 v ra) (b : RelR K H P2 H2 σ es2 u rb) (h : Post K E σ es P H (Rs.of (ap2 g ra rb es2)) Q) : r v u H2 Q := by
  unfold ap2 at h
  cases e1 : rdR es2 ra with
  | none => rw [e1] at h; exact False.elim h
  | some x =>
    cases e2 : rdR es2 rb with
    | none => rw [e1, e2] at h; exact False.elim h
    | some y =>
      cases e3 : g x y with
      | none => rw [e1, e2] at h; simp only [Option.bind_some, e3] at h; exact False.elim h
      | some z =>
        rw [e1, e2] at h
        simp only [Option.bind_some, e3, Option.map_some, Rs.of_some] at h
        exact hd P2 H2 v u x y z Q G.ok.sub (a.bw G.ok e1) (b.bw G.ok e2) e3 (zq_of G h)
theorem ap1_ok {K : Kx} {E : WX} {σ : St} {es es2 : Ev} {P H P2 H2 : Hp} {Q : VK} {r : V → Hp → VK → Prop} {g : D → Option Z} {ra : R} {v : V} (hd : Op1 K r g) (G : GoE K σ es P H es2 P2 H2)
    (a : RelR K H P2 H2 σ es2 v ra) (h : Post K E σ es P H (Rs.of (ap1 g ra es2)) Q) : r v H2 Q := by
  unfold ap1 at h
  cases e1 : rdR es2 ra with
  | none => rw [e1] at h; exact False.elim h
  | some x =>
    cases e3 : g x with
    | none => rw [e1] at h; simp only [Option.bind_some, e3] at h; exact False.elim h
    | some z =>
      rw [e1] at h
      simp only [Option.bind_some, e3, Option.map_some, Rs.of_some] at h
      exact hd P2 H2 v x z Q G.ok.sub (a.bw G.ok e1) e3 (zq_of G h)
section
variable {X : Cx} {E : We} {a b c : Expr} {fa fb fc : Fe} {pos : Pos} {r r' : R2} {g g' : D → D → Option Z}
theorem two_ok {σ : St} {H : Hp} {Q : VK} (hd : Op2 (kx X E) r g) (h : tD (kx X E) E.w (fOp g fa fb) σ H Q) : tOp r (tD (kx X E) E.w fa) (tD (kx X E) E.w fb) σ H Q := by
  obtain ⟨P, es, ok, h⟩ := h
  refine tD_mono (tD_bind (GoE.refl ok) h) fun v H1 ⟨ra, es1, P1, g1, _, rel1, q1⟩ => ?_
  refine tD_mono (tD_bind g1 q1) fun u H2 ⟨rb, es2, P2, g2, g12, rel2, q2⟩ => ?_
  exact ap2_ok hd g2 (rel1.step g12) rel2 q2
theorem de_op {op : Operator} (ho : OpR X (binaryOp op) r) (hd : Op2 (kx X E) r g) (ha : DE X E a fa) (hb : DE X E b fb) : DE X E (.BinOp a op b pos) (fOp g fa fb) :=
  pe_imp (pe_op ho ha hb) fun _ _ _ h => two_ok hd h
theorem de_cmp {op : CmpOp} (ho : OpR X (compareOp op) r) (hd : Op2 (kx X E) r g) (ha : DE X E a fa) (hb : DE X E b fb) (hm : behindInMarks op b = false) : DE X E (.Compare a [op] [b] pos) (fOp g fa fb) :=
  pe_imp (pe_cmpR ho ha hb hm) fun _ _ _ h => two_ok hd h
theorem de_ix (ho : IxR X r) (hd : Op2 (kx X E) r g) (ha : DE X E a fa) (hb : DE X E b fb) (hs : PlainIx b) : DE X E (.Subscript a b pos) (fOp g fa fb) :=
  pe_imp (pe_ix ho ha hb hs) fun _ _ _ h => two_ok hd h
theorem de_un {op : UnaryOp} {r : V → Hp → VK → Prop} {g : D → Option Z} (ho : UnR X (unaryOp op) r) (hd : Op1 (kx X E) r g) (ha : DE X E a fa) : DE X E (.UnaryOp op a pos) (fUn g fa) :=
  pe_imp (pe_un ho ha) fun σ H Q ⟨P, es, ok, h⟩ => tD_mono (tD_bind (GoE.refl ok) h) fun v H1 ⟨ra, es1, P1, g1, _, rel1, q1⟩ => ap1_ok hd g1 rel1 q1
/-- built-ins of one argument -/
theorem de_callB1 {id : String} {x : Str} {p : Pos} {r : List V → Hp → VK → Prop} {g : D → Option Z} (hc : CallR X (.builtin id) r) (hd : Op1 (kx X E) (fun v => r [v]) g) (hg : Gl X x) (hm : X.mg x = none) (hv : bootBuiltins x = some (.builtin id)) (ha : DE X E a fa)
    (hn : x ≠ "__name__" := by decide) (hdb : (x == ("__debug__" : Str)) = false := by decide) (he : starEach [a] X.env = (false, eval a X.env) :: starEach [] X.env := by rfl) : DE X E (.Call (.Name x p) [a] [] pos) (fUn g fa) :=
  pe_imp (pe_callB hc hg hm hv (pa_cons ha pa_nil he) hn hdb he) fun σ H Q ⟨P, es, ok, h⟩ => tD_mono (tD_bind (GoE.refl ok) h) fun v H1 ⟨ra, es1, P1, g1, _, rel1, q1⟩ => ap1_ok hd g1 rel1 q1
theorem de_callT1 {id : String} {x : Str} {p : Pos} {r : List V → Hp → VK → Prop} {g : D → Option Z} (hc : CallR X (.type id) r) (hd : Op1 (kx X E) (fun v => r [v]) g) (hg : Gl X x) (hm : X.mg x = none) (hv : bootBuiltins x = some (.type id)) (ha : DE X E a fa)
    (hn : x ≠ "__name__" := by decide) (hdb : (x == ("__debug__" : Str)) = false := by decide) (he : starEach [a] X.env = (false, eval a X.env) :: starEach [] X.env := by rfl) : DE X E (.Call (.Name x p) [a] [] pos) (fUn g fa) :=
  pe_imp (pe_callTy hc hg hm hv (pa_cons ha pa_nil he) hn hdb he) fun σ H Q ⟨P, es, ok, h⟩ => tD_mono (tD_bind (GoE.refl ok) h) fun v H1 ⟨ra, es1, P1, g1, _, rel1, q1⟩ => ap1_ok hd g1 rel1 q1
theorem de_callB2 {id : String} {x : Str} {p : Pos} {r : List V → Hp → VK → Prop} (hc : CallR X (.builtin id) r) (hd : Op2 (kx X E) (fun v u => r [v, u]) g) (hg : Gl X x) (hm : X.mg x = none) (hv : bootBuiltins x = some (.builtin id)) (ha : DE X E a fa) (hb : DE X E b fb)
    (hn : x ≠ "__name__" := by decide) (hdb : (x == ("__debug__" : Str)) = false := by decide) (he : starEach [a, b] X.env = (false, eval a X.env) :: starEach [b] X.env := by rfl) (he2 : starEach [b] X.env = (false, eval b X.env) :: starEach [] X.env := by rfl)
    (hpl : (backTo pos (starEach [b] X.env)).any (·.1) = false := by rfl) : DE X E (.Call (.Name x p) [a, b] [] pos) (fOp g fa fb) :=
  pe_imp (pe_callB hc hg hm hv (pa_cons ha (pa_cons hb pa_nil he2) he) hn hdb he hpl) fun _ _ _ h => two_ok (r := fun v u => r [v, u]) hd h

/-! ### and, or, not, if, chains -/
def asB : R → Option Bool
  | .sh (.bl b) => some b
  | _ => none
def fAnd (fa fb : Fe) : Fe := fun es => (fa es).bind fun p => (Rs.of (asB p.1)).bind fun b => if b = true then fb p.2 else .ok (.sh (.bl false), p.2)
def fOr (fa fb : Fe) : Fe := fun es => (fa es).bind fun p => (Rs.of (asB p.1)).bind fun b => if b = true then .ok (.sh (.bl true), p.2) else fb p.2
def fNot (fa : Fe) : Fe := fun es => (fa es).bind fun p => (Rs.of (asB p.1)).bind fun b => .ok (.sh (.bl (!b)), p.2)
theorem asB_ok {r : R} {b : Bool} (h : asB r = some b) : r = .sh (.bl b) := by
  unfold asB at h
  split at h
  · cases h; rfl
  · cases h
theorem dn_bl {K : Kx} {P : Hp} {v : V} {b : Bool} (h : Dn K P v (.bl b)) : v = .bl b := by cases h; rfl
theorem de_one {op} (h : DE X E a fa) : DE X E (.BoolOp op [a] pos) fa := pe_one h
theorem de_and {rest : List Expr} (ha : DE X E a fa) (hb : DE X E (.BoolOp .And (b :: rest) pos) fb) : DE X E (.BoolOp .And (a :: b :: rest) pos) (fAnd fa fb) := by
  refine pe_imp (pe_and ha hb) fun σ H Q ⟨P, es, ok, h⟩ => tD_mono (tD_bind (GoE.refl ok) h) fun v H1 ⟨ra, es1, P1, g1, _, rel1, q1⟩ => ?_
  cases e : asB ra with
  | none => simp only [e] at q1; exact False.elim q1
  | some c =>
    simp only [e, Rs.of_some, Rs.bind_ok] at q1
    obtain rfl := asB_ok e
    refine ⟨c, dn_bl rel1, ?_⟩
    cases c with
    | true => exact ⟨P1, es1, g1.ok, by
        have q2 : Post (kx X E) E.w σ es P H (fb es1) Q := q1
        have := Post.bind (k := Rs.ok) g1 (x := fb es1) (Q := Q) (by cases hh : fb es1 <;> (rw [hh] at q2; exact q2))
        exact this.mono fun v H2 ⟨r, es2, P2, g2, _, rel2, q⟩ => q.ok g2 rel2⟩
    | false => exact q1.ok g1 (.bl _)
theorem Post.from {K : Kx} {E : WX} {σ : St} {es es1 : Ev} {P H P1 H1 : Hp} {Q : VK} {x : Rs (R × Ev)} (g : GoE K σ es P H es1 P1 H1) (h : Post K E σ es P H x Q) : Post K E σ es1 P1 H1 x Q := by
  have := Post.bind (k := Rs.ok) g (x := x) (Q := Q) (by cases x <;> exact h)
  exact this.mono fun v H2 ⟨r, es2, P2, g2, _, rel2, q⟩ => q.ok g2 rel2
theorem tD_from {K : Kx} {E : WX} {σ : St} {es es1 : Ev} {P H P1 H1 : Hp} {Q : VK} {f : Fe} (g : GoE K σ es P H es1 P1 H1) (h : Post K E σ es P H (f es1) Q) : tD K E f σ H1 Q := ⟨P1, es1, g.ok, h.from g⟩
theorem de_or {rest : List Expr} (ha : DE X E a fa) (hb : DE X E (.BoolOp .Or (b :: rest) pos) fb) : DE X E (.BoolOp .Or (a :: b :: rest) pos) (fOr fa fb) := by
  refine pe_imp (pe_or ha hb) fun σ H Q ⟨P, es, ok, h⟩ => tD_mono (tD_bind (GoE.refl ok) h) fun v H1 ⟨ra, es1, P1, g1, _, rel1, q1⟩ => ?_
  cases e : asB ra with
  | none => simp only [e] at q1; exact False.elim q1
  | some c =>
    simp only [e, Rs.of_some, Rs.bind_ok] at q1
    obtain rfl := asB_ok e
    refine ⟨c, dn_bl rel1, ?_⟩
    cases c with
    | false => exact tD_from g1 q1
    | true => exact q1.ok g1 (.bl _)
theorem de_not (ha : DE X E a fa) : DE X E (.UnaryOp .Not a pos) (fNot fa) := by
  refine pe_imp (pe_not ha) fun σ H Q ⟨P, es, ok, h⟩ => tD_mono (tD_bind (GoE.refl ok) h) fun v H1 ⟨ra, es1, P1, g1, _, rel1, q1⟩ => ?_
  cases e : asB ra with
  | none => simp only [e] at q1; exact False.elim q1
  | some c =>
    simp only [e, Rs.of_some, Rs.bind_ok] at q1
    obtain rfl := asB_ok e
    exact ⟨c, dn_bl rel1, q1.ok g1 (.bl _)⟩
/-- a result that is a number, a text, a truth or None -/
def asFl : R → Option D
  | .sh (.int i) => some (.int i)
  | .sh (.str s) => some (.str s)
  | .sh (.bl b) => some (.bl b)
  | .sh .non => some .non
  | _ => none
theorem asFl_ok {K : Kx} {B P H : Hp} {σ : St} {es : Ev} {v : V} {r : R} {d : D} (h : asFl r = some d) (rel : RelR K B P H σ es v r) : r = .sh d ∧ ∀ P', Dn K P' v d := by
  unfold asFl at h
  split at h <;> first | cases h | skip
  all_goals (cases rel; exact ⟨rfl, fun _ => by constructor⟩)
def fChain (g g' : D → D → Option Z) (fa fb fc : Fe) : Fe := fun es => (fa es).bind fun p => (fb p.2).bind fun q => (Rs.of (asFl q.1)).bind fun y => (Rs.of (ap2 g p.1 (.sh y) q.2)).bind fun s => (Rs.of (asB s.1)).bind fun b =>
  if b = true then (fc s.2).bind fun t => Rs.of (ap2 g' (.sh y) t.1 t.2) else .ok (.sh (.bl false), s.2)
theorem ap2_es {g : D → D → Option Z} {ra rb : R} {es : Ev} {p : R × Ev} (h : ap2 g ra rb es = some p) : p.2 = es := by
  unfold ap2 at h
  cases e1 : rdR es ra with
  | none => rw [e1] at h; cases h
  | some x =>
    cases e2 : rdR es rb with
    | none => rw [e1, e2] at h; cases h
    | some y =>
      rw [e1, e2] at h
      simp only [Option.bind_some] at h
      cases e3 : g x y with
      | none => rw [e3] at h; cases h
      | some z => rw [e3] at h; simp at h; rw [← h]
theorem chain_ok {σ : St} {H : Hp} {Q : VK} (hd : Op2 (kx X E) r g) (hd' : Op2 (kx X E) r' g') (h : tD (kx X E) E.w (fChain g g' fa fb fc) σ H Q) : tChain r r' (tD (kx X E) E.w fa) (tD (kx X E) E.w fb) (tD (kx X E) E.w fc) σ H Q := by
  obtain ⟨P, es, ok, h⟩ := h
  refine tD_mono (tD_bind (GoE.refl ok) h) fun v H1 ⟨ra, es1, P1, g1, _, rel1, q1⟩ => ?_
  refine tD_mono (tD_bind g1 q1) fun u H2 ⟨rb, es2, P2, g2, g12, rel2, q2⟩ => ?_
  cases ey : asFl rb with
  | none => simp only [ey] at q2; exact False.elim q2
  | some y =>
  simp only [ey, Rs.of_some, Rs.bind_ok] at q2
  obtain ⟨rfl, hy⟩ := asFl_ok ey rel2
  cases e : ap2 g ra (.sh y) es2 with
  | none => rw [e] at q2; exact False.elim q2
  | some p =>
    obtain ⟨rz, es3⟩ := p
    obtain rfl : es3 = es2 := ap2_es e
    rw [e] at q2
    simp only [Rs.of_some, Rs.bind_ok] at q2
    cases eb : asB rz with
    | none => rw [eb] at q2; exact False.elim q2
    | some c =>
      rw [eb] at q2
      simp only [Rs.of_some, Rs.bind_ok] at q2
      obtain rfl := asB_ok eb
      -- the first comparison gives c, the heap as it was
      refine ap2_ok (E := E.w) (Q := fun z H3 => ∃ k, z = .bl k ∧ (if k = true then tD (kx X E) E.w fc σ H3 fun w' H4 => r' u w' H4 Q else Q (.bl false) H3)) hd g2 (rel1.step g12) rel2 ?_
      rw [e]
      intro w P3 H3 g3 relw
      refine ⟨c, dn_bl relw, ?_⟩
      cases c with
      | false => exact q2.ok g3 (.bl _)
      | true =>
        simp only [if_true] at q2 ⊢
        refine tD_mono (tD_bind g3 q2) fun t H4 ⟨rc, es4, P4, g4, g34, rel4, q4⟩ => ?_
        exact ap2_ok hd' g4 (show RelR (kx X E) H P4 H4 σ es4 u (.sh y) from hy P4) rel4 q4
theorem de_chain {op op' : CmpOp} (ho : OpR X (compareOp op) r) (hd : Op2 (kx X E) r g) (ho' : OpR X (compareOp op') r') (hd' : Op2 (kx X E) r' g') (ha : DE X E a fa) (hb : DE X E b fb) (hc : DE X E c fc)
    (hm : lastMarks [op, op'] [b, c] = false := by with_unfolding_all rfl) : DE X E (.Compare a [op, op'] [b, c] pos) (fChain g g' fa fb fc) :=
  pe_imp (pe_chain ho ho' ha hb hc hm) fun _ _ _ h => chain_ok hd hd' h

/-! ### tests -/
abbrev Ft := Ev → Rs (Bool × Ev)
def PostB (K : Kx) (E : WX) (σ : St) (es : Ev) (P H : Hp) (res : Rs (Bool × Ev)) (Q : Bool → Hp → Prop) : Prop := match res with
  | .ok (b, es') => ∀ P' H', GoE K σ es P H es' P' H' → Q b H'
  | .ex x es' => ∀ P' H' cls od, GoE K σ es P H es' P' H' → XRel K P' H' cls od x → E cls od σ H'
  | .st => False
def tDT (K : Kx) (E : WX) (f : Ft) : TT := fun σ H Q => ∃ P es, EnvOk K P H σ es ∧ PostB K E σ es P H (f es) Q
def DT (X : Cx) (E : We) (e : Expr) (f : Ft) : Prop := PT X e (tDT (kx X E) E.w f)
def DW (X : Cx) (E : We) (e : Expr) (f : Ft) : Prop := PW X e (tDT (kx X E) E.w f)
theorem pt_imp {X : Cx} {e : Expr} {t t' : TT} (h : PT X e t) (q : ∀ σ H Q, t' σ H Q → t σ H Q) : PT X e t' := ⟨fun pins s σ H Q I z => h.run pins s σ H Q I (q σ H Q z)⟩
theorem pw_imp {X : Cx} {e : Expr} {t t' : TT} (h : PW X e t) (q : ∀ σ H Q, t' σ H Q → t σ H Q) : PW X e t' := ⟨fun wh pins s σ H Q I z => h.run wh pins s σ H Q I (q σ H Q z)⟩
/-- a value's truth -/
def truD : D → Option Bool
  | .non => some false
  | .bl b => some b
  | .int i => some (i != 0)
  | .str s => if s.length ≤ sizeLine then some ((s.length : Int) != 0) else none
  | .lst ds => some (!ds.isEmpty)
  | .rl ds => some (!ds.isEmpty)
  | .tup ds => some (!ds.isEmpty)
  | .dk ds => some (!ds.isEmpty)
  | _ => none
def fTru (f : Fe) : Ft := fun es => (f es).bind fun p => (Rs.of ((rdR p.2 p.1).bind truD)).bind fun b => .ok (b, p.2)
def fTB (f : Fe) : Ft := fun es => (f es).bind fun p => (Rs.of (asB p.1)).bind fun b => .ok (b, p.2)
def fAndT (fa fb : Ft) : Ft := fun es => (fa es).bind fun p => if p.1 = true then fb p.2 else .ok (false, p.2)
def fOrT (fa fb : Ft) : Ft := fun es => (fa es).bind fun p => if p.1 = true then .ok (true, p.2) else fb p.2
def fNotT (fa : Ft) : Ft := fun es => (fa es).bind fun p => .ok (!p.1, p.2)
section
variable {K : Kx} {E : WX} {σ : St} {es es1 : Ev} {P H P1 H1 : Hp}
theorem tD_bindB {f : Fe} {k : R × Ev → Rs (Bool × Ev)} {Q : Bool → Hp → Prop} (g : GoE K σ es P H es1 P1 H1) (h : PostB K E σ es P H ((f es1).bind k) Q) :
    tD K E f σ H1 fun v H2 => ∃ r es2 P2, GoE K σ es P H es2 P2 H2 ∧ GoE K σ es1 P1 H1 es2 P2 H2 ∧ RelR K H P2 H2 σ es2 v r ∧ PostB K E σ es P H (k (r, es2)) Q := by
  refine ⟨P1, es1, g.ok, ?_⟩
  cases e : f es1 with
  | ok p =>
    rw [e] at h
    exact fun v P2 H2 g2 rel => ⟨p.1, p.2, P2, g.trans g2, g2, rel.base fun a n => g.st.free n, h⟩
  | ex x es2 =>
    rw [e] at h
    exact fun P2 H2 cls od g2 rel => h P2 H2 cls od (g.trans g2) rel
  | st => rw [e] at h; exact h
theorem tDT_bind {f : Ft} {k : Bool × Ev → Rs (Bool × Ev)} {Q : Bool → Hp → Prop} (g : GoE K σ es P H es1 P1 H1) (h : PostB K E σ es P H ((f es1).bind k) Q) :
    tDT K E f σ H1 fun b H2 => ∃ es2 P2, GoE K σ es P H es2 P2 H2 ∧ PostB K E σ es P H (k (b, es2)) Q := by
  refine ⟨P1, es1, g.ok, ?_⟩
  cases e : f es1 with
  | ok p =>
    rw [e] at h
    exact fun P2 H2 g2 => ⟨p.2, P2, g.trans g2, h⟩
  | ex x es2 =>
    rw [e] at h
    exact fun P2 H2 cls od g2 rel => h P2 H2 cls od (g.trans g2) rel
  | st => rw [e] at h; exact h
theorem tDT_bindE {f : Ft} {k : Bool × Ev → Rs (R × Ev)} {Q : VK} (g : GoE K σ es P H es1 P1 H1) (h : Post K E σ es P H ((f es1).bind k) Q) :
    tDT K E f σ H1 fun b H2 => ∃ es2 P2, GoE K σ es P H es2 P2 H2 ∧ Post K E σ es P H (k (b, es2)) Q := by
  refine ⟨P1, es1, g.ok, ?_⟩
  cases e : f es1 with
  | ok p =>
    rw [e] at h
    exact fun P2 H2 g2 => ⟨p.2, P2, g.trans g2, h⟩
  | ex x es2 =>
    rw [e] at h
    exact fun P2 H2 cls od g2 rel => h P2 H2 cls od (g.trans g2) rel
  | st => rw [e] at h; exact h
theorem tDT_mono {f : Ft} {Q Q' : Bool → Hp → Prop} (h : tDT K E f σ H Q) (q : ∀ v H', Q v H' → Q' v H') : tDT K E f σ H Q' := by
  obtain ⟨P, es, ok, h⟩ := h
  refine ⟨P, es, ok, ?_⟩
  cases e : f es with
  | ok p => rw [e] at h; exact fun P' H' g => q _ _ (h P' H' g)
  | ex x es' => rw [e] at h; exact h
  | st => rw [e] at h; exact h
theorem tDT_from {f : Ft} {Q : Bool → Hp → Prop} (g : GoE K σ es P H es1 P1 H1) (h : PostB K E σ es P H (f es1) Q) : tDT K E f σ H1 Q := by
  refine ⟨P1, es1, g.ok, ?_⟩
  cases e : f es1 with
  | ok p => rw [e] at h; exact fun P2 H2 g2 => h P2 H2 (g.trans g2)
  | ex x es2 => rw [e] at h; exact fun P2 H2 cls od g2 rel => h P2 H2 cls od (g.trans g2) rel
  | st => rw [e] at h; exact h
end
theorem tru_of {K : Kx} {P H : Hp} {v : V} {d : D} {k : Bool} (s : Same P H) (h : Bw K P H v d) (e : truD d = some k) : TruV K.K v H k := by
  have h := h.dnH s
  cases h with
  | non => cases e; rfl
  | bl b => cases e; rfl
  | int i => cases e; rfl
  | str x =>
    unfold truD at e
    simp only at e
    split at e
    · cases e; exact ⟨by assumption, rfl⟩
    · cases e
  | ty n => cases e
  | lst h1 z t =>
    cases e
    exact .inl ⟨_, .inl (.inl h1), by cases t <;> rfl⟩
  | rl h1 z t =>
    cases e
    exact .inl ⟨_, h1, by cases t <;> rfl⟩
  | pt h1 z t p => cases e
  | tup h1 z t =>
    cases e
    exact .inr (.inl ⟨_, h1, by cases t <;> rfl⟩)
  | dk h1 z t =>
    cases e
    exact .inr (.inr ⟨_, h1, by cases t <;> rfl⟩)
  | ins h1 c t => cases e
  | cls c => cases e
  | xc q k h t => cases e
/-- a test by the value's truth: he by intro _; rfl -/
theorem dt_tru (ha : DE X E a fa) (he : ∀ whole, isTrue a X.env whole = (do let v ← whole; standAt a.pos; holding [v] (truthy v)) := by intro _; rfl) : DT X E a (fTru fa) := by
  refine pt_imp (pt_truth ha he) fun σ H Q ⟨P, es, ok, h⟩ => tD_mono (tD_bindB (GoE.refl ok) h) fun v H1 ⟨ra, es1, P1, g1, _, rel1, q1⟩ => ?_
  simp only at q1
  cases e : rdR es1 ra with
  | none => rw [e] at q1; exact False.elim q1
  | some d =>
    cases e2 : truD d with
    | none => rw [e] at q1; simp only [Option.bind_some, e2] at q1; exact False.elim q1
    | some k =>
      rw [e] at q1
      simp only [Option.bind_some, e2, Rs.of_some, Rs.bind_ok] at q1
      exact ⟨k, tru_of g1.ok.sub (rel1.bw g1.ok e) e2, q1 P1 H1 g1⟩
/-- a comparison -/
theorem dt_cmp {op : CmpOp} (ho : OpR X (compareOp op) r) (hd : Op2 (kx X E) r g) (ha : DE X E a fa) (hb : DE X E b fb) (hm : behindInMarks op b = false) : DT X E (.Compare a [op] [b] pos) (fTB (fOp g fa fb)) := by
  refine pt_imp (pt_cmpR ho ha hb hm) fun σ H Q ⟨P, es, ok, h⟩ => two_ok hd (tD_mono (tD_bindB (GoE.refl ok) h) fun v H1 ⟨ra, es1, P1, g1, _, rel1, q1⟩ => ?_)
  cases e : asB ra with
  | none => simp only [e] at q1; exact False.elim q1
  | some c =>
    simp only [e, Rs.of_some, Rs.bind_ok] at q1
    obtain rfl := asB_ok e
    exact ⟨c, dn_bl rel1, q1 P1 H1 g1⟩
theorem dt_chain {op op' : CmpOp} (ho : OpR X (compareOp op) r) (hd : Op2 (kx X E) r g) (ho' : OpR X (compareOp op') r') (hd' : Op2 (kx X E) r' g') (ha : DE X E a fa) (hb : DE X E b fb) (hc : DE X E c fc)
    (hm : lastMarks [op, op'] [b, c] = false := by with_unfolding_all rfl) : DT X E (.Compare a [op, op'] [b, c] pos) (fTB (fChain g g' fa fb fc)) := by
  refine pt_imp (pt_chain ho ho' ha hb hc hm) fun σ H Q ⟨P, es, ok, h⟩ => chain_ok hd hd' (tD_mono (tD_bindB (GoE.refl ok) h) fun v H1 ⟨ra, es1, P1, g1, _, rel1, q1⟩ => ?_)
  cases e : asB ra with
  | none => simp only [e] at q1; exact False.elim q1
  | some c =>
    simp only [e, Rs.of_some, Rs.bind_ok] at q1
    obtain rfl := asB_ok e
    exact ⟨c, dn_bl rel1, q1 P1 H1 g1⟩
variable {ga gb : Ft}
theorem dw_and1 (ha : DT X E a ga) : DW X E (.BoolOp .And [a] pos) ga := pw_and1 ha
theorem dw_or1 (ha : DT X E a ga) : DW X E (.BoolOp .Or [a] pos) ga := pw_or1 ha
theorem dw_and {rest : List Expr} (ha : DT X E a ga) (hb : DW X E (.BoolOp .And (b :: rest) pos) gb) : DW X E (.BoolOp .And (a :: b :: rest) pos) (fAndT ga gb) := by
  refine pw_imp (pw_and ha hb) fun σ H Q ⟨P, es, ok, h⟩ => tDT_mono (tDT_bind (GoE.refl ok) h) fun c H1 ⟨es1, P1, g1, q1⟩ => ?_
  cases c with
  | true => exact tDT_from g1 q1
  | false => exact q1 P1 H1 g1
theorem dw_or {rest : List Expr} (ha : DT X E a ga) (hb : DW X E (.BoolOp .Or (b :: rest) pos) gb) : DW X E (.BoolOp .Or (a :: b :: rest) pos) (fOrT ga gb) := by
  refine pw_imp (pw_or ha hb) fun σ H Q ⟨P, es, ok, h⟩ => tDT_mono (tDT_bind (GoE.refl ok) h) fun c H1 ⟨es1, P1, g1, q1⟩ => ?_
  cases c with
  | false => exact tDT_from g1 q1
  | true => exact q1 P1 H1 g1
theorem dt_w (h : DW X E a ga) : DT X E a ga := PW.pt h
theorem dt_not (ha : DT X E a ga) : DT X E (.UnaryOp .Not a pos) (fNotT ga) :=
  pt_imp (pt_not ha) fun σ H Q ⟨P, es, ok, h⟩ => tDT_mono (tDT_bind (GoE.refl ok) h) fun c H1 ⟨es1, P1, g1, q1⟩ => q1 P1 H1 g1
def fIfE (ft : Ft) (fa fb : Fe) : Fe := fun es => (ft es).bind fun p => if p.1 = true then fa p.2 else fb p.2
theorem de_ifE (hc : DT X E c ga) (ha : DE X E a fa) (hb : DE X E b fb) : DE X E (.IfExp c a b pos) (fIfE ga fa fb) := by
  refine pe_imp (pe_ifExp hc ha hb) fun σ H Q ⟨P, es, ok, h⟩ => tDT_mono (tDT_bindE (GoE.refl ok) h) fun c H1 ⟨es1, P1, g1, q1⟩ => ?_
  cases c with
  | true => exact tD_from g1 q1
  | false => exact tD_from g1 q1
end
end DL

/-! DL, part 3: operators on data. -/
namespace DL
open PySem PySem.Spec L2
open PyProof.Rows hiding St
set_option autoImplicit false

/-! ### what a value is, by its datum -/
section
variable {K : Kx} {E : WX} {P H : Hp} {v : V}
theorem bw_int {i : Int} (h : Bw K P H v (.int i)) : v = .int i := by
  cases h with
  | dn h => cases h; rfl
  | ow h => exact h.2.elim
theorem bw_str {x : Str} (h : Bw K P H v (.str x)) : v = .str x := by
  cases h with
  | dn h => cases h; rfl
  | ow h => exact h.2.elim
theorem bw_bl {b : Bool} (h : Bw K P H v (.bl b)) : v = .bl b := by
  cases h with
  | dn h => cases h; rfl
  | ow h => exact h.2.elim
theorem bw_non (h : Bw K P H v .non) : v = .non := by
  cases h with
  | dn h => cases h; rfl
  | ow h => exact h.2.elim
theorem bw_ty {n : String} (h : Bw K P H v (.ty n)) : v = .ty n := by
  cases h with
  | dn h => cases h; rfl
  | ow h => exact h.2.elim
theorem bw_lst {ds : List D} (s : Same P H) (h : Bw K P H v (.lst ds)) : ∃ a xs, v = .ref a ∧ H a = some (.lst xs) ∧ xs.length ≤ sizeLine ∧ DnA K P xs ds := by
  cases h with
  | dn h => cases h with | lst h z t => exact ⟨_, _, rfl, s _ _ h, z, t⟩
  | ow h =>
    obtain ⟨_, xs, e, z, t⟩ := h
    exact ⟨_, xs, rfl, e, z, t⟩
theorem bw_rl {ds : List D} (s : Same P H) (h : Bw K P H v (.rl ds)) : ∃ a xs, v = .ref a ∧ SqL K.K H a xs ∧ xs.length ≤ sizeLine ∧ DnA K P xs ds := by
  cases h with
  | dn h => cases h with | rl h z t => exact ⟨_, _, rfl, Same.seq s h, z, t⟩
  | ow h => exact h.2.elim
theorem bw_tup {ds : List D} (s : Same P H) (h : Bw K P H v (.tup ds)) : ∃ a xs, v = .ref a ∧ SqT K.K H a xs ∧ xs.length ≤ sizeLine ∧ DnA K P xs ds := by
  cases h with
  | dn h => cases h with | tup h z t => exact ⟨_, _, rfl, sqt_mono s h, z, t⟩
  | ow h => exact h.2.elim
theorem bw_dk {ds : List (Key × D)} (s : Same P H) (h : Bw K P H v (.dk ds)) : ∃ a xs, v = .ref a ∧ H a = some (.dK xs) ∧ xs.length ≤ sizeLine ∧ DnK K P xs ds := by
  cases h with
  | dn h => cases h with | dk h z t => exact ⟨_, _, rfl, s _ _ h, z, t⟩
  | ow h =>
    obtain ⟨_, xs, e, z, t⟩ := h
    exact ⟨_, xs, rfl, e, z, t⟩
theorem bw_pt {ds : List D} (s : Same P H) (h : Bw K P H v (.pt ds)) : ∃ a xs, v = .ref a ∧ SqT K.K H a xs ∧ xs.length ≤ sizeLine ∧ DnA K P xs ds ∧ PlT P a := by
  cases h with
  | dn h => cases h with | pt h z t p => exact ⟨_, _, rfl, sqt_mono s h, z, t, p⟩
  | ow h => exact h.2.elim
/-- a list or tuple that is read -/
def seqD : D → Option (List D)
  | .lst ds => some ds
  | .rl ds => some ds
  | .tup ds => some ds
  | .pt ds => some ds
  | _ => none
theorem bw_seq {d : D} {ds : List D} (s : Same P H) (h : Bw K P H v d) (e : seqD d = some ds) : ∃ a xs, v = .ref a ∧ (SqL K.K H a xs ∨ SqT K.K H a xs) ∧ xs.length ≤ sizeLine ∧ DnA K P xs ds := by
  cases d <;> cases e
  · obtain ⟨a, xs, h1, h2, h3, h4⟩ := bw_lst s h; exact ⟨a, xs, h1, .inl (.inl (.inl h2)), h3, h4⟩
  · obtain ⟨a, xs, h1, h2, h3, h4⟩ := bw_rl s h; exact ⟨a, xs, h1, .inl h2, h3, h4⟩
  · obtain ⟨a, xs, h1, h2, h3, h4⟩ := bw_tup s h; exact ⟨a, xs, h1, .inr h2, h3, h4⟩
  · obtain ⟨a, xs, h1, h2, h3, h4, _⟩ := bw_pt s h; exact ⟨a, xs, h1, .inr h2, h3, h4⟩
end

/-! ### + - * // % ** -/
def rAddA (K : PySem.W.Frag) : R2 := fun x y H Q => rI0 (fun i j => .int (i + j)) x y H Q ∨ (∃ i j, x = .str i ∧ y = .str j ∧ i.length + j.length ≤ sizeLine ∧ Q (.str (i ++ j)) H) ∨ rCat x y H Q ∨ rCatA K x y H Q
theorem op_addA {X : Cx} : OpR X (binaryOp .Add) (rAddA X.K) := OpR.or op_add (OpR.or op_add_str (OpR.or op_cat op_catA))
def addD : D → D → Option Z
  | .int i, .int j => some (.sh (.int (i + j)))
  | .str a, .str b => if a.length + b.length ≤ sizeLine then some (.sh (.str (a ++ b))) else none
  | .lst a, .lst b => if a.length + b.length ≤ sizeLine then some (.lst (a ++ b)) else none
  | .tup a, .tup b => if a.length + b.length ≤ sizeLine then some (.tup (a ++ b)) else none
  | _, _ => none
theorem addD_ok {K : Kx} : Op2 K (rAddA K.K) addD := by
  intro P H v u x y z Q s hx hy e q
  unfold addD at e
  split at e
  · cases e
    rw [bw_int hx, bw_int hy]
    exact .inl ⟨_, _, rfl, rfl, q _ (.int _)⟩
  · split at e
    · cases e
      rename_i hz
      rw [bw_str hx, bw_str hy]
      exact .inr (.inl ⟨_, _, rfl, rfl, hz, q _ (.str _)⟩)
    · cases e
  · split at e
    · cases e
      rename_i hz
      obtain ⟨a, xs, rfl, h1, z1, t1⟩ := bw_lst s hx
      obtain ⟨b, ys, rfl, h2, z2, t2⟩ := bw_lst s hy
      have hl : xs.length + ys.length ≤ sizeLine := by rw [t1.length, t2.length]; exact hz
      exact .inr (.inr (.inl ⟨a, b, xs, ys, rfl, rfl, h1, h2, hl, fun p n => q p _ n (by rw [List.length_append]; exact hl) (t1.append t2)⟩))
    · cases e
  · split at e
    · cases e
      rename_i hz
      obtain ⟨a, xs, rfl, h1, z1, t1⟩ := bw_tup s hx
      obtain ⟨b, ys, rfl, h2, z2, t2⟩ := bw_tup s hy
      have hl : xs.length + ys.length ≤ sizeLine := by rw [t1.length, t2.length]; exact hz
      refine .inr (.inr (.inr ⟨a, b, xs, ys, rfl, rfl, h1, h2, hl, fun e => ?_, fun _ e => ?_, fun _ _ p n => q.2 p _ n (by rw [List.length_append]; exact hl) (t1.append t2)⟩))
      · subst e
        cases t1
        cases hy with
        | dn hy => exact q.1 _ hy
        | ow hy => exact hy.2.elim
      · subst e
        cases t2
        rw [List.append_nil] at q
        cases hx with
        | dn hx => exact q.1 _ hx
        | ow hx => exact hx.2.elim
    · cases e
  · cases e
def subD : D → D → Option Z
  | .int i, .int j => some (.sh (.int (i - j)))
  | _, _ => none
theorem subD_ok {K : Kx} : Op2 K (rI0 fun i j => .int (i - j)) subD := by
  intro P H v u x y z Q s hx hy e q
  unfold subD at e
  split at e
  · cases e
    rw [bw_int hx, bw_int hy]
    exact ⟨_, _, rfl, rfl, q _ (.int _)⟩
  · cases e
/-- text * int -/
def repS (a : Str) (n : Int) : Str := ⟨(List.replicate n.toNat a.cps).foldl (· ++ ·) #[]⟩
def rMulS : R2 := fun x y H Q => ∃ (a : Str) (n : Int), x = .str a ∧ y = .int n ∧ 2 ≤ n ∧ n ≤ 1000 ∧ 0 < a.length ∧ a.length ≤ 1000 ∧ a.length * n.toNat ≤ sizeLine ∧ (repS a n).length ≤ sizeLine ∧ Q (.str (repS a n)) H
theorem op_mulS {X : Cx} : OpR X (binaryOp .Mult) rMulS := by
  intro pins s σ H x y v u Q I rx ry h
  obtain ⟨a, n, rfl, rfl, h1, h2, h3, h4, h5, h6, q⟩ := h
  obtain ⟨t, rfl⟩ := rx
  obtain ⟨t', rfl⟩ := ry
  have e1 : ¬ n < 1 := by omega
  have e2 : (n == 1 || a.length == 0) = false := by
    rw [Bool.or_eq_false_iff]
    exact ⟨beq_eq_false_iff_ne.mpr (by omega), beq_eq_false_iff_ne.mpr (by omega)⟩
  refine PySem.P.mul_str ?_ (fun _ _ => ?_) (fun _ _ => ?_) ?_
  · rw [decide_eq_false (by omega), decide_eq_false (by omega)]; rfl
  · have : (1000 : Int) ≤ (2 ^ 63 - 1) / n := Int.le_ediv_of_mul_le (by omega) (by omega)
    omega
  · unfold Builtin.Str.tooLong
    exact decide_eq_false (by omega)
  · rw [if_neg e1, e2]
    exact ⟨h6, ⟨.str _, H, I.tok _, ⟨_, rfl⟩, q⟩⟩
def rMulA (K : PySem.W.Frag) : R2 := fun x y H Q => rI CMul (fun i j => .int (i * j)) x y H Q ∨ rI CMulW (fun i j => .int (i * j)) x y H Q ∨ rMulS x y H Q ∨ rRep x y H Q ∨ rRepT K x y H Q
theorem op_mulA {X : Cx} : OpR X (binaryOp .Mult) (rMulA X.K) := OpR.or op_mul (OpR.or op_mulW (OpR.or op_mulS (OpR.or op_rep op_repT)))
def mulOk (i j : Int) : Bool := decide ((-(2 ^ 64) < i ∧ i < 2 ^ 64) ∨ (-(2 ^ 64) < j ∧ j < 2 ^ 64))
def mulOkW (i j : Int) : Bool := decide (i.natAbs.log2 + j.natAbs.log2 < 1000000)
def mulD : D → D → Option Z
  | .int i, .int j => if mulOk i j || mulOkW i j then some (.sh (.int (i * j))) else none
  | .str a, .int n => if 2 ≤ n ∧ n ≤ 1000 ∧ 0 < a.length ∧ a.length ≤ 1000 ∧ a.length * n.toNat ≤ sizeLine ∧ (repS a n).length ≤ sizeLine then some (.sh (.str (repS a n))) else none
  | .lst ds, .int n => if -(2 ^ 63) ≤ n ∧ n < 2 ^ 63 ∧ ds.length * n.toNat ≤ sizeLine then some (.lst (List.replicate n.toNat ds).flatten) else none
  | .tup ds, .int n => if ds ≠ [] ∧ 2 ≤ n ∧ n ≤ 1000 ∧ ds.length ≤ 1000 then some (.tup (List.replicate n.toNat ds).flatten) else none
  | _, _ => none
theorem DnA.rep {K : Kx} {P : Hp} {xs : List V} {ds : List D} (t : DnA K P xs ds) : ∀ n : Nat, DnA K P (List.replicate n xs).flatten (List.replicate n ds).flatten
  | 0 => .nil
  | n + 1 => by
    rw [List.replicate_succ, List.replicate_succ, List.flatten_cons, List.flatten_cons]
    exact t.append (DnA.rep t n)
theorem rep_len {α : Type} (xs : List α) (n : Nat) : (List.replicate n xs).flatten.length = xs.length * n := by
  induction n with
  | zero => rfl
  | succ n ih => rw [List.replicate_succ, List.flatten_cons, List.length_append, ih, Nat.mul_succ, Nat.add_comm]
theorem mulD_ok {K : Kx} : Op2 K (rMulA K.K) mulD := by
  intro P H v u x y z Q s hx hy e q
  unfold mulD at e
  split at e
  · split at e
    · cases e
      rename_i i j hc
      rw [bw_int hx, bw_int hy]
      rw [Bool.or_eq_true] at hc
      rcases hc with hc | hc
      · have hc := of_decide_eq_true hc
        exact .inl ⟨_, _, rfl, rfl, hc, q _ (.int _)⟩
      · have hc := of_decide_eq_true hc
        exact .inr (.inl ⟨_, _, rfl, rfl, hc, q _ (.int _)⟩)
    · cases e
  · split at e
    · cases e
      rename_i hc
      obtain ⟨h1, h2, h3, h4, h5, h6⟩ := hc
      rw [bw_str hx, bw_int hy]
      exact .inr (.inr (.inl ⟨_, _, rfl, rfl, h1, h2, h3, h4, h5, h6, q _ (.str _)⟩))
    · cases e
  · split at e
    · cases e
      rename_i hc
      obtain ⟨h1, h2, h3⟩ := hc
      obtain ⟨a, xs, rfl, hh, z1, t1⟩ := bw_lst s hx
      rw [bw_int hy]
      rw [← t1.length] at h3
      exact .inr (.inr (.inr (.inl ⟨a, _, xs, rfl, rfl, hh, h1, h2, h3, fun p np => q p _ np (by rw [rep_len]; exact h3) (t1.rep _)⟩)))
    · cases e
  · split at e
    · cases e
      rename_i ds n hc
      obtain ⟨h1, h2, h3, h4⟩ := hc
      obtain ⟨a, xs, rfl, hh, z1, t1⟩ := bw_tup s hx
      rw [bw_int hy]
      have hl := t1.length
      have hs : sizeLine = 16777216 := sizeLine_eq
      refine .inr (.inr (.inr (.inr ⟨a, _, xs, rfl, rfl, hh, fun e => ?_, h2, h3, by omega, fun p np => q.2 p _ np ?_ (t1.rep _)⟩)))
      · subst e; cases t1; exact h1 rfl
      · rw [rep_len, hl]
        have : ds.length * n.toNat ≤ 1000 * 1000 := Nat.mul_le_mul h4 (by omega)
        omega
    · cases e
  · cases e
def rDivA : R2 := fun x y H Q => rI CDiv (fun i j => .int (i / j)) x y H Q ∨ rI CDivW (fun i j => .int (i / j)) x y H Q
theorem op_divA {X : Cx} : OpR X (binaryOp .FloorDiv) rDivA := OpR.or op_fdiv op_fdivW
def divD : D → D → Option Z
  | .int i, .int j => if 0 < j ∧ (j < 1073741824 ∨ j.natAbs.log2 < 9000) then some (.sh (.int (i / j))) else none
  | _, _ => none
theorem divD_ok {K : Kx} : Op2 K rDivA divD := by
  intro P H v u x y z Q s hx hy e q
  unfold divD at e
  split at e
  · split at e
    · cases e
      rename_i hc
      obtain ⟨h1, h2⟩ := hc
      rw [bw_int hx, bw_int hy]
      rcases h2 with h2 | h2
      · exact .inl ⟨_, _, rfl, rfl, ⟨h1, h2⟩, q _ (.int _)⟩
      · exact .inr ⟨_, _, rfl, rfl, ⟨h1, h2⟩, q _ (.int _)⟩
    · cases e
  · cases e
def modD : D → D → Option Z
  | .int i, .int j => if 0 < j then some (.sh (.int (i % j))) else none
  | _, _ => none
theorem modD_ok {K : Kx} : Op2 K (rI (fun _ j => 0 < j) fun i j => .int (i % j)) modD := by
  intro P H v u x y z Q s hx hy e q
  unfold modD at e
  split at e
  · split at e
    · cases e
      rename_i hc
      rw [bw_int hx, bw_int hy]
      exact ⟨_, _, rfl, rfl, hc, q _ (.int _)⟩
    · cases e
  · cases e
def powD : D → D → Option Z
  | .int i, .int j => if 0 ≤ j ∧ j ≤ 64 ∧ i.natAbs < 2 ^ 64 then some (.sh (.int (i ^ j.toNat))) else none
  | _, _ => none
theorem powD_ok {K : Kx} : Op2 K (rI CPow fun i j => .int (i ^ j.toNat)) powD := by
  intro P H v u x y z Q s hx hy e q
  unfold powD at e
  split at e
  · split at e
    · cases e
      rename_i hc
      rw [bw_int hx, bw_int hy]
      exact ⟨_, _, rfl, rfl, ⟨hc.1, by omega, hc.2.2⟩, q _ (.int _)⟩
    · cases e
  · cases e
def negD : D → Option Z
  | .int i => some (.sh (.int (-i)))
  | _ => none
theorem negD_ok {K : Kx} : Op1 K (rU fun i => .int (-i)) negD := by
  intro P H v x z Q s hx e q
  unfold negD at e
  split at e
  · cases e
    rw [bw_int hx]
    exact ⟨_, rfl, q _ (.int _)⟩
  · cases e

/-! ### comparisons -/
mutual
def toPy : D → Option PyData
  | .non => some .none
  | .bl b => some (.bool b)
  | .int i => some (.int i)
  | .str s => some (.str s)
  | .lst ds => (toPyA ds).map .list
  | .rl ds => (toPyA ds).map .list
  | .tup ds => (toPyA ds).map .tuple
  | .pt ds => (toPyA ds).map .tuple
  | _ => none
def toPyA : List D → Option (List PyData)
  | [] => some []
  | d :: ds => (toPy d).bind fun p => (toPyA ds).map fun ps => p :: ps
end
mutual
theorem toPy_ok {K : Kx} {P : Hp} : ∀ {v : V} {d : D} {p : PyData}, Dn K P v d → toPy d = some p → Dp K.K P v p
  | _, _, _, .non, e => by cases e; exact .non
  | _, _, _, .bl b, e => by cases e; exact .bl b
  | _, _, _, .int i, e => by cases e; exact .int i
  | _, _, _, .str x, e => by cases e; exact .str x
  | _, _, _, .ty n, e => by cases e
  | _, _, _, .lst h z t, e => by
    rw [toPy] at e
    obtain ⟨ps, h1, h2⟩ := Option.map_eq_some_iff.mp e
    subst h2
    exact .lst (.inl (.inl h)) (toPyA_ok t h1)
  | _, _, _, .rl h z t, e => by
    rw [toPy] at e
    obtain ⟨ps, h1, h2⟩ := Option.map_eq_some_iff.mp e
    subst h2
    exact .lst h (toPyA_ok t h1)
  | _, _, _, .tup h z t, e => by
    rw [toPy] at e
    obtain ⟨ps, h1, h2⟩ := Option.map_eq_some_iff.mp e
    subst h2
    exact .tup h (toPyA_ok t h1)
  | _, _, _, .pt h z t _, e => by
    rw [toPy] at e
    obtain ⟨ps, h1, h2⟩ := Option.map_eq_some_iff.mp e
    subst h2
    exact .tup h (toPyA_ok t h1)
  | _, _, _, .dk h z t, e => by cases e
  | _, _, _, .ins h c t, e => by cases e
  | _, _, _, .cls a, e => by cases e
  | _, _, _, .xc q k h t, e => by cases e
theorem toPyA_ok {K : Kx} {P : Hp} : ∀ {vs : List V} {ds : List D} {ps : List PyData}, DnA K P vs ds → toPyA ds = some ps → DpAll K.K P vs ps
  | _, _, _, .nil, e => by cases e; exact .nil
  | _, _, _, .cons h t, e => by
    rw [toPyA] at e
    obtain ⟨p, h1, h2⟩ := Option.bind_eq_some_iff.mp e
    obtain ⟨ps, h3, h4⟩ := Option.map_eq_some_iff.mp h2
    subst h4
    exact .cons (toPy_ok h h1) (toPyA_ok t h3)
end
def eqD (x y : D) : Option Bool := (toPy x).bind fun a => (toPy y).bind fun b => if SeqAt.shaped a = true ∧ SeqAt.shaped b = true then some (PyData.eqv a b) else none
def eqZ (x y : D) : Option Z := (eqD x y).map fun b => .sh (.bl b)
def neZ (x y : D) : Option Z := (eqD x y).map fun b => .sh (.bl (!b))
theorem eqD_inv {x y : D} {b : Bool} (h : eqD x y = some b) : ∃ p q, toPy x = some p ∧ toPy y = some q ∧ SeqAt.shaped p = true ∧ SeqAt.shaped q = true ∧ b = PyData.eqv p q := by
  unfold eqD at h
  obtain ⟨p, h1, h⟩ := Option.bind_eq_some_iff.mp h
  obtain ⟨q, h2, h⟩ := Option.bind_eq_some_iff.mp h
  split at h
  · rename_i hc
    cases h
    exact ⟨p, q, h1, h2, hc.1, hc.2, rfl⟩
  · cases h
theorem eqZ_ok {K : Kx} : Op2 K (rEqD K.K) eqZ := by
  intro P H v u x y z Q s hx hy e q
  obtain ⟨b, h1, h2⟩ := Option.map_eq_some_iff.mp e
  subst h2
  obtain ⟨p1, p2, e1, e2, s1, s2, rfl⟩ := eqD_inv h1
  exact ⟨p1, p2, toPy_ok (hx.dnH s) e1, toPy_ok (hy.dnH s) e2, s1, s2, q _ (.bl _)⟩
theorem neZ_ok {K : Kx} : Op2 K (rNeD K.K) neZ := by
  intro P H v u x y z Q s hx hy e q
  obtain ⟨b, h1, h2⟩ := Option.map_eq_some_iff.mp e
  subst h2
  obtain ⟨p1, p2, e1, e2, s1, s2, rfl⟩ := eqD_inv h1
  exact ⟨p1, p2, toPy_ok (hx.dnH s) e1, toPy_ok (hy.dnH s) e2, s1, s2, q _ (.bl _)⟩
/-- the order of texts -/
def strLt (a b : Str) : Bool := decide (a.cps.toList < b.cps.toList)
def rOrd (f : Int → Int → Bool) (g : Str → Str → Bool) : R2 := fun x y H Q => rI0 (fun i j => .bl (f i j)) x y H Q ∨ (∃ i j, x = .str i ∧ y = .str j ∧ Q (.bl (g i j)) H)
def ordD (f : Int → Int → Bool) (g : Str → Str → Bool) : D → D → Option Z
  | .int i, .int j => some (.sh (.bl (f i j)))
  | .str i, .str j => some (.sh (.bl (g i j)))
  | _, _ => none
theorem ordD_ok {K : Kx} {f : Int → Int → Bool} {g : Str → Str → Bool} : Op2 K (rOrd f g) (ordD f g) := by
  intro P H v u x y z Q s hx hy e q
  unfold ordD at e
  split at e
  · cases e
    rw [bw_int hx, bw_int hy]
    exact .inl ⟨_, _, rfl, rfl, q _ (.bl _)⟩
  · cases e
    rw [bw_str hx, bw_str hy]
    exact .inr ⟨_, _, rfl, rfl, q _ (.bl _)⟩
  · cases e

section
variable {X : Cx}
theorem op_ltA : OpR X (compareOp .Lt) (rOrd (fun i j => decide (i < j)) fun i j => decide (i.cps.toList < j.cps.toList)) := OpR.or op_lt op_lt_str
theorem op_leA : OpR X (compareOp .LtE) (rOrd (fun i j => decide (i ≤ j)) fun i j => !decide (j.cps.toList < i.cps.toList)) := OpR.or op_le op_le_str
theorem op_gtA : OpR X (compareOp .Gt) (rOrd (fun i j => decide (j < i)) fun i j => decide (j.cps.toList < i.cps.toList)) := OpR.or op_gt op_gt_str
theorem op_geA : OpR X (compareOp .GtE) (rOrd (fun i j => decide (j ≤ i)) fun i j => !decide (i.cps.toList < j.cps.toList)) := OpR.or op_ge op_ge_str
end
def ltZ : D → D → Option Z := ordD (fun i j => decide (i < j)) fun i j => decide (i.cps.toList < j.cps.toList)
def leZ : D → D → Option Z := ordD (fun i j => decide (i ≤ j)) fun i j => !decide (j.cps.toList < i.cps.toList)
def gtZ : D → D → Option Z := ordD (fun i j => decide (j < i)) fun i j => decide (j.cps.toList < i.cps.toList)
def geZ : D → D → Option Z := ordD (fun i j => decide (j ≤ i)) fun i j => !decide (i.cps.toList < j.cps.toList)
theorem ltZ_ok {K : Kx} : Op2 K (rOrd (fun i j => decide (i < j)) fun i j => decide (i.cps.toList < j.cps.toList)) ltZ := ordD_ok
theorem leZ_ok {K : Kx} : Op2 K (rOrd (fun i j => decide (i ≤ j)) fun i j => !decide (j.cps.toList < i.cps.toList)) leZ := ordD_ok
theorem gtZ_ok {K : Kx} : Op2 K (rOrd (fun i j => decide (j < i)) fun i j => decide (j.cps.toList < i.cps.toList)) gtZ := ordD_ok
theorem geZ_ok {K : Kx} : Op2 K (rOrd (fun i j => decide (j ≤ i)) fun i j => !decide (i.cps.toList < j.cps.toList)) geZ := ordD_ok

/-! ### is, is not: None, True, False, a built-in type on the right -/
def flatR : V → Bool
  | .non => true
  | .bl _ => true
  | .ty _ => true
  | _ => false
def rIsA (n : Bool) : R2 := fun x y H Q => flatR y = true ∧ Q (.bl (if n then !decide (x = y) else decide (x = y))) H
theorem val_beq {x y : V} {v u : Value} (rx : RelV x v) (ry : RelV y u) (h : flatR y = true) : plainIs v u = true ∧ (v == u) = decide (x = y) := by
  cases y with
  | non =>
    cases ry
    cases x <;> first | (cases rx; exact ⟨rfl, rfl⟩) | (obtain ⟨t, rfl⟩ := rx; exact ⟨rfl, rfl⟩)
  | bl b =>
    cases ry
    cases x with
    | bl a =>
      cases rx
      refine ⟨rfl, ?_⟩
      rw [Bool.eq_iff_iff, beq_iff_eq, decide_eq_true_iff]
      exact ⟨fun e => by cases e; rfl, fun e => by cases e; rfl⟩
    | _ => first | (cases rx; exact ⟨rfl, by rfl⟩) | (obtain ⟨t, rfl⟩ := rx; exact ⟨rfl, by rfl⟩)
  | ty n =>
    cases ry
    cases x with
    | ty m =>
      cases rx
      refine ⟨rfl, ?_⟩
      rw [Bool.eq_iff_iff, beq_iff_eq, decide_eq_true_iff]
      exact ⟨fun e => by cases e; rfl, fun e => by cases e; rfl⟩
    | _ => first | (cases rx; exact ⟨rfl, by rfl⟩) | (obtain ⟨t, rfl⟩ := rx; exact ⟨rfl, by rfl⟩)
  | _ => cases h
theorem op_isA {X : Cx} : OpR X (compareOp .Is) (rIsA false) := by
  intro pins s σ H x y v u Q I rx ry h
  obtain ⟨h1, h2⟩ := val_beq rx ry h.1
  exact wpAny_is_plain h1 (fin_bl I h.2 h2.symm)
theorem op_isNotA {X : Cx} : OpR X (compareOp .IsNot) (rIsA true) := by
  intro pins s σ H x y v u Q I rx ry h
  obtain ⟨h1, h2⟩ := val_beq rx ry h.1
  exact wpAny_isNot_plain h1 (fin_bl I h.2 (by rw [h2]; rfl))
/-- the same thing: the right one None, a truth, a built-in type -/
def isD : D → D → Option Bool
  | .non, .non => some true
  | .bl a, .bl b => some (a == b)
  | .ty m, .ty n => some (m == n)
  | _, .non => some false
  | _, .bl _ => some false
  | _, .ty _ => some false
  | _, _ => none
def isZ (x y : D) : Option Z := (isD x y).map fun b => .sh (.bl b)
def isNotZ (x y : D) : Option Z := (isD x y).map fun b => .sh (.bl (!b))
theorem isD_ok {K : Kx} {P H : Hp} {v u : V} {x y : D} {b : Bool} (s : Same P H) (hx : Bw K P H v x) (hy : Bw K P H u y) (e : isD x y = some b) : flatR u = true ∧ decide (v = u) = b := by
  have hx := hx.dnH s
  have hy := hy.dnH s
  cases hy <;> cases hx <;> first
    | (cases e; exact ⟨rfl, by rfl⟩)
    | (cases e; refine ⟨rfl, ?_⟩; rw [Bool.eq_iff_iff, beq_iff_eq, decide_eq_true_iff]; exact ⟨fun e => by cases e; rfl, fun e => by cases e; rfl⟩)
    | (cases e)
theorem isZ_ok {K : Kx} : Op2 K (rIsA false) isZ := by
  intro P H v u x y z Q s hx hy e q
  obtain ⟨b, h1, h2⟩ := Option.map_eq_some_iff.mp e
  subst h2
  obtain ⟨h3, h4⟩ := isD_ok s hx hy h1
  exact ⟨h3, by rw [h4]; exact q _ (.bl _)⟩
theorem isNotZ_ok {K : Kx} : Op2 K (rIsA true) isNotZ := by
  intro P H v u x y z Q s hx hy e q
  obtain ⟨b, h1, h2⟩ := Option.map_eq_some_iff.mp e
  subst h2
  obtain ⟨h3, h4⟩ := isD_ok s hx hy h1
  exact ⟨h3, by rw [h4]; exact q _ (.bl _)⟩

/-! ### in, not in: flat things in a list or tuple of flat things -/
def flatD : D → Bool
  | .non => true
  | .bl _ => true
  | .int _ => true
  | .str _ => true
  | _ => false
/-- == of flat data -/
def eqF : D → D → Bool
  | .non, .non => true
  | .bl a, .bl b => a == b
  | .bl a, .int b => (if a then 1 else 0) == b
  | .int a, .bl b => a == (if b then 1 else 0)
  | .int a, .int b => a == b
  | .str a, .str b => a == b
  | _, _ => false
theorem flat_ok {K : Kx} {P : Hp} {v : V} {d : D} (h : Dn K P v d) (e : flatD d = true) : flatV v = true := by
  cases h <;> first | rfl | cases e
theorem flats_ok {K : Kx} {P : Hp} : ∀ {vs : List V} {ds : List D}, DnA K P vs ds → ds.all flatD = true → vs.all flatV = true
  | _, _, .nil, _ => rfl
  | _, _, .cons h t, e => by
    rw [List.all_cons, Bool.and_eq_true] at e ⊢
    exact ⟨flat_ok h e.1, flats_ok t e.2⟩
theorem eqF_ok {K : Kx} {P : Hp} {v u : V} {x y : D} (hx : Dn K P v x) (hy : Dn K P u y) (ex : flatD x = true) (ey : flatD y = true) : eqV u v = eqF y x := by
  cases hx <;> cases hy <;> first | rfl | (cases ex; done) | (cases ey; done)
def inF (x : D) (ds : List D) : Bool := ds.any fun y => eqF y x
theorem inF_ok {K : Kx} {P : Hp} {v : V} {x : D} (hx : Dn K P v x) (ex : flatD x = true) : ∀ {vs : List V} {ds : List D}, DnA K P vs ds → ds.all flatD = true → inV v vs = inF x ds
  | _, _, .nil, _ => rfl
  | _, _, .cons h t, e => by
    rw [List.all_cons, Bool.and_eq_true] at e
    unfold inV inF
    rw [List.any_cons, List.any_cons, eqF_ok hx h ex e.1]
    have := inF_ok hx ex t e.2
    unfold inV inF at this
    rw [this]
def inD (x y : D) : Option Bool := (seqD y).bind fun ds => if flatD x = true ∧ ds.all flatD = true then some (inF x ds) else none
def inZ (x y : D) : Option Z := (inD x y).map fun b => .sh (.bl b)
def notInZ (x y : D) : Option Z := (inD x y).map fun b => .sh (.bl (!b))
theorem inD_ok {K : Kx} {P H : Hp} {v u : V} {x y : D} {b : Bool} (s : Same P H) (hx : Bw K P H v x) (hy : Bw K P H u y) (e : inD x y = some b) : ∃ p xs, u = .ref p ∧ (SqL K.K H p xs ∨ SqT K.K H p xs) ∧ flatV v = true ∧ xs.all flatV = true ∧ inV v xs = b := by
  unfold inD at e
  obtain ⟨ds, h1, h2⟩ := Option.bind_eq_some_iff.mp e
  split at h2
  · rename_i hc
    cases h2
    obtain ⟨p, xs, rfl, h3, h4, h5⟩ := bw_seq s hy h1
    have hx' : Dn K P v x := by
      cases hx with
      | dn h => exact h
      | ow h =>
        have := h.2
        cases x <;> first | exact this.elim | (have := hc.1; cases this)
    exact ⟨p, xs, rfl, h3, flat_ok hx' hc.1, flats_ok h5 hc.2, inF_ok hx' hc.1 h5 hc.2⟩
  · cases h2
theorem inZ_ok {K : Kx} : Op2 K (rIn K.K false) inZ := by
  intro P H v u x y z Q s hx hy e q
  obtain ⟨b, h1, h2⟩ := Option.map_eq_some_iff.mp e
  subst h2
  obtain ⟨p, xs, h3, h4, h5, h6, h7⟩ := inD_ok s hx hy h1
  refine ⟨p, xs, h3, h4, h5, h6, ?_⟩
  rw [h7]
  exact q _ (.bl _)
theorem notInZ_ok {K : Kx} : Op2 K (rIn K.K true) notInZ := by
  intro P H v u x y z Q s hx hy e q
  obtain ⟨b, h1, h2⟩ := Option.map_eq_some_iff.mp e
  subst h2
  obtain ⟨p, xs, h3, h4, h5, h6, h7⟩ := inD_ok s hx hy h1
  refine ⟨p, xs, h3, h4, h5, h6, ?_⟩
  rw [h7]
  exact q _ (.bl _)

/-! ### o[i] -/
def rIxA (K : PySem.W.Frag) : R2 := fun x y H Q => rIxL K x y H Q ∨ rIxT K x y H Q ∨ rIxS x y H Q
theorem ix_A {X : Cx} : IxR X (rIxA X.K) := IxR.or ix_list (IxR.or ix_tup ix_str)
def ixZ : D → D → Option Z
  | .str z, .int i => if z.length ≤ sizeLine then (atI z.cps.toList i).map fun c => .sh (.str ⟨#[c]⟩) else none
  | x, .int i => (seqD x).bind fun ds => (atI ds i).map .sh
  | _, _ => none
theorem DnA.atI {K : Kx} {P : Hp} {xs : List V} {ds : List D} {i : Int} {d : D} (t : DnA K P xs ds) (h : L2.atI ds i = some d) : ∃ v, L2.atI xs i = some v ∧ Dn K P v d := by
  unfold L2.atI at h ⊢
  rw [t.length]
  obtain ⟨j, h1, h2⟩ := Option.bind_eq_some_iff.mp h
  obtain ⟨v, h3, h4⟩ := t.get h2
  exact ⟨v, by rw [h1]; exact h3, h4⟩
theorem ixZ_ok {K : Kx} : Op2 K (rIxA K.K) ixZ := by
  intro P H v u x y z Q s hx hy e q
  unfold ixZ at e
  split at e
  · split at e
    · rename_i hz
      obtain ⟨c, h1, h2⟩ := Option.map_eq_some_iff.mp e
      subst h2
      rw [bw_str hx, bw_int hy]
      exact .inr (.inr ⟨_, _, c, rfl, rfl, hz, h1, q _ (.str _)⟩)
    · cases e
  · obtain ⟨ds, h1, h2⟩ := Option.bind_eq_some_iff.mp e
    obtain ⟨d, h3, h4⟩ := Option.map_eq_some_iff.mp h2
    subst h4
    obtain ⟨p, xs, rfl, h5, h6, h7⟩ := bw_seq s hx h1
    obtain ⟨w, h8, h9⟩ := h7.atI h3
    rw [bw_int hy]
    rcases h5 with h5 | h5
    · exact .inl ⟨p, xs, _, w, rfl, rfl, h5, h8, q w h9⟩
    · exact .inr (.inl ⟨p, xs, _, w, rfl, rfl, h5, h8, q w h9⟩)
  · cases e

/-! ### built-ins of one argument -/
def rAbs : V → Hp → VK → Prop := fun v H Q => ∃ i, [v] = [V.int i] ∧ Q (.int (if i < 0 then -i else i)) H
def absZ : D → Option Z
  | .int i => some (.sh (.int (if i < 0 then -i else i)))
  | _ => none
theorem absZ_ok {K : Kx} : Op1 K (fun v H Q => ∃ i, [v] = [V.int i] ∧ Q (.int (if i < 0 then -i else i)) H) absZ := by
  intro P H v x z Q s hx e q
  unfold absZ at e
  split at e
  · cases e
    rw [bw_int hx]
    exact ⟨_, rfl, q _ (.int _)⟩
  · cases e
def lenZ : D → Option Z
  | .str z => if z.length ≤ sizeLine then some (.sh (.int z.length)) else none
  | .dk ds => some (.sh (.int ds.length))
  | x => (seqD x).map fun ds => .sh (.int ds.length)
def rLenA (K : PySem.W.Frag) : List V → Hp → VK → Prop := fun xs H Q => (∃ x n, xs = [x] ∧ LenV K x H n ∧ Q (.int n) H) ∨ ∃ a kvs, xs = [V.ref a] ∧ H a = some (.dK kvs) ∧ Q (.int kvs.length) H
theorem call_lenA {X : Cx} : CallR X (.builtin "len") (rLenA X.K) := CallR.or call_len call_lenD
theorem DnK.length {K : Kx} {P : Hp} : ∀ {vs : List (Key × V)} {ds : List (Key × D)}, DnK K P vs ds → vs.length = ds.length
  | _, _, .nil => rfl
  | _, _, .cons _ t => by rw [List.length_cons, List.length_cons, DnK.length t]
theorem lenZ_ok {K : Kx} : Op1 K (fun v => rLenA K.K [v]) lenZ := by
  intro P H v x z Q s hx e q
  unfold lenZ at e
  split at e
  · split at e
    · cases e
      rename_i hz
      rw [bw_str hx]
      exact .inl ⟨_, _, rfl, ⟨hz, rfl⟩, q _ (.int _)⟩
    · cases e
  · cases e
    obtain ⟨a, xs, rfl, h1, h2, h3⟩ := bw_dk s hx
    exact .inr ⟨a, xs, rfl, h1, by rw [h3.length]; exact q _ (.int _)⟩
  · obtain ⟨ds, h1, h2⟩ := Option.map_eq_some_iff.mp e
    subst h2
    obtain ⟨p, xs, rfl, h5, h6, h7⟩ := bw_seq s hx h1
    refine .inl ⟨_, xs.length, rfl, ?_, by rw [h7.length]; exact q _ (.int _)⟩
    rcases h5 with h5 | h5
    · exact .inl ⟨xs, h5, rfl⟩
    · exact .inr ⟨xs, h5, rfl⟩
/-- the name of a datum's built-in type -/
def tyN : D → Option String
  | .non => some "NoneType"
  | .bl _ => some "bool"
  | .int _ => some "int"
  | .str _ => some "str"
  | .lst _ => some "list"
  | .rl _ => some "list"
  | .tup _ => some "tuple"
  | .pt _ => some "tuple"
  | .dk _ => some "dict"
  | _ => none
def tyZ (x : D) : Option Z := (tyN x).map fun n => .sh (.ty n)
theorem tyZ_ok {K : Kx} : Op1 K (fun v => rTyp K.K [v]) tyZ := by
  intro P H v x z Q s hx e q
  obtain ⟨n, h1, h2⟩ := Option.map_eq_some_iff.mp e
  subst h2
  refine ⟨v, n, rfl, ?_, q _ (.ty _)⟩
  have hx := hx.dnH s
  cases hx with
  | non => cases h1; exact .non
  | bl b => cases h1; exact .bl b
  | int i => cases h1; exact .int i
  | str y => cases h1; exact .str y
  | ty m => cases h1
  | lst h z t => cases h1; exact .lst (.inl (.inl h))
  | rl h z t => cases h1; exact .lst h
  | tup h z t => cases h1; exact .tup h
  | pt h z t p => cases h1; exact .tup h
  | dk h z t => cases h1; exact .dK h
  | ins h c t => cases h1
  | cls a => cases h1
  | xc q k h t => cases h1
/-- all, any of truths -/
def asBs : List D → Option (List Bool)
  | [] => some []
  | .bl b :: ds => (asBs ds).map fun bs => b :: bs
  | _ :: _ => none
theorem asBs_ok {K : Kx} {P : Hp} : ∀ {vs : List V} {ds : List D} {bs : List Bool}, DnA K P vs ds → asBs ds = some bs → vs = bs.map V.bl
  | _, _, _, .nil, e => by cases e; rfl
  | _, _, _, .cons (d := d) h t, e => by
    cases d with
    | bl b =>
      obtain ⟨bs, h1, h2⟩ := Option.map_eq_some_iff.mp e
      subst h2
      cases h
      rw [List.map_cons, ← asBs_ok t h1]
    | _ => cases e
def lstD : D → Option (List D)
  | .lst ds => some ds
  | .rl ds => some ds
  | _ => none
theorem bw_list {K : Kx} {P H : Hp} {v : V} {d : D} {ds : List D} (s : Same P H) (h : Bw K P H v d) (e : lstD d = some ds) : ∃ a xs, v = .ref a ∧ SqL K.K H a xs ∧ xs.length ≤ sizeLine ∧ DnA K P xs ds := by
  cases d <;> cases e
  · obtain ⟨a, xs, h1, h2, h3, h4⟩ := bw_lst s h; exact ⟨a, xs, h1, .inl (.inl h2), h3, h4⟩
  · exact bw_rl s h
def allZ (x : D) : Option Z := (lstD x).bind fun ds => (asBs ds).map fun bs => .sh (.bl (bs.all id))
def anyZ (x : D) : Option Z := (lstD x).bind fun ds => (asBs ds).map fun bs => .sh (.bl (bs.any id))
theorem allZ_ok {K : Kx} : Op1 K (fun v => rAll K.K [v]) allZ := by
  intro P H v x z Q s hx e q
  obtain ⟨ds, h1, h2⟩ := Option.bind_eq_some_iff.mp e
  obtain ⟨bs, h3, h4⟩ := Option.map_eq_some_iff.mp h2
  subst h4
  obtain ⟨a, xs, rfl, h5, h6, h7⟩ := bw_list s hx h1
  rw [asBs_ok h7 h3] at h5
  exact ⟨a, bs, rfl, h5, q _ (.bl _)⟩
theorem anyZ_ok {K : Kx} : Op1 K (fun v => rAny K.K [v]) anyZ := by
  intro P H v x z Q s hx e q
  obtain ⟨ds, h1, h2⟩ := Option.bind_eq_some_iff.mp e
  obtain ⟨bs, h3, h4⟩ := Option.map_eq_some_iff.mp h2
  subst h4
  obtain ⟨a, xs, rfl, h5, h6, h7⟩ := bw_list s hx h1
  rw [asBs_ok h7 h3] at h5
  exact ⟨a, bs, rfl, h5, q _ (.bl _)⟩
/-- tuple(x), list(x) of a list or tuple -/
def tupleZ : D → Option Z
  | .tup ds => some (.sh (.tup ds))
  | x => (lstD x).map .tup
theorem tupleZ_ok {K : Kx} : Op1 K (fun v H Q => ∃ p ys, [v] = [V.ref p] ∧ ((SqL K.K H p ys ∧ ∀ l, H l = none → Q (.ref l) (upd H l (.tup ys))) ∨ (SqT K.K H p ys ∧ Q (.ref p) H))) tupleZ := by
  intro P H v x z Q s hx e q
  unfold tupleZ at e
  split at e
  · cases e
    obtain ⟨a, xs, rfl, h1, h2, h3⟩ := bw_tup s hx
    refine ⟨a, xs, rfl, .inr ⟨h1, ?_⟩⟩
    cases hx with
    | dn hx => exact q _ hx
    | ow hx => exact hx.2.elim
  · obtain ⟨ds, h1, h2⟩ := Option.map_eq_some_iff.mp e
    subst h2
    obtain ⟨a, xs, rfl, h5, h6, h7⟩ := bw_list s hx h1
    exact ⟨a, xs, rfl, .inl ⟨h5, fun l n => q.2 l xs n h6 h7⟩⟩
def listZ (x : D) : Option Z := (seqD x).map .lst
theorem listZ_ok {K : Kx} : Op1 K (fun v H Q => ∃ p ys, [v] = [V.ref p] ∧ (SqL K.K H p ys ∨ SqT K.K H p ys) ∧ ∀ l, H l = none → Q (.ref l) (upd H l (.lst ys))) listZ := by
  intro P H v x z Q s hx e q
  obtain ⟨ds, h1, h2⟩ := Option.map_eq_some_iff.mp e
  subst h2
  obtain ⟨p, xs, rfl, h5, h6, h7⟩ := bw_seq s hx h1
  exact ⟨p, xs, rfl, h5, fun l n => q l xs n h6 h7⟩
/-- int(x) -/
def rIntA : List V → Hp → VK → Prop := fun xs H Q => ((∃ i, xs = [.int i] ∧ Q (.int i) H) ∨ ∃ k, xs = [.bl k] ∧ Q (.int (if k then 1 else 0)) H) ∨ (∃ a n, xs = [.str a] ∧ PySem.intText? a = some n ∧ a.length ≤ 640 ∧ Q (.int n) H)
theorem call_intA {X : Cx} : CallR X (.type "int") rIntA := CallR.or call_int1 call_int_str
def intZ : D → Option Z
  | .int i => some (.sh (.int i))
  | .bl b => some (.sh (.int (if b then 1 else 0)))
  | .str a => if a.length ≤ 640 then (PySem.intText? a).map fun n => .sh (.int n) else none
  | _ => none
theorem intZ_ok {K : Kx} : Op1 K (fun v => rIntA [v]) intZ := by
  intro P H v x z Q s hx e q
  unfold intZ at e
  split at e
  · cases e
    rw [bw_int hx]
    exact .inl (.inl ⟨_, rfl, q _ (.int _)⟩)
  · cases e
    rw [bw_bl hx]
    exact .inl (.inr ⟨_, rfl, q _ (.int _)⟩)
  · split at e
    · rename_i hz
      obtain ⟨n, h1, h2⟩ := Option.map_eq_some_iff.mp e
      subst h2
      rw [bw_str hx]
      exact .inr ⟨_, n, rfl, h1, hz, q _ (.int _)⟩
    · cases e
  · cases e
/-- max, min of two ints -/
def maxZ : D → D → Option Z
  | .int i, .int j => some (.sh (.int (if j > i then j else i)))
  | _, _ => none
def minZ : D → D → Option Z
  | .int i, .int j => some (.sh (.int (if j < i then j else i)))
  | _, _ => none
theorem maxZ_ok {K : Kx} : Op2 K (fun v u H Q => ∃ i j, [v, u] = [V.int i, V.int j] ∧ Q (.int (if j > i then j else i)) H) maxZ := by
  intro P H v u x y z Q s hx hy e q
  unfold maxZ at e
  split at e
  · cases e
    rw [bw_int hx, bw_int hy]
    exact ⟨_, _, rfl, q _ (.int _)⟩
  · cases e
theorem minZ_ok {K : Kx} : Op2 K (fun v u H Q => ∃ i j, [v, u] = [V.int i, V.int j] ∧ Q (.int (if j < i then j else i)) H) minZ := by
  intro P H v u x y z Q s hx hy e q
  unfold minZ at e
  split at e
  · cases e
    rw [bw_int hx, bw_int hy]
    exact ⟨_, _, rfl, q _ (.int _)⟩
  · cases e
end DL

/-! DL, part 4: arguments, displays, calls. -/
namespace DL
open PySem PySem.Spec L2
open PyProof.Rows hiding St
set_option autoImplicit false

/-- an outcome of any type -/
def G (K : Kx) (E : WX) (σ : St) (es : Ev) (P H : Hp) {α : Type} (res : Rs α) (F : α → Prop) : Prop := match res with
  | .ok a => F a
  | .ex x es' => ∀ P' H' cls od, GoE K σ es P H es' P' H' → XRel K P' H' cls od x → E cls od σ H'
  | .st => False
section
variable {K : Kx} {E : WX} {σ : St} {es es1 es2 : Ev} {P H P1 H1 P2 H2 B : Hp} {α β : Type}
theorem G.bind {x : Rs α} {k : α → Rs β} {F : β → Prop} (h : G K E σ es P H (x.bind k) F) : G K E σ es P H x fun a => G K E σ es P H (k a) F := by
  cases x <;> exact h
theorem G.mono {x : Rs α} {F F' : α → Prop} (h : G K E σ es P H x F) (q : ∀ a, F a → F' a) : G K E σ es P H x F' := by
  cases x with
  | ok a => exact q a h
  | ex x e => exact h
  | st => exact h
theorem G.of {o : Option α} {F : α → Prop} (h : G K E σ es P H (Rs.of o) F) : ∃ a, o = some a ∧ F a := by
  cases o with
  | none => exact False.elim h
  | some a => exact ⟨a, rfl, h⟩
theorem Post.g {x : Rs (R × Ev)} {Q : VK} (h : Post K E σ es P H x Q) : G K E σ es P H x fun p => ∀ v P' H', GoE K σ es P H p.2 P' H' → RelR K H P' H' σ p.2 v p.1 → Q v H' := by
  cases x <;> exact h
theorem G.post {x : Rs (R × Ev)} {Q : VK} (h : G K E σ es P H x fun p => ∀ v P' H', GoE K σ es P H p.2 P' H' → RelR K H P' H' σ p.2 v p.1 → Q v H') : Post K E σ es P H x Q := by
  cases x <;> exact h
/-- an expression at a later point -/
theorem tD_g {f : Fe} {F : R × Ev → Prop} (g : GoE K σ es P H es1 P1 H1) (h : G K E σ es P H (f es1) F) :
    tD K E f σ H1 fun v H2 => ∃ r es2 P2, GoE K σ es P H es2 P2 H2 ∧ GoE K σ es1 P1 H1 es2 P2 H2 ∧ RelR K H P2 H2 σ es2 v r ∧ F (r, es2) := by
  refine ⟨P1, es1, g.ok, ?_⟩
  cases e : f es1 with
  | ok p =>
    rw [e] at h
    exact fun v P2 H2 g2 rel => ⟨p.1, p.2, P2, g.trans g2, g2, rel.base fun a n => g.st.free n, h⟩
  | ex x es2 =>
    rw [e] at h
    exact fun P2 H2 cls od g2 rel => h P2 H2 cls od (g.trans g2) rel
  | st => rw [e] at h; exact h
end

/-! ### argument lists -/
inductive Ag where
  | sh (d : D) | io (i : Nat)
def fArgs : List (Bool × Fe) → Ev → Rs (List Ag × Ev)
  | [], es => .ok ([], es)
  | (false, f) :: r, es => (f es).bind fun p => (Rs.of (toSh p.1 p.2)).bind fun q => (fArgs r q.2).bind fun s => .ok (.sh q.1 :: s.1, s.2)
  | (true, f) :: r, es => (f es).bind fun p => match p.1 with
    | .ow i => (fArgs r p.2).bind fun s => .ok (.io i :: s.1, s.2)
    | _ => .st
inductive DAs (X : Cx) (E : We) : List Expr → List (Bool × Fe) → Prop
  | nil : DAs X E [] []
  | cons {b : Bool} {e : Expr} {es : List Expr} {f : Fe} {fs : List (Bool × Fe)} : DE X E e f → starEach (e :: es) X.env = (false, eval e X.env) :: starEach es X.env → DAs X E es fs → DAs X E (e :: es) ((b, f) :: fs)
theorem DAs.arg {X : Cx} {E : We} {b : Bool} {e : Expr} {es : List Expr} {f : Fe} {fs : List (Bool × Fe)} (h : DE X E e f) (t : DAs X E es fs) (he : starEach (e :: es) X.env = (false, eval e X.env) :: starEach es X.env := by rfl) : DAs X E (e :: es) ((b, f) :: fs) := .cons h he t
def RelAg (K : Kx) (P : Hp) (σ : St) (v : V) : Ag → Prop
  | .sh d => Dn K P v d
  | .io i => σ[i]? = some (some v)
inductive RelAs (K : Kx) (P : Hp) (σ : St) : List V → List Ag → Prop
  | nil : RelAs K P σ [] []
  | cons {v : V} {vs : List V} {a : Ag} {as : List Ag} : RelAg K P σ v a → RelAs K P σ vs as → RelAs K P σ (v :: vs) (a :: as)
def tDA (K : Kx) (E : WX) (f : Ev → Rs (List Ag × Ev)) : TA := fun σ H Q => ∃ P es, EnvOk K P H σ es ∧ G K E σ es P H (f es) fun p => ∀ vs P' H', GoE K σ es P H p.2 P' H' → RelAs K P' σ vs p.1 → Q vs H'
theorem pa_imp {X : Cx} {es : List Expr} {t t' : TA} (h : PA X es t) (q : ∀ σ H Q, t' σ H Q → t σ H Q) : PA X es t' := ⟨fun pos pins s σ H Q I z => h.run pos pins s σ H Q I (q σ H Q z)⟩
theorem RelAg.mono {K : Kx} {P P' : Hp} {σ : St} {v : V} {a : Ag} (s : Same P P') (h : RelAg K P σ v a) : RelAg K P' σ v a := by
  cases a with
  | sh d => exact Dn.mono s h
  | io i => exact h
theorem das_pa {X : Cx} {E : We} : ∀ {es : List Expr} {fs : List (Bool × Fe)}, DAs X E es fs → PA X es (tDA (kx X E) E.w (fArgs fs))
  | _, _, .nil => pa_imp pa_nil fun σ H Q ⟨P, es, ok, h⟩ => h [] P H (.refl ok) .nil
  | _, _, .cons (b := b) (f := f) (fs := fs) he hs t => by
    refine pa_imp (pa_cons he (das_pa t) hs) fun σ H Q ⟨P, es, ok, h⟩ => ?_
    cases b with
    | false =>
      refine tD_mono (tD_g (GoE.refl ok) (G.bind h)) fun v H1 ⟨r, es1, P1, g1, _, rel1, q1⟩ => ?_
      obtain ⟨q, e, h1⟩ := G.of (G.bind q1)
      obtain ⟨P2, g2, dn, s12⟩ := toSh_ok g1 rel1 e
      have h2 := G.bind h1
      refine ⟨P2, q.2, g2.ok, ?_⟩
      cases e3 : fArgs fs q.2 with
      | ok p =>
        rw [e3] at h2
        exact fun vs P3 H3 g3 rel3 => h2 (v :: vs) P3 H3 (g2.trans g3) (.cons (dn.mono g3.st.pp) rel3)
      | ex x es3 =>
        rw [e3] at h2
        exact fun P3 H3 cls od g3 rel => h2 P3 H3 cls od (g2.trans g3) rel
      | st => rw [e3] at h2; exact h2
    | true =>
      refine tD_mono (tD_g (GoE.refl ok) (G.bind h)) fun v H1 ⟨r, es1, P1, g1, _, rel1, q1⟩ => ?_
      cases r with
      | ow i =>
        have h2 := G.bind q1
        simp only at h2
        refine ⟨P1, es1, g1.ok, ?_⟩
        cases e3 : fArgs fs es1 with
        | ok p =>
          rw [e3] at h2
          exact fun vs P3 H3 g3 rel3 => h2 (v :: vs) P3 H3 (g1.trans g3) (.cons rel1 rel3)
        | ex x es3 =>
          rw [e3] at h2
          exact fun P3 H3 cls od g3 rel => h2 P3 H3 cls od (g1.trans g3) rel
        | st => rw [e3] at h2; exact h2
      | _ => exact False.elim q1

/-! ### displays -/
def shAll : List Ag → Option (List D)
  | [] => some []
  | .sh d :: r => (shAll r).map fun ds => d :: ds
  | .io _ :: _ => none
theorem shAll_ok {K : Kx} {P : Hp} {σ : St} : ∀ {vs : List V} {as : List Ag} {ds : List D}, RelAs K P σ vs as → shAll as = some ds → DnA K P vs ds
  | _, _, _, .nil, e => by cases e; exact .nil
  | _, _, _, .cons (a := a) h t, e => by
    cases a with
    | sh d =>
      obtain ⟨ds, h1, h2⟩ := Option.map_eq_some_iff.mp e
      subst h2
      exact .cons h (shAll_ok t h1)
    | io i => cases e
/-- the items of a display, all shared -/
def fItems (fs : List Fe) (es : Ev) : Rs (List D × Ev) := (fArgs (fs.map fun f => (false, f)) es).bind fun p => (Rs.of (shAll p.1)).bind fun ds => .ok (ds, p.2)
def fTup (fs : List Fe) : Fe := fun es => (fItems fs es).bind fun p => if p.1.length ≤ sizeLine then .ok (.sh (.tup p.1), p.2) else .st
def fLst (fs : List Fe) : Fe := fun es => (fItems fs es).bind fun p => if p.1.length ≤ sizeLine then .ok (.fr (.lst p.1), p.2) else .st
section
variable {X : Cx} {E : We} {xs : List Expr} {fs : List Fe} {pos : Pos}
theorem items_ok {σ : St} {H : Hp} {P : Hp} {es : Ev} {F : List D × Ev → Prop} (ok : EnvOk (kx X E) P H σ es) (h : G (kx X E) E.w σ es P H (fItems fs es) F) {Q : List V → Hp → Prop}
    (q : ∀ vs ds es1 P1 H1, GoE (kx X E) σ es P H es1 P1 H1 → DnA (kx X E) P1 vs ds → F (ds, es1) → Q vs H1) : tDA (kx X E) E.w (fArgs (fs.map fun f => (false, f))) σ H Q := by
  refine ⟨P, es, ok, (G.bind h).mono fun p hp => ?_⟩
  obtain ⟨ds, e, h1⟩ := G.of (G.bind hp)
  exact fun vs P1 H1 g rel => q vs ds p.2 P1 H1 g (shAll_ok rel e) h1
theorem de_tup {x1} (h : DAs X E xs (fs.map fun f => (false, f))) : DE X E (.Tuple xs x1 pos) (fTup fs) := by
  refine pe_imp (pe_tup (das_pa h)) fun σ H Q ⟨P, es, ok, h⟩ => items_ok ok (G.bind h.g) fun vs ds es1 P1 H1 g dn q => ?_
  simp only at q
  split at q
  · rename_i hz
    refine ⟨by rw [dn.length]; exact hz, fun p n => ?_⟩
    exact q (.ref p) _ _ (g.allocP n) (Dn.tup (.inl (.inl upd_same)) (by rw [dn.length]; exact hz) (dn.mono (same_updP g.ok.sub n)))
  · exact False.elim q
theorem de_lst (h : DAs X E xs (fs.map fun f => (false, f))) : DE X E (.List xs pos) (fLst fs) := by
  refine pe_imp (pe_lst (das_pa h)) fun σ H Q ⟨P, es, ok, h⟩ => items_ok ok (G.bind h.g) fun vs ds es1 P1 H1 g dn q => ?_
  simp only at q
  split at q
  · rename_i hz
    refine ⟨by rw [dn.length]; exact hz, fun p n => ?_⟩
    exact zq_of (z := .lst ds) g (Q := Q) (E := E.w) (fun v P' H' g' rel => q v P' H' g' rel) p vs n (by rw [dn.length]; exact hz) dn
  · exact False.elim q
end

/-! ### a def's promise, a call -/
def NoOw (cs : Ev) : Prop := ∀ (i : Nat) (d : D), cs[i]? ≠ some (some (.ow d))
/-- a wish that doesn't look at the slots -/
def wx (E : XK) : WX := fun c d _ H => E c d H
/-- no exception -/
def W0 : WX := fun _ _ _ _ => False
abbrev N0 : We := ⟨W0, none⟩
/-- m: from the arguments as the parameters' slots to the answer and the same slots behind -/
def spD (K : PySem.W.Frag) (n : Nat) (m : Fe) : Sp := fun vs H Q E => vs.length = n ∧ ∃ P cs, EnvOk ⟨K, none⟩ P H (vs.map some) cs ∧ NoOw cs ∧ Post ⟨K, none⟩ (wx E) (vs.map some) cs P H (m cs) Q
/-- .. of a def that lets no exception out -/
def spD0 (K : PySem.W.Frag) (n : Nat) (m : Fe) : Sp := fun vs H Q _ => spD K n m vs H Q E0
def ioIx : List Ag → List Nat
  | [] => []
  | .sh _ :: r => ioIx r
  | .io i :: r => i :: ioIx r
def toEv (es : Ev) : List Ag → Option Ev
  | [] => some []
  | .sh d :: r => (toEv es r).map fun cs => some (.sh d) :: cs
  | .io i :: r => (ownAt es i).bind fun d => (toEv es r).map fun cs => some (.io d) :: cs
/-- new contents of an owned slot -/
def setC (es : Ev) (i : Nat) (d : D) : Ev := match es[i]? with
  | some (some (.ow _)) => es.set i (some (.ow d))
  | some (some (.io _)) => es.set i (some (.io d))
  | _ => es
def wb : Ev → List Ag → Ev → Option Ev
  | es, [], _ => some es
  | es, .sh _ :: as, _ :: cs => wb es as cs
  | es, .io i :: as, some (.io d) :: cs => wb (setC es i d) as cs
  | _, _, _ => none
theorem setC_len (es : Ev) (i : Nat) (d : D) : (setC es i d).length = es.length := by
  unfold setC
  split <;> simp
theorem setC_ne {es : Ev} {i j : Nat} {d : D} (h : j ≠ i) : (setC es i d)[j]? = es[j]? := by
  unfold setC
  split
  · rw [List.getElem?_set_ne (Ne.symm h)]
  · rw [List.getElem?_set_ne (Ne.symm h)]
  · rfl
/-- an owned slot's content is d now, its mode as it was -/
def HasC (e0 e1 : Ev) (i : Nat) (d : D) : Prop := (∃ x, e0[i]? = some (some (.ow x)) ∧ e1[i]? = some (some (.ow d))) ∨ (∃ x, e0[i]? = some (some (.io x)) ∧ e1[i]? = some (some (.io d)))
theorem setC_has {es : Ev} {i : Nat} {d x : D} (h : ownAt es i = some x) : HasC es (setC es i d) i d := by
  unfold ownAt at h
  split at h
  · rename_i y e
    have hi : i < es.length := (List.getElem?_eq_some_iff.mp e).1
    refine .inl ⟨y, e, ?_⟩
    unfold setC
    simp only [e]
    exact List.getElem?_set_self hi
  · rename_i y e
    have hi : i < es.length := (List.getElem?_eq_some_iff.mp e).1
    refine .inr ⟨y, e, ?_⟩
    unfold setC
    simp only [e]
    exact List.getElem?_set_self hi
  · cases h
theorem wb_ok : ∀ {as : List Ag} {es cs es' : Ev}, wb es as cs = some es' → (ioIx as).Nodup → (∀ i ∈ ioIx as, ∃ x, ownAt es i = some x) →
    es'.length = es.length ∧ ∀ (j : Nat), (j ∉ ioIx as → es'[j]? = es[j]?) ∧ ∀ (k : Nat), as[k]? = some (.io j) → ∃ (d : D), cs[k]? = some (some (.io d)) ∧ HasC es es' j d
  | [], es, cs, es', h, _, _ => by
    unfold wb at h
    cases h
    exact ⟨rfl, fun j => ⟨fun _ => rfl, fun k e => by simp at e⟩⟩
  | .sh d :: as, es, [], es', h, _, _ => by unfold wb at h; cases h
  | .sh d :: as, es, c :: cs, es', h, nd, own => by
    unfold wb at h
    obtain ⟨h1, h2⟩ := wb_ok (as := as) h nd own
    refine ⟨h1, fun j => ⟨(h2 j).1, fun k e => ?_⟩⟩
    cases k with
    | zero => simp at e
    | succ k =>
      obtain ⟨d', q1, q2⟩ := (h2 j).2 k (by simpa using e)
      exact ⟨d', by simpa using q1, q2⟩
  | .io i :: as, es, [], es', h, _, _ => by unfold wb at h; cases h
  | .io i :: as, es, none :: cs, es', h, _, _ => by unfold wb at h; cases h
  | .io i :: as, es, some (.sh d) :: cs, es', h, _, _ => by unfold wb at h; cases h
  | .io i :: as, es, some (.ow d) :: cs, es', h, _, _ => by unfold wb at h; cases h
  | .io i :: as, es, some (.io d) :: cs, es', h, nd, own => by
    unfold wb at h
    have nd' : i ∉ ioIx as ∧ (ioIx as).Nodup := List.nodup_cons.mp nd
    obtain ⟨x, hx⟩ := own i List.mem_cons_self
    obtain ⟨h1, h2⟩ := wb_ok (as := as) h nd'.2 fun j hj => by
      obtain ⟨y, hy⟩ := own j (List.mem_cons_of_mem _ hj)
      have ne : j ≠ i := fun z => nd'.1 (by rw [← z]; exact hj)
      refine ⟨y, ?_⟩
      unfold ownAt at hy ⊢
      rw [setC_ne ne]
      exact hy
    refine ⟨h1.trans (setC_len _ _ _), fun j => ⟨fun hj => ?_, fun k e => ?_⟩⟩
    · have hj' : j ≠ i ∧ j ∉ ioIx as := by
        unfold ioIx at hj
        simpa using hj
      rw [(h2 j).1 hj'.2, setC_ne hj'.1]
    · cases k with
      | zero =>
        simp at e
        subst e
        refine ⟨d, rfl, ?_⟩
        have q := (h2 i).1 nd'.1
        rcases setC_has (d := d) hx with ⟨y, a, b⟩ | ⟨y, a, b⟩
        · exact .inl ⟨y, a, by rw [q]; exact b⟩
        · exact .inr ⟨y, a, by rw [q]; exact b⟩
      | succ k =>
        obtain ⟨d', q1, q2⟩ := (h2 j).2 k (by simpa using e)
        refine ⟨d', by simpa using q1, ?_⟩
        have hj : j ∈ ioIx as := by
          have : ∀ {as : List Ag} {k : Nat}, as[k]? = some (.io j) → j ∈ ioIx as := by
            intro as
            induction as with
            | nil => intro k h; simp at h
            | cons a r ih =>
              intro k h
              cases k with
              | zero => simp at h; subst h; exact List.mem_cons_self
              | succ k =>
                have := ih (k := k) (by simpa using h)
                cases a with
                | sh d => exact this
                | io l => exact List.mem_cons_of_mem _ this
          exact this (k := k) (by simpa using e)
        have ne : j ≠ i := fun z => nd'.1 (z ▸ hj)
        rcases q2 with ⟨y, a, b⟩ | ⟨y, a, b⟩
        · exact .inl ⟨y, by rw [setC_ne ne] at a; exact a, b⟩
        · exact .inr ⟨y, by rw [setC_ne ne] at a; exact a, b⟩
theorem mem_ioIx {j : Nat} : ∀ {as : List Ag}, j ∈ ioIx as → ∃ (k : Nat), as[k]? = some (.io j)
  | [], h => by unfold ioIx at h; cases h
  | .sh d :: r, h => by
    obtain ⟨k, e⟩ := mem_ioIx (as := r) h
    exact ⟨k + 1, by simpa using e⟩
  | .io i :: r, h => by
    unfold ioIx at h
    rcases List.mem_cons.mp h with e | h
    · subst e; exact ⟨0, rfl⟩
    · obtain ⟨k, e⟩ := mem_ioIx h
      exact ⟨k + 1, by simpa using e⟩
theorem ix_ioIx {j : Nat} : ∀ {as : List Ag} {k : Nat}, as[k]? = some (.io j) → j ∈ ioIx as
  | [], _, h => by simp at h
  | a :: r, 0, h => by simp at h; subst h; exact List.mem_cons_self
  | a :: r, k + 1, h => by
    have := ix_ioIx (as := r) (k := k) (by simpa using h)
    cases a with
    | sh d => exact this
    | io l => exact List.mem_cons_of_mem _ this
theorem nd_ioIx {j : Nat} : ∀ {as : List Ag} {k l : Nat}, (ioIx as).Nodup → as[k]? = some (.io j) → as[l]? = some (.io j) → k = l
  | [], _, _, _, h, _ => by simp at h
  | a :: r, 0, 0, _, _, _ => rfl
  | a :: r, 0, l + 1, nd, h1, h2 => by
    simp at h1; subst h1
    exact absurd (ix_ioIx (as := r) (k := l) (by simpa using h2)) (List.nodup_cons.mp nd).1
  | a :: r, k + 1, 0, nd, h1, h2 => by
    simp at h2; subst h2
    exact absurd (ix_ioIx (as := r) (k := k) (by simpa using h1)) (List.nodup_cons.mp nd).1
  | a :: r, k + 1, l + 1, nd, h1, h2 => by
    have nd' : (ioIx r).Nodup := by
      cases a with
      | sh d => exact nd
      | io i => exact (List.nodup_cons.mp nd).2
    exact congrArg (· + 1) (nd_ioIx (as := r) nd' (by simpa using h1) (by simpa using h2))
theorem RelAs.length {K : Kx} {P : Hp} {σ : St} : ∀ {vs : List V} {as : List Ag}, RelAs K P σ vs as → vs.length = as.length
  | _, _, .nil => rfl
  | _, _, .cons _ t => by rw [List.length_cons, List.length_cons, RelAs.length t]
theorem RelAs.get {K : Kx} {P : Hp} {σ : St} : ∀ {vs : List V} {as : List Ag} {k : Nat} {a : Ag}, RelAs K P σ vs as → as[k]? = some a → ∃ v, vs[k]? = some v ∧ RelAg K P σ v a
  | _, _, _, _, .nil, e => by simp at e
  | _, _, 0, _, .cons h _, e => by simp at e; subst e; exact ⟨_, rfl, h⟩
  | _, _, k + 1, _, .cons _ t, e => by
    obtain ⟨v, h1, h2⟩ := RelAs.get (k := k) t (by simpa using e)
    exact ⟨v, by simpa using h1, h2⟩
theorem toEv_len {es : Ev} : ∀ {as : List Ag} {cs : Ev}, toEv es as = some cs → cs.length = as.length
  | [], _, h => by cases h; rfl
  | .sh d :: r, cs, h => by
    obtain ⟨c, h1, h2⟩ := Option.map_eq_some_iff.mp h
    subst h2
    rw [List.length_cons, List.length_cons, toEv_len h1]
  | .io i :: r, cs, h => by
    obtain ⟨d, _, h⟩ := Option.bind_eq_some_iff.mp h
    obtain ⟨c, h1, h2⟩ := Option.map_eq_some_iff.mp h
    subst h2
    rw [List.length_cons, List.length_cons, toEv_len h1]
/-- what stands in a callee's slots -/
theorem toEv_get {es : Ev} : ∀ {as : List Ag} {cs : Ev} {k : Nat} {s : Option Sl}, toEv es as = some cs → cs[k]? = some s → (∃ (d : D), as[k]? = some (.sh d) ∧ s = some (.sh d)) ∨ ∃ (i : Nat) (d : D), as[k]? = some (.io i) ∧ ownAt es i = some d ∧ s = some (.io d)
  | [], _, _, _, h, e => by cases h; simp at e
  | .sh d :: r, cs, k, s, h, e => by
    obtain ⟨c, h1, h2⟩ := Option.map_eq_some_iff.mp h
    subst h2
    cases k with
    | zero => simp at e; exact .inl ⟨d, rfl, e.symm⟩
    | succ k =>
      rcases toEv_get (k := k) h1 (by simpa using e) with ⟨d', q, z⟩ | ⟨i, d', q, z⟩
      · exact .inl ⟨d', by simpa using q, z⟩
      · exact .inr ⟨i, d', by simpa using q, z⟩
  | .io i :: r, cs, k, s, h, e => by
    obtain ⟨d, ho, h⟩ := Option.bind_eq_some_iff.mp h
    obtain ⟨c, h1, h2⟩ := Option.map_eq_some_iff.mp h
    subst h2
    cases k with
    | zero => simp at e; exact .inr ⟨i, d, rfl, ho, e.symm⟩
    | succ k =>
      rcases toEv_get (k := k) h1 (by simpa using e) with ⟨d', q, z⟩ | ⟨i, d', q, z⟩
      · exact .inl ⟨d', by simpa using q, z⟩
      · exact .inr ⟨i, d', by simpa using q, z⟩
theorem toEv_own {es : Ev} : ∀ {as : List Ag} {cs : Ev}, toEv es as = some cs → ∀ i ∈ ioIx as, ∃ x, ownAt es i = some x
  | [], _, _, i, h => by unfold ioIx at h; cases h
  | .sh d :: r, cs, h, i, hi => by
    obtain ⟨c, h1, h2⟩ := Option.map_eq_some_iff.mp h
    exact toEv_own h1 i hi
  | .io j :: r, cs, h, i, hi => by
    obtain ⟨d, ho, h⟩ := Option.bind_eq_some_iff.mp h
    obtain ⟨c, h1, h2⟩ := Option.map_eq_some_iff.mp h
    unfold ioIx at hi
    rcases List.mem_cons.mp hi with e | hi
    · subst e; exact ⟨d, ho⟩
    · exact toEv_own h1 i hi
theorem map_get {vs : List V} {k : Nat} {v : V} : (vs.map some)[k]? = some (some v) ↔ vs[k]? = some v := by
  rw [List.getElem?_map]
  cases vs[k]? <;> simp
section
variable {K : Kx} {E : WX} {σ : St} {es es1 : Ev} {P H P1 H1 : Hp} {vs : List V} {as : List Ag} {cs : Ev}
theorem call_env (ok : EnvOk K P1 H1 σ es1) (rel : RelAs K P1 σ vs as) (nd : (ioIx as).Nodup) (e : toEv es1 as = some cs) : EnvOk K P1 H1 (vs.map some) cs ∧ NoOw cs := by
  have own : ∀ (k : Nat) (d : D), ownAt cs k = some d → ∃ (i : Nat), as[k]? = some (.io i) ∧ ownAt es1 i = some d := fun k d h => by
    unfold ownAt at h
    split at h
    · rename_i x q
      rcases toEv_get e q with ⟨d', _, z⟩ | ⟨i, d', _, _, z⟩ <;> cases z
    · rename_i x q
      cases h
      rcases toEv_get e q with ⟨d', _, z⟩ | ⟨i, d', q1, q2, z⟩
      · cases z
      · cases z; exact ⟨i, q1, q2⟩
    · cases h
  refine ⟨⟨?_, ok.sub, fun k d h => ?_, fun k d h => ?_, fun k l d d' a hkl h1 h2 h3 h4 => ?_⟩, fun k d h => ?_⟩
  · rw [List.length_map, rel.length, toEv_len e]
  · rcases toEv_get e h with ⟨d', q, z⟩ | ⟨i, d', _, _, z⟩
    · cases z
      obtain ⟨v, q1, q2⟩ := rel.get q
      exact ⟨v, map_get.mpr q1, q2⟩
    · cases z
  · obtain ⟨i, q1, q2⟩ := own k d h
    obtain ⟨v, q3, q4⟩ := rel.get q1
    obtain ⟨a, q5, q6⟩ := ok.ow i d q2
    have q4 : σ[i]? = some (some v) := q4
    rw [q4] at q5; cases q5
    exact ⟨a, map_get.mpr q3, q6⟩
  · obtain ⟨i, q1, q2⟩ := own k d h1
    obtain ⟨j, r1, r2⟩ := own l d' h2
    obtain ⟨v, q3, q4⟩ := rel.get q1
    obtain ⟨w, r3, r4⟩ := rel.get r1
    rw [map_get.mp h3] at q3; cases q3
    rw [map_get.mp h4] at r3; cases r3
    have hij : i ≠ j := fun z => by subst z; exact hkl (nd_ioIx nd q1 r1)
    exact ok.apart i j d d' a hij q2 r2 q4 r4
  · rcases toEv_get e h with ⟨d', _, z⟩ | ⟨i, d', _, _, z⟩ <;> cases z
/-- behind the callee -/
theorem call_back {cs' es' : Ev} {P' H' : Hp} (g : GoE K σ es P H es1 P1 H1) (rel : RelAs K P1 σ vs as) (nd : (ioIx as).Nodup) (e : toEv es1 as = some cs) (c : GoE K (vs.map some) cs P1 H1 cs' P' H') (w : wb es1 as cs' = some es') :
    GoE K σ es P H es' P' H' ∧ ∀ a, Own σ es' a → ∃ o, H1 a = some o := by
  obtain ⟨hl, hw⟩ := wb_ok w nd (toEv_own e)
  have ownC : ∀ a, Own (vs.map some) cs a → Own σ es1 a := fun a ⟨k, d, h1, h2⟩ => by
    unfold ownAt at h1
    split at h1
    · rename_i x q
      rcases toEv_get e q with ⟨d', _, z⟩ | ⟨i, d', _, _, z⟩ <;> cases z
    · rename_i x q
      rcases toEv_get e q with ⟨d', _, z⟩ | ⟨i, d', q1, q2, z⟩
      · cases z
      · obtain ⟨v, q3, q4⟩ := rel.get q1
        rw [map_get.mp h2] at q3; cases q3
        exact ⟨i, d', q2, q4⟩
    · cases h1
  -- owned behind: owned ahead
  have back : ∀ j d, ownAt es' j = some d → ∃ d0, ownAt es1 j = some d0 := fun j d h => by
    by_cases hj : j ∈ ioIx as
    · exact toEv_own e j hj
    · unfold ownAt at h ⊢
      rw [(hw j).1 hj] at h
      exact ⟨d, h⟩
  have st : Step (Own σ es) P H P' H' := g.st.trans c.st fun a h => .inl (g.own (ownC a h))
  refine ⟨⟨st, ⟨g.ok.len.trans hl.symm, c.ok.sub, fun j d h => ?_, fun j d h => ?_, fun j k d d' a hjk h1 h2 => ?_⟩, fun j d h => ?_, fun j d h => ?_⟩, fun a ⟨j, d, h1, h2⟩ => ?_⟩
  · by_cases hj : j ∈ ioIx as
    · obtain ⟨k, hk⟩ := mem_ioIx hj
      obtain ⟨d', _, q⟩ := (hw j).2 k hk
      rcases q with ⟨x, _, q⟩ | ⟨x, _, q⟩ <;> (rw [h] at q; cases q)
    · rw [(hw j).1 hj] at h
      obtain ⟨v, q1, q2⟩ := g.ok.sh j d h
      exact ⟨v, q1, q2.mono c.st.pp⟩
  · by_cases hj : j ∈ ioIx as
    · obtain ⟨k, hk⟩ := mem_ioIx hj
      obtain ⟨d', q0, q⟩ := (hw j).2 k hk
      have hd : d = d' := by
        unfold ownAt at h
        rcases q with ⟨x, _, q⟩ | ⟨x, _, q⟩ <;> (rw [q] at h; cases h; rfl)
      subst hd
      obtain ⟨a, q1, q2⟩ := c.ok.ow k d (by unfold ownAt; rw [q0])
      obtain ⟨v, q3, q4⟩ := rel.get hk
      rw [map_get.mp q1] at q3; cases q3
      exact ⟨a, q4, q2⟩
    · have h' : ownAt es1 j = some d := by
        unfold ownAt at h ⊢
        rw [(hw j).1 hj] at h
        exact h
      obtain ⟨a, q1, q2⟩ := g.ok.ow j d h'
      refine ⟨a, q1, q2.step c.st fun ⟨k, d', z1, z2⟩ => ?_⟩
      unfold ownAt at z1
      split at z1
      · rename_i x q
        rcases toEv_get e q with ⟨d'', _, z⟩ | ⟨i, d'', _, _, z⟩ <;> cases z
      · rename_i x q
        rcases toEv_get e q with ⟨d'', _, z⟩ | ⟨i, d'', r1, r2, z⟩
        · cases z
        · obtain ⟨v, r3, r4⟩ := rel.get r1
          rw [map_get.mp z2] at r3; cases r3
          have hij : j ≠ i := fun z => hj (z ▸ ix_ioIx r1)
          exact g.ok.apart j i d d'' a hij h' r2 q1 r4
      · cases z1
  · obtain ⟨x, hx⟩ := back j d h1
    obtain ⟨y, hy⟩ := back k d' h2
    exact g.ok.apart j k x y a hjk hx hy
  · obtain ⟨x, hx⟩ := back j d h
    exact g.le j x hx
  · obtain ⟨d1, h1⟩ := g.io j d h
    by_cases hj : j ∈ ioIx as
    · obtain ⟨k, hk⟩ := mem_ioIx hj
      obtain ⟨d', _, q⟩ := (hw j).2 k hk
      rcases q with ⟨x, q0, q⟩ | ⟨x, q0, q⟩
      · rw [h1] at q0; cases q0
      · exact ⟨d', q⟩
    · exact ⟨d1, by rw [(hw j).1 hj]; exact h1⟩
  · obtain ⟨x, hx⟩ := back j d h1
    obtain ⟨b, q1, q2⟩ := g.ok.ow j x hx
    rw [h2] at q1; cases q1
    exact q2.tracked
end
/-- a call of a def; dfs: the defaults behind the written arguments -/
def fCall (m : Fe) (fs : List (Bool × Fe)) (dfs : List D) : Fe := fun es => (fArgs fs es).bind fun p =>
  if (ioIx p.1).Nodup then (Rs.of (toEv p.2 (p.1 ++ dfs.map .sh))).bind fun cs => match m cs with
    | .ok (.sh d, cs') => (Rs.of (wb p.2 (p.1 ++ dfs.map .sh) cs')).bind fun es' => .ok (.sh d, es')
    | .ok (.fr d, cs') => (Rs.of (wb p.2 (p.1 ++ dfs.map .sh) cs')).bind fun es' => .ok (.fr d, es')
    | .ok (.ow _, _) => .st
    | .ex x cs' => (Rs.of (wb p.2 (p.1 ++ dfs.map .sh) cs')).bind fun es' => .ex x es'
    | .st => .st
  else .st
/-- .. that lets no exception out -/
def noX (m : Fe) : Fe := fun cs => match m cs with
  | .ex _ _ => .st
  | r => r
theorem ioIx_dfs : ∀ (as : List Ag) (dfs : List D), ioIx (as ++ dfs.map .sh) = ioIx as
  | [], [] => rfl
  | [], d :: ds => by
    show ioIx (ds.map .sh) = []
    have := ioIx_dfs [] ds
    exact this
  | .sh d :: as, dfs => ioIx_dfs as dfs
  | .io i :: as, dfs => by
    show i :: ioIx (as ++ dfs.map .sh) = i :: ioIx as
    rw [ioIx_dfs as dfs]
/-- defaults that are flat -/
def DfOk (K : Kx) : List V → List D → Prop := fun vs ds => ∀ P, DnA K P vs ds
theorem RelAs.dfs {K : Kx} {P : Hp} {σ : St} : ∀ {vs : List V} {as : List Ag} {dvs : List V} {dfs : List D}, RelAs K P σ vs as → DnA K P dvs dfs → RelAs K P σ (vs ++ dvs) (as ++ dfs.map .sh)
  | _, _, _, _, .nil, .nil => .nil
  | _, _, _, _, .nil, .cons h t => .cons h (RelAs.dfs .nil t)
  | _, _, _, _, .cons h t, q => .cons h (RelAs.dfs t q)
section
variable {X : Cx} {we : WX} {CX : CXT} {k : Nat} {f : Addr} {fd : FuncData} {ps : List Str} {m : Fe} {x : Str} {p pos : Pos} {e : Expr} {es : List Expr} {fs : List (Bool × Fe)} {n : Nat} {dvs : List V} {ds : List Value} {dfs : List D}
theorem call_ok {fs : List (Bool × Fe)} {σ : St} {H : Hp} {Q : VK} (hd : DfOk (kx X ⟨we, none⟩) dvs dfs) (hn : fs.length + dvs.length = n) (h : tD (kx X ⟨we, none⟩) we (fCall m fs dfs) σ H Q) : tDA (kx X ⟨we, none⟩) we (fArgs fs) σ H fun vs H1 => spD X.K n m (vs ++ dvs) H1 Q (WE we σ) := by
  obtain ⟨P, es, ok, h⟩ := h
  have flen : ∀ {fs : List (Bool × Fe)} {es : Ev} {p : List Ag × Ev}, fArgs fs es = .ok p → p.1.length = fs.length := by
    intro fs
    induction fs with
    | nil => intro es p h; cases h; rfl
    | cons a r ih =>
      intro es p h
      obtain ⟨b, f⟩ := a
      cases b with
      | false =>
        unfold fArgs at h
        cases e1 : f es with
        | ok q =>
          rw [e1] at h
          simp only [Rs.bind_ok] at h
          cases e2 : toSh q.1 q.2 with
          | none => rw [e2] at h; cases h
          | some t =>
            rw [e2] at h
            simp only [Rs.of_some, Rs.bind_ok] at h
            cases e3 : fArgs r t.2 with
            | ok u => rw [e3] at h; cases h; simp [ih e3]
            | ex => rw [e3] at h; cases h
            | st => rw [e3] at h; cases h
        | ex => rw [e1] at h; cases h
        | st => rw [e1] at h; cases h
      | true =>
        unfold fArgs at h
        cases e1 : f es with
        | ok q =>
          rw [e1] at h
          simp only [Rs.bind_ok] at h
          split at h
          · cases e3 : fArgs r q.2 with
            | ok u => rw [e3] at h; cases h; simp [ih e3]
            | ex => rw [e3] at h; cases h
            | st => rw [e3] at h; cases h
          · cases h
        | ex => rw [e1] at h; cases h
        | st => rw [e1] at h; cases h
  refine ⟨P, es, ok, ?_⟩
  have h := G.bind h.g
  cases e0 : fArgs fs es with
  | ex x es' => rw [e0] at h; exact h
  | st => rw [e0] at h; exact h
  | ok p =>
    rw [e0] at h
    have hp := flen e0
    have h : G (kx X ⟨we, none⟩) we σ es P H (if (ioIx p.1).Nodup then _ else _) _ := h
    split at h
    · rename_i nd
      obtain ⟨cs, e1, h1⟩ := G.of (G.bind h)
      intro vs P1 H1 g rel
      have rel' := rel.dfs (hd P1)
      have nd' : (ioIx (p.1 ++ dfs.map .sh)).Nodup := by rw [ioIx_dfs]; exact nd
      obtain ⟨ok1, no⟩ := call_env g.ok rel' nd' e1
      refine ⟨by rw [List.length_append, rel.length, hp]; exact hn, P1, cs, ok1, no, ?_⟩
      have fin : ∀ {r : R} {cs' es' : Ev} {P' H' : Hp} {v : V}, wb p.2 (p.1 ++ dfs.map .sh) cs' = some es' → GoE (kx X ⟨we, none⟩) ((vs ++ dvs).map some) cs P1 H1 cs' P' H' → RelR (kx X ⟨we, none⟩) H1 P' H' ((vs ++ dvs).map some) cs' v r → (∀ i, r ≠ .ow i) →
          GoE (kx X ⟨we, none⟩) σ es P H es' P' H' ∧ RelR (kx X ⟨we, none⟩) H P' H' σ es' v r := fun {r cs' es' P' H' v} w c rr no => by
        obtain ⟨g', tr⟩ := call_back g rel' nd' e1 c w
        refine ⟨g', ?_⟩
        cases r with
        | sh d => exact rr
        | ow i => exact absurd rfl (no i)
        | fr d =>
          obtain ⟨a, rfl, r1, r2, r3⟩ := rr
          refine ⟨a, rfl, r1, fun z => ?_, g.st.free r3⟩
          obtain ⟨o, ho⟩ := tr a z
          rw [r3] at ho; cases ho
      cases e2 : m cs with
      | ok q =>
        obtain ⟨r, cs'⟩ := q
        rw [e2] at h1
        cases r with
        | sh d =>
          obtain ⟨es', w, h2⟩ := G.of (G.bind h1)
          intro v P' H' c rr
          obtain ⟨g', r'⟩ := fin w c rr fun i z => nomatch z
          exact h2 v P' H' g' r'
        | fr d =>
          obtain ⟨es', w, h2⟩ := G.of (G.bind h1)
          intro v P' H' c rr
          obtain ⟨g', r'⟩ := fin w c rr fun i z => nomatch z
          exact h2 v P' H' g' r'
        | ow i => exact False.elim h1
      | ex x cs' =>
        rw [e2] at h1
        obtain ⟨es', w, h2⟩ := G.of (G.bind h1)
        intro P' H' cls od c xr
        obtain ⟨g', _⟩ := call_back g rel' nd' e1 c w
        exact h2 P' H' cls od g' xr
      | st => rw [e2] at h1; exact False.elim h1
    · exact False.elim h
theorem tDA_len {t : TA} : True := trivial
theorem DAs.length {xs : List Expr} : ∀ {fs : List (Bool × Fe)}, DAs X ⟨we, none⟩ xs fs → fs.length = xs.length := by
  induction xs with
  | nil => intro fs h; cases h; rfl
  | cons e r ih => intro fs h; cases h with | cons _ _ t => rw [List.length_cons, List.length_cons, ih t]
/-- f(e, ..) of a def that may raise -/
theorem de_call (F : FnOk X.prog X.w X.K X.mg X.base CX k f fd ps (spD X.K n m)) (hr : Room k X.A) (hg : Gl X x) (hm : X.mg x = some (.ref f)) (hk : PySem.W.keepIn X.K (.ref f) = true) (hb : Binds X.K fd ps ds) (hv : Vals dvs ds) (hd : DfOk (kx X ⟨we, none⟩) dvs dfs) (hx : ∀ σ, PassesAt CX X σ (WE we σ))
    (ha : DAs X ⟨we, none⟩ (e :: es) fs) (hn : fs.length + dvs.length = n := by rfl) (hdb : (x == ("__debug__" : Str)) = false := by decide) (he : starEach (e :: es) X.env = (false, eval e X.env) :: starEach es X.env := by rfl) (hpl : (backTo pos (starEach es X.env)).any (·.1) = false := by rfl) :
    DE X ⟨we, none⟩ (.Call (.Name x p) (e :: es) [] pos) (fCall m fs dfs) :=
  pe_imp (pe_callSD F hr hg hm hk hb hv hx (das_pa ha) hdb he hpl) fun σ H Q h => call_ok hd hn h
/-- f(e, ..) of a def that lets nothing out -/
theorem de_call0 (F : FnOk X.prog X.w X.K X.mg X.base CX0 k f fd ps (spD0 X.K n m)) (hr : Room k X.A) (hg : Gl X x) (hm : X.mg x = some (.ref f)) (hk : PySem.W.keepIn X.K (.ref f) = true) (hb : Binds X.K fd ps ds) (hv : Vals dvs ds) (hd : DfOk (kx X ⟨we, none⟩) dvs dfs)
    (ha : DAs X ⟨we, none⟩ (e :: es) fs) (hn : fs.length + dvs.length = n := by rfl) (hdb : (x == ("__debug__" : Str)) = false := by decide) (he : starEach (e :: es) X.env = (false, eval e X.env) :: starEach es X.env := by rfl) (hpl : (backTo pos (starEach es X.env)).any (·.1) = false := by rfl) :
    DE X ⟨we, none⟩ (.Call (.Name x p) (e :: es) [] pos) (fCall (noX m) fs dfs) := by
  refine pe_imp (pe_call (E := E0) F hr hg hm hk hb hv pass0 (das_pa ha) hdb he hpl) fun σ H Q h => ?_
  obtain ⟨P, es, ok, q⟩ := call_ok hd hn h
  refine ⟨P, es, ok, q.mono fun p hp vs P' H' g rel => ?_⟩
  obtain ⟨hl, P1, cs, ok1, no, h1⟩ := hp vs P' H' g rel
  refine ⟨hl, P1, cs, ok1, no, ?_⟩
  unfold noX at h1
  cases e : m cs with
  | ok r => rw [e] at h1; exact h1
  | ex x c => rw [e] at h1; exact False.elim h1
  | st => rw [e] at h1; exact h1
end
end DL

/-! DL, part 5: statements, targets, loops. -/
namespace DL
open PySem PySem.Spec L2
open PyProof.Rows hiding St
set_option autoImplicit false

/-- how a block ends -/
inductive Ot where
  | nx (es : Ev) | rt (r : R) (es : Ev) | bk (es : Ev) | ct (es : Ev)
abbrev Fs := Ev → Rs Ot
/-- an outcome of statements: B the heap at the beginning -/
def GS (K : Kx) (E : WX) (σ : St) (es : Ev) (P H : Hp) {α : Type} (res : Rs α) (F : α → Prop) : Prop := match res with
  | .ok a => F a
  | .ex x es' => ∀ σ' P' H' cls od, GoS K σ es P H σ' es' P' H' → XRel K P' H' cls od x → E cls od σ' H'
  | .st => False
def OtQ (K : Kx) (σ : St) (es : Ev) (P H : Hp) (D : Ends) : Ot → Prop
  | .nx es' => ∀ σ' P' H', GoS K σ es P H σ' es' P' H' → D.nx σ' H'
  | .bk es' => ∀ σ' P' H', GoS K σ es P H σ' es' P' H' → D.bk σ' H'
  | .ct es' => ∀ σ' P' H', GoS K σ es P H σ' es' P' H' → D.ct σ' H'
  | .rt r es' => ∀ v σ' P' H', GoS K σ es P H σ' es' P' H' → RelR K H P' H' σ' es' v r → D.rt v H'
def tS (K : Kx) (E : WX) (g : Fs) : TS := fun D σ H => ∃ P es, EnvOk K P H σ es ∧ GS K E σ es P H (g es) (OtQ K σ es P H D)
def DS (X : Cx) (E : We) (st : Stmt) (g : Fs) : Prop := PS X st (tS (kx X E) E.w g)
def DSs (X : Cx) (E : We) (st : List Stmt) (g : Fs) : Prop := PSs X st (tS (kx X E) E.w g)
theorem ps_imp {X : Cx} {st : Stmt} {t t' : TS} (h : PS X st t) (q : ∀ D σ H, t' D σ H → t D σ H) : PS X st t' := ⟨fun pins s σ H D I z => h.run pins s σ H D I (q D σ H z)⟩
theorem pss_imp {X : Cx} {st : List Stmt} {t t' : TS} (h : PSs X st t) (q : ∀ D σ H, t' D σ H → t D σ H) : PSs X st t' := ⟨fun pins s σ H D I z => h.run pins s σ H D I (q D σ H z)⟩
section
variable {K : Kx} {E : WX} {σ σ1 σ2 : St} {es es1 es2 : Ev} {P H P1 H1 P2 H2 B : Hp} {α β : Type} {D D' : Ends} {v : V} {r : R}
theorem GS.bind {x : Rs α} {k : α → Rs β} {F : β → Prop} (h : GS K E σ es P H (x.bind k) F) : GS K E σ es P H x fun a => GS K E σ es P H (k a) F := by
  cases x <;> exact h
theorem GS.mono {x : Rs α} {F F' : α → Prop} (h : GS K E σ es P H x F) (q : ∀ a, F a → F' a) : GS K E σ es P H x F' := by
  cases x with
  | ok a => exact q a h
  | ex x e => exact h
  | st => exact h
theorem GS.of {o : Option α} {F : α → Prop} (h : GS K E σ es P H (Rs.of o) F) : ∃ a, o = some a ∧ F a := by
  cases o with
  | none => exact False.elim h
  | some a => exact ⟨a, rfl, h⟩
theorem GoS.e (g : GoS K σ es P H σ1 es1 P1 H1) (t : GoE K σ1 es1 P1 H1 es2 P2 H2) : GoS K σ es P H σ1 es2 P2 H2 := g.trans (.of t)
/-- an expression, a test at a later point -/
theorem tD_s {f : Fe} {F : R × Ev → Prop} (g : GoS K σ es P H σ1 es1 P1 H1) (h : GS K E σ es P H (f es1) F) :
    tD K E f σ1 H1 fun v H2 => ∃ r es2 P2, GoS K σ es P H σ1 es2 P2 H2 ∧ GoE K σ1 es1 P1 H1 es2 P2 H2 ∧ RelR K H P2 H2 σ1 es2 v r ∧ F (r, es2) := by
  refine ⟨P1, es1, g.ok, ?_⟩
  cases e : f es1 with
  | ok p =>
    rw [e] at h
    exact fun v P2 H2 g2 rel => ⟨p.1, p.2, P2, g.e g2, g2, rel.base fun a n => g.st.free n, h⟩
  | ex x es2 =>
    rw [e] at h
    exact fun P2 H2 cls od g2 rel => h σ1 P2 H2 cls od (g.e g2) rel
  | st => rw [e] at h; exact h
theorem tDT_s {f : Ft} {F : Bool × Ev → Prop} (g : GoS K σ es P H σ1 es1 P1 H1) (h : GS K E σ es P H (f es1) F) :
    tDT K E f σ1 H1 fun b H2 => ∃ es2 P2, GoS K σ es P H σ1 es2 P2 H2 ∧ GoE K σ1 es1 P1 H1 es2 P2 H2 ∧ F (b, es2) := by
  refine ⟨P1, es1, g.ok, ?_⟩
  cases e : f es1 with
  | ok p =>
    rw [e] at h
    exact fun P2 H2 g2 => ⟨p.2, P2, g.e g2, g2, h⟩
  | ex x es2 =>
    rw [e] at h
    exact fun P2 H2 cls od g2 rel => h σ1 P2 H2 cls od (g.e g2) rel
  | st => rw [e] at h; exact h
/-- a block at a later point -/
theorem OtQ.from (g : GoS K σ es P H σ1 es1 P1 H1) {o : Ot} (h : OtQ K σ es P H D o) : OtQ K σ1 es1 P1 H1 D o := by
  cases o with
  | nx e => exact fun σ' P' H' t => h σ' P' H' (g.trans t)
  | bk e => exact fun σ' P' H' t => h σ' P' H' (g.trans t)
  | ct e => exact fun σ' P' H' t => h σ' P' H' (g.trans t)
  | rt r e => exact fun v σ' P' H' t rel => h v σ' P' H' (g.trans t) (rel.base fun a n => g.st.free n)
theorem OtQ.ends {o : Ot} (h : OtQ K σ es P H D o) (h1 : ∀ σ H, D.nx σ H → D'.nx σ H) (h2 : ∀ v H, D.rt v H → D'.rt v H) (h3 : ∀ σ H, D.bk σ H → D'.bk σ H) (h4 : ∀ σ H, D.ct σ H → D'.ct σ H) : OtQ K σ es P H D' o := by
  cases o with
  | nx e => exact fun σ' P' H' t => h1 _ _ (h σ' P' H' t)
  | bk e => exact fun σ' P' H' t => h3 _ _ (h σ' P' H' t)
  | ct e => exact fun σ' P' H' t => h4 _ _ (h σ' P' H' t)
  | rt r e => exact fun v σ' P' H' t rel => h2 _ _ (h v σ' P' H' t rel)
theorem tS_from {g : Fs} (t : GoS K σ es P H σ1 es1 P1 H1) (h : GS K E σ es P H (g es1) (OtQ K σ es P H D)) : tS K E g D σ1 H1 := by
  refine ⟨P1, es1, t.ok, ?_⟩
  cases e : g es1 with
  | ok o => rw [e] at h; exact h.from t
  | ex x es2 => rw [e] at h; exact fun σ' P' H' cls od q rel => h σ' P' H' cls od (t.trans q) rel
  | st => rw [e] at h; exact h
/-- .. with what follows -/
theorem tS_seq {g : Fs} {k : Ot → Rs Ot} (t : GoS K σ es P H σ1 es1 P1 H1) (h : GS K E σ es P H ((g es1).bind k) (OtQ K σ es P H D)) (D' : Ends)
    (q : ∀ o, GS K E σ es P H (k o) (OtQ K σ es P H D) → OtQ K σ es P H D' o) : tS K E g D' σ1 H1 := tS_from t ((GS.bind h).mono q)
theorem tD_ms {f : Fe} {Q Q' : VK} (h : tD K E f σ H Q) (q : ∀ v H', Q v H' → Q' v H') : tD K E f σ H Q' := tD_mono h q
end

/-! ### blocks and small statements -/
def gNil : Fs := fun es => .ok (.nx es)
def gSeq (g1 g2 : Fs) : Fs := fun es => (g1 es).bind fun o => match o with
  | .nx e => g2 e
  | o => .ok o
def gRet (f : Fe) : Fs := fun es => (f es).bind fun p => .ok (.rt p.1 p.2)
def gRetN : Fs := fun es => .ok (.rt (.sh .non) es)
def gIf (ft : Ft) (g1 g2 : Fs) : Fs := fun es => (ft es).bind fun p => if p.1 = true then g1 p.2 else g2 p.2
def gExp (f : Fe) : Fs := fun es => (f es).bind fun p => .ok (.nx p.2)
def gBk : Fs := fun es => .ok (.bk es)
def gCt : Fs := fun es => .ok (.ct es)
section
variable {X : Cx} {E : We} {st : Stmt} {rest a b : List Stmt} {e c : Expr} {f : Fe} {ft : Ft} {g1 g2 g : Fs} {pos : Pos}
theorem dss_nil : DSs X E [] gNil := pss_imp pss_nil fun D σ H ⟨P, es, ok, h⟩ => h σ P H (.refl ok)
theorem dss_cons (h1 : DS X E st g1) (h2 : DSs X E rest g2) : DSs X E (st :: rest) (gSeq g1 g2) := by
  refine pss_imp (pss_cons h1 h2) fun D σ H ⟨P, es, ok, h⟩ => tS_seq (.refl ok) h _ fun o q => ?_
  cases o with
  | nx e1 => exact fun σ' P' H' t => tS_from t q
  | bk e1 => exact q
  | ct e1 => exact q
  | rt r e1 => exact q
theorem dss_one (h1 : DS X E st g) : DSs X E [st] g := pss_one h1
theorem ds_pass : DS X E (.Pass pos) gNil := ps_imp ps_pass fun D σ H ⟨P, es, ok, h⟩ => h σ P H (.refl ok)
theorem ds_doc {x j pos pos'} : DS X E (.Expr (.Constant (.str x) j pos) pos') gNil := ps_imp ps_doc fun D σ H ⟨P, es, ok, h⟩ => h σ P H (.refl ok)
theorem ds_break : DS X E (.Break pos) gBk := ps_imp ps_break fun D σ H ⟨P, es, ok, h⟩ => h σ P H (.refl ok)
theorem ds_continue : DS X E (.Continue pos) gCt := ps_imp ps_continue fun D σ H ⟨P, es, ok, h⟩ => h σ P H (.refl ok)
theorem ds_ret (he : DE X E e f) : DS X E (.Return (some e) pos) (gRet f) := by
  refine ps_imp (ps_ret he) fun D σ H ⟨P, es, ok, h⟩ => tD_ms (tD_s (.refl ok) (GS.bind h)) fun v H1 ⟨r, es1, P1, g1, _, rel, q⟩ => ?_
  exact q v σ P1 H1 g1 rel
theorem ds_retN : DS X E (.Return none pos) gRetN := ps_imp ps_retN fun D σ H ⟨P, es, ok, h⟩ => h .non σ P H (.refl ok) .non
theorem ds_if (hc : DT X E c ft) (ha : DSs X E a g1) (hb : DSs X E b g2) : DS X E (.If c a b pos) (gIf ft g1 g2) := by
  refine ps_imp (ps_if hc ha hb) fun D σ H ⟨P, es, ok, h⟩ => tDT_mono (tDT_s (.refl ok) (GS.bind h)) fun k H1 ⟨es1, P1, t1, _, q⟩ => ?_
  cases k with
  | true => exact tS_from t1 q
  | false => exact tS_from t1 q
theorem ds_exp (he : DE X E e f) (hs : swapsWith e none pos.line X.env = pure false := by rfl) : DS X E (.Expr e pos) (gExp f) := by
  refine ps_imp (ps_expr he hs) fun D σ H ⟨P, es, ok, h⟩ => tD_ms (tD_s (.refl ok) (GS.bind h)) fun v H1 ⟨r, es1, P1, g1, _, rel, q⟩ => ?_
  exact q σ P1 H1 g1
end

/-! ### stores to names -/
section
variable {K : Kx} {E : WX} {σ σ1 : St} {es es1 : Ev} {P H P1 H1 : Hp} {v : V} {d : D} {i : Nat} {a : Addr}
def isIo (es : Ev) (i : Nat) : Bool := match es[i]? with
  | some (some (.io _)) => true
  | _ => false
theorem isIo_no {es : Ev} {i : Nat} {d : D} (h : isIo es i = false) : es[i]? ≠ some (some (.io d)) := fun z => by
  unfold isIo at h; rw [z] at h; cases h
theorem ownAt_set {es : Ev} {i j : Nat} {s : Option Sl} {x : D} (h : ownAt (es.set i s) j = some x) : (j = i ∧ (s = some (.ow x) ∨ s = some (.io x))) ∨ (j ≠ i ∧ ownAt es j = some x) := by
  unfold ownAt at h
  by_cases hj : i = j
  · subst hj
    by_cases hi : i < es.length
    · rw [List.getElem?_set_self hi] at h
      refine .inl ⟨rfl, ?_⟩
      split at h
      · rename_i y e; cases h; injection e with e; exact .inl e
      · rename_i y e; cases h; injection e with e; exact .inr e
      · cases h
    · rw [List.getElem?_eq_none (by simpa using hi)] at h; simp at h
  · rw [List.getElem?_set_ne hj] at h
    refine .inr ⟨Ne.symm hj, ?_⟩
    unfold ownAt; exact h
/-- a slot is set; s says how -/
theorem GoS.put {s : Option Sl} (g : GoS K σ es P H σ1 es1 P1 H1) (no : isIo es1 i = false) (hs : (∃ d, s = some (.sh d) ∧ Dn K P1 v d) ∨ s = none ∨ (∃ d a, s = some (.ow d) ∧ v = .ref a ∧ OwnOk K P1 H1 a d ∧ ¬ Own σ1 es1 a ∧ H a = none)) :
    GoS K σ es P H (σ1.set i (some v)) (es1.set i s) P1 H1 := by
  have own : ∀ j x, ownAt (es1.set i s) j = some x → (j = i ∧ ∃ a, v = .ref a ∧ s = some (.ow x) ∧ OwnOk K P1 H1 a x ∧ ¬ Own σ1 es1 a ∧ H a = none) ∨ (j ≠ i ∧ ownAt es1 j = some x) := fun j x h => by
    rcases ownAt_set h with ⟨e, q⟩ | q
    · refine .inl ⟨e, ?_⟩
      rcases hs with ⟨d, z, _⟩ | z | ⟨d, a, z, h1, h2, h3, h4⟩
      · rw [z] at q; rcases q with q | q <;> cases q
      · rw [z] at q; rcases q with q | q <;> cases q
      · rw [z] at q
        rcases q with q | q
        · cases q; exact ⟨a, h1, z, h2, h3, h4⟩
        · cases q
    · exact .inr q
  have len : i < es1.length → i < σ1.length := fun h => by rw [g.ok.len]; exact h
  have inb : ∀ x, ownAt (es1.set i s) i = some x → i < es1.length := fun x h => by
    by_cases hi : i < es1.length
    · exact hi
    · unfold ownAt at h
      rw [List.getElem?_eq_none (by simpa using hi)] at h; simp at h
  refine ⟨g.st, ⟨by rw [List.length_set, List.length_set]; exact g.ok.len, g.ok.sub, fun j x h => ?_, fun j x h => ?_, fun j k x y b hjk h1 h2 h3 h4 => ?_⟩, fun b ⟨j, x, h1, h2⟩ => ?_, fun j x h => ?_⟩
  · by_cases hj : i = j
    · subst hj
      have hi : i < es1.length := by
        have := (List.getElem?_eq_some_iff.mp h).1
        simpa using this
      rw [List.getElem?_set_self hi] at h
      rcases hs with ⟨d, z, dn⟩ | z | ⟨d, a, z, _⟩
      · rw [z] at h; cases h
        exact ⟨v, List.getElem?_set_self (len hi), dn⟩
      · rw [z] at h; cases h
      · rw [z] at h; cases h
    · rw [List.getElem?_set_ne hj] at h
      obtain ⟨w, q1, q2⟩ := g.ok.sh j x h
      exact ⟨w, by rw [List.getElem?_set_ne hj]; exact q1, q2⟩
  · rcases own j x h with ⟨e, a, q1, q2, q3, q4, q5⟩ | ⟨hj, q⟩
    · subst e
      exact ⟨a, by rw [List.getElem?_set_self (len (inb x h)), q1], q3⟩
    · obtain ⟨a, q1, q2⟩ := g.ok.ow j x q
      exact ⟨a, by rw [List.getElem?_set_ne (Ne.symm hj)]; exact q1, q2⟩
  · rcases own j x h1 with ⟨e, a, q1, q2, q3, q4, q5⟩ | ⟨hj, q⟩
    · subst e
      rcases own k y h2 with ⟨e', _⟩ | ⟨hk, q'⟩
      · exact hjk e'.symm
      · rw [List.getElem?_set_ne (Ne.symm hk)] at h4
        rw [List.getElem?_set_self (len (inb x h1)), q1] at h3
        cases h3
        exact q4 ⟨k, y, q', h4⟩
    · rcases own k y h2 with ⟨e', a, q1, q2, q3, q4, q5⟩ | ⟨hk, q'⟩
      · subst e'
        rw [List.getElem?_set_ne (Ne.symm hj)] at h3
        rw [List.getElem?_set_self (len (inb y h2)), q1] at h4
        cases h4
        exact q4 ⟨j, x, q, h3⟩
      · rw [List.getElem?_set_ne (Ne.symm hj)] at h3
        rw [List.getElem?_set_ne (Ne.symm hk)] at h4
        exact g.ok.apart j k x y b hjk q q' h3 h4
  · rcases own j x h1 with ⟨e, a, q1, q2, q3, q4, q5⟩ | ⟨hj, q⟩
    · subst e
      rw [List.getElem?_set_self (len (inb x h1)), q1] at h2
      cases h2
      exact .inr q5
    · rw [List.getElem?_set_ne (Ne.symm hj)] at h2
      exact g.le b ⟨j, x, q, h2⟩
  · obtain ⟨⟨d', q⟩, r⟩ := g.io j x h
    have hj : i ≠ j := fun z => by subst z; exact isIo_no no q
    exact ⟨⟨d', by rw [List.getElem?_set_ne hj]; exact q⟩, by rw [List.getElem?_set_ne hj]; exact r⟩
end
/-- a result that is shared from now on, at a statement's point -/
theorem toSh_s {K : Kx} {σ σ1 : St} {es es1 es2 : Ev} {P H P1 H1 : Hp} {v : V} {r : R} {d : D} (g : GoS K σ es P H σ1 es1 P1 H1) (rel : RelR K H P1 H1 σ1 es1 v r) (e : toSh r es1 = some (d, es2)) :
    ∃ P2, GoS K σ es P H σ1 es2 P2 H1 ∧ Dn K P2 v d ∧ Same P1 P2 := by
  cases r with
  | sh x => cases e; exact ⟨P1, g, rel, Same.refl _⟩
  | fr x =>
    cases e
    obtain ⟨a, rfl, h, no, hb⟩ := rel
    obtain ⟨o, ho⟩ := h.tracked
    have s : Same P1 (upd P1 a o) := fun b u e => by rw [upd_ne (ne_of_none e h.1)]; exact e
    have dn : Dn K (upd P1 a o) (.ref a) d := by
      obtain ⟨h0, h⟩ := h
      cases d with
      | lst ds =>
        obtain ⟨xs, e, z, t⟩ := h
        rw [ho] at e; cases e
        exact .lst upd_same z (t.mono s)
      | dk ds =>
        obtain ⟨xs, e, z, t⟩ := h
        rw [ho] at e; cases e
        exact .dk upd_same z (t.mono s)
      | ins c ds =>
        obtain ⟨C, dx, fs, e, kc, t⟩ := h
        rw [ho] at e; cases e
        exact .ins upd_same kc (t.mono s)
      | _ => exact False.elim h
    refine ⟨upd P1 a o, ⟨⟨g.st.pp.trans s, fun b u e => ?_, g.st.keep, g.st.there⟩, ⟨g.ok.len, fun b u e => ?_, fun i x e => ?_, fun i x e => ?_, g.ok.apart⟩, g.le, g.io⟩, dn, s⟩
    · by_cases hb' : b = a
      · subst hb'; exact .inr (.inl hb)
      · rw [upd_ne hb'] at e; exact g.st.new b u e
    · by_cases hb' : b = a
      · subst hb'; rw [upd_same] at e; cases e; exact ho
      · rw [upd_ne hb'] at e; exact g.ok.sub b u e
    · obtain ⟨w, h1, h2⟩ := g.ok.sh i x e
      exact ⟨w, h1, h2.mono s⟩
    · obtain ⟨c, h1, h2⟩ := g.ok.ow i x e
      have ne : c ≠ a := fun z => no ⟨i, x, e, by rw [← z]; exact h1⟩
      exact ⟨c, h1, h2.move s (by rw [upd_ne ne]; exact h2.1) fun u q => q⟩
  | ow i =>
    -- relative to the point itself it is an expression's step
    obtain ⟨P2, g2, dn, s⟩ := toSh_ok (.refl g.ok) (r := .ow i) (v := v) rel e
    exact ⟨P2, g.e g2, dn, s⟩

/-! ### targets -/
abbrev Pt := D → Ev → Option Ev
def ptName (i : Nat) : Pt := fun d es => if isIo es i = false then some (es.set i (some (.sh d))) else none
def ptAll : List Pt → List D → Ev → Option Ev
  | [], [], es => some es
  | p :: ps, d :: ds, es => (p d es).bind fun e => ptAll ps ds e
  | _, _, _ => none
def ptTup (ps : List Pt) : Pt := fun d es => match d with
  | .tup ds => ptAll ps ds es
  | _ => none
/-- the slots sl alone are touched -/
def Only (sl : List Nat) (σ : St) (es : Ev) (σ' : St) (es' : Ev) : Prop := σ'.length = σ.length ∧ ∀ (j : Nat), j ∉ sl → σ'[j]? = σ[j]? ∧ es'[j]? = es[j]?
def tG (K : Kx) (p : Pt) (sl : List Nat) : TG := fun v σ H Q => ∃ P es d es', EnvOk K P H σ es ∧ Dn K P v d ∧ p d es = some es' ∧ ∀ σ', GoS K σ es P H σ' es' P H → Only sl σ es σ' es' → Q σ' H
def tGs (K : Kx) (ps : List Pt) (sl : List Nat) : TGs := fun vs σ H Q => ∃ P es ds es', EnvOk K P H σ es ∧ DnA K P vs ds ∧ ptAll ps ds es = some es' ∧ ∀ σ', GoS K σ es P H σ' es' P H → Only sl σ es σ' es' → Q σ' H
def DG (X : Cx) (E : We) (tg : Expr) (p : Pt) (sl : List Nat) : Prop := PG X tg (tG (kx X E) p sl)
def DGs (X : Cx) (E : We) (tgs : List Expr) (ps : List Pt) (sl : List Nat) : Prop := PGs X tgs (tGs (kx X E) ps sl)
theorem pg_imp {X : Cx} {e : Expr} {t t' : TG} (h : PG X e t) (q : ∀ v σ H Q, t' v σ H Q → t v σ H Q) : PG X e t' := ⟨fun pins s σ H v u Q I r z => h.run pins s σ H v u Q I r (q v σ H Q z)⟩
theorem pgs_imp {X : Cx} {e : List Expr} {t t' : TGs} (h : PGs X e t) (q : ∀ v σ H Q, t' v σ H Q → t v σ H Q) : PGs X e t' := ⟨fun pins s σ H v u Q I r z => h.run pins s σ H v u Q I r (q v σ H Q z)⟩
section
variable {X : Cx} {E : We} {e tg iter : Expr} {es : List Expr} {p : Pt} {ps : List Pt} {f : Fe} {i : Nat} {x : Str} {pos : Pos} {sl sl' : List Nat}
theorem dg_name (h : PG X e (gName i)) : DG X E e (ptName i) [i] := by
  refine pg_imp h fun v σ H Q ⟨P, es, d, es', ok, dn, e, q⟩ => ?_
  unfold ptName at e
  split at e
  · rename_i no
    cases e
    refine q _ ((GoS.refl ok).put no (.inl ⟨d, rfl, dn⟩)) ⟨List.length_set, fun j hj => ?_⟩
    have ne : i ≠ j := fun z => hj (by simp [z])
    exact ⟨List.getElem?_set_ne ne, List.getElem?_set_ne ne⟩
  · cases e
theorem dgs_nil : DGs X E [] [] [] := by
  refine pgs_imp pgs_nil fun vs σ H Q ⟨P, es, ds, es', ok, dn, e, q⟩ => ?_
  cases dn with
  | nil =>
    unfold ptAll at e
    cases e
    exact ⟨rfl, q σ (.refl ok) ⟨rfl, fun _ _ => ⟨rfl, rfl⟩⟩⟩
  | cons _ _ => unfold ptAll at e; cases e
theorem dgs_cons (h1 : DG X E e p sl) (h2 : DGs X E es ps sl') (hs : (assignEach (e :: es) X.env).map (·.2) = assign e X.env :: (assignEach es X.env).map (·.2) := by rfl) : DGs X E (e :: es) (p :: ps) (sl ++ sl') := by
  refine pgs_imp (pgs_cons h1 h2 hs) fun vs σ H Q ⟨P, es, ds, es', ok, dn, e, q⟩ => ?_
  cases dn with
  | nil => unfold ptAll at e; cases e
  | cons h t =>
    unfold ptAll at e
    obtain ⟨e1, z1, z2⟩ := Option.bind_eq_some_iff.mp e
    refine ⟨_, _, rfl, P, es, _, e1, ok, h, z1, fun σ1 g1 o1 => ?_⟩
    refine ⟨P, e1, _, es', g1.ok, t, z2, fun σ2 g2 o2 => q σ2 (g1.trans g2) ⟨o2.1.trans o1.1, fun j hj => ?_⟩⟩
    obtain ⟨a1, a2⟩ := o1.2 j fun z => hj (List.mem_append_left _ z)
    obtain ⟨b1, b2⟩ := o2.2 j fun z => hj (List.mem_append_right _ z)
    exact ⟨b1.trans a1, b2.trans a2⟩
theorem ptAll_len : ∀ {ps : List Pt} {ds : List D} {es es' : Ev}, ptAll ps ds es = some es' → ds.length = ps.length
  | [], [], _, _, _ => rfl
  | [], _ :: _, _, _, h => by unfold ptAll at h; cases h
  | _ :: _, [], _, _, h => by unfold ptAll at h; cases h
  | p :: ps, d :: ds, es, es', h => by
    unfold ptAll at h
    obtain ⟨e1, z1, z2⟩ := Option.bind_eq_some_iff.mp h
    rw [List.length_cons, List.length_cons, ptAll_len z2]
theorem dg_tup {k : Nat} (hc : X.calm = true) (h : DGs X E es ps sl) (hn : (assignEach es X.env).length = ps.length := by rfl) (hst : (assignEach es X.env).findIdx? (·.1) = none := by rfl) : DG X E (.Tuple es k pos) (ptTup ps) sl := by
  refine pg_imp (pg_tup hc h hn hst) fun v σ H Q ⟨P, es, d, es', ok, dn, e, q⟩ => ?_
  unfold ptTup at e
  split at e
  · cases dn with
    | tup hh z t =>
      exact ⟨_, _, rfl, sqt_mono ok.sub hh, by rw [t.length]; exact ptAll_len e, P, es, _, es', ok, t, e, q⟩
  · cases e
/-- target = e, a shared datum -/
def gAsg (f : Fe) (p : Pt) : Fs := fun es => (f es).bind fun r => (Rs.of (toSh r.1 r.2)).bind fun q => (Rs.of (p q.1 q.2)).bind fun e => .ok (.nx e)
theorem ds_asg (he : DE X E e f) (hg : DG X E tg p sl) (hs : swapsWithSole [tg] e pos.line X.env = pure false := by rfl) (hw : swappedStores [tg] e X.env = pure none := by rfl)
    (h1 : (assignEach [tg] X.env).map (·.2) = [assign tg X.env] := by rfl) : DS X E (.Assign [tg] e pos) (gAsg f p) := by
  refine ps_imp (ps_asg he hg hs hw h1) fun D σ H ⟨P, es, ok, h⟩ => tD_ms (tD_s (.refl ok) (GS.bind h)) fun v H1 ⟨r, es1, P1, g1, _, rel, q⟩ => ?_
  obtain ⟨s, e1, q1⟩ := GS.of (GS.bind q)
  obtain ⟨P2, g2, dn, _⟩ := toSh_s g1 rel e1
  obtain ⟨es3, e3, q3⟩ := GS.of (GS.bind q1)
  exact ⟨P2, s.2, s.1, es3, g2.ok, dn, e3, fun σ3 g3 _ => q3 σ3 P2 H1 (g2.trans g3)⟩
/-- name = e, the name's own from now on -/
def gOwn (f : Fe) (i : Nat) : Fs := fun es => (f es).bind fun r => match r.1 with
  | .fr d => if isIo r.2 i = false then .ok (.nx (r.2.set i (some (.ow d)))) else .st
  | _ => .st
theorem ds_own (he : DE X E e f) (hg : PG X tg (gName i)) (hs : swapsWithSole [tg] e pos.line X.env = pure false := by rfl) (hw : swappedStores [tg] e X.env = pure none := by rfl)
    (h1 : (assignEach [tg] X.env).map (·.2) = [assign tg X.env] := by rfl) : DS X E (.Assign [tg] e pos) (gOwn f i) := by
  refine ps_imp (ps_asg he hg hs hw h1) fun D σ H ⟨P, es, ok, h⟩ => tD_ms (tD_s (.refl ok) (GS.bind h)) fun v H1 ⟨r, es1, P1, g1, _, rel, q⟩ => ?_
  cases r with
  | fr d =>
    obtain ⟨a, rfl, h1, h2, h3⟩ := rel
    simp only at q
    split at q
    · rename_i no
      exact q _ P1 H1 (g1.put no (.inr (.inr ⟨d, a, rfl, rfl, h1, h2, h3⟩)))
    · exact False.elim q
  | _ => exact False.elim q
end

/-! ### what is walked -/
/-- the walk J gives the data ds, while Pb stands -/
structure ItOk (K : Kx) (J : It) (ds : List D) (Pb : Hp) : Prop where
  len : ds.length ≤ sizeLine
  go : ∀ i P H, i < ds.length → Same Pb P → Same P H → J.go i H
  stop : ∀ P H, Same Pb P → Same P H → J.stop ds.length H
  yld : ∀ (i : Nat) P H x H' d, ds[i]? = some d → Same Pb P → Same P H → J.yld i H x H' → (H' = H ∧ Dn K P x d) ∨ ∃ p o, H p = none ∧ H' = upd H p o ∧ Dn K (upd P p o) x d
abbrev Fi := Ev → Rs (List D × Ev)
def tDI (K : Kx) (E : WX) (fi : Fi) : TI := fun σ H R => ∃ P es, EnvOk K P H σ es ∧ G K E σ es P H (fi es) fun p => ∀ P1 H1 J, GoE K σ es P H p.2 P1 H1 → ItOk K J p.1 P1 → R J H1
def DI (X : Cx) (E : We) (tg iter : Expr) (fi : Fi) : Prop := PI X tg iter (tDI (kx X E) E.w fi)
theorem pi_imp {X : Cx} {tg iter : Expr} {t t' : TI} (h : PI X tg iter t) (q : ∀ σ H Q, t' σ H Q → t σ H Q) : PI X tg iter t' := ⟨fun pins s σ H Q I z => h.run pins s σ H Q I (q σ H Q z)⟩
section
variable {X : Cx} {E : We} {tg iter l : Expr} {f : Fe}
theorem it_list {K : Kx} {Pb : Hp} {a : Addr} {xs : List V} {ds : List D} (h : SqL K.K Pb a xs) (z : xs.length ≤ sizeLine) (t : DnA K Pb xs ds) : ItOk K (Itl K.K a) ds Pb where
  len := by rw [← t.length]; exact z
  go := fun i P H hi s1 s2 => walk_list.goes i H (by rw [t.length]; exact hi) (Same.seq (s1.trans s2) h)
  stop := fun P H s1 s2 => by rw [← t.length]; exact walk_list.stops H (Same.seq (s1.trans s2) h)
  yld := fun i P H x H' d e s1 s2 y => by
    obtain ⟨e1, e2⟩ := y
    obtain ⟨v, q1, q2⟩ := t.get e
    have := e2 xs (Same.seq (s1.trans s2) h)
    rw [q1] at this; cases this
    exact .inl ⟨e1, q2.mono s1⟩
theorem it_tup {K : Kx} {Pb : Hp} {a : Addr} {xs : List V} {ds : List D} (h : SqT K.K Pb a xs) (z : xs.length ≤ sizeLine) (t : DnA K Pb xs ds) : ItOk K (Itt K.K a) ds Pb where
  len := by rw [← t.length]; exact z
  go := fun i P H hi s1 s2 => walk_tup.goes i H (by rw [t.length]; exact hi) (sqt_mono (s1.trans s2) h)
  stop := fun P H s1 s2 => by rw [← t.length]; exact walk_tup.stops H (sqt_mono (s1.trans s2) h)
  yld := fun i P H x H' d e s1 s2 y => by
    obtain ⟨e1, e2⟩ := y
    obtain ⟨v, q1, q2⟩ := t.get e
    have := e2 xs (sqt_mono (s1.trans s2) h)
    rw [q1] at this; cases this
    exact .inl ⟨e1, q2.mono s1⟩
/-- a list or a tuple -/
def iSeq (K : PySem.W.Frag) (tl : TE) : TI := fun σ H R => tl σ H fun x H1 => ∃ a, x = .ref a ∧ (((∃ xs, SqL K H1 a xs) ∧ R (Itl K a) H1) ∨ ((∃ xs, SqT K H1 a xs) ∧ R (Itt K a) H1))
theorem pi_seq {tl : TE} (hl : PE X l tl) : PI X tg l (iSeq X.K tl) := by
  refine ⟨fun pins s σ H R I h => ?_⟩
  refine thn (hl.run pins s σ H _ I h) fun v s1 ⟨x, H1, I1, r1, q1⟩ => ?_
  obtain ⟨a, e, q⟩ := q1
  subst e
  cases r1
  rcases q with ⟨⟨xs, hq⟩, q⟩ | ⟨⟨xs, hq⟩, q⟩
  · obtain ⟨its, rv, p, hz⟩ := I1.list hq
    refine wpAny_pyIter_list p.isList ?_
    refine ⟨s1.heap.objs.size, [s1.heap.objs.size], _, _, H1, rfl, I1.kept (t' := s1.toks) fun b o e => Heap.get?_push_of_some _ e, turn_list a _, ⟨_, Heap.get?_push_size _ rfl, rfl, rfl⟩, fun b hb => ?_, q⟩
    have e : b = s1.heap.objs.size := by simpa using hb
    subst e
    exact I1.fpOk (Nat.le_refl _) (I1.hok.fresh (Nat.le_refl _))
  · obtain ⟨its, rv, p, hz⟩ := I1.tuple hq
    refine wpAny_pyIter_tuple (show s1.heap.IsTuple a its.toArray from p) ?_
    refine ⟨s1.heap.objs.size, [s1.heap.objs.size], _, _, H1, rfl, I1.kept (t' := s1.toks) fun b o e => Heap.get?_push_of_some _ e, turn_tuple a _, ⟨_, Heap.get?_push_size _ rfl, rfl, rfl⟩, fun b hb => ?_, q⟩
    have e : b = s1.heap.objs.size := by simpa using hb
    subst e
    exact I1.fpOk (Nat.le_refl _) (I1.hok.fresh (Nat.le_refl _))
def iSeqF (f : Fe) : Fi := fun es => (f es).bind fun p => (Rs.of (toSh p.1 p.2)).bind fun q => (Rs.of (seqD q.1)).bind fun ds => .ok (ds, q.2)
theorem di_seq (he : DE X E l f) : DI X E tg l (iSeqF f) := by
  refine pi_imp (pi_seq he) fun σ H R ⟨P, es, ok, h⟩ => tD_mono (tD_g (.refl ok) (G.bind h)) fun v H1 ⟨r, es1, P1, g1, _, rel, q⟩ => ?_
  obtain ⟨s, e1, q1⟩ := G.of (G.bind q)
  obtain ⟨P2, g2, dn, _⟩ := toSh_ok g1 rel e1
  obtain ⟨ds, e3, q3⟩ := G.of (G.bind q1)
  obtain ⟨d, es2⟩ := s
  cases dn with
  | lst h z t =>
    cases e3
    exact ⟨_, rfl, .inl ⟨⟨_, .inl (.inl (g2.ok.sub _ _ h))⟩, q3 P2 H1 _ g2 (it_list (.inl (.inl h)) z t)⟩⟩
  | rl h z t =>
    cases e3
    exact ⟨_, rfl, .inl ⟨⟨_, Same.seq g2.ok.sub h⟩, q3 P2 H1 _ g2 (it_list h z t)⟩⟩
  | tup h z t =>
    cases e3
    exact ⟨_, rfl, .inr ⟨⟨_, sqt_mono g2.ok.sub h⟩, q3 P2 H1 _ g2 (it_tup h z t)⟩⟩
  | pt h z t _ =>
    cases e3
    exact ⟨_, rfl, .inr ⟨⟨_, sqt_mono g2.ok.sub h⟩, q3 P2 H1 _ g2 (it_tup h z t)⟩⟩
  | _ => cases e3
/-- a text, sign by sign -/
def signs (z : Str) : List D := z.cps.toList.map fun c => .str ⟨#[c]⟩
def iStrF (f : Fe) : Fi := fun es => (f es).bind fun p => match p.1 with
  | .sh (.str z) => if z.length ≤ sizeLine then .ok (signs z, p.2) else .st
  | _ => .st
theorem di_str (he : DE X E l f) : DI X E tg l (iStrF f) := by
  refine pi_imp (pi_str he) fun σ H R ⟨P, es, ok, h⟩ => tD_mono (tD_g (.refl ok) (G.bind h)) fun v H1 ⟨r, es1, P1, g1, _, rel, q⟩ => ?_
  simp only at q
  split at q
  · rename_i z
    split at q
    · rename_i hz
      cases rel
      refine ⟨z, rfl, q P1 H1 _ g1 ⟨?_, fun i P H hi _ _ => ?_, fun P H _ _ => ?_, fun i P H x H' d e s1 s2 y => ?_⟩⟩
      · show (signs z).length ≤ sizeLine
        unfold signs
        rw [List.length_map]
        simpa [Str.length] using hz
      · have : i < (signs z).length := hi
        unfold signs at this
        show i < z.cps.size
        simpa using this
      · show z.cps.size ≤ (signs z).length
        unfold signs
        simp
      · obtain ⟨e1, c, e2, e3⟩ := y
        refine .inl ⟨e1, ?_⟩
        have e : (signs z)[i]? = some d := e
        unfold signs at e
        rw [List.getElem?_map, Array.getElem?_toList, e2] at e
        cases e
        rw [e3]
        exact .str _
    · exact False.elim q
  · exact False.elim q
/-- 0, 1, .. -/
def intsD (lo : Int) (n : Nat) : List D := (List.range n).map fun (i : Nat) => .int (lo + (i : Int))
theorem it_range {K : Kx} {Pb : Hp} {lo : Int} {n : Nat} (hn : n ≤ sizeLine) : ItOk K (Itr lo n) (intsD lo n) Pb where
  len := by unfold intsD; simpa using hn
  go := fun i P H hi _ _ => by
    unfold intsD at hi
    show i < n
    simpa using hi
  stop := fun P H _ _ => by
    show n ≤ (intsD lo n).length
    unfold intsD
    simp
  yld := fun i P H x H' d e s1 s2 y => by
    obtain ⟨e1, e2⟩ := y
    refine .inl ⟨e1, ?_⟩
    unfold intsD at e
    rw [List.getElem?_map] at e
    by_cases hi : i < n
    · rw [List.getElem?_range hi] at e
      cases e
      rw [e2]
      exact .int _
    · rw [List.getElem?_eq_none (by simpa using hi)] at e
      cases e
def asInt : List Ag → Option Int
  | [.sh (.int i)] => some i
  | _ => none
def asInt2 : List Ag → Option (Int × Int)
  | [.sh (.int i), .sh (.int j)] => some (i, j)
  | _ => none
def iRng1F (f : Fe) : Fi := fun es => (fArgs [(false, f)] es).bind fun p => (Rs.of (asInt p.1)).bind fun j => if -(2 ^ 62) ≤ j ∧ j ≤ 16777216 then .ok (intsD 0 j.toNat, p.2) else .st
def iRng2F (f g : Fe) : Fi := fun es => (fArgs [(false, f), (false, g)] es).bind fun p => (Rs.of (asInt2 p.1)).bind fun ij => if -(2 ^ 62) ≤ ij.1 ∧ ij.1 < 2 ^ 62 ∧ -(2 ^ 62) ≤ ij.2 ∧ ij.2 < 2 ^ 62 ∧ ij.2 - ij.1 ≤ 16777216 then .ok (intsD ij.1 (ij.2 - ij.1).toNat, p.2) else .st
theorem di_range1 {a : Expr} {p pos : Pos} (hg : Gl X "range") (hm : X.mg "range" = none) (ha : DE X E a f) (hs : starEach [a] X.env = [(false, eval a X.env)] := by rfl) : DI X E tg (.Call (.Name "range" p) [a] [] pos) (iRng1F f) := by
  refine pi_imp (pi_range1 hg hm (das_pa (.cons ha (by rw [hs]; rfl) .nil)) hs) fun σ H R ⟨P, es, ok, h⟩ => ⟨P, es, ok, (G.bind h).mono fun p hp vs P1 H1 g rel => ?_⟩
  obtain ⟨j, e, q⟩ := G.of (G.bind hp)
  have hp' : ∃ es', p = ([Ag.sh (.int j)], es') := by
    obtain ⟨as, es'⟩ := p
    unfold asInt at e
    split at e
    · cases e; exact ⟨es', by rename_i z; simp only at z; rw [z]⟩
    · cases e
  obtain ⟨es', rfl⟩ := hp'
  split at q
  · rename_i hj
    cases rel with
    | cons h1 t =>
      cases t
      cases h1
      have hs : sizeLine = 16777216 := sizeLine_eq
      exact ⟨j, rfl, hj.1, by omega, q P1 H1 _ g (it_range (by omega))⟩
  · exact False.elim q
theorem di_range2 {a b : Expr} {fb : Fe} {p pos : Pos} (hg : Gl X "range") (hm : X.mg "range" = none) (ha : DE X E a f) (hb : DE X E b fb) (hs : starEach [a, b] X.env = [(false, eval a X.env), (false, eval b X.env)] := by rfl) (hs2 : starEach [b] X.env = [(false, eval b X.env)] := by rfl) :
    DI X E tg (.Call (.Name "range" p) [a, b] [] pos) (iRng2F f fb) := by
  refine pi_imp (pi_range2 hg hm (das_pa (.cons ha (by rw [hs, hs2]) (.cons hb (by rw [hs2]; rfl) .nil))) hs hs2) fun σ H R ⟨P, es, ok, h⟩ => ⟨P, es, ok, (G.bind h).mono fun p hp vs P1 H1 g rel => ?_⟩
  obtain ⟨ij, e, q⟩ := G.of (G.bind hp)
  have hp' : ∃ es', p = ([Ag.sh (.int ij.1), Ag.sh (.int ij.2)], es') := by
    obtain ⟨as, es'⟩ := p
    unfold asInt2 at e
    split at e
    · cases e; exact ⟨es', by rename_i z; simp only at z; rw [z]⟩
    · cases e
  obtain ⟨es', rfl⟩ := hp'
  split at q
  · rename_i hj
    obtain ⟨h1, h2, h3, h4, h5⟩ := hj
    cases rel with
    | cons r1 t =>
      cases t with
      | cons r2 t =>
        cases t
        cases r1
        cases r2
        have hs : sizeLine = 16777216 := sizeLine_eq
        exact ⟨ij.1, ij.2, rfl, ⟨h1, h2, h3, h4⟩, q P1 H1 _ g (it_range (by omega))⟩
  · exact False.elim q
end

/-! ### for -/
def forL (p : Pt) (body : Fs) : List D → Ev → Rs Ot
  | [], es => .ok (.nx es)
  | d :: ds, es => (Rs.of (p d es)).bind fun e => (body e).bind fun o => match o with
    | .nx e1 => forL p body ds e1
    | .ct e1 => forL p body ds e1
    | .bk e1 => .ok (.nx e1)
    | .rt r e1 => .ok (.rt r e1)
def gFor (fi : Fi) (p : Pt) (body : Fs) : Fs := fun es => (fi es).bind fun q => forL p body q.1 q.2
section
variable {K : Kx} {E : WX} {σ σ1 : St} {es es1 : Ev} {P H P1 H1 : Hp} {p : Addr} {o : HO}
theorem GoS.allocP (g : GoS K σ es P H σ1 es1 P1 H1) (n : H1 p = none) : GoS K σ es P H σ1 es1 (upd P1 p o) (upd H1 p o) := g.e ((GoE.refl g.ok).allocP n)
end
theorem ds_for {X : Cx} {E : We} {tg iter : Expr} {body : List Stmt} {fi : Fi} {p : Pt} {sl : List Nat} {g : Fs} {pos : Pos} (hp : PassesOwn (model X.prog X.w) X.A X.env X.xe) (hc : X.calm = true) (hi : DI X E tg iter fi) (hg : DG X E tg p sl) (hb : DSs X E body g)
    (hs : ∀ x, foldedSetIterable iter X.env x = pure x := by intro _; rfl) : DS X E (.For tg iter body [] pos) (gFor fi p g) := by
  refine ps_imp (ps_for hp hc hi hg hb hs) fun D σ H ⟨P, es, ok, h⟩ => ?_
  have h := GS.bind h
  refine ⟨P, es, ok, ?_⟩
  cases e0 : fi es with
  | ex x es' =>
    rw [e0] at h
    exact fun P' H' cls od q rel => h σ P' H' cls od (.of q) rel
  | st => rw [e0] at h; exact h
  | ok q =>
    rw [e0] at h
    have h : GS (kx X E) E.w σ es P H (forL p g q.1 q.2) (OtQ (kx X E) σ es P H D) := h
    intro P1 H1 J g1 it
    -- the loop, by what is left of it
    refine ⟨fun i m σ2 H2 => m = q.1.length - i ∧ i ≤ q.1.length ∧ ∃ P2 es2, GoS (kx X E) σ es P H σ2 es2 P2 H2 ∧ Same P1 P2 ∧ GS (kx X E) E.w σ es P H (forL p g (q.1.drop i) es2) (OtQ (kx X E) σ es P H D),
      ⟨q.1.length, by simp, Nat.zero_le _, P1, q.2, .of g1, Same.refl _, h⟩, fun i m σ2 H2 ⟨em, hi, P2, es2, g2, s12, h2⟩ => ?_⟩
    by_cases hlt : i < q.1.length
    · refine .inr ⟨it.go i P2 H2 hlt s12 g2.ok.sub, fun σ3 H3 => ∃ P3 es3, GoS (kx X E) σ es P H σ3 es3 P3 H3 ∧ Same P1 P3 ∧ GS (kx X E) E.w σ es P H (forL p g (q.1.drop (i + 1)) es3) (OtQ (kx X E) σ es P H D),
        fun σ3 H3 n3 => ⟨q.1.length - (i + 1), by omega, rfl, hlt, n3⟩, fun x H3 y => ?_⟩
      have ed : q.1.drop i = q.1[i] :: q.1.drop (i + 1) := List.drop_eq_getElem_cons hlt
      rw [ed] at h2
      unfold forL at h2
      obtain ⟨es3, e3, h3⟩ := GS.of (GS.bind h2)
      have h4 := GS.bind h3
      -- the item stands in P3
      obtain ⟨P3, g3, dn, s23⟩ : ∃ P3, GoS (kx X E) σ es P H σ2 es2 P3 H3 ∧ Dn (kx X E) P3 x q.1[i] ∧ Same P2 P3 := by
        rcases it.yld i P2 H2 x H3 q.1[i] (List.getElem?_eq_getElem hlt) s12 g2.ok.sub y with ⟨rfl, dn⟩ | ⟨a, o, n, rfl, dn⟩
        · exact ⟨P2, g2, dn, Same.refl _⟩
        · exact ⟨upd P2 a o, g2.allocP n, dn, same_updP g2.ok.sub n⟩
      refine ⟨P3, es2, _, es3, g3.ok, dn, e3, fun σ4 g4 _ => ?_⟩
      have g04 := g3.trans g4
      refine tS_from (D := { D with nx := fun σ3 H3 => ∃ P3 es3, GoS (kx X E) σ es P H σ3 es3 P3 H3 ∧ Same P1 P3 ∧ GS (kx X E) E.w σ es P H (forL p g (q.1.drop (i + 1)) es3) (OtQ (kx X E) σ es P H D), ct := fun σ3 H3 => ∃ P3 es3, GoS (kx X E) σ es P H σ3 es3 P3 H3 ∧ Same P1 P3 ∧ GS (kx X E) E.w σ es P H (forL p g (q.1.drop (i + 1)) es3) (OtQ (kx X E) σ es P H D), bk := D.nx }) (.refl g4.ok) ?_
      -- the turn's own base is its beginning
      cases eb : g es3 with
      | st => rw [eb] at h4; exact h4
      | ex x es' => rw [eb] at h4; exact fun σ' P' H' cls od t rel => h4 σ' P' H' cls od (g04.trans t) rel
      | ok ot =>
        rw [eb] at h4
        cases ot with
        | nx e1 => exact fun σ' P' H' t => ⟨P', e1, g04.trans t, (s12.trans s23).trans t.st.pp, h4⟩
        | ct e1 => exact fun σ' P' H' t => ⟨P', e1, g04.trans t, (s12.trans s23).trans t.st.pp, h4⟩
        | bk e1 => exact fun σ' P' H' t => h4 σ' P' H' (g04.trans t)
        | rt r e1 => exact fun v σ' P' H' t rel => h4 v σ' P' H' (g04.trans t) (rel.base fun a n => g04.st.free n)
    · have e : i = q.1.length := by omega
      subst e
      rw [List.drop_length] at h2
      exact .inl ⟨it.stop P2 H2 s12 g2.ok.sub, h2 σ2 P2 H2 g2⟩
end DL

/-! DL, part 6: comprehensions, defs. -/
namespace DL
open PySem PySem.Spec L2
open PyProof.Rows hiding St
set_option autoImplicit false

/-! ### slots that a comprehension hides -/
def wipeE (es : Ev) : List Nat → Ev
  | [] => es
  | v :: vs => (wipeE es vs).set v none
/-- .. and what stands there behind it -/
def unw (es ei : Ev) : List Nat → Ev
  | [] => ei
  | v :: vs => (unw es ei vs).set v ((es[v]?).getD none)
theorem wipe_in {σ : St} {j : Nat} : ∀ {vs : List Nat}, j ∈ vs → j < σ.length → (wipe σ vs)[j]? = some none
  | [], h, _ => by cases h
  | v :: vs, h, hl => by
    unfold wipe
    by_cases e : v = j
    · subst e
      exact List.getElem?_set_self (by rw [wipe_length]; exact hl)
    · rw [List.getElem?_set_ne e]
      rcases List.mem_cons.mp h with z | z
      · exact absurd z.symm e
      · exact wipe_in z hl
theorem wipeE_len (es : Ev) : ∀ vs : List Nat, (wipeE es vs).length = es.length
  | [] => rfl
  | v :: vs => by unfold wipeE; rw [List.length_set, wipeE_len es vs]
theorem wipeE_out {es : Ev} {j : Nat} : ∀ {vs : List Nat}, j ∉ vs → (wipeE es vs)[j]? = es[j]?
  | [], _ => rfl
  | v :: vs, h => by
    unfold wipeE
    have h' : j ≠ v ∧ j ∉ vs := by simpa using h
    rw [List.getElem?_set_ne (Ne.symm h'.1), wipeE_out h'.2]
theorem wipeE_in {es : Ev} {j : Nat} : ∀ {vs : List Nat}, j ∈ vs → j < es.length → (wipeE es vs)[j]? = some none
  | [], h, _ => by cases h
  | v :: vs, h, hl => by
    unfold wipeE
    by_cases e : v = j
    · subst e
      exact List.getElem?_set_self (by rw [wipeE_len]; exact hl)
    · rw [List.getElem?_set_ne e]
      rcases List.mem_cons.mp h with z | z
      · exact absurd z.symm e
      · exact wipeE_in z hl
theorem unw_len (es ei : Ev) : ∀ vs : List Nat, (unw es ei vs).length = ei.length
  | [] => rfl
  | v :: vs => by unfold unw; rw [List.length_set, unw_len es ei vs]
theorem unw_out {es ei : Ev} {j : Nat} : ∀ {vs : List Nat}, j ∉ vs → (unw es ei vs)[j]? = ei[j]?
  | [], _ => rfl
  | v :: vs, h => by
    unfold unw
    have h' : j ≠ v ∧ j ∉ vs := by simpa using h
    rw [List.getElem?_set_ne (Ne.symm h'.1), unw_out h'.2]
theorem unw_in {es ei : Ev} {j : Nat} (hl : es.length = ei.length) : ∀ {vs : List Nat}, j ∈ vs → (unw es ei vs)[j]? = es[j]?
  | [], h => by cases h
  | v :: vs, h => by
    unfold unw
    by_cases e : v = j
    · subst e
      by_cases hj : v < es.length
      · rw [List.getElem?_set_self (by rw [unw_len, ← hl]; exact hj), List.getElem?_eq_getElem hj]
        rfl
      · rw [List.getElem?_eq_none (by rw [List.length_set, unw_len, ← hl]; omega), List.getElem?_eq_none (by omega)]
    · rw [List.getElem?_set_ne e]
      rcases List.mem_cons.mp h with z | z
      · exact absurd z.symm e
      · exact unw_in hl z
section
variable {K : Kx} {E : WX} {σ σ' : St} {es es1 e4 : Ev} {P H P5 H5 : Hp} {vs : List Nat}
theorem own_wipe {j : Nat} {d : D} (h : ownAt (wipeE es vs) j = some d) : j ∉ vs ∧ ownAt es j = some d := by
  by_cases hj : j ∈ vs
  · unfold ownAt at h
    by_cases hl : j < es.length
    · rw [wipeE_in hj hl] at h; simp at h
    · rw [List.getElem?_eq_none (by rw [wipeE_len]; omega)] at h; simp at h
  · refine ⟨hj, ?_⟩
    unfold ownAt at h ⊢
    rw [wipeE_out hj] at h
    exact h
theorem EnvOk.wipe (ok : EnvOk K P H σ es) (vs : List Nat) : EnvOk K P H (L2.wipe σ vs) (wipeE es vs) where
  len := by rw [wipe_length, wipeE_len]; exact ok.len
  sub := ok.sub
  sh := fun j d h => by
    by_cases hj : j ∈ vs
    · by_cases hl : j < es.length
      · rw [wipeE_in hj hl] at h; cases h
      · rw [List.getElem?_eq_none (by rw [wipeE_len]; omega)] at h; cases h
    · rw [wipeE_out hj] at h
      obtain ⟨v, h1, h2⟩ := ok.sh j d h
      exact ⟨v, by rw [wipe_out hj]; exact h1, h2⟩
  ow := fun j d h => by
    obtain ⟨hj, h⟩ := own_wipe h
    obtain ⟨a, h1, h2⟩ := ok.ow j d h
    exact ⟨a, by rw [wipe_out hj]; exact h1, h2⟩
  apart := fun j k d d' a hjk h1 h2 h3 h4 => by
    obtain ⟨hj, h1⟩ := own_wipe h1
    obtain ⟨hk, h2⟩ := own_wipe h2
    rw [wipe_out hj] at h3
    rw [wipe_out hk] at h4
    exact ok.apart j k d d' a hjk h1 h2 h3 h4
/-- a turn of a comprehension, seen from outside -/
theorem unw_go (ok : EnvOk K P H σ es) (g : GoS K (wipe σ vs) (wipeE es vs) P H σ' e4 P5 H5) (hsl : σ'.length = (wipe σ vs).length) (hs : ∀ (j : Nat), j ∉ vs → σ'[j]? = (wipe σ vs)[j]?) (hl : ∀ j d', j ∉ vs → ownAt e4 j = some d' → ∃ d, ownAt es j = some d) :
    GoE K σ es P H (unw es e4 vs) P5 H5 := by
  have len4 : es.length = e4.length := by
    have h1 := g.ok.len
    rw [← h1, hsl, wipe_length]; exact ok.len.symm
  have sub : ∀ a, Own (wipe σ vs) (wipeE es vs) a → Own σ es a := fun a ⟨j, d, h1, h2⟩ => by
    obtain ⟨hj, h1⟩ := own_wipe h1
    rw [wipe_out hj] at h2
    exact ⟨j, d, h1, h2⟩
  have st : Step (Own σ es) P H P5 H5 := (Step.refl (O := Own σ es)).trans g.st fun a h => .inl (sub a h)
  have s' : ∀ j, j ∉ vs → σ'[j]? = σ[j]? := fun j hj => (hs j hj).trans (wipe_out hj)
  have own : ∀ j d, ownAt (unw es e4 vs) j = some d → (j ∈ vs ∧ ownAt es j = some d) ∨ (j ∉ vs ∧ ownAt e4 j = some d) := fun j d h => by
    by_cases hj : j ∈ vs
    · refine .inl ⟨hj, ?_⟩
      unfold ownAt at h ⊢
      rw [unw_in len4 hj] at h
      exact h
    · refine .inr ⟨hj, ?_⟩
      unfold ownAt at h ⊢
      rw [unw_out hj] at h
      exact h
  -- an outer slot that is hidden meets no inner one
  have meet : ∀ j k d d' a, j ∈ vs → k ∉ vs → ownAt es j = some d → ownAt e4 k = some d' → σ[j]? = some (some (.ref a)) → σ[k]? = some (some (.ref a)) → False := fun j k d d' a hj hk h1 h2 h3 h4 => by
    obtain ⟨b, q1, q2⟩ := ok.ow j d h1
    rw [h3] at q1; cases q1
    obtain ⟨o, ho⟩ := q2.tracked
    rcases g.le a ⟨k, d', h2, by rw [s' k hk]; exact h4⟩ with ⟨l, x, z1, z2⟩ | z
    · obtain ⟨hl', z1⟩ := own_wipe z1
      rw [wipe_out hl'] at z2
      have : j ≠ l := fun e => hl' (e ▸ hj)
      exact ok.apart j l d x a this h1 z1 h3 z2
    · rw [ho] at z; cases z
  refine ⟨st, ⟨by rw [unw_len, ← len4]; exact ok.len, g.ok.sub, fun j d h => ?_, fun j d h => ?_, fun j k d d' a hjk h1 h2 h3 h4 => ?_⟩, fun j d' h => ?_, fun j d h => ?_⟩
  · by_cases hj : j ∈ vs
    · rw [unw_in len4 hj] at h
      obtain ⟨v, h1, h2⟩ := ok.sh j d h
      exact ⟨v, h1, h2.mono g.st.pp⟩
    · rw [unw_out hj] at h
      obtain ⟨v, h1, h2⟩ := g.ok.sh j d h
      exact ⟨v, by rw [← s' j hj]; exact h1, h2⟩
  · rcases own j d h with ⟨hj, h⟩ | ⟨hj, h⟩
    · obtain ⟨a, h1, h2⟩ := ok.ow j d h
      refine ⟨a, h1, h2.step g.st fun ⟨l, x, z1, z2⟩ => ?_⟩
      obtain ⟨hl', z1⟩ := own_wipe z1
      rw [wipe_out hl'] at z2
      have : j ≠ l := fun e => hl' (e ▸ hj)
      exact ok.apart j l d x a this h z1 h1 z2
    · obtain ⟨a, h1, h2⟩ := g.ok.ow j d h
      exact ⟨a, by rw [← s' j hj]; exact h1, h2⟩
  · rcases own j d h1 with ⟨hj, h1⟩ | ⟨hj, h1⟩
    · rcases own k d' h2 with ⟨hk, h2⟩ | ⟨hk, h2⟩
      · exact ok.apart j k d d' a hjk h1 h2 h3 h4
      · exact meet j k d d' a hj hk h1 h2 h3 h4
    · rcases own k d' h2 with ⟨hk, h2⟩ | ⟨hk, h2⟩
      · exact meet k j d' d a hk hj h2 h1 h4 h3
      · exact g.ok.apart j k d d' a hjk h1 h2 (by rw [s' j hj]; exact h3) (by rw [s' k hk]; exact h4)
  · rcases own j d' h with ⟨hj, h⟩ | ⟨hj, h⟩
    · exact ⟨d', h⟩
    · exact hl j d' hj h
  · by_cases hj : j ∈ vs
    · exact ⟨d, by rw [unw_in len4 hj]; exact h⟩
    · obtain ⟨⟨d', q⟩, _⟩ := g.io j d (by rw [wipeE_out hj]; exact h)
      exact ⟨d', by rw [unw_out hj]; exact q⟩
/-- a new list that no datum speaks of changes -/
theorem GoE.hid {o : HO} {a : Addr} (g : GoE K σ es P H es1 P5 H5) (h0 : H a = none) (hp : P5 a = none) (no : ¬ Own σ es1 a) (ht : ∃ u, H5 a = some u) : GoE K σ es P H es1 P5 (upd H5 a o) where
  st := ⟨g.st.pp, g.st.new, fun b u nb e => by
    have : b ≠ a := fun z => by rw [z, h0] at e; cases e
    rw [upd_ne this]; exact g.st.keep b u nb e, fun b u e => by
    have : b ≠ a := fun z => by rw [z, h0] at e; cases e
    rw [upd_ne this]; exact g.st.there b u e⟩
  ok := ⟨g.ok.len, fun b u e => by
    have : b ≠ a := fun z => by rw [z, hp] at e; cases e
    rw [upd_ne this]; exact g.ok.sub b u e, g.ok.sh, fun i d e => by
    obtain ⟨b, h1, h2⟩ := g.ok.ow i d e
    have : b ≠ a := fun z => no ⟨i, d, e, by rw [← z]; exact h1⟩
    exact ⟨b, h1, h2.move (Same.refl _) h2.1 fun u q => by rw [upd_ne this]; exact q⟩, g.ok.apart⟩
  le := g.le
  io := g.io
end

/-! ### [e for x in xs if t] -/
def noXT (f : Ft) : Ft := fun es => match f es with
  | .ex _ _ => .st
  | r => r
def lcL (p : Pt) (ft : Ft) (fe : Fe) (vs : List Nat) : List D → Ev → Rs (List D × Ev)
  | [], es => .ok ([], es)
  | d :: ds, es => (Rs.of (p d (wipeE es vs))).bind fun e1 => (noXT ft e1).bind fun b => if b.1 = true then
      (noX fe b.2).bind fun r => (Rs.of (toSh r.1 r.2)).bind fun q => (lcL p ft fe vs ds (unw es q.2 vs)).bind fun s => .ok (q.1 :: s.1, s.2)
    else lcL p ft fe vs ds (unw es b.2 vs)
def fLc (fi : Fi) (p : Pt) (ft : Ft) (fe : Fe) (vs : List Nat) : Fe := fun es => (fi es).bind fun q => (lcL p ft fe vs q.1 q.2).bind fun s => .ok (.fr (.lst s.1), s.2)
def ftYes : Ft := fun es => .ok (true, es)
/-- the tests of a comprehension -/
def DTs (X : Cx) (E : We) (ifs : List Expr) (f : Ft) : Prop := PTs X ifs (tDT (kx X E) E.w f)
theorem pts_imp {X : Cx} {es : List Expr} {t t' : TT} (h : PTs X es t) (q : ∀ σ H Q, t' σ H Q → t σ H Q) : PTs X es t' := ⟨fun pins s σ H Q I z => h.run pins s σ H Q I (q σ H Q z)⟩
theorem dts_nil {X : Cx} {E : We} : DTs X E [] ftYes := pts_imp pts_nil fun σ H Q ⟨P, es, ok, h⟩ => h P H (.refl ok)
theorem dts_one {X : Cx} {E : We} {c : Expr} {f : Ft} (h : DT X E c f) : DTs X E [c] f := pts_one h
theorem noXT_ok {f : Ft} {es : Ev} {p : Bool × Ev} (h : noXT f es = .ok p) : f es = .ok p := by
  unfold noXT at h
  split at h
  · cases h
  · exact h
theorem noX_ok {f : Fe} {es : Ev} {p : R × Ev} (h : noX f es = .ok p) : f es = .ok p := by
  unfold noX at h
  split at h
  · cases h
  · exact h
theorem noXT_ex {f : Ft} {es e : Ev} {x : Xn} : noXT f es ≠ .ex x e := by
  unfold noXT
  split
  · exact fun h => nomatch h
  · rename_i h
    exact fun z => h _ _ z
theorem noX_ex {f : Fe} {es e : Ev} {x : Xn} : noX f es ≠ .ex x e := by
  unfold noX
  split
  · exact fun h => nomatch h
  · rename_i h
    exact fun z => h _ _ z
theorem lc_ok {X : Cx} {we : WX} {fi : Fi} {p : Pt} {sl vs : List Nat} {ft : Ft} {fe : Fe} (hsl' : ∀ j, j ∈ sl → j ∈ vs) {σ : St} {H : Hp} {Q : VK} (h : tD (kx X ⟨we, none⟩) we (fLc fi p ft fe vs) σ H Q) :
    tLc (tDI (kx X ⟨we, none⟩) we fi) (tG (kx X ⟨we, none⟩) p sl) (tDT (kx X ⟨we, none⟩) W0 ft) (tD (kx X ⟨we, none⟩) W0 fe) vs σ H Q := by
  obtain ⟨P, es, ok, h⟩ := h
  have h := G.bind h.g
  refine ⟨P, es, ok, ?_⟩
  cases e0 : fi es with
  | ex x es' =>
    rw [e0] at h
    exact h
  | st => rw [e0] at h; exact h
  | ok q =>
    rw [e0] at h
    intro P1 H1 J g1 it D nD
    have h := G.bind h
    have h0D : H D = none := g1.st.free nD
    have noP : ∀ {P : Hp}, Same P H1 → P D = none := fun {P} s => by
      cases e : P D with
      | none => rfl
      | some u => rw [s _ _ e] at nD; cases nD
    have noO : ¬ Own σ q.2 D := fun ⟨i, d, h1, h2⟩ => by
      obtain ⟨a, h3, h4⟩ := g1.ok.ow i d h1
      rw [h2] at h3; cases h3
      obtain ⟨u, hu⟩ := h4.tracked
      rw [nD] at hu; cases hu
    -- what is wanted of the whole list
    refine ⟨fun i m H2 => m = q.1.length - i ∧ i ≤ q.1.length ∧ ∃ P2 es2 acc dacc, H2 D = some (.lst acc) ∧ P2 D = none ∧ ¬ Own σ es2 D ∧ GoE (kx X ⟨we, none⟩) σ es P H es2 P2 H2 ∧ Same P1 P2 ∧ DnA (kx X ⟨we, none⟩) P2 acc dacc ∧ acc.length ≤ i ∧
        G (kx X ⟨we, none⟩) we σ es P H (lcL p ft fe vs (q.1.drop i) es2) (fun s => ∀ v P' H', GoE (kx X ⟨we, none⟩) σ es P H s.2 P' H' → RelR (kx X ⟨we, none⟩) H P' H' σ s.2 v (.fr (.lst (dacc ++ s.1))) → Q v H'),
      ⟨q.1.length, by simp, Nat.zero_le _, P1, q.2, [], [], upd_same, noP g1.ok.sub, noO, g1.alloc nD, Same.refl _, .nil, Nat.le_refl _, h⟩, fun i m H2 ⟨em, hi, P2, es2, acc, dacc, hD, hPD, hOD, g2, s12, dacc2, hacc, h2⟩ => ?_⟩
    by_cases hlt : i < q.1.length
    · refine .inr ⟨it.go i P2 H2 hlt s12 g2.ok.sub, fun H3 => ∃ P3 es3 acc3 dacc3, H3 D = some (.lst acc3) ∧ P3 D = none ∧ ¬ Own σ es3 D ∧ GoE (kx X ⟨we, none⟩) σ es P H es3 P3 H3 ∧ Same P1 P3 ∧ DnA (kx X ⟨we, none⟩) P3 acc3 dacc3 ∧ acc3.length ≤ i + 1 ∧
        G (kx X ⟨we, none⟩) we σ es P H (lcL p ft fe vs (q.1.drop (i + 1)) es3) (fun s => ∀ v P' H', GoE (kx X ⟨we, none⟩) σ es P H s.2 P' H' → RelR (kx X ⟨we, none⟩) H P' H' σ s.2 v (.fr (.lst (dacc3 ++ s.1))) → Q v H'),
        fun H3 n3 => ⟨q.1.length - (i + 1), by omega, rfl, hlt, n3⟩, fun x H3 y => ?_⟩
      have ed : q.1.drop i = q.1[i] :: q.1.drop (i + 1) := List.drop_eq_getElem_cons hlt
      rw [ed] at h2
      unfold lcL at h2
      obtain ⟨e1, z1, h3⟩ := G.of (G.bind h2)
      -- the item
      obtain ⟨P3, g3, dn, s23, hD3, hPD3⟩ : ∃ P3, GoE (kx X ⟨we, none⟩) σ es P H es2 P3 H3 ∧ Dn (kx X ⟨we, none⟩) P3 x q.1[i] ∧ Same P2 P3 ∧ H3 D = some (.lst acc) ∧ P3 D = none := by
        rcases it.yld i P2 H2 x H3 q.1[i] (List.getElem?_eq_getElem hlt) s12 g2.ok.sub y with ⟨rfl, dn⟩ | ⟨a, o, n, rfl, dn⟩
        · exact ⟨P2, g2, dn, Same.refl _, hD, hPD⟩
        · have ne : D ≠ a := ne_of_none hD n
          exact ⟨upd P2 a o, g2.allocP n, dn, same_updP g2.ok.sub n, by rw [upd_ne ne]; exact hD, by rw [upd_ne ne]; exact hPD⟩
      have okw : EnvOk (kx X ⟨we, none⟩) P3 H3 (wipe σ vs) (wipeE es2 vs) := g3.ok.wipe vs
      refine ⟨P3, wipeE es2 vs, _, e1, okw, dn, z1, fun σ' gt ot => ?_⟩
      have hout : ∀ (j : Nat), j ∉ vs → σ'[j]? = (wipe σ vs)[j]? ∧ e1[j]? = (wipeE es2 vs)[j]? := fun j hj => ot.2 j fun z => hj (hsl' j z)
      refine ⟨?_, ?_⟩
      · -- the other slots are as they were
        apply List.ext_getElem?
        intro j
        by_cases hj : j ∈ vs
        · by_cases hl : j < σ.length
          · rw [wipe_in hj (by rw [ot.1, wipe_length]; exact hl), wipe_in hj hl]
          · rw [List.getElem?_eq_none (by rw [wipe_length, ot.1, wipe_length]; omega), List.getElem?_eq_none (by rw [wipe_length]; omega)]
        · rw [wipe_out hj, (hout j hj).1]
      -- the test
      have h4 := G.bind h3
      refine ⟨P3, e1, gt.ok, ?_⟩
      cases eb : noXT ft e1 with
      | ex x' es' => exact absurd eb noXT_ex
      | st => rw [eb] at h4; exact False.elim h4
      | ok b =>
        rw [eb] at h4
        rw [noXT_ok eb]
        intro P4 H4 g4
        -- a turn ends at (ei, P5, H5)
        have turn : ∀ {ei : Ev} {P5 H5 : Hp}, GoE (kx X ⟨we, none⟩) σ' e1 P3 H3 ei P5 H5 → GoE (kx X ⟨we, none⟩) σ es P H (unw es2 ei vs) P5 H5 ∧ H5 D = some (.lst acc) ∧ P5 D = none ∧ ¬ Own σ (unw es2 ei vs) D := fun {ei P5 H5} g5 => by
          have gs := gt.e g5
          have gu := unw_go g3.ok gs (by rw [ot.1]) (fun j hj => (hout j hj).1) fun j d' hj hd => by
            obtain ⟨d, hd⟩ := g5.le j d' hd
            refine ⟨d, ?_⟩
            unfold ownAt at hd ⊢
            rw [(hout j hj).2, wipeE_out hj] at hd
            exact hd
          have nO : ¬ Own (wipe σ vs) (wipeE es2 vs) D := fun ⟨j, d, k1, k2⟩ => by
            obtain ⟨hj, k1⟩ := own_wipe k1
            rw [wipe_out hj] at k2
            exact hOD ⟨j, d, k1, k2⟩
          refine ⟨g3.trans gu, gs.st.keep D _ nO hD3, ?_, fun z => hOD (gu.own z)⟩
          cases e : P5 D with
          | none => rfl
          | some u =>
            rcases gs.st.new D u e with k | k | k
            · rw [hPD3] at k; cases k
            · rw [hD3] at k; cases k
            · exact absurd k nO
        by_cases hb : b.1 = true
        · rw [if_pos hb]
          have h4 : G (kx X ⟨we, none⟩) we σ es P H (if b.1 = true then _ else _) _ := h4
          rw [if_pos hb] at h4
          have h5 := G.bind h4
          refine ⟨P4, b.2, g4.ok, ?_⟩
          cases er : noX fe b.2 with
          | ex x' es' => exact absurd er noX_ex
          | st => rw [er] at h5; exact False.elim h5
          | ok r =>
            rw [er] at h5
            rw [noX_ok er]
            obtain ⟨s, e5, h6⟩ := G.of (G.bind h5)
            intro v P5 H5 g5 rel
            obtain ⟨P6, g6, dn6, s56⟩ := toSh_ok g5 rel e5
            obtain ⟨gu, hD5, hPD5, hO5⟩ := turn (g4.trans g6)
            have hz : acc.length < sizeLine := Nat.lt_of_le_of_lt hacc (Nat.lt_of_lt_of_le hlt it.len)
            have s36 : Same P3 P6 := g4.st.pp.trans g6.st.pp
            refine ⟨acc, hD5, hz, P6, _, acc ++ [v], dacc ++ [s.1], upd_same, hPD5, hO5, gu.hid h0D hPD5 hO5 ⟨_, hD5⟩, (s12.trans s23).trans s36, (dacc2.mono (s23.trans s36)).snoc dn6, by rw [List.length_append]; exact Nat.succ_le_succ hacc, ?_⟩
            refine (G.bind h6).mono fun t ht v P' H' g' rel' => ?_
            exact ht v P' H' g' (by rw [List.append_assoc] at rel'; exact rel')
        · rw [if_neg hb]
          have h4 : G (kx X ⟨we, none⟩) we σ es P H (if b.1 = true then _ else _) _ := h4
          rw [if_neg hb] at h4
          obtain ⟨gu, hD5, hPD5, hO5⟩ := turn g4
          exact ⟨P4, _, acc, dacc, hD5, hPD5, hO5, gu, (s12.trans s23).trans g4.st.pp, dacc2.mono (s23.trans g4.st.pp), Nat.le_succ_of_le hacc, h4⟩
    · have e : i = q.1.length := by omega
      subst e
      rw [List.drop_length] at h2
      refine .inl ⟨it.stop P2 H2 s12 g2.ok.sub, ?_⟩
      have hz : acc.length ≤ sizeLine := Nat.le_trans hacc it.len
      have h2 : ∀ v P' H', GoE (kx X ⟨we, none⟩) σ es P H es2 P' H' → RelR (kx X ⟨we, none⟩) H P' H' σ es2 v (.fr (.lst (dacc ++ []))) → Q v H' := h2
      rw [List.append_nil] at h2
      exact h2 (.ref D) P2 H2 g2 ⟨D, rfl, ⟨hPD, acc, hD, hz, dacc2⟩, hOD, h0D⟩
theorem de_lc {X : Cx} {we : WX} {elt tg iter : Expr} {ifs : List Expr} {scope : Scope} {own : List (Str × Nat)} {pos : Pos} {fi : Fi} {p : Pt} {sl : List Nat} {ft : Ft} {fe : Fe} (hc : X.calm = true) (hN : X.N.Nodup) (hi : DI X ⟨we, none⟩ tg iter fi) (ok : BlkOk X.N X.env.scope scope own)
    (hg : ∀ (s : Shared) (H : Hp) (C : Addr) (cl : List (Str × Addr)) (fp : List Addr), DG (X.blk s H scope (compEnvC scope cl C X.env) fp) N0 tg p sl) (ht : ∀ (s : Shared) (H : Hp) (C : Addr) (cl : List (Str × Addr)) (fp : List Addr), DTs (X.blk s H scope (compEnvC scope cl C X.env) fp) N0 ifs ft)
    (he : ∀ (s : Shared) (H : Hp) (C : Addr) (cl : List (Str × Addr)) (fp : List Addr), DE (X.blk s H scope (compEnvC scope cl C X.env) fp) N0 elt fe) (hsl : sl.all (fun j => decide (j ∈ own.map (·.2))) = true := by decide) (hs : ∀ x, foldedSetIterable iter X.env x = pure x := by intro _; rfl) :
    DE X ⟨we, none⟩ (.ListComp elt [⟨tg, iter, ifs, 0⟩] scope pos) (fLc fi p ft fe (own.map (·.2))) := by
  have hsl' : ∀ j, j ∈ sl → j ∈ own.map (·.2) := fun j hj => of_decide_eq_true (List.all_eq_true.mp hsl j hj)
  exact pe_imp (pe_lc (g := tG (kx X ⟨we, none⟩) p sl) (tt := tDT (kx X ⟨we, none⟩) W0 ft) (te := tD (kx X ⟨we, none⟩) W0 fe) hc hN hi ok hg ht he hs) fun σ H Q h => lc_ok hsl' h
end DL

/-! DL, part 7: defs. -/
namespace DL
open PySem PySem.Spec L2
open PyProof.Rows hiding St
set_option autoImplicit false

def outEv : Ev → Ev → Option Ev
  | [], _ => some []
  | some (.io _) :: cs, some (.io d) :: es => (outEv cs es).map fun r => some (.io d) :: r
  | some (.io _) :: _, _ => none
  | c :: cs, _ :: es => (outEv cs es).map fun r => c :: r
  | _ :: _, [] => none
def retR (es : Ev) : R → Option R
  | .sh d => some (.sh d)
  | .fr d => some (.fr d)
  | .ow i => match es[i]? with
    | some (some (.sh d)) => some (.sh d)
    | some (some (.ow d)) => some (.fr d)
    | _ => none
/-- a def of n names with the body g -/
def mDef (n : Nat) (g : Fs) : Fe := fun cs => match g (cs ++ List.replicate (n - cs.length) none) with
  | .ok (.nx e) => (Rs.of (outEv cs e)).bind fun c => .ok (.sh .non, c)
  | .ok (.rt r e) => (Rs.of (retR e r)).bind fun r' => (Rs.of (outEv cs e)).bind fun c => .ok (r', c)
  | .ok _ => .st
  | .ex x e => (Rs.of (outEv cs e)).bind fun c => .ex x c
  | .st => .st
theorem outEv_get : ∀ {cs es c : Ev}, outEv cs es = some c → c.length = cs.length ∧ ∀ (j : Nat), (∀ d, cs[j]? = some (some (.io d)) → ∃ d', es[j]? = some (some (.io d')) ∧ c[j]? = some (some (.io d'))) ∧ ((∀ d, cs[j]? ≠ some (some (.io d))) → c[j]? = cs[j]?)
  | [], es, c, h => by
    unfold outEv at h
    cases h
    exact ⟨rfl, fun j => ⟨fun d e => by simp at e, fun _ => rfl⟩⟩
  | none :: cs, [], c, h => by unfold outEv at h; cases h
  | some (.sh _) :: cs, [], c, h => by unfold outEv at h; cases h
  | some (.ow _) :: cs, [], c, h => by unfold outEv at h; cases h
  | some (.io _) :: cs, [], c, h => by unfold outEv at h; cases h
  | some (.io _) :: cs, none :: es, c, h => by unfold outEv at h; cases h
  | some (.io _) :: cs, some (.sh _) :: es, c, h => by unfold outEv at h; cases h
  | some (.io _) :: cs, some (.ow _) :: es, c, h => by unfold outEv at h; cases h
  | some (.io d0) :: cs, some (.io d1) :: es, c, h => by
    unfold outEv at h
    obtain ⟨r, h1, h2⟩ := Option.map_eq_some_iff.mp h
    subst h2
    obtain ⟨l, q⟩ := outEv_get h1
    refine ⟨by simp [l], fun j => ?_⟩
    cases j with
    | zero => exact ⟨fun d e => ⟨d1, rfl, rfl⟩, fun n => absurd rfl (n d0)⟩
    | succ j => exact ⟨fun d e => by simpa using (q j).1 d (by simpa using e), fun n => by simpa using (q j).2 fun d => by simpa using n d⟩
  | none :: cs, e0 :: es, c, h => by
    unfold outEv at h
    obtain ⟨r, h1, h2⟩ := Option.map_eq_some_iff.mp h
    subst h2
    obtain ⟨l, q⟩ := outEv_get h1
    refine ⟨by simp [l], fun j => ?_⟩
    cases j with
    | zero => exact ⟨fun d e => by simp at e, fun n => rfl⟩
    | succ j => exact ⟨fun d e => by simpa using (q j).1 d (by simpa using e), fun n => by simpa using (q j).2 fun d => by simpa using n d⟩
  | some (.sh d0) :: cs, e0 :: es, c, h => by
    unfold outEv at h
    obtain ⟨r, h1, h2⟩ := Option.map_eq_some_iff.mp h
    subst h2
    obtain ⟨l, q⟩ := outEv_get h1
    refine ⟨by simp [l], fun j => ?_⟩
    cases j with
    | zero => exact ⟨fun d e => by simp at e, fun n => rfl⟩
    | succ j => exact ⟨fun d e => by simpa using (q j).1 d (by simpa using e), fun n => by simpa using (q j).2 fun d => by simpa using n d⟩
  | some (.ow d0) :: cs, e0 :: es, c, h => by
    unfold outEv at h
    obtain ⟨r, h1, h2⟩ := Option.map_eq_some_iff.mp h
    subst h2
    obtain ⟨l, q⟩ := outEv_get h1
    refine ⟨by simp [l], fun j => ?_⟩
    cases j with
    | zero => exact ⟨fun d e => by simp at e, fun n => rfl⟩
    | succ j => exact ⟨fun d e => by simpa using (q j).1 d (by simpa using e), fun n => by simpa using (q j).2 fun d => by simpa using n d⟩
section
variable {K : Kx} {E : WX} {P H : Hp} {vs : List V} {cs : Ev} {N : List Str}
theorem ownAt_io {cs : Ev} (no : NoOw cs) {j : Nat} {d : D} (h : ownAt cs j = some d) : cs[j]? = some (some (.io d)) := by
  unfold ownAt at h
  split at h
  · rename_i x e
    exact absurd e (no j x)
  · rename_i x e
    cases h; exact e
  · cases h
theorem pad_get {cs : Ev} {n j : Nat} {s : Sl} : (cs ++ List.replicate n none)[j]? = some (some s) ↔ cs[j]? = some (some s) := by
  by_cases h : j < cs.length
  · rw [List.getElem?_append_left h]
  · rw [List.getElem?_append_right (by omega), List.getElem?_replicate, List.getElem?_eq_none (by omega)]
    constructor
    · intro e; split at e <;> cases e
    · intro e; cases e
theorem own_pad {n j : Nat} {d : D} : ownAt (cs ++ List.replicate n none) j = some d ↔ ownAt cs j = some d := by
  constructor
  · intro h
    unfold ownAt at h
    split at h
    · rename_i x e; cases h; unfold ownAt; rw [pad_get.mp e]
    · rename_i x e; cases h; unfold ownAt; rw [pad_get.mp e]
    · cases h
  · intro h
    unfold ownAt at h
    split at h
    · rename_i x e; cases h; unfold ownAt; rw [pad_get.mpr e]
    · rename_i x e; cases h; unfold ownAt; rw [pad_get.mpr e]
    · cases h
theorem start_get {j : Nat} {v : V} : (L2.start N vs)[j]? = some (some v) ↔ (vs.map some)[j]? = some (some v) := by
  unfold L2.start
  by_cases h : j < vs.length
  · rw [List.getElem?_append_left (by simpa using h)]
  · rw [List.getElem?_append_right (by simp; omega), List.getElem?_replicate, List.getElem?_eq_none (by simp; omega)]
    constructor
    · intro e; split at e <;> cases e
    · intro e; cases e
theorem start_env (ok : EnvOk K P H (vs.map some) cs) : EnvOk K P H (L2.start N vs) (cs ++ List.replicate (N.length - cs.length) none) where
  len := by
    have h : vs.length = cs.length := by have := ok.len; rw [List.length_map] at this; exact this
    unfold L2.start
    rw [List.length_append, List.length_append, List.length_map, List.length_replicate, List.length_replicate, h]
  sub := ok.sub
  sh := fun j d h => by
    obtain ⟨v, h1, h2⟩ := ok.sh j d (pad_get.mp h)
    exact ⟨v, start_get.mpr h1, h2⟩
  ow := fun j d h => by
    obtain ⟨a, h1, h2⟩ := ok.ow j d (own_pad.mp h)
    exact ⟨a, start_get.mpr h1, h2⟩
  apart := fun j k d d' a hjk h1 h2 h3 h4 => ok.apart j k d d' a hjk (own_pad.mp h1) (own_pad.mp h2) (start_get.mp h3) (start_get.mp h4)
/-- a def's end, seen from its caller -/
theorem def_end {σ' : St} {es' c : Ev} {P' H' : Hp} (ok : EnvOk K P H (vs.map some) cs) (no : NoOw cs) (g : GoS K (L2.start N vs) (cs ++ List.replicate (N.length - cs.length) none) P H σ' es' P' H') (e : outEv cs es' = some c) :
    GoE K (vs.map some) cs P H c P' H' ∧ (∀ j d, ownAt c j = some d → es'[j]? = some (some (.io d)) ∧ ∀ a, (vs.map some)[j]? = some (some (.ref a)) ↔ σ'[j]? = some (some (.ref a))) := by
  obtain ⟨hl, hg⟩ := outEv_get e
  have cio : ∀ j d, ownAt c j = some d → ∃ d0, cs[j]? = some (some (.io d0)) ∧ es'[j]? = some (some (.io d)) := fun j d h => by
    by_cases hj : ∃ d0, cs[j]? = some (some (.io d0))
    · obtain ⟨d0, hj⟩ := hj
      obtain ⟨d', q1, q2⟩ := (hg j).1 d0 hj
      unfold ownAt at h
      rw [q2] at h
      cases h
      exact ⟨d0, hj, q1⟩
    · have q := (hg j).2 fun d0 z => hj ⟨d0, z⟩
      unfold ownAt at h
      rw [q] at h
      have h : ownAt cs j = some d := h
      exact absurd ⟨d, ownAt_io no h⟩ hj
  have same : ∀ j d, ownAt c j = some d → ∀ a, (vs.map some)[j]? = some (some (.ref a)) ↔ σ'[j]? = some (some (.ref a)) := fun j d h a => by
    obtain ⟨d0, q1, q2⟩ := cio j d h
    obtain ⟨_, r⟩ := g.io j d0 (pad_get.mpr q1)
    rw [r]
    exact start_get.symm
  refine ⟨⟨⟨g.st.pp, fun a o h => ?_, fun a o n h => g.st.keep a o (fun ⟨j, d, h1, h2⟩ => n ⟨j, d, own_pad.mp h1, start_get.mp h2⟩) h, g.st.there⟩, ⟨ok.len.trans hl.symm, g.ok.sub, fun j d h => ?_, fun j d h => ?_, fun j k d d' a hjk h1 h2 h3 h4 => ?_⟩, fun j d h => ?_, fun j d h => ?_⟩, fun j d h => ⟨(cio j d h).choose_spec.2, same j d h⟩⟩
  · rcases g.st.new a o h with q | q | ⟨j, d, h1, h2⟩
    · exact .inl q
    · exact .inr (.inl q)
    · exact .inr (.inr ⟨j, d, own_pad.mp h1, start_get.mp h2⟩)
  · by_cases hj : ∃ d0, cs[j]? = some (some (.io d0))
    · obtain ⟨d0, hj⟩ := hj
      obtain ⟨d', q1, q2⟩ := (hg j).1 d0 hj
      rw [q2] at h; cases h
    · rw [(hg j).2 fun d0 z => hj ⟨d0, z⟩] at h
      obtain ⟨v, h1, h2⟩ := ok.sh j d h
      exact ⟨v, h1, h2.mono g.st.pp⟩
  · obtain ⟨d0, q1, q2⟩ := cio j d h
    obtain ⟨a, h1, h2⟩ := g.ok.ow j d (by unfold ownAt; rw [q2])
    exact ⟨a, (same j d h a).mpr h1, h2⟩
  · obtain ⟨_, q1, q2⟩ := cio j d h1
    obtain ⟨_, r1, r2⟩ := cio k d' h2
    exact g.ok.apart j k d d' a hjk (by unfold ownAt; rw [q2]) (by unfold ownAt; rw [r2]) ((same j d h1 a).mp h3) ((same k d' h2 a).mp h4)
  · obtain ⟨d0, q1, _⟩ := cio j d h
    exact ⟨d0, by unfold ownAt; rw [q1]⟩
  · obtain ⟨d', _, q⟩ := (hg j).1 d h
    exact ⟨d', q⟩
theorem ret_end {σ' : St} {es' c : Ev} {P' H' : Hp} {v : V} {r r' : R} (ok : EnvOk K P H (vs.map some) cs) (no : NoOw cs) (g : GoS K (L2.start N vs) (cs ++ List.replicate (N.length - cs.length) none) P H σ' es' P' H') (e : outEv cs es' = some c)
    (rel : RelR K H P' H' σ' es' v r) (er : retR es' r = some r') : RelR K H P' H' (vs.map some) c v r' := by
  obtain ⟨ge, hc⟩ := def_end ok no g e
  have ownC : ∀ a, Own (vs.map some) c a → Own σ' es' a := fun a ⟨j, d, h1, h2⟩ => by
    obtain ⟨q1, q2⟩ := hc j d h1
    exact ⟨j, d, by unfold ownAt; rw [q1], (q2 a).mp h2⟩
  cases r with
  | sh d => cases er; exact rel
  | fr d =>
    cases er
    obtain ⟨a, e1, h1, h2, h3⟩ := rel
    exact ⟨a, e1, h1, fun z => h2 (ownC a z), h3⟩
  | ow i =>
    have rel : σ'[i]? = some (some v) := rel
    unfold retR at er
    simp only at er
    split at er
    · rename_i d q
      cases er
      obtain ⟨w, h1, h2⟩ := g.ok.sh i d q
      rw [rel] at h1; cases h1
      exact h2
    · rename_i d q
      cases er
      have ho : ownAt es' i = some d := by unfold ownAt; rw [q]
      obtain ⟨a, h1, h2⟩ := g.ok.ow i d ho
      rw [rel] at h1; cases h1
      refine ⟨a, rfl, h2, fun ⟨j, x, z1, z2⟩ => ?_, ?_⟩
      · obtain ⟨q1, q2⟩ := hc j x z1
        have ne : j ≠ i := fun z => by subst z; rw [q] at q1; cases q1
        exact g.ok.apart j i x d a ne (by unfold ownAt; rw [q1]) ho ((q2 a).mp z2) rel
      · rcases g.le a ⟨i, d, ho, rel⟩ with ⟨j, x, z1, z2⟩ | z
        · have hj := ownAt_io no (own_pad.mp z1)
          obtain ⟨⟨d', q1⟩, q2⟩ := g.io j x (pad_get.mpr hj)
          have ne : j ≠ i := fun z => by subst z; rw [q] at q1; cases q1
          exact absurd rel (g.ok.apart j i d' d a ne (by unfold ownAt; rw [q1]) ho (by rw [q2]; exact z2))
        · exact z
    · cases er
end
/-- THE RULE for a def that lets no exception out -/
theorem fn_def {P : Program} {w : World} {K : PySem.W.Frag} {mg : Str → Option Value} {base : Heap} {x qual : Str} {st : Stmt} {f : Addr} {fd : FuncData} {N ps : List Str} {k n : Nat} {g : Fs} (F : Fun K x qual st f fd) (S : FnScope N ps (defScope st)) (hn : ps.length = n)
    (hbody : ∀ (cdv : Value) (A : Around) (outer : List Env) (s : Shared) (H : Hp) (E : XK), Room k (A.deeper (envOfC qual (defScope st) s.heap.objs.size f cdv)) → DSs (cxOf CX0 P w K mg base N qual (defScope st) f cdv A outer s H E).nox N0 (defBody st) g) :
    FnOk P w K mg base CX0 (k + 1) f fd ps (spD0 K n (mDef N.length g)) := by
  refine F.ok S (fun vs H Q E h => by rw [h.1, hn]) fun cdv A outer s H vs Q E hr ⟨hl, P, cs, ok, no, h⟩ => ?_
  refine ⟨_, hbody cdv A outer s H E hr, P, _, start_env ok, ?_⟩
  unfold mDef at h
  cases e : g (cs ++ List.replicate (N.length - cs.length) none) with
  | st => rw [e] at h; exact h
  | ex x' es' =>
    rw [e] at h
    obtain ⟨c, e1, h1⟩ := G.of (G.bind h.g)
    intro σ' P' H' cls od t rel
    exact h1 P' H' cls od (def_end ok no t e1).1 rel
  | ok o =>
    rw [e] at h
    cases o with
    | nx es' =>
      obtain ⟨c, e1, h1⟩ := G.of (G.bind h.g)
      exact fun σ' P' H' t => h1 .non P' H' (def_end ok no t e1).1 .non
    | rt r es' =>
      obtain ⟨r', er, h1⟩ := G.of (G.bind h.g)
      obtain ⟨c, e1, h2⟩ := G.of (G.bind h1)
      exact fun v σ' P' H' t rel => h2 v P' H' (def_end ok no t e1).1 (ret_end ok no t e1 rel er)
    | bk es' => exact False.elim h
    | ct es' => exact False.elim h
end DL

/-! DL, part 8: lists and dicts that change, slices, dicts, sorted. -/
namespace DL
open PySem PySem.Spec L2
open PyProof.Rows hiding St
set_option autoImplicit false

/-! ### what a slot owns changes -/
def OwnC (K : Kx) (P : Hp) (d : D) (o : HO) : Prop := match d with
  | .lst ds => ∃ xs, o = .lst xs ∧ xs.length ≤ sizeLine ∧ DnA K P xs ds
  | .dk ds => ∃ kvs, o = .dK kvs ∧ kvs.length ≤ sizeLine ∧ DnK K P kvs ds
  | .ins c ds => ∃ C dx fs, o = .ins C dx fs ∧ ClsAt K.K c C ∧ DnF K P fs ds
  | _ => False
section
variable {K : Kx} {E : WX} {σ σ1 : St} {es es1 : Ev} {P H P1 H1 : Hp} {i : Nat} {a : Addr} {x d : D} {o : HO}
theorem setC_own {j : Nat} {y : D} (h : ownAt es1 i = some x) (q : ownAt (setC es1 i d) j = some y) : (j = i ∧ y = d) ∨ (j ≠ i ∧ ownAt es1 j = some y) := by
  by_cases hj : j = i
  · subst hj
    refine .inl ⟨rfl, ?_⟩
    rcases setC_has (d := d) h with ⟨_, _, e⟩ | ⟨_, _, e⟩ <;> (unfold ownAt at q; rw [e] at q; cases q; rfl)
  · refine .inr ⟨hj, ?_⟩
    unfold ownAt at q ⊢
    rw [setC_ne hj] at q
    exact q
theorem EnvOk.setC (ok : EnvOk K P1 H1 σ1 es1) (h : ownAt es1 i = some x) (hs : σ1[i]? = some (some (.ref a))) (hc : OwnC K P1 d o) : EnvOk K P1 (upd H1 a o) σ1 (setC es1 i d) ∧ P1 a = none ∧ ∃ u, H1 a = some u := by
  obtain ⟨b, h1, h2⟩ := ok.ow i x h
  rw [hs] at h1; cases h1
  refine ⟨⟨by rw [setC_len]; exact ok.len, fun b u e => ?_, fun j y e => ?_, fun j y e => ?_, fun j k y z b hjk e1 e2 => ?_⟩, h2.1, h2.tracked⟩
  · have : b ≠ a := fun z => by rw [z, h2.1] at e; cases e
    rw [upd_ne this]; exact ok.sub b u e
  · by_cases hj : j = i
    · subst hj
      rcases setC_has (d := d) h with ⟨_, _, q⟩ | ⟨_, _, q⟩ <;> (rw [q] at e; cases e)
    · rw [setC_ne hj] at e; exact ok.sh j y e
  · rcases setC_own h e with ⟨hj, hy⟩ | ⟨hj, e⟩
    · subst hj; subst hy
      refine ⟨a, hs, h2.1, ?_⟩
      cases y with
      | lst ds => obtain ⟨xs, e, q⟩ := hc; subst e; exact ⟨xs, upd_same, q⟩
      | dk ds => obtain ⟨xs, e, q⟩ := hc; subst e; exact ⟨xs, upd_same, q⟩
      | ins c ds => obtain ⟨C, dx, fs, e, q⟩ := hc; subst e; exact ⟨C, dx, fs, upd_same, q⟩
      | _ => exact False.elim hc
    · obtain ⟨b, q1, q2⟩ := ok.ow j y e
      have : b ≠ a := fun z => ok.apart j i y x b hj e h q1 (by rw [z]; exact hs)
      exact ⟨b, q1, q2.move (Same.refl _) q2.1 fun u q => by rw [upd_ne this]; exact q⟩
  · have back : ∀ (j : Nat) (y : D), ownAt (DL.setC es1 i d) j = some y → ∃ y', ownAt es1 j = some y' := fun j y e => by
      rcases setC_own h e with ⟨hj, _⟩ | ⟨_, e⟩
      · subst hj; exact ⟨x, h⟩
      · exact ⟨y, e⟩
    obtain ⟨y', q1⟩ := back j y e1
    obtain ⟨z', q2⟩ := back k z e2
    exact ok.apart j k y' z' b hjk q1 q2
theorem setC_io {j : Nat} {y : D} (h : ownAt es1 i = some x) (e : es1[j]? = some (some (.io y))) : ∃ y', (setC es1 i d)[j]? = some (some (.io y')) := by
  by_cases hj : j = i
  · subst hj
    rcases setC_has (d := d) h with ⟨z, q, _⟩ | ⟨z, q, r⟩
    · rw [e] at q; cases q
    · exact ⟨d, r⟩
  · exact ⟨y, by rw [setC_ne hj]; exact e⟩
theorem GoE.setC (g : GoE K σ es P H es1 P1 H1) (h : ownAt es1 i = some x) (hs : σ[i]? = some (some (.ref a))) (hc : OwnC K P1 d o) : GoE K σ es P H (setC es1 i d) P1 (upd H1 a o) := by
  obtain ⟨ok, hp, u, hu⟩ := g.ok.setC h hs hc
  have own := g.own ⟨i, x, h, hs⟩
  refine ⟨⟨g.st.pp, g.st.new, fun b w n e => ?_, fun b w e => ?_⟩, ok, fun j y e => ?_, fun j y e => ?_⟩
  · have : b ≠ a := fun z => n (by rw [z]; exact own)
    rw [upd_ne this]; exact g.st.keep b w n e
  · by_cases hb : b = a
    · subst hb; exact ⟨o, upd_same⟩
    · obtain ⟨w', q⟩ := g.st.there b w e
      exact ⟨w', by rw [upd_ne hb]; exact q⟩
  · rcases setC_own h e with ⟨hj, _⟩ | ⟨_, e⟩
    · subst hj; exact g.le j x h
    · exact g.le j y e
  · obtain ⟨y', q⟩ := g.io j y e
    exact setC_io h q
theorem GoS.setC (g : GoS K σ es P H σ1 es1 P1 H1) (h : ownAt es1 i = some x) (hs : σ1[i]? = some (some (.ref a))) (hc : OwnC K P1 d o) : GoS K σ es P H σ1 (setC es1 i d) P1 (upd H1 a o) :=
  g.e ((GoE.refl g.ok).setC h hs hc)
end
/-- x.append(e): x in slot i -/
def fApp (i : Nat) (f : Fe) : Fe := fun es => match ownAt es i with
  | some (.lst _) => (f es).bind fun p => (Rs.of (toSh p.1 p.2)).bind fun q => match ownAt q.2 i with
    | some (.lst ds) => if ds.length < sizeLine then .ok (.sh .non, setC q.2 i (.lst (ds ++ [q.1]))) else .st
    | _ => .st
  | _ => .st
theorem de_append {X : Cx} {E : We} {o e : Expr} {i : Nat} {f : Fe} {apos cpos : Pos} (ho : PE X o (tVar i)) (he : DE X E e f)
    (hbase : attributeBase o "append" X.env (eval o X.env) = eval o X.env := by rfl)
    (hfew : ((backTo cpos (starEach [e] X.env)).all (fun x => !x.1) && (backToKw cpos (keywordEach [] X.env)).all (fun x => x.1.isSome)
      && decide ([e].length + ([] : List Keyword).length + (if ([] : List Keyword).isEmpty then 0 else 1) < 30)) = true := by rfl)
    (hline : (apos.endLine == cpos.line) = true := by rfl) (hs : starEach [e] X.env = (false, eval e X.env) :: starEach [] X.env := by rfl) : DE X E (.Call (.Attribute o "append" apos) [e] [] cpos) (fApp i f) := by
  refine pe_imp (pe_bm PySem.F.plainAttrs_list PySem.F.slot_list_append PySem.F.type_list_append mt_append ho (pa_cons he pa_nil hs) hbase hfew hline hs) fun σ H Q ⟨P, es, ok, h⟩ => ?_
  unfold fApp at h
  split at h
  · rename_i ds0 e0
    obtain ⟨a, h1, h2⟩ := ok.ow i _ e0
    obtain ⟨_, xs0, h3, _⟩ := id h2
    refine ⟨.ref a, h1, .inl ⟨rfl, xs0, .inl (.inl h3)⟩, ?_⟩
    refine tD_mono (tD_g (.refl ok) (G.bind h.g)) fun v H1 ⟨r, es1, P1, g1, _, rel, q⟩ => ?_
    obtain ⟨s, e1, q1⟩ := G.of (G.bind q)
    obtain ⟨P2, g2, dn, _⟩ := toSh_ok g1 rel e1
    split at q1
    · rename_i ds e2
      split at q1
      · rename_i hz
        obtain ⟨b, h4, h5⟩ := g2.ok.ow i _ e2
        rw [h1] at h4; cases h4
        obtain ⟨_, xs, h6, h7, h8⟩ := id h5
        refine ⟨a, xs, v, rfl, rfl, h6, by rw [h8.length]; exact hz, ?_⟩
        exact q1 .non P2 _ (g2.setC e2 h1 ⟨_, rfl, by rw [List.length_append, h8.length]; exact hz, h8.snoc dn⟩) .non
      · exact False.elim q1
    · exact False.elim q1
  · exact False.elim h
/-- x[e] = v, a list in slot i -/
def gSetI (i : Nat) (fe fv : Fe) : Fs := fun es => (fv es).bind fun p => (Rs.of (toSh p.1 p.2)).bind fun q => (Rs.of (ownAt q.2 i)).bind fun _ => (fe q.2).bind fun s => match s.1 with
  | .sh (.int k) => match ownAt s.2 i with
    | some (.lst ds) => (Rs.of (ixN ds.length k)).bind fun j => .ok (.nx (setC s.2 i (.lst (ds.set j q.1))))
    | _ => .st
  | _ => .st
theorem ds_setI {X : Cx} {E : We} {o e v : Expr} {i : Nat} {fe fv : Fe} {pos tpos : Pos} (ho : PE X o (tVar i)) (he : DE X E e fe) (hv : DE X E v fv)
    (ha : ∀ w, assign (.Subscript o e tpos) X.env w = (do
      let ov ← holding [w] (eval o X.env)
      let iv ← holding [w, ov] (eval e X.env)
      standAt tpos
      holding [w, ov, iv] (setItem ov iv w)
      release [w, ov, iv] []) := by intro _; rfl) (hs : swapsWithSole [.Subscript o e tpos] v pos.line X.env = pure false := by rfl) (hw : swappedStores [.Subscript o e tpos] v X.env = pure none := by rfl)
    (h1 : (assignEach [.Subscript o e tpos] X.env).map (·.2) = [assign (.Subscript o e tpos) X.env] := by rfl) : DS X E (.Assign [.Subscript o e tpos] v pos) (gSetI i fe fv) := by
  refine ps_imp (ps_asg hv (pg_sub ho he set_list ha) hs hw h1) fun D σ H ⟨P, es, ok, h⟩ => tD_ms (tD_s (.refl ok) (GS.bind h)) fun v H1 ⟨r, es1, P1, g1, _, rel, q⟩ => ?_
  obtain ⟨s, e1, q1⟩ := GS.of (GS.bind q)
  obtain ⟨P2, g2, dn, _⟩ := toSh_s g1 rel e1
  obtain ⟨d0, e2, q2⟩ := GS.of (GS.bind q1)
  obtain ⟨a, h1, _⟩ := g2.ok.ow i d0 e2
  refine ⟨.ref a, h1, ?_⟩
  refine tD_ms (tD_s g2 (GS.bind q2)) fun k H3 ⟨rk, es3, P3, g3, g23, relk, q3⟩ => ?_
  simp only at q3
  split at q3
  · split at q3
    · rename_i ds e3
      obtain ⟨j, e4, q4⟩ := GS.of (GS.bind q3)
      obtain ⟨b, h4, h5⟩ := g3.ok.ow i _ e3
      rw [h1] at h4; cases h4
      obtain ⟨_, xs, h6, h7, h8⟩ := h5
      cases relk
      refine ⟨a, xs, _, j, rfl, rfl, h6, by rw [h8.length]; exact e4, ?_⟩
      exact q4 σ P3 _ (g3.setC e3 h1 ⟨_, rfl, by rw [List.length_set]; exact h7, h8.set j (dn.mono g23.st.pp)⟩)
    · exact False.elim q3
  · exact False.elim q3

/-! ### dicts with int and text keys -/
def keyD : D → Option Key
  | .int i => some (.inl i)
  | .str s => some (.inr s)
  | _ => none
def vD (ds : List (Key × D)) (k : Key) : Option D := (ds.find? fun kv => decide (kv.1 = k)).map (·.2)
def putD (ds : List (Key × D)) (k : Key) (d : D) : List (Key × D) :=
  if (ds.any fun kv => decide (kv.1 = k)) = true then ds.map (fun kv => if kv.1 = k then (kv.1, d) else kv) else ds ++ [(k, d)]
section
variable {K : Kx} {E : WX} {P H : Hp}
theorem bw_key {v : V} {d : D} {k : Key} (h : Bw K P H v d) (e : keyD d = some k) : v = kV k := by
  cases d <;> cases e
  · exact bw_int h
  · exact bw_str h
theorem DnK.val : ∀ {vs : List (Key × V)} {ds : List (Key × D)} {k : Key}, DnK K P vs ds → (∀ d, vD ds k = some d → ∃ v, valV vs k = some v ∧ Dn K P v d) ∧ (vD ds k = none → valV vs k = none)
  | _, _, _, .nil => ⟨fun d e => by simp [vD] at e, fun _ => rfl⟩
  | _, _, k, .cons (k := k0) (v := v0) (d := d0) h t => by
    by_cases e : k0 = k
    · subst e
      refine ⟨fun d q => ?_, fun q => ?_⟩
      · have : d0 = d := by simpa [vD, List.find?_cons] using q
        subst this
        exact ⟨v0, valV_pos rfl, h⟩
      · simp [vD, List.find?_cons] at q
    · have e1 : ∀ (r : List (Key × D)), vD ((k0, d0) :: r) k = vD r k := fun r => by simp [vD, List.find?_cons, e]
      obtain ⟨h1, h2⟩ := DnK.val (k := k) t
      refine ⟨fun d q => ?_, fun q => ?_⟩
      · rw [e1] at q
        obtain ⟨v, q1, q2⟩ := h1 d q
        exact ⟨v, by rw [valV_neg e]; exact q1, q2⟩
      · rw [e1] at q
        rw [valV_neg e]; exact h2 q
theorem DnK.any {k : Key} : ∀ {vs : List (Key × V)} {ds : List (Key × D)}, DnK K P vs ds → (vs.any fun kv => decide (kv.1 = k)) = (ds.any fun kv => decide (kv.1 = k))
  | _, _, .nil => rfl
  | _, _, .cons h t => by rw [List.any_cons, List.any_cons, DnK.any t]
theorem DnK.snoc {k : Key} {v : V} {d : D} : ∀ {vs : List (Key × V)} {ds : List (Key × D)}, DnK K P vs ds → Dn K P v d → DnK K P (vs ++ [(k, v)]) (ds ++ [(k, d)])
  | _, _, .nil, q => .cons q .nil
  | _, _, .cons h t, q => .cons h (DnK.snoc t q)
theorem DnK.upd {k : Key} {v : V} {d : D} (q : Dn K P v d) : ∀ {vs : List (Key × V)} {ds : List (Key × D)}, DnK K P vs ds → DnK K P (vs.map fun kv => if kv.1 = k then (kv.1, v) else kv) (ds.map fun kv => if kv.1 = k then (kv.1, d) else kv)
  | _, _, .nil => .nil
  | _, _, .cons (k := k0) h t => by
    rw [List.map_cons, List.map_cons]
    by_cases e : k0 = k
    · rw [if_pos e, if_pos e]; exact .cons q (DnK.upd q t)
    · rw [if_neg e, if_neg e]; exact .cons h (DnK.upd q t)
theorem DnK.put {k : Key} {v : V} {d : D} {vs : List (Key × V)} {ds : List (Key × D)} (t : DnK K P vs ds) (q : Dn K P v d) : DnK K P (putK vs k v) (putD ds k d) := by
  unfold putK putD
  rw [t.any]
  split
  · exact t.upd q
  · exact t.snoc q
theorem DnK.keys : ∀ {vs : List (Key × V)} {ds : List (Key × D)}, DnK K P vs ds → vs.map (·.1) = ds.map (·.1)
  | _, _, .nil => rfl
  | _, _, .cons h t => by rw [List.map_cons, List.map_cons, DnK.keys t]
theorem putK_le (vs : List (Key × V)) (k : Key) (v : V) : (putK vs k v).length ≤ vs.length + 1 := by
  unfold putK
  split
  · rw [List.length_map]; omega
  · rw [List.length_append]; exact Nat.le_refl _
end
def fDnew : Fe := fun es => .ok (.fr (.dk []), es)
theorem de_dnew {X : Cx} {E : We} {pos : Pos} : DE X E (.Dict [] [] pos) fDnew := by
  refine pe_imp pe_dnewK fun σ H Q ⟨P, es, ok, h⟩ p n => ?_
  exact zq_of (z := .dk []) (E := E.w) (Q := Q) (.refl ok) (fun v P' H' g rel => h v P' H' g rel) p [] n (Nat.zero_le _) .nil
/-- d[k], it is there -/
def rDGetA : R2 := fun x y H Q => ∃ a v, x = .ref a ∧ DGet H a y (some v) ∧ Q v H
def dgetZ : D → D → Option Z
  | .dk ds, y => (keyD y).bind fun k => (vD ds k).map .sh
  | _, _ => none
theorem dgetZ_ok {K : Kx} : Op2 K rDGetA dgetZ := by
  intro P H v u x y z Q s hx hy e q
  unfold dgetZ at e
  split at e
  · obtain ⟨k, h1, h2⟩ := Option.bind_eq_some_iff.mp e
    obtain ⟨d, h3, h4⟩ := Option.map_eq_some_iff.mp h2
    subst h4
    obtain ⟨a, kvs, rfl, h5, h6, h7⟩ := bw_dk s hx
    obtain ⟨w, h8, h9⟩ := h7.val.1 d h3
    refine ⟨a, w, rfl, ?_, q w h9⟩
    rw [bw_key hy h1, ← h8]
    exact DGet.k h5
  · cases e
theorem de_dget {X : Cx} {E : We} {a b : Expr} {fa fb : Fe} {pos : Pos} (hu : X.A.units + 1 < cLine) (ha : DE X E a fa) (hb : DE X E b fb) (hs : NoSl b) : DE X E (.Subscript a b pos) (fOp dgetZ fa fb) :=
  pe_imp (pe_dget hu ha hb hs) fun _ _ _ h => two_ok (r := rDGetA) dgetZ_ok h
/-- d.get(k, x) -/
def isDk (es : Ev) (r : R) : Option (List (Key × D)) := match rdR es r with
  | some (.dk ds) => some ds
  | _ => none
theorem isDk_ok {es : Ev} {r : R} {ds : List (Key × D)} (h : isDk es r = some ds) : rdR es r = some (.dk ds) := by
  unfold isDk at h
  split at h
  · rename_i x e; cases h; exact e
  · cases h
def fGet2 (fa fb fc : Fe) : Fe := fun es => (fa es).bind fun p => (Rs.of (isDk p.2 p.1)).bind fun _ => (fb p.2).bind fun q => (fc q.2).bind fun s =>
  (Rs.of (isDk s.2 p.1)).bind fun ds => (Rs.of ((rdR s.2 q.1).bind keyD)).bind fun k => match vD ds k with
    | some d => .ok (.sh d, s.2)
    | none => .ok (s.1, s.2)
theorem de_get2 {X : Cx} {E : We} {o e f : Expr} {fa fb fc : Fe} {apos cpos : Pos} (hu : X.A.units + 1 < cLine) (ha : DE X E o fa) (hb : DE X E e fb) (hc : DE X E f fc) (m : M2 X o "get" apos e f cpos) : DE X E (.Call (.Attribute o "get" apos) [e, f] [] cpos) (fGet2 fa fb fc) := by
  refine pe_imp (pe_dget2 hu ha hb hc m) fun σ H Q ⟨P, es, ok, h⟩ => tD_mono (tD_g (.refl ok) (G.bind h.g)) fun x H1 ⟨ra, es1, P1, g1, _, rel1, q1⟩ => ?_
  obtain ⟨ds0, e1, q2⟩ := G.of (G.bind q1)
  obtain ⟨a, kvs0, rfl, h1, _⟩ := bw_dk g1.ok.sub (rel1.bw g1.ok (isDk_ok e1))
  refine ⟨a, rfl, .inl ⟨kvs0, .inl h1⟩, ?_⟩
  refine tD_mono (tD_g g1 (G.bind q2)) fun y H2 ⟨rb, es2, P2, g2, g12, rel2, q3⟩ => ?_
  refine tD_mono (tD_g g2 (G.bind q3)) fun z H3 ⟨rc, es3, P3, g3, g23, rel3, q4⟩ => ?_
  obtain ⟨ds, e2, q5⟩ := G.of (G.bind q4)
  obtain ⟨k, e3, q6⟩ := G.of (G.bind q5)
  obtain ⟨dy, e4, e5⟩ := Option.bind_eq_some_iff.mp e3
  have r1 := (rel1.step g12).step g23
  obtain ⟨b, kvs, hb', h2, h3, h4⟩ := bw_dk g3.ok.sub (r1.bw g3.ok (isDk_ok e2))
  cases hb'
  have hy := bw_key ((rel2.step g23).bw g3.ok e4) e5
  refine ⟨valV kvs k, by rw [hy]; exact DGet.k h2, ?_⟩
  cases ev : vD ds k with
  | some d =>
    simp only [ev] at q6
    obtain ⟨w, h5, h6⟩ := h4.val.1 d ev
    rw [h5]
    exact q6 w P3 H3 g3 h6
  | none =>
    simp only [ev] at q6
    rw [h4.val.2 ev]
    exact q6 z P3 H3 g3 rel3
/-- d[k] = v, d in slot i -/
def gDput (i : Nat) (fk fv : Fe) : Fs := fun es => (fv es).bind fun p => (Rs.of (toSh p.1 p.2)).bind fun q => (Rs.of (ownAt q.2 i)).bind fun _ => (fk q.2).bind fun s => (Rs.of ((rdR s.2 s.1).bind keyD)).bind fun k => match ownAt s.2 i with
    | some (.dk ds) => if ds.length < sizeLine then .ok (.nx (setC s.2 i (.dk (putD ds k q.1)))) else .st
    | _ => .st
theorem ds_dput {X : Cx} {E : We} {o e v : Expr} {i : Nat} {fk fv : Fe} {pos tpos : Pos} (hu : X.A.units + 1 < cLine) (ho : PE X o (tVar i)) (he : DE X E e fk) (hv : DE X E v fv) (hs : swapsWith v (some (.Subscript o e tpos)) pos.line X.env = pure false := by rfl) :
    DS X E (.Assign [.Subscript o e tpos] v pos) (gDput i fk fv) := by
  refine ps_imp (ps_dput hu ho he hv hs) fun D σ H ⟨P, es, ok, h⟩ => tD_ms (tD_s (.refl ok) (GS.bind h)) fun v H1 ⟨r, es1, P1, g1, _, rel, q⟩ => ?_
  obtain ⟨s, e1, q1⟩ := GS.of (GS.bind q)
  obtain ⟨P2, g2, dn, _⟩ := toSh_s g1 rel e1
  obtain ⟨d0, e2, q2⟩ := GS.of (GS.bind q1)
  obtain ⟨a, h1, _⟩ := g2.ok.ow i d0 e2
  refine ⟨.ref a, h1, ?_⟩
  refine tD_ms (tD_s g2 (GS.bind q2)) fun y H3 ⟨rk, es3, P3, g3, g23, relk, q3⟩ => ?_
  obtain ⟨k, e3, q4⟩ := GS.of (GS.bind q3)
  obtain ⟨dy, e4, e5⟩ := Option.bind_eq_some_iff.mp e3
  split at q4
  · rename_i ds e6
    split at q4
    · rename_i hz
      obtain ⟨b, h4, h5⟩ := g3.ok.ow i _ e6
      rw [h1] at h4; cases h4
      obtain ⟨_, kvs, h6, h7, h8⟩ := h5
      refine ⟨a, _, rfl, by rw [bw_key (relk.bw g3.ok e4) e5]; exact DPut.k h6 (by rw [h8.length]; exact hz), ?_⟩
      have hl : kvs.length < sizeLine := by rw [h8.length]; exact hz
      exact q4 σ P3 _ (g3.setC e6 h1 ⟨_, rfl, Nat.le_trans (putK_le _ _ _) hl, h8.put (dn.mono g23.st.pp)⟩)
    · exact False.elim q4
  · exact False.elim q4

/-! ### sorted -/
def strLe (a b : Str) : Bool := !ltCps b.cps.toList a.cps.toList
def insS (x : Str) : List Str → List Str
  | [] => [x]
  | y :: r => if strLe x y = true then x :: y :: r else y :: insS x r
def sortS : List Str → List Str
  | [] => []
  | x :: r => insS x (sortS r)
theorem insS_perm (x : Str) : ∀ l : List Str, (insS x l).Perm (x :: l)
  | [] => .refl _
  | y :: r => by
    unfold insS
    split
    · exact .refl _
    · exact ((insS_perm x r).cons y).trans (.swap _ _ _)
theorem sortS_perm : ∀ l : List Str, (sortS l).Perm l
  | [] => .refl _
  | x :: r => (insS_perm x (sortS r)).trans ((sortS_perm r).cons x)
theorem ltCps_irr : ∀ l : List Nat, ltCps l l = false
  | [] => rfl
  | a :: r => by
    have := ltCps_irr r
    simp [ltCps, this]
theorem ltCps_trans : ∀ a b c : List Nat, ltCps a b = true → ltCps b c = true → ltCps a c = true
  | [], [], c, h, _ => by simp [ltCps] at h
  | _ :: _, [], _, h, _ => by simp [ltCps] at h
  | _, _ :: _, [], _, h => by simp [ltCps] at h
  | [], _ :: _, _ :: _, _, _ => by simp [ltCps]
  | a :: r, b :: s, c :: t, h, q => by
    simp only [ltCps, Bool.or_eq_true, Bool.and_eq_true, decide_eq_true_eq, beq_iff_eq] at h q ⊢
    rcases h with h | ⟨h1, h2⟩
    · rcases q with q | ⟨q1, q2⟩
      · exact .inl (by omega)
      · exact .inl (by omega)
    · rcases q with q | ⟨q1, q2⟩
      · exact .inl (by omega)
      · exact .inr ⟨by omega, ltCps_trans r s t h2 q2⟩
theorem ltCps_total : ∀ a b : List Nat, ltCps a b = false → ltCps b a = false → a = b
  | [], [], _, _ => rfl
  | [], _ :: _, h, _ => by simp [ltCps] at h
  | _ :: _, [], _, h => by simp [ltCps] at h
  | a :: r, b :: s, h, q => by
    simp only [ltCps, Bool.or_eq_false_iff, Bool.and_eq_false_iff, decide_eq_false_iff_not, beq_eq_false_iff_ne] at h q
    have e : a = b := by omega
    subst e
    rcases h.2 with z | z
    · exact absurd rfl z
    · rcases q.2 with y | y
      · exact absurd rfl y
      · rw [ltCps_total r s z y]
theorem strLe_trans {a b c : Str} (h : strLe a b = true) (q : strLe b c = true) : strLe a c = true := by
  unfold strLe at *
  rw [Bool.not_eq_true'] at *
  cases e : ltCps c.cps.toList a.cps.toList with
  | false => rfl
  | true =>
    cases e2 : ltCps b.cps.toList c.cps.toList with
    | true =>
      rw [ltCps_trans _ _ _ e2 e] at h; cases h
    | false =>
      have := ltCps_total _ _ q e2
      rw [this] at e
      rw [e] at h; cases h
theorem str_ext {a b : Str} (h : a.cps.toList = b.cps.toList) : a = b := by
  obtain ⟨⟨x⟩⟩ := a
  obtain ⟨⟨y⟩⟩ := b
  simp at h
  rw [h]
theorem strLe_anti {a b : Str} (h : strLe a b = true) (q : strLe b a = true) : a = b := by
  unfold strLe at h q
  rw [Bool.not_eq_true'] at h q
  exact str_ext (ltCps_total _ _ q h)
theorem insS_sorted (x : Str) : ∀ l : List Str, l.Pairwise (fun a b => strLe a b = true) → (insS x l).Pairwise (fun a b => strLe a b = true)
  | [], _ => by unfold insS; exact .cons (fun _ h => by cases h) .nil
  | y :: r, h => by
    have h' := List.pairwise_cons.mp h
    unfold insS
    split
    · rename_i e
      refine .cons (fun z hz => ?_) h
      rcases List.mem_cons.mp hz with rfl | hz
      · exact e
      · exact strLe_trans e (h'.1 z hz)
    · rename_i e
      refine .cons (fun z hz => ?_) (insS_sorted x r h'.2)
      rcases List.mem_cons.mp ((insS_perm x r).mem_iff.mp hz) with rfl | hz
      · unfold strLe at e ⊢
        rw [Bool.not_eq_true', Bool.not_eq_false] at e
        rw [Bool.not_eq_true']
        cases e2 : ltCps z.cps.toList y.cps.toList with
        | false => rfl
        | true => have := ltCps_trans _ _ _ e e2; rw [ltCps_irr] at this; cases this
      · exact h'.1 z hz
theorem sortS_sorted : ∀ l : List Str, (sortS l).Pairwise (fun a b => strLe a b = true)
  | [] => .nil
  | x :: r => insS_sorted x _ (sortS_sorted r)
theorem rising_pw : ∀ (l : List Str) (p : Str), risingS p l = true → (p :: l).Pairwise (fun a b => strLe a b = true)
  | [], _, _ => .cons (fun _ h => by cases h) .nil
  | x :: r, p, h => by
    unfold risingS at h
    rw [Bool.and_eq_true] at h
    have ih := rising_pw r x h.2
    refine .cons (fun z hz => ?_) ih
    rcases List.mem_cons.mp hz with rfl | hz
    · exact h.1
    · exact strLe_trans h.1 ((List.pairwise_cons.mp ih).1 z hz)
theorem sorted_pw : ∀ {l : List Str}, sortedS l = true → l.Pairwise (fun a b => strLe a b = true)
  | [], _ => .nil
  | x :: r, h => rising_pw r x h
theorem sorted_one {ys xs : List Str} (p : ys.Perm xs) (s : sortedS ys = true) : ys = sortS xs :=
  List.Perm.eq_of_pairwise (fun a b _ _ h1 h2 => strLe_anti h1 h2) (sorted_pw s) (sortS_sorted xs) (p.trans (sortS_perm xs).symm)
def strsD : List D → Option (List Str)
  | [] => some []
  | .str s :: r => (strsD r).map fun l => s :: l
  | _ :: _ => none
def strKeys : List (Key × D) → Option (List Str)
  | [] => some []
  | (.inr s, _) :: r => (strKeys r).map fun l => s :: l
  | (.inl _, _) :: _ => none
theorem strKeys_ok : ∀ {ds : List (Key × D)} {ks : List Str}, strKeys ds = some ks → ds.map (·.1) = ks.map Sum.inr
  | [], _, h => by cases h; rfl
  | (.inr s, d) :: r, ks, h => by
    obtain ⟨l, h1, h2⟩ := Option.map_eq_some_iff.mp h
    subst h2
    rw [List.map_cons, List.map_cons, strKeys_ok h1]
  | (.inl _, _) :: _, _, h => by cases h
theorem strsD_ok {K : Kx} {P : Hp} : ∀ {vs : List V} {ds : List D} {ss : List Str}, DnA K P vs ds → strsD ds = some ss → vs = ss.map V.str
  | _, _, _, .nil, e => by cases e; rfl
  | _, _, _, .cons (d := d) h t, e => by
    cases d with
    | str s =>
      obtain ⟨l, h1, h2⟩ := Option.map_eq_some_iff.mp e
      subst h2
      cases h
      rw [List.map_cons, ← strsD_ok t h1]
    | _ => cases e
theorem dn_strs {K : Kx} {P : Hp} : ∀ ss : List Str, DnA K P (ss.map V.str) (ss.map D.str)
  | [] => .nil
  | s :: r => .cons (.str s) (dn_strs r)
def rSortA (K : PySem.W.Frag) : List V → Hp → VK → Prop := fun xs H Q => rSortedS K xs H Q ∨ ∃ (a : Addr) (kvs : List (Key × V)) (ks : List Str), xs = [.ref a] ∧ Rd H a (.dK kvs) ∧ kvs.map (·.1) = ks.map Sum.inr ∧ ks.length < 64 ∧
  ∀ ys p, ys.Perm ks → sortedS ys = true → H p = none → Q (.ref p) (upd H p (.lst (ys.map V.str)))
theorem call_sortA {X : Cx} (hc : X.calm = true) : CallR X (.builtin "sorted") (rSortA X.K) := CallR.or cr_sortedS (call_sortedD hc)
/-- sorted of a list of texts, of a dict whose keys are texts -/
def sortZ : D → Option Z
  | .dk ds => (strKeys ds).bind fun ks => if ks.length < 64 then some (.lst ((sortS ks).map .str)) else none
  | x => (lstD x).bind fun ds => (strsD ds).bind fun ss => if ss.length < 64 then some (.lst ((sortS ss).map .str)) else none
theorem sortZ_ok {K : Kx} : Op1 K (fun v => rSortA K.K [v]) sortZ := by
  intro P H v x z Q s hx e q
  have sz : ∀ {l : List Str}, l.length < 64 → ((sortS l).map V.str).length ≤ sizeLine := fun {l} h => by
    rw [List.length_map, (sortS_perm l).length_eq, sizeLine_eq]
    omega
  unfold sortZ at e
  split at e
  · obtain ⟨ks, h1, h2⟩ := Option.bind_eq_some_iff.mp e
    split at h2
    · rename_i h64
      cases h2
      obtain ⟨a, kvs, rfl, h3, h4, h5⟩ := bw_dk s hx
      refine .inr ⟨a, kvs, ks, rfl, .inl h3, by rw [h5.keys, strKeys_ok h1], h64, fun ys p hp hs n => ?_⟩
      rw [sorted_one hp hs]
      exact q p _ n (sz h64) (dn_strs _)
    · cases h2
  · obtain ⟨ds, h1, h2⟩ := Option.bind_eq_some_iff.mp e
    obtain ⟨ss, h3, h4⟩ := Option.bind_eq_some_iff.mp h2
    split at h4
    · rename_i h64
      cases h4
      obtain ⟨a, xs, rfl, h5, h6, h7⟩ := bw_list s hx h1
      rw [strsD_ok h7 h3] at h5
      refine .inl ⟨a, ss, rfl, h5, h64, fun ys p hp hs n => ?_⟩
      rw [sorted_one hp hs]
      exact q p _ n (sz h64) (dn_strs _)
    · cases h4

/-! ### slices -/
def partF : Option Fe → Ev → Rs (Option Int × Ev)
  | none, es => .ok (none, es)
  | some f, es => (f es).bind fun p => match p.1 with
    | .sh (.int i) => .ok (some i, p.2)
    | _ => .st
inductive DO (X : Cx) (E : We) : Option Expr → Option Fe → Prop
  | none : DO X E none none
  | some {e : Expr} {f : Fe} : DE X E e f → DO X E (some e) (some f)
def tDO (K : Kx) (E : WX) : Option Fe → TO
  | none => tNoPart
  | some f => tPart (tD K E f)
theorem po_of {X : Cx} {E : We} {e : Option Expr} {f : Option Fe} (h : DO X E e f) : PO X e (tDO (kx X E) E.w f) := by
  cases h with
  | none => exact po_none
  | some h => exact po_some h
theorem part_ok {K : Kx} {E : WX} {σ : St} {es es1 : Ev} {P H P1 H1 : Hp} {f : Option Fe} {F : Option Int × Ev → Prop} (g : GoE K σ es P H es1 P1 H1) (h : G K E σ es P H (partF f es1) F) {Q : Option Int → Hp → Prop}
    (q : ∀ o es2 P2 H2, GoE K σ es P H es2 P2 H2 → GoE K σ es1 P1 H1 es2 P2 H2 → F (o, es2) → Q o H2) : tDO K E f σ H1 Q := by
  cases f with
  | none => exact q none es1 P1 H1 g (.refl g.ok) h
  | some f =>
    refine tD_mono (tD_g g (G.bind h)) fun v H2 ⟨r, es2, P2, g2, g12, rel, h2⟩ => ?_
    simp only at h2
    split at h2
    · cases rel
      exact ⟨_, rfl, q _ es2 P2 H2 g2 g12 h2⟩
    · exact False.elim h2
def cutD (ds : List D) (lo hi : Option Int) : List D := (ds.drop (HT.sIx ds.length 0 lo)).take (HT.sIx ds.length ds.length hi - HT.sIx ds.length 0 lo)
theorem DnA.cut {K : Kx} {P : Hp} {xs : List V} {ds : List D} (t : DnA K P xs ds) (lo hi : Option Int) : DnA K P (cutV xs lo hi) (cutD ds lo hi) := by
  unfold cutV cutD
  rw [t.length]
  exact (t.drop _).take _
def slZ (x : D) (lo hi : Option Int) : Option Z := match x with
  | .lst ds => some (.lst (cutD ds lo hi))
  | .rl ds => some (.lst (cutD ds lo hi))
  | .tup ds => some (.tup (cutD ds lo hi))
  | .str z => if z.length ≤ sizeLine then some (.sh (.str (cutS z lo hi))) else none
  | _ => none
def rSlAll (K : PySem.W.Frag) : V → Option Int → Option Int → Hp → VK → Prop := fun x lo hi H Q => rSlL K x lo hi H Q ∨ rSlA K x lo hi H Q ∨ rSlS x lo hi H Q
theorem sl_all {X : Cx} : SlR X (rSlAll X.K) := SlR.or sl_list (SlR.or sl_tupA sl_str)
def fSl (fa : Fe) (fl fh : Option Fe) : Fe := fun es => (fa es).bind fun p => (partF fl p.2).bind fun l => (partF fh l.2).bind fun h => (Rs.of ((rdR h.2 p.1).bind fun x => slZ x l.1 h.1)).bind fun z => .ok (z.r, h.2)
theorem cut_whole {K : Kx} {P : Hp} {xs : List V} {ds : List D} (t : DnA K P xs ds) {lo hi : Option Int} (h : HT.sIx xs.length 0 lo = 0 ∧ HT.sIx xs.length xs.length hi = xs.length) : cutD ds lo hi = ds := by
  unfold cutD
  rw [← t.length, h.1, h.2, List.drop_zero, Nat.sub_zero, t.length, List.take_length]
theorem de_sl {X : Cx} {E : We} {a : Expr} {lo hi : Option Expr} {fa : Fe} {fl fh : Option Fe} {p2 pos : Pos} (ha : DE X E a fa) (hl : DO X E lo fl) (hh : DO X E hi fh) : DE X E (.Subscript a (.Slice lo hi none p2) pos) (fSl fa fl fh) := by
  refine pe_imp (pe_slice sl_all ha (po_of hl) (po_of hh)) fun σ H Q ⟨P, es, ok, h⟩ => tD_mono (tD_g (.refl ok) (G.bind h.g)) fun x H1 ⟨ra, es1, P1, g1, _, rel1, q1⟩ => ?_
  refine part_ok g1 (G.bind q1) fun l es2 P2 H2 g2 g12 q2 => part_ok g2 (G.bind q2) fun h es3 P3 H3 g3 g23 q3 => ?_
  obtain ⟨z, e, q4⟩ := G.of (G.bind q3)
  obtain ⟨d, e1, e2⟩ := Option.bind_eq_some_iff.mp e
  have bw := ((rel1.step g12).step g23).bw g3.ok e1
  have zq := zq_of (z := z) (E := E.w) (Q := Q) g3 (fun v P' H' g rel => q4 v P' H' g rel)
  unfold slZ at e2
  split at e2
  · cases e2
    obtain ⟨a, xs, rfl, h1, h2, h3⟩ := bw_lst g3.ok.sub bw
    exact .inl ⟨a, xs, rfl, .inl (.inl h1), fun p n => zq p _ n (Nat.le_trans (cutV_length _ _ _) h2) (h3.cut _ _)⟩
  · cases e2
    obtain ⟨a, xs, rfl, h1, h2, h3⟩ := bw_rl g3.ok.sub bw
    exact .inl ⟨a, xs, rfl, h1, fun p n => zq p _ n (Nat.le_trans (cutV_length _ _ _) h2) (h3.cut _ _)⟩
  · cases e2
    obtain ⟨a, xs, rfl, h1, h2, h3⟩ := bw_tup g3.ok.sub bw
    refine .inr (.inl ⟨a, xs, rfl, h1, fun hw => ?_, fun _ p n => zq.2 p _ n (Nat.le_trans (cutV_length _ _ _) h2) (h3.cut _ _)⟩)
    have zq := zq.1
    rw [cut_whole h3 hw] at zq
    cases bw with
    | dn bw => exact zq _ bw
    | ow bw => exact bw.2.elim
  · split at e2
    · cases e2
      rename_i hz
      rw [bw_str bw]
      exact .inr (.inr ⟨_, rfl, hz, zq _ (.str _)⟩)
    · cases e2
  · cases e2
end DL

/-! DL, part 9: walks of anything, pairs stored at once, names of built-ins, a law's end. -/
namespace DL
open PySem PySem.Spec L2
open PyProof.Rows hiding St
set_option autoImplicit false

/-! ### a list, a tuple or a text, walked -/
def iAny (K : PySem.W.Frag) (tl : TE) : TI := fun σ H R => tl σ H fun x H1 => (∃ a, x = .ref a ∧ (((∃ xs, SqL K H1 a xs) ∧ R (Itl K a) H1) ∨ ((∃ xs, SqT K H1 a xs) ∧ R (Itt K a) H1))) ∨ ∃ z, x = .str z ∧ R (Its z) H1
theorem pi_any {X : Cx} {tg l : Expr} {tl : TE} (hl : PE X l tl) : PI X tg l (iAny X.K tl) := by
  refine ⟨fun pins s σ H R I h => ?_⟩
  refine thn (hl.run pins s σ H _ I h) fun v s1 ⟨x, H1, I1, r1, q1⟩ => ?_
  rcases q1 with ⟨a, e, q⟩ | ⟨z, e, q⟩
  · have P : PE X l (fun σ' H' Q => s1 = s1 ∧ Q x H1) ∨ True := .inr trivial
    subst e
    cases r1
    rcases q with ⟨⟨xs, hq⟩, q⟩ | ⟨⟨xs, hq⟩, q⟩
    · obtain ⟨its, rv, p, hz⟩ := I1.list hq
      refine wpAny_pyIter_list p.isList ?_
      refine ⟨s1.heap.objs.size, [s1.heap.objs.size], _, _, H1, rfl, I1.kept (t' := s1.toks) fun b o e => Heap.get?_push_of_some _ e, turn_list a _, ⟨_, Heap.get?_push_size _ rfl, rfl, rfl⟩, fun b hb => ?_, q⟩
      have e : b = s1.heap.objs.size := by simpa using hb
      subst e
      exact I1.fpOk (Nat.le_refl _) (I1.hok.fresh (Nat.le_refl _))
    · obtain ⟨its, rv, p, hz⟩ := I1.tuple hq
      refine wpAny_pyIter_tuple (show s1.heap.IsTuple a its.toArray from p) ?_
      refine ⟨s1.heap.objs.size, [s1.heap.objs.size], _, _, H1, rfl, I1.kept (t' := s1.toks) fun b o e => Heap.get?_push_of_some _ e, turn_tuple a _, ⟨_, Heap.get?_push_size _ rfl, rfl, rfl⟩, fun b hb => ?_, q⟩
      have e : b = s1.heap.objs.size := by simpa using hb
      subst e
      exact I1.fpOk (Nat.le_refl _) (I1.hok.fresh (Nat.le_refl _))
  · subst e
    obtain ⟨t, rfl⟩ := r1
    cases ha : z.cps.all (· < 128)
    · exact wpAny_pyIter_wide ha (pi_one (tk := s1.toks) I1 _ (turn_str _ z t "str_iterator" (.inr rfl)) ⟨_, Heap.get?_push_size _ rfl, rfl, rfl⟩ q)
    · exact wpAny_pyIter_ascii ha (pi_one (tk := s1.toks) I1 _ (turn_str _ z t "str_ascii_iterator" (.inl rfl)) ⟨_, Heap.get?_push_size _ rfl, rfl, rfl⟩ q)
/-- what a datum gives when it is walked -/
def itemsD : D → Option (List D)
  | .str z => if z.length ≤ sizeLine then some (signs z) else none
  | x => seqD x
def iAnyF (f : Fe) : Fi := fun es => (f es).bind fun p => (Rs.of (toSh p.1 p.2)).bind fun q => (Rs.of (itemsD q.1)).bind fun ds => .ok (ds, q.2)
theorem it_str {K : Kx} {Pb : Hp} {z : Str} (hz : z.length ≤ sizeLine) : ItOk K (Its z) (signs z) Pb := by
  refine ⟨?_, fun i P H hi _ _ => ?_, fun P H _ _ => ?_, fun i P H x H' d e s1 s2 y => ?_⟩
  · unfold signs
    rw [List.length_map]
    simpa [Str.length] using hz
  · unfold signs at hi
    show i < z.cps.size
    simpa using hi
  · show z.cps.size ≤ (signs z).length
    unfold signs
    simp
  · obtain ⟨e1, c, e2, e3⟩ := y
    refine .inl ⟨e1, ?_⟩
    unfold signs at e
    rw [List.getElem?_map, Array.getElem?_toList, e2] at e
    cases e
    rw [e3]
    exact .str _
theorem di_any {X : Cx} {E : We} {tg l : Expr} {f : Fe} (he : DE X E l f) : DI X E tg l (iAnyF f) := by
  refine pi_imp (pi_any he) fun σ H R ⟨P, es, ok, h⟩ => tD_mono (tD_g (.refl ok) (G.bind h)) fun v H1 ⟨r, es1, P1, g1, _, rel, q⟩ => ?_
  obtain ⟨s, e1, q1⟩ := G.of (G.bind q)
  obtain ⟨P2, g2, dn, _⟩ := toSh_ok g1 rel e1
  obtain ⟨ds, e3, q3⟩ := G.of (G.bind q1)
  obtain ⟨d, es2⟩ := s
  cases dn with
  | str z =>
    unfold itemsD at e3
    simp only at e3
    split at e3
    · rename_i hz
      cases e3
      exact .inr ⟨z, rfl, q3 P2 H1 _ g2 (it_str hz)⟩
    · cases e3
  | lst h z t =>
    cases e3
    exact .inl ⟨_, rfl, .inl ⟨⟨_, .inl (.inl (g2.ok.sub _ _ h))⟩, q3 P2 H1 _ g2 (it_list (.inl (.inl h)) z t)⟩⟩
  | rl h z t =>
    cases e3
    exact .inl ⟨_, rfl, .inl ⟨⟨_, Same.seq g2.ok.sub h⟩, q3 P2 H1 _ g2 (it_list h z t)⟩⟩
  | tup h z t =>
    cases e3
    exact .inl ⟨_, rfl, .inr ⟨⟨_, sqt_mono g2.ok.sub h⟩, q3 P2 H1 _ g2 (it_tup h z t)⟩⟩
  | pt h z t _ =>
    cases e3
    exact .inl ⟨_, rfl, .inr ⟨⟨_, sqt_mono g2.ok.sub h⟩, q3 P2 H1 _ g2 (it_tup h z t)⟩⟩
  | _ => cases e3

/-! ### a, b = e, f: two local names -/
/-- a result as a slot's content: own or shared -/
def toSl (own : Bool) (r : R) (es : Ev) : Option (Sl × Ev) := if own = true then (match r with
    | .fr d => some (.ow d, es)
    | _ => none) else (toSh r es).map fun p => (.sh p.1, p.2)
def gPar (i j : Nat) (oi oj : Bool) (fa fb : Fe) : Fs := fun es => (fa es).bind fun p => (Rs.of (toSl oi p.1 p.2)).bind fun s => (fb s.2).bind fun q => (Rs.of (toSl oj q.1 q.2)).bind fun t =>
  if isIo t.2 i = false ∧ isIo t.2 j = false ∧ i ≠ j then .ok (.nx ((t.2.set i (some s.1)).set j (some t.1))) else .st
/-- v is what the slot's content s says -/
def SlVal (K : Kx) (B P H : Hp) (σ : St) (es : Ev) (v : V) : Sl → Prop
  | .sh d => Dn K P v d
  | .ow d => ∃ a, v = .ref a ∧ OwnOk K P H a d ∧ ¬ Own σ es a ∧ B a = none
  | .io _ => False
section
variable {K : Kx} {E : WX} {σ σ1 : St} {es es1 es2 : Ev} {P H P1 H1 P2 H2 B : Hp} {v : V} {r : R} {s : Sl}
theorem toSl_ok {own : Bool} (g : GoE K σ es P H es1 P1 H1) (rel : RelR K H P1 H1 σ es1 v r) (e : toSl own r es1 = some (s, es2)) : ∃ P2, GoE K σ es P H es2 P2 H1 ∧ SlVal K H P2 H1 σ es2 v s := by
  unfold toSl at e
  split at e
  · cases r with
    | fr d =>
      cases e
      exact ⟨P1, g, rel⟩
    | _ => cases e
  · obtain ⟨p, h1, h2⟩ := Option.map_eq_some_iff.mp e
    cases h2
    obtain ⟨P2, g2, dn, _⟩ := toSh_ok g rel h1
    exact ⟨P2, g2, dn⟩
theorem SlVal.step (g : GoE K σ es P H es1 P1 H1) (h : SlVal K B P H σ es v s) : SlVal K B P1 H1 σ es1 v s := by
  cases s with
  | sh d => exact Dn.mono g.st.pp h
  | ow d =>
    obtain ⟨a, e, h1, h2, h3⟩ := h
    exact ⟨a, e, h1.step g.st h2, fun z => h2 (g.own z), h3⟩
  | io d => exact h
theorem SlVal.trk {d : D} (h : SlVal K B P H σ es v (.ow d)) : ∃ a o, v = .ref a ∧ H a = some o := by
  obtain ⟨a, e, h1, _⟩ := h
  obtain ⟨o, ho⟩ := h1.tracked
  exact ⟨a, o, e, ho⟩
end
theorem ds_par {X : Cx} {E : We} {i j : Nat} {x y : Str} {a b : Expr} {fa fb : Fe} {oi oj : Bool} {px py pt pos : Pos} {kt k2 pt2} (hc : X.calm = true) (hN : X.N.Nodup) (hi : X.N[i]? = some x) (hj : X.N[j]? = some y) (hij : i ≠ j)
    (hx : X.env.scope.names.lookup x = some .local) (hy : X.env.scope.names.lookup y = some .local) (ha : DE X E a fa) (hb : DE X E b fb)
    (hw : swappedStores [.Tuple [.Name x px, .Name y py] kt pt] (.Tuple [a, b] k2 pt2) X.env = pure (some [x, y]))
    (hs : swapsWithSole [.Tuple [.Name x px, .Name y py] kt pt] (.Tuple [a, b] k2 pt2) pos.line X.env = pure false := by rfl) (he : starEach [a, b] X.env = (false, eval a X.env) :: starEach [b] X.env := by rfl) (he2 : starEach [b] X.env = (false, eval b X.env) :: starEach [] X.env := by rfl) :
    DS X E (.Assign [.Tuple [.Name x px, .Name y py] kt pt] (.Tuple [a, b] k2 pt2) pos) (gPar i j oi oj fa fb) := by
  refine ps_imp (ps_par hc hN hi hj hij hx hy (pa_cons ha (pa_cons hb pa_nil he2) he) hw hs) fun D σ H ⟨P, es, ok, h⟩ => ?_
  -- the first one, as a slot's content
  have h := GS.bind h
  refine ⟨P, es, ok, ?_⟩
  cases e0 : fa es with
  | ex x' es' => rw [e0] at h; exact fun P' H' cls od t rel => h σ P' H' cls od (.of t) rel
  | st => rw [e0] at h; exact h
  | ok p =>
    rw [e0] at h
    intro v P1 H1 g1 rel1
    obtain ⟨s, e1, h1⟩ := GS.of (GS.bind h)
    obtain ⟨s, es2⟩ := s
    obtain ⟨P2, g2, sl2⟩ := toSl_ok g1 rel1 e1
    have h2 := GS.bind h1
    simp only at h2
    refine ⟨P2, es2, g2.ok, ?_⟩
    cases e3 : fb es2 with
    | ex x' es' => rw [e3] at h2; exact fun P' H' cls od t rel => h2 σ P' H' cls od (.of (g2.trans t)) rel
    | st => rw [e3] at h2; exact h2
    | ok q =>
      rw [e3] at h2
      intro w P3 H3 g3 rel3
      obtain ⟨t, e4, h4⟩ := GS.of (GS.bind h2)
      obtain ⟨t, es4⟩ := t
      -- the second one is new behind the first
      obtain ⟨P4, g4, sl4⟩ := toSl_ok g3 rel3 e4
      have sl2' := sl2.step g4
      simp only at h4
      split at h4
      · rename_i hk
        obtain ⟨n1, n2, _⟩ := hk
        refine ⟨v, w, rfl, h4 _ P4 H3 ?_⟩
        have base : GoS (kx X E) σ es P H σ es4 P4 H3 := .of (g2.trans g4)
        have put1 : GoS (kx X E) σ es P H (σ.set i (some v)) (es4.set i (some s)) P4 H3 := base.put n1 (by
          cases s with
          | sh d => exact .inl ⟨d, rfl, sl2'⟩
          | ow d => obtain ⟨a, z1, z2, z3, z4⟩ := sl2'; exact .inr (.inr ⟨d, a, rfl, z1, z2, z3, z4⟩)
          | io d => exact sl2'.elim)
        refine put1.put (by unfold isIo at n2 ⊢; rw [List.getElem?_set_ne hij]; exact n2) ?_
        cases t with
        | sh d => exact .inl ⟨d, rfl, sl4⟩
        | ow d =>
          obtain ⟨c, z1, z2, z3, z4⟩ := sl4
          refine .inr (.inr ⟨d, c, rfl, z1, z2, fun ⟨k, y', k1, k2⟩ => ?_, g2.st.free z4⟩)
          rcases ownAt_set k1 with ⟨ek, q⟩ | ⟨nk, q⟩
          · subst ek
            -- the first one's object stood ahead of the second
            cases s with
            | sh d' => rcases q with q | q <;> cases q
            | ow d' =>
              obtain ⟨b, o, eb, hb'⟩ := sl2.trk
              have : v = .ref c := by
                by_cases hl : k < σ.length
                · rw [List.getElem?_set_self hl] at k2
                  cases k2; rfl
                · rw [List.getElem?_eq_none (by simpa using hl)] at k2; cases k2
              rw [eb] at this
              cases this
              rw [z4] at hb'; cases hb'
            | io d' => exact sl2.elim
          · rw [List.getElem?_set_ne (Ne.symm nk)] at k2
            exact z3 ⟨k, y', q, k2⟩
        | io d => exact sl4.elim
      · exact False.elim h4

/-! ### names of built-ins -/
theorem bt_len : bootBuiltins "len" = some (.builtin "len") := by decide +kernel
theorem bt_abs : bootBuiltins "abs" = some (.builtin "abs") := by decide +kernel
theorem bt_all : bootBuiltins "all" = some (.builtin "all") := by decide +kernel
theorem bt_any : bootBuiltins "any" = some (.builtin "any") := by decide +kernel
theorem bt_max : bootBuiltins "max" = some (.builtin "max") := by decide +kernel
theorem bt_min : bootBuiltins "min" = some (.builtin "min") := by decide +kernel
theorem bt_sorted : bootBuiltins "sorted" = some (.builtin "sorted") := by decide +kernel
theorem bt_type : bootBuiltins "type" = some (.type "type") := by decide +kernel
theorem bt_tuple : bootBuiltins "tuple" = some (.type "tuple") := by decide +kernel
theorem bt_list : bootBuiltins "list" = some (.type "list") := by decide +kernel
theorem bt_dict : bootBuiltins "dict" = some (.type "dict") := by decide +kernel
theorem bt_int : bootBuiltins "int" = some (.type "int") := by decide +kernel
theorem bt_str : bootBuiltins "str" = some (.type "str") := by decide +kernel
theorem bt_bool : bootBuiltins "bool" = some (.type "bool") := by decide +kernel
theorem de_tyN {X : Cx} {E : We} {x : Str} {n : String} {pos : Pos} (hg : Gl X x) (hm : X.mg x = none) (hv : bootBuiltins x = some (.type n)) (hn : x ≠ "__name__" := by decide) (hd : (x == ("__debug__" : Str)) = false := by decide) : DE X E (.Name x pos) (fCon (.ty n)) :=
  de_con (v := .ty n) (pe_bltn hg hm hv rfl hn hd) fun _ => .ty _

/-! ### f(k = e) -/
section
variable {X : Cx} {CX : CXT} {k n : Nat} {f : Addr} {fd : FuncData} {ps ks : List Str} {sp : Sp} {E : XK} {x : Str} {p pos : Pos} {kws : List Keyword} {tk : TA} {g : List Value → List Value → List Value} {gV : List V → List V → List V}
theorem pe_callK0 (F : FnOk X.prog X.w X.K X.mg X.base CX k f fd ps sp) (hr : Room k X.A) (hg : Gl X x) (hm : X.mg x = some (.ref f)) (hk : PySem.W.keepIn X.K (.ref f) = true) (hb : KBn X.K fd ps 0 ks g gV) (hx : Passes CX X E) (hkw : PK X kws tk)
    (hall : (backToKw pos (keywordEach kws X.env)).all (·.1.isSome) = true := by rfl) (hks : (backToKw pos (keywordEach kws X.env)).filterMap (·.1) = ks := by rfl) (hdb : (x == ("__debug__" : Str)) = false := by decide)
    (hpl : ((backTo pos (starEach [] X.env)).any (·.1) || (backToKw pos (keywordEach kws X.env)).any (·.1.isNone)) = false := by rfl) :
    PE X (.Call (.Name x p) [] kws pos) (fun σ H Q => tk σ H fun zs H2 => zs.length = ks.length ∧ sp (gV [] zs) H2 Q E) := by
  refine ⟨fun pins s σ H Q I h => ?_⟩
  refine wpAny_Call_Name_kw (ld_glob I hg hm ?_ hdb)
  refine PySem.W.callWith_KW0 (h₀ := X.base) I.ok.mod.kin hk hall ?_ hpl
  refine thn (hkw.run pos pins s σ H _ I h) fun ws s2 ⟨zs, H2, I2, rz, l2, q2⟩ => ⟨I2.kIn, ?_⟩
  rw [hks]
  have r2 := hb.rel .nil rz
  refine wpAny_call (codeAny_mono (F.run X.A X.stack s2 H2 ⟨[], ks.zip ws⟩ (g [] ws) (gV [] zs) Q E hr I2.env0 (hb.to s2 [] ws I2.kIn rfl (rz.length.symm.trans l2)) r2 q2) fun r s' hq => ?_)
  cases r with
  | error e => exact hx pins σ H2 s2 e s' I2 hq
  | ok fl =>
    cases fl with
    | ret u => exact I2.after hq
    | next => exact False.elim hq
    | brk => exact False.elim hq
    | cont => exact False.elim hq
end
/-- one keyword, the only parameter -/
theorem kbn1 {K : PySem.W.Frag} {x qual : Str} {st : Stmt} {f : Addr} {fd : FuncData} {p : Str} (F : Fun K x qual st f fd)
    (h : ∀ (kV doc pm : Value) (an : Option Addr) (cdv ct : Value) (w : Value), bindArgs (PySem.W.fnOf x qual (defArgs st) (defBody st) (defScope st) .none kV doc pm an cdv ct) ⟨[], [(p, w)]⟩ = pure [(p, w)]) : KBn K fd [p] 0 [p] (fun _ ws => ws) (fun _ zs => zs) := by
  obtain ⟨oc, od, kV, doc, pm, an, cdv, ct, osl, rfl, lk, hcd⟩ := F.ex
  refine ⟨fun s us ws _ l1 l2 => ?_, fun _ r => r⟩
  match us, ws, l1, l2 with
  | [], [w], _, _ => exact .of_eq (h kV doc pm an cdv ct w)
theorem de_callK1 {X : Cx} {we : WX} {k : Nat} {f : Addr} {fd : FuncData} {m : Fe} {x pn : Str} {p pos kpos : Pos} {e : Expr} {fe : Fe} (F : FnOk X.prog X.w X.K X.mg X.base CX0 k f fd [pn] (spD0 X.K 1 m)) (hr : Room k X.A) (hg : Gl X x) (hm : X.mg x = some (.ref f))
    (hk : PySem.W.keepIn X.K (.ref f) = true) (hb : KBn X.K fd [pn] 0 [pn] (fun _ ws => ws) (fun _ zs => zs)) (ha : DE X ⟨we, none⟩ e fe)
    (hall : (backToKw pos (keywordEach [⟨some pn, e, kpos⟩] X.env)).all (·.1.isSome) = true := by rfl) (hks : (backToKw pos (keywordEach [⟨some pn, e, kpos⟩] X.env)).filterMap (·.1) = [pn] := by rfl) (hdb : (x == ("__debug__" : Str)) = false := by decide)
    (hpl : ((backTo pos (starEach [] X.env)).any (·.1) || (backToKw pos (keywordEach [⟨some pn, e, kpos⟩] X.env)).any (·.1.isNone)) = false := by rfl) (hst : starEach [e] X.env = (false, eval e X.env) :: starEach [] X.env := by rfl) :
    DE X ⟨we, none⟩ (.Call (.Name x p) [] [⟨some pn, e, kpos⟩] pos) (fCall (noX m) [(false, fe)] []) := by
  refine pe_imp (pe_callK0 (E := E0) F hr hg hm hk hb pass0 (pk_cons ha pk_nil) hall hks hdb hpl) fun σ H Q h => ?_
  have q := call_ok (X := X) (we := we) (n := 1) (dvs := []) (dfs := []) (fun _ => .nil) rfl h
  obtain ⟨P, es, ok, q⟩ := q
  have q := G.bind q
  refine ⟨P, es, ok, ?_⟩
  cases e0 : fe es with
  | ex x' es' => rw [e0] at q; exact q
  | st => rw [e0] at q; exact q
  | ok r =>
    rw [e0] at q
    intro v P1 H1 g1 rel
    obtain ⟨s, e1, q1⟩ := G.of (G.bind q)
    obtain ⟨P2, g2, dn, _⟩ := toSh_ok g1 rel e1
    refine ⟨rfl, ?_⟩
    obtain ⟨hl, P3, cs, ok3, no, q3⟩ := q1 [v] P2 H1 g2 (.cons dn .nil)
    refine ⟨hl, P3, cs, ok3, no, ?_⟩
    unfold noX at q3
    cases e3 : m cs with
    | ok r => rw [e3] at q3; exact q3
    | ex x' c => rw [e3] at q3; exact False.elim q3
    | st => rw [e3] at q3; exact q3

/-! ### a law's end -/
/-- the script's list, alone -/
def onlyAt (H : Hp) (a : Addr) : Hp := fun b => if b = a then H a else none
def spLaw (K : PySem.W.Frag) (n : Nat) : Sp := fun vs H Q _ => ∃ (a : Addr) (ns : List Int), vs = [.ref a] ∧ SqL K H a (ns.map V.int) ∧ ns.length ≤ n ∧ ∀ H', Q (.bl true) H'
theorem dn_ints {K : Kx} {P : Hp} : ∀ ns : List Int, DnA K P (ns.map V.int) (ns.map D.int)
  | [] => .nil
  | i :: r => .cons (.int i) (dn_ints r)
theorem law_end {P : Program} {w : World} {K : PySem.W.Frag} {mg : Str → Option Value} {base : Heap} {CX : CXT} {k n : Nat} {f : Addr} {fd : FuncData} {ps : List Str} {m : Fe} (F : FnOk P w K mg base CX k f fd ps (spD0 K 1 m)) (hn : n ≤ sizeLine)
    (hm : ∀ ns : List Int, ns.length ≤ n → ∃ es, m [some (.sh (.rl (ns.map D.int)))] = .ok (.sh (.bl true), es)) : FnOk P w K mg base CX k f fd ps (spLaw K n) := by
  refine F.imp fun vs H Q E ⟨a, ns, e, hS, hl, q⟩ => ?_
  subst e
  refine ⟨rfl, onlyAt H a, [some (.sh (.rl (ns.map D.int)))], ⟨rfl, fun b o h => ?_, fun i d h => ?_, fun i d h => ?_, fun i j d d' b hij h1 h2 => ?_⟩, fun i d h => ?_, ?_⟩
  · unfold onlyAt at h
    split at h
    · rename_i e; rw [e]; exact h
    · cases h
  · cases i with
    | zero =>
      simp at h
      subst h
      refine ⟨.ref a, rfl, .rl ?_ (by rw [List.length_map]; omega) (dn_ints ns)⟩
      have e : onlyAt H a a = H a := by unfold onlyAt; rw [if_pos rfl]
      rcases hS with (h | ⟨o, h⟩) | h
      · exact .inl (.inl (by rw [e]; exact h))
      · exact .inl (.inr ⟨o, by rw [e]; exact h⟩)
      · exact .inr h
    | succ i => simp at h
  · unfold ownAt at h
    cases i with
    | zero => simp at h
    | succ i => simp at h
  · unfold ownAt at h1
    cases i with
    | zero => simp at h1
    | succ i => simp at h1
  · cases i with
    | zero => simp at h
    | succ i => simp at h
  · obtain ⟨es, e⟩ := hm ns hl
    rw [e]
    intro v P' H' g rel
    rw [dn_bl rel]
    exact q H'
end DL

/-! DL, part 10: calls without arguments, constants of the module. -/
namespace DL
open PySem PySem.Spec L2
open PyProof.Rows hiding St
set_option autoImplicit false

theorem de_call00 {X : Cx} {we : WX} {k : Nat} {f : Addr} {fd : FuncData} {m : Fe} {x : Str} {p pos : Pos} (F : FnOk X.prog X.w X.K X.mg X.base CX0 k f fd [] (spD0 X.K 0 m)) (hr : Room k X.A) (hg : Gl X x) (hm : X.mg x = some (.ref f))
    (hk : PySem.W.keepIn X.K (.ref f) = true) (hb : Binds X.K fd [] []) (hdb : (x == ("__debug__" : Str)) = false := by decide) :
    DE X ⟨we, none⟩ (.Call (.Name x p) [] [] pos) (fCall (noX m) [] []) := by
  refine pe_imp (pe_call0 (E := E0) F hr hg hm hk hb .nil pass0 hdb) fun σ H Q h => ?_
  have q := call_ok (X := X) (we := we) (n := 0) (dvs := []) (dfs := []) (fun _ => .nil) rfl h
  obtain ⟨P, es, ok, q⟩ := q
  obtain ⟨hl, P3, cs, ok3, no, q3⟩ := q [] P H (.refl ok) .nil
  refine ⟨hl, P3, cs, ok3, no, ?_⟩
  unfold noX at q3
  cases e3 : m cs with
  | ok r => rw [e3] at q3; exact q3
  | ex x' c => rw [e3] at q3; exact False.elim q3
  | st => rw [e3] at q3; exact q3
/-- the items of a module's tuple -/
def DnVs (K : Kx) (P : Hp) : List Value → List D → Prop := Paired fun u d => ∃ v : V, RelV v u ∧ Dn K P v d
theorem dnVs_mk {K : Kx} {P : Hp} : ∀ {us : List Value} {ds : List D}, DnVs K P us ds → ∃ vs : List V, Vals vs us ∧ DnA K P vs ds
  | [], [], .nil => ⟨[], .nil, .nil⟩
  | _ :: _, _ :: _, .cons ⟨v, r, h⟩ t => by
    obtain ⟨vs, h1, h2⟩ := dnVs_mk t
    exact ⟨v :: vs, .cons r h1, .cons h h2⟩
theorem dn_const {K : Kx} {P : Hp} {a : Addr} {o : Obj} {its : Array Value} {n : Nat} {ds : List D} (h1 : K.K.lookup a = some o) (h2 : o.cls = .type "tuple") (h3 : o.data = .seq its n) (h : DnVs K P its.toList ds) (hl : ds.length ≤ sizeLine) : Dn K P (.ref a) (.tup ds) := by
  obtain ⟨vs, v1, v2⟩ := dnVs_mk h
  have l : its.size ≤ sizeLine := by
    have e1 : vs.length = its.toList.length := v1.length
    have e2 := v2.length
    have e3 : its.toList.length = its.size := Array.length_toList
    rw [← e3, ← e1, e2]
    exact hl
  exact .tup (.inr ⟨o, its, n, h1, h2, h3, l, v1⟩) (by rw [v2.length]; exact hl) v2
end DL

/-! DL, part 11: what data functions give: evaluation. -/
namespace DL
open PySem PySem.Spec L2
open PyProof.Rows hiding St
set_option autoImplicit false

def nz (o : Option D) : Option Sl := o.map .sh
def nw (o : Option D) : Option Sl := o.map .ow
def AllSh (cs : Ev) : Prop := ∀ c ∈ cs, ∃ d, c = some (.sh d)
theorem outEv_sh : ∀ {cs e c : Ev}, AllSh cs → outEv cs e = some c → c = cs
  | [], e, c, _, h => by unfold outEv at h; cases h; rfl
  | x :: cs, e, c, hs, h => by
    obtain ⟨d, hd⟩ := hs x List.mem_cons_self
    subst hd
    cases e with
    | nil => unfold outEv at h; cases h
    | cons y e =>
      unfold outEv at h
      obtain ⟨r, h1, h2⟩ := Option.map_eq_some_iff.mp h
      rw [← h2, outEv_sh (fun c hc => hs c (List.mem_cons_of_mem _ hc)) h1]
theorem mDef_sh {n : Nat} {g : Fs} {cs : Ev} {r : R} {c : Ev} (hs : AllSh cs) (h : mDef n g cs = .ok (r, c)) : c = cs := by
  unfold mDef at h
  split at h
  · rename_i e0 _
    cases e1 : outEv cs e0 with
    | none => rw [e1] at h; cases h
    | some y =>
      rw [e1] at h
      cases h
      exact outEv_sh hs e1
  · rename_i r0 e0 _
    cases e : retR e0 r0 with
    | none => rw [e] at h; cases h
    | some x =>
      rw [e] at h
      cases e1 : outEv cs e0 with
      | none => rw [e1] at h; cases h
      | some y =>
        rw [e1] at h
        cases h
        exact outEv_sh hs e1
  · cases h
  · rename_i x e0 _
    cases e1 : outEv cs e0 with
    | none => rw [e1] at h; cases h
    | some y => rw [e1] at h; cases h
  · cases h
def isF (x : Rs (R × Ev)) : Bool := match x with
  | .ok (.sh (.bl false), _) => true
  | _ => false
def isT (x : Rs (R × Ev)) : Bool := match x with
  | .ok (.sh (.bl true), _) => true
  | _ => false
theorem isF_ok {n : Nat} {g : Fs} {cs : Ev} (hs : AllSh cs) (h : isF (mDef n g cs) = true) : mDef n g cs = .ok (.sh (.bl false), cs) := by
  unfold isF at h
  split at h
  · rename_i c e
    rw [e, mDef_sh hs e]
  · cases h
theorem isT_ok {n : Nat} {g : Fs} {cs : Ev} (hs : AllSh cs) (h : isT (mDef n g cs) = true) : mDef n g cs = .ok (.sh (.bl true), cs) := by
  unfold isT at h
  split at h
  · rename_i c e
    rw [e, mDef_sh hs e]
  · cases h
theorem allSh1 (d : D) : AllSh [some (.sh d)] := fun c h => by
  rcases List.mem_cons.mp h with h | h
  · exact ⟨d, h⟩
  · cases h
/-- a loop that runs to its end -/
theorem forL_go {p : Pt} {body : Fs} (I : Nat → Ev → Prop) : ∀ {ds : List D} {k : Nat} {es : Ev}, (∀ (i : Nat) (d : D) (e : Ev), ds[i]? = some d → I (k + i) e → ∃ e1 e2, p d e = some e1 ∧ (body e1 = .ok (.nx e2) ∨ body e1 = .ok (.ct e2)) ∧ I (k + i + 1) e2) → I k es → ∃ es', forL p body ds es = .ok (.nx es') ∧ I (k + ds.length) es'
  | [], k, es, _, h => ⟨es, rfl, h⟩
  | d :: ds, k, es, H, h => by
    obtain ⟨e1, e2, h1, h2, h3⟩ := H 0 d es rfl h
    obtain ⟨es', h4, h5⟩ := forL_go (k := k + 1) I (ds := ds) (es := e2) (fun i d e q w => by
      have := H (i + 1) d e (by simpa using q) (by rw [show k + (i + 1) = k + 1 + i by omega]; exact w)
      rw [show k + (i + 1) = k + 1 + i by omega] at this
      exact this) h3
    refine ⟨es', ?_, by rw [List.length_cons, show k + (ds.length + 1) = k + 1 + ds.length by omega]; exact h5⟩
    unfold forL
    rw [h1]
    rcases h2 with h2 | h2
    · simp only [Rs.of_some, Rs.bind_ok, h2]; exact h4
    · simp only [Rs.of_some, Rs.bind_ok, h2]; exact h4
theorem call_g {m : Fe} {fs : List (Bool × Fe)} {es es1 es' cs cs' : Ev} {as : List Ag} {d : D} (h1 : fArgs fs es = .ok (as, es1)) (nd : (ioIx as).Nodup) (h2 : toEv es1 as = some cs) (h3 : m cs = .ok (.sh d, cs')) (h4 : wb es1 as cs' = some es') :
    fCall (noX m) fs [] es = .ok (.sh d, es') := by
  unfold fCall
  rw [h1]
  simp only [Rs.bind_ok, List.map_nil, List.append_nil]
  rw [if_pos nd, h2]
  simp only [Rs.of_some, Rs.bind_ok, noX, h3, h4]
theorem call_gf {m : Fe} {fs : List (Bool × Fe)} {es es1 es' cs cs' : Ev} {as : List Ag} {d : D} (h1 : fArgs fs es = .ok (as, es1)) (nd : (ioIx as).Nodup) (h2 : toEv es1 as = some cs) (h3 : m cs = .ok (.fr d, cs')) (h4 : wb es1 as cs' = some es') :
    fCall (noX m) fs [] es = .ok (.fr d, es') := by
  unfold fCall
  rw [h1]
  simp only [Rs.bind_ok, List.map_nil, List.append_nil]
  rw [if_pos nd, h2]
  simp only [Rs.of_some, Rs.bind_ok, noX, h3, h4]
/-- one shared argument -/
theorem call_1 {m f : Fe} {es es1 : Ev} {d r : D} (hf : f es = .ok (.sh d, es1)) (hm : m [some (.sh d)] = .ok (.sh r, [some (.sh d)])) : fCall (noX m) [(false, f)] [] es = .ok (.sh r, es1) :=
  call_g (as := [.sh d]) (cs := [some (.sh d)]) (cs' := [some (.sh d)]) (by simp [fArgs, hf, toSh]) (by simp [ioIx]) rfl hm rfl
theorem ixZ_in {ds : List D} {f : Int} (h0 : 0 ≤ f) (h1 : f < ds.length) : ∃ d, ds[f.toNat]? = some d ∧ d ∈ ds ∧ ixZ (.lst ds) (.int f) = some (.sh d) := by
  have hn : f.toNat < ds.length := by omega
  refine ⟨ds[f.toNat], List.getElem?_eq_getElem hn, List.getElem_mem hn, ?_⟩
  unfold ixZ
  simp only [seqD, Option.bind_some]
  unfold L2.atI
  have : L2.ixN ds.length f = some f.toNat := by
    unfold L2.ixN
    first
      | (split <;> first | rfl | (exfalso; omega))
      | (simp; omega)
  rw [this]
  simp [List.getElem?_eq_getElem hn]
end DL

/-! DL, part 12: defs that raise; instances: their fields, their making. -/
namespace DL
open PySem PySem.Spec L2
open PyProof.Rows hiding St
set_option autoImplicit false

/-! ### a def that may raise -/
theorem def_fin {K : PySem.W.Frag} {P H : Hp} {vs : List V} {cs : Ev} {N : List Str} {g : Fs} {Q : VK} {E : XK} (ok : EnvOk ⟨K, none⟩ P H (vs.map some) cs) (no : NoOw cs) (h : Post ⟨K, none⟩ (wx E) (vs.map some) cs P H (mDef N.length g cs) Q) :
    tS ⟨K, none⟩ (wx E) g { nx := fun _ H' => Q .non H', rt := Q } (L2.start N vs) H := by
  refine ⟨P, _, start_env ok, ?_⟩
  unfold mDef at h
  cases e : g (cs ++ List.replicate (N.length - cs.length) none) with
  | st => rw [e] at h; exact h
  | ex x' es' =>
    rw [e] at h
    obtain ⟨c, e1, h1⟩ := G.of (G.bind h.g)
    intro σ' P' H' cls od t rel
    exact h1 P' H' cls od (def_end ok no t e1).1 rel
  | ok o =>
    rw [e] at h
    cases o with
    | nx es' =>
      obtain ⟨c, e1, h1⟩ := G.of (G.bind h.g)
      exact fun σ' P' H' t => h1 .non P' H' (def_end ok no t e1).1 .non
    | rt r es' =>
      obtain ⟨r', er, h1⟩ := G.of (G.bind h.g)
      obtain ⟨c, e1, h2⟩ := G.of (G.bind h1)
      exact fun v σ' P' H' t rel => h2 v P' H' (def_end ok no t e1).1 (ret_end ok no t e1 rel er)
    | bk es' => exact False.elim h
    | ct es' => exact False.elim h
/-- THE RULE for a def that may raise: tk is what its calls and raises need -/
theorem fn_defX {P : Program} {w : World} {K : PySem.W.Frag} {mg : Str → Option Value} {base : Heap} {x qual : Str} {st : Stmt} {f : Addr} {fd : FuncData} {N ps : List Str} {k n : Nat} {g : Fs} (F : Fun K x qual st f fd) (S : FnScope N ps (defScope st)) (hn : ps.length = n)
    (hbody : ∀ (cdv : Value) (A : Around) (outer : List Env) (s : Shared) (H : Hp) (E : XK), Room k (A.deeper (envOfC qual (defScope st) s.heap.objs.size f cdv)) →
      Takes (cxOf (L2.CX P w) P w K mg base N qual (defScope st) f cdv A outer s H E) (wx E) → DSs (cxOf (L2.CX P w) P w K mg base N qual (defScope st) f cdv A outer s H E) ⟨wx E, none⟩ (defBody st) g) :
    FnOk P w K mg base (L2.CX P w) (k + 1) f fd ps (spD K n (mDef N.length g)) := by
  refine F.okX S (fun vs H Q E h => by rw [h.1, hn]) fun cdv A outer s H vs Q E hr ⟨hl, P', cs, ok, no, h⟩ => ?_
  exact ⟨_, hbody cdv A outer s H E hr (takes_of rfl rfl rfl rfl), def_fin ok no h⟩

/-! ### fields -/
def putFD (f : Str) (d : D) : List (Str × D) → List (Str × D)
  | [] => [(f, d)]
  | (g, x) :: r => if g = f then (g, d) :: r else (g, x) :: putFD f d r
section
variable {K : Kx} {P H : Hp}
theorem DnF.put {f : Str} {v : V} {d : D} (h : Dn K P v d) : ∀ {fs : List (Str × V)} {ds : List (Str × D)}, DnF K P fs ds → DnF K P (putF f v fs) (putFD f d ds)
  | _, _, .nil => .cons h .nil
  | _, _, .cons (k := k) q t => by
    unfold putF putFD
    split
    · exact .cons h t
    · exact .cons q (DnF.put h t)
theorem DnF.look {f : Str} {d : D} : ∀ {fs : List (Str × V)} {ds : List (Str × D)}, DnF K P fs ds → ds.lookup f = some d → ∃ v, fs.lookup f = some v ∧ Dn K P v d
  | _, _, .nil, e => by cases e
  | _, _, .cons (k := k) (v := v) q t, e => by
    rw [List.lookup_cons] at e
    rw [List.lookup_cons]
    cases hk : f == k with
    | true =>
      rw [hk] at e
      cases e
      exact ⟨v, rfl, q⟩
    | false =>
      rw [hk] at e
      exact DnF.look t e
theorem DnF.none {f : Str} : ∀ {fs : List (Str × V)} {ds : List (Str × D)}, DnF K P fs ds → ds.lookup f = Option.none → fs.lookup f = Option.none
  | _, _, .nil, _ => rfl
  | _, _, .cons (k := k) q t, e => by
    rw [List.lookup_cons] at e ⊢
    cases hk : f == k with
    | true => rw [hk] at e; cases e
    | false => rw [hk] at e; exact DnF.none t e
theorem DnF.len : ∀ {fs : List (Str × V)} {ds : List (Str × D)}, DnF K P fs ds → fs.length = ds.length
  | _, _, .nil => rfl
  | _, _, .cons _ t => by rw [List.length_cons, List.length_cons, DnF.len t]
theorem bw_ins {v : V} {c : Str} {ds : List (Str × D)} (s : Same P H) (h : Bw K P H v (.ins c ds)) : ∃ a C dx fs, v = .ref a ∧ H a = some (.ins C dx fs) ∧ ClsAt K.K c C ∧ DnF K P fs ds := by
  cases h with
  | dn h => cases h with | ins h k t => exact ⟨_, _, _, _, rfl, s _ _ h, k, t⟩
  | ow h =>
    obtain ⟨_, C, dx, fs, e, k, t⟩ := h
    exact ⟨_, C, dx, fs, rfl, e, k, t⟩
end
/-- what a class must say, so that its instances' fields are plain -/
structure ClsF (K : PySem.W.Frag) (c : Str) (ns : List Str) : Prop where
  ok : ∃ C, ClsAt K c C ∧ Cls K C ∧ ∀ f ∈ ns, NoAttr K C f
/-- o.f; cs: the classes that o may be of -/
def fFld (cs : List Str) (nm : Str) (f : Fe) : Fe := fun es => (f es).bind fun p => match rdR p.2 p.1 with
  | some (.ins c ds) => if c ∈ cs then (Rs.of (ds.lookup nm)).bind fun d => .ok (.sh d, p.2) else .st
  | _ => .st
theorem de_fld {X : Cx} {E : We} {e : Expr} {nm : Str} {cs : List Str} {f : Fe} {pos : Pos} (he : DE X E e f) (hc : ∀ c ∈ cs, ∃ ns, ClsF X.K c ns ∧ nm ∈ ns) (hb : attributeBase e nm X.env (eval e X.env) = eval e X.env := by rfl) :
    DE X E (.Attribute e nm pos) (fFld cs nm f) := by
  refine pe_imp (pe_fld he hb) fun σ H Q ⟨P, es, ok, h⟩ => tD_mono (tD_g (.refl ok) (G.bind h.g)) fun v H1 ⟨r, es1, P1, g1, _, rel1, q1⟩ => ?_
  simp only at q1
  split at q1
  · rename_i c ds e1
    split at q1
    · rename_i hcm
      obtain ⟨d, e2, q2⟩ := G.of (G.bind q1)
      obtain ⟨a, C, dx, fs, rfl, h1, h2, h3⟩ := bw_ins g1.ok.sub (rel1.bw g1.ok e1)
      obtain ⟨w, h4, h5⟩ := h3.look e2
      obtain ⟨ns, ⟨C', k1, k2, k3⟩, k4⟩ := hc c hcm
      obtain rfl := h2.one k1
      exact ⟨a, C, dx, fs, w, rfl, h1, k2, k3 nm k4, h4, q2 w P1 H1 g1 h5⟩
    · exact False.elim q1
  · exact False.elim q1
/-- x.f = e: x an instance that its slot alone holds -/
def gFld (i : Nat) (cs : List Str) (nm : Str) (f : Fe) : Fs := fun es => (f es).bind fun p => (Rs.of (toSh p.1 p.2)).bind fun q => match ownAt q.2 i with
  | some (.ins c ds) => if c ∈ cs ∧ ds.length < 1000 then .ok (.nx (setC q.2 i (.ins c (putFD nm q.1 ds)))) else .st
  | _ => .st
theorem ds_fld {X : Cx} {E : We} {o e : Expr} {i : Nat} {nm : Str} {cs : List Str} {f : Fe} {pos p' : Pos} (ho : PE X o (tVar i)) (he : DE X E e f) (hc : ∀ c ∈ cs, ∃ ns, ClsF X.K c ns ∧ nm ∈ ns) (hs : swapsWith e (some (.Attribute o nm p')) pos.line X.env = pure false := by rfl) :
    DS X E (.Assign [.Attribute o nm p'] e pos) (gFld i cs nm f) := by
  refine ps_imp (ps_fld ho he hs) fun D σ H ⟨P, es, ok, h⟩ => tD_ms (tD_s (.refl ok) (GS.bind h)) fun v H1 ⟨r, es1, P1, g1, _, rel, q⟩ => ?_
  obtain ⟨s, e1, q1⟩ := GS.of (GS.bind q)
  obtain ⟨P2, g2, dn, _⟩ := toSh_s g1 rel e1
  split at q1
  · rename_i c ds eo
    split at q1
    · rename_i hcm
      obtain ⟨a, h1, _, C, dx, fs, h2, h3, h4⟩ := g2.ok.ow i _ eo
      obtain ⟨ns, ⟨C', k1, k2, k3⟩, k4⟩ := hc c hcm.1
      obtain rfl := h3.one k1
      exact ⟨.ref a, h1, a, C, dx, fs, rfl, h2, k2, k3 nm k4, by rw [h4.len]; exact hcm.2, q1 σ P2 _ (g2.setC eo h1 ⟨C, dx, _, rfl, h3, h4.put dn⟩)⟩
    · exact False.elim q1
  · exact False.elim q1
end DL

/-! DL, part 13: instances are made. -/
namespace DL
open PySem PySem.Spec L2
open PyProof.Rows hiding St
set_option autoImplicit false

/-! ### C(..) with what it raises, at the caller's slots -/
/-- the new instance and its dict -/
abbrev newH (H : Hp) (x dx C : Addr) : Hp := upd (upd H dx (.own x)) x (.ins C dx [])
def tMakeS (C : Addr) (sp : Sp) (dvs : List V) (E : St → XK) (t : TA) : TE := fun σ H Q => t σ H fun vs H1 => ∀ x dx, H1 x = none → H1 dx = none → dx ≠ x → sp (.ref x :: (vs ++ dvs)) (newH H1 x dx C) (fun v H2 => v = .non ∧ Q (.ref x) H2) (E σ)
section
variable {X : Cx} {CX : CXT} {k : Nat} {f C : Addr} {fd : FuncData} {ps : List Str} {sp : Sp} {dvs : List V} {ds : List Value} {E : St → XK} {x : Str} {p pos : Pos} {e : Expr} {es : List Expr} {t : TA}
theorem made_run {pins : List (Addr × Obj)} {σ : St} {H : Hp} {s : Shared} {Q : VK} {us : List Value} {vs : List V} (M : Mk X.K C f) (F : FnOk X.prog X.w X.K X.mg X.base CX k f fd ps sp) (hr : Room (k + 1) X.A)
    (hb : Binds X.K fd ps ds) (hd : Vals dvs ds) (hx : PassesAt CX X σ (E σ)) (I : Inv X pins σ H s) (r : Vals vs us)
    (h : ∀ x dx, H x = none → H dx = none → dx ≠ x → sp (.ref x :: (vs ++ dvs)) (newH H x dx C) (fun v H2 => v = .non ∧ Q (.ref x) H2) (E σ)) :
    wpAny (model X.prog X.w) X.A (call (.ref C) us) (EP X pins σ Q) X.xe s := by
  -- the two addresses behind the heap's end
  have J := Inv.made (C := C) I
  have start := h (s.heap.objs.size + 1) s.heap.objs.size (I.hok.fresh (Nat.le_succ _)) (I.hok.fresh (Nat.le_refl _)) (Nat.ne_of_lt (Nat.lt_succ_self _))
  have args : Vals (V.ref (s.heap.objs.size + 1) :: (vs ++ dvs)) (Value.ref (s.heap.objs.size + 1) :: (us ++ ds)) := .cons rfl (r.append hd)
  have cnt : (Value.ref (s.heap.objs.size + 1) :: us ++ ds).length = ps.length := (F.len _ _ _ _ start) ▸ args.length.symm
  have body := F.run _ X.stack _ _ ⟨Value.ref (s.heap.objs.size + 1) :: us, []⟩ (Value.ref (s.heap.objs.size + 1) :: (us ++ ds)) _ _ (E σ) (hr.make C us []) (J.env0.make C us [])
    (hb _ (Value.ref (s.heap.objs.size + 1) :: us) J.kIn cnt) args start
  refine wpAny_call (make_map (f := f) I.kIn M.makes M.init (beq_iff_eq.mp M.fn) (codeAny_mono body ?_))
  intro res s' out
  match res, out with
  | .error u, out => exact hx pins _ _ u s' J out
  | .ok (.ret u), out =>
    obtain ⟨v, H', K', rv, ev, fin⟩ := J.after out
    subst ev
    exact ⟨rv, V.ref (s.heap.objs.size + 1), H', K', rfl, fin⟩
  | .ok .next, out => exact out.elim
  | .ok .brk, out => exact out.elim
  | .ok .cont, out => exact out.elim
theorem pe_makeS (M : Mk X.K C f) (F : FnOk X.prog X.w X.K X.mg X.base CX k f fd ps sp) (hr : Room (k + 1) X.A) (hg : Gl X x) (hm : X.mg x = some (.ref C)) (hb : Binds X.K fd ps ds) (hd : Vals dvs ds) (hx : ∀ σ, PassesAt CX X σ (E σ))
    (ha : PA X (e :: es) t) (hdb : (x == ("__debug__" : Str)) = false := by decide) (he : starEach (e :: es) X.env = (false, eval e X.env) :: starEach es X.env := by rfl) (hpl : (backTo pos (starEach es X.env)).any (·.1) = false := by rfl) :
    PE X (.Call (.Name x p) (e :: es) [] pos) (tMakeS C sp dvs E t) :=
  ⟨fun pins s σ H Q I h => wpAny_Call_Name_kw (ld_glob I hg hm (PySem.W.callWith_K (h₀ := X.base) I.ok.mod.kin M.kp (thn (ha.run pos pins s σ H _ I h) fun us s1 ⟨vs, H1, I1, r, q⟩ => ⟨I1.kIn, made_run M F hr hb hd (hx σ) I1 r q⟩) he hpl) hdb)⟩
end
/-! ### the new instance as the first slot -/
section
variable {K : Kx} {σ : St} {es es' : Ev} {P H P' H' : Hp} {x dx C : Addr} {c : Str}
theorem new_env (ok : EnvOk K P H σ es) (no : NoOw es) (hx : H x = none) (hd : H dx = none) (ne : dx ≠ x) (hc : ClsAt K.K c C) : EnvOk K P (newH H x dx C) (some (.ref x) :: σ) (some (.io (.ins c [])) :: es) ∧ NoOw (some (.io (.ins c [])) :: es) := by
  have px : P x = none := by
    cases e : P x with
    | none => rfl
    | some o => rw [ok.sub x o e] at hx; cases hx
  have keep : ∀ b o, H b = some o → newH H x dx C b = some o := fun b o e => by
    have n1 : b ≠ x := fun z => by rw [z, hx] at e; cases e
    have n2 : b ≠ dx := fun z => by rw [z, hd] at e; cases e
    unfold newH
    rw [upd_ne n1, upd_ne n2]; exact e
  have old : ∀ i d a, ownAt es i = some d → σ[i]? = some (some (.ref a)) → a ≠ x := fun i d a h1 h2 z => by
    obtain ⟨b, q1, q2⟩ := ok.ow i d h1
    rw [h2] at q1; cases q1
    obtain ⟨o, ho⟩ := q2.tracked
    rw [z, hx] at ho; cases ho
  refine ⟨⟨by simp [ok.len], fun b o e => keep b o (ok.sub b o e), fun i d h => ?_, fun i d h => ?_, fun i j d d' a hij h1 h2 h3 h4 => ?_⟩, fun i d h => ?_⟩
  · cases i with
    | zero => simp at h
    | succ i => exact ok.sh i d (by simpa using h)
  · cases i with
    | zero =>
      have : D.ins c [] = d := by unfold ownAt at h; simpa using h
      subst this
      exact ⟨x, rfl, px, C, dx, [], by unfold newH; rw [upd_same], hc, .nil⟩
    | succ i =>
      obtain ⟨a, q1, q2⟩ := ok.ow i d h
      exact ⟨a, by simpa using q1, q2.move (Same.refl _) q2.1 fun o e => keep a o e⟩
  · cases i with
    | zero =>
      cases j with
      | zero => exact hij rfl
      | succ j =>
        have h3 : x = a := by simpa using h3
        exact old j d' a h2 (by simpa using h4) h3.symm
    | succ i =>
      cases j with
      | zero =>
        have h4 : x = a := by simpa using h4
        exact old i d a h1 (by simpa using h3) h4.symm
      | succ j => exact ok.apart i j d d' a (by omega) h1 h2 (by simpa using h3) (by simpa using h4)
  · cases i with
    | zero => simp at h
    | succ i => exact no i d (by simpa using h)
theorem new_back {s' : Option Sl} (g : GoE K (some (.ref x) :: σ) (some (.io (.ins c [])) :: es) P (newH H x dx C) (s' :: es') P' H') (hx : H x = none) (hd : H dx = none) : GoE K σ es P H es' P' H' := by
  have keep : ∀ b o, H b = some o → newH H x dx C b = some o := fun b o e => by
    have n1 : b ≠ x := fun z => by rw [z, hx] at e; cases e
    have n2 : b ≠ dx := fun z => by rw [z, hd] at e; cases e
    unfold newH
    rw [upd_ne n1, upd_ne n2]; exact e
  have own : ∀ a, Own (some (.ref x) :: σ) (some (.io (.ins c [])) :: es) a → a = x ∨ Own σ es a := fun a ⟨i, d, h1, h2⟩ => by
    cases i with
    | zero => exact .inl (by have : x = a := by simpa using h2
                             exact this.symm)
    | succ i => exact .inr ⟨i, d, h1, by simpa using h2⟩
  refine ⟨⟨g.st.pp, fun a o e => ?_, fun a o n e => ?_, fun a o e => g.st.there a o (keep a o e)⟩, ⟨?_, g.ok.sub, fun i d h => ?_, fun i d h => ?_, fun i j d d' a hij h1 h2 h3 h4 => ?_⟩, fun i d h => ?_, fun i d h => ?_⟩
  · rcases g.st.new a o e with q | q | q
    · exact .inl q
    · refine .inr (.inl ?_)
      cases e2 : H a with
      | none => rfl
      | some u => rw [keep a u e2] at q; cases q
    · rcases own a q with z | z
      · exact .inr (.inl (by rw [z]; exact hx))
      · exact .inr (.inr z)
  · refine g.st.keep a o (fun z => ?_) (keep a o e)
    rcases own a z with q | q
    · rw [q, hx] at e; cases e
    · exact n q
  · have := g.ok.len
    simpa using this
  · obtain ⟨v, q1, q2⟩ := g.ok.sh (i + 1) d (by simpa using h)
    exact ⟨v, by simpa using q1, q2⟩
  · obtain ⟨a, q1, q2⟩ := g.ok.ow (i + 1) d h
    exact ⟨a, by simpa using q1, q2⟩
  · exact g.ok.apart (i + 1) (j + 1) d d' a (by omega) h1 h2 (by simpa using h3) (by simpa using h4)
  · exact g.le (i + 1) d h
  · obtain ⟨d', q⟩ := g.io (i + 1) d (by simpa using h)
    exact ⟨d', by simpa using q⟩
/-- what __init__ has left of the new instance -/
theorem new_first {d : D} (g : GoE K (some (.ref x) :: σ) (some (.io (.ins c [])) :: es) P (newH H x dx C) (some (.io d) :: es') P' H') (hx : H x = none) : OwnOk K P' H' x d ∧ ¬ Own σ es' x := by
  obtain ⟨a, q1, q2⟩ := g.ok.ow 0 d rfl
  have e : x = a := by simpa using q1
  subst e
  refine ⟨q2, fun ⟨i, d', h1, h2⟩ => ?_⟩
  exact g.ok.apart 0 (i + 1) d d' x (by omega) rfl h1 rfl (by simpa using h2)
end
theorem fArgs_len : ∀ {fs : List (Bool × Fe)} {es : Ev} {p : List Ag × Ev}, fArgs fs es = .ok p → p.1.length = fs.length := by
  intro fs
  induction fs with
  | nil => intro es p h; cases h; rfl
  | cons a r ih =>
    intro es p h
    obtain ⟨b, f⟩ := a
    cases b with
    | false =>
      unfold fArgs at h
      cases e1 : f es with
      | ok q =>
        rw [e1] at h
        simp only [Rs.bind_ok] at h
        cases e2 : toSh q.1 q.2 with
        | none => rw [e2] at h; cases h
        | some t =>
          rw [e2] at h
          simp only [Rs.of_some, Rs.bind_ok] at h
          cases e3 : fArgs r t.2 with
          | ok u => rw [e3] at h; cases h; simp [ih e3]
          | ex => rw [e3] at h; cases h
          | st => rw [e3] at h; cases h
      | ex => rw [e1] at h; cases h
      | st => rw [e1] at h; cases h
    | true =>
      unfold fArgs at h
      cases e1 : f es with
      | ok q =>
        rw [e1] at h
        simp only [Rs.bind_ok] at h
        split at h
        · cases e3 : fArgs r q.2 with
          | ok u => rw [e3] at h; cases h; simp [ih e3]
          | ex => rw [e3] at h; cases h
          | st => rw [e3] at h; cases h
        · cases h
      | ex => rw [e1] at h; cases h
      | st => rw [e1] at h; cases h
def fMake (c : Str) (m : Fe) (fs : List (Bool × Fe)) (dfs : List D) : Fe := fun es => (fArgs fs es).bind fun p =>
  if (ioIx p.1).Nodup then (Rs.of (toEv p.2 (p.1 ++ dfs.map .sh))).bind fun cs => match m (some (.io (.ins c [])) :: cs) with
    | .ok (.sh .non, some (.io d) :: cs') => (Rs.of (wb p.2 (p.1 ++ dfs.map .sh) cs')).bind fun es' => .ok (.fr d, es')
    | .ok _ => .st
    | .ex x (_ :: cs') => (Rs.of (wb p.2 (p.1 ++ dfs.map .sh) cs')).bind fun es' => .ex x es'
    | .ex _ [] => .st
    | .st => .st
  else .st
theorem ioIx_dfs' (as : List Ag) (dfs : List D) : ioIx (as ++ dfs.map .sh) = ioIx as := ioIx_dfs as dfs
theorem de_make {X : Cx} {we : WX} {CX : CXT} {k : Nat} {f C : Addr} {fd : FuncData} {ps : List Str} {m : Fe} {x c : Str} {p pos : Pos} {e : Expr} {es : List Expr} {fs : List (Bool × Fe)} {n : Nat} {dvs : List V} {ds : List Value} {dfs : List D}
    (M : Mk X.K C f) (hC : ClsAt X.K c C) (F : FnOk X.prog X.w X.K X.mg X.base CX k f fd ps (spD X.K (n + 1) m)) (hr : Room (k + 1) X.A) (hg : Gl X x) (hm : X.mg x = some (.ref C)) (hb : Binds X.K fd ps ds) (hv : Vals dvs ds) (hd : DfOk ⟨X.K, none⟩ dvs dfs)
    (hx : ∀ σ, PassesAt CX X σ (WE we σ)) (ha : DAs X ⟨we, none⟩ (e :: es) fs) (hn : fs.length + dvs.length = n := by rfl) (hdb : (x == ("__debug__" : Str)) = false := by decide)
    (he : starEach (e :: es) X.env = (false, eval e X.env) :: starEach es X.env := by rfl) (hpl : (backTo pos (starEach es X.env)).any (·.1) = false := by rfl) :
    DE X ⟨we, none⟩ (.Call (.Name x p) (e :: es) [] pos) (fMake c m fs dfs) := by
  refine pe_imp (pe_makeS M F hr hg hm hb hv hx (das_pa ha) hdb he hpl) fun σ H Q ⟨P, es, ok, h⟩ => ?_
  refine ⟨P, es, ok, ?_⟩
  unfold fMake at h
  have flen : ∀ {fs : List (Bool × Fe)} {es : Ev} {p : List Ag × Ev}, fArgs fs es = .ok p → p.1.length = fs.length := fArgs_len
  cases e0 : fArgs fs es with
  | ex x' es' => rw [e0] at h; exact h
  | st => rw [e0] at h; exact h
  | ok p =>
    rw [e0] at h
    have hp := flen e0
    intro vs P1 H1 g rel z dz hz hdz hne
    simp only [Rs.bind_ok] at h
    split at h
    · rename_i nd
      obtain ⟨cs, e1, h1⟩ := G.of (G.bind h.g)
      have rel' := rel.dfs (hd P1)
      have nd' : (ioIx (p.1 ++ dfs.map .sh)).Nodup := by rw [ioIx_dfs]; exact nd
      obtain ⟨ok1, no⟩ := call_env g.ok rel' nd' e1
      obtain ⟨ok2, no2⟩ := new_env ok1 no hz hdz hne hC
      refine ⟨by rw [List.length_cons, List.length_append, rel.length, hp]; omega, P1, _, ok2, no2, ?_⟩
      cases e2 : m (some (.io (.ins c [])) :: cs) with
      | st => rw [e2] at h1; exact h1.elim
      | ex x' cs' =>
        rw [e2] at h1
        cases cs' with
        | nil => exact h1.elim
        | cons s0 cs' =>
          obtain ⟨es', w, h2⟩ := G.of (G.bind h1)
          intro P' H' cls od c' xr
          obtain ⟨g', _⟩ := call_back g rel' nd' e1 (new_back c' hz hdz) w
          exact h2 P' H' cls od g' xr
      | ok q =>
        rw [e2] at h1
        obtain ⟨r, cs'⟩ := q
        split at h1
        · rename_i d cs' heq
          cases heq
          obtain ⟨es', w, h2⟩ := G.of (G.bind h1)
          intro v P' H' c' rr
          obtain ⟨g', tr⟩ := call_back g rel' nd' e1 (new_back c' hz hdz) w
          obtain ⟨o1, o2⟩ := new_first c' hz
          cases rr
          refine ⟨rfl, h2 _ P' H' g' ⟨z, rfl, o1, fun q => ?_, g.st.free hz⟩⟩
          obtain ⟨o, ho⟩ := tr z q
          rw [hz] at ho; cases ho
        · exact h1.elim
        · rename_i heq; cases heq
        · rename_i heq; cases heq
        · rename_i heq; cases heq
    · exact h.elim
end DL

/-! DL, part 14: raise and try. -/
namespace DL
open PySem PySem.Spec L2
open PyProof.Rows hiding St
set_option autoImplicit false

/-! ### data without an exception in it mean the same everywhere -/
mutual
def xf : D → Bool
  | .lst ds => xfA ds
  | .rl ds => xfA ds
  | .tup ds => xfA ds
  | .pt ds => xfA ds
  | .dk kvs => xfK kvs
  | .ins _ fs => xfF fs
  | .xc _ _ => false
  | _ => true
def xfA : List D → Bool
  | [] => true
  | d :: r => xf d && xfA r
def xfK : List (Key × D) → Bool
  | [] => true
  | (_, d) :: r => xf d && xfK r
def xfF : List (Str × D) → Bool
  | [] => true
  | (_, d) :: r => xf d && xfF r
end
section
variable {K : PySem.W.Frag} {x y : Option (Addr × Addr × Addr)} {P H : Hp}
mutual
theorem Dn.kx : ∀ {v : V} {d : D}, Dn ⟨K, x⟩ P v d → (x = none ∨ xf d = true) → Dn ⟨K, y⟩ P v d
  | _, _, .non, _ => .non
  | _, _, .bl b, _ => .bl b
  | _, _, .int i, _ => .int i
  | _, _, .str z, _ => .str z
  | _, _, .ty n, _ => .ty n
  | _, _, .lst h z t, q => .lst h z (DnA.kx t q)
  | _, _, .rl h z t, q => .rl h z (DnA.kx t q)
  | _, _, .tup h z t, q => .tup h z (DnA.kx t q)
  | _, _, .pt h z t p, q => .pt h z (DnA.kx t q) p
  | _, _, .dk h z t, q => .dk h z (DnK.kx t q)
  | _, _, .ins h k t, q => .ins h k (DnF.kx t q)
  | _, _, .cls k, _ => .cls k
  | _, _, .xc h _ _ _, q => by
    rcases q with q | q
    · subst q; cases h
    · exact absurd (show false = true from q) Bool.false_ne_true
theorem DnA.kx : ∀ {vs : List V} {ds : List D}, DnA ⟨K, x⟩ P vs ds → (x = none ∨ xfA ds = true) → DnA ⟨K, y⟩ P vs ds
  | _, _, .nil, _ => .nil
  | _, _, .cons (d := d) (ds := ds) h t, q => .cons (Dn.kx h (q.imp_right fun z => (Bool.and_eq_true_iff.mp (show (xf d && xfA ds) = true from z)).1)) (DnA.kx t (q.imp_right fun z => (Bool.and_eq_true_iff.mp (show (xf d && xfA ds) = true from z)).2))
theorem DnK.kx : ∀ {vs : List (Key × V)} {ds : List (Key × D)}, DnK ⟨K, x⟩ P vs ds → (x = none ∨ xfK ds = true) → DnK ⟨K, y⟩ P vs ds
  | _, _, .nil, _ => .nil
  | _, _, .cons (d := d) (ds := ds) h t, q => .cons (Dn.kx h (q.imp_right fun z => (Bool.and_eq_true_iff.mp (show (xf d && xfK ds) = true from z)).1)) (DnK.kx t (q.imp_right fun z => (Bool.and_eq_true_iff.mp (show (xf d && xfK ds) = true from z)).2))
theorem DnF.kx : ∀ {vs : List (Str × V)} {ds : List (Str × D)}, DnF ⟨K, x⟩ P vs ds → (x = none ∨ xfF ds = true) → DnF ⟨K, y⟩ P vs ds
  | _, _, .nil, _ => .nil
  | _, _, .cons (d := d) (ds := ds) h t, q => .cons (Dn.kx h (q.imp_right fun z => (Bool.and_eq_true_iff.mp (show (xf d && xfF ds) = true from z)).1)) (DnF.kx t (q.imp_right fun z => (Bool.and_eq_true_iff.mp (show (xf d && xfF ds) = true from z)).2))
end
theorem OwnOk.kx {a : Addr} {d : D} (h : OwnOk ⟨K, x⟩ P H a d) (q : x = none ∨ xf d = true) : OwnOk ⟨K, y⟩ P H a d := by
  obtain ⟨h0, h⟩ := h
  refine ⟨h0, ?_⟩
  cases d with
  | lst ds => obtain ⟨xs, e, z, t⟩ := h; exact ⟨xs, e, z, t.kx q⟩
  | dk ds => obtain ⟨xs, e, z, t⟩ := h; exact ⟨xs, e, z, t.kx q⟩
  | ins c ds => obtain ⟨C, dx, fs, e, k, t⟩ := h; exact ⟨C, dx, fs, e, k, t.kx q⟩
  | _ => exact False.elim h
def xfS : Option Sl → Bool
  | some (.sh d) => xf d
  | some (.ow d) => xf d
  | some (.io d) => xf d
  | none => true
def xfE (es : Ev) : Bool := es.all xfS
theorem xfE_get {es : Ev} {i : Nat} {s : Sl} (h : xfE es = true) (e : es[i]? = some (some s)) : xfS (some s) = true := List.all_eq_true.mp h _ (List.mem_of_getElem? e)
theorem EnvOk.kx {σ : St} {es : Ev} (ok : EnvOk ⟨K, x⟩ P H σ es) (q : x = none ∨ xfE es = true) : EnvOk ⟨K, y⟩ P H σ es where
  len := ok.len
  sub := ok.sub
  sh := fun i d e => by
    obtain ⟨v, h1, h2⟩ := ok.sh i d e
    exact ⟨v, h1, h2.kx (q.imp_right fun z => xfE_get z e)⟩
  ow := fun i d e => by
    obtain ⟨a, h1, h2⟩ := ok.ow i d e
    refine ⟨a, h1, h2.kx (q.imp_right fun z => ?_)⟩
    unfold ownAt at e
    split at e
    · rename_i y h; cases e; exact xfE_get z h
    · rename_i y h; cases e; exact xfE_get z h
    · cases e
  apart := ok.apart
theorem GoS.kx {σ σ1 : St} {es es1 : Ev} {P1 H1 : Hp} (g : GoS ⟨K, x⟩ σ es P H σ1 es1 P1 H1) (q : x = none ∨ xfE es1 = true) : GoS ⟨K, y⟩ σ es P H σ1 es1 P1 H1 := ⟨g.st, g.ok.kx q, g.le, g.io⟩
end
/-- a slot is emptied -/
theorem GoS.wipe {K : Kx} {σ σ1 : St} {es es1 : Ev} {P H P1 H1 : Hp} {i : Nat} (g : GoS K σ es P H σ1 es1 P1 H1) (no : isIo es1 i = false) : GoS K σ es P H (σ1.set i none) (es1.set i none) P1 H1 := by
  have ow : ∀ j x, ownAt (es1.set i none) j = some x → j ≠ i ∧ ownAt es1 j = some x := fun j x h => by
    rcases ownAt_set h with ⟨_, q | q⟩ | q
    · cases q
    · cases q
    · exact q
  have st : ∀ j, j ≠ i → (σ1.set i none)[j]? = σ1[j]? := fun j h => List.getElem?_set_ne (Ne.symm h)
  refine ⟨g.st, ⟨by rw [List.length_set, List.length_set]; exact g.ok.len, g.ok.sub, fun j d h => ?_, fun j d h => ?_, fun j k x y b hjk h1 h2 h3 h4 => ?_⟩, fun b ⟨j, x, h1, h2⟩ => ?_, fun j d h => ?_⟩
  · have hj : i ≠ j := fun z => by
      subst z
      by_cases hl : i < es1.length
      · rw [List.getElem?_set_self hl] at h; cases h
      · rw [List.getElem?_eq_none (by simpa using hl)] at h; cases h
    rw [List.getElem?_set_ne hj] at h
    obtain ⟨v, q1, q2⟩ := g.ok.sh j d h
    exact ⟨v, by rw [st j (Ne.symm hj)]; exact q1, q2⟩
  · obtain ⟨hj, e⟩ := ow j d h
    obtain ⟨a, q1, q2⟩ := g.ok.ow j d e
    exact ⟨a, by rw [st j hj]; exact q1, q2⟩
  · obtain ⟨hj, e1⟩ := ow j x h1
    obtain ⟨hk, e2⟩ := ow k y h2
    exact g.ok.apart j k x y b hjk e1 e2 (by rw [← st j hj]; exact h3) (by rw [← st k hk]; exact h4)
  · obtain ⟨hj, e1⟩ := ow j x h1
    exact g.le b ⟨j, x, e1, by rw [← st j hj]; exact h2⟩
  · obtain ⟨⟨d', q1⟩, q2⟩ := g.io j d h
    have hj : i ≠ j := fun z => by subst z; exact isIo_no no q1
    exact ⟨⟨d', by rw [List.getElem?_set_ne hj]; exact q1⟩, by rw [List.getElem?_set_ne hj]; exact q2⟩

/-! ### an own exception of one field -/
/-- its __init__: self.f = the argument -/
def spXi (C : Addr) (f : Str) : Sp := fun vs H Q _ => ∃ a v, vs = [.ref a, v] ∧ H a = some (exo a C none) ∧ ∀ dx, H dx = none → dx ≠ a → Q .non (upd (upd H dx (exd dx [(f, v)])) a (exo a C (some dx)))
theorem xinit1 {P : Program} {w : World} {K : PySem.W.Frag} {mg : Str → Option Value} {base : Heap} {x qual p : Str} {st s1 : Stmt} {fa C : Addr} {fd : FuncData} {f : Str} (F : Fun K x qual st fa fd) (S : FnScope ["self", p] ["self", p] (defScope st)) (T : OexC K C) (hno : PySem.W.findIn K (.ref C) f = some none)
    (hb : ∀ (cdv : Value) (A : Around) (outer : List Env) (s : Shared) (H : Hp) (E : XK), PSs (cxOf CX0 P w K mg base ["self", p] qual (defScope st) fa cdv A outer s H E).nox (defBody st) (tOst K f (tVar 0) (tVar 1))) :
    FnOk P w K mg base CX0 1 fa fd ["self", p] (spXi C f) := by
  refine F.ok S (fun vs H Q E ⟨a, v, e, _⟩ => by rw [e]; rfl) fun cdv A outer s H vs Q E hr ⟨a, v, e, h1, h2⟩ => ?_
  subst e
  exact ⟨_, hb cdv A outer s H E, v, rfl, .ref a, rfl, a, C, rfl, T, hno, .inl ⟨h1, fun dx n ne => h2 dx n ne⟩⟩
/-- what raising an own exception of one field needs -/
structure Xcl (P : Program) (w : World) (K : PySem.W.Frag) (mg : Str → Option Value) (base : Heap) (c f : Str) : Prop where
  ok : ∃ (C fI : Addr) (fd : FuncData) (p : Str), mg c = some (.ref C) ∧ ClsAt K c C ∧ OexC K C ∧ PySem.W.findIn K (.ref C) "__init__" = some (some (.ref fI)) ∧ PySem.W.typeIn K (.ref fI) = some (.type "function") ∧ FnOk P w K mg base CX0 1 fI fd ["self", p] (spXi C f) ∧ Binds K fd ["self", p] []
def gRaise (c f : Str) (fe : Fe) : Fs := fun es => (fe es).bind fun p => (Rs.of (toSh p.1 p.2)).bind fun q => .ex (.own c [(f, q.1)]) q.2
theorem ds_raise {X : Cx} {we : WX} {c f : Str} {e : Expr} {fe : Fe} {p pos rpos : Pos} (hc : X.calm = true) (tk : Takes X we) (T : Xcl X.prog X.w X.K X.mg X.base c f) (hr : Room 2 X.A) (hg : Gl X c) (he : DE X ⟨we, none⟩ e fe) (hdb : (c == ("__debug__" : Str)) = false := by decide)
    (hs : starEach [e] X.env = (false, eval e X.env) :: starEach [] X.env := by rfl) (hpl : (backTo pos (starEach [] X.env)).any (·.1) = false := by rfl) :
    DS X ⟨we, none⟩ (.Raise (some (.Call (.Name c p) [e] [] pos)) none rpos) (gRaise c f fe) := by
  obtain ⟨C, fI, fd, pn, hm, hC, T, iC, tI, F, hb⟩ := T.ok
  refine ps_imp (ps_raise hc tk (pmk_oex T iC tI F hr hb .nil (fun _ _ _ _ _ _ _ z => z.elim) hg hm (pa_cons he pa_nil hs) hdb hs hpl)) fun D σ H ⟨P, es, ok, h⟩ => tD_ms (tD_s (.refl ok) (GS.bind h)) fun v H1 ⟨r, es1, P1, g1, _, rel, q⟩ => ?_
  obtain ⟨s, e1, q1⟩ := GS.of (GS.bind q)
  obtain ⟨P2, g2, dn, _⟩ := toSh_s g1 rel e1
  refine ⟨by show 1 ≤ 1000; omega, fun a ha => ⟨a, v, rfl, upd_same, fun dx n ne => ?_⟩⟩
  have hd1 : H1 dx = none := by rw [upd_ne ne] at n; exact n
  refine ⟨rfl, dx, [(f, v)], upd_same, ?_, hd1, ?_⟩
  · rw [upd_ne ne, upd_same]
  · have eH : upd (del (upd (upd (upd H1 a (exo a C none)) dx (exd dx [(f, v)])) a (exo a C (some dx))) a) dx (.xd [(f, v)]) = upd H1 dx (.xd [(f, v)]) := by
      funext b
      by_cases hb : b = dx
      · subst hb; rw [upd_same, upd_same]
      · rw [upd_ne hb, upd_ne hb]
        by_cases hb2 : b = a
        · subst hb2; rw [del_same]; exact ha.symm
        · rw [del_ne hb2, upd_ne hb2, upd_ne hb, upd_ne hb2]
    rw [eH]
    have g3 : GoS ⟨X.K, none⟩ σ es P H σ s.2 (upd P2 dx (.xd [(f, v)])) (upd H1 dx (.xd [(f, v)])) := g2.allocP hd1
    exact q1 σ _ _ (.ref C) (some dx) g3 ⟨C, hC, rfl, .inr ⟨dx, [(f, v)], rfl, upd_same, .cons (dn.mono (same_updP g2.ok.sub hd1)) .nil⟩⟩
end DL

/-! DL, part 15: try: body, except C as n: suite. -/
namespace DL
open PySem PySem.Spec L2
open PyProof.Rows hiding St
set_option autoImplicit false

/-- behind the suite -/
def outT (i : Nat) : Ot → Rs Ot
  | .nx e => if isIo e i = false ∧ xfE (e.set i none) = true then .ok (.nx (e.set i none)) else .st
  | .bk e => if isIo e i = false ∧ xfE (e.set i none) = true then .ok (.bk (e.set i none)) else .st
  | .ct e => if isIo e i = false ∧ xfE (e.set i none) = true then .ok (.ct (e.set i none)) else .st
  | .rt (.sh d) e => if isIo e i = false ∧ xfE (e.set i none) = true ∧ xf d = true then .ok (.rt (.sh d) (e.set i none)) else .st
  | .rt (.fr d) e => if isIo e i = false ∧ xfE (e.set i none) = true ∧ xf d = true then .ok (.rt (.fr d) (e.set i none)) else .st
  | .rt (.ow _) _ => .st
/-- sub: is the class one that the clause takes -/
def gTry (i : Nat) (sub : Str → Option Bool) (g gs : Fs) : Fs := fun es => match g es with
  | .ok o => .ok o
  | .st => .st
  | .ex (.bi _) _ => .st
  | .ex (.own c fs) es1 => match sub c with
    | some true => if fs ≠ [] ∧ isIo es1 i = false then (match gs (es1.set i (some (.sh (.xc c fs)))) with
      | .ok o => outT i o
      | _ => .st) else .st
    | some false => .ex (.own c fs) es1
    | none => .st
section
variable {K : PySem.W.Frag} {x : Option (Addr × Addr × Addr)} {σ σ1 : St} {es es1 : Ev} {P H P1 H1 : Hp}
theorem own_wiped {i : Nat} {a : Addr} (h : Own (σ1.set i none) (es1.set i none) a) : Own σ1 es1 a := by
  obtain ⟨j, d, h1, h2⟩ := h
  rcases ownAt_set h1 with ⟨_, q | q⟩ | ⟨hj, q⟩
  · cases q
  · cases q
  · exact ⟨j, d, q, by rw [List.getElem?_set_ne (Ne.symm hj)] at h2; exact h2⟩
end
theorem ds_try {X : Cx} {we : WX} {cn n : Str} {c : Value} {i : Nat} {body suite : List Stmt} {b₀ : Stmt} {np pos pos' : Pos} {sub : Str → Option Bool} {g gs : Fs} (hs : X.stack = X.env :: X.outer) (hf : X.env.frame = some X.env.locals) (hN : X.N.Nodup) (hi : X.N[i]? = some n) (hln : X.env.kindOf n = some .local)
    (hc : Names X cn c) (tk : Takes X we)
    (hsub : ∀ (c' : Str) (C' : Addr) (b : Bool), sub c' = some b → ClsAt X.K c' C' → PySem.W.exmOne X.K (.ref C') c = some b)
    (hb : ∀ (W : WX) (pn : List (Addr × Obj)) (xe : Value → Shared → Prop), Takes (X.tr pn xe) W → PassesOwn (model X.prog X.w) X.A X.env xe → DSs (X.tr pn xe) ⟨W, none⟩ body g)
    (hsu : ∀ (a dd C' : Addr) (oe : Obj) (pn : List (Addr × Obj)), Zc (.ref C') (some dd) oe → (∃ vs, oe.data = .fields vs) → DSs (X.suite a ((a, oe) :: pn)) ⟨W0, some (a, dd, C')⟩ (b₀ :: suite) gs) :
    DS X ⟨we, none⟩ (.Try body [.ExceptHandler (some (.Name cn np)) (some n) (b₀ :: suite) pos'] [] [] pos) (gTry i sub g gs) := by
  have rule := ps_try_as (i := i) (body := body) (suite := suite) (b₀ := b₀) (np := np) (pos := pos) (pos' := pos') (tb := fun W => tS ⟨X.K, none⟩ W g)
    (ts := fun a cls d => fun D σ H => ∃ dd C', d = some dd ∧ cls = .ref C' ∧ tS ⟨X.K, some (a, dd, C')⟩ W0 gs D σ H) hs hf hN hi hln hc tk hb (fun a oe cls d pn hz hv => ⟨fun pins s σ H D I ⟨dd, C', e1, e2, z⟩ => by
      subst e1; subst e2
      exact (hsu a dd C' oe pn hz hv).run pins s σ H D I z⟩)
  refine ps_imp rule fun D σ H ⟨P, es, ok, h⟩ => ⟨P, es, ok, ?_⟩
  unfold gTry at h
  cases e0 : g es with
  | st => rw [e0] at h; exact h
  | ok o => rw [e0] at h; exact h
  | ex xx es1 =>
    rw [e0] at h
    cases xx with
    | bi nm => exact h.elim
    | own c' fs =>
      simp only at h
      intro σ1 P1 H1 cls od g1 rel
      obtain ⟨C', hC', ecls, hfs⟩ := id rel
      subst ecls
      cases es0 : sub c' with
      | none => rw [es0] at h; exact h.elim
      | some b =>
        rw [es0] at h
        refine ⟨b, hsub c' C' b es0 hC', fun eb a ha => ?_, fun eb => ?_⟩
        · subst eb
          simp only at h
          split at h
          · rename_i hcond
            obtain ⟨hne, hio⟩ := hcond
            rcases hfs with ⟨z, _⟩ | ⟨dd, xs, eod, hP, hF⟩
            · exact absurd z hne
            subst eod
            refine ⟨dd, C', rfl, rfl, ?_⟩
            -- the slot holds the exception
            have g2 : GoS ⟨X.K, some (a, dd, C')⟩ σ es P H (σ1.set i (some (.ref a))) (es1.set i (some (.sh (.xc c' fs)))) P1 H1 :=
              (g1.kx (.inl rfl)).put hio (.inl ⟨_, rfl, .xc rfl hC' hP (hF.kx (.inl rfl))⟩)
            refine ⟨P1, _, g2.ok, ?_⟩
            cases eg : gs (es1.set i (some (.sh (.xc c' fs)))) with
            | st => rw [eg] at h; exact h.elim
            | ex y e => rw [eg] at h; exact h.elim
            | ok o =>
              rw [eg] at h
              cases o with
              | nx e =>
                unfold outT at h
                simp only at h
                split at h
                · rename_i hk
                  exact fun σ2 P2 H2 g3 => h _ P2 H2 (((g2.trans g3).wipe hk.1).kx (.inr hk.2))
                · exact h.elim
              | bk e =>
                unfold outT at h
                simp only at h
                split at h
                · rename_i hk
                  exact fun σ2 P2 H2 g3 => h _ P2 H2 (((g2.trans g3).wipe hk.1).kx (.inr hk.2))
                · exact h.elim
              | ct e =>
                unfold outT at h
                simp only at h
                split at h
                · rename_i hk
                  exact fun σ2 P2 H2 g3 => h _ P2 H2 (((g2.trans g3).wipe hk.1).kx (.inr hk.2))
                · exact h.elim
              | rt r e =>
                cases r with
                | ow j => unfold outT at h; exact h.elim
                | sh d =>
                  unfold outT at h
                  simp only at h
                  split at h
                  · rename_i hk
                    exact fun v σ2 P2 H2 g3 rr => h v _ P2 H2 (((g2.trans g3).wipe hk.1).kx (.inr hk.2.1)) (Dn.kx rr (.inr hk.2.2))
                  · exact h.elim
                | fr d =>
                  unfold outT at h
                  simp only at h
                  split at h
                  · rename_i hk
                    refine fun v σ2 P2 H2 g3 rr => h v _ P2 H2 (((g2.trans g3).wipe hk.1).kx (.inr hk.2.1)) ?_
                    obtain ⟨b, e1, o1, o2, o3⟩ := rr
                    exact ⟨b, e1, o1.kx (.inr hk.2.2), fun z => o2 (own_wiped z), g2.st.free o3⟩
                  · exact h.elim
          · exact h.elim
        · subst eb
          exact h σ1 P1 H1 _ od g1 rel
/-! ### in the suite: e.f -/
def fXc (i : Nat) (cs : List Str) (f : Str) : Fe := fun es => match es[i]? with
  | some (some (.sh (.xc c fs))) => if c ∈ cs then (Rs.of (fs.lookup f)).bind fun d => .ok (.sh d, es) else .st
  | _ => .st
theorem de_xc {X : Cx} {a dd C' : Addr} {oe : Obj} {pn : List (Addr × Obj)} {e : Expr} {i : Nat} {f : Str} {cs : List Str} {pos : Pos} (hz : Zc (.ref C') (some dd) oe) (hv : ∃ vs, oe.data = .fields vs) (hc : ∀ c ∈ cs, ∀ C, ClsAt X.K c C → XfC X.K C ∧ PySem.W.findIn X.K (.ref C) f = some none)
    (he : PE (X.suite a ((a, oe) :: pn)) e (tVar i)) (hb : attributeBase e f X.env (eval e X.env) = eval e X.env := by rfl) : DE (X.suite a ((a, oe) :: pn)) ⟨W0, some (a, dd, C')⟩ (.Attribute e f pos) (fXc i cs f) := by
  refine ⟨fun pins s σ H Q I ⟨P, es, ok, h⟩ => ?_⟩
  unfold fXc at h
  split at h
  · rename_i c fs e1
    split at h
    · rename_i hcm
      obtain ⟨d, e2, q⟩ := G.of (G.bind h.g)
      obtain ⟨v, h1, h2⟩ := ok.sh i _ e1
      cases h2 with
      | xc k1 k2 k3 k4 =>
        cases k1
        obtain ⟨T, hno⟩ := hc c hcm C' k2
        obtain ⟨u, q1, q2⟩ := k4.look e2
        refine (pe_xf T hno hz hv he hb).run pins s σ H Q I ⟨.ref a, h1, rfl, rfl, dd, _, u, rfl, ok.sub _ _ k3, q1, q u P H (.refl ok) q2⟩
    · exact h.elim
  · exact h.elim
end DL

/-! DL, part 16: isinstance of the exception in hand. -/
namespace DL
open PySem PySem.Spec L2
open PyProof.Rows hiding St
set_option autoImplicit false

def rIsX (K : PySem.W.Frag) (D a dd : Addr) : List V → Hp → VK → Prop := fun xs H Q => ∃ (c : V) (cv : Value) (b : Bool) (fs : List (Str × V)), xs = [.ref a, c] ∧ (∀ u, RelV c u → u = cv) ∧ PySem.W.kitOne K (.ref D) cv = some b ∧ H dd = some (.xd fs) ∧ Q (.bl b) H
theorem call_isX {X : Cx} {a D dd : Addr} {oe : Obj} {pn : List (Addr × Obj)} (C : ExcC X.K D) (hz : Zc (.ref D) (some dd) oe) (hf : ∃ vs, oe.data = .fields vs) : CallR (X.suite a ((a, oe) :: pn)) (.builtin "isinstance") (rIsX X.K D a dd) := by
  intro pins s σ H xs us Q I r ⟨c, cv, b, fs, ex, hcv, ek, hd, q⟩
  subst ex
  match us, r with
  | [u, t], .cons rx (.cons rt .nil) =>
    obtain rfl : u = Value.ref a := rx
    obtain rfl := hcv _ rt
    obtain ⟨here, _⟩ := I.pin (a, oe) (List.mem_append_left _ List.mem_cons_self)
    obtain ⟨vs, hv⟩ := hf
    have ox : ObjOk X.prog X.w H s.heap dd (.xd fs) := I.hok dd _ hd
    obtain ⟨mA, hns, hr⟩ := ox
    obtain ⟨od, ho, _⟩ := lookIn_ns hns
    have at_ : PySem.W.InstAt s.heap a oe D (some od) := ⟨here, hz.1, by unfold PySem.W.notCls; rw [hv] <;> rfl, by rw [hz.2]; exact ho⟩
    obtain ⟨cd, hcd, _⟩ := PySem.W.any_some C.hd
    have kit := PySem.W.kitx_exc (x := a) (ox := oe) (od := some od) (by rw [hcd]; rfl) C.hg C.hk C.hs C.ha C.hn C.ht C.hm
    exact PySem.W.kia_one kit I.kIn at_ ek (fun z => nomatch z) fun tk => ⟨.bl b, H, I.kept (t' := tk) fun _ _ z => z, rfl, q⟩
def fIsE (i : Nat) (tbl : Str → Option Bool) : Fe := fun es => match es[i]? with
  | some (some (.sh (.xc c _))) => (Rs.of (tbl c)).bind fun b => .ok (.sh (.bl b), es)
  | _ => .st
theorem de_isE {X : Cx} {a dd C' : Addr} {oe : Obj} {pn : List (Addr × Obj)} {e e2 : Expr} {i : Nat} {v2 : V} {cv : Value} {tbl : Str → Option Bool} {x : Str} {p pos : Pos} (hz : Zc (.ref C') (some dd) oe) (hv : ∃ vs, oe.data = .fields vs)
    (he : PE (X.suite a ((a, oe) :: pn)) e (tVar i)) (he2 : PE (X.suite a ((a, oe) :: pn)) e2 (tC v2)) (h2 : ∀ u, RelV v2 u → u = cv) (ht : ∀ c b, tbl c = some b → ∀ C, ClsAt X.K c C → ExcC X.K C ∧ PySem.W.kitOne X.K (.ref C) cv = some b)
    (hg : Gl (X.suite a ((a, oe) :: pn)) "isinstance") (hm : X.mg "isinstance" = none)
    (hs : starEach [e, e2] X.env = (false, eval e X.env) :: starEach [e2] X.env := by rfl) (hs2 : starEach [e2] X.env = (false, eval e2 X.env) :: starEach [] X.env := by rfl) (hpl : (backTo pos (starEach [e2] X.env)).any (·.1) = false := by rfl) :
    DE (X.suite a ((a, oe) :: pn)) ⟨W0, some (a, dd, C')⟩ (.Call (.Name "isinstance" p) [e, e2] [] pos) (fIsE i tbl) := by
  refine ⟨fun pins s σ H Q I ⟨P, es, ok, h⟩ => ?_⟩
  unfold fIsE at h
  split at h
  · rename_i c fs e1
    obtain ⟨b, eb, q⟩ := G.of (G.bind h.g)
    obtain ⟨v, h1, hd⟩ := ok.sh i _ e1
    cases hd with
    | xc k1 k2 k3 k4 =>
      cases k1
      obtain ⟨T, hk⟩ := ht c b eb C' k2
      exact (pe_callB (call_isX T hz hv) hg hm (by decide +kernel) (pa_cons he (pa_cons he2 pa_nil hs2) hs) (by decide) (by decide) hs hpl).run pins s σ H Q I
        ⟨.ref a, h1, v2, cv, b, _, rfl, h2, hk, ok.sub _ _ k3, q (.bl b) P H (.refl ok) (.bl b)⟩
  · exact h.elim
end DL

/-! DL, part 17: enumerate of a list, of a tuple. -/
namespace DL
open PySem PySem.Spec L2
open PyProof.Rows hiding St
set_option autoImplicit false

/-! ### enumerate of a tuple -/
/-- the two cells of enumerate(v) -/
abbrev enH (h : Heap) (o : Obj) : Heap := (h.push o).push { cls := .type "enumerate", data := .fields #[.none, .bool false, .ref h.objs.size, rawInt 0, .none, .none] }
theorem enum_new1 {v : Value} {o : Obj} {N : Heap → Prop} (B : Begins v o N) :
    Meets (Builtin.«enumerate.__new__» ⟨[.type "enumerate", v], []⟩) (fun _ R s => N s.heap ∧ R (.ok (.ret (.ref (s.heap.push o).objs.size))) { s with heap := enH s.heap o }) :=
  .of_wp fun prog w A R s h => by
    obtain ⟨hp, g, d, tk, os⟩ := s
    obtain ⟨h0, h⟩ := h
    have hsub := sub_enumerate
    have start : ∀ {A' : Around} {E : Value → Shared → Prop} {Q : Value → Shared → Prop}, Q (.ref hp.objs.size) ⟨hp.push o, g, d, tk, os⟩ → wpAny (model prog w) A' (pyIter v) Q E ⟨hp, g, d, tk, os⟩ := fun q => B.iter prog w _ _ ⟨hp, g, d, tk, os⟩ _ h0 q
    wp_walk using start
    refine wpAny_stack_any fun st => wpAny_pure ?_
    split
    · rename_i c _ _ _ _ _
      cases (c == Value.type "enumerate") <;> (wp_walk using start; exact ⟨_, rfl, h⟩)
    · wp_walk using start
      exact ⟨_, rfl, h⟩
theorem enum_call1 {prog : Program} {w : World} {A : Around} {E : Value → Shared → Prop} {s : Shared} {v : Value} {o : Obj} {N : Heap → Prop} {Q : Value → Shared → Prop} (B : Begins v o N) (h0 : N s.heap)
    (h : ∀ h', IsEnum h' (s.heap.objs.size + 1) s.heap.objs.size 0 .none → h'.get? s.heap.objs.size = some o → (∀ b u, s.heap.get? b = some u → h'.get? b = some u) → Q (.ref (s.heap.objs.size + 1)) { s with heap := h' }) :
    wpAny (model prog w) A (call (.type "enumerate") [v]) Q E s := by
  refine callType_new F.called_enumerate (by decide) (F.typeCall_enumerate_1 _) (F.newCall_enumerate_1 _) (fun obj => F.args_object_init_2 obj _) F.entry_enumerate_new (enum_new1 B) ⟨h0, ?_⟩
  have hz : (s.heap.push o).objs.size = s.heap.objs.size + 1 := Heap.size_push ..
  have last : (enH s.heap o).get? (s.heap.push o).objs.size = some { cls := .type "enumerate", data := .fields #[.none, .bool false, .ref s.heap.objs.size, rawInt 0, .none, .none] } := Heap.get?_push_size (s.heap.push o) rfl
  rw [hz] at last
  show _ ∧ _
  rw [hz]
  exact ⟨⟨_, last, rfl⟩, h _ last (Heap.get?_push_of_some _ (Heap.get?_push_size _ B.free)) fun b u x => Heap.get?_push_of_some _ (Heap.get?_push_of_some _ x)⟩
/-- the tuple at a, each item in a new pair -/
def Iet (K : PySem.W.Frag) (a : Addr) : It where
  go := fun i H => ∃ (xs : List V) (x : V), SqT K H a xs ∧ xs[i]? = some x
  yld := fun i H v H' => ∃ T x, v = .ref T ∧ H T = none ∧ H' = upd H T (.tup [.int (i : Nat), x]) ∧ ∀ xs, SqT K H a xs → xs[i]? = some x
  stop := fun i H => ∃ xs : List V, SqT K H a xs ∧ xs.length ≤ i
theorem turn_enumT {P : Program} {w : World} {K : PySem.W.Frag} {elts : List Expr} {kk : Nat} {tpos : Pos} (a e it : Addr) :
    Turn P w K (.Tuple elts kk tpos) (Iet K a) [e, it] e (fun i h => (∃ old, IsEnum h e it ((i : Nat) : Int) old) ∧ h.IsTupleIter it a i ∧ e ≠ it) where
  mem := List.mem_cons_self
  obj := fun i h st b hb => by
    obtain ⟨⟨old, he⟩, ⟨o, ho, _, hd⟩, _⟩ := st
    rcases (by simpa using hb : b = e ∨ b = it) with z | z
    · rw [z]; exact ⟨_, he, fun v q => nomatch q⟩
    · rw [z]; exact ⟨o, ho, fun v q => by rw [hd] at q; cases q⟩
  keep := fun i h h' st k => ⟨⟨_, k e (by simp) _ st.1.choose_spec⟩, st.2.1.at fun o q => k it (by simp) o q, st.2.2⟩
  item := by
    intro X hP hw hK hc i pins s σ H E I hf st hg
    subst hP hw hK
    obtain ⟨⟨old, he⟩, hit, hne⟩ := st
    obtain ⟨xs, x, hq, hx⟩ := hg
    obtain ⟨its, rv, p, hz⟩ := I.tuple hq
    obtain ⟨u, hu, ru⟩ := rv.get hx
    have ptup : s.heap.IsTuple a its.toArray := p
    have cell : ∀ {o : Obj}, s.heap.get? a = some o → o.cls = .type "tuple" := fun {o} q => by
      obtain ⟨o', q', c, _⟩ := ptup
      rw [q] at q'; cases q'; exact c
    have nit : a ≠ it := fun z => by
      obtain ⟨o, ho, c, _⟩ := id hit
      have := cell (by rw [z]; exact ho)
      rw [c] at this; injection this with q; exact absurd q (by decide)
    have nen : e ∉ [it, a] := fun z => by
      rcases (by simpa using z : e = it ∨ e = a) with z | z
      · exact hne z
      · have := cell (by rw [← z]; exact he)
        injection this with q
        exact absurd q (by decide)
    have hlt : i < its.toArray.size := by
      have := (List.getElem?_eq_some_iff.mp hu).1
      simpa using this
    have hel : e < s.heap.objs.size := Heap.lt_size he
    have hil : it < s.heap.objs.size := by obtain ⟨_, q, _⟩ := id hit; exact Heap.lt_size q
    refine wpAny_pyNext_enum_itemD (Draws.tuple (A := X.A.in1) (I.ok.hd hc) it a nit its.toArray) he ⟨hit, ptup⟩ hlt hne nen fun y h' tk hy ho hst' hT hsz hk => ?_
    obtain rfl : u = y := by
      have q : its[i]? = some y := by simpa using hy
      rw [hu] at q; exact Option.some.inj q
    refine ⟨_, rfl, wpAny_letOwnedTupleGo_enum (s := { s with heap := h', toks := tk + 1 }) ho fun h'' he' sb => ?_⟩
    have hT2 : h''.get? s.heap.objs.size = some { cls := .type "tuple", data := .seq #[.int i tk, u] } := (sb.2 _ (Nat.ne_of_gt hel)).trans hT
    have new : ObjOk X.prog X.w (upd H s.heap.objs.size (.tup [.int (i : Nat), x])) h'' s.heap.objs.size (.tup [.int (i : Nat), x]) :=
      ⟨by show 2 ≤ sizeLine; decide, [.int i tk, u], .cons ⟨_, rfl⟩ (.cons ru .nil), ⟨_, hT2, rfl, _, rfl⟩⟩
    have J : Inv X pins σ (upd H s.heap.objs.size (.tup [.int (i : Nat), x])) { s with heap := h'', toks := tk + 1 } :=
      I.turnedNew (ch := [e, it]) (fun b ob hb q => (sb.2 b (fun z => hb (by simp [z]))).trans (hk b ob (fun z => hb (by simp [z])) (fun z => hb (by simp [z])) q)) hf (Nat.le_refl _) new
    refine ⟨.ref s.heap.objs.size, _, J, rfl, ⟨_, x, rfl, I.hok.fresh (Nat.le_refl _), rfl, fun ys hy => by rw [I.tuple_inj hy hq]; exact hx⟩, ⟨⟨u, ?_⟩, hst'.1.at fun o q => (sb.2 it (Ne.symm hne)).trans q, hne⟩, fun b hb => ?_⟩
    · rw [show ((i + 1 : Nat) : Int) = (i : Int) + 1 by omega]; exact he'
    · have hb' : b < s.heap.objs.size := by
        rcases (by simpa using hb : b = e ∨ b = it) with z | z
        · rw [z]; exact hel
        · rw [z]; exact hil
      rw [upd_ne (Nat.ne_of_lt hb')]
      exact (hf b hb).1
  done := by
    intro X hP hw hK hc i pins s σ H E I hf st hg
    subst hP hw hK
    obtain ⟨⟨old, he⟩, hit, hne⟩ := st
    obtain ⟨xs, hq, hx⟩ := hg
    obtain ⟨its, rv, p, hz⟩ := I.tuple hq
    have ptup : s.heap.IsTuple a its.toArray := p
    obtain ⟨f0, f1, f2, f3, f4, f5⟩ := hf it (by simp)
    have hl := rv.length
    have cell : ∀ {o : Obj}, s.heap.get? a = some o → o.cls = .type "tuple" := fun {o} q => by
      obtain ⟨o', q', c, _⟩ := ptup
      rw [q] at q'; cases q'; exact c
    have nit : a ≠ it := fun z => by
      obtain ⟨o, ho, c, _⟩ := id hit
      have := cell (by rw [z]; exact ho)
      rw [c] at this; injection this with q; exact absurd q (by decide)
    have hT : s.TypeIs (.ref e) "enumerate" := ⟨_, he, rfl⟩
    unfold pyNext
    refine wpAny_bind (wpAny_attempt (wpAny_callSpecial?_slot (name := Str.ofString "__next__") hT F.slot_enumerate_next (wpAny_call_entry F.slot_enumerate_next hT F.entry_enumerate_next ?_ (F.args_enumerate_next_1 _))))
    show wpAny _ _ (field (.ref e) 2 >>= _) _ _ _
    refine wpAny_bind (wpAny_field he rfl (x := .ref it) rfl ?_)
    refine wpAny_bind (wpAny_nextOf_tuple_end (A := X.A.in1) (I.ok.hd hc) hit ptup (by simp; omega) fun h' x he' hx' => ?_)
    obtain ⟨o, ho, hcl⟩ := hx'
    refine wpAny_bind (wpAny_isInstance (T := "StopIteration") (b := true) ⟨o, ho, hcl⟩ isSubtype_stop ?_)
    exact wpAny_pure ⟨rfl, I.turned (t' := s.toks) (fun b o hb q => he' b o hb q) f0 f1 f3 f4 f5⟩
  self := fun A i s Q E st h => wpAny_pyIter_enum st.1.choose_spec h
/-! ### enumerate, by data -/
def iEnumV (K : PySem.W.Frag) (tl : TE) : TI := fun σ H R => tl σ H fun x H1 => ∃ a, [x] = [V.ref a] ∧ (((∃ xs, SqL K H1 a xs) ∧ R (Ite K a) H1) ∨ ((∃ xs, SqT K H1 a xs) ∧ R (Iet K a) H1))
theorem pi_enumV {X : Cx} {e : Expr} {te : TE} {p pos tpos : Pos} {elts : List Expr} {kk : Nat} (hg : Gl X "enumerate") (hm : X.mg "enumerate" = none) (he : PE X e te) (hs : starEach [e] X.env = [(false, eval e X.env)] := by rfl) :
    PI X (.Tuple elts kk tpos) (.Call (.Name "enumerate" p) [e] [] pos) (iEnumV X.K te) := by
  refine ⟨fun pins s σ H R I h => ?_⟩
  refine Call_ (ld_blt I hg hm boot_enumerate (PyProof.Rows.callWith_type1 (thn ((pa_cons he pa_nil hs).run pos pins s σ H (fun vs H1 => ∃ a, vs = [V.ref a] ∧ (((∃ xs, SqL X.K H1 a xs) ∧ R (Ite X.K a) H1) ∨ ((∃ xs, SqT X.K H1 a xs) ∧ R (Iet X.K a) H1))) I h) fun us s1 ⟨vs, H1, I1, r1, q1⟩ => ?_) hs rfl))
  obtain ⟨a, ex, q⟩ := q1
  subst ex
  cases r1 with
  | cons r rr =>
    cases rr
    cases r
    have cells : ∀ b, b = s1.heap.objs.size + 1 ∨ b = s1.heap.objs.size → s1.heap.objs.size ≤ b := fun b hb => by
      rcases hb with z | z
      · rw [z]; exact Nat.le_succ _
      · rw [z]; exact Nat.le_refl _
    have two : ∀ b, b ∈ [s1.heap.objs.size + 1, s1.heap.objs.size] → FpOk X pins H1 b := fun b hb => by
      have hle := cells b (by simpa using hb)
      exact I1.fpOk hle (I1.hok.fresh hle)
    rcases q with ⟨⟨xs, hq⟩, q⟩ | ⟨⟨xs, hq⟩, q⟩
    · obtain ⟨its, rv, p', hz⟩ := I1.list hq
      refine call_enumerate_list p'.isList fun h' he' hit hsz hk => wpAny_pyIter_enum he' ?_
      have I2 : Inv X pins σ H1 { s1 with heap := h' } := I1.kept (t' := s1.toks) hk
      exact ⟨s1.heap.objs.size + 1, [s1.heap.objs.size + 1, s1.heap.objs.size], _, _, H1, rfl, I2, turn_enum a (s1.heap.objs.size + 1) s1.heap.objs.size, ⟨⟨.none, he'⟩, hit, Nat.succ_ne_self _⟩, two, q⟩
    · obtain ⟨its, rv, p', hz⟩ := I1.tuple hq
      have ptup : s1.heap.IsTuple a its.toArray := p'
      refine enum_call1 (begins_tuple a its.toArray) ptup fun h' he' ho hk => wpAny_pyIter_enum he' ?_
      have I2 : Inv X pins σ H1 { s1 with heap := h' } := I1.kept (t' := s1.toks) hk
      exact ⟨s1.heap.objs.size + 1, [s1.heap.objs.size + 1, s1.heap.objs.size], _, _, H1, rfl, I2, turn_enumT a (s1.heap.objs.size + 1) s1.heap.objs.size, ⟨⟨.none, he'⟩, ⟨_, ho, rfl, rfl⟩, Nat.succ_ne_self _⟩, two, q⟩
/-- the pairs that enumerate gives -/
def enD : Nat → List D → List D
  | _, [] => []
  | k, d :: ds => .tup [.int (k : Nat), d] :: enD (k + 1) ds
theorem enD_len : ∀ (ds : List D) (k : Nat), (enD k ds).length = ds.length
  | [], _ => rfl
  | d :: ds, k => by rw [enD, List.length_cons, List.length_cons, enD_len ds]
theorem enD_get : ∀ {ds : List D} {k i : Nat} {p : D}, (enD k ds)[i]? = some p → ∃ d, ds[i]? = some d ∧ p = .tup [.int ((k + i : Nat) : Int), d]
  | [], k, i, p, h => by simp [enD] at h
  | d :: ds, k, 0, p, h => by
    rw [enD] at h
    simp at h
    exact ⟨d, rfl, h.symm⟩
  | d :: ds, k, i + 1, p, h => by
    rw [enD] at h
    obtain ⟨d', h1, h2⟩ := enD_get (ds := ds) (k := k + 1) (i := i) (by simpa using h)
    exact ⟨d', by simpa using h1, by rw [h2, show k + 1 + i = k + (i + 1) by omega]⟩
theorem en_yld {K : Kx} {Pb : Hp} {xs : List V} {ds : List D} (t : DnA K Pb xs ds) {i : Nat} {P H H' : Hp} {x : V} {d : D} (e : (enD 0 ds)[i]? = some d) (s1 : Same Pb P) (s2 : Same P H) (y : ∃ T z, x = .ref T ∧ H T = none ∧ H' = upd H T (.tup [.int (i : Nat), z]) ∧ xs[i]? = some z) :
    (H' = H ∧ Dn K P x d) ∨ ∃ p o, H p = none ∧ H' = upd H p o ∧ Dn K (upd P p o) x d := by
  obtain ⟨T, z, ex, n, eH, hz⟩ := y
  subst ex
  obtain ⟨w, q1, q2⟩ := enD_get e
  subst q2
  obtain ⟨v, q3, q4⟩ := t.get q1
  rw [hz] at q3
  cases q3
  have sP : Same P (upd P T (.tup [.int (i : Nat), z])) := same_updP s2 n
  refine .inr ⟨T, _, n, eH, .tup (.inl (.inl upd_same)) (by show 2 ≤ sizeLine; rw [sizeLine_eq]; omega) (.cons ?_ (.cons ((q4.mono s1).mono sP) .nil))⟩
  rw [Nat.zero_add]
  exact .int _
theorem it_enL {K : Kx} {Pb : Hp} {a : Addr} {xs : List V} {ds : List D} (h : SqL K.K Pb a xs) (z : xs.length ≤ sizeLine) (t : DnA K Pb xs ds) : ItOk K (Ite K.K a) (enD 0 ds) Pb where
  len := by rw [enD_len, ← t.length]; exact z
  go := fun i P H hi s1 s2 => by
    rw [enD_len, ← t.length] at hi
    exact ⟨xs, xs[i], Same.seq (s1.trans s2) h, List.getElem?_eq_getElem hi⟩
  stop := fun P H s1 s2 => ⟨xs, Same.seq (s1.trans s2) h, by rw [enD_len, t.length]; exact Nat.le_refl _⟩
  yld := fun i P H x H' d e s1 s2 ⟨T, w, e1, e2, e3, e4⟩ => en_yld t e s1 s2 ⟨T, w, e1, e2, e3, e4 xs (Same.seq (s1.trans s2) h)⟩
theorem it_enT {K : Kx} {Pb : Hp} {a : Addr} {xs : List V} {ds : List D} (h : SqT K.K Pb a xs) (z : xs.length ≤ sizeLine) (t : DnA K Pb xs ds) : ItOk K (Iet K.K a) (enD 0 ds) Pb where
  len := by rw [enD_len, ← t.length]; exact z
  go := fun i P H hi s1 s2 => by
    rw [enD_len, ← t.length] at hi
    exact ⟨xs, xs[i], sqt_mono (s1.trans s2) h, List.getElem?_eq_getElem hi⟩
  stop := fun P H s1 s2 => ⟨xs, sqt_mono (s1.trans s2) h, by rw [enD_len, t.length]; exact Nat.le_refl _⟩
  yld := fun i P H x H' d e s1 s2 ⟨T, w, e1, e2, e3, e4⟩ => en_yld t e s1 s2 ⟨T, w, e1, e2, e3, e4 xs (sqt_mono (s1.trans s2) h)⟩
def iEnF (f : Fe) : Fi := fun es => (f es).bind fun p => (Rs.of (toSh p.1 p.2)).bind fun q => (Rs.of (seqD q.1)).bind fun ds => .ok (enD 0 ds, q.2)
theorem di_enum {X : Cx} {E : We} {e : Expr} {f : Fe} {p pos tpos : Pos} {elts : List Expr} {kk : Nat} (hg : Gl X "enumerate") (hm : X.mg "enumerate" = none) (he : DE X E e f) (hs : starEach [e] X.env = [(false, eval e X.env)] := by rfl) :
    DI X E (.Tuple elts kk tpos) (.Call (.Name "enumerate" p) [e] [] pos) (iEnF f) := by
  refine pi_imp (pi_enumV hg hm he hs) fun σ H R ⟨P, es, ok, h⟩ => tD_mono (tD_g (.refl ok) (G.bind h)) fun v H1 ⟨r, es1, P1, g1, _, rel, q⟩ => ?_
  obtain ⟨s, e1, q1⟩ := G.of (G.bind q)
  obtain ⟨P2, g2, dn, _⟩ := toSh_ok g1 rel e1
  obtain ⟨ds, e3, q3⟩ := G.of (G.bind q1)
  obtain ⟨d, es2⟩ := s
  cases dn with
  | lst h z t =>
    cases e3
    exact ⟨_, rfl, .inl ⟨⟨_, .inl (.inl (g2.ok.sub _ _ h))⟩, q3 P2 H1 _ g2 (it_enL (.inl (.inl h)) z t)⟩⟩
  | rl h z t =>
    cases e3
    exact ⟨_, rfl, .inl ⟨⟨_, Same.seq g2.ok.sub h⟩, q3 P2 H1 _ g2 (it_enL h z t)⟩⟩
  | tup h z t =>
    cases e3
    exact ⟨_, rfl, .inr ⟨⟨_, sqt_mono g2.ok.sub h⟩, q3 P2 H1 _ g2 (it_enT h z t)⟩⟩
  | pt h z t _ =>
    cases e3
    exact ⟨_, rfl, .inr ⟨⟨_, sqt_mono g2.ok.sub h⟩, q3 P2 H1 _ g2 (it_enT h z t)⟩⟩
  | _ => cases e3
end DL

/-! DL, part 18: set(xs) of texts, its length. -/
namespace DL
open PySem PySem.Spec L2
open PyProof.Rows hiding St
set_option autoImplicit false

/-- how many different ones -/
def seen {κ : Type} [BEq κ] (ks : List κ) (i : Nat) (k : κ) : Bool := (ks.take i).any (· == k)
def cntD {κ : Type} [BEq κ] (ks : List κ) : Nat → Nat
  | 0 => 0
  | i + 1 => match ks[i]? with
    | some k => if seen ks i k then cntD ks i else cntD ks i + 1
    | none => cntD ks i
theorem cntD_le {κ : Type} [BEq κ] (ks : List κ) : ∀ i, cntD ks i ≤ i
  | 0 => Nat.le_refl _
  | i + 1 => by
    have := cntD_le ks i
    unfold cntD
    split
    · split <;> omega
    · omega
section
variable {κ : Type} [DecidableEq κ] [BEq κ] [LawfulBEq κ] {ks : List κ}
theorem seen_next {i : Nat} {k k' : κ} (h : ks[i]? = some k) : seen ks (i + 1) k' = (seen ks i k' || decide (k' = k)) := by
  unfold seen
  rw [List.take_succ, h, List.any_append]
  congr 1
  by_cases e : k' = k
  · subst e; simp
  · have : (k == k') = false := beq_eq_false_iff_ne.mpr fun z => e z.symm
    simp [this, e]
theorem cnt_next {i : Nat} {k : κ} (h : ks[i]? = some k) : cntD ks (i + 1) = if seen ks i k then cntD ks i else cntD ks i + 1 := by
  show (match ks[i]? with | some k => if seen ks i k then cntD ks i else cntD ks i + 1 | none => cntD ks i) = _
  rw [h]
variable {prog : Program} {w : World} {A : Around} {R : Result → Shared → Prop} {I : Addr} {fp wr : List Addr} {Gn : Array GenState → Array GenState → Prop} {n : Nat} {Pv : Nat → Value → Prop} {Sv : Nat → Shared → Prop} {knd : KeyKind prog w κ}
theorem set_loop (W : WalksS prog w A.in1 I fp wr Gn n Pv Sv) {S : Addr} (away : S ∉ fp) (len : ks.length = n) (room : n + 1 < scanBound)
    (key : ∀ i v, Pv i v → ∃ k, ks[i]? = some k ∧ knd.is k v = true ∧ v.scannable = true) :
    ∀ (left i : Nat) (s : Shared), n - i = left → i ≤ n → Sv i s → s.heap.SetOf knd S (seen ks i) (cntD ks i) →
      (∀ s', Moved (S :: wr) Gn s s' → s'.heap.SetOf knd S (seen ks n) (cntD ks n) → R (.ok (.ret .none)) s') → codeAny (model prog w) A (.builtin "set.update.loop" ⟨[.ref S, .ref I], []⟩) R s
  | 0, i, s, hl, hi, st, hS, hR => by
    obtain rfl : i = n := by omega
    have nwr : S ∉ wr := fun z => away (W.sub _ z)
    refine codeAny_builtin PyProof.Rows.F.entry_set_update_loop (by
      rw [Around.under_plainId PyProof.Rows.F.plain_set_update_loop _]
      show wpAny _ A.in1 (pyNext (.ref I) >>= _) _ _ s
      refine wpAny_bind (W.done s _ _ st fun s1 mv => wpAny_pure (hR s1 (mv.mono fun b hb => List.mem_cons_of_mem _ hb) ?_))
      obtain ⟨o, es, ep, t, ho, rest⟩ := hS
      exact ⟨o, es, ep, t, mv.heap S _ nwr ho, rest⟩)
  | left + 1, i, s, hl, hi, st, hS, hR => by
    have hlt : i < n := by omega
    have nwr : S ∉ wr := fun z => away (W.sub _ z)
    refine codeAny_builtin PyProof.Rows.F.entry_set_update_loop (by
      rw [Around.under_plainId PyProof.Rows.F.plain_set_update_loop _]
      show wpAny _ A.in1 (pyNext (.ref I) >>= _) _ _ s
      refine wpAny_bind (W.item i s _ _ hlt st fun v s1 hv st1 mv => ?_)
      obtain ⟨k, hk, isk, sck⟩ := key i v hv
      have hS1 : s1.heap.SetOf knd S (seen ks i) (cntD ks i) := by
        obtain ⟨o, es, ep, t, ho, rest⟩ := hS
        exact ⟨o, es, ep, t, mv.heap S _ nwr ho, rest⟩
      have rm : cntD ks i + 1 < scanBound := by have := cntD_le ks i; omega
      show wpAny _ A.in1 (holding [v] (setAdd (S) v) >>= _) _ _ s1
      refine wpAny_bind (wpAny_holding (by
        unfold setAdd
        refine wpAny_holding (wpAny_bind (knd.pyHash (k := k) isk ?_))
        refine wpAny_setAddHashed_of (knd := knd) (s := { s1 with toks := s1.toks + 1 }) isk sck hS1 rm fun h' same hS2 => ?_
        have hS3 : h'.SetOf knd S (seen ks (i + 1)) (cntD ks (i + 1)) := SetOf_congr hS2 (fun k' => (seen_next hk).symm) (cnt_next hk).symm
        have other : ∀ b, b ∈ fp → b ≠ S := fun b hb z => away (by rw [← z]; exact hb)
        refine wpAny_pure ⟨plainId_quiet PyProof.Rows.F.plain_set_update_loop _, set_loop W away len room key left (i + 1) _ (by omega) hlt (W.frame _ s1 _ _ st1 (Nat.le_succ _) fun b hb o e => (same.2 b (other b hb)).trans e) hS3 fun s2 mv2 hS4 => ?_⟩
        exact hR s2 (Moved.trans W.gtrans ((mv.mono fun b hb => List.mem_cons_of_mem _ hb).then_heap (Nat.le_succ _) fun b o hb e => (same.2 b fun z => hb (by rw [z]; exact List.mem_cons_self)).trans e) mv2) hS4)))
end
/-- an empty set -/
abbrev set0 (b : Bool) : Obj := { cls := .type "set", dict := none, data := .set #[] 0 (.fresh 0 0 b) }
theorem set_tuple {κ : Type} [DecidableEq κ] [BEq κ] [LawfulBEq κ] {ks : List κ} {prog : Program} {w : World} {knd : KeyKind prog w κ} {A : Around} {E : Value → Shared → Prop} {s : Shared} {l : Addr} {items : Array Value} {Q : Value → Shared → Prop}
    (calm : A.handled = none) (tup : s.heap.IsTuple l items) (len : ks.length = items.size) (room : items.size + 1 < scanBound) (key : ∀ (i : Nat) (v : Value), items[i]? = some v → ∃ k, ks[i]? = some k ∧ knd.is k v = true ∧ v.scannable = true)
    (done : ∀ (h' : Heap) (tk : Nat), h'.SetOf knd s.heap.objs.size (seen ks items.size) (cntD ks items.size) → (∀ b o, b < s.heap.objs.size → s.heap.get? b = some o → h'.get? b = some o) → Q (.ref s.heap.objs.size) { s with heap := h', toks := tk }) :
    wpAny (model prog w) A (call (.type "set") [.ref l]) Q E s := by
  obtain ⟨c, tl, mro⟩ := PySem.F.called_set.mro
  have made := PySem.F.called_set.made
  have subs := PySem.F.called_set.sub
  have noty := PySem.F.called_set.notType
  have canc := PySem.F.called_set.canCreate
  have tych := PySem.F.typeCall_set_1 (.ref l)
  refine wpAny_call (codeAny_of_tree ?_)
  show wpAny _ _ (callAny (.type "set") _) _ _ _
  refine wpAny_pure ⟨Code.quiet_builtin _ (by decide +kernel), codeAny_builtin PySem.F.entry_type_call (by
    rw [Around.under_plain (weight_type_call_type "set" [.ref l] []) rfl]
    repeat (any_goals (first | assumption | wp_step))
    -- set.__new__
    refine codeAny_mono (code_set_new_1 (.ref l) (E := E) (Q₁ := fun obj u => ∃ b : Bool, obj = .ref s.heap.objs.size ∧ u = { s with heap := s.heap.push (set0 b) }) fun b => ⟨b, rfl, rfl⟩) fun r u hr => ?_
    match r, hr with
    | .error e, hr => exact hr
    | .ok (.next), hr => exact hr.elim
    | .ok (.brk), hr => exact hr.elim
    | .ok (.cont), hr => exact hr.elim
    | .ok (.ret obj), ⟨b, eo, eu⟩ =>
      subst eo; subst eu
      have here : (s.heap.push (set0 b)).get? s.heap.objs.size = some (set0 b) := Heap.get?_push_size _ rfl
      have isset : Shared.TypeIs { s with heap := s.heap.push (set0 b) } (.ref s.heap.objs.size) "set" := ⟨_, here, rfl⟩
      have ilook := PySem.F.called_set.init.lookup
      have ibind := PySem.F.called_set.init.bind (.ref s.heap.objs.size)
      repeat (any_goals (first | assumption | wp_step))
      -- set.__init__
      refine codeAny_mono (codeAny_call_builtin (R := wants (fun r u => r = .none ∧ ∃ h' tk, u = { s with heap := h', toks := tk } ∧ h'.SetOf knd s.heap.objs.size (seen ks items.size) (cntD ks items.size) ∧ (∀ b o, b < s.heap.objs.size → s.heap.get? b = some o → h'.get? b = some o)) E)
        PySem.F.called_set.init.plain PySem.F.entry_set_init (check_set_init_1 isset ?_)) fun r2 u2 hr2 => ?_
      · obtain ⟨⟨oc, od, oda, osl⟩, ho, hc, nl, hd⟩ := tup
        simp only at hc hd
        subst hc; subst hd
        have ho' : (s.heap.push (set0 b)).get? l = some { cls := .type "tuple", dict := od, data := .seq items nl, slots := osl } := Heap.get?_push_of_some _ ho
        have s1 := PySem.F.sub_tuple_set
        have s2 := PySem.F.sub_tuple_frozenset
        have s3 : (Value.type "tuple" == Value.type "dict") = false := by decide
        have tup1 : (s.heap.push (set0 b)).IsTuple l items := ⟨_, ho', rfl, nl, rfl⟩
        unfold Builtin.«set.__init__» noKeywords Builtin.Frozenset.updateFrom
        generalize hPI : pyIter = PI
        wp_walk
        subst hPI
        have old : l < s.heap.objs.size := Heap.lt_size ho
        have sz : (s.heap.push (set0 b)).objs.size = s.heap.objs.size + 1 := Heap.size_push ..
        have ne1 : l ≠ (s.heap.push (set0 b)).objs.size := by rw [sz]; exact Nat.ne_of_lt (Nat.lt_succ_of_lt old)
        have away : s.heap.objs.size ∉ [(s.heap.push (set0 b)).objs.size, l] := by
          rw [sz]
          intro z
          rcases List.mem_cons.mp z with z | z
          · exact Nat.ne_of_lt (Nat.lt_succ_self _) z
          · exact Nat.ne_of_gt old (List.mem_singleton.mp z)
        have calm3 : A.in1.in1.in1.handled = none := by simp [calm]
        refine wpAny_pyIter_tuple tup1 (wpAny_bind (wpAny_runValue ?_))
        refine set_loop (knd := knd) (ks := ks) ((Walks.tuple calm3 _ l ne1 items).toS) away len room (fun i v hv => key i v hv) (items.size - 0) 0 _ (by omega) (Nat.zero_le _) ⟨⟨_, Heap.get?_push_size _ rfl, rfl, rfl⟩, tup1.push _⟩ ?start ?fin
        case start => exact SetOf_congr ((setObjOf_fresh (knd := knd) b).setOf (Heap.get?_push_of_some _ here) (by unfold scanBound; omega)) (fun _ => rfl) rfl
        case fin =>
          intro u mv hS
          obtain ⟨h', g', d', tk', os'⟩ := u
          obtain rfl : g' = s.gens := mv.gens
          obtain rfl : d' = s.drawn := mv.drawn
          obtain rfl : os' = s.os := mv.os
          show wpAny _ _ _ _ _ _
          refine wpAny_pure ?_
          show wpAny _ _ (ret Value.none) _ _ _
          refine wpAny_pure ⟨rfl, h', tk', rfl, hS, fun a o ha e => mv.heap a o (fun z => ?_) (Heap.get?_push_of_some _ (Heap.get?_push_of_some _ e))⟩
          rcases List.mem_cons.mp z with z | z
          · exact Nat.ne_of_lt ha z
          · have z := List.mem_singleton.mp z
            rw [sz] at z
            exact Nat.ne_of_lt (Nat.lt_succ_of_lt ha) z
      · match r2, hr2 with
        | .error e, hr2 => exact hr2
        | .ok (.next), hr2 => exact hr2.elim
        | .ok (.brk), hr2 => exact hr2.elim
        | .ok (.cont), hr2 => exact hr2.elim
        | .ok (.ret x), ⟨ex, h', tk, eu, hS, hk⟩ =>
          subst ex; subst eu
          repeat (any_goals (first | assumption | wp_step))
          exact done _ _ hS hk)⟩
end DL

/-! DL, part 19: len(set(xs)) of a tuple of texts. -/
namespace DL
open PySem PySem.Spec L2
open PyProof.Rows hiding St
set_option autoImplicit false

/-- at a: the set of the texts ks -/
def SetS (P : Program) (w : World) (a : Addr) (ks : List Str) : HO := .ext fun h => h.SetOf (PySem.strKind P w) a (seen ks ks.length) (cntD ks ks.length)
theorem setS_ok {P : Program} {w : World} {H : Hp} {h : Heap} {a : Addr} {ks : List Str} (R : h.SetOf (PySem.strKind P w) a (seen ks ks.length) (cntD ks ks.length)) : ObjOk P w H h a (SetS P w a ks) := by
  have ⟨o, es, ep, t, ho, rest⟩ := R
  exact ⟨R, ⟨o, ho⟩, fun h1 h2 ⟨o1, es1, ep1, t1, ho1, rest1⟩ k => ⟨o1, es1, ep1, t1, k _ ho1, rest1⟩⟩
def rSetS (K : PySem.W.Frag) (P : Program) (w : World) : List V → Hp → VK → Prop := fun xs H Q => ∃ (l : Addr) (ks : List Str), xs = [V.ref l] ∧ SqT K H l (ks.map V.str) ∧ ks.length ≤ 1000 ∧ ∀ a, H a = none → Q (.ref a) (upd H a (SetS P w a ks))
theorem cr_setS {X : Cx} (hc : X.calm = true) : CallR X (.type "set") (rSetS X.K X.prog X.w) := by
  intro pins s σ H xs us Q I r ⟨l, ks, ex, hq, hl, q⟩
  subst ex
  cases r with
  | cons r0 rr =>
    cases rr
    cases r0
    obtain ⟨its, rv, p, hz⟩ := I.tuple hq
    have len : ks.length = its.toArray.size := by
      have := rv.length
      rw [List.length_map] at this
      simpa using this
    have rm : its.toArray.size + 1 < scanBound := by rw [← len]; unfold scanBound; omega
    have ptup : s.heap.IsTuple l its.toArray := p
    refine set_tuple (ks := ks) (knd := PySem.strKind X.prog X.w) (I.ok.hd hc) ptup len rm (fun i v hv => ?_) fun h' tk hS hk => ?_
    · have hv' : its[i]? = some v := by simpa using hv
      have hi : i < ks.length := by
        rw [len]
        have := (List.getElem?_eq_some_iff.mp hv').1
        simpa using this
      obtain ⟨u, hu, t, et⟩ := rv.get (i := i) (x := V.str ks[i]) (by rw [List.getElem?_map, List.getElem?_eq_getElem hi]; rfl)
      rw [hv'] at hu
      cases hu
      subst et
      exact ⟨ks[i], List.getElem?_eq_getElem hi, strKind_is _ _ _ _, rfl⟩
    · rw [← len] at hS
      exact ⟨.ref _, upd H s.heap.objs.size (SetS X.prog X.w s.heap.objs.size ks), I.laid (t' := tk) (fun b u e => hk b u (Heap.lt_size e) e) (Nat.le_refl _) (setS_ok hS), rfl, q _ (I.hok.fresh (Nat.le_refl _))⟩
def rLenS (P : Program) (w : World) : List V → Hp → VK → Prop := fun xs H Q => ∃ (a : Addr) (ks : List Str), xs = [V.ref a] ∧ H a = some (SetS P w a ks) ∧ ks.length ≤ 1000 ∧ Q (.int (cntD ks ks.length)) H
theorem cr_lenS {X : Cx} : CallR X (.builtin "len") (rLenS X.prog X.w) := by
  intro pins s σ H xs us Q I r ⟨a, ks, ex, ha, hl, q⟩
  subst ex
  cases r with
  | cons r0 rr =>
    cases rr
    cases r0
    have ob : ObjOk X.prog X.w H s.heap a (SetS X.prog X.w a ks) := I.hok a _ ha
    obtain ⟨o, es, ep, t, ho, hex, hd, _, _, _, hf, hn⟩ := ob.1
    have small := cntD_le ks ks.length
    refine call_len_set ho hex hd hf (by rw [hn]; omega) ⟨.int (cntD ks ks.length), H, I.tok _, ⟨_, by rw [hn]⟩, q⟩
/-- the number of different texts -/
def lenSetZ : D → Option Z
  | .tup ds => (strsD ds).bind fun ks => if ks.length ≤ 1000 then some (.sh (.int (cntD ks ks.length))) else none
  | _ => none
theorem bt_set : bootBuiltins "set" = some (.type "set") := by decide +kernel
theorem de_lenSet {X : Cx} {E : We} {a : Expr} {f : Fe} {p p2 pos pos2 : Pos} (hc : X.calm = true) (hg : Gl X "len") (hm : X.mg "len" = none) (hg2 : Gl X "set") (hm2 : X.mg "set" = none) (ha : DE X E a f)
    (he : starEach [a] X.env = (false, eval a X.env) :: starEach [] X.env := by rfl) (he2 : starEach [.Call (.Name "set" p2) [a] [] pos2] X.env = (false, eval (.Call (.Name "set" p2) [a] [] pos2) X.env) :: starEach [] X.env := by rfl) :
    DE X E (.Call (.Name "len" p) [.Call (.Name "set" p2) [a] [] pos2] [] pos) (fUn lenSetZ f) := by
  refine pe_imp (pe_callB cr_lenS hg hm bt_len (pa_cons (pe_callTy (cr_setS hc) hg2 hm2 bt_set (pa_cons ha pa_nil he) (by decide) (by decide) he) pa_nil he2) (by decide) (by decide) he2)
    fun σ H Q ⟨P, es, ok, h⟩ => tD_mono (tD_bind (GoE.refl ok) h) fun v H1 ⟨ra, es1, P1, g1, _, rel1, q1⟩ => ?_
  obtain ⟨r, es2, e1, q2⟩ := Post.of q1
  unfold ap1 at e1
  obtain ⟨d, e2, e3⟩ := Option.bind_eq_some_iff.mp e1
  obtain ⟨z, e4, e5⟩ := Option.map_eq_some_iff.mp e3
  cases e5
  cases d with
  | tup ds =>
    obtain ⟨ks, k1, k2⟩ := Option.bind_eq_some_iff.mp e4
    split at k2
    · rename_i hl
      cases k2
      obtain ⟨b, xs, ev, h1, _, h3⟩ := bw_tup g1.ok.sub (rel1.bw g1.ok e2)
      subst ev
      rw [strsD_ok h3 k1] at h1
      exact ⟨b, ks, rfl, h1, hl, fun c hcn => ⟨c, ks, rfl, upd_same, hl, q2 _ P1 _ (g1.alloc hcn) (.int _)⟩⟩
    · cases k2
  | _ => cases e4
end DL

/-! DL, part 20: type(x) of an own instance; is, is not of classes. -/
namespace DL
open PySem PySem.Spec L2
open PyProof.Rows hiding St
set_option autoImplicit false

/-- type(x) -/
def tyC : D → Option Z
  | .ins c _ => some (.sh (.cls c))
  | x => tyZ x
def rTyC (K : PySem.W.Frag) : List V → Hp → VK → Prop := fun xs H Q => rTyp K xs H Q ∨ ∃ a C dx fs, xs = [V.ref a] ∧ H a = some (.ins C dx fs) ∧ Q (.ref C) H
theorem call_typeC {X : Cx} : CallR X (.type "type") (rTyC X.K) := CallR.or call_type1 cr_type
theorem tyC_ok {K : Kx} : Op1 K (fun v => rTyC K.K [v]) tyC := by
  intro P H v x z Q s hx e q
  unfold tyC at e
  split at e
  · rename_i c fs
    cases e
    obtain ⟨a, C, dx, xs, ev, h1, h2, h3⟩ := bw_ins s hx
    subst ev
    exact .inr ⟨a, C, dx, xs, rfl, h1, q _ (.cls h2)⟩
  · exact .inl (tyZ_ok P H v _ z Q s hx e q)
/-- what is known of the classes cs: they are classes, and no two are one -/
def Apart (K : PySem.W.Frag) (cs : List Str) : Prop := ∀ c ∈ cs, ∃ C, ClsAt K c C ∧ PySem.W.makesIn K C = true ∧ ∀ c' ∈ cs, c' ≠ c → ∀ C', ClsAt K c' C' → C' ≠ C
def isC (cs : List Str) : D → D → Option Bool
  | .cls c, .cls c' => if c ∈ cs ∧ c' ∈ cs then some (decide (c = c')) else none
  | .ty _, .cls _ => some false
  | x, y => isD x y
def isCZ (cs : List Str) (x y : D) : Option Z := (isC cs x y).map fun b => .sh (.bl b)
def isNotCZ (cs : List Str) (x y : D) : Option Z := (isC cs x y).map fun b => .sh (.bl (!b))
/-- a built-in type beside a class -/
def rTC (n : Bool) : R2 := fun x y H Q => (∃ m b, x = V.ty m ∧ y = V.ref b) ∧ Q (.bl n) H
theorem op_isTC {X : Cx} : OpR X (compareOp .Is) (rTC false) := by
  intro pins s σ H x y v u Q I rx ry ⟨⟨m, b, ex, ey⟩, q⟩
  subst ex; subst ey
  cases rx
  cases ry
  exact wpAny_is_plain rfl ⟨.bl false, H, I, rfl, q⟩
theorem op_isNotTC {X : Cx} : OpR X (compareOp .IsNot) (rTC true) := by
  intro pins s σ H x y v u Q I rx ry ⟨⟨m, b, ex, ey⟩, q⟩
  subst ex; subst ey
  cases rx
  cases ry
  exact wpAny_isNot_plain rfl ⟨.bl true, H, I, rfl, q⟩
def rCC (K : PySem.W.Frag) (n : Bool) : R2 := fun x y H Q => ∃ a b, x = V.ref a ∧ y = V.ref b ∧ (a = b ∨ (PySem.W.makesIn K a = true ∧ PySem.W.makesIn K b = true)) ∧ Q (.bl (if n then !decide (a = b) else decide (a = b))) H
def rIsC (K : PySem.W.Frag) (n : Bool) : R2 := fun x y H Q => rIsA n x y H Q ∨ rTC n x y H Q ∨ rCC K n x y H Q
theorem op_isC {X : Cx} : OpR X (compareOp .Is) (rIsC X.K false) := OpR.or op_isA (OpR.or op_isTC op_is_cls)
theorem op_isNotC {X : Cx} : OpR X (compareOp .IsNot) (rIsC X.K true) := OpR.or op_isNotA (OpR.or op_isNotTC op_isnot_cls)
theorem isC_ok {K : Kx} {cs : List Str} (T : Apart K.K cs) {n : Bool} {P H : Hp} {v u : V} {x y : D} {b : Bool} {Q : VK} (s : Same P H) (hx : Bw K P H v x) (hy : Bw K P H u y) (e : isC cs x y = some b) (q : Q (.bl (if n then !b else b)) H) : rIsC K.K n v u H Q := by
  unfold isC at e
  split at e
  · rename_i c c'
    split at e
    · rename_i hm
      cases e
      have dx := hx.dnH s
      have dy := hy.dnH s
      cases dx with
      | cls kx =>
        cases dy with
        | cls ky =>
          obtain ⟨C, k1, k2, k3⟩ := T c hm.1
          obtain ⟨C', j1, j2, _⟩ := T c' hm.2
          obtain rfl := kx.one k1
          obtain rfl := ky.one j1
          refine .inr (.inr ⟨_, _, rfl, rfl, .inr ⟨k2, j2⟩, ?_⟩)
          by_cases z : c = c'
          · subst z
            obtain rfl := k1.one j1
            simpa using q
          · have nz := k3 c' hm.2 (fun w => z w.symm) _ j1
            have nz' : ¬ _ = _ := fun w => nz w.symm
            simp only [decide_eq_false z] at q
            simp only [decide_eq_false nz']
            exact q
    · cases e
  · cases e
    have dx := hx.dnH s
    have dy := hy.dnH s
    cases dx
    cases dy
    refine .inr (.inl ⟨⟨_, _, rfl, rfl⟩, ?_⟩)
    cases n <;> exact q
  · obtain ⟨h1, h2⟩ := isD_ok s hx hy e
    refine .inl ⟨h1, ?_⟩
    rw [h2]
    exact q
theorem isCZ_ok {K : Kx} {cs : List Str} (T : Apart K.K cs) : Op2 K (rIsC K.K false) (isCZ cs) := by
  intro P H v u x y z Q s hx hy e q
  obtain ⟨b, h1, h2⟩ := Option.map_eq_some_iff.mp e
  subst h2
  exact isC_ok T s hx hy h1 (q _ (.bl _))
theorem isNotCZ_ok {K : Kx} {cs : List Str} (T : Apart K.K cs) : Op2 K (rIsC K.K true) (isNotCZ cs) := by
  intro P H v u x y z Q s hx hy e q
  obtain ⟨b, h1, h2⟩ := Option.map_eq_some_iff.mp e
  subst h2
  exact isC_ok T s hx hy h1 (q _ (.bl _))
end DL

/-! DL, part 21: tuple.index. -/
namespace DL
open PySem PySem.Spec L2
open PyProof.Rows hiding St
set_option autoImplicit false

def rTIdx (K : PySem.W.Frag) : V → List V → Hp → VK → Prop := fun x xs H Q => ∃ (a : Addr) (ys : List V) (y : V) (j : Nat), x = V.ref a ∧ xs = [y] ∧ SqT K H a ys ∧ flatV y = true ∧ ys.all flatV = true ∧
  j < ys.length ∧ (∀ (m : Nat) (z : V), m ≤ j → ys[m]? = some z → eqV z y = decide (m = j)) ∧ Q (.int (j : Nat)) H
theorem mt_tidx {X : Cx} : MtR X "tuple.index" (rTIdx X.K) := by
  intro pins s σ H x xs v us Q I rx rxs ⟨a, ys, y, j, ex, exs, hs, fy, fys, hj, first, q⟩
  subst ex; subst exs
  cases rx
  cases rxs with
  | cons ry rt =>
    rename_i uy ut
    cases rt
    obtain ⟨its, rv, p, hz⟩ := I.tuple hs
    have ptup : s.heap.IsTuple a its.toArray := p
    obtain ⟨⟨oc, od, oda, osl⟩, ho, hc, n, hd⟩ := ptup
    simp only at hc hd
    subst hc; subst hd
    have vl := rv.length
    have hji : j < its.toArray.size := by simpa using (by omega : j < its.length)
    -- the answers of ==, place by place
    have ans : ∀ (m : Nat) (hm : m < its.toArray.size), m ≤ j → eqU y its.toArray[m] = decide (m = j) := fun m hm hmj => by
      have hml : m < its.length := by simpa using hm
      have hmy : m < ys.length := by omega
      obtain ⟨u, hu, ru⟩ := rv.get (List.getElem?_eq_getElem hmy)
      obtain ⟨_, eu⟩ := List.getElem?_eq_some_iff.mp hu
      have e1 : its.toArray[m] = u := by simpa using eu
      rw [e1, eqU_of ru (flat_at fys (List.getElem?_eq_getElem hmy))]
      exact first m _ hmj (List.getElem?_eq_getElem hmy)
    refine call_meets PySem.F.slot_tuple_index ⟨_, ho, rfl⟩ PySem.F.entry_tuple_index (PySem.F.args_tuple_index_2 _ _)
      (SeqAt.tuple_index2_found a its.toArray n od osl uy (fun m => eqU y (its.toArray.getD m .none)) j hji (Nat.zero_le _) hji ?_ fun m hm _ hmj => ?_) ⟨ho, fun m hm => ?_, ⟨.int (j : Nat), H, I.tok _, ⟨_, rfl⟩, q⟩⟩
    · show eqU y (its.toArray.getD j .none) = true
      rw [Array.getD_eq_getD_getElem?, Array.getElem?_eq_getElem hji]
      exact (ans j hji (Nat.le_refl _)).trans (decide_eq_true rfl)
    · show eqU y (its.toArray.getD m .none) = false
      rw [Array.getD_eq_getD_getElem?, Array.getElem?_eq_getElem hm]
      exact (ans m hm (Nat.le_of_lt hmj)).trans (decide_eq_false (Nat.ne_of_lt hmj))
    · show SeqAt.EqAt _ _ _ _ (eqU y (its.toArray.getD m .none))
      rw [Array.getD_eq_getD_getElem?, Array.getElem?_eq_getElem hm]
      exact mem_eqAt ry fy rv fys _ (by simp)
/-- the first place of an equal one -/
def firstAt (x : D) : List D → Nat → Option Nat
  | [], _ => none
  | y :: r, i => if eqF y x = true then some i else firstAt x r (i + 1)
theorem firstAt_ok {x : D} : ∀ {ds : List D} {i j : Nat}, firstAt x ds i = some j → ∃ k, j = i + k ∧ k < ds.length ∧ ∀ m d, m ≤ k → ds[m]? = some d → eqF d x = decide (m = k)
  | [], _, _, h => by cases h
  | y :: r, i, j, h => by
    unfold firstAt at h
    split at h
    · rename_i hy
      cases h
      refine ⟨0, rfl, by simp, fun m d hm e => ?_⟩
      obtain rfl : m = 0 := by omega
      simp at e
      subst e
      rw [hy]; rfl
    · rename_i hy
      obtain ⟨k, e1, e2, e3⟩ := firstAt_ok h
      refine ⟨k + 1, by omega, by simp; omega, fun m d hm e => ?_⟩
      cases m with
      | zero =>
        simp at e
        subst e
        rw [Bool.eq_false_iff.mpr hy]
        exact (decide_eq_false (by omega)).symm
      | succ m =>
        rw [e3 m d (by omega) (by simpa using e)]
        by_cases z : m = k
        · subst z; simp
        · rw [decide_eq_false z, decide_eq_false (by omega)]
def tidxZ : D → D → Option Z
  | .tup ds, y => if flatD y = true ∧ ds.all flatD = true then (firstAt y ds 0).map fun j => .sh (.int (j : Nat)) else none
  | _, _ => none
end DL

/-! DL, part 22: [e for x in xs if t for y in ys if u]. -/
namespace DL
open PySem PySem.Spec L2
open PyProof.Rows hiding St
set_option autoImplicit false

def noXI (f : Fi) : Fi := fun es => match f es with
  | .ex _ _ => .st
  | r => r
theorem noXI_ok {f : Fi} {es : Ev} {p : List D × Ev} (h : noXI f es = .ok p) : f es = .ok p := by
  unfold noXI at h
  split at h
  · cases h
  · exact h
theorem noXI_ex {f : Fi} {es e : Ev} {x : Xn} : noXI f es ≠ .ex x e := by
  unfold noXI
  split
  · exact fun h => nomatch h
  · rename_i h
    exact fun z => h _ _ z
/-- the inner walk ends, or nothing is said -/
theorem lcL_end (p : Pt) (ft : Ft) (fe : Fe) (vs : List Nat) : ∀ (ds : List D) (es : Ev), (∃ s, lcL p ft fe vs ds es = .ok s) ∨ lcL p ft fe vs ds es = .st
  | [], es => .inl ⟨_, rfl⟩
  | d :: ds, es => by
    unfold lcL
    cases p d (wipeE es vs) with
    | none => exact .inr rfl
    | some e1 =>
      simp only [Rs.of_some, Rs.bind_ok]
      cases hb : noXT ft e1 with
      | ex x e => exact absurd hb noXT_ex
      | st => exact .inr rfl
      | ok b =>
        simp only [Rs.bind_ok]
        split
        · cases hr : noX fe b.2 with
          | ex x e => exact absurd hr noX_ex
          | st => exact .inr rfl
          | ok r =>
            simp only [Rs.bind_ok]
            cases toSh r.1 r.2 with
            | none => exact .inr rfl
            | some q =>
              simp only [Rs.of_some, Rs.bind_ok]
              rcases lcL_end p ft fe vs ds (unw es q.2 vs) with ⟨s, h⟩ | h
              · rw [h]; exact .inl ⟨_, rfl⟩
              · rw [h]; exact .inr rfl
        · exact lcL_end p ft fe vs ds _
def lcL2 (p : Pt) (ft : Ft) (fi1 : Fi) (p1 : Pt) (ft1 : Ft) (fe : Fe) (vs vs1 : List Nat) : List D → Ev → Rs (List D × Ev)
  | [], es => .ok ([], es)
  | d :: ds, es => (Rs.of (p d (wipeE es vs))).bind fun e1 => (noXT ft e1).bind fun b => if b.1 = true then
      (noXI fi1 b.2).bind fun q => (lcL p1 ft1 fe vs1 q.1 q.2).bind fun s => (lcL2 p ft fi1 p1 ft1 fe vs vs1 ds (unw es s.2 vs)).bind fun t => .ok (s.1 ++ t.1, t.2)
    else lcL2 p ft fi1 p1 ft1 fe vs vs1 ds (unw es b.2 vs)
/-- .. the whole list must fit -/
def fLc2 (fi : Fi) (p : Pt) (ft : Ft) (fi1 : Fi) (p1 : Pt) (ft1 : Ft) (fe : Fe) (vs vs1 : List Nat) : Fe := fun es => (fi es).bind fun q => (lcL2 p ft fi1 p1 ft1 fe vs vs1 q.1 q.2).bind fun s => if s.1.length ≤ sizeLine then .ok (.fr (.lst s.1), s.2) else .st
/-- a loop's turn in a block, seen from the slots around it -/
theorem turn_out {K : Kx} {σ σ' : St} {es e1 : Ev} {P3 H3 : Hp} {vs : List Nat} (ok3 : EnvOk K P3 H3 σ es) (gt : GoS K (wipe σ vs) (wipeE es vs) P3 H3 σ' e1 P3 H3) (len : σ'.length = (wipe σ vs).length)
    (hout : ∀ (j : Nat), j ∉ vs → σ'[j]? = (wipe σ vs)[j]? ∧ e1[j]? = (wipeE es vs)[j]?) {ei : Ev} {P5 H5 : Hp} (g5 : GoE K σ' e1 P3 H3 ei P5 H5) : GoE K σ es P3 H3 (unw es ei vs) P5 H5 :=
  unw_go ok3 (gt.e g5) len (fun j hj => (hout j hj).1) fun j d' hj hd => by
    obtain ⟨d, hd⟩ := g5.le j d' hd
    refine ⟨d, ?_⟩
    unfold ownAt at hd ⊢
    rw [(hout j hj).2, wipeE_out hj] at hd
    exact hd
/-- an address that no slot owns, not shared, stays so -/
theorem apart_out {K : Kx} {σ : St} {es es1 : Ev} {P H P1 H1 : Hp} {D : Addr} {o : HO} (g : GoE K σ es P H es1 P1 H1) (hD : H D = some o) (hP : P D = none) (no : ¬ Own σ es D) : H1 D = some o ∧ P1 D = none ∧ ¬ Own σ es1 D := by
  refine ⟨g.st.keep D _ no hD, ?_, fun z => no (g.own z)⟩
  cases e : P1 D with
  | none => rfl
  | some u =>
    rcases g.st.new D u e with k | k | k
    · rw [hP] at k; cases k
    · rw [hD] at k; cases k
    · exact absurd k no
/-! ### an address that nothing shares or owns is taken out -/
section
variable {K : Kx} {σ σ' : St} {es es1 e1 : Ev} {P H P1 H1 : Hp} {D : Addr}
theorem del_of {H : Hp} {D a : Addr} {o : HO} (h0 : H D = none) (e : H a = some o) : a ≠ D := fun z => by rw [z, h0] at e; cases e
theorem del_none {H : Hp} {D a : Addr} (e : H a = none) : del H D a = none := by
  by_cases z : a = D
  · rw [z]; exact del_same
  · rw [del_ne z]; exact e
theorem del_some {H : Hp} {D a : Addr} {o : HO} (e : del H D a = some o) : a ≠ D ∧ H a = some o := by
  by_cases z : a = D
  · rw [z, del_same] at e; cases e
  · rw [del_ne z] at e; exact ⟨z, e⟩
theorem EnvOk.drop (ok : EnvOk K P H σ es) (hp : P D = none) (no : ¬ Own σ es D) : EnvOk K P (del H D) σ es where
  len := ok.len
  sub := fun a o e => by rw [del_ne (del_of hp e)]; exact ok.sub a o e
  sh := ok.sh
  ow := fun i d e => by
    obtain ⟨a, h1, h2⟩ := ok.ow i d e
    have ne : a ≠ D := fun z => no ⟨i, d, e, by rw [← z]; exact h1⟩
    exact ⟨a, h1, h2.move (Same.refl _) h2.1 fun o q => by rw [del_ne ne]; exact q⟩
  apart := ok.apart
theorem GoE.drop (g : GoE K σ es P H es1 P1 H1) (h0 : H D = none) (hp : P1 D = none) (no : ¬ Own σ es1 D) : GoE K σ es P H es1 P1 (del H1 D) :=
  ⟨⟨g.st.pp, g.st.new, fun a o n e => by rw [del_ne (del_of h0 e)]; exact g.st.keep a o n e, fun a o e => by
    obtain ⟨o', q⟩ := g.st.there a o e
    exact ⟨o', by rw [del_ne (del_of h0 e)]; exact q⟩⟩, g.ok.drop hp no, g.le, g.io⟩
theorem GoE.from0 (g : GoE K σ es P H es1 P1 H1) : GoE K σ es P (del H D) es1 P1 H1 :=
  ⟨⟨g.st.pp, fun a o e => by
    rcases g.st.new a o e with q | q | q
    · exact .inl q
    · exact .inr (.inl (del_none q))
    · exact .inr (.inr q), fun a o n e => g.st.keep a o n (del_some e).2, fun a o e => g.st.there a o (del_some e).2⟩, g.ok, g.le, g.io⟩
theorem GoS.dropT (g : GoS K σ es P H σ' e1 P H) (hp : P D = none) (no : ¬ Own σ' e1 D) : GoS K σ es P (del H D) σ' e1 P (del H D) :=
  ⟨.refl, g.ok.drop hp no, fun a h => by
    rcases g.le a h with q | q
    · exact .inl q
    · exact .inr (del_none q), g.io⟩
end
/-- a walk in a block that fills the list at D, from a base without it -/
theorem inner_walk {K : Kx} {σ : St} {e0 es4 : Ev} {P0 B P4 H4 : Hp} {D : Addr} {acc : List V} {dacc ds : List DL.D} {J : It} {p1 : Pt} {sl vs : List Nat} {ft : Ft} {fe : Fe} {s : List DL.D × Ev} {Nx : Hp → Prop} (hB : B D = none) (g : GoE K σ e0 P0 B es4 P4 H4) (hD : H4 D = some (.lst acc)) (hP : P4 D = none) (no : ¬ Own σ es4 D) (dn : DnA K P4 acc dacc)
    (it : ItOk K J ds P4) (hsl : ∀ j, j ∈ sl → j ∈ vs) (hs : lcL p1 ft fe vs ds es4 = .ok s) (fit : dacc.length + s.1.length ≤ sizeLine)
    (fin : ∀ P5 H5 acc5, GoE K σ e0 P0 B s.2 P5 H5 → H5 D = some (.lst acc5) → P5 D = none → ¬ Own σ s.2 D → Same P4 P5 → DnA K P5 acc5 (dacc ++ s.1) → Nx H5) :
    ∃ W : Nat → Nat → Hp → Prop, (∃ m, W 0 m H4) ∧ ∀ j k H, W j k H → (J.stop j H ∧ Nx H) ∨ (J.go j H ∧ ∃ Nx1 : Hp → Prop, (∀ H', Nx1 H' → ∃ k', k' < k ∧ W (j + 1) k' H') ∧ ∀ x H', J.yld j H x H' → tG K p1 sl x (wipe σ vs) H' fun σ3 H5 => wipe σ3 vs = wipe σ vs ∧ tDT K W0 ft σ3 H5 fun b H6 =>
      if b = true then tD K W0 fe σ3 H6 fun y H7 => ∃ acc, H7 D = some (.lst acc) ∧ acc.length < sizeLine ∧ Nx1 (upd H7 D (.lst (acc ++ [y]))) else Nx1 H6) := by
  refine ⟨fun j k H => k = ds.length - j ∧ j ≤ ds.length ∧ ∃ P5 es5 acc5 dacc5 t, GoE K σ e0 P0 B es5 P5 H ∧ H D = some (.lst acc5) ∧ P5 D = none ∧ ¬ Own σ es5 D ∧ Same P4 P5 ∧ DnA K P5 acc5 dacc5 ∧ lcL p1 ft fe vs (ds.drop j) es5 = .ok t ∧ t.2 = s.2 ∧ dacc5 ++ t.1 = dacc ++ s.1,
    ⟨ds.length, by simp, Nat.zero_le _, P4, es4, acc, dacc, s, g, hD, hP, no, Same.refl _, dn, hs, rfl, rfl⟩, fun j k H2 ⟨ek, hj, P2, es2, acc2, dacc2, t, g2, hD2, hPD, hOD, s42, dn2, ht, e2, ed2⟩ => ?_⟩
  by_cases hlt : j < ds.length
  · refine .inr ⟨it.go j P2 H2 hlt s42 g2.ok.sub, fun H3 => ∃ P3 es3 acc3 dacc3 t3, GoE K σ e0 P0 B es3 P3 H3 ∧ H3 D = some (.lst acc3) ∧ P3 D = none ∧ ¬ Own σ es3 D ∧ Same P4 P3 ∧ DnA K P3 acc3 dacc3 ∧ lcL p1 ft fe vs (ds.drop (j + 1)) es3 = .ok t3 ∧ t3.2 = s.2 ∧ dacc3 ++ t3.1 = dacc ++ s.1,
      fun H3 n3 => ⟨ds.length - (j + 1), by omega, rfl, hlt, n3⟩, fun x H3 y => ?_⟩
    rw [List.drop_eq_getElem_cons hlt] at ht
    unfold lcL at ht
    cases z1 : p1 ds[j] (wipeE es2 vs) with
    | none => rw [z1] at ht; cases ht
    | some e1 =>
      rw [z1] at ht
      simp only [Rs.of_some, Rs.bind_ok] at ht
      obtain ⟨P3, g3, dn3, s23, hD3, hPD3⟩ : ∃ P3, GoE K σ e0 P0 B es2 P3 H3 ∧ Dn K P3 x ds[j] ∧ Same P2 P3 ∧ H3 D = some (.lst acc2) ∧ P3 D = none := by
        rcases it.yld j P2 H2 x H3 ds[j] (List.getElem?_eq_getElem hlt) s42 g2.ok.sub y with ⟨rfl, q⟩ | ⟨a, o, n, rfl, q⟩
        · exact ⟨P2, g2, q, Same.refl _, hD2, hPD⟩
        · have ne : D ≠ a := ne_of_none hD2 n
          exact ⟨upd P2 a o, g2.allocP n, q, same_updP g2.ok.sub n, by rw [upd_ne ne]; exact hD2, by rw [upd_ne ne]; exact hPD⟩
      refine ⟨P3, wipeE es2 vs, _, e1, g3.ok.wipe vs, dn3, z1, fun σ3 gt ot => ?_⟩
      have hout : ∀ (i : Nat), i ∉ vs → σ3[i]? = (wipe σ vs)[i]? ∧ e1[i]? = (wipeE es2 vs)[i]? := fun i hi => ot.2 i fun z => hi (hsl i z)
      refine ⟨?_, ?_⟩
      · apply List.ext_getElem?
        intro i
        by_cases hi : i ∈ vs
        · by_cases hl : i < σ.length
          · rw [wipe_in hi (by rw [ot.1, wipe_length]; exact hl), wipe_in hi hl]
          · rw [List.getElem?_eq_none (by rw [wipe_length, ot.1, wipe_length]; omega), List.getElem?_eq_none (by rw [wipe_length]; omega)]
        · rw [wipe_out hi, (hout i hi).1]
      refine ⟨P3, e1, gt.ok, ?_⟩
      cases eb : noXT ft e1 with
      | ex x' es' => exact absurd eb noXT_ex
      | st => rw [eb] at ht; cases ht
      | ok b =>
        rw [eb] at ht
        simp only [Rs.bind_ok] at ht
        rw [noXT_ok eb]
        intro P6 H6 g6
        have back : ∀ {ei : Ev} {P5 H5 : Hp}, GoE K σ3 e1 P3 H3 ei P5 H5 → GoE K σ e0 P0 B (unw es2 ei vs) P5 H5 ∧ H5 D = some (.lst acc2) ∧ P5 D = none ∧ ¬ Own σ (unw es2 ei vs) D := fun {ei P5 H5} g5 => by
          have gu := turn_out g3.ok gt ot.1 hout g5
          obtain ⟨q1, q2, q3⟩ := apart_out gu hD3 hPD3 hOD
          exact ⟨g3.trans gu, q1, q2, q3⟩
        by_cases hb : b.1 = true
        · rw [if_pos hb] at ht ⊢
          refine ⟨P6, b.2, g6.ok, ?_⟩
          cases er : noX fe b.2 with
          | ex x' es' => exact absurd er noX_ex
          | st => rw [er] at ht; cases ht
          | ok r =>
            rw [er] at ht
            simp only [Rs.bind_ok] at ht
            rw [noX_ok er]
            intro v P7 H7 g7 rel
            cases eq : toSh r.1 r.2 with
            | none => rw [eq] at ht; cases ht
            | some q =>
              rw [eq] at ht
              simp only [Rs.of_some, Rs.bind_ok] at ht
              obtain ⟨P8, g8, dn8, s78⟩ := toSh_ok g7 rel eq
              obtain ⟨gu, hD5, hPD5, hO5⟩ := back (g6.trans g8)
              have s38 : Same P3 P8 := g6.st.pp.trans g8.st.pp
              cases el : lcL p1 ft fe vs (ds.drop (j + 1)) (unw es2 q.2 vs) with
              | ex x' e' => rcases lcL_end p1 ft fe vs (ds.drop (j + 1)) (unw es2 q.2 vs) with ⟨w, h⟩ | h <;> (rw [el] at h; cases h)
              | st => rw [el] at ht; cases ht
              | ok w =>
                rw [el] at ht
                simp only [Rs.bind_ok] at ht
                cases ht
                have tot := congrArg List.length ed2
                rw [List.length_append, List.length_append, List.length_cons] at tot
                have la := dn2.length
                refine ⟨acc2, hD5, by omega, P8, _, acc2 ++ [v], dacc2 ++ [q.1], w, gu.hid hB hPD5 hO5 ⟨_, hD5⟩, upd_same, hPD5, hO5, (s42.trans s23).trans s38, (dn2.mono (s23.trans s38)).snoc dn8, el, e2, by rw [List.append_assoc]; exact ed2⟩
        · rw [if_neg hb] at ht ⊢
          obtain ⟨gu, hD5, hPD5, hO5⟩ := back g6
          exact ⟨P6, _, acc2, dacc2, t, gu, hD5, hPD5, hO5, (s42.trans s23).trans g6.st.pp, dn2.mono (s23.trans g6.st.pp), ht, e2, ed2⟩
  · have e : j = ds.length := by omega
    subst e
    rw [List.drop_length] at ht
    unfold lcL at ht
    cases ht
    rw [List.append_nil] at ed2
    refine .inl ⟨it.stop P2 H2 s42 g2.ok.sub, ?_⟩
    have e2 : es2 = s.2 := e2
    subst e2
    exact fin P2 H2 acc2 g2 hD2 hPD hOD s42 (by rw [← ed2]; exact dn2)
end DL

/-! DL, part 23: the rule for two generators. -/
namespace DL
open PySem PySem.Spec L2
open PyProof.Rows hiding St
set_option autoImplicit false

theorem lcL2_end (p : Pt) (ft : Ft) (fi1 : Fi) (p1 : Pt) (ft1 : Ft) (fe : Fe) (vs vs1 : List Nat) : ∀ (ds : List D) (es : Ev), (∃ s, lcL2 p ft fi1 p1 ft1 fe vs vs1 ds es = .ok s) ∨ lcL2 p ft fi1 p1 ft1 fe vs vs1 ds es = .st
  | [], es => .inl ⟨_, rfl⟩
  | d :: ds, es => by
    unfold lcL2
    cases p d (wipeE es vs) with
    | none => exact .inr rfl
    | some e1 =>
      simp only [Rs.of_some, Rs.bind_ok]
      cases hb : noXT ft e1 with
      | ex x e => exact absurd hb noXT_ex
      | st => exact .inr rfl
      | ok b =>
        simp only [Rs.bind_ok]
        split
        · cases hr : noXI fi1 b.2 with
          | ex x e => exact absurd hr noXI_ex
          | st => exact .inr rfl
          | ok q =>
            simp only [Rs.bind_ok]
            rcases lcL_end p1 ft1 fe vs1 q.1 q.2 with ⟨s, h⟩ | h
            · rw [h]
              simp only [Rs.bind_ok]
              rcases lcL2_end p ft fi1 p1 ft1 fe vs vs1 ds (unw es s.2 vs) with ⟨t, h2⟩ | h2
              · rw [h2]; exact .inl ⟨_, rfl⟩
              · rw [h2]; exact .inr rfl
            · rw [h]; exact .inr rfl
        · exact lcL2_end p ft fi1 p1 ft1 fe vs vs1 ds _
theorem lc2_ok {X : Cx} {we : WX} {fi fi1 : Fi} {p p1 : Pt} {sl sl1 vs vs1 : List Nat} {ft ft1 : Ft} {fe : Fe} (hsl' : ∀ j, j ∈ sl → j ∈ vs) (hsl1' : ∀ j, j ∈ sl1 → j ∈ vs1) (hv' : ∀ j ∈ vs1, j ∈ vs) {σ : St} {H : Hp} {Q : VK} (h : tD (kx X ⟨we, none⟩) we (fLc2 fi p ft fi1 p1 ft1 fe vs vs1) σ H Q) :
    tLc2 (tDI (kx X ⟨we, none⟩) we fi) (tG (kx X ⟨we, none⟩) p sl) (tDT (kx X ⟨we, none⟩) W0 ft) (tDI (kx X ⟨we, none⟩) W0 fi1) (tG (kx X ⟨we, none⟩) p1 sl1) (tDT (kx X ⟨we, none⟩) W0 ft1) (tD (kx X ⟨we, none⟩) W0 fe) vs vs1 σ H Q := by
  obtain ⟨P, es, ok, h⟩ := h
  have h := G.bind h.g
  refine ⟨P, es, ok, ?_⟩
  cases e0 : fi es with
  | ex x es' => rw [e0] at h; exact h
  | st => rw [e0] at h; exact h
  | ok q =>
    rw [e0] at h
    intro P1 H1 J g1 it D nD
    have h := G.bind h
    obtain ⟨s, es0, h⟩ : ∃ s, lcL2 p ft fi1 p1 ft1 fe vs vs1 q.1 q.2 = .ok s ∧ G (kx X ⟨we, none⟩) we σ es P H (if s.1.length ≤ sizeLine then (.ok (.fr (.lst s.1), s.2) : Rs (R × Ev)) else .st) fun r => ∀ v P' H', GoE (kx X ⟨we, none⟩) σ es P H r.2 P' H' → RelR (kx X ⟨we, none⟩) H P' H' σ r.2 v r.1 → Q v H' := by
      rcases lcL2_end p ft fi1 p1 ft1 fe vs vs1 q.1 q.2 with ⟨s, e⟩ | e
      · rw [e] at h; exact ⟨s, e, h⟩
      · rw [e] at h; exact h.elim
    split at h
    · rename_i fit
      have hQ : ∀ v P' H', GoE (kx X ⟨we, none⟩) σ es P H s.2 P' H' → RelR (kx X ⟨we, none⟩) H P' H' σ s.2 v (.fr (.lst s.1)) → Q v H' := h
      have h0D : H D = none := g1.st.free nD
      have noP : P1 D = none := by
        cases e : P1 D with
        | none => rfl
        | some u => rw [g1.ok.sub _ _ e] at nD; cases nD
      have noO : ¬ Own σ q.2 D := fun ⟨i, d, h1, h2⟩ => by
        obtain ⟨a, h3, h4⟩ := g1.ok.ow i d h1
        rw [h2] at h3; cases h3
        obtain ⟨u, hu⟩ := h4.tracked
        rw [nD] at hu; cases hu
      refine ⟨fun i m H2 => m = q.1.length - i ∧ i ≤ q.1.length ∧ ∃ P2 es2 acc dacc t, GoE (kx X ⟨we, none⟩) σ es P H es2 P2 H2 ∧ H2 D = some (.lst acc) ∧ P2 D = none ∧ ¬ Own σ es2 D ∧ Same P1 P2 ∧ DnA (kx X ⟨we, none⟩) P2 acc dacc ∧
          lcL2 p ft fi1 p1 ft1 fe vs vs1 (q.1.drop i) es2 = .ok t ∧ t.2 = s.2 ∧ dacc ++ t.1 = s.1,
        ⟨q.1.length, by simp, Nat.zero_le _, P1, q.2, [], [], s, g1.alloc nD, upd_same, noP, noO, Same.refl _, .nil, es0, rfl, rfl⟩, fun i m H2 ⟨em, hi, P2, es2, acc, dacc, t, g2, hD, hPD, hOD, s12, dn2, hT, e2, ed⟩ => ?_⟩
      by_cases hlt : i < q.1.length
      · refine .inr ⟨it.go i P2 H2 hlt s12 g2.ok.sub, fun H3 => ∃ P3 es3 acc3 dacc3 t3, GoE (kx X ⟨we, none⟩) σ es P H es3 P3 H3 ∧ H3 D = some (.lst acc3) ∧ P3 D = none ∧ ¬ Own σ es3 D ∧ Same P1 P3 ∧ DnA (kx X ⟨we, none⟩) P3 acc3 dacc3 ∧
            lcL2 p ft fi1 p1 ft1 fe vs vs1 (q.1.drop (i + 1)) es3 = .ok t3 ∧ t3.2 = s.2 ∧ dacc3 ++ t3.1 = s.1,
          fun H3 n3 => ⟨q.1.length - (i + 1), by omega, rfl, hlt, n3⟩, fun x H3 y => ?_⟩
        rw [List.drop_eq_getElem_cons hlt] at hT
        unfold lcL2 at hT
        cases z1 : p q.1[i] (wipeE es2 vs) with
        | none => rw [z1] at hT; cases hT
        | some e1 =>
          rw [z1] at hT
          simp only [Rs.of_some, Rs.bind_ok] at hT
          obtain ⟨P3, g3, dn3, s23, hD3, hPD3⟩ : ∃ P3, GoE (kx X ⟨we, none⟩) σ es P H es2 P3 H3 ∧ Dn (kx X ⟨we, none⟩) P3 x q.1[i] ∧ Same P2 P3 ∧ H3 D = some (.lst acc) ∧ P3 D = none := by
            rcases it.yld i P2 H2 x H3 q.1[i] (List.getElem?_eq_getElem hlt) s12 g2.ok.sub y with ⟨rfl, dn⟩ | ⟨a, o, n, rfl, dn⟩
            · exact ⟨P2, g2, dn, Same.refl _, hD, hPD⟩
            · have ne : D ≠ a := ne_of_none hD n
              exact ⟨upd P2 a o, g2.allocP n, dn, same_updP g2.ok.sub n, by rw [upd_ne ne]; exact hD, by rw [upd_ne ne]; exact hPD⟩
          refine ⟨P3, wipeE es2 vs, _, e1, g3.ok.wipe vs, dn3, z1, fun σ3 gt ot => ?_⟩
          have hout : ∀ (j : Nat), j ∉ vs → σ3[j]? = (wipe σ vs)[j]? ∧ e1[j]? = (wipeE es2 vs)[j]? := fun j hj => ot.2 j fun z => hj (hsl' j z)
          refine ⟨?_, ?_⟩
          · apply List.ext_getElem?
            intro j
            by_cases hj : j ∈ vs
            · by_cases hl : j < σ.length
              · rw [wipe_in hj (by rw [ot.1, wipe_length]; exact hl), wipe_in hj hl]
              · rw [List.getElem?_eq_none (by rw [wipe_length, ot.1, wipe_length]; omega), List.getElem?_eq_none (by rw [wipe_length]; omega)]
            · rw [wipe_out hj, (hout j hj).1]
          -- D stands apart in the block too
          have nOw : ¬ Own (wipe σ vs) (wipeE es2 vs) D := fun ⟨j, d, k1, k2⟩ => by
            obtain ⟨hj, k1⟩ := own_wipe k1
            rw [wipe_out hj] at k2
            exact hOD ⟨j, d, k1, k2⟩
          have nO3 : ¬ Own σ3 e1 D := fun z => by
            rcases gt.le D z with k | k
            · exact nOw k
            · rw [hD3] at k; cases k
          refine ⟨P3, e1, gt.ok, ?_⟩
          cases eb : noXT ft e1 with
          | ex x' es' => exact absurd eb noXT_ex
          | st => rw [eb] at hT; cases hT
          | ok b =>
            rw [eb] at hT
            simp only [Rs.bind_ok] at hT
            rw [noXT_ok eb]
            intro P4 H4 g4
            by_cases hb : b.1 = true
            · rw [if_pos hb] at hT ⊢
              refine ⟨P4, b.2, g4.ok, ?_⟩
              cases er : noXI fi1 b.2 with
              | ex x' es' => exact absurd er noXI_ex
              | st => rw [er] at hT; cases hT
              | ok r =>
                rw [er] at hT
                simp only [Rs.bind_ok] at hT
                rw [noXI_ok er]
                intro P5 H5 J1 g5 it1
                cases el : lcL p1 ft1 fe vs1 r.1 r.2 with
                | ex x' e' => rcases lcL_end p1 ft1 fe vs1 r.1 r.2 with ⟨w, h⟩ | h <;> (rw [el] at h; cases h)
                | st => rw [el] at hT; cases hT
                | ok w =>
                  rw [el] at hT
                  simp only [Rs.bind_ok] at hT
                  cases eo : lcL2 p ft fi1 p1 ft1 fe vs vs1 (q.1.drop (i + 1)) (unw es2 w.2 vs) with
                  | ex x' e' => rcases lcL2_end p ft fi1 p1 ft1 fe vs vs1 (q.1.drop (i + 1)) (unw es2 w.2 vs) with ⟨u, h⟩ | h <;> (rw [eo] at h; cases h)
                  | st => rw [eo] at hT; cases hT
                  | ok u =>
                    rw [eo] at hT
                    simp only [Rs.bind_ok] at hT
                    cases hT
                    have g35 := g4.trans g5
                    obtain ⟨hD5, hPD5, hO5⟩ := apart_out g35 hD3 hPD3 nO3
                    have tot := congrArg List.length ed
                    rw [List.length_append, List.length_append] at tot
                    -- from a base without D
                    refine inner_walk (B := del H3 D) (acc := acc) (dacc := dacc) del_same g35.from0 hD5 hPD5 hO5 (dn2.mono (s23.trans g35.st.pp)) it1 hsl1' el (by omega) fun P6 H6 acc6 g6 hD6 hPD6 hO6 s56 dn6 => ?_
                    have ok3 := g3.ok.drop hPD3 hOD
                    have gu := turn_out ok3 (gt.dropT hPD3 nO3) ot.1 hout g6
                    have gall := (g3.drop h0D hPD3 hOD).trans gu
                    have nOu : ¬ Own σ (unw es2 w.2 vs) D := fun z => hOD (gu.own z)
                    exact ⟨P6, _, acc6, dacc ++ w.1, u, gall, hD6, hPD6, nOu, ((s12.trans s23).trans g35.st.pp).trans s56, dn6, eo, e2, by rw [List.append_assoc]; exact ed⟩
            · rw [if_neg hb] at hT ⊢
              have gu := turn_out g3.ok gt ot.1 hout g4
              obtain ⟨q1, q2, q3⟩ := apart_out gu hD3 hPD3 hOD
              exact ⟨P4, _, acc, dacc, t, g3.trans gu, q1, q2, q3, (s12.trans s23).trans g4.st.pp, dn2.mono (s23.trans g4.st.pp), hT, e2, ed⟩
      · have e : i = q.1.length := by omega
        subst e
        rw [List.drop_length] at hT
        unfold lcL2 at hT
        cases hT
        rw [List.append_nil] at ed
        have e2 : es2 = s.2 := e2
        subst e2
        refine .inl ⟨it.stop P2 H2 s12 g2.ok.sub, hQ (.ref D) P2 H2 g2 ⟨D, rfl, ⟨hPD, acc, hD, ?_, by rw [← ed]; exact dn2⟩, hOD, h0D⟩⟩
        rw [dn2.length, ed]
        exact fit
    · exact h.elim
theorem de_lc2 {X : Cx} {we : WX} {elt tg iter tg1 iter1 : Expr} {ifs ifs1 : List Expr} {scope : Scope} {own : List (Str × Nat)} {pos : Pos} {fi fi1 : Fi} {p p1 : Pt} {sl sl1 vs1 : List Nat} {ft ft1 : Ft} {fe : Fe} (hc : X.calm = true) (hN : X.N.Nodup) (hi : DI X ⟨we, none⟩ tg iter fi) (ok : BlkOk X.N X.env.scope scope own)
    (hg : ∀ (s : Shared) (H : Hp) (C : Addr) (cl : List (Str × Addr)) (fp : List Addr), DG (X.blk s H scope (compEnvC scope cl C X.env) fp) N0 tg p sl) (ht : ∀ (s : Shared) (H : Hp) (C : Addr) (cl : List (Str × Addr)) (fp : List Addr), DTs (X.blk s H scope (compEnvC scope cl C X.env) fp) N0 ifs ft)
    (hi1 : ∀ (s : Shared) (H : Hp) (C : Addr) (cl : List (Str × Addr)) (fp : List Addr), DI (X.blk s H scope (compEnvC scope cl C X.env) fp) N0 tg1 iter1 fi1)
    (hg1 : ∀ (s : Shared) (H : Hp) (C : Addr) (cl : List (Str × Addr)) (fp : List Addr), DG (X.blk s H scope (compEnvC scope cl C X.env) fp) N0 tg1 p1 sl1) (ht1 : ∀ (s : Shared) (H : Hp) (C : Addr) (cl : List (Str × Addr)) (fp : List Addr), DTs (X.blk s H scope (compEnvC scope cl C X.env) fp) N0 ifs1 ft1)
    (he : ∀ (s : Shared) (H : Hp) (C : Addr) (cl : List (Str × Addr)) (fp : List Addr), DE (X.blk s H scope (compEnvC scope cl C X.env) fp) N0 elt fe) (hsl : sl.all (fun j => decide (j ∈ own.map (·.2))) = true := by decide) (hsl1 : sl1.all (fun j => decide (j ∈ vs1)) = true := by decide)
    (hv : vs1.all (fun j => decide (j ∈ own.map (·.2))) = true := by decide) (hs : ∀ x, foldedSetIterable iter X.env x = pure x := by intro _; rfl) (hs1 : ∀ env x, foldedSetIterable iter1 env x = pure x := by intro _ _; rfl) :
    DE X ⟨we, none⟩ (.ListComp elt [⟨tg, iter, ifs, 0⟩, ⟨tg1, iter1, ifs1, 0⟩] scope pos) (fLc2 fi p ft fi1 p1 ft1 fe (own.map (·.2)) vs1) := by
  have hsl' : ∀ j, j ∈ sl → j ∈ own.map (·.2) := fun j hj => of_decide_eq_true (List.all_eq_true.mp hsl j hj)
  have hsl1' : ∀ j, j ∈ sl1 → j ∈ vs1 := fun j hj => of_decide_eq_true (List.all_eq_true.mp hsl1 j hj)
  have hv' : ∀ j ∈ vs1, j ∈ own.map (·.2) := fun j hj => of_decide_eq_true (List.all_eq_true.mp hv j hj)
  exact pe_imp (pe_lc2 (g := tG (kx X ⟨we, none⟩) p sl) (tt := tDT (kx X ⟨we, none⟩) W0 ft) (wi1 := tDI (kx X ⟨we, none⟩) W0 fi1) (g1 := tG (kx X ⟨we, none⟩) p1 sl1) (tt1 := tDT (kx X ⟨we, none⟩) W0 ft1) (te := tD (kx X ⟨we, none⟩) W0 fe) hc hN hi ok hv' hg ht hi1 hg1 ht1 he hs hs1)
    fun σ H Q h => lc2_ok hsl' hsl1' hv' h
end DL

/-! DL, part 24: defs with defaults. -/
namespace DL
open PySem PySem.Spec L2
open PyProof.Rows hiding St
set_option autoImplicit false

/-- THE RULE for a def with defaults that may raise -/
theorem fn_defXD {P : Program} {w : World} {K : PySem.W.Frag} {mg : Str → Option Value} {base : Heap} {x qual : Str} {params : Arguments} {body : List Stmt} {scope : Scope} {dvs : List V} {kws : List (Str × V)} {f : Addr} {fd : FuncData} {N ps : List Str} {k n : Nat} {g : Fs}
    (F : FunD K x qual params body scope dvs kws f fd) (S : FnScope N ps scope) (hn : ps.length = n)
    (hbody : ∀ (cdv : Value) (A : Around) (outer : List Env) (s : Shared) (H : Hp) (E : XK), Room k (A.deeper (envOfC qual scope s.heap.objs.size f cdv)) →
      Takes (cxOf (L2.CX P w) P w K mg base N qual scope f cdv A outer s H E) (wx E) → DSs (cxOf (L2.CX P w) P w K mg base N qual scope f cdv A outer s H E) ⟨wx E, none⟩ body g) :
    FnOk P w K mg base (L2.CX P w) (k + 1) f fd ps (spD K n (mDef N.length g)) := by
  refine F.ok S (fun vs H Q E h => by rw [h.1, hn]) fun cdv A outer s H vs Q E hr ⟨hl, P', cs, ok, no, h⟩ => ?_
  exact ⟨_, hbody cdv A outer s H E hr (takes_of rfl rfl rfl rfl), def_fin ok no h⟩
/-- .. that raises nothing -/
theorem fn_defD {P : Program} {w : World} {K : PySem.W.Frag} {mg : Str → Option Value} {base : Heap} {x qual : Str} {params : Arguments} {body : List Stmt} {scope : Scope} {dvs : List V} {kws : List (Str × V)} {f : Addr} {fd : FuncData} {N ps : List Str} {k n : Nat} {g : Fs}
    (F : FunD K x qual params body scope dvs kws f fd) (S : FnScope N ps scope) (hn : ps.length = n)
    (hbody : ∀ (cdv : Value) (A : Around) (outer : List Env) (s : Shared) (H : Hp) (E : XK), Room k (A.deeper (envOfC qual scope s.heap.objs.size f cdv)) → DSs (cxOf CX0 P w K mg base N qual scope f cdv A outer s H E).nox N0 body g) :
    FnOk P w K mg base CX0 (k + 1) f fd ps (spD0 K n (mDef N.length g)) := by
  refine F.ok S (fun vs H Q E h => by rw [h.1, hn]) fun cdv A outer s H vs Q E hr ⟨hl, P', cs, ok, no, h⟩ => ?_
  exact ⟨_, PSs.nox (hbody cdv A outer s H E hr), def_fin (Q := Q) (E := E0) ok no h⟩
end DL

/-! DL, part 25: a call whose last argument is a new list that the def changes. -/
namespace DL
open PySem PySem.Spec L2
open PyProof.Rows hiding St
set_option autoImplicit false

def fArgsL : List (Bool × Fe) → Fe → Ev → Rs ((List Ag × D) × Ev)
  | [], fl, es => (fl es).bind fun q => match q.1 with
    | .fr d => .ok (([], d), q.2)
    | _ => .st
  | (false, f) :: r, fl, es => (f es).bind fun p => (Rs.of (toSh p.1 p.2)).bind fun q => (fArgsL r fl q.2).bind fun s => .ok ((.sh q.1 :: s.1.1, s.1.2), s.2)
  | (true, f) :: r, fl, es => (f es).bind fun p => match p.1 with
    | .ow i => (fArgsL r fl p.2).bind fun s => .ok ((.io i :: s.1.1, s.1.2), s.2)
    | _ => .st
inductive DAL (X : Cx) (E : We) : List Expr → List (Bool × Fe) → Fe → Prop
  | last {e : Expr} {f : Fe} : DE X E e f → starEach [e] X.env = (false, eval e X.env) :: starEach [] X.env → DAL X E [e] [] f
  | cons {b : Bool} {e : Expr} {es : List Expr} {f fl : Fe} {fs : List (Bool × Fe)} : DE X E e f → starEach (e :: es) X.env = (false, eval e X.env) :: starEach es X.env → DAL X E es fs fl → DAL X E (e :: es) ((b, f) :: fs) fl
theorem DAL.arg {X : Cx} {E : We} {b : Bool} {e : Expr} {es : List Expr} {f fl : Fe} {fs : List (Bool × Fe)} (h : DE X E e f) (t : DAL X E es fs fl) (he : starEach (e :: es) X.env = (false, eval e X.env) :: starEach es X.env := by rfl) : DAL X E (e :: es) ((b, f) :: fs) fl := .cons h he t
theorem DAL.one {X : Cx} {E : We} {e : Expr} {f : Fe} (h : DE X E e f) (he : starEach [e] X.env = (false, eval e X.env) :: starEach [] X.env := by rfl) : DAL X E [e] [] f := .last h he
def tDAL (K : Kx) (E : WX) (f : Ev → Rs ((List Ag × D) × Ev)) : TA := fun σ H Q => ∃ P es, EnvOk K P H σ es ∧ G K E σ es P H (f es) fun p => ∀ vs v P' H', GoE K σ es P H p.2 P' H' → RelAs K P' σ vs p.1.1 → RelR K H P' H' σ p.2 v (.fr p.1.2) → Q (vs ++ [v]) H'
theorem dal_pa {X : Cx} {E : We} : ∀ {es : List Expr} {fs : List (Bool × Fe)} {fl : Fe}, DAL X E es fs fl → PA X es (tDAL (kx X E) E.w (fArgsL fs fl))
  | _, _, _, .last (f := f) he hs => by
    refine pa_imp (pa_cons he pa_nil hs) fun σ H Q ⟨P, es, ok, h⟩ => ?_
    refine tD_mono (tD_g (GoE.refl ok) (G.bind h)) fun v H1 ⟨r, es1, P1, g1, _, rel1, q1⟩ => ?_
    cases r with
    | fr d => exact q1 [] v P1 H1 g1 .nil rel1
    | sh d => exact False.elim q1
    | ow i => exact False.elim q1
  | _, _, _, .cons (b := b) (f := f) (fl := fl) (fs := fs) he hs t => by
    refine pa_imp (pa_cons he (dal_pa t) hs) fun σ H Q ⟨P, es, ok, h⟩ => ?_
    cases b with
    | false =>
      refine tD_mono (tD_g (GoE.refl ok) (G.bind h)) fun v H1 ⟨r, es1, P1, g1, _, rel1, q1⟩ => ?_
      obtain ⟨q, e, h1⟩ := G.of (G.bind q1)
      obtain ⟨P2, g2, dn, s12⟩ := toSh_ok g1 rel1 e
      have h2 := G.bind h1
      refine ⟨P2, q.2, g2.ok, ?_⟩
      cases e3 : fArgsL fs fl q.2 with
      | ok p =>
        rw [e3] at h2
        exact fun vs w P3 H3 g3 rel3 rw3 => h2 (v :: vs) w P3 H3 (g2.trans g3) (.cons (dn.mono g3.st.pp) rel3) (rw3.base fun a n => g2.st.free n)
      | ex x es3 =>
        rw [e3] at h2
        exact fun P3 H3 cls od g3 rel => h2 P3 H3 cls od (g2.trans g3) rel
      | st => rw [e3] at h2; exact h2
    | true =>
      refine tD_mono (tD_g (GoE.refl ok) (G.bind h)) fun v H1 ⟨r, es1, P1, g1, _, rel1, q1⟩ => ?_
      cases r with
      | ow i =>
        have h2 := G.bind q1
        simp only at h2
        refine ⟨P1, es1, g1.ok, ?_⟩
        cases e3 : fArgsL fs fl es1 with
        | ok p =>
          rw [e3] at h2
          exact fun vs w P3 H3 g3 rel3 rw3 => h2 (v :: vs) w P3 H3 (g1.trans g3) (.cons rel1 rel3) (rw3.base fun a n => g1.st.free n)
        | ex x es3 =>
          rw [e3] at h2
          exact fun P3 H3 cls od g3 rel => h2 P3 H3 cls od (g1.trans g3) rel
        | st => rw [e3] at h2; exact h2
      | _ => exact False.elim q1
theorem fArgsL_len : ∀ {fs : List (Bool × Fe)} {fl : Fe} {es : Ev} {p : (List Ag × D) × Ev}, fArgsL fs fl es = .ok p → p.1.1.length = fs.length := by
  intro fs
  induction fs with
  | nil =>
    intro fl es p h
    unfold fArgsL at h
    cases e1 : fl es with
    | ok q =>
      rw [e1] at h
      simp only [Rs.bind_ok] at h
      split at h
      · cases h; rfl
      · cases h
    | ex => rw [e1] at h; cases h
    | st => rw [e1] at h; cases h
  | cons a r ih =>
    intro fl es p h
    obtain ⟨b, f⟩ := a
    cases b with
    | false =>
      unfold fArgsL at h
      cases e1 : f es with
      | ok q =>
        rw [e1] at h
        simp only [Rs.bind_ok] at h
        cases e2 : toSh q.1 q.2 with
        | none => rw [e2] at h; cases h
        | some t =>
          rw [e2] at h
          simp only [Rs.of_some, Rs.bind_ok] at h
          cases e3 : fArgsL r fl t.2 with
          | ok u => rw [e3] at h; cases h; simp [ih e3]
          | ex => rw [e3] at h; cases h
          | st => rw [e3] at h; cases h
      | ex => rw [e1] at h; cases h
      | st => rw [e1] at h; cases h
    | true =>
      unfold fArgsL at h
      cases e1 : f es with
      | ok q =>
        rw [e1] at h
        simp only [Rs.bind_ok] at h
        split at h
        · cases e3 : fArgsL r fl q.2 with
          | ok u => rw [e3] at h; cases h; simp [ih e3]
          | ex => rw [e3] at h; cases h
          | st => rw [e3] at h; cases h
        · cases h
      | ex => rw [e1] at h; cases h
      | st => rw [e1] at h; cases h
/-- a slot more, for the new list -/
theorem EnvOk.more {K : Kx} {P H : Hp} {σ : St} {es : Ev} {a : Addr} {d : D} (ok : EnvOk K P H σ es) (ho : OwnOk K P H a d) (no : ¬ Own σ es a) : EnvOk K P H (σ ++ [some (.ref a)]) (es ++ [some (.ow d)]) := by
  have hl := ok.len
  have old : ∀ (i : Nat) (x : D), ownAt (es ++ [some (.ow d)]) i = some x → (i < es.length ∧ ownAt es i = some x) ∨ (i = es.length ∧ x = d) := fun i x h => by
    rcases Nat.lt_or_ge i es.length with z | z
    · refine .inl ⟨z, ?_⟩
      unfold ownAt at h ⊢
      rw [List.getElem?_append_left z] at h
      exact h
    · rcases Nat.lt_or_ge es.length i with y | y
      · unfold ownAt at h
        rw [List.getElem?_eq_none (by simp; omega)] at h
        cases h
      · obtain rfl : i = es.length := Nat.le_antisymm y z
        refine .inr ⟨rfl, ?_⟩
        unfold ownAt at h
        simp at h
        exact h.symm
  refine ⟨by simp [hl], ok.sub, fun i x h => ?_, fun i x h => ?_, fun i j x y b hij h1 h2 h3 h4 => ?_⟩
  · rcases Nat.lt_or_ge i es.length with z | z
    · rw [List.getElem?_append_left z] at h
      obtain ⟨v, q1, q2⟩ := ok.sh i x h
      exact ⟨v, by rw [List.getElem?_append_left (by omega)]; exact q1, q2⟩
    · rcases Nat.lt_or_ge es.length i with y | y
      · rw [List.getElem?_eq_none (by simp; omega)] at h; cases h
      · obtain rfl : i = es.length := Nat.le_antisymm y z
        simp at h
  · rcases old i x h with ⟨z, q⟩ | ⟨z, q⟩
    · obtain ⟨b, q1, q2⟩ := ok.ow i x q
      exact ⟨b, by rw [List.getElem?_append_left (by omega)]; exact q1, q2⟩
    · subst z; subst q
      exact ⟨a, by rw [← hl]; simp, ho⟩
  · rcases old i x h1 with ⟨z1, q1⟩ | ⟨z1, q1⟩
    · rw [List.getElem?_append_left (by omega)] at h3
      rcases old j y h2 with ⟨z2, q2⟩ | ⟨z2, q2⟩
      · rw [List.getElem?_append_left (by omega)] at h4
        exact ok.apart i j x y b hij q1 q2 h3 h4
      · subst z2
        rw [← hl] at h4
        have : a = b := by simpa using h4
        subst this
        exact no ⟨i, x, q1, h3⟩
    · subst z1
      rw [← hl] at h3
      have : a = b := by simpa using h3
      subst this
      rcases old j y h2 with ⟨z2, q2⟩ | ⟨z2, q2⟩
      · rw [List.getElem?_append_left (by omega)] at h4
        exact no ⟨j, y, q2, h4⟩
      · exact hij (z2.symm)
theorem own_more {σ : St} {es : Ev} {a b : Addr} {d : D} (hl : σ.length = es.length) (h : Own (σ ++ [some (.ref a)]) (es ++ [some (.ow d)]) b) : Own σ es b ∨ b = a := by
  obtain ⟨i, x, h1, h2⟩ := h
  rcases Nat.lt_or_ge i es.length with z | z
  · refine .inl ⟨i, x, ?_, by rw [List.getElem?_append_left (by omega)] at h2; exact h2⟩
    unfold ownAt at h1 ⊢
    rw [List.getElem?_append_left z] at h1
    exact h1
  · rcases Nat.lt_or_ge es.length i with y | y
    · unfold ownAt at h1
      rw [List.getElem?_eq_none (by simp; omega)] at h1
      cases h1
    · obtain rfl : i = es.length := Nat.le_antisymm y z
      rw [← hl] at h2
      have : a = b := by simpa using h2
      exact .inr this.symm
/-- the slot more is taken away -/
theorem GoE.less {K : Kx} {σ : St} {es es2 es3 : Ev} {P H P2 H2 P3 H3 : Hp} {a : Addr} {d : D} {t : Ev} (g : GoE K σ es P H es2 P2 H2) (ha : H a = none) (g3 : GoE K (σ ++ [some (.ref a)]) (es2 ++ [some (.ow d)]) P2 H2 (es3 ++ t) P3 H3) (h3 : es3.length = es2.length) : GoE K σ es P H es3 P3 H3 := by
  have hl := g.ok.len
  have up : ∀ (i : Nat) (x : D), ownAt es3 i = some x → i < es3.length ∧ ownAt (es3 ++ t) i = some x := fun i x h => by
    have z : i < es3.length := by
      unfold ownAt at h
      rcases Nat.lt_or_ge i es3.length with z | z
      · exact z
      · rw [List.getElem?_eq_none z] at h; cases h
    refine ⟨z, ?_⟩
    unfold ownAt at h ⊢
    rw [List.getElem?_append_left z]
    exact h
  have lt : ∀ {i : Nat} {s : Option Sl}, es3[i]? = some s → i < es3.length := fun h => (List.getElem?_eq_some_iff.mp h).1
  refine ⟨g.st.trans g3.st fun b hb => ?_, ⟨by omega, g3.ok.sub, fun i x h => ?_, fun i x h => ?_, fun i j x y b hij h1 h2 q1 q2 => ?_⟩, fun i x h => ?_, fun i x h => ?_⟩
  · rcases own_more hl hb with q | q
    · exact .inl (g.own q)
    · exact .inr (by rw [q]; exact ha)
  · have z := lt h
    obtain ⟨v, q1, q2⟩ := g3.ok.sh i x (by rw [List.getElem?_append_left z]; exact h)
    exact ⟨v, by rw [List.getElem?_append_left (by omega)] at q1; exact q1, q2⟩
  · obtain ⟨z, q⟩ := up i x h
    obtain ⟨b, q1, q2⟩ := g3.ok.ow i x q
    exact ⟨b, by rw [List.getElem?_append_left (by omega)] at q1; exact q1, q2⟩
  · obtain ⟨z1, r1⟩ := up i x h1
    obtain ⟨z2, r2⟩ := up j y h2
    exact g3.ok.apart i j x y b hij r1 r2 (by rw [List.getElem?_append_left (by omega)]; exact q1) (by rw [List.getElem?_append_left (by omega)]; exact q2)
  · obtain ⟨z, q⟩ := up i x h
    obtain ⟨y, q1⟩ := g3.le i x q
    have q2 : ownAt es2 i = some y := by
      unfold ownAt at q1 ⊢
      rw [List.getElem?_append_left (by omega)] at q1
      exact q1
    exact g.le i y q2
  · obtain ⟨y, q⟩ := g.io i x h
    have z : i < es2.length := (List.getElem?_eq_some_iff.mp q).1
    obtain ⟨y', q'⟩ := g3.io i y (by rw [List.getElem?_append_left z]; exact q)
    rw [List.getElem?_append_left (by omega)] at q'
    exact ⟨y', q'⟩
theorem RelAs.more {K : Kx} {P P' : Hp} {σ : St} {w : Option V} (s : Same P P') : ∀ {vs : List V} {as : List Ag}, RelAs K P σ vs as → RelAs K P' (σ ++ [w]) vs as
  | _, _, .nil => .nil
  | _, _, .cons (a := a) h t => by
    refine .cons ?_ (RelAs.more s t)
    cases a with
    | sh d => exact Dn.mono s h
    | io i =>
      have h : σ[i]? = some (some _) := h
      have z : i < σ.length := (List.getElem?_eq_some_iff.mp h).1
      show (σ ++ [w])[i]? = _
      rw [List.getElem?_append_left z]
      exact h
theorem RelAs.snoc {K : Kx} {P : Hp} {σ : St} {v : V} {a : Ag} (h : RelAg K P σ v a) : ∀ {vs : List V} {as : List Ag}, RelAs K P σ vs as → RelAs K P σ (vs ++ [v]) (as ++ [a])
  | _, _, .nil => .cons h .nil
  | _, _, .cons q t => .cons q (RelAs.snoc h t)
theorem ioIx_snoc (n : Nat) : ∀ as : List Ag, ioIx (as ++ [.io n]) = ioIx as ++ [n]
  | [] => rfl
  | .sh d :: r => by show ioIx (r ++ [.io n]) = ioIx r ++ [n]; exact ioIx_snoc n r
  | .io i :: r => by show i :: ioIx (r ++ [.io n]) = i :: (ioIx r ++ [n]); rw [ioIx_snoc n r]
theorem ownAt_more {es : Ev} {i : Nat} {d x : D} (h : ownAt es i = some x) : ownAt (es ++ [some (.ow d)]) i = some x := by
  have z : i < es.length := by
    unfold ownAt at h
    rcases Nat.lt_or_ge i es.length with z | z
    · exact z
    · rw [List.getElem?_eq_none z] at h; cases h
  unfold ownAt at h ⊢
  rw [List.getElem?_append_left z]
  exact h
theorem toEv_more {es : Ev} {d : D} : ∀ {as : List Ag} {cs : Ev}, toEv es as = some cs → toEv (es ++ [some (.ow d)]) (as ++ [.io es.length]) = some (cs ++ [some (.io d)])
  | [], cs, h => by
    cases h
    show (ownAt (es ++ [some (.ow d)]) es.length).bind _ = _
    have : ownAt (es ++ [some (.ow d)]) es.length = some d := by unfold ownAt; simp
    rw [this]
    rfl
  | .sh y :: r, cs, h => by
    obtain ⟨c, h1, h2⟩ := Option.map_eq_some_iff.mp h
    subst h2
    show (toEv (es ++ [some (.ow d)]) (r ++ [.io es.length])).map _ = _
    rw [toEv_more h1]
    rfl
  | .io i :: r, cs, h => by
    obtain ⟨y, ho, h⟩ := Option.bind_eq_some_iff.mp h
    obtain ⟨c, h1, h2⟩ := Option.map_eq_some_iff.mp h
    subst h2
    show (ownAt (es ++ [some (.ow d)]) i).bind _ = _
    rw [ownAt_more ho]
    show (toEv (es ++ [some (.ow d)]) (r ++ [.io es.length])).map _ = _
    rw [toEv_more h1]
    rfl
theorem setC_more {es : Ev} {i : Nat} {x : D} (t : Ev) (hi : i < es.length) : setC (es ++ t) i x = setC es i x ++ t := by
  unfold setC
  rw [List.getElem?_append_left hi]
  generalize es[i]? = o
  match o with
  | some (some (.ow y)) => simp only; rw [List.set_append_left _ _ hi]
  | some (some (.io y)) => simp only; rw [List.set_append_left _ _ hi]
  | some (some (.sh y)) => rfl
  | some none => rfl
  | none => rfl
theorem setC_last (es : Ev) (d x : D) : setC (es ++ [some (.ow d)]) es.length x = es ++ [some (.ow x)] := by
  unfold setC
  simp
theorem wb_more {d x : D} : ∀ {as : List Ag} {es cs es' : Ev}, (∀ i ∈ ioIx as, i < es.length) → wb es as cs = some es' → cs.length = as.length → es'.length = es.length ∧ wb (es ++ [some (.ow d)]) (as ++ [.io es.length]) (cs ++ [some (.io x)]) = some (es' ++ [some (.ow x)])
  | [], es, cs, es', _, h, hl => by
    have : cs = [] := List.eq_nil_of_length_eq_zero hl
    subst this
    unfold wb at h
    cases h
    refine ⟨rfl, ?_⟩
    show wb (setC (es ++ [some (.ow d)]) es.length x) [] [] = _
    rw [setC_last]
    rfl
  | .sh y :: as, es, [], es', _, h, hl => by cases hl
  | .io y :: as, es, [], es', _, h, hl => by cases hl
  | .sh y :: as, es, c :: cs, es', hi, h, hl => by
    unfold wb at h
    exact wb_more (as := as) hi h (by simpa using hl)
  | .io i :: as, es, none :: cs, es', _, h, hl => by unfold wb at h; cases h
  | .io i :: as, es, some (.sh _) :: cs, es', _, h, hl => by unfold wb at h; cases h
  | .io i :: as, es, some (.ow _) :: cs, es', _, h, hl => by unfold wb at h; cases h
  | .io i :: as, es, some (.io y) :: cs, es', hi, h, hl => by
    unfold wb at h
    have hi0 : i < es.length := hi i (by unfold ioIx; exact List.mem_cons_self)
    obtain ⟨e1, e2⟩ := wb_more (as := as) (d := d) (x := x) (es := setC es i y) (fun j hj => by rw [setC_len]; exact hi j (by unfold ioIx; exact List.mem_cons_of_mem _ hj)) h (by simpa using hl)
    rw [setC_len] at e1 e2
    refine ⟨e1, ?_⟩
    show wb (setC (es ++ [some (.ow d)]) i y) (as ++ [.io es.length]) (cs ++ [some (.io x)]) = _
    rw [setC_more [some (.ow d)] hi0]
    exact e2
/-- the last slot off -/
def lastIo : Option Sl → Option D
  | some (.io x) => some x
  | _ => none
def cutLast : Ev → Option (Ev × D)
  | [] => none
  | c :: r => if r.isEmpty = true then (lastIo c).map fun x => ([], x) else (cutLast r).map fun p => (c :: p.1, p.2)
theorem cutLast_ok : ∀ {cs c : Ev} {x : D}, cutLast cs = some (c, x) → cs = c ++ [some (.io x)]
  | [], _, _, h => by cases h
  | a :: r, c, x, h => by
    unfold cutLast at h
    split at h
    · rename_i e
      obtain ⟨y, h1, h2⟩ := Option.map_eq_some_iff.mp h
      cases h2
      have : r = [] := List.isEmpty_iff.mp e
      subst this
      unfold lastIo at h1
      split at h1
      · cases h1; rfl
      · cases h1
    · obtain ⟨p, h1, h2⟩ := Option.map_eq_some_iff.mp h
      cases h2
      rw [List.cons_append, ← cutLast_ok (cs := r) (c := p.1) (x := p.2) h1]
def fCallL (m : Fe) (fs : List (Bool × Fe)) (fl : Fe) : Fe := fun es => (fArgsL fs fl es).bind fun p =>
  if (ioIx p.1.1).Nodup then (Rs.of (toEv p.2 p.1.1)).bind fun cs => match m (cs ++ [some (.io p.1.2)]) with
    | .ok (.sh d, cs') => (Rs.of (cutLast cs')).bind fun t => (Rs.of (wb p.2 p.1.1 t.1)).bind fun es' => .ok (.sh d, es')
    | .ok (.fr d, cs') => (Rs.of (cutLast cs')).bind fun t => (Rs.of (wb p.2 p.1.1 t.1)).bind fun es' => .ok (.fr d, es')
    | .ok (.ow _, _) => .st
    | .ex x cs' => (Rs.of (cutLast cs')).bind fun t => (Rs.of (wb p.2 p.1.1 t.1)).bind fun es' => .ex x es'
    | .st => .st
  else .st
section
variable {X : Cx} {we : WX} {CX : CXT} {k : Nat} {f : Addr} {fd : FuncData} {ps : List Str} {m : Fe} {x : Str} {p pos : Pos} {e : Expr} {es : List Expr} {fs : List (Bool × Fe)} {fl : Fe} {n : Nat}
theorem callL_ok {σ : St} {H : Hp} {Q : VK} (hn : fs.length + 1 = n) (h : tD (kx X ⟨we, none⟩) we (fCallL m fs fl) σ H Q) : tDAL (kx X ⟨we, none⟩) we (fArgsL fs fl) σ H fun vs H1 => spD X.K n m vs H1 Q (WE we σ) := by
  obtain ⟨P, es, ok, h⟩ := h
  refine ⟨P, es, ok, ?_⟩
  have h := G.bind h.g
  cases e0 : fArgsL fs fl es with
  | ex x es' => rw [e0] at h; exact h
  | st => rw [e0] at h; exact h
  | ok p =>
    rw [e0] at h
    have hp := fArgsL_len e0
    have h : G (kx X ⟨we, none⟩) we σ es P H (if (ioIx p.1.1).Nodup then _ else _) _ := h
    split at h
    · rename_i nd
      obtain ⟨cs, e1, h1⟩ := G.of (G.bind h)
      intro vs v P1 H1 g rel rv
      obtain ⟨a, rfl, o1, o2, o3⟩ := rv
      -- the caller's slots and one more
      have ok1 := g.ok.more o1 o2
      have hl := g.ok.len
      have rel1 : RelAs (kx X ⟨we, none⟩) P1 (σ ++ [some (V.ref a)]) (vs ++ [V.ref a]) (p.1.1 ++ [.io p.2.length]) :=
        RelAs.snoc (K := kx X ⟨we, none⟩) (P := P1) (a := .io p.2.length) (show (σ ++ [some (V.ref a)])[p.2.length]? = some (some (V.ref a)) by rw [← hl]; simp) (RelAs.more (w := some (V.ref a)) (Same.refl _) rel)
      have nlt : ∀ i ∈ ioIx p.1.1, i < p.2.length := fun i hi => by
        obtain ⟨y, hy⟩ := toEv_own e1 i hi
        unfold ownAt at hy
        rcases Nat.lt_or_ge i p.2.length with z | z
        · exact z
        · rw [List.getElem?_eq_none z] at hy; cases hy
      have nd1 : (ioIx (p.1.1 ++ [Ag.io p.2.length])).Nodup := by
        rw [ioIx_snoc]
        refine List.nodup_append.mpr ⟨nd, (by simp), fun i hi j hj => ?_⟩
        have := nlt i hi
        have : j = p.2.length := List.mem_singleton.mp hj
        omega
      have e1' := toEv_more (d := p.1.2) e1
      have g1 : GoE (kx X ⟨we, none⟩) (σ ++ [some (V.ref a)]) (p.2 ++ [some (.ow p.1.2)]) P1 H1 (p.2 ++ [some (.ow p.1.2)]) P1 H1 := .refl ok1
      obtain ⟨ok2, no2⟩ := call_env ok1 rel1 nd1 e1'
      refine ⟨by rw [List.length_append, rel.length, hp]; exact hn, P1, _, ok2, no2, ?_⟩
      have back : ∀ {cs' : Ev} {t : Ev × D} {es' : Ev} {P' H' : Hp}, cutLast cs' = some t → wb p.2 p.1.1 t.1 = some es' → GoE (kx X ⟨we, none⟩) ((vs ++ [V.ref a]).map some) (cs ++ [some (.io p.1.2)]) P1 H1 cs' P' H' →
          GoE (kx X ⟨we, none⟩) σ es P H es' P' H' ∧ ∀ b, Own σ es' b → ∃ o, H1 b = some o := fun {cs' t es' P' H'} ec w c => by
        obtain ⟨t1, t2⟩ := t
        have ecs := cutLast_ok ec
        subst ecs
        have hcl : t1.length = p.1.1.length := by
          have h1 := c.ok.len
          have h2 := ok2.len
          have h3 := toEv_len e1
          simp at h1 h2
          omega
        obtain ⟨w1, w2⟩ := wb_more (d := p.1.2) (x := t2) nlt w hcl
        obtain ⟨g', tr⟩ := call_back g1 rel1 nd1 e1' c w2
        refine ⟨g.less o3 g' w1, fun b hb => tr b ?_⟩
        obtain ⟨i, y, q1, q2⟩ := hb
        refine ⟨i, y, ownAt_more q1, ?_⟩
        rw [List.getElem?_append_left (List.getElem?_eq_some_iff.mp q2).1]
        exact q2
      cases e2 : m (cs ++ [some (.io p.1.2)]) with
      | ok q =>
        obtain ⟨r, cs'⟩ := q
        rw [e2] at h1
        cases r with
        | sh d =>
          obtain ⟨t, ec, h2⟩ := G.of (G.bind h1)
          obtain ⟨es', w, h3⟩ := G.of (G.bind h2)
          intro v P' H' c rr
          exact h3 v P' H' (back ec w c).1 rr
        | fr d =>
          obtain ⟨t, ec, h2⟩ := G.of (G.bind h1)
          obtain ⟨es', w, h3⟩ := G.of (G.bind h2)
          intro v P' H' c rr
          obtain ⟨b, rfl, r1, r2, r3⟩ := rr
          obtain ⟨g', tr⟩ := back ec w c
          refine h3 _ P' H' g' ⟨b, rfl, r1, fun z => ?_, g.st.free r3⟩
          obtain ⟨o, ho⟩ := tr b z
          rw [r3] at ho; cases ho
        | ow i => exact False.elim h1
      | ex x cs' =>
        rw [e2] at h1
        obtain ⟨t, ec, h2⟩ := G.of (G.bind h1)
        obtain ⟨es', w, h3⟩ := G.of (G.bind h2)
        intro P' H' cls od c xr
        exact h3 P' H' cls od (back ec w c).1 xr
      | st => rw [e2] at h1; exact False.elim h1
    · exact False.elim h
/-- f(e, .., [..]) of a def that lets nothing out -/
theorem de_callL0 (F : FnOk X.prog X.w X.K X.mg X.base CX0 k f fd ps (spD0 X.K n m)) (hr : Room k X.A) (hg : Gl X x) (hm : X.mg x = some (.ref f)) (hk : PySem.W.keepIn X.K (.ref f) = true) (hb : Binds X.K fd ps [])
    (ha : DAL X ⟨we, none⟩ (e :: es) fs fl) (hn : fs.length + 1 = n := by rfl) (hdb : (x == ("__debug__" : Str)) = false := by decide) (he : starEach (e :: es) X.env = (false, eval e X.env) :: starEach es X.env := by rfl) (hpl : (backTo pos (starEach es X.env)).any (·.1) = false := by rfl) :
    DE X ⟨we, none⟩ (.Call (.Name x p) (e :: es) [] pos) (fCallL (noX m) fs fl) := by
  refine pe_imp (pe_call (E := E0) F hr hg hm hk hb .nil pass0 (dal_pa ha) hdb he hpl) fun σ H Q h => ?_
  obtain ⟨P, es, ok, q⟩ := callL_ok hn h
  refine ⟨P, es, ok, q.mono fun p hp vs v P' H' g rel rv => ?_⟩
  obtain ⟨hl, P1, cs, ok1, no, h1⟩ := hp vs v P' H' g rel rv
  rw [List.append_nil]
  refine ⟨hl, P1, cs, ok1, no, ?_⟩
  unfold noX at h1
  cases e : m cs with
  | ok r => rw [e] at h1; exact h1
  | ex x c => rw [e] at h1; exact False.elim h1
  | st => rw [e] at h1; exact h1
end
end DL

/-! DL, part 26: dict displays, sum, isinstance of plain values. -/
namespace DL
open PySem PySem.Spec L2
open PyProof.Rows hiding St
set_option autoImplicit false

theorem G.from {K : Kx} {E : WX} {σ : St} {es es1 : Ev} {P H P1 H1 : Hp} {α : Type} {x : Rs α} {F : α → Prop} (g : GoE K σ es P H es1 P1 H1) (h : G K E σ es P H x F) : G K E σ es1 P1 H1 x F := by
  cases x with
  | ok a => exact h
  | ex x e => exact fun P2 H2 cls od g2 rel => h P2 H2 cls od (g.trans g2) rel
  | st => exact h
/-! ### {k: v, ..} -/
def dItems : List (Fe × Fe) → Ev → Rs (List (Key × D) × Ev)
  | [], es => .ok ([], es)
  | (fk, fv) :: r, es => (fk es).bind fun p => (Rs.of (toSh p.1 p.2)).bind fun q => (Rs.of (keyD q.1)).bind fun k => (fv q.2).bind fun p2 => (Rs.of (toSh p2.1 p2.2)).bind fun q2 => (dItems r q2.2).bind fun s => .ok ((k, q2.1) :: s.1, s.2)
def mergeD (kvs more : List (Key × D)) : List (Key × D) := more.foldl (fun acc kv => putD acc kv.1 kv.2) kvs
def fDisp (prs : List (Fe × Fe)) : Fe := fun es => (dItems prs es).bind fun s => if s.1.length ≤ 15 then .ok (.fr (.dk (mergeD [] s.1)), s.2) else .st
inductive DPs (X : Cx) (E : We) (pos : Pos) : List (Option Expr) → List Expr → List (Fe × Fe) → Prop
  | nil : DPs X E pos [] [] []
  | cons {k v : Expr} {ks : List (Option Expr)} {vs : List Expr} {fk fv : Fe} {prs : List (Fe × Fe)} : DE X E k fk → DE X E v fv → DPs X E pos ks vs prs → DPs X E pos (some k :: ks) (v :: vs) ((fk, fv) :: prs)
def trsOf (K : Kx) (E : WX) (prs : List (Fe × Fe)) : List (TE × TE) := prs.map fun p => (tD K E p.1, tD K E p.2)
theorem dps_pps {X : Cx} {E : We} {pos : Pos} : ∀ {ks : List (Option Expr)} {vs : List Expr} {prs : List (Fe × Fe)}, DPs X E pos ks vs prs → PPs X pos ks vs (trsOf (kx X E) E.w prs)
  | _, _, _, .nil => pps_nil
  | _, _, _, .cons hk hv t => pps_cons hk hv (dps_pps t)
theorem DnK.merge {K : Kx} {P : Hp} : ∀ {more : List (Key × V)} {dm : List (Key × D)} {kvs : List (Key × V)} {ds : List (Key × D)}, DnK K P more dm → DnK K P kvs ds → DnK K P (mergeK kvs more) (mergeD ds dm)
  | [], _, _, _, .nil, h => h
  | _ :: _, _, _, _, .cons (k := k) q t, h => by
    have := DnK.merge t (h.put (k := k) q)
    exact this
theorem pairs_ok {K : Kx} {E : WX} {σ : St} : ∀ {prs : List (Fe × Fe)} {es : Ev} {P H : Hp} {F : List (Key × D) × Ev → Prop} {Q : List (V × V) → Hp → Prop}, EnvOk K P H σ es → G K E σ es P H (dItems prs es) F →
    (∀ kvs s P2 H2, GoE K σ es P H s.2 P2 H2 → DnK K P2 kvs s.1 → F s → Q (kvs.map fun kv => (kV kv.1, kv.2)) H2) → tPairs (trsOf K E prs) σ H Q
  | [], es, P, H, F, Q, ok, h, q => q [] ([], es) P H (.refl ok) .nil h
  | (fk, fv) :: r, es, P, H, F, Q, ok, h, q => by
    refine tD_mono (tD_g (.refl ok) (G.bind h)) fun x H2 ⟨r1, es2, P2, g2, _, rel2, h2⟩ => ?_
    obtain ⟨s1, e1, h3⟩ := G.of (G.bind h2)
    obtain ⟨P3, g3, dn, _⟩ := toSh_ok g2 rel2 e1
    obtain ⟨k, e2, h4⟩ := G.of (G.bind h3)
    have ek : x = kV k := bw_key (.dn dn : Bw K P3 H2 x s1.1) e2
    subst ek
    refine tD_mono (tD_g g3 (G.bind h4)) fun y H4 ⟨r2, es4, P4, g4, _, rel4, h5⟩ => ?_
    obtain ⟨s2, e3, h6⟩ := G.of (G.bind h5)
    obtain ⟨P5, g5, dn2, _⟩ := toSh_ok g4 rel4 e3
    refine pairs_ok g5.ok (G.from g5 (G.bind h6)) fun kvs s P6 H6 g6 dk hF => ?_
    exact q ((k, y) :: kvs) ((k, s2.1) :: s.1, s.2) P6 H6 (g5.trans g6) (.cons (dn2.mono g6.st.pp) dk) hF
theorem de_disp {X : Cx} {E : We} {pos : Pos} {keys : List (Option Expr)} {values : List Expr} {prs : List (Fe × Fe)} (h : DPs X E pos keys values prs) (hall : keys.all (·.isSome) = true) (hl : keys.length = values.length) (h0 : keys ≠ []) (h15 : keys.length ≤ 15) :
    DE X E (.Dict keys values pos) (fDisp prs) := by
  refine pe_imp (pe_disp (dps_pps h) hall hl h0 h15) fun σ H Q ⟨P, es, ok, q⟩ => ?_
  intro p hp
  have no : ¬ Own σ es p := fun ⟨i, d, h1, h2⟩ => by
    obtain ⟨a, q1, q2⟩ := ok.ow i d h1
    rw [h2] at q1
    cases q1
    obtain ⟨o, ho⟩ := q2.tracked
    rw [hp] at ho; cases ho
  have pp : P p = none := by
    cases e : P p with
    | none => rfl
    | some o => rw [ok.sub p o e] at hp; cases hp
  have g0 : GoE (kx X E) σ es P H es P (upd H p (.dK [])) := (GoE.refl ok).alloc hp
  refine pairs_ok g0.ok (G.from g0 (G.bind q.g)) fun kvs s P2 H2 g2 dk hF => ?_
  obtain ⟨e2, p2, no2⟩ := apart_out g2 (upd_same (H := H) (a := p) (o := .dK [])) pp no
  have hF : G (kx X E) E.w σ es P H (if s.1.length ≤ 15 then _ else _) _ := hF
  split at hF
  · rename_i hz
    have hk : kvs.length ≤ 15 := by rw [dk.length]; exact hz
    refine ⟨e2, kvs, rfl, hk, ?_⟩
    have gg : GoE (kx X E) σ es P H s.2 P2 (upd H2 p (.dK (mergeK [] kvs))) := (g0.trans g2).hid hp p2 no2 ⟨_, e2⟩
    refine hF (.ref p) P2 _ gg ⟨p, rfl, ⟨p2, mergeK [] kvs, upd_same, ?_, DnK.merge dk .nil⟩, no2, hp⟩
    have h1 := length_mergeK kvs []
    rw [List.length_nil] at h1
    rw [sizeLine_eq]; omega
  · exact False.elim hF
/-! ### sum(xs) of ints -/
def intL : List D → Option (List Int)
  | [] => some []
  | .int i :: r => (intL r).map fun l => i :: l
  | _ :: _ => none
theorem intL_ok {K : Kx} {P : Hp} : ∀ {vs : List V} {ds : List D} {ns : List Int}, DnA K P vs ds → intL ds = some ns → vs = ns.map V.int
  | _, _, _, .nil, e => by cases e; rfl
  | _, _, _, .cons (d := d) h t, e => by
    cases d with
    | int i =>
      obtain ⟨l, h1, h2⟩ := Option.map_eq_some_iff.mp e
      subst h2
      cases h
      rw [List.map_cons, ← intL_ok t h1]
    | _ => cases e
def sumZ (x : D) : Option Z := (lstD x).bind fun ds => (intL ds).map fun ns => .sh (.int ns.sum)
theorem sumZ_ok {K : Kx} : Op1 K (fun v => rSum K.K [v]) sumZ := by
  intro P H v x z Q s hx e q
  obtain ⟨ds, h1, h2⟩ := Option.bind_eq_some_iff.mp e
  obtain ⟨ns, h3, h4⟩ := Option.map_eq_some_iff.mp h2
  subst h4
  obtain ⟨a, xs, rfl, h5, h6, h7⟩ := bw_list s hx h1
  rw [intL_ok h7 h3] at h5
  exact ⟨a, ns, rfl, h5, q _ (.int _)⟩
theorem bt_sum : bootBuiltins "sum" = some (.builtin "sum") := by decide +kernel
/-! ### isinstance(x, T), T a built-in type -/
def tyI : D → Option String
  | .non => some "NoneType"
  | .bl _ => some "bool"
  | .int _ => some "int"
  | .str _ => some "str"
  | .lst _ => some "list"
  | .tup _ => some "tuple"
  | _ => none
/-- is the type n one that isinstance(.., m) takes -/
def isN (n m : String) : Option Bool := if m = "str" then some (decide (n = "str")) else none
theorem isN_ok {n m : String} {b : Bool} (hn : n = "NoneType" ∨ n = "bool" ∨ n = "int" ∨ n = "str" ∨ n = "list" ∨ n = "tuple") (e : isN n m = some b) : kitB n m = some b := by
  unfold isN at e
  split at e
  · rename_i hm
    subst hm
    cases e
    rcases hn with rfl | rfl | rfl | rfl | rfl | rfl <;> decide +kernel
  · cases e
def isiZ (x y : D) : Option Z := match y with
  | .ty m => (tyI x).bind fun n => (isN n m).map fun b => .sh (.bl b)
  | _ => none
theorem isiZ_ok {K : Kx} : Op2 K (fun v u => rIsi K.K [v, u]) isiZ := by
  intro P H v u x y z Q s hx hy e q
  unfold isiZ at e
  split at e
  · rename_i m
    obtain ⟨n, h1, h2⟩ := Option.bind_eq_some_iff.mp e
    obtain ⟨b, h3, h4⟩ := Option.map_eq_some_iff.mp h2
    subst h4
    have hu := bw_ty hy
    subst hu
    have fin : TyX K.K H v (.type n) ∧ (n = "NoneType" ∨ n = "bool" ∨ n = "int" ∨ n = "str" ∨ n = "list" ∨ n = "tuple") := by
      cases x with
      | non => cases h1; rw [bw_non hx]; exact ⟨.base .non, by simp⟩
      | bl b => cases h1; rw [bw_bl hx]; exact ⟨.base (.bl _), by simp⟩
      | int i => cases h1; rw [bw_int hx]; exact ⟨.base (.int _), by simp⟩
      | str i => cases h1; rw [bw_str hx]; exact ⟨.base (.str _), by simp⟩
      | lst ds =>
        cases h1
        obtain ⟨a, xs, rfl, h5, _, _⟩ := bw_lst s hx
        exact ⟨.base (.lst h5), by simp⟩
      | tup ds =>
        cases h1
        obtain ⟨a, xs, rfl, h5, _, _⟩ := bw_tup s hx
        rcases h5 with (h5 | ⟨o, h5⟩) | ⟨o, its, n, h5, h6, _⟩
        · exact ⟨.base (.tup h5), by simp⟩
        · exact ⟨.fTuple h5, by simp⟩
        · exact ⟨.kTuple h5 h6, by simp⟩
      | _ => cases h1
    exact ⟨v, .ty m, .type n, .type m, b, rfl, .ty m, fin.1, kit_ty (isN_ok fin.2 h3), q _ (.bl _)⟩
  · cases e
theorem bt_isinstance : bootBuiltins "isinstance" = some (.builtin "isinstance") := by decide +kernel
end DL

/-! DL, part 27: what the printer needs of classes and exceptions. -/
namespace DL
open PySem PySem.Spec L2
open PyProof.Rows hiding St
set_option autoImplicit false

def clsBody : Stmt → List Stmt
  | .ClassDef (body := b) .. => b
  | _ => []
/-- the i-th statement in a class's body -/
def inCls (st : Stmt) (i : Nat) : Stmt := (clsBody st).getD i (.Pass ⟨0, 0, 0, 0⟩)
theorem passW0 {X : Cx} (σ : St) : PassesAt (L2.CX X.prog X.w) X σ (WE W0 σ) := fun _ _ _ _ _ _ ⟨_, _, _, _, _, _, _, _, _, _, _, _, h⟩ => h.elim
/-- .. in a def's own try -/
theorem exm_of {K : PySem.W.Frag} {S C : Addr} {b : Bool} (h1 : PySem.W.subIn K (.ref S) (.type "BaseException") = some true) (h2 : PySem.W.isClsIn K C = true) (h3 : PySem.W.typeIn K (.ref C) = some (.type "type")) (h1' : PySem.W.subIn K (.ref C) (.type "BaseException") = some true)
    (h4 : PySem.W.subIn K (.ref S) (.ref C) = some b) : PySem.W.exmOne K (.ref S) (.ref C) = some b := by
  have e1 : (PySem.W.subIn K (.ref C) (.type "BaseException") == some true) = true := by rw [h1'] <;> rfl
  have e2 : ((PySem.W.clsIn K C).isSome && PySem.W.typeIn K (.ref C) == some (.type "type")) = true := by
    have h2' : (PySem.W.clsIn K C).isSome = true := h2
    rw [h2', h3] <;> rfl
  show (if (PySem.W.subIn K (.ref C) (.type "BaseException") == some true) = true then (if ((PySem.W.clsIn K C).isSome && PySem.W.typeIn K (.ref C) == some (.type "type")) = true then PySem.W.subIn K (.ref S) (.ref C) else none) else none) = some b
  rw [if_pos e1, if_pos e2]
  exact h4
theorem kit_own {K : PySem.W.Frag} {S C : Addr} {b : Bool} (h3 : PySem.W.typeIn K (.ref C) = some (.type "type")) (h2 : PySem.W.isClsIn K C = true) (h4 : PySem.W.subIn K (.ref S) (.ref C) = some b) (h0 : (Value.ref S == Value.ref C) = true → b = true := by intro _; rfl) : PySem.W.kitOne K (.ref S) (.ref C) = some b := by
  unfold PySem.W.kitOne
  split
  · rename_i e; rw [h0 e]
  · have e2 : ((PySem.W.clsIn K C).isSome && PySem.W.typeIn K (.ref C) == some (.type "type")) = true := by
      have h2' : (PySem.W.clsIn K C).isSome = true := h2
      rw [h2', h3] <;> rfl
    show (if ((PySem.W.clsIn K C).isSome && PySem.W.typeIn K (.ref C) == some (.type "type")) = true then PySem.W.subIn K (.ref S) (.ref C) else none) = some b
    rw [if_pos e2]
    exact h4
theorem kit_blt {K : PySem.W.Frag} {S : Addr} {T : String} {b : Bool} (h : PySem.W.kitMeta T = true) (h4 : PySem.W.subIn K (.ref S) (.type T) = some b) : PySem.W.kitOne K (.ref S) (.type T) = some b := by
  unfold PySem.W.kitOne
  split
  · rename_i e; exact absurd e (by simp)
  · show (if PySem.W.kitMeta T = true then PySem.W.subIn K (.ref S) (.type T) else none) = some b
    rw [if_pos h]
    exact h4
theorem bt_ValueError : bootBuiltins "ValueError" = some (.type "ValueError") := by decide +kernel
theorem bt_LookupError : bootBuiltins "LookupError" = some (.type "LookupError") := by decide +kernel
theorem pe_tyG {X : Cx} {x : Str} {n : String} {pos : Pos} (hg : Gl X x) (hm : X.mg x = none) (hv : bootBuiltins x = some (.type n)) (hn : x ≠ "__name__" := by decide) (hd : (x == ("__debug__" : Str)) = false := by decide) : PE X (.Name x pos) (tC (.ty n)) := pe_bltn hg hm hv rfl hn hd
/-- a table of what is known of classes, by name -/
def tblOf (l : List (Str × Bool)) (c : Str) : Option Bool := l.lookup c
theorem tbl_ok {P : Str → Bool → Prop} : ∀ {l : List (Str × Bool)}, (∀ p ∈ l, P p.1 p.2) → ∀ c b, tblOf l c = some b → P c b
  | [], _, _, _, h => by cases h
  | (c0, b0) :: r, H, c, b, h => by
    unfold tblOf at h
    rw [List.lookup_cons] at h
    cases e : c == c0 with
    | true =>
      rw [e] at h
      cases h
      have : c = c0 := eq_of_beq e
      subst this
      exact H (c, b0) List.mem_cons_self
    | false =>
      rw [e] at h
      exact tbl_ok (l := r) (fun p hp => H p (List.mem_cons_of_mem _ hp)) c b h
/-! ### not e, by truth -/
def fNotV (f : Fe) : Fe := fun es => (f es).bind fun p => (Rs.of ((rdR p.2 p.1).bind truD)).bind fun b => .ok (.sh (.bl (!b)), p.2)
theorem de_notV {X : Cx} {E : We} {a : Expr} {f : Fe} {pos : Pos} (ha : DE X E a f) : DE X E (.UnaryOp .Not a pos) (fNotV f) := by
  refine pe_imp (pe_notT ha) fun σ H Q ⟨P, es, ok, h⟩ => tD_mono (tD_g (.refl ok) (G.bind h.g)) fun v H1 ⟨r, es1, P1, g1, _, rel, q⟩ => ?_
  obtain ⟨k, e1, q1⟩ := G.of (G.bind q)
  obtain ⟨d, e2, e3⟩ := Option.bind_eq_some_iff.mp e1
  exact ⟨k, tru_of g1.ok.sub (rel.bw g1.ok e2) e3, q1 _ P1 H1 g1 (.bl _)⟩
/-! ### name = [..] -/
section
variable {X : Cx} {E : We} {st : Stmt} {t : TE} {f : Fe} {i : Nat}
theorem asg_of (h : PS X st (tAsg t (gName i))) (k : ∀ σ H Q, tD (kx X E) E.w f σ H Q → t σ H Q) : DS X E st (gAsg f (ptName i)) := by
  refine ps_imp h fun D σ H ⟨P, es, ok, h⟩ => k σ H _ (tD_ms (tD_s (.refl ok) (GS.bind h)) fun v H1 ⟨r, es1, P1, g1, _, rel, q⟩ => ?_)
  obtain ⟨s, e1, q1⟩ := GS.of (GS.bind q)
  obtain ⟨P2, g2, dn, _⟩ := toSh_s g1 rel e1
  obtain ⟨es3, e3, q3⟩ := GS.of (GS.bind q1)
  unfold ptName at e3
  split at e3
  · rename_i no
    cases e3
    exact q3 _ P2 H1 (g2.put no (.inl ⟨_, rfl, dn⟩))
  · cases e3
theorem own_of (h : PS X st (tAsg t (gName i))) (k : ∀ σ H Q, tD (kx X E) E.w f σ H Q → t σ H Q) : DS X E st (gOwn f i) := by
  refine ps_imp h fun D σ H ⟨P, es, ok, h⟩ => k σ H _ (tD_ms (tD_s (.refl ok) (GS.bind h)) fun v H1 ⟨r, es1, P1, g1, _, rel, q⟩ => ?_)
  cases r with
  | fr d =>
    obtain ⟨a, rfl, h1, h2, h3⟩ := rel
    simp only at q
    split at q
    · rename_i no
      exact q _ P1 H1 (g1.put no (.inr (.inr ⟨d, a, rfl, rfl, h1, h2, h3⟩)))
    · exact False.elim q
  | _ => exact False.elim q
end
section
variable {X : Cx} {we : WX} {elt tg iter : Expr} {ifs : List Expr} {scope : Scope} {own : List (Str × Nat)} {pos : Pos} {fi : Fi} {p : Pt} {sl : List Nat} {ft : Ft} {fe : Fe} {i : Nat} {y : Str} {py spos : Pos}
theorem ps_lcs (hc : X.calm = true) (hN : X.N.Nodup) (hy : X.N[i]? = some y) (hyl : X.env.scope.names.lookup y = some .local) (hsw : swapsWith (.ListComp elt [⟨tg, iter, ifs, 0⟩] scope pos) (some (.Name y py)) spos.line X.env = pure true) (hi : DI X ⟨we, none⟩ tg iter fi) (ok : BlkOk X.N X.env.scope scope own)
    (hg : ∀ (s : Shared) (H : Hp) (C : Addr) (cl : List (Str × Addr)) (fp : List Addr), DG (X.blk s H scope (compEnvC scope cl C X.env) fp) N0 tg p sl) (ht : ∀ (s : Shared) (H : Hp) (C : Addr) (cl : List (Str × Addr)) (fp : List Addr), DTs (X.blk s H scope (compEnvC scope cl C X.env) fp) N0 ifs ft)
    (he : ∀ (s : Shared) (H : Hp) (C : Addr) (cl : List (Str × Addr)) (fp : List Addr), DE (X.blk s H scope (compEnvC scope cl C X.env) fp) N0 elt fe) (hs : ∀ x, foldedSetIterable iter X.env x = pure x) :
    PS X (.Assign [.Name y py] (.ListComp elt [⟨tg, iter, ifs, 0⟩] scope pos) spos) (tAsg (tLc (tDI (kx X ⟨we, none⟩) we fi) (tG (kx X ⟨we, none⟩) p sl) (tDT (kx X ⟨we, none⟩) W0 ft) (tD (kx X ⟨we, none⟩) W0 fe) (own.map (·.2))) (gName i)) :=
  ps_setLc (g := tG (kx X ⟨we, none⟩) p sl) (tt := tDT (kx X ⟨we, none⟩) W0 ft) (te := tD (kx X ⟨we, none⟩) W0 fe) hc hN hy hyl hsw hi ok hg ht he hs
/-- name = [..], shared; own -/
theorem ds_lcA (hc : X.calm = true) (hN : X.N.Nodup) (hy : X.N[i]? = some y) (hyl : X.env.scope.names.lookup y = some .local) (hsw : swapsWith (.ListComp elt [⟨tg, iter, ifs, 0⟩] scope pos) (some (.Name y py)) spos.line X.env = pure true) (hi : DI X ⟨we, none⟩ tg iter fi) (ok : BlkOk X.N X.env.scope scope own)
    (hg : ∀ (s : Shared) (H : Hp) (C : Addr) (cl : List (Str × Addr)) (fp : List Addr), DG (X.blk s H scope (compEnvC scope cl C X.env) fp) N0 tg p sl) (ht : ∀ (s : Shared) (H : Hp) (C : Addr) (cl : List (Str × Addr)) (fp : List Addr), DTs (X.blk s H scope (compEnvC scope cl C X.env) fp) N0 ifs ft)
    (he : ∀ (s : Shared) (H : Hp) (C : Addr) (cl : List (Str × Addr)) (fp : List Addr), DE (X.blk s H scope (compEnvC scope cl C X.env) fp) N0 elt fe) (hsl : sl.all (fun j => decide (j ∈ own.map (·.2))) = true := by decide) (hs : ∀ x, foldedSetIterable iter X.env x = pure x := by intro _; rfl) :
    DS X ⟨we, none⟩ (.Assign [.Name y py] (.ListComp elt [⟨tg, iter, ifs, 0⟩] scope pos) spos) (gAsg (fLc fi p ft fe (own.map (·.2))) (ptName i)) :=
  asg_of (ps_lcs hc hN hy hyl hsw hi ok hg ht he hs) fun σ H Q h => lc_ok (fun j hj => of_decide_eq_true (List.all_eq_true.mp hsl j hj)) h
theorem ds_lcO (hc : X.calm = true) (hN : X.N.Nodup) (hy : X.N[i]? = some y) (hyl : X.env.scope.names.lookup y = some .local) (hsw : swapsWith (.ListComp elt [⟨tg, iter, ifs, 0⟩] scope pos) (some (.Name y py)) spos.line X.env = pure true) (hi : DI X ⟨we, none⟩ tg iter fi) (ok : BlkOk X.N X.env.scope scope own)
    (hg : ∀ (s : Shared) (H : Hp) (C : Addr) (cl : List (Str × Addr)) (fp : List Addr), DG (X.blk s H scope (compEnvC scope cl C X.env) fp) N0 tg p sl) (ht : ∀ (s : Shared) (H : Hp) (C : Addr) (cl : List (Str × Addr)) (fp : List Addr), DTs (X.blk s H scope (compEnvC scope cl C X.env) fp) N0 ifs ft)
    (he : ∀ (s : Shared) (H : Hp) (C : Addr) (cl : List (Str × Addr)) (fp : List Addr), DE (X.blk s H scope (compEnvC scope cl C X.env) fp) N0 elt fe) (hsl : sl.all (fun j => decide (j ∈ own.map (·.2))) = true := by decide) (hs : ∀ x, foldedSetIterable iter X.env x = pure x := by intro _; rfl) :
    DS X ⟨we, none⟩ (.Assign [.Name y py] (.ListComp elt [⟨tg, iter, ifs, 0⟩] scope pos) spos) (gOwn (fLc fi p ft fe (own.map (·.2))) i) :=
  own_of (ps_lcs hc hN hy hyl hsw hi ok hg ht he hs) fun σ H Q h => lc_ok (fun j hj => of_decide_eq_true (List.all_eq_true.mp hsl j hj)) h
end
/-! ### a, b, .. = a list -/
def ptLst (ps : List Pt) : Pt := fun d es => match d with
  | .lst ds => ptAll ps ds es
  | _ => none
theorem dg_lst {X : Cx} {E : We} {es : List Expr} {ps : List Pt} {sl : List Nat} {pos : Pos} {k : Nat} (hc : X.calm = true) (h : DGs X E es ps sl) (hn : (assignEach es X.env).length = ps.length := by rfl) (hst : (assignEach es X.env).findIdx? (·.1) = none := by rfl) : DG X E (.Tuple es k pos) (ptLst ps) sl := by
  refine pg_imp (pg_unl hc h hn hst) fun v σ H Q ⟨P, es, d, es', ok, dn, e, q⟩ => ?_
  unfold ptLst at e
  split at e
  · cases dn with
    | lst hh z t =>
      exact ⟨_, _, rfl, .inl (.inl (ok.sub _ _ hh)), by rw [t.length]; exact ptAll_len e, P, es, _, es', ok, t, e, q⟩
  · cases e
end DL

/-! DL, part 29: sets of things on the heap that are compared without effect, such as tuples of texts and numbers. -/
namespace DL
open PySem PySem.Spec L2
open PyProof.Rows hiding St
set_option autoImplicit false

/-- keys that stand on the heap, hashed and compared without effect -/
structure Qk (P : Program) (w : World) (κ : Type) [DecidableEq κ] where
  is : Heap → κ → Addr → Prop
  hash : κ → Int
  cost : κ → Nat
  py : ∀ {A : Around} {E : Value → Shared → Prop} {s : Shared} {k : κ} {b : Addr} {Q : Int → Shared → Prop}, A.units < cLine → is s.heap k b → Q (hash k) { s with toks := s.toks + cost k } → wpAny (model P w) A (pyHash (.ref b)) Q E s
  eq : ∀ {A : Around} {E : Value → Shared → Prop} {s : Shared} {k m : κ} {b c : Addr} {Q : Bool → Shared → Prop}, A.units < cLine → is s.heap k b → is s.heap m c → Q (decide (k = m)) s → wpAny (model P w) A (eqBool (.ref b) (.ref c)) Q E s
  sees : ∀ {A : Around} {E : Value → Shared → Prop} {s : Shared} {k : κ} {b : Addr} {ys : List Value} {Q : Bool → Shared → Prop}, is s.heap k b → (∀ y ∈ ys, ∃ m c, y = Value.ref c ∧ is s.heap m c) → Q false s → wpAny (model P w) A (searchCouldBeSeen (.ref b) ys) Q E s
  byv : ∀ {A : Around} {E : Value → Shared → Prop} {s : Shared} {k : κ} {b : Addr} {Q : Bool → Shared → Prop}, is s.heap k b → (∀ v, Q v s) → wpAny (model P w) A (hashByValue 8 (.ref b)) Q E s
  noset : ∀ {h : Heap} {k : κ} {a b : Addr} {o : Obj} {es : Array (Int × Value)} {ep : Nat} {t : SetTable}, is h k b → h.get? a = some o → o.data = .set es ep t → b ≠ a
  stay : ∀ {h h' : Heap} {k : κ} {b : Addr}, is h k b → (∀ o, h.get? b = some o → h'.get? b = some o) → is h' k b
section
variable {P : Program} {w : World} {κ : Type} [DecidableEq κ] {Z : Qk P w κ} {A : Around} {E : Value → Shared → Prop} {s : Shared} {a : Addr} {L : List (Addr × κ)} {es : Array (Int × Value)} {ep : Nat} {t : SetTable}
def hashes (Z : Qk P w κ) (L : List (Addr × κ)) : List Int := L.map fun q => Z.hash q.2
def ents (Z : Qk P w κ) (L : List (Addr × κ)) : List (Int × Value) := L.map fun q => (Z.hash q.2, Value.ref q.1)
/-- at a: a set that holds the keys L -/
structure Fset (Z : Qk P w κ) (h : Heap) (a : Addr) (L : List (Addr × κ)) (es : Array (Int × Value)) (ep : Nat) (t : SetTable) : Prop where
  obj : ∃ o, h.get? a = some o ∧ o.ExactSet ∧ o.data = .set es ep t
  lay : es.toList = ents Z L
  tbl : TabOk t (hashes Z L)
  one : (L.map (·.2)).Nodup
  all : ∀ q ∈ L, Z.is h q.2 q.1
  led : w.params.followText "set-order" = true ∨ t.led = true
  rm : L.length * 5 < t.mask * 3
  few : L.length < 64
theorem hashes_len : (hashes Z L).length = L.length := by unfold hashes; rw [List.length_map]
theorem ents_len {es : Array (Int × Value)} (h : es.toList = ents Z L) : es.size = L.length := by
  rw [← Array.length_toList, h]
  unfold ents
  rw [List.length_map]
theorem ents_get {es : Array (Int × Value)} (h : es.toList = ents Z L) {i : Nat} {q : Addr × κ} (e : L[i]? = some q) : es[i]? = some (Z.hash q.2, Value.ref q.1) := by
  rw [← Array.getElem?_toList, h]
  show (L.map fun q => (Z.hash q.2, Value.ref q.1))[i]? = _
  rw [List.getElem?_map, e]
  rfl
theorem Fset.fit (F : Fset Z s.heap a L es ep t) : t.fits es.size = true := by
  have k1 := F.tbl.sz
  rw [hashes_len] at k1
  have k2 := ents_len F.lay
  have k3 := F.rm
  unfold SetTable.fits SetTable.fill
  rw [F.tbl.dm, Bool.and_eq_true]
  constructor
  · exact beq_iff_eq.mpr (k1.trans k2.symm)
  · refine decide_eq_true ?_
    show t.place.size + 0 ≤ t.mask
    omega
theorem Fset.ways (F : Fset Z s.heap a L es ep t) : t.gaveWay = true → False := fun z => by
  unfold SetTable.gaveWay at z
  rw [mask_odd F.tbl.mok] at z
  revert z
  decide
/-- the hash of the i-th entry, as the model asks for it -/
abbrev hAt (es : Array (Int × Value)) (i : Nat) : Int := (es[i]?.map (·.1)).getD 0
abbrev st0 (t : SetTable) (h : Int) : SetTable.Probe := runAt t.mask (SetTable.bits h % (t.mask + 1)) (SetTable.bits h)
theorem dum (m : Nat) : ∀ (n : Nat) (p : SetTable.Probe), p.dummy = none → (nth m p n).dummy = none
  | 0, _, h => h
  | n + 1, p, h => dum m n (adv m p) (by unfold adv; split <;> exact h)
/-- what the walk from its c-th step finds: a candidate, or the free slot at K -/
theorem walk_from (F : Fset Z s.heap a L es ep t) {h : Int} {K c : Nat} (kf : K < 10 * SetTable.turns t.mask) (kn : way t.mask h K ∉ t.place.toList) (kb : ∀ i, i < K → way t.mask h i ∈ t.place.toList) (ck : c ≤ K) :
    (∃ q i p, q < K - c ∧ i < L.length ∧ L[i]? = some p ∧ t.place.toList[i]? = some (way t.mask h (c + q)) ∧ (∀ (q' i' : Nat) (p' : Addr × κ), q' < q → L[i']? = some p' → t.place.toList[i']? = some (way t.mask h (c + q')) → Z.hash p'.2 ≠ h) ∧
      t.probe (hAt es) h (nth t.mask (st0 t h) c) = some (.candidate (way t.mask h (c + q)) i (nth t.mask (st0 t h) (c + q + 1)))) ∨
    ((∀ (q' i' : Nat) (p' : Addr × κ), c + q' < K → L[i']? = some p' → t.place.toList[i']? = some (way t.mask h (c + q')) → Z.hash p'.2 ≠ h) ∧ t.probe (hAt es) h (nth t.mask (st0 t h) c) = some (.empty (way t.mask h K) none)) := by
  have go : ∀ q, nth t.mask (nth t.mask (st0 t h) c) q = nth t.mask (st0 t h) (c + q) := fun q => (nth_add t.mask c _ q).symm
  have gj : ∀ q, (nth t.mask (nth t.mask (st0 t h) c) q).j = way t.mask h (c + q) := fun q => by rw [go]
  have hp : ∀ {i : Nat} {p : Addr × κ}, L[i]? = some p → hAt es i = Z.hash p.2 := fun {i p} e => by
    unfold hAt
    rw [ents_get F.lay e]
    rfl
  have spec := go_spec t F.tbl.ris F.tbl.dm (hAt es) h (10 * SetTable.turns t.mask) (K - c) (nth t.mask (st0 t h) c) (dum _ _ _ rfl) (by omega) (fun q hq => by rw [gj]; exact kb _ (by omega)) (by rw [gj, Nat.add_sub_cancel' ck]; exact kn)
  rcases spec with ⟨q, i, hq, hi, hh, hno, hpr⟩ | ⟨hno, hpr⟩
  · rw [gj] at hi
    have lt : i < L.length := by
      have u1 := (List.getElem?_eq_some_iff.mp hi).1
      have u2 := F.tbl.sz
      rw [hashes_len] at u2
      rw [Array.length_toList] at u1
      omega
    refine .inl ⟨q, i, L[i], hq, lt, List.getElem?_eq_getElem lt, hi, fun q' i' p' lq e1 e2 z => ?_, ?_⟩
    · exact hno q' i' lq (by rw [gj]; exact e2) ((hp e1).trans z)
    · have := hpr
      rw [gj, go] at this
      exact this
  · refine .inr ⟨fun q' i' p' lq e1 e2 z => ?_, ?_⟩
    · exact hno q' i' (by omega) (by rw [gj]; exact e2) ((hp e1).trans z)
    · have := hpr
      rw [gj, Nat.add_sub_cancel' ck] at this
      exact this
/-- a key that is there, on the way from c -/
def Ahead (L : List (Addr × κ)) (t : SetTable) (h : Int) (k : κ) (c K : Nat) : Prop := ∀ (i : Nat) p, L[i]? = some p → p.2 = k → ∃ c', c ≤ c' ∧ c' < K ∧ t.place.toList[i]? = some (way t.mask h c')
theorem look_from (F : Fset Z s.heap a L es ep t) {x : Addr} {k : κ} (kx : Z.is s.heap k x) (hu : A.units < cLine) {K : Nat} (kf : K < 10 * SetTable.turns t.mask) (kn : way t.mask (Z.hash k) K ∉ t.place.toList)
    (kb : ∀ i, i < K → way t.mask (Z.hash k) i ∈ t.place.toList) {Q : SetFound → Shared → Prop} (yes : k ∈ L.map (·.2) → Q (.there none) s) (no : k ∉ L.map (·.2) → Q (.free (way t.mask (Z.hash k) K) false) s) :
    ∀ (n c : Nat) (from? : Option SetTable.Probe), from?.getD (t.probeStart (Z.hash k)) = nth t.mask (st0 t (Z.hash k)) c → c ≤ K → K - c < n → Ahead L t (Z.hash k) k c K → wpAny (model P w) A (setSearchFrom a (.ref x) (Z.hash k) true n from?) Q E s := by
  intro n
  induction n with
  | zero => intro c _ _ _ z; exact (Nat.not_lt_zero _ z).elim
  | succ n ih =>
    intro c fr hfr hc hn ah
    obtain ⟨o, g1, g2, g3⟩ := F.obj
    rw [setSearchFrom_succ]
    refine wpAny_bind (wpAny_setState_of g1 g3 F.fit ?_)
    dsimp only
    refine wp_if_neg F.ways ?_
    (try refine wpAny_bind (wpAny_pure ?_))
    rw [hfr]
    show wpAny _ _ (match t.probe (hAt es) (Z.hash k) (nth t.mask (st0 t (Z.hash k)) c) with | some met => _ | x => _) _ _ _
    rcases walk_from F kf kn kb hc with ⟨q, i, p, hq, hi, hp, hpl, hno, hpr⟩ | ⟨hno, hpr⟩
    · rw [hpr]
      dsimp only
      have pm : p ∈ L := List.mem_of_getElem? hp
      have pk := F.all p pm
      have next : wpAny (model P w) A (searchRest a (.ref x) (Z.hash k) true n es t (way t.mask (Z.hash k) (c + q)) i (nth t.mask (st0 t (Z.hash k)) (c + q + 1))) Q E s := by
        unfold searchRest
        rw [ents_get F.lay hp]
        dsimp only
        refine wpAny_bind (wpAny_holding (Z.eq hu pk kx ?_))
        refine wpAny_bind (wpAny_setState_of g1 g3 F.fit ?_)
        dsimp only
        by_cases same : p.2 = k
        · refine wp_if_pos (by rw [decide_eq_true same]; rfl) ?_
          exact wpAny_pure (yes (List.mem_map.mpr ⟨p, pm, same⟩))
        · refine wp_if_neg (by rw [decide_eq_false same]; exact Bool.false_ne_true) ?_
          (try refine wpAny_bind (wpAny_pure ?_))
          rw [sameMem]
          dsimp only
          have live := slot_live F.tbl.ris hpl
          simp only [if_true, live, ents_get F.lay hp]
          refine wpAny_bind (wpAny_isSame_ref_self (wpAny_bind (wpAny_pure ?_)))
          simp only [if_true]
          refine wp_if_neg (by rw [decide_eq_false same]; exact Bool.false_ne_true) ?_
          refine ih (c + q + 1) _ rfl (by omega) (by omega) fun i0 p0 e0 k0 => ?_
          obtain ⟨c', b1, b2, b3⟩ := ah i0 p0 e0 k0
          refine ⟨c', Nat.lt_of_not_le fun z => ?_, b2, b3⟩
          rcases Nat.lt_or_eq_of_le z with lt | eq
          · exact hno (c' - c) i0 p0 (by omega) e0 (by rw [Nat.add_sub_cancel' b1]; exact b3) (congrArg Z.hash k0)
          · rw [eq] at b3
            have s1 := slot_live F.tbl.ris b3
            rw [live] at s1
            cases s1
            rw [hp] at e0
            cases e0
            exact same k0
      by_cases hl : t.led = true
      · refine wp_if_neg (by rw [hl]; exact Bool.false_ne_true) ?_
        (try refine wpAny_bind (wpAny_pure ?_))
        exact next
      · refine wp_if_pos (by simpa using hl) ?_
        refine wpAny_bind (Z.sees kx (fun y hy => ?_) ?_)
        · obtain ⟨e, he, rfl⟩ := List.mem_map.mp hy
          have h1 : e ∈ es.toList := by
            have := (by simpa using he : e ∈ es ∧ _).1
            simpa using this
          rw [F.lay] at h1
          obtain ⟨p2, hp2, rfl⟩ := List.mem_map.mp h1
          exact ⟨p2.2, p2.1, rfl, F.all p2 hp2⟩
        · refine wp_if_neg Bool.false_ne_true ?_
          (try refine wpAny_bind (wpAny_pure ?_))
          exact next
    · rw [hpr]
      dsimp only
      refine wpAny_pure (no fun z => ?_)
      obtain ⟨p0, m0, k0⟩ := List.mem_map.mp z
      obtain ⟨i0, l0, e0⟩ := List.getElem_of_mem m0
      have e0 : L[i0]? = some p0 := by rw [List.getElem?_eq_getElem l0, e0]
      obtain ⟨c', b1, b2, b3⟩ := ah i0 p0 e0 k0
      exact hno (c' - c) i0 p0 (by omega) e0 (by rw [Nat.add_sub_cancel' b1]; exact b3) (congrArg Z.hash k0)
theorem look (F : Fset Z s.heap a L es ep t) {x : Addr} {k : κ} (kx : Z.is s.heap k x) (hu : A.units < cLine) {Q : SetFound → Shared → Prop} (yes : k ∈ L.map (·.2) → Q (.there none) s)
    (no : ∀ K, k ∉ L.map (·.2) → way t.mask (Z.hash k) K ∉ t.place.toList → (∀ i, i < K → way t.mask (Z.hash k) i ∈ t.place.toList) → Q (.free (way t.mask (Z.hash k) K) false) s) : wpAny (model P w) A (setSearch a (.ref x) (Z.hash k) true) Q E s := by
  have r := F.rm
  obtain ⟨K, kf, kn, kb⟩ := F.tbl.first (by rw [hashes_len]; omega) (Z.hash k)
  have small : K < 100000 := by
    have : 10 * SetTable.turns t.mask ≤ 1420 := by
      unfold SetTable.turns
      rcases F.tbl.mok with e | e | e <;> omega
    omega
  unfold setSearch
  refine look_from F kx hu kf kn kb yes (fun z => no K z kn kb) 100000 0 none rfl (Nat.zero_le _) (by omega) fun i p e ek => ?_
  have lt : i < t.place.toList.length := by
    have u1 := (List.getElem?_eq_some_iff.mp e).1
    have u2 := F.tbl.sz
    rw [hashes_len] at u2
    rw [Array.length_toList]
    omega
  have hj := List.getElem?_eq_getElem lt
  have hh : (hashes Z L)[i]? = some (Z.hash k) := by
    unfold hashes
    rw [List.getElem?_map, e, ← ek]
    rfl
  obtain ⟨c, hc, e2⟩ := F.tbl.before kn hh hj
  exact ⟨c, Nat.zero_le _, hc, by rw [hj, e2]⟩
end
end DL

/-! DL, part 30: adding to such a set; set(xs). -/
namespace DL
open PySem PySem.Spec L2
open PyProof.Rows hiding St
set_option autoImplicit false
theorem range_all {α : Type} : ∀ l : List α, (List.range l.length).filterMap (fun i => l[i]?) = l
  | [] => rfl
  | x :: l => by
    have ih := range_all l
    rw [List.length_cons, List.range_succ_eq_map, List.filterMap_cons_some (f := fun i => (x :: l)[i]?) (a := 0) (b := x) rfl, List.filterMap_map]
    exact congrArg (x :: ·) ih
section
variable {P : Program} {w : World} {κ : Type} [DecidableEq κ] {Z : Qk P w κ} {A : Around} {E : Value → Shared → Prop} {s : Shared} {a : Addr} {L : List (Addr × κ)} {es : Array (Int × Value)} {ep : Nat} {t : SetTable}
theorem pick_hash (hl : es.toList = ents Z L) : ∀ l : List Nat, (∀ i ∈ l, i < L.length) → hashes Z (l.filterMap fun i => L[i]?) = l.map fun i => (es.map (·.1)).getD i 0
  | [], _ => rfl
  | i :: l, h => by
    have hi : i < L.length := h i List.mem_cons_self
    rw [List.filterMap_cons_some (List.getElem?_eq_getElem hi), List.map_cons, ← pick_hash hl l fun j hj => h j (List.mem_cons_of_mem _ hj)]
    have q := ents_get hl (List.getElem?_eq_getElem hi)
    have : (es.map (·.1)).getD i 0 = Z.hash (L[i]).2 := by
      rw [Array.getD_eq_getD_getElem?, Array.getElem?_map, q]
      rfl
    rw [this]
    rfl
theorem pick_ents {order : Array Nat} (hl : es.toList = ents Z L) : (order.filterMap (es[·]?)).toList = ents Z (order.toList.filterMap fun i => L[i]?) := by
  have q : (fun i => es[i]?) = fun (i : Nat) => (L[i]?).map fun (q : Addr × κ) => (Z.hash q.2, Value.ref q.1) := funext fun i => by
    rw [← Array.getElem?_toList, hl]
    show (L.map _)[i]? = _
    rw [List.getElem?_map]
  rw [Array.toList_filterMap, q]
  unfold ents
  rw [List.map_filterMap]
theorem stay_set {h h' : Heap} {k : κ} {b : Addr} {o : Obj} (x : Z.is h k b) (ho : h.get? a = some o) (hd : o.data = .set es ep t) (sb : Heap.SameBut a h h') : Z.is h' k b :=
  Z.stay x fun o' e => (sb.2 b (Z.noset x ho hd)).trans e
/-- the table made larger -/
theorem grow {o : Obj} (g1 : s.heap.get? a = some o) (g2 : o.ExactSet) (g3 : o.data = .set es ep t) (lay : es.toList = ents Z L) (sz : t.place.size = es.size) (dm : t.dummies = #[]) (le : es.size ≤ t.mask) (one : (L.map (·.2)).Nodup)
    (all : ∀ q ∈ L, Z.is s.heap q.2 q.1) (led : w.params.followText "set-order" = true ∨ t.led = true) (few : L.length < 64) {want M : Nat} (hM : SetTable.sizeAbove want - 1 = M) (okM : MaskOk M) (lim : SetTable.sizeAbove want ≤ 128)
    (rm : L.length * 5 < M * 3) {Q : Unit → Shared → Prop} (q : ∀ h' L' es' ep' t', Heap.SameBut a s.heap h' → Fset Z h' a L' es' ep' t' → L'.Perm L → Q () { s with heap := h' }) : wpAny (model P w) A (setRelay a want) Q E s := by
  have n1 := ents_len lay
  have fit : t.fits es.size = true := by
    unfold SetTable.fits SetTable.fill
    rw [dm, Bool.and_eq_true]
    refine ⟨beq_iff_eq.mpr sz, decide_eq_true ?_⟩
    show t.place.size + 0 ≤ t.mask
    omega
  obtain ⟨t', order, e, pm, T, em, el, e3, e4⟩ := relaid_ok t (hs := es.map (·.1)) (wanted := want) hM okM (by rw [Array.size_map]; omega)
  rw [Array.size_map, n1] at pm
  have inb : ∀ i ∈ order.toList, i < L.length := fun i hi => List.mem_range.mp (pm.mem_iff.mp hi)
  have perm : (order.toList.filterMap fun i => L[i]?).Perm L := by
    have := pm.filterMap fun i => L[i]?
    rwa [range_all] at this
  have lay' := pick_ents (order := order) lay
  rw [← pick_hash lay _ inb] at T
  generalize (order.toList.filterMap fun i => L[i]?) = L' at perm lay' T
  have n2 := ents_len lay'
  have n3 := perm.length_eq
  rw [setRelay_eq]
  refine wpAny_bind (wpAny_setState_of g1 g3 fit ?_)
  dsimp only
  refine wp_if_neg (by rw [sizeLine_eq]; omega) ?_
  (try refine wpAny_bind (wpAny_pure ?_))
  rw [e]
  dsimp only
  refine wpAny_bind ?_
  refine wp_if_neg (by rw [n2, n1, n3]; simp) ?_
  (try refine wpAny_bind (wpAny_pure ?_))
  refine wpAny_pure ?_
  dsimp only
  refine wpAny_storeSet_of g1 g3 ?_ (by rw [n2, n3, sizeLine_eq]; omega)
  have sb : Heap.SameBut a s.heap (s.heap.update a (Obj.putSet (order.filterMap (es[·]?)) t')) := .update ..
  refine q _ L' (order.filterMap (es[·]?)) (ep + 1) t' sb ?_ perm
  constructor
  · exact ⟨_, store_at g1 g3, ⟨g2.1, g2.2.1, g2.2.2⟩, rfl⟩
  · exact lay'
  · exact T
  · exact (perm.map (·.2)).nodup_iff.mpr one
  · exact fun p hp => stay_set (all p (perm.mem_iff.mp hp)) g1 g3 sb
  · rw [el]; exact led
  · rw [n3, em]; exact rm
  · rw [n3]; exact few
theorem put_in (L : List (Addr × κ)) (p : Nat) (x : Addr × κ) : (L.take p ++ x :: L.drop p).Perm (x :: L) := by
  have := List.perm_middle (a := x) (l₁ := L.take p) (l₂ := L.drop p)
  rwa [List.take_append_drop] at this
theorem ite_two {M : Model} {c : Prop} [Decidable c] {m1 m2 : Sem Bool} {C : Bool → Sem Bool} {Q : Bool → Shared → Prop} (h1 : (∀ v, wpAny M A (C v) Q E s) → wpAny M A (m1 >>= C) Q E s) (h2 : (∀ v, wpAny M A (C v) Q E s) → wpAny M A (m2 >>= C) Q E s)
    (h : ∀ v, wpAny M A (C v) Q E s) : wpAny M A (if c then m1 >>= C else m2 >>= C) Q E s := by
  by_cases hc : c
  · rw [if_pos hc]; exact h1 h
  · rw [if_neg hc]; exact h2 h
/-- a key is added -/
theorem add1 (F : Fset Z s.heap a L es ep t) {x : Addr} {k : κ} (kx : Z.is s.heap k x) (hu : A.units < cLine) (few : L.length + 1 < 64) {Q : Bool → Shared → Prop}
    (q : ∀ b h' L' es' ep' t', Heap.SameBut a s.heap h' → Fset Z h' a L' es' ep' t' → (k ∈ L.map (·.2) → L' = L) → (k ∉ L.map (·.2) → L'.Perm ((x, k) :: L)) → Q b { s with heap := h' }) :
    wpAny (model P w) A (setAddHashed a (.ref x) (Z.hash k)) Q E s := by
  obtain ⟨o, g1, g2, g3⟩ := F.obj
  have n1 := ents_len F.lay
  have r := F.rm
  unfold setAddHashed
  refine wpAny_holding ?_
  rw [show (100000 : Nat) = 99999 + 1 by rfl, setAddHashedIn_succ]
  refine wpAny_bind (wpAny_setState_of g1 g3 F.fit ?_)
  dsimp only
  refine wp_if_neg (by simp [byScan, Value.scannable]) ?_
  (try refine wpAny_bind (wpAny_pure ?_))
  refine wpAny_bind (look F kx hu (fun m => ?_) fun K m kn kb => ?_)
  · dsimp only
    exact wpAny_pure (q false s.heap L es ep t (.refl a s.heap) F (fun _ => rfl) fun z => (z m).elim)
  · dsimp only
    refine wpAny_bind (wpAny_setState_of g1 g3 F.fit ?_)
    dsimp only
    obtain ⟨z1, z2, z3, z4, z5, z6, z7, z8, z9⟩ := F.tbl.put kn kb
    rw [hashes_len] at z2
    generalize hT : t.put (way t.mask (Z.hash k) K) = T at z1 z3 z4 z5 z6 z7 z8 z9 ⊢
    obtain ⟨t1, p⟩ := T
    dsimp only at z1 z3 z4 z5 z6 z7 z8 z9 ⊢
    subst z1
    generalize SetTable.below t.place (way t.mask (Z.hash k) K) = p at z2 z3 ⊢
    -- whether the hash hangs on the value alone
    refine ite_two (fun hB => wpAny_bind (Z.byv kx fun v => hB v)) (fun hB => wpAny_bind (wpAny_pure (hB true))) fun v => ?_
    obtain ⟨t2, ht2, k1, k2, k3, k4⟩ : ∃ t2, (if v = true then t1 else { t1 with plain := false }) = t2 ∧ t2.place = t1.place ∧ t2.dummies = t1.dummies ∧ t2.mask = t1.mask ∧ t2.led = t1.led := by
      cases v
      · exact ⟨_, rfl, rfl, rfl, rfl, rfl⟩
      · exact ⟨_, rfl, rfl, rfl, rfl, rfl⟩
    first
      | rw [ht2]
      | (dsimp only; rw [ht2])
    have z3 : TabOk t2 _ := ⟨by rw [k1]; exact z3.ris, by rw [k2]; exact z3.dm, by rw [k1]; exact z3.sz, by rw [k3]; exact z3.mok, by rw [k1, k3]; exact z3.bd, by rw [k1, k3]; exact z3.reach⟩
    have z4 := k3.trans z4
    have z5 := k4.trans z5
    have z9 : t2.fill = _ := (show t2.fill = t1.fill by unfold SetTable.fill; rw [k1, k2]).trans z9
    clear ht2 k1 k2 k3 k4
    have pm := put_in L p (x, k)
    have lay1 : (SetTable.insertAt es p (Z.hash k, Value.ref x)).toList = ents Z (L.take p ++ (x, k) :: L.drop p) := by
      rw [SetTable.toList_insertAt, F.lay]
      unfold ents
      rw [List.map_append, List.map_cons, List.map_take, List.map_drop]
    have tb1 : TabOk t2 (hashes Z (L.take p ++ (x, k) :: L.drop p)) := by
      have : hashes Z (L.take p ++ (x, k) :: L.drop p) = (hashes Z L).take p ++ Z.hash k :: (hashes Z L).drop p := by
        unfold hashes
        rw [List.map_append, List.map_cons, List.map_take, List.map_drop]
      rw [this]
      exact z3
    have n2 := pm.length_eq
    have n3 := ents_len lay1
    have one1 : ((L.take p ++ (x, k) :: L.drop p).map (·.2)).Nodup := (pm.map (·.2)).nodup_iff.mpr (List.nodup_cons.mpr ⟨m, F.one⟩)
    generalize SetTable.insertAt es p (Z.hash k, Value.ref x) = es1 at lay1 n3 ⊢
    generalize L.take p ++ (x, k) :: L.drop p = L1 at pm lay1 tb1 n2 n3 one1
    rw [List.length_cons] at n2
    refine wpAny_bind (wpAny_storeSet_of g1 g3 ?_ (by rw [n3, n2, sizeLine_eq]; omega))
    have sb : Heap.SameBut a s.heap (s.heap.update a (Obj.putSet es1 t2)) := .update ..
    have at1 := store_at (es' := es1) (t' := t2) g1 g3
    generalize s.heap.update a (Obj.putSet es1 t2) = h1 at sb at1 ⊢
    have all1 : ∀ p ∈ L1, Z.is h1 p.2 p.1 := fun p hp => by
      rcases List.mem_cons.mp (pm.mem_iff.mp hp) with z | z
      · subst z; exact stay_set kx g1 g3 sb
      · exact stay_set (F.all p z) g1 g3 sb
    have led1 : w.params.followText "set-order" = true ∨ t2.led = true := by rw [z5]; exact F.led
    have tsz := tb1.sz
    rw [hashes_len] at tsz
    rw [hashes_len] at z9
    by_cases full : t2.tooFull = true
    · first
        | (refine wpAny_bind ?_; refine wp_if_pos (by simp [full]) ?_)
        | (refine wp_if_pos (by simp [full]) ?_; refine wpAny_bind ?_)
      have big : (L.length + 1) * 5 ≥ t2.mask * 3 := by
        have := full
        unfold SetTable.tooFull at this
        rw [decide_eq_true_eq, z9] at this
        exact this
      rw [n1]
      have two : (t.mask = 7 ∧ L.length = 4) ∨ (t.mask = 31 ∧ L.length = 18) := by
        rw [z4] at big
        rcases F.tbl.mok with e | e | e <;> (rw [e] at big r; omega)
      have go : ∀ M, SetTable.sizeAbove (SetTable.grown (L.length + 1)) - 1 = M → MaskOk M → SetTable.sizeAbove (SetTable.grown (L.length + 1)) ≤ 128 → (L.length + 1) * 5 < M * 3 →
          wpAny (model P w) A (setRelay a (SetTable.grown (L.length + 1))) (fun _ s' => wpAny (model P w) A (pure true) Q E s') E { s with heap := h1 } := fun M y1 y2 y3 y4 => by
        refine grow (s := { s with heap := h1 }) at1 ⟨g2.1, g2.2.1, g2.2.2⟩ rfl lay1 (by rw [tsz, n3]) tb1.dm (by rw [n3, z4, n2]; rcases two with ⟨e, e'⟩ | ⟨e, e'⟩ <;> omega) one1 all1 led1 (by rw [n2]; exact few) y1 y2 y3 (by rw [n2]; exact y4) ?_
        exact fun h2 L2 es2 ep2 t2 sb2 F2 pm2 => wpAny_pure (q true h2 L2 es2 ep2 t2 (sb.trans sb2) F2 (fun z => (m z).elim) fun _ => pm2.trans pm)
      rcases two with ⟨_, e⟩ | ⟨_, e⟩
      · exact go 31 (by rw [e, size_20]) (.inr (.inl rfl)) (by rw [e, size_20]; decide) (by omega)
      · exact go 127 (by rw [e, size_76]) (.inr (.inr rfl)) (by rw [e, size_76]; decide) (by omega)
    · first
        | refine wp_if_neg (by simp [full]) ?_
        | (refine wpAny_bind ?_; refine wp_if_neg (by simp [full]) ?_; refine wpAny_pure ?_)
      have fine : ¬ (L.length + 1) * 5 ≥ t2.mask * 3 := fun z => full (by
        unfold SetTable.tooFull
        rw [decide_eq_true_eq, z9]
        exact z)
      refine wpAny_pure (q true h1 L1 es1 (ep + 1) t2 sb ⟨⟨_, at1, ⟨g2.1, g2.2.1, g2.2.2⟩, rfl⟩, lay1, tb1, one1, all1, led1, by rw [n2]; omega, by rw [n2]; exact few⟩ (fun z => (m z).elim) fun _ => pm)
end
end DL

/-! DL, part 31: set(xs) of such keys; tuples of texts and numbers. -/
namespace DL
open PySem PySem.Spec L2
open PyProof.Rows hiding St
set_option autoImplicit false
section
variable {P : Program} {w : World} {κ : Type} [DecidableEq κ] {Z : Qk P w κ} {A : Around} {E : Value → Shared → Prop} {s : Shared}
theorem Fset.move {h h' : Heap} {a : Addr} {L : List (Addr × κ)} {es : Array (Int × Value)} {ep : Nat} {t : SetTable} (F : Fset Z h a L es ep t) (k : ∀ o, h.get? a = some o → h'.get? a = some o) (all : ∀ q ∈ L, Z.is h' q.2 q.1) : Fset Z h' a L es ep t := by
  obtain ⟨o, g, r⟩ := F.obj
  exact ⟨⟨o, k o g, r⟩, F.lay, F.tbl, F.one, all, F.led, F.rm, F.few⟩
/-- what the set holds of the first i keys -/
structure Has (ks : List (Addr × κ)) (i : Nat) (L : List (Addr × κ)) : Prop where
  of : ∀ p ∈ L, p ∈ ks.take i
  to : ∀ p ∈ ks.take i, p.2 ∈ L.map (·.2)
  le : L.length ≤ i
theorem take_snoc {α : Type} {l : List α} {i : Nat} {x : α} (h : l[i]? = some x) : l.take (i + 1) = l.take i ++ [x] := by
  rw [List.take_succ, h]
  rfl
theorem Has.step {ks L L' : List (Addr × κ)} {i : Nat} {p : Addr × κ} (g : Has ks i L) (h : ks[i]? = some p) (c1 : p.2 ∈ L.map (·.2) → L' = L) (c2 : p.2 ∉ L.map (·.2) → L'.Perm (p :: L)) : Has ks (i + 1) L' := by
  have e := take_snoc h
  by_cases c : p.2 ∈ L.map (·.2)
  · rw [c1 c]
    refine ⟨fun q hq => by rw [e]; exact List.mem_append_left _ (g.of q hq), fun q hq => ?_, Nat.le_succ_of_le g.le⟩
    rw [e] at hq
    rcases List.mem_append.mp hq with z | z
    · exact g.to q z
    · rw [List.mem_singleton.mp z]; exact c
  · have pm := c2 c
    refine ⟨fun q hq => ?_, fun q hq => ?_, ?_⟩
    · rw [e]
      rcases List.mem_cons.mp (pm.mem_iff.mp hq) with z | z
      · rw [z]; exact List.mem_append_right _ List.mem_cons_self
      · exact List.mem_append_left _ (g.of q z)
    · refine (pm.map (·.2)).mem_iff.mpr ?_
      rw [e] at hq
      rcases List.mem_append.mp hq with z | z
      · exact List.mem_cons_of_mem _ (g.to q z)
      · rw [List.mem_singleton.mp z]; exact List.mem_cons_self
    · rw [pm.length_eq]
      exact Nat.succ_le_succ g.le
structure FH (Z : Qk P w κ) (h : Heap) (S : Addr) (ks : List (Addr × κ)) (i : Nat) : Prop where
  ex : ∃ L es ep t, Fset Z h S L es ep t ∧ Has ks i L
variable {R : Result → Shared → Prop} {I : Addr} {fp wr : List Addr} {Gn : Array GenState → Array GenState → Prop} {n : Nat} {Pv : Nat → Value → Prop} {Sv : Nat → Shared → Prop}
theorem fill_loop (W : WalksS P w A.in1 I fp wr Gn n Pv Sv) {S : Addr} (away : S ∉ fp) {ks : List (Addr × κ)} (hn : n = ks.length) (few : ks.length < 64) (val : ∀ i v, Pv i v → ∃ p, ks[i]? = some p ∧ v = .ref p.1) {h0 : Heap} (is0 : ∀ p ∈ ks, Z.is h0 p.2 p.1)
    (S0 : h0.get? S = none) (w0 : ∀ b ∈ wr, h0.get? b = none) (hu : A.in1.units < cLine) :
    ∀ (left i : Nat) (s : Shared), n - i = left → i ≤ n → Sv i s → (∀ b o, h0.get? b = some o → s.heap.get? b = some o) → FH Z s.heap S ks i →
      (∀ s', Moved (S :: wr) Gn s s' → FH Z s'.heap S ks n → (∀ b o, h0.get? b = some o → s'.heap.get? b = some o) → R (.ok (.ret .none)) s') → codeAny (model P w) A (.builtin "set.update.loop" ⟨[.ref S, .ref I], []⟩) R s := by
  have nwr : S ∉ wr := fun z => away (W.sub _ z)
  have more : ∀ b ∈ wr, b ∈ S :: wr := fun b hb => List.mem_cons_of_mem _ hb
  have old : ∀ {u v : Shared}, Moved wr Gn u v → (∀ b o, h0.get? b = some o → u.heap.get? b = some o) → ∀ b o, h0.get? b = some o → v.heap.get? b = some o := fun m k b o e => m.heap b o (fun z => by rw [w0 b z] at e; cases e) (k b o e)
  intro left
  induction left with
  | zero =>
    intro i s hl hi st kp ⟨⟨L, es, ep, t, F, g⟩⟩ hR
    obtain rfl : i = n := by omega
    refine codeAny_builtin PyProof.Rows.F.entry_set_update_loop ?_
    rw [Around.under_plainId PyProof.Rows.F.plain_set_update_loop _]
    show wpAny _ A.in1 (pyNext (.ref I) >>= _) _ _ s
    refine wpAny_bind (W.done s _ _ st fun s1 mv => wpAny_pure ?_)
    have kp1 := old mv kp
    exact hR s1 (mv.mono more) ⟨⟨L, es, ep, t, F.move (fun o e => mv.heap S o nwr e) (fun q hq => Z.stay (is0 q (List.mem_of_mem_take (g.of q hq))) fun o e => kp1 _ o e), g⟩⟩ kp1
  | succ left ih =>
    intro i s hl hi st kp ⟨⟨L, es, ep, t, F, g⟩⟩ hR
    have lt : i < n := by omega
    refine codeAny_builtin PyProof.Rows.F.entry_set_update_loop ?_
    rw [Around.under_plainId PyProof.Rows.F.plain_set_update_loop _]
    show wpAny _ A.in1 (pyNext (.ref I) >>= _) _ _ s
    refine wpAny_bind (W.item i s _ _ lt st fun v s1 hv st1 mv => ?_)
    obtain ⟨p, hp, rfl⟩ := val i v hv
    have kp1 := old mv kp
    have F1 : Fset Z s1.heap S L es ep t := F.move (fun o e => mv.heap S o nwr e) fun q hq => Z.stay (is0 q (List.mem_of_mem_take (g.of q hq))) fun o e => kp1 _ o e
    have kx : Z.is s1.heap p.2 p.1 := Z.stay (is0 p (List.mem_of_getElem? hp)) fun o e => kp1 _ o e
    show wpAny _ A.in1 (holding [Value.ref p.1] (setAdd S (.ref p.1)) >>= _) _ _ s1
    refine wpAny_bind (wpAny_holding ?_)
    unfold setAdd
    refine wpAny_holding (wpAny_bind (Z.py hu kx ?_))
    refine add1 (s := { s1 with toks := s1.toks + Z.cost p.2 }) F1 kx hu (by have := g.le; omega) fun b h' L' es' ep' t' sb F2 c1 c2 => ?_
    have other : ∀ b, b ∈ fp → b ≠ S := fun b hb z => away (by rw [← z]; exact hb)
    have kp2 : ∀ b o, h0.get? b = some o → h'.get? b = some o := fun b o e => (sb.2 b fun z => by rw [z, S0] at e; cases e).trans (kp1 b o e)
    refine wpAny_pure ⟨plainId_quiet PyProof.Rows.F.plain_set_update_loop _, ih (i + 1) _ (by omega) lt (W.frame _ s1 _ _ st1 (Nat.le_add_right _ _) fun b hb o e => (sb.2 b (other b hb)).trans e) kp2 ⟨⟨L', es', ep', t', F2, g.step hp c1 c2⟩⟩ fun s2 mv2 fh kp3 => ?_⟩
    exact hR s2 (Moved.trans W.gtrans ((mv.mono more).then_heap (Nat.le_add_right _ _) fun b o hb e => (sb.2 b fun z => hb (by rw [z]; exact List.mem_cons_self)).trans e) mv2) fh kp3
theorem fset_new {h : Heap} {a : Addr} {b : Bool} (hb : w.params.followText "set-order" = true ∨ b = true) (ho : h.get? a = some (set0 b)) : Fset Z h a [] #[] 0 (.fresh 0 0 b) where
  obj := ⟨_, ho, ⟨rfl, rfl, rfl⟩, rfl⟩
  lay := rfl
  tbl := ⟨List.Pairwise.nil, rfl, rfl, .inl rfl, (fun x hx => by cases hx), (fun i h j hi => by cases hi)⟩
  one := List.nodup_nil
  all := fun q h => by cases h
  led := hb
  rm := by show 0 * 5 < 7 * 3; decide
  few := by show 0 < 64; decide
/-- a list or a tuple as what set(..) walks -/
def SrcAt (h : Heap) (l : Addr) (items : Array Value) (tup : Bool) : Prop := if tup = true then h.IsTuple l items else h.IsList l items
theorem led_or {w : World} {b : Bool} (h : (!w.params.followText "set-order") = b) : w.params.followText "set-order" = true ∨ b = true := by
  subst h
  cases w.params.followText "set-order"
  · exact .inr rfl
  · exact .inl rfl
theorem facts_q {l : Addr} {items : Array Value} {tup b : Bool} {ks : List (Addr × κ)} (calm : A.handled = none) (src : SrcAt s.heap l items tup) (len : items.toList = ks.map fun p => Value.ref p.1) (hu : A.units + 3 < cLine) :
    l < s.heap.objs.size ∧ (s.heap.push (set0 b)).objs.size = s.heap.objs.size + 1 ∧ l ≠ (s.heap.push (set0 b)).objs.size ∧ s.heap.objs.size ∉ [(s.heap.push (set0 b)).objs.size, l] ∧ A.in1.in1.in1.handled = none ∧
      (∀ (i : Nat) (v : Value), items[i]? = some v → ∃ p, ks[i]? = some p ∧ v = .ref p.1) ∧ A.in1.in1.in1.units < cLine ∧ ∀ b, s.heap.objs.size ≤ b → s.heap.get? b = none := by
  have old : l < s.heap.objs.size := by
    unfold SrcAt at src
    cases tup with
    | true => obtain ⟨o, ho, _⟩ := (show s.heap.IsTuple l items from src); exact Heap.lt_size ho
    | false => obtain ⟨o, ho, _⟩ := (show s.heap.IsList l items from src); exact Heap.lt_size ho
  have sz : (s.heap.push (set0 b)).objs.size = s.heap.objs.size + 1 := Heap.size_push ..
  have ne1 : l ≠ (s.heap.push (set0 b)).objs.size := by rw [sz]; exact Nat.ne_of_lt (Nat.lt_succ_of_lt old)
  have away : s.heap.objs.size ∉ [(s.heap.push (set0 b)).objs.size, l] := by
    rw [sz]
    intro z
    rcases List.mem_cons.mp z with z | z
    · exact Nat.ne_of_lt (Nat.lt_succ_self _) z
    · exact Nat.ne_of_gt old (List.mem_singleton.mp z)
  have calm3 : A.in1.in1.in1.handled = none := by simp [calm]
  have val : ∀ (i : Nat) (v : Value), items[i]? = some v → ∃ p, ks[i]? = some p ∧ v = .ref p.1 := fun i v e => by
    rw [← Array.getElem?_toList, len, List.getElem?_map] at e
    obtain ⟨p, e1, e2⟩ := Option.map_eq_some_iff.mp e
    exact ⟨p, e1, e2.symm⟩
  have room3 : A.in1.in1.in1.units < cLine := by
    have : A.in1.in1.in1.units = A.units + 3 := by simp
    omega
  have above : ∀ b, s.heap.objs.size ≤ b → s.heap.get? b = none := fun b hb => by
    cases e : s.heap.get? b with
    | none => rfl
    | some o => exact absurd (Heap.lt_size e) (Nat.not_lt.mpr hb)
  exact ⟨old, sz, ne1, away, calm3, val, room3, above⟩
theorem set_q {l : Addr} {items : Array Value} {tup : Bool} {ks : List (Addr × κ)} {Q : Value → Shared → Prop} (calm : A.handled = none) (src : SrcAt s.heap l items tup) (len : items.toList = ks.map fun p => Value.ref p.1) (few : ks.length < 64)
    (is0 : ∀ p ∈ ks, Z.is s.heap p.2 p.1) (hu : A.units + 3 < cLine)
    (done : ∀ (h' : Heap) (tk : Nat), FH Z h' s.heap.objs.size ks ks.length → (∀ b o, s.heap.get? b = some o → h'.get? b = some o) → Q (.ref s.heap.objs.size) { s with heap := h', toks := tk }) :
    wpAny (model P w) A (call (.type "set") [.ref l]) Q E s := by
  have isz : items.size = ks.length := by
    have := congrArg List.length len
    rwa [Array.length_toList, List.length_map] at this
  obtain ⟨c, tl, mro⟩ := PySem.F.called_set.mro
  have made := PySem.F.called_set.made
  have subs := PySem.F.called_set.sub
  have noty := PySem.F.called_set.notType
  have canc := PySem.F.called_set.canCreate
  have tych := PySem.F.typeCall_set_1 (.ref l)
  refine wpAny_call (codeAny_of_tree ?_)
  show wpAny _ _ (callAny (.type "set") _) _ _ _
  refine wpAny_pure ⟨Code.quiet_builtin _ (by decide +kernel), codeAny_builtin PySem.F.entry_type_call (by
    rw [Around.under_plain (weight_type_call_type "set" [.ref l] []) rfl]
    repeat (any_goals (first | assumption | wp_step))
    -- set.__new__
    refine codeAny_mono (code_set_led1 (.ref l) (E := E) (Q₁ := fun obj u => obj = .ref s.heap.objs.size ∧ u = { s with heap := s.heap.push (set0 (!w.params.followText "set-order")) }) ⟨rfl, rfl⟩) fun r u hr => ?_
    match r, hr with
    | .error e, hr => exact hr
    | .ok (.next), hr => exact hr.elim
    | .ok (.brk), hr => exact hr.elim
    | .ok (.cont), hr => exact hr.elim
    | .ok (.ret obj), ⟨eo, eu⟩ =>
      subst eo; subst eu
      generalize hled : (!w.params.followText "set-order") = b
      have here : (s.heap.push (set0 b)).get? s.heap.objs.size = some (set0 b) := Heap.get?_push_size _ rfl
      have isset : Shared.TypeIs { s with heap := s.heap.push (set0 b) } (.ref s.heap.objs.size) "set" := ⟨_, here, rfl⟩
      have ilook := PySem.F.called_set.init.lookup
      have ibind := PySem.F.called_set.init.bind (.ref s.heap.objs.size)
      repeat (any_goals (first | assumption | wp_step))
      -- set.__init__
      refine codeAny_mono (codeAny_call_builtin (R := wants (fun r u => r = .none ∧ ∃ h' tk, u = { s with heap := h', toks := tk } ∧ FH Z h' s.heap.objs.size ks ks.length ∧ (∀ b o, s.heap.get? b = some o → h'.get? b = some o)) E)
        PySem.F.called_set.init.plain PySem.F.entry_set_init (check_set_init_1 isset ?_)) fun r2 u2 hr2 => ?_
      · cases tup with
        | true =>
          have srcT : s.heap.IsTuple l items := src
          obtain ⟨⟨oc, od, oda, osl⟩, ho, hc, nl, hd⟩ := id srcT
          simp only at hc hd
          subst hc; subst hd
          have ho' : (s.heap.push (set0 b)).get? l = some { cls := .type "tuple", dict := od, data := .seq items nl, slots := osl } := Heap.get?_push_of_some _ ho
          have s1 := PySem.F.sub_tuple_set
          have s2 := PySem.F.sub_tuple_frozenset
          have s3 : (Value.type "tuple" == Value.type "dict") = false := by decide
          have src1 : (s.heap.push (set0 b)).IsTuple l items := ⟨_, ho', rfl, nl, rfl⟩
          unfold Builtin.«set.__init__» noKeywords Builtin.Frozenset.updateFrom
          have pack := And.intro len (And.intro few (And.intro is0 (And.intro hu (And.intro isz (And.intro hled (And.intro calm (And.intro src (And.intro srcT here))))))))
          clear len few is0 hu isz hled done calm src srcT mro made subs noty canc tych isset ilook ibind here
          generalize hPI : pyIter = PI
          wp_walk
          subst hPI
          obtain ⟨len, few, is0, hu, isz, hled, calm, src, srcT, here⟩ := pack
          obtain ⟨old, sz, ne1, away, calm3, val, room3, above⟩ := facts_q (b := b) calm src len hu
          refine wpAny_pyIter_tuple src1 (wpAny_bind (wpAny_runValue ?_))
          refine fill_loop (ks := ks) ((Walks.tuple calm3 _ l ne1 items).toS) away isz few val (h0 := s.heap) is0 ?_ ?_ room3 (items.size - 0) 0 _ (by omega) (Nat.zero_le _) ⟨⟨_, Heap.get?_push_size _ rfl, rfl, rfl⟩, src1.push _⟩ ?_ ?start ?fin
          · exact above _ (Nat.le_refl _)
          · intro b hb
            rw [List.mem_singleton.mp hb, sz]
            exact above _ (Nat.le_succ _)
          · exact fun b o e => Heap.get?_push_of_some _ (Heap.get?_push_of_some _ e)
          case start => exact ⟨⟨[], #[], 0, _, fset_new (led_or hled) (Heap.get?_push_of_some _ here), fun p h => (by cases h), fun p h => (by simp at h), Nat.le_refl _⟩⟩
          case fin =>
            intro u mv fh kp
            obtain ⟨h', g', d', tk', os'⟩ := u
            obtain rfl : g' = s.gens := mv.gens
            obtain rfl : d' = s.drawn := mv.drawn
            obtain rfl : os' = s.os := mv.os
            show wpAny _ _ _ _ _ _
            refine wpAny_pure ?_
            show wpAny _ _ (ret Value.none) _ _ _
            exact wpAny_pure ⟨rfl, h', tk', rfl, by rw [isz] at fh; exact fh, kp⟩
        | false =>
          have srcT : s.heap.IsList l items := src
          obtain ⟨⟨oc, od, oda, osl⟩, ho, hc, nl, hd⟩ := id srcT
          simp only at hc hd
          subst hc; subst hd
          have ho' : (s.heap.push (set0 b)).get? l = some { cls := .type "list", dict := od, data := .seq items nl, slots := osl } := Heap.get?_push_of_some _ ho
          have s1 := PySem.F.sub_list_set
          have s2 := PySem.F.sub_list_frozenset
          have s3 : (Value.type "list" == Value.type "dict") = false := by decide
          have src1 : (s.heap.push (set0 b)).IsList l items := ⟨_, ho', rfl, nl, rfl⟩
          unfold Builtin.«set.__init__» noKeywords Builtin.Frozenset.updateFrom
          have pack := And.intro len (And.intro few (And.intro is0 (And.intro hu (And.intro isz (And.intro hled (And.intro calm (And.intro src (And.intro srcT here))))))))
          clear len few is0 hu isz hled done calm src srcT mro made subs noty canc tych isset ilook ibind here
          generalize hPI : pyIter = PI
          wp_walk
          subst hPI
          obtain ⟨len, few, is0, hu, isz, hled, calm, src, srcT, here⟩ := pack
          obtain ⟨old, sz, ne1, away, calm3, val, room3, above⟩ := facts_q (b := b) calm src len hu
          refine wpAny_pyIter_list src1 (wpAny_bind (wpAny_runValue ?_))
          refine fill_loop (ks := ks) ((Walks.list calm3 _ l ne1 items).toS) away isz few val (h0 := s.heap) is0 ?_ ?_ room3 (items.size - 0) 0 _ (by omega) (Nat.zero_le _) ⟨⟨_, Heap.get?_push_size _ rfl, rfl, rfl⟩, src1.push _⟩ ?_ ?start ?fin
          · exact above _ (Nat.le_refl _)
          · intro b hb
            rw [List.mem_singleton.mp hb, sz]
            exact above _ (Nat.le_succ _)
          · exact fun b o e => Heap.get?_push_of_some _ (Heap.get?_push_of_some _ e)
          case start => exact ⟨⟨[], #[], 0, _, fset_new (led_or hled) (Heap.get?_push_of_some _ here), fun p h => (by cases h), fun p h => (by simp at h), Nat.le_refl _⟩⟩
          case fin =>
            intro u mv fh kp
            obtain ⟨h', g', d', tk', os'⟩ := u
            obtain rfl : g' = s.gens := mv.gens
            obtain rfl : d' = s.drawn := mv.drawn
            obtain rfl : os' = s.os := mv.os
            show wpAny _ _ _ _ _ _
            refine wpAny_pure ?_
            show wpAny _ _ (ret Value.none) _ _ _
            exact wpAny_pure ⟨rfl, h', tk', rfl, by rw [isz] at fh; exact fh, kp⟩
      · match r2, hr2 with
        | .error e, hr2 => exact hr2
        | .ok (.next), hr2 => exact hr2.elim
        | .ok (.brk), hr2 => exact hr2.elim
        | .ok (.cont), hr2 => exact hr2.elim
        | .ok (.ret x), ⟨ex, h', tk, eu, hS, hk⟩ =>
          subst ex; subst eu
          repeat (any_goals (first | assumption | wp_step))
          exact done _ _ hS hk)⟩
end
end DL

/-! DL, part 32: tuples of plain things as keys; len(set(xs)) of them. -/
namespace DL
open PySem PySem.Spec L2
open PyProof.Rows hiding St
set_option autoImplicit false
section
variable {P : Program} {w : World} {A : Around} {E : Value → Shared → Prop} {s : Shared}
abbrev LTup (P : Program) (w : World) (h : Heap) (k : List Leaf) (b : Addr) : Prop := IsTupleKey (leafKind P w) h k b
/-- a value that is no object -/
def Plain1 (v : Value) : Prop := (∀ n, ofAClassStatement n v = pure false) ∧ ∀ n, ∃ r, hashByValue n v = pure r
theorem plain_leaf {k : Leaf} {v : Value} (h : Leaf.isOf k v = true) : Plain1 v := by
  have byv := Leaf.byValue h
  cases k with
  | none => cases v <;> first | exact absurd h Bool.false_ne_true | exact ⟨fun n => by cases n <;> rfl, fun n => ⟨_, by cases n <;> rfl⟩⟩
  | num i => cases v <;> first | exact absurd h Bool.false_ne_true | exact ⟨fun n => by cases n <;> rfl, fun n => ⟨_, by cases n <;> rfl⟩⟩
  | text x =>
    obtain ⟨t, rfl⟩ := Value.isStrOf_shape (show Value.isStrOf x v = true from h)
    exact ⟨fun n => by cases n <;> rfl, fun n => ⟨_, by cases n <;> rfl⟩⟩
theorem plain_items {k : List Leaf} {vs : List Value} (h : ItemsAre (leafKind P w) k vs) : ∀ v ∈ vs, Plain1 v := by
  induction h with
  | nil => exact fun v hv => by cases hv
  | cons h1 _ ih =>
    intro v hv
    rcases List.mem_cons.mp hv with e | hv
    · subst e; exact plain_leaf h1
    · exact ih v hv
theorem noclass {k : List Leaf} {b : Addr} {Q : Bool → Shared → Prop} (x : LTup P w s.heap k b) (q : Q false s) : wpAny (model P w) A (ofAClassStatement 8 (.ref b)) Q E s := by
  have ty := x.typeIs
  obtain ⟨o, items, n, g1, _, g2, g3⟩ := x
  unfold ofAClassStatement
  refine wpAny_bind (wpAny_typeOf ty ?_)
  dsimp only
  rw [show (("tuple" : String) == "tuple") = true by decide]
  simp only [if_true, Bool.not_true, Bool.false_eq_true, if_false]
  (try refine wpAny_bind (wpAny_pure ?_))
  (try simp only [Bool.not_true, Bool.false_eq_true, if_false])
  show wpAny _ _ (seqItems? (.ref b) >>= _) _ _ s
  refine wpAny_bind (wpAny_seqItems g1 g2 ?_)
  dsimp only
  refine wpAny_bind ?_
  show wpAny _ _ (forIn items _ _) _ _ s
  rw [← Array.forIn_toList]
  refine wpAny_forIn_list _ (fun left acc u => acc.1 = none ∧ u = s ∧ ∀ v ∈ left, Plain1 v) _ ?_ ?_ _ _ ⟨rfl, rfl, plain_items g3⟩
  · rintro v left acc u ⟨e1, rfl, pl⟩
    rw [(pl v List.mem_cons_self).1]
    refine wpAny_bind (wpAny_pure ?_)
    simp only [Bool.false_eq_true, if_false]
    exact wpAny_pure ⟨rfl, rfl, fun z hz => pl z (List.mem_cons_of_mem _ hz)⟩
  · rintro ⟨a1, a2⟩ u ⟨e1, rfl, _⟩
    simp only at e1
    subst e1
    exact wpAny_pure q
theorem byv_any {k : List Leaf} {b : Addr} {Q : Bool → Shared → Prop} (x : LTup P w s.heap k b) (q : ∀ v, Q v s) : wpAny (model P w) A (hashByValue 8 (.ref b)) Q E s := by
  have ty := x.typeIs
  obtain ⟨o, items, n, g1, _, g2, g3⟩ := x
  unfold hashByValue
  refine wpAny_bind (wpAny_specialOf ty F.slot_tuple_hash.lookup ?_)
  show wpAny _ _ (seqItems? (.ref b) >>= _) _ _ s
  refine wpAny_bind (wpAny_seqItems g1 g2 ?_)
  refine wpAny_bind ?_
  show wpAny _ _ (forIn items _ _) _ _ s
  rw [← Array.forIn_toList]
  refine wpAny_forIn_list _ (fun left acc u => u = s ∧ ∀ v ∈ left, Plain1 v) _ ?_ ?_ _ _ ⟨rfl, plain_items g3⟩
  · rintro v left acc u ⟨rfl, pl⟩
    obtain ⟨r, hr⟩ := (pl v List.mem_cons_self).2 7
    rw [hr]
    refine wpAny_bind (wpAny_pure ?_)
    cases r with
    | true =>
      simp only [Bool.not_true, Bool.false_eq_true, if_false]
      exact wpAny_pure ⟨rfl, fun z hz => pl z (List.mem_cons_of_mem _ hz)⟩
    | false =>
      simp only [Bool.not_false, if_true]
      refine wpAny_pure ?_
      show wpAny _ _ (pure false) Q E _
      exact wpAny_pure (q false)
  · rintro ⟨a1, a2⟩ u ⟨rfl, _⟩
    cases a1 with
    | none => exact wpAny_pure (q _)
    | some r => exact wpAny_pure (q _)
theorem sees_tup {k : List Leaf} {b : Addr} {ys : List Value} {Q : Bool → Shared → Prop} (x : LTup P w s.heap k b) (hy : ∀ y ∈ ys, ∃ m c, y = Value.ref c ∧ LTup P w s.heap m c) (q : Q false s) : wpAny (model P w) A (searchCouldBeSeen (.ref b) ys) Q E s := by
  unfold searchCouldBeSeen
  refine wpAny_bind ?_
  refine wpAny_forIn_list _ (fun left acc u => acc.1 = none ∧ u = s ∧ ∀ y ∈ left, ∃ m c, y = Value.ref c ∧ LTup P w s.heap m c) _ ?_ ?_ _ _ ⟨rfl, rfl, hy⟩
  · rintro v left acc u ⟨e1, rfl, al⟩
    obtain ⟨m, c, rfl, hc⟩ := al v List.mem_cons_self
    have al' : ∀ y ∈ left, ∃ m c, y = Value.ref c ∧ LTup P w u.heap m c := fun z hz => al z (List.mem_cons_of_mem _ hz)
    dsimp only
    by_cases hv : (b == c || (carriedByValue (.ref b) && carriedByValue (.ref c))) = true
    · exact wp_if_pos hv (wpAny_pure ⟨rfl, rfl, al'⟩)
    · refine wp_if_neg hv ?_
      refine wpAny_bind (wpAny_eqIsQuiet_tuple x ?_)
      simp only [Bool.not_true, Bool.false_eq_true, if_false]
      refine wpAny_bind (wpAny_eqIsQuiet_tuple hc ?_)
      simp only [Bool.not_true, Bool.false_eq_true, if_false]
      refine wpAny_bind (noclass x ?_)
      simp only [Bool.false_eq_true, if_false]
      refine wpAny_bind (noclass hc ?_)
      simp only [Bool.false_eq_true, if_false]
      exact wpAny_pure ⟨rfl, rfl, al'⟩
  · rintro ⟨a1, a2⟩ u ⟨e1, rfl, _⟩
    simp only at e1
    subst e1
    exact wpAny_pure q
end
def tupQ (P : Program) (w : World) : Qk P w (List Leaf) where
  is := LTup P w
  hash := tupleKeyHash (leafKind P w)
  cost := fun k => k.length + 1
  py := fun hu x q => wpAny_pyHash_tuple hu x q
  eq := fun hu x y q => wpAny_eqBool_tuple hu x y q
  sees := fun x y q => sees_tup x y q
  byv := fun x q => byv_any x q
  noset := fun {h k a b o es ep t} x ho hd z => by
    subst z
    obtain ⟨o', items, n, g1, _, g2, _⟩ := x
    rw [ho] at g1
    cases g1
    rw [hd] at g2
    cases g2
  stay := fun {h h' k b} x keep => by
    obtain ⟨o', items, n, g1, r⟩ := x
    exact ⟨o', items, n, keep _ g1, r⟩
/-! ### how many different ones -/
theorem nodup_cnt {κ : Type} [DecidableEq κ] [BEq κ] [LawfulBEq κ] {ks : List κ} : ∀ (i : Nat) (L : List κ), i ≤ ks.length → L.Nodup → (∀ k, k ∈ L ↔ k ∈ ks.take i) → L.length = cntD ks i
  | 0, L, _, _, h => by
    have : L = [] := List.eq_nil_iff_forall_not_mem.mpr fun k hk => by
      have := (h k).mp hk
      simp at this
    rw [this]
    rfl
  | i + 1, L, hi, nd, h => by
    have hlt : i < ks.length := hi
    have e := List.getElem?_eq_getElem hlt
    have tk := take_snoc e
    rw [cnt_next e]
    by_cases hs : ks[i] ∈ ks.take i
    · have : seen ks i ks[i] = true := by
        unfold seen
        rw [List.any_eq_true]
        exact ⟨ks[i], hs, beq_self_eq_true _⟩
      rw [if_pos this]
      refine nodup_cnt i L (Nat.le_of_lt hi) nd fun k => ?_
      rw [h k, tk, List.mem_append, List.mem_singleton]
      exact ⟨fun z => z.elim id fun z => by rw [z]; exact hs, .inl⟩
    · have : ¬ seen ks i ks[i] = true := by
        unfold seen
        rw [List.any_eq_true]
        rintro ⟨k, hk, ek⟩
        exact hs (by rw [← eq_of_beq ek]; exact hk)
      rw [if_neg this]
      have hm : ks[i] ∈ L := (h _).mpr (by rw [tk]; exact List.mem_append_right _ List.mem_cons_self)
      have n1 := nodup_cnt i (L.erase ks[i]) (Nat.le_of_lt hi) (nd.erase _) fun k => by
        rw [nd.mem_erase_iff, h k, tk, List.mem_append, List.mem_singleton]
        constructor
        · rintro ⟨z1, z2 | z2⟩
          · exact z2
          · exact (z1 z2).elim
        · exact fun z => ⟨fun e => hs (by rw [← e]; exact z), .inl z⟩
      rw [← n1, List.length_erase_of_mem hm]
      have : 0 < L.length := List.length_pos_of_mem hm
      omega
/-! ### over the layer -/
/-- at a: a set of n things -/
def LenO (a : Addr) (n : Nat) : HO := .ext fun h => ∃ o es ep t, h.get? a = some o ∧ o.ExactSet ∧ o.data = .set es ep t ∧ t.fits es.size = true ∧ es.size = n
theorem lenO_ok {P : Program} {w : World} {H : Hp} {h : Heap} {a : Addr} {n : Nat} (R : ∃ o es ep t, h.get? a = some o ∧ o.ExactSet ∧ o.data = Data.set es ep t ∧ t.fits es.size = true ∧ es.size = n) : ObjOk P w H h a (LenO a n) := by
  have ⟨o, es, ep, t, g1, g⟩ := R
  exact ⟨R, ⟨o, g1⟩, fun h1 h2 ⟨o1, es1, ep1, t1, k1, k⟩ kp => ⟨o1, es1, ep1, t1, kp _ k1, k⟩⟩
/-- the plain things that a datum is -/
def leafD : D → Option Leaf
  | .non => some .none
  | .bl b => some (.num (if b then 1 else 0))
  | .int i => some (.num i)
  | .str x => some (.text x)
  | _ => none
def leafA : List D → Option (List Leaf)
  | [] => some []
  | d :: r => (leafD d).bind fun k => (leafA r).map fun ks => k :: ks
def keyT : D → Option (List Leaf)
  | .tup ds => leafA ds
  | _ => none
def keysT : List D → Option (List (List Leaf))
  | [] => some []
  | d :: r => (keyT d).bind fun k => (keysT r).map fun ks => k :: ks
inductive LfV : V → Leaf → Prop
  | non : LfV .non .none
  | bl (b : Bool) : LfV (.bl b) (.num (if b then 1 else 0))
  | int (i : Int) : LfV (.int i) (.num i)
  | str (x : Str) : LfV (.str x) (.text x)
theorem lfv_of {K : Kx} {P : Hp} : ∀ {xs : List V} {ds : List D} {k : List Leaf}, DnA K P xs ds → leafA ds = some k → Paired LfV xs k
  | _, _, _, .nil, e => by cases e; exact .nil
  | _, _, _, .cons (d := d) h t, e => by
    obtain ⟨l, e1, e2⟩ := Option.bind_eq_some_iff.mp e
    obtain ⟨ks, e3, e4⟩ := Option.map_eq_some_iff.mp e2
    subst e4
    refine .cons ?_ (lfv_of t e3)
    cases d with
    | non => cases e1; cases h; exact .non
    | bl b => cases e1; cases h; exact .bl b
    | int i => cases e1; cases h; exact .int i
    | str x => cases e1; cases h; exact .str x
    | _ => cases e1
theorem lf_is {P : Program} {w : World} : ∀ {xs : List V} {us : List Value} {k : List Leaf}, Vals xs us → Paired LfV xs k → ItemsAre (leafKind P w) k us
  | _, _, _, .nil, .nil => .nil
  | _, _, _, .cons r rr, .cons l ll => by
    refine .cons ?_ (lf_is rr ll)
    cases l with
    | non => cases r; rfl
    | bl b => cases r; exact decide_eq_true rfl
    | int i => obtain ⟨t, rfl⟩ := r; exact decide_eq_true rfl
    | str x => obtain ⟨t, rfl⟩ := r; exact strKind_is P w x t
end DL

/-! DL, part 33: len(set(xs)), xs a list or tuple of tuples of plain things. -/
namespace DL
open PySem PySem.Spec L2
open PyProof.Rows hiding St
set_option autoImplicit false
/-- the tuples that a list holds, by what they are -/
def TupsV (K : PySem.W.Frag) (H : Hp) (v : V) (k : List Leaf) : Prop := ∃ a xs, v = .ref a ∧ SqT K H a xs ∧ Paired LfV xs k
theorem tupsV_of {K : Kx} {P H : Hp} (s : Same P H) : ∀ {vs : List V} {ds : List D} {ks : List (List Leaf)}, DnA K P vs ds → keysT ds = some ks → Paired (TupsV K.K H) vs ks
  | _, _, _, .nil, e => by cases e; exact .nil
  | _, _, _, .cons (d := d) h t, e => by
    obtain ⟨k, e1, e2⟩ := Option.bind_eq_some_iff.mp e
    obtain ⟨ks, e3, e4⟩ := Option.map_eq_some_iff.mp e2
    subst e4
    refine .cons ?_ (tupsV_of s t e3)
    cases d with
    | tup ds =>
      cases h with
      | tup h1 h2 h3 => exact ⟨_, _, rfl, sqt_mono s h1, lfv_of h3 e1⟩
    | _ => cases e1
def rSetQ (K : PySem.W.Frag) : List V → Hp → VK → Prop := fun xs H Q => ∃ (l : Addr) (vs : List V) (ks : List (List Leaf)), xs = [V.ref l] ∧ (SqL K H l vs ∨ SqT K H l vs) ∧ Paired (TupsV K H) vs ks ∧ ks.length < 64 ∧ ∀ a, H a = none → Q (.ref a) (upd H a (LenO a (cntD ks ks.length)))
section
variable {X : Cx} {pins : List (Addr × Obj)} {σ : St} {H : Hp} {s : Shared}
/-- the addresses and what stands there -/
theorem refs_at (I : Inv X pins σ H s) : ∀ {vs : List V} {us : List Value} {ks : List (List Leaf)}, Vals vs us → Paired (TupsV X.K H) vs ks → ∃ ps : List (Addr × List Leaf), us = ps.map (fun p => Value.ref p.1) ∧ ps.map (·.2) = ks ∧ ∀ p ∈ ps, LTup X.prog X.w s.heap p.2 p.1
  | _, _, _, .nil, .nil => ⟨[], rfl, rfl, fun p h => by cases h⟩
  | _, _, _, .cons r rr, .cons l ll => by
    obtain ⟨ps, e1, e2, e3⟩ := refs_at I rr ll
    obtain ⟨a, xs, rfl, hq, lf⟩ := l
    cases r
    obtain ⟨its, rv, p, hz⟩ := I.tuple hq
    have pt : s.heap.IsTuple a its.toArray := p
    obtain ⟨o, ho, hc, n, hd⟩ := pt
    refine ⟨(a, _) :: ps, by rw [e1]; rfl, by rw [List.map_cons, e2], fun q hq => ?_⟩
    rcases List.mem_cons.mp hq with z | z
    · subst z
      exact ⟨o, its.toArray, n, ho, hc, hd, by simpa using lf_is rv lf⟩
    · exact e3 q z
end
theorem cr_setQ {X : Cx} (hc : X.calm = true) (hu : X.A.units + 64 < cLine) : CallR X (.type "set") (rSetQ X.K) := by
  intro pins s σ H xs us Q I r ⟨l, vs, ks, ex, hq, hp, few, q⟩
  subst ex
  cases r with
  | cons r0 rr =>
    cases rr
    cases r0
    -- the source
    obtain ⟨its, tup, rv, src⟩ : ∃ (its : List Value) (tup : Bool), Vals vs its ∧ SrcAt s.heap l its.toArray tup := by
      rcases hq with hq | hq
      · obtain ⟨its, rv, p, hz⟩ := I.list hq
        exact ⟨its, false, rv, p.isList⟩
      · obtain ⟨its, rv, p, hz⟩ := I.tuple hq
        exact ⟨its, true, rv, p⟩
    obtain ⟨ps, e1, e2, e3⟩ := refs_at I rv hp
    have lps : ps.length = ks.length := by rw [← e2, List.length_map]
    refine set_q (Z := tupQ X.prog X.w) (ks := ps) (I.ok.hd hc) src (by simpa using e1) (by omega) e3 (by omega) fun h' tk ⟨⟨L, es, ep, t, F, g⟩⟩ hk => ?_
    obtain ⟨o, g1, g2, g3⟩ := F.obj
    have cnt : es.size = cntD ks ks.length := by
      rw [ents_len F.lay, ← List.length_map (f := fun q : Addr × List Leaf => q.2)]
      refine nodup_cnt ks.length _ (Nat.le_refl _) F.one fun k => ?_
      rw [List.take_length, ← e2]
      constructor
      · intro hk
        obtain ⟨p, hp, rfl⟩ := List.mem_map.mp hk
        exact List.mem_map.mpr ⟨p, List.mem_of_mem_take (g.of p hp), rfl⟩
      · intro hk
        obtain ⟨p, hp, rfl⟩ := List.mem_map.mp hk
        exact g.to p (by rw [List.take_length]; exact hp)
    exact ⟨.ref _, upd H s.heap.objs.size (LenO s.heap.objs.size (cntD ks ks.length)), I.laid (t' := tk) (fun b u e => hk b u e) (Nat.le_refl _) (lenO_ok ⟨o, es, ep, t, g1, g2, g3, Fset.fit (s := { s with heap := h' }) F, cnt⟩), rfl, q _ (I.hok.fresh (Nat.le_refl _))⟩
def rLenO : List V → Hp → VK → Prop := fun xs H Q => ∃ (a : Addr) (n : Nat), xs = [V.ref a] ∧ H a = some (LenO a n) ∧ n ≤ 1000 ∧ Q (.int n) H
theorem cr_lenO {X : Cx} : CallR X (.builtin "len") rLenO := by
  intro pins s σ H xs us Q I r ⟨a, n, ex, ha, hl, q⟩
  subst ex
  cases r with
  | cons r0 rr =>
    cases rr
    cases r0
    have ob : ObjOk X.prog X.w H s.heap a (LenO a n) := I.hok a _ ha
    obtain ⟨o, es, ep, t, ho, hex, hd, hf, hn⟩ := ob.1
    refine call_len_set ho hex hd hf (by rw [hn]; omega) ⟨.int n, H, I.tok _, ⟨_, by rw [hn]⟩, q⟩
/-- the number of different tuples -/
def lenSetT : D → Option Z := fun x => (seqD x).bind fun ds => (keysT ds).bind fun ks => if ks.length < 64 then some (.sh (.int (cntD ks ks.length))) else none
theorem de_lenSetT {X : Cx} {E : We} {a : Expr} {f : Fe} {p p2 pos pos2 : Pos} (hc : X.calm = true) (hu : X.A.units + 64 < cLine) (hg : Gl X "len") (hm : X.mg "len" = none) (hg2 : Gl X "set") (hm2 : X.mg "set" = none) (ha : DE X E a f)
    (he : starEach [a] X.env = (false, eval a X.env) :: starEach [] X.env := by rfl) (he2 : starEach [.Call (.Name "set" p2) [a] [] pos2] X.env = (false, eval (.Call (.Name "set" p2) [a] [] pos2) X.env) :: starEach [] X.env := by rfl) :
    DE X E (.Call (.Name "len" p) [.Call (.Name "set" p2) [a] [] pos2] [] pos) (fUn lenSetT f) := by
  refine pe_imp (pe_callB cr_lenO hg hm bt_len (pa_cons (pe_callTy (cr_setQ hc hu) hg2 hm2 bt_set (pa_cons ha pa_nil he) (by decide) (by decide) he) pa_nil he2) (by decide) (by decide) he2)
    fun σ H Q ⟨P, es, ok, h⟩ => tD_mono (tD_bind (GoE.refl ok) h) fun v H1 ⟨ra, es1, P1, g1, _, rel1, q1⟩ => ?_
  obtain ⟨r, es2, e1, q2⟩ := Post.of q1
  unfold ap1 at e1
  obtain ⟨d, e2, e3⟩ := Option.bind_eq_some_iff.mp e1
  obtain ⟨z, e4, e5⟩ := Option.map_eq_some_iff.mp e3
  cases e5
  unfold lenSetT at e4
  obtain ⟨ds, e6, e7⟩ := Option.bind_eq_some_iff.mp e4
  obtain ⟨ks, k1, k2⟩ := Option.bind_eq_some_iff.mp e7
  split at k2
  · rename_i hl
    cases k2
    obtain ⟨b, xs, ev, h1, _, h3⟩ := bw_seq g1.ok.sub (rel1.bw g1.ok e2) e6
    subst ev
    have small := cntD_le ks ks.length
    exact ⟨b, xs, ks, rfl, h1, tupsV_of g1.ok.sub h3 k1, hl, fun c hcn => ⟨c, _, rfl, upd_same, by omega, q2 _ P1 _ (g1.alloc hcn) (.int _)⟩⟩
  · cases k2
end DL

/-! DL, part 34: list comprehensions with any number of clauses, the block's steps. -/
namespace DL
open PySem PySem.Spec L2
open PyProof.Rows hiding St
set_option autoImplicit false

def testsOf (ifs : List Expr) (env : Env) : Sem Bool := forIn ifs true fun c r => if r = true then do let ok ← isTrue c env (eval c env); pure (ForInStep.yield ok) else pure (ForInStep.yield r)
theorem turn_last {elt t i : Expr} {ifs : List Expr} {gens : List Comprehension} {scope : Scope} {pos : Pos} {k : Nat} {it acc : Value} {env : Env} (h : gens[k]? = some ⟨t, i, ifs, 0⟩) (h1 : gens[k + 1]? = none) :
    compTurn (.ListComp elt gens scope pos) k it acc env = (do
      standAt i.pos
      match ← pyNext it with
      | none => pure (.done .next)
      | some v =>
        letOwnedTupleGo t it v
        assign t env v
        let ok ← testsOf ifs env
        if ok then
          (do let _ ← call (.builtin "list.append") [acc, ← eval elt env])
        again (.compLoop (.ListComp elt gens scope pos) k it acc env)) := by
  unfold compTurn
  simp only [h, h1]
  rfl
theorem turn_more {elt t i t1 i1 : Expr} {ifs ifs1 : List Expr} {gens : List Comprehension} {scope : Scope} {pos : Pos} {k : Nat} {it acc : Value} {env : Env} (h : gens[k]? = some ⟨t, i, ifs, 0⟩) (h1 : gens[k + 1]? = some ⟨t1, i1, ifs1, 0⟩) :
    compTurn (.ListComp elt gens scope pos) k it acc env = (do
      standAt i.pos
      match ← pyNext it with
      | none => pure (.done .next)
      | some v =>
        letOwnedTupleGo t it v
        assign t env v
        let ok ← testsOf ifs env
        if ok then
          let x ← eval i1 env
          standAt i1.pos
          let x ← foldedSetIterable i1 env x
          let _ ← runOwn (.compStart (.ListComp elt gens scope pos) (k + 1) (← holding [x] (pyIter x)) acc env) env
        again (.compLoop (.ListComp elt gens scope pos) k it acc env)) := by
  unfold compTurn
  simp only [h, h1]
  rfl

/-! ### one clause's loop -/
section
variable {prog : Program} {w : World} {A : Around} {R : Result → Shared → Prop} {s : Shared} {elt t i : Expr} {ifs : List Expr} {gens : List Comprehension} {scope : Scope} {pos : Pos} {k : Nat} {it acc : Value} {env : Env}
abbrev NoE : Value → Shared → Prop := fun _ _ => False
/-- what stands behind the tests of clause k reaches Z, and raises nothing -/
def Beh (prog : Program) (w : World) (A : Around) (elt : Expr) (gens : List Comprehension) (scope : Scope) (pos : Pos) (k : Nat) (acc : Value) (env : Env) (Z : Shared → Prop) (s : Shared) : Prop :=
  match gens[k + 1]? with
  | none => wpAny (model prog w) A (eval elt env) (fun x s1 => wpAny (model prog w) A (call (.builtin "list.append") [acc, x]) (fun _ => Z) NoE s1) NoE s
  | some g => wpAny (model prog w) A (eval g.iter env) (fun x s1 => wpAny (model prog w) A (pyIter x) (fun it1 s2 =>
      codeAny (model prog w) A (.compStart (.ListComp elt gens scope pos) (k + 1) it1 acc env) (fun r s' => match r with | .ok _ => Z s' | .error _ => False) s2) NoE s1) NoE s
theorem onlyZ {α : Type} {M : Model} {m : Sem α} {Q Q' : α → Shared → Prop} {E' : Value → Shared → Prop} (h : wpAny M A m Q NoE s) (hq : ∀ a s, Q a s → Q' a s) : wpAny M A m Q' E' s := wpAny_mono h hq fun _ _ z => False.elim z
theorem loop_at (hg : gens[k]? = some ⟨t, i, ifs, 0⟩) (hf : ∀ g, gens[k + 1]? = some g → g.is_async = 0 ∧ ∀ x, foldedSetIterable g.iter env x = pure x) (I : Nat → Shared → Prop)
    (turn : ∀ n s, I n s → wpAny (model prog w) A (pyNext it) (fun r s1 => match r with
      | none => R (.ok .next) s1
      | some v => wpAny (model prog w) A (letOwnedTupleGo t it v) (fun _ s2 => wpAny (model prog w) A (assign t env v) (fun _ s3 => wpAny (model prog w) A (testsOf ifs env) (fun ok s4 =>
          if ok = true then Beh prog w A elt gens scope pos k acc env (fun s' => ∃ m, m < n ∧ I m s') s4 else ∃ m, m < n ∧ I m s4) NoE s3) NoE s2) NoE s1) NoE s)
    (n : Nat) (h : I n s) : codeAny (model prog w) A (.compLoop (.ListComp elt gens scope pos) k it acc env) R s := by
  refine codeAny_loop rfl I (fun n s hI => ?_) n h
  show wpAny _ A ((compTurn (.ListComp elt gens scope pos) k it acc env).onRaise _) _ _ s
  refine wpAny_noted ?_
  have tu := turn n s hI
  cases hk : gens[k + 1]? with
  | none =>
    rw [turn_last hg hk]
    refine wpAny_bind (wpAny_standAt (wpAny_bind (onlyZ tu fun r s1 q => ?_)))
    cases r with
    | none => exact wpAny_pure q
    | some v =>
      refine wpAny_bind (onlyZ q fun _ s2 q => wpAny_bind (onlyZ q fun _ s3 q => wpAny_bind (onlyZ q fun ok s4 q => ?_)))
      cases ok with
      | false => exact wpAny_pure ⟨rfl, q⟩
      | true =>
        simp only [Beh, hk, if_true] at q
        exact wpAny_bind (wpAny_bind (onlyZ q fun x s5 q => wpAny_bind (onlyZ q fun _ s6 q => wpAny_pure (wpAny_pure ⟨rfl, q⟩))))
  | some g =>
    obtain ⟨t1, i1, ifs1, as⟩ := g
    obtain ⟨ea, hs⟩ := hf _ hk
    have ea : as = 0 := ea
    subst ea
    rw [turn_more hg hk]
    refine wpAny_bind (wpAny_standAt (wpAny_bind (onlyZ tu fun r s1 q => ?_)))
    cases r with
    | none => exact wpAny_pure q
    | some v =>
      refine wpAny_bind (onlyZ q fun _ s2 q => wpAny_bind (onlyZ q fun _ s3 q => wpAny_bind (onlyZ q fun ok s4 q => ?_)))
      cases ok with
      | false => exact wpAny_pure ⟨rfl, q⟩
      | true =>
        simp only [Beh, hk, if_true] at q
        refine wpAny_bind (onlyZ q fun x s5 q => wpAny_bind (wpAny_standAt (wpAny_bind (wpAny_of_eq (hs x) (wpAny_bind (wpAny_holding (onlyZ q fun it1 s6 q => ?_)))))))
        refine wpAny_bind (wpAny_runOwn ?_)
        rw [Around.mark_none]
        refine codeAny_mono q fun r s' hr => ?_
        cases r with
        | error e => exact hr.elim
        | ok f => first
          | exact wpAny_pure ⟨rfl, hr⟩
          | exact wpAny_bind (wpAny_pure (wpAny_pure ⟨rfl, hr⟩))
theorem start_at {g : Comprehension} (hg : gens[k]? = some g) (ha : g.is_async = 0) (h0 : codeAny (model prog w) A (.compLoop (.ListComp elt gens scope pos) k it acc env) R s)
    (h : wpAny (model prog w) A (pyIter it) (fun it' s' => codeAny (model prog w) A (.compLoop (.ListComp elt gens scope pos) k it' acc env) R s') (notedBy (model prog w) A env fun x s' => R (.error x) s') s) :
    codeAny (model prog w) A (.compStart (.ListComp elt gens scope pos) k it acc env) R s := by
  refine codeAny_of_tree ?_
  show wpAny _ _ ((compStart (.ListComp elt gens scope pos) k it acc env).onRaise _) _ _ s
  refine wpAny_notedAt ?_
  have hcl : (clausesOf (.ListComp elt gens scope pos))[k]? = some g := hg
  unfold compStart
  simp only [hcl, Option.elim, ha]
  show wpAny _ _ (ask >>= _) _ _ s
  refine wpAny_bind (wpAny_askSetting (wpAny_ite ?_))
  split
  · first
      | exact wpAny_bind (wpAny_pure (wpAny_pure (And.intro rfl h0)))
      | exact wpAny_pure (And.intro rfl h0)
  · refine wpAny_bind (wpAny_rule ?_)
    show wpAny _ _ (standAt g.iter.pos >>= _) _ _ s
    exact wpAny_bind (wpAny_standAt (wpAny_bind (wpAny_mono h (fun _ _ q => wpAny_pure (And.intro rfl q)) fun _ _ x => x)))
end
end DL

/-! DL, part 35: list comprehensions with any number of clauses, the walks. -/
namespace DL
open PySem PySem.Spec L2
open PyProof.Rows hiding St
set_option autoImplicit false

structure Clz where
  (tg iter : Expr)
  ifs : List Expr
def Clz.c (z : Clz) : Comprehension := ⟨z.tg, z.iter, z.ifs, 0⟩
structure Cla where
  wi : TI
  g : TG
  tt : TT
  vs : List Nat
def vsOf : List Cla → List Nat
  | [] => []
  | c :: _ => c.vs
structure ClaOk (X : Cx) (z : Clz) (c : Cla) : Prop where
  i : PI X z.tg z.iter c.wi
  g : PG X z.tg c.g
  t : PTs X z.ifs c.tt
  s : ∀ x, foldedSetIterable z.iter X.env x = pure x
def ClasOk (X : Cx) : List Clz → List Cla → Prop
  | [], [] => True
  | z :: zs, c :: cs => ClaOk X z c ∧ (∀ j ∈ vsOf cs, j ∈ c.vs) ∧ ClasOk X zs cs
  | _, _ => False
/-- a clause's walk from its source on: nx is what a turn behind the tests is to reach, from Nx of it -/
def aLoop (J : It) (g : TG) (tt : TT) (vs : List Nat) (nx : St → Hp → (Hp → Prop) → Prop) (fin : Hp → Prop) (σ : St) (H0 : Hp) : Prop :=
  ∃ W : Nat → Nat → Hp → Prop, (∃ m, W 0 m H0) ∧ ∀ i m H, W i m H → (J.stop i H ∧ fin H) ∨ (J.go i H ∧ ∃ Nx : Hp → Prop, (∀ H', Nx H' → ∃ m', m' < m ∧ W (i + 1) m' H') ∧
    ∀ x H', J.yld i H x H' → g x (wipe σ vs) H' fun σ2 H2 => wipe σ2 vs = wipe σ vs ∧ tt σ2 H2 fun b H3 => if b = true then nx σ2 H3 Nx else Nx H3)
def aWalk (D : Addr) (te : TE) : List Cla → St → Hp → (Hp → Prop) → Prop
  | [], σ, H, Nx => te σ H fun y H1 => ∃ acc, H1 D = some (.lst acc) ∧ acc.length < sizeLine ∧ Nx (upd H1 D (.lst (acc ++ [y])))
  | c :: cs, σ, H, Nx => c.wi σ H fun J H1 => aLoop J c.g c.tt c.vs (aWalk D te cs) Nx σ H1
section
variable {X : Cx}
theorem clas_len {gens : List Comprehension} {k : Nat} {z : Clz} {zs : List Clz} (h : gens.drop k = (z :: zs).map Clz.c) : gens[k]? = some z.c ∧ gens.drop (k + 1) = zs.map Clz.c := by
  have h1 : gens[k]? = (gens.drop k)[0]? := by simp
  refine ⟨by rw [h1, h]; rfl, ?_⟩
  rw [← List.tail_drop, h]
  rfl
/-- the loop of one clause, when all behind it is known -/
theorem aLoop_ok {elt tg iter : Expr} {ifs : List Expr} {gens : List Comprehension} {scope : Scope} {pos : Pos} {k : Nat} {D : Addr} {fp : List Addr} {tn : Nat → Heap → Prop} {it : Addr} {J : It} {g : TG} {tt : TT} {vs vs' : List Nat} {nx : St → Hp → (Hp → Prop) → Prop} {Z : Hp → Prop} {pins : List (Addr × Obj)} {s : Shared} {σ : St} {H : Hp} {R : Result → Shared → Prop}
    (hx : X.xe = NoE) (hc : X.calm = true) (hg : gens[k]? = some ⟨tg, iter, ifs, 0⟩) (hf : ∀ g, gens[k + 1]? = some g → g.is_async = 0 ∧ ∀ x, foldedSetIterable g.iter X.env x = pure x) (T : Turn X.prog X.w X.K tg J fp it tn) (st : tn 0 s.heap) (I : Inv X pins (wipe σ vs) H s)
    (hfp : ∀ {σ' : St} {H' : Hp} {s' : Shared}, Inv X pins σ' H' s' → (∀ b ∈ fp, H' b = none) → ∀ b ∈ fp, FpOk X pins H' b) (nfp : ∀ b ∈ fp, H b = none) (pg : PG X tg g) (pt : PTs X ifs tt) (hv : ∀ j ∈ vs', j ∈ vs)
    (hn : ∀ {pins : List (Addr × Obj)} {σ : St} {H : Hp} {s : Shared} {Nx : Hp → Prop}, Inv X pins σ H s → nx σ H Nx →
      Beh X.prog X.w X.A elt gens scope pos k (.ref D) X.env (fun s' => ∃ σ' H', Inv X pins σ' H' s' ∧ σ'.length = σ.length ∧ (∀ (j : Nat) v, j ∉ vs' → σ[j]? = some (some v) → σ'[j]? = some (some v)) ∧ Nx H') s)
    (lo : aLoop J g tt vs nx Z σ H) (hR : ∀ s' H', Inv X pins (wipe σ vs) H' s' → Z H' → R (.ok .next) s') :
    codeAny (model X.prog X.w) X.A (.compLoop (.ListComp elt gens scope pos) k (.ref it) (.ref D) X.env) R s := by
  obtain ⟨W, ⟨m0, w0⟩, turn⟩ := lo
  refine loop_at hg hf (fun m s' => ∃ i H', Inv X pins (wipe σ vs) H' s' ∧ tn i s'.heap ∧ (∀ b ∈ fp, H' b = none) ∧ W i m H') ?_ m0 ⟨0, H, I, st, nfp, w0⟩
  rintro n s1 ⟨i, H1, I1, st1, n1, w1⟩
  rcases turn i n H1 w1 with ⟨stop, z⟩ | ⟨go, Nx, hNx, step⟩
  · refine onlyZ (T.done X rfl rfl rfl hc i _ s1 (wipe σ vs) H1 NoE I1 (hfp I1 n1) st1 stop) fun r s2 ⟨er, I2⟩ => ?_
    subst er
    exact hR s2 H1 I2 z
  · refine onlyZ (T.item X rfl rfl rfl hc i _ s1 (wipe σ vs) H1 NoE I1 (hfp I1 n1) st1 go) fun r s2 ⟨u, er, h2⟩ => ?_
    subst er
    refine onlyZ h2 fun _ s3 ⟨x, H3, I3, r3, y3, st3, n3⟩ => ?_
    have I3' := I3.pinned (hfp I3 n3) (T.obj _ _ st3)
    have run1 := pg.run _ s3 (wipe σ vs) H3 x u _ I3' r3 (step x H3 y3)
    rw [hx] at run1
    refine onlyZ run1 fun _ s4 ⟨σ4, H4, I4, hw4, q4⟩ => ?_
    have run2 := pt.run _ s4 σ4 H4 _ I4 q4
    rw [hx] at run2
    refine onlyZ run2 fun b s5 ⟨H5, I5, q5⟩ => ?_
    have fin : ∀ {σ6 : St} {s' : Shared} {H' : Hp}, Inv X (pins ++ pinsAt fp s3.heap) σ6 H' s' → σ6.length = σ4.length → (∀ (j : Nat) v, j ∉ vs' → σ4[j]? = some (some v) → σ6[j]? = some (some v)) → Nx H' →
        ∃ m, m < n ∧ ∃ i H', Inv X pins (wipe σ vs) H' s' ∧ tn i s'.heap ∧ (∀ b ∈ fp, H' b = none) ∧ W i m H' := fun {σ6 s' H'} I' hl hk nx => by
      obtain ⟨m', hm, w'⟩ := hNx H' nx
      have pin' : ∀ b ∈ fp, ∀ o, s3.heap.get? b = some o → s'.heap.get? b = some o ∧ H' b = none := fun b hb o e => by
        obtain ⟨z1, z2, _⟩ := I'.pin (b, o) (List.mem_append_right _ (List.mem_append_right _ (mem_pinsAt hb e)))
        exact ⟨z1, z2⟩
      refine ⟨m', hm, i + 1, H', I'.unpinned.weak (by rw [hl, ← wipe_length σ4 vs, hw4]) (fun j v e => ?_), T.keep _ _ _ st3 fun b hb o e => (pin' b hb o e).1, fun b hb => ?_, w'⟩
      · rw [← hw4] at e
        obtain ⟨e1, e2⟩ := wipe_some e
        exact hk j v (fun h => e2 (hv j h)) e1
      · obtain ⟨o, e, _⟩ := T.obj _ _ st3 b hb
        exact (pin' b hb o e).2
    cases b with
    | false =>
      simp only [Bool.false_eq_true, if_false] at q5 ⊢
      exact fin I5 rfl (fun _ _ _ e => e) q5
    | true =>
      simp only [if_true] at q5 ⊢
      have be := hn I5 q5
      unfold Beh at be ⊢
      split at be
      · exact onlyZ be fun x s6 q => onlyZ q fun _ s7 ⟨σ7, H7, I7, l7, k7, z7⟩ => fin I7 l7 k7 z7
      · refine onlyZ be fun x s6 q => onlyZ q fun it1 s7 q => codeAny_mono q fun r s8 q8 => ?_
        cases r with
        | error e => exact q8
        | ok f =>
          obtain ⟨σ7, H7, I7, l7, k7, z7⟩ := q8
          exact fin I7 l7 k7 z7
theorem behind_ok {elt : Expr} {te : TE} {gens : List Comprehension} {scope : Scope} {pos : Pos} {D : Addr} (hx : X.xe = NoE) (hc : X.calm = true) (pe : PE X elt te) :
    ∀ (cs : List Cla) (zs : List Clz) (k : Nat), gens.drop (k + 1) = zs.map Clz.c → ClasOk X zs cs → ∀ {pins : List (Addr × Obj)} {σ : St} {H : Hp} {s : Shared} {Nx : Hp → Prop}, Inv X pins σ H s → aWalk D te cs σ H Nx →
      Beh X.prog X.w X.A elt gens scope pos k (.ref D) X.env (fun s' => ∃ σ' H', Inv X pins σ' H' s' ∧ σ'.length = σ.length ∧ (∀ (j : Nat) v, j ∉ vsOf cs → σ[j]? = some (some v) → σ'[j]? = some (some v)) ∧ Nx H') s
  | [], [], k, hz, _, pins, σ, H, s, Nx, I, h => by
    have hn : gens[k + 1]? = none := by
      have : gens[k + 1]? = (gens.drop (k + 1))[0]? := by simp
      rw [this, hz]; rfl
    unfold Beh
    rw [hn]
    unfold aWalk at h
    have run := pe.run pins s σ H _ I h
    rw [hx] at run
    refine onlyZ run fun v s1 ⟨y, H1, I1, r1, acc, hD, hz', nx⟩ => ?_
    exact app_ok I1 hD hz' r1 fun s2 I2 => ⟨σ, _, I2, rfl, fun _ _ _ e => e, nx⟩
  | [], z :: zs, _, _, h, _, _, _, _, _, _, _ => h.elim
  | c :: cs, [], _, _, h, _, _, _, _, _, _, _ => h.elim
  | c :: cs, z :: zs, k, hz, ⟨ok, hv, oks⟩, pins, σ, H, s, Nx, I, h => by
    obtain ⟨hn, hz2⟩ := clas_len hz
    unfold Beh
    rw [hn]
    unfold aWalk at h
    have run := ok.i.run pins s σ H _ I h
    rw [hx] at run
    refine onlyZ run fun xv s1 q => onlyZ q fun itv s2 ⟨it1, fp1, tn1, J1, H1, e1, I1, T1, st1, f1, lo⟩ => ?_
    subst e1
    have hf : ∀ g, gens[k + 1 + 1]? = some g → g.is_async = 0 ∧ ∀ x, foldedSetIterable g.iter X.env x = pure x := fun g hg => by
      cases cs with
      | nil =>
        cases zs with
        | nil =>
          have : gens[k + 1 + 1]? = (gens.drop (k + 1 + 1))[0]? := by simp
          rw [this, hz2] at hg; cases hg
        | cons _ _ => exact oks.elim
      | cons c2 cs =>
        cases zs with
        | nil => exact oks.elim
        | cons z2 zs =>
          rw [(clas_len hz2).1] at hg
          cases hg
          exact ⟨rfl, oks.1.s⟩
    have loop := aLoop_ok (X := X) (R := fun r s' => match r with
        | .ok _ => ∃ σ' H', Inv X pins σ' H' s' ∧ σ'.length = σ.length ∧ (∀ (j : Nat) v, j ∉ vsOf (c :: cs) → σ[j]? = some (some v) → σ'[j]? = some (some v)) ∧ Nx H'
        | .error _ => False) (elt := elt) (scope := scope) (pos := pos) (D := D) hx hc hn hf T1 st1 (I1.weak (wipe_length _ _) fun j v e => (wipe_some e).1) (fun {σ' H' s'} _ hb b hb' => ⟨hb b hb', (f1 b hb').2⟩) (fun b hb => (f1 b hb).1) ok.g ok.t hv
      (fun {pins σ H s Nx} I q => behind_ok (elt := elt) (te := te) hx hc pe cs zs (k + 1) hz2 oks I q) lo
      fun s' H' I' z => ⟨_, H', I', wipe_length _ _, fun j v hj e => by rw [wipe_out (show j ∉ c.vs from hj)]; exact e, z⟩
    exact start_at hn rfl loop (T1.self X.A 0 _ _ _ st1 loop)
end
end DL

/-! DL, part 36: list comprehensions with any number of clauses, as values. -/
namespace DL
open PySem PySem.Spec L2
open PyProof.Rows hiding St
set_option autoImplicit false

/-- [elt for tg in iter if .. for .. in .. ..] -/
def tLcN (wi : TI) (g : TG) (tt : TT) (cs : List Cla) (te : TE) (vs : List Nat) : TE := fun σ H Q => wi σ H fun J H1 => ∀ D, H1 D = none → aLoop J g tt vs (aWalk D te cs) (fun H2 => Q (.ref D) H2) σ (upd H1 D (.lst []))
section
variable {X : Cx}
theorem lcN_core {pins : List (Addr × Obj)} {s : Shared} {σ : St} {H : Hp} {Q : VK} {elt tg iter : Expr} {ifs : List Expr} {gens : List Comprehension} {zs : List Clz} {cs : List Cla} {scope : Scope} {own : List (Str × Nat)} {pos pos' : Pos} {wi : TI} {g : TG} {tt : TT} {te : TE} {use : Option (Value → Sem Unit)} {Qf : Value → Shared → Prop}
    (hgs : gens = ⟨tg, iter, ifs, 0⟩ :: zs.map Clz.c) (hc : X.calm = true) (hN : X.N.Nodup) (I : Inv X pins σ H s) (hi : PI X tg iter wi) (ok : BlkOk X.N X.env.scope scope own)
    (hb : ∀ (s : Shared) (H : Hp) (C : Addr) (cl : List (Str × Addr)) (fp : List Addr), PG (X.blk s H scope (compEnvC scope cl C X.env) fp) tg g ∧ PTs (X.blk s H scope (compEnvC scope cl C X.env) fp) ifs tt ∧ PE (X.blk s H scope (compEnvC scope cl C X.env) fp) elt te ∧ ClasOk (X.blk s H scope (compEnvC scope cl C X.env) fp) zs cs)
    (hv : ∀ j ∈ vsOf cs, j ∈ own.map (·.2)) (hs : ∀ x, foldedSetIterable iter X.env x = pure x) (h : tLcN wi g tt cs te (own.map (·.2)) σ H Q)
    (fin : ∀ D C s' m H', Inv X pins σ H' s' → Q (.ref D) H' → s'.heap.Ns C m → FpOk X pins H' C → compPost (model X.prog X.w) X.A X.xe use Qf (.ref D) C (.ok .next) s') :
    wpAny (model X.prog X.w) X.A (comprehension (.ListComp elt gens scope pos) scope X.env pos' (newList []) false (eval iter X.env) use) Qf X.xe s := by
  have seen : ∀ y ∈ scope.names, y.2 = .free → ∃ c, X.env.cells.lookup y.1 = some c := fun y hy e => (ok.free y hy e).elim (fun k => I.ok.has _ (.inl k)) fun k => I.ok.has _ (.inr k)
  refine wpAny_comprehension_free (g := ⟨tg, iter, ifs, 0⟩) (gs := zs.map Clz.c) (use := use) hgs hs (closure_ok seen) ok.kind (fun y hy e => by rw [ok.uniq y hy, e]) (thn (hi.run pins s σ H _ I h) fun _ _ q => thn q fun itv s2 q => ?_)
  obtain ⟨it, fp, tn, J, H2, rfl, I2, T, st2, f2, q⟩ := q
  refine wpAny_newObj_type (newEnv_comp ?_) (by show 0 ≤ sizeLine; decide)
  generalize hD : s2.heap.objs.size = D
  have q := q D (I2.hok.fresh (Nat.le_of_eq hD))
  -- behind the new list
  generalize hB : upd H2 D (.lst []) = B at q
  generalize hsB : ({ s2 with heap := s2.heap.push { cls := .type "list", data := .seq ([] : List Value).toArray } } : Shared) = sB
  have eB : sB.heap = s2.heap.push { cls := .type "list", data := .seq ([] : List Value).toArray } := by rw [← hsB]
  have IB : Inv X pins σ B sB := by
    rw [← hsB, ← hB]
    exact I2.laid (t' := s2.toks) (fun b o e => Heap.get?_push_of_some _ e) (Nat.le_of_eq hD) ⟨Nat.zero_le _, [], 0, .nil, by rw [← hD]; exact Heap.get?_push_size _ rfl⟩
  have fB : ∀ b ∈ fp, FpOk X pins B b ∧ b < sB.heap.objs.size := fun b hb => by
    obtain ⟨o, e, _⟩ := T.obj _ _ st2 b hb
    have hlt := Heap.lt_size e
    refine ⟨⟨?_, (f2 b hb).2⟩, by rw [eB, Heap.size_push]; exact Nat.lt_succ_of_lt hlt⟩
    rw [← hB, upd_ne (by rw [← hD]; exact Nat.ne_of_lt hlt)]
    exact (f2 b hb).1
  have stB : tn 0 sB.heap := T.keep _ _ _ st2 fun b _ o e => by rw [eB]; exact Heap.get?_push_of_some _ e
  have nB : ∀ b ∈ fp, B b = none := fun b hb => (fB b hb).1.1
  have I4 := block_start IB ok hN fB
  obtain ⟨pg, pt, pe, cok⟩ := hb sB B sB.heap.objs.size (cellsFrom (sB.heap.objs.size + 1) scope.names (cloFrom X.env.cells scope.names [])) fp
  show codeAny _ _ (.compStart (.ListComp elt gens scope pos) 0 (.ref it) (.ref D) (compEnvC scope (cellsFrom (sB.heap.objs.size + 1) scope.names (cloFrom X.env.cells scope.names [])) sB.heap.objs.size X.env)) (compPost (model X.prog X.w) X.A X.xe use Qf (.ref D) sB.heap.objs.size) { sB with heap := pushCells (sB.heap.push { cls := .type "dict", data := .dict #[] }) scope.names }
  generalize hce : compEnvC scope (cellsFrom (sB.heap.objs.size + 1) scope.names (cloFrom X.env.cells scope.names [])) sB.heap.objs.size X.env = ce at I4 pg pt pe cok ⊢
  have cL : ce.locals = sB.heap.objs.size := by subst hce; rfl
  generalize hs4 : ({ sB with heap := pushCells (sB.heap.push { cls := .type "dict", data := .dict #[] }) scope.names } : Shared) = s4 at I4 ⊢
  have st4 : tn 0 s4.heap := T.keep _ _ _ stB fun b _ o e => by rw [← hs4]; exact pushCells_keeps _ _ _ _ (Heap.get?_push_of_some _ e)
  have hg0 : gens[0]? = some ⟨tg, iter, ifs, 0⟩ := by rw [hgs]; rfl
  have hz : gens.drop (0 + 1) = zs.map Clz.c := by rw [hgs]; rfl
  have hf : ∀ g, gens[0 + 1]? = some g → g.is_async = 0 ∧ ∀ x, foldedSetIterable g.iter ce x = pure x := fun g hg => by
    have e1 : gens[0 + 1]? = (gens.drop (0 + 1))[0]? := by simp
    rw [e1, hz] at hg
    cases zs with
    | nil => cases hg
    | cons z zs => cases cs with
      | nil => exact cok.elim
      | cons c cs => cases hg; exact ⟨rfl, cok.1.s⟩
  have loop := aLoop_ok (X := X.blk sB B scope ce fp) (pins := []) (R := compPost (model X.prog X.w) X.A X.xe use Qf (.ref D) sB.heap.objs.size) (elt := elt) (scope := scope) (pos := pos) (D := D) (vs := own.map (·.2)) rfl hc hg0 hf T st4 I4
    (fun {σ' H' s'} I' hb b hb' => ⟨hb b hb', (I'.ok.exf b hb').1, I'.ok.exfs b hb', .inl hb', fun x c e => (I'.ok.exf b hb').2 x c e, fun p hp => absurd (show p ∈ ([] : List (Addr × Obj)) ++ [] from hp) (by simp)⟩) nB pg pt hv (fun {pins σ H s Nx} I q => behind_ok (X := X.blk sB B scope ce fp) (elt := elt) (te := te) rfl hc pe cs zs 0 hz cok I q) q
    fun s' H' I' z => ?_
  · exact start_at hg0 rfl loop (T.self X.A 0 _ _ _ st4 loop)
  · have nC : H' sB.heap.objs.size = none := by
      have z : H' ce.locals = none := I'.free
      rwa [cL] at z
    obtain ⟨m, hn, _⟩ := I'.loc
    have hn : s'.heap.Ns ce.locals m := hn
    rw [cL] at hn
    have I7 : Inv X pins σ H' s' := IB.call' (ch := fp) I'.os I'.base I'.hok I'.bare fun b hb => ⟨(fB b hb).1.2.2.2.1, (fB b hb).1.2.1, (fB b hb).1.2.2.2.2.1, (fB b hb).1.2.2.2.2.2⟩
    exact fin D _ s' m H' I7 z hn (IB.fpOk (Nat.le_refl _) nC)
/-- as a value -/
theorem pe_lcN {elt tg iter : Expr} {ifs : List Expr} {gens : List Comprehension} {zs : List Clz} {cs : List Cla} {scope : Scope} {own : List (Str × Nat)} {pos : Pos} {wi : TI} {g : TG} {tt : TT} {te : TE} (hgs : gens = ⟨tg, iter, ifs, 0⟩ :: zs.map Clz.c) (hc : X.calm = true) (hN : X.N.Nodup) (hi : PI X tg iter wi) (ok : BlkOk X.N X.env.scope scope own)
    (hb : ∀ (s : Shared) (H : Hp) (C : Addr) (cl : List (Str × Addr)) (fp : List Addr), PG (X.blk s H scope (compEnvC scope cl C X.env) fp) tg g ∧ PTs (X.blk s H scope (compEnvC scope cl C X.env) fp) ifs tt ∧ PE (X.blk s H scope (compEnvC scope cl C X.env) fp) elt te ∧ ClasOk (X.blk s H scope (compEnvC scope cl C X.env) fp) zs cs)
    (hv : ∀ j ∈ vsOf cs, j ∈ own.map (·.2)) (hs : ∀ x, foldedSetIterable iter X.env x = pure x) :
    PE X (.ListComp elt gens scope pos) (tLcN wi g tt cs te (own.map (·.2))) := by
  subst hgs
  refine ⟨fun pins s σ H Q I h => ?_⟩
  rw [eval_ListComp]
  refine lcN_core (use := none) rfl hc hN I hi ok hb hv hs h fun D C s' m H' I' q hn f => ⟨m, hn, fun h2 sb => ?_⟩
  exact ⟨.ref D, H', I'.turned (t' := s'.toks) (fun b o hb e => (sb.2 b hb).trans e) f.1 f.2.1 f.2.2.2.1 f.2.2.2.2.1 f.2.2.2.2.2, rfl, q⟩
/-- name = [..] on one line, the name a local -/
theorem ps_setLcN {i : Nat} {y : Str} {py : Pos} {elt tg iter : Expr} {ifs : List Expr} {gens : List Comprehension} {zs : List Clz} {cs : List Cla} {scope : Scope} {own : List (Str × Nat)} {pos spos : Pos} {wi : TI} {g : TG} {tt : TT} {te : TE} (hgs : gens = ⟨tg, iter, ifs, 0⟩ :: zs.map Clz.c) (hc : X.calm = true) (hN : X.N.Nodup)
    (hy : X.N[i]? = some y) (hyl : X.env.scope.names.lookup y = some .local) (hsw : swapsWith (.ListComp elt gens scope pos) (some (.Name y py)) spos.line X.env = pure true) (hi : PI X tg iter wi) (ok : BlkOk X.N X.env.scope scope own)
    (hb : ∀ (s : Shared) (H : Hp) (C : Addr) (cl : List (Str × Addr)) (fp : List Addr), PG (X.blk s H scope (compEnvC scope cl C X.env) fp) tg g ∧ PTs (X.blk s H scope (compEnvC scope cl C X.env) fp) ifs tt ∧ PE (X.blk s H scope (compEnvC scope cl C X.env) fp) elt te ∧ ClasOk (X.blk s H scope (compEnvC scope cl C X.env) fp) zs cs)
    (hv : ∀ j ∈ vsOf cs, j ∈ own.map (·.2)) (hs : ∀ x, foldedSetIterable iter X.env x = pure x) :
    PS X (.Assign [.Name y py] (.ListComp elt gens scope pos) spos) (tAsg (tLcN wi g tt cs te (own.map (·.2))) (gName i)) := by
  subst hgs
  refine ⟨fun pins s σ H D I h => ?_⟩
  rw [exec_Assign_Name_used _ _ _ _ hsw]
  refine wpAny_bind (wpAny_standAt (wpAny_bind ?_))
  show wpAny _ X.A (do let _ ← comprehension (.ListComp elt _ scope pos) scope X.env (firstIterPos _ pos) (newList []) false (eval iter X.env) (some (assign (.Name y py) X.env))) _ _ s
  have h : tLcN wi g tt cs te (own.map (·.2)) σ H (fun x H1 => gName i x σ H1 D.nx) := h
  refine wpAny_bind (thn (lcN_core (Qf := fun _ s' => SP X pins D .next s') rfl hc hN I hi ok hb hv hs h fun L C s' m H' I' q hn f => ?_) fun _ s' hq => wpAny_pure (wpAny_pure hq))
  show wpAny _ _ (assign (.Name y py) X.env (.ref L)) _ _ _
  refine wpAny_assign_Name (store_ok2 (v := V.ref L) I' hN hy (.inl hyl) rfl (fun s2 I2 ⟨a, sb, ha⟩ => ?_) (.inr hyl))
  have hne : C ≠ a := by
    rcases ha with z | z
    · rw [z]; exact f.2.1
    · exact fun e => f.2.2.2.2.1 y a z e.symm
  refine ⟨m, hn.sameBut sb hne, fun h3 sb3 => ⟨_, H', I2.turned (t' := s2.toks) (fun b o hb e => (sb3.2 b hb).trans e) f.1 f.2.1 f.2.2.2.1 f.2.2.2.2.1 f.2.2.2.2.2, q⟩⟩
end
end DL

/-! DL, part 37: the data rule for comprehensions with any number of clauses. -/
namespace DL
open PySem PySem.Spec L2
open PyProof.Rows hiding St
set_option autoImplicit false

/-- a clause behind the first: its source, its target, its tests, the slots of this and the later targets -/
structure DCla where
  fi : Fi
  p : Pt
  sl : List Nat
  ft : Ft
  vs : List Nat
def lcW (p : Pt) (ft : Ft) (vs : List Nat) (inn : Ev → Rs (List D × Ev)) : List D → Ev → Rs (List D × Ev)
  | [], es => .ok ([], es)
  | d :: ds, es => (Rs.of (p d (wipeE es vs))).bind fun e1 => (noXT ft e1).bind fun b => if b.1 = true then
      (inn b.2).bind fun s => (lcW p ft vs inn ds (unw es s.2 vs)).bind fun t => .ok (s.1 ++ t.1, t.2)
    else lcW p ft vs inn ds (unw es b.2 vs)
def lcI (fe : Fe) : List DCla → Ev → Rs (List D × Ev)
  | [] => fun es => (noX fe es).bind fun r => (Rs.of (toSh r.1 r.2)).bind fun q => .ok ([q.1], q.2)
  | c :: cs => fun es => (noXI c.fi es).bind fun q => lcW c.p c.ft c.vs (lcI fe cs) q.1 q.2
/-- .. the whole list must fit -/
def fLcN (fi : Fi) (p : Pt) (ft : Ft) (cs : List DCla) (fe : Fe) (vs : List Nat) : Fe := fun es => (fi es).bind fun q => (lcW p ft vs (lcI fe cs) q.1 q.2).bind fun s => if s.1.length ≤ sizeLine then .ok (.fr (.lst s.1), s.2) else .st

theorem lcW_end {p : Pt} {ft : Ft} {vs : List Nat} {inn : Ev → Rs (List D × Ev)} (hi : ∀ es, (∃ s, inn es = .ok s) ∨ inn es = .st) : ∀ (ds : List D) (es : Ev), (∃ s, lcW p ft vs inn ds es = .ok s) ∨ lcW p ft vs inn ds es = .st
  | [], es => .inl ⟨_, rfl⟩
  | d :: ds, es => by
    unfold lcW
    cases p d (wipeE es vs) with
    | none => exact .inr rfl
    | some e1 =>
      simp only [Rs.of_some, Rs.bind_ok]
      cases hb : noXT ft e1 with
      | ex x e => exact absurd hb noXT_ex
      | st => exact .inr rfl
      | ok b =>
        simp only [Rs.bind_ok]
        split
        · rcases hi b.2 with ⟨s, h⟩ | h
          · rw [h]
            simp only [Rs.bind_ok]
            rcases lcW_end hi ds (unw es s.2 vs) with ⟨t, h2⟩ | h2
            · rw [h2]; exact .inl ⟨_, rfl⟩
            · rw [h2]; exact .inr rfl
          · rw [h]; exact .inr rfl
        · exact lcW_end hi ds _
theorem lcI_end (fe : Fe) : ∀ (cs : List DCla) (es : Ev), (∃ s, lcI fe cs es = .ok s) ∨ lcI fe cs es = .st
  | [], es => by
    unfold lcI
    cases hr : noX fe es with
    | ex x e => exact absurd hr noX_ex
    | st => exact .inr rfl
    | ok r =>
      simp only [Rs.bind_ok]
      cases toSh r.1 r.2 with
      | none => exact .inr rfl
      | some q => exact .inl ⟨_, rfl⟩
  | c :: cs, es => by
    unfold lcI
    cases hr : noXI c.fi es with
    | ex x e => exact absurd hr noXI_ex
    | st => exact .inr rfl
    | ok r =>
      simp only [Rs.bind_ok]
      exact lcW_end (lcI_end fe cs) _ _
/-- what walks a part of the list: from slots and heap at which D holds acc -/
def Fills (K : Kx) (D : Addr) (inn : Ev → Rs (List DL.D × Ev)) (nx : St → Hp → (Hp → Prop) → Prop) : Prop :=
  ∀ {σ : St} {e0 es4 : Ev} {P0 B P4 H4 : Hp} {acc : List V} {dacc : List DL.D} {s : List DL.D × Ev} {Nx : Hp → Prop}, B D = none → GoE K σ e0 P0 B es4 P4 H4 → H4 D = some (.lst acc) → P4 D = none → ¬ Own σ es4 D → DnA K P4 acc dacc →
    inn es4 = .ok s → dacc.length + s.1.length ≤ sizeLine → (∀ P5 H5 acc5, GoE K σ e0 P0 B s.2 P5 H5 → H5 D = some (.lst acc5) → P5 D = none → ¬ Own σ s.2 D → Same P4 P5 → DnA K P5 acc5 (dacc ++ s.1) → Nx H5) → nx σ H4 Nx
theorem level {K : Kx} {D : Addr} {inn : Ev → Rs (List DL.D × Ev)} {nx : St → Hp → (Hp → Prop) → Prop} (hin : Fills K D inn nx) (hend : ∀ es, (∃ s, inn es = .ok s) ∨ inn es = .st)
    {σ : St} {e0 es4 : Ev} {P0 B P4 H4 : Hp} {acc : List V} {dacc ds : List DL.D} {J : It} {p : Pt} {sl vs : List Nat} {ft : Ft} {s : List DL.D × Ev} {Nx : Hp → Prop} (hB : B D = none) (g : GoE K σ e0 P0 B es4 P4 H4) (hD : H4 D = some (.lst acc)) (hP : P4 D = none) (no : ¬ Own σ es4 D) (dn : DnA K P4 acc dacc)
    (it : ItOk K J ds P4) (hsl : ∀ j, j ∈ sl → j ∈ vs) (hs : lcW p ft vs inn ds es4 = .ok s) (fit : dacc.length + s.1.length ≤ sizeLine)
    (fin : ∀ P5 H5 acc5, GoE K σ e0 P0 B s.2 P5 H5 → H5 D = some (.lst acc5) → P5 D = none → ¬ Own σ s.2 D → Same P4 P5 → DnA K P5 acc5 (dacc ++ s.1) → Nx H5) :
    aLoop J (tG K p sl) (tDT K W0 ft) vs nx Nx σ H4 := by
  refine ⟨fun j k H => k = ds.length - j ∧ j ≤ ds.length ∧ ∃ P5 es5 acc5 dacc5 t, GoE K σ e0 P0 B es5 P5 H ∧ H D = some (.lst acc5) ∧ P5 D = none ∧ ¬ Own σ es5 D ∧ Same P4 P5 ∧ DnA K P5 acc5 dacc5 ∧ lcW p ft vs inn (ds.drop j) es5 = .ok t ∧ t.2 = s.2 ∧ dacc5 ++ t.1 = dacc ++ s.1,
    ⟨ds.length, by simp, Nat.zero_le _, P4, es4, acc, dacc, s, g, hD, hP, no, Same.refl _, dn, hs, rfl, rfl⟩, fun j k H2 ⟨ek, hj, P2, es2, acc2, dacc2, t, g2, hD2, hPD, hOD, s42, dn2, ht, e2, ed2⟩ => ?_⟩
  by_cases hlt : j < ds.length
  · refine .inr ⟨it.go j P2 H2 hlt s42 g2.ok.sub, fun H3 => ∃ P3 es3 acc3 dacc3 t3, GoE K σ e0 P0 B es3 P3 H3 ∧ H3 D = some (.lst acc3) ∧ P3 D = none ∧ ¬ Own σ es3 D ∧ Same P4 P3 ∧ DnA K P3 acc3 dacc3 ∧ lcW p ft vs inn (ds.drop (j + 1)) es3 = .ok t3 ∧ t3.2 = s.2 ∧ dacc3 ++ t3.1 = dacc ++ s.1,
      fun H3 n3 => ⟨ds.length - (j + 1), by omega, rfl, hlt, n3⟩, fun x H3 y => ?_⟩
    rw [List.drop_eq_getElem_cons hlt] at ht
    unfold lcW at ht
    cases z1 : p ds[j] (wipeE es2 vs) with
    | none => rw [z1] at ht; cases ht
    | some e1 =>
      rw [z1] at ht
      simp only [Rs.of_some, Rs.bind_ok] at ht
      obtain ⟨P3, g3, dn3, s23, hD3, hPD3⟩ : ∃ P3, GoE K σ e0 P0 B es2 P3 H3 ∧ Dn K P3 x ds[j] ∧ Same P2 P3 ∧ H3 D = some (.lst acc2) ∧ P3 D = none := by
        rcases it.yld j P2 H2 x H3 ds[j] (List.getElem?_eq_getElem hlt) s42 g2.ok.sub y with ⟨rfl, q⟩ | ⟨a, o, n, rfl, q⟩
        · exact ⟨P2, g2, q, Same.refl _, hD2, hPD⟩
        · have ne : D ≠ a := ne_of_none hD2 n
          exact ⟨upd P2 a o, g2.allocP n, q, same_updP g2.ok.sub n, by rw [upd_ne ne]; exact hD2, by rw [upd_ne ne]; exact hPD⟩
      refine ⟨P3, wipeE es2 vs, _, e1, g3.ok.wipe vs, dn3, z1, fun σ3 gt ot => ?_⟩
      have hout : ∀ (i : Nat), i ∉ vs → σ3[i]? = (wipe σ vs)[i]? ∧ e1[i]? = (wipeE es2 vs)[i]? := fun i hi => ot.2 i fun z => hi (hsl i z)
      refine ⟨?_, ?_⟩
      · apply List.ext_getElem?
        intro i
        by_cases hi : i ∈ vs
        · by_cases hl : i < σ.length
          · rw [wipe_in hi (by rw [ot.1, wipe_length]; exact hl), wipe_in hi hl]
          · rw [List.getElem?_eq_none (by rw [wipe_length, ot.1, wipe_length]; omega), List.getElem?_eq_none (by rw [wipe_length]; omega)]
        · rw [wipe_out hi, (hout i hi).1]
      -- D stands apart in the block too
      have nOw : ¬ Own (wipe σ vs) (wipeE es2 vs) D := fun ⟨i, d, k1, k2⟩ => by
        obtain ⟨hi, k1⟩ := own_wipe k1
        rw [wipe_out hi] at k2
        exact hOD ⟨i, d, k1, k2⟩
      have nO3 : ¬ Own σ3 e1 D := fun z => by
        rcases gt.le D z with k | k
        · exact nOw k
        · rw [hD3] at k; cases k
      refine ⟨P3, e1, gt.ok, ?_⟩
      cases eb : noXT ft e1 with
      | ex x' es' => exact absurd eb noXT_ex
      | st => rw [eb] at ht; cases ht
      | ok b =>
        rw [eb] at ht
        simp only [Rs.bind_ok] at ht
        rw [noXT_ok eb]
        intro P6 H6 g6
        by_cases hb : b.1 = true
        · rw [if_pos hb] at ht ⊢
          obtain ⟨w, el⟩ : ∃ w, inn b.2 = .ok w := by
            rcases hend b.2 with h | h
            · exact h
            · rw [h] at ht; cases ht
          rw [el] at ht
          simp only [Rs.bind_ok] at ht
          obtain ⟨u, eo⟩ : ∃ u, lcW p ft vs inn (ds.drop (j + 1)) (unw es2 w.2 vs) = .ok u := by
            rcases lcW_end hend (ds.drop (j + 1)) (unw es2 w.2 vs) with h | h
            · exact h
            · rw [h] at ht; cases ht
          rw [eo] at ht
          simp only [Rs.bind_ok] at ht
          cases ht
          obtain ⟨hD5, hPD5, hO5⟩ := apart_out g6 hD3 hPD3 nO3
          have tot := congrArg List.length ed2
          rw [List.length_append, List.length_append, List.length_append] at tot
          -- from a base without D
          refine hin (B := del H3 D) (acc := acc2) (dacc := dacc2) del_same g6.from0 hD5 hPD5 hO5 (dn2.mono (s23.trans g6.st.pp)) el (by omega) fun P7 H7 acc7 g7 hD7 hPD7 hO7 s67 dn7 => ?_
          have gu := turn_out (g3.ok.drop hPD3 hOD) (gt.dropT hPD3 nO3) ot.1 hout g7
          have nOu : ¬ Own σ (unw es2 w.2 vs) D := fun z => hOD (gu.own z)
          exact ⟨P7, _, acc7, dacc2 ++ w.1, u, (g3.drop hB hPD3 hOD).trans gu, hD7, hPD7, nOu, ((s42.trans s23).trans g6.st.pp).trans s67, dn7, eo, e2, by rw [List.append_assoc]; exact ed2⟩
        · rw [if_neg hb] at ht ⊢
          have gu := turn_out g3.ok gt ot.1 hout g6
          obtain ⟨q1, q2, q3⟩ := apart_out gu hD3 hPD3 hOD
          exact ⟨P6, _, acc2, dacc2, t, g3.trans gu, q1, q2, q3, (s42.trans s23).trans g6.st.pp, dn2.mono (s23.trans g6.st.pp), ht, e2, ed2⟩
  · have e : j = ds.length := by omega
    subst e
    rw [List.drop_length] at ht
    unfold lcW at ht
    cases ht
    rw [List.append_nil] at ed2
    refine .inl ⟨it.stop P2 H2 s42 g2.ok.sub, ?_⟩
    have e2 : es2 = s.2 := e2
    subst e2
    exact fin P2 H2 acc2 g2 hD2 hPD hOD s42 (by rw [← ed2]; exact dn2)
def DCla.cla (K : Kx) (c : DCla) : Cla := ⟨tDI K W0 c.fi, tG K c.p c.sl, tDT K W0 c.ft, c.vs⟩
theorem fills {K : Kx} {D : Addr} {fe : Fe} : ∀ cs : List DCla, (∀ c ∈ cs, ∀ j ∈ c.sl, j ∈ c.vs) → Fills K D (lcI fe cs) (aWalk D (tD K W0 fe) (cs.map (DCla.cla K)))
  | [], _, σ, e0, es4, P0, B, P4, H4, acc, dacc, s, Nx, hB, g, hD, hP, no, dn, hs, fit, fin => by
    unfold lcI at hs
    cases er : noX fe es4 with
    | ex x' es' => exact absurd er noX_ex
    | st => rw [er] at hs; cases hs
    | ok r =>
      rw [er] at hs
      simp only [Rs.bind_ok] at hs
      show tD K W0 fe σ H4 _
      refine ⟨P4, es4, g.ok, ?_⟩
      rw [noX_ok er]
      intro v P7 H7 g7 rel
      cases eq : toSh r.1 r.2 with
      | none => rw [eq] at hs; cases hs
      | some q =>
        rw [eq] at hs
        simp only [Rs.of_some, Rs.bind_ok] at hs
        cases hs
        obtain ⟨P8, g8, dn8, s78⟩ := toSh_ok g7 rel eq
        have gu := g8
        obtain ⟨hD5, hPD5, hO5⟩ := apart_out gu hD hP no
        have s48 : Same P4 P8 := g8.st.pp
        have la := dn.length
        refine ⟨acc, hD5, by have := fit; simp at this; omega, fin P8 _ (acc ++ [v]) ((g.trans gu).hid hB hPD5 hO5 ⟨_, hD5⟩) upd_same hPD5 hO5 s48 ((dn.mono s48).snoc dn8)⟩
  | c :: cs, hsl, σ, e0, es4, P0, B, P4, H4, acc, dacc, s, Nx, hB, g, hD, hP, no, dn, hs, fit, fin => by
    unfold lcI at hs
    cases er : noXI c.fi es4 with
    | ex x' es' => exact absurd er noXI_ex
    | st => rw [er] at hs; cases hs
    | ok r =>
      rw [er] at hs
      simp only [Rs.bind_ok] at hs
      show tDI K W0 c.fi σ H4 _
      refine ⟨P4, es4, g.ok, ?_⟩
      rw [noXI_ok er]
      intro P5 H5 J1 g5 it1
      obtain ⟨hD5, hPD5, hO5⟩ := apart_out g5 hD hP no
      exact level (fills cs fun c' h' => hsl c' (List.mem_cons_of_mem _ h')) (lcI_end fe cs) hB (g.trans g5) hD5 hPD5 hO5 (dn.mono g5.st.pp) it1 (hsl c List.mem_cons_self) hs fit fun P7 H7 acc7 g7 hD7 hPD7 hO7 s57 dn7 => fin P7 H7 acc7 g7 hD7 hPD7 hO7 (g5.st.pp.trans s57) dn7
theorem lcN_ok {X : Cx} {we : WX} {fi : Fi} {p : Pt} {sl vs : List Nat} {ft : Ft} {cs : List DCla} {fe : Fe} (hsl : ∀ j, j ∈ sl → j ∈ vs) (hcs : ∀ c ∈ cs, ∀ j ∈ c.sl, j ∈ c.vs) {σ : St} {H : Hp} {Q : VK} (h : tD (kx X ⟨we, none⟩) we (fLcN fi p ft cs fe vs) σ H Q) :
    tLcN (tDI (kx X ⟨we, none⟩) we fi) (tG (kx X ⟨we, none⟩) p sl) (tDT (kx X ⟨we, none⟩) W0 ft) (cs.map (DCla.cla (kx X ⟨we, none⟩))) (tD (kx X ⟨we, none⟩) W0 fe) vs σ H Q := by
  obtain ⟨P, es, ok, h⟩ := h
  have h := G.bind h.g
  refine ⟨P, es, ok, ?_⟩
  cases e0 : fi es with
  | ex x es' => rw [e0] at h; exact h
  | st => rw [e0] at h; exact h
  | ok q =>
    rw [e0] at h
    intro P1 H1 J g1 it D nD
    have h := G.bind h
    obtain ⟨s, es0, h⟩ : ∃ s, lcW p ft vs (lcI fe cs) q.1 q.2 = .ok s ∧ G (kx X ⟨we, none⟩) we σ es P H (if s.1.length ≤ sizeLine then (.ok (.fr (.lst s.1), s.2) : Rs (R × Ev)) else .st) fun r => ∀ v P' H', GoE (kx X ⟨we, none⟩) σ es P H r.2 P' H' → RelR (kx X ⟨we, none⟩) H P' H' σ r.2 v r.1 → Q v H' := by
      rcases lcW_end (lcI_end fe cs) q.1 q.2 with ⟨s, e⟩ | e
      · rw [e] at h; exact ⟨s, e, h⟩
      · rw [e] at h; exact h.elim
    split at h
    · rename_i fit
      have hQ : ∀ v P' H', GoE (kx X ⟨we, none⟩) σ es P H s.2 P' H' → RelR (kx X ⟨we, none⟩) H P' H' σ s.2 v (.fr (.lst s.1)) → Q v H' := h
      have h0D : H D = none := g1.st.free nD
      have noP : P1 D = none := by
        cases e : P1 D with
        | none => rfl
        | some u => rw [g1.ok.sub _ _ e] at nD; cases nD
      have noO : ¬ Own σ q.2 D := fun ⟨i, d, h1, h2⟩ => by
        obtain ⟨a, h3, h4⟩ := g1.ok.ow i d h1
        rw [h2] at h3; cases h3
        obtain ⟨u, hu⟩ := h4.tracked
        rw [nD] at hu; cases hu
      refine level (fills cs hcs) (lcI_end fe cs) h0D (g1.alloc nD) upd_same noP noO .nil it hsl es0 (by simpa using fit) fun P5 H5 acc5 g5 hD5 hPD5 hO5 s5 dn5 => ?_
      rw [List.nil_append] at dn5
      refine hQ (.ref D) P5 H5 g5 ⟨D, rfl, ⟨hPD5, acc5, hD5, ?_, dn5⟩, hO5, h0D⟩
      rw [dn5.length]
      exact fit
    · exact h.elim
end DL

/-! DL, part 38: .. and its rules. -/
namespace DL
open PySem PySem.Spec L2
open PyProof.Rows hiding St
set_option autoImplicit false

def DClasOk (X : Cx) : List Clz → List DCla → Prop
  | [], [] => True
  | z :: zs, c :: cs => DI X N0 z.tg z.iter c.fi ∧ DG X N0 z.tg c.p c.sl ∧ DTs X N0 z.ifs c.ft ∧ (∀ x, foldedSetIterable z.iter X.env x = pure x) ∧ DClasOk X zs cs
  | _, _ => False
def nestC : List Nat → List DCla → Bool
  | _, [] => true
  | vs, c :: cs => (c.sl.all fun j => c.vs.contains j) && (c.vs.all fun j => vs.contains j) && nestC c.vs cs
theorem nestC_sl : ∀ {cs : List DCla} {vs : List Nat}, nestC vs cs = true → ∀ c ∈ cs, ∀ j ∈ c.sl, j ∈ c.vs
  | [], _, _, _, h => by cases h
  | c :: cs, vs, hn, c', h => by
    unfold nestC at hn
    simp only [Bool.and_eq_true, List.all_eq_true, List.contains_iff_mem] at hn
    rcases List.mem_cons.mp h with rfl | h
    · exact hn.1.1
    · exact nestC_sl hn.2 c' h
theorem nestC_vs {K : Kx} : ∀ {cs : List DCla} {vs : List Nat}, nestC vs cs = true → ∀ j ∈ vsOf (cs.map (DCla.cla K)), j ∈ vs
  | [], _, _, _, h => by cases h
  | c :: cs, vs, hn, j, h => by
    unfold nestC at hn
    simp only [Bool.and_eq_true, List.all_eq_true, List.contains_iff_mem] at hn
    exact hn.1.2 j h
theorem clasOk_of {X : Cx} {vs : List Nat} : ∀ {zs : List Clz} {cs : List DCla} {vs : List Nat}, nestC vs cs = true → DClasOk X zs cs → ClasOk X zs (cs.map (DCla.cla (kx X N0)))
  | [], [], _, _, _ => trivial
  | [], _ :: _, _, _, h => h.elim
  | _ :: _, [], _, _, h => h.elim
  | z :: zs, c :: cs, vs, hn, ⟨h1, h2, h3, h4, h5⟩ => by
    unfold nestC at hn
    simp only [Bool.and_eq_true] at hn
    exact ⟨⟨h1, h2, h3, h4⟩, nestC_vs hn.2, clasOk_of (vs := c.vs) hn.2 h5⟩
section
variable {X : Cx} {we : WX} {elt tg iter : Expr} {ifs : List Expr} {gens : List Comprehension} {zs : List Clz} {cs : List DCla} {scope : Scope} {own : List (Str × Nat)} {pos : Pos} {fi : Fi} {p : Pt} {sl : List Nat} {ft : Ft} {fe : Fe} {i : Nat} {y : Str} {py spos : Pos}
theorem de_lcN (cs : List DCla) (zs : List Clz) (hgs : gens = ⟨tg, iter, ifs, 0⟩ :: zs.map Clz.c) (hc : X.calm = true) (hN : X.N.Nodup) (hi : DI X ⟨we, none⟩ tg iter fi) (ok : BlkOk X.N X.env.scope scope own)
    (hb : ∀ (s : Shared) (H : Hp) (C : Addr) (cl : List (Str × Addr)) (fp : List Addr), DG (X.blk s H scope (compEnvC scope cl C X.env) fp) N0 tg p sl ∧ DTs (X.blk s H scope (compEnvC scope cl C X.env) fp) N0 ifs ft ∧ DE (X.blk s H scope (compEnvC scope cl C X.env) fp) N0 elt fe ∧ DClasOk (X.blk s H scope (compEnvC scope cl C X.env) fp) zs cs)
    (hsl : sl.all (fun j => decide (j ∈ own.map (·.2))) = true := by decide) (hn : nestC (own.map (·.2)) cs = true := by decide) (hs : ∀ x, foldedSetIterable iter X.env x = pure x := by intro _; rfl) :
    DE X ⟨we, none⟩ (.ListComp elt gens scope pos) (fLcN fi p ft cs fe (own.map (·.2))) :=
  pe_imp (pe_lcN (g := tG (kx X ⟨we, none⟩) p sl) (tt := tDT (kx X ⟨we, none⟩) W0 ft) (te := tD (kx X ⟨we, none⟩) W0 fe) (cs := cs.map (DCla.cla (kx X ⟨we, none⟩))) hgs hc hN hi ok (fun s H C cl fp => ⟨(hb s H C cl fp).1, (hb s H C cl fp).2.1, (hb s H C cl fp).2.2.1, clasOk_of (vs := own.map (·.2)) hn (hb s H C cl fp).2.2.2⟩) (nestC_vs hn) hs)
    fun σ H Q h => lcN_ok (fun j hj => of_decide_eq_true (List.all_eq_true.mp hsl j hj)) (nestC_sl hn) h
theorem ps_lcNs (hgs : gens = ⟨tg, iter, ifs, 0⟩ :: zs.map Clz.c) (hc : X.calm = true) (hN : X.N.Nodup) (hy : X.N[i]? = some y) (hyl : X.env.scope.names.lookup y = some .local) (hsw : swapsWith (.ListComp elt gens scope pos) (some (.Name y py)) spos.line X.env = pure true) (hi : DI X ⟨we, none⟩ tg iter fi) (ok : BlkOk X.N X.env.scope scope own)
    (hb : ∀ (s : Shared) (H : Hp) (C : Addr) (cl : List (Str × Addr)) (fp : List Addr), DG (X.blk s H scope (compEnvC scope cl C X.env) fp) N0 tg p sl ∧ DTs (X.blk s H scope (compEnvC scope cl C X.env) fp) N0 ifs ft ∧ DE (X.blk s H scope (compEnvC scope cl C X.env) fp) N0 elt fe ∧ DClasOk (X.blk s H scope (compEnvC scope cl C X.env) fp) zs cs)
    (hn : nestC (own.map (·.2)) cs = true) (hs : ∀ x, foldedSetIterable iter X.env x = pure x) :
    PS X (.Assign [.Name y py] (.ListComp elt gens scope pos) spos) (tAsg (tLcN (tDI (kx X ⟨we, none⟩) we fi) (tG (kx X ⟨we, none⟩) p sl) (tDT (kx X ⟨we, none⟩) W0 ft) (cs.map (DCla.cla (kx X ⟨we, none⟩))) (tD (kx X ⟨we, none⟩) W0 fe) (own.map (·.2))) (gName i)) :=
  ps_setLcN (g := tG (kx X ⟨we, none⟩) p sl) (tt := tDT (kx X ⟨we, none⟩) W0 ft) (te := tD (kx X ⟨we, none⟩) W0 fe) hgs hc hN hy hyl hsw hi ok (fun s H C cl fp => ⟨(hb s H C cl fp).1, (hb s H C cl fp).2.1, (hb s H C cl fp).2.2.1, clasOk_of (vs := own.map (·.2)) hn (hb s H C cl fp).2.2.2⟩) (nestC_vs hn) hs
/-- name = [..], shared; own -/
theorem ds_lcNA (cs : List DCla) (zs : List Clz) (hgs : gens = ⟨tg, iter, ifs, 0⟩ :: zs.map Clz.c) (hc : X.calm = true) (hN : X.N.Nodup) (hy : X.N[i]? = some y) (hyl : X.env.scope.names.lookup y = some .local) (hsw : swapsWith (.ListComp elt gens scope pos) (some (.Name y py)) spos.line X.env = pure true) (hi : DI X ⟨we, none⟩ tg iter fi) (ok : BlkOk X.N X.env.scope scope own)
    (hb : ∀ (s : Shared) (H : Hp) (C : Addr) (cl : List (Str × Addr)) (fp : List Addr), DG (X.blk s H scope (compEnvC scope cl C X.env) fp) N0 tg p sl ∧ DTs (X.blk s H scope (compEnvC scope cl C X.env) fp) N0 ifs ft ∧ DE (X.blk s H scope (compEnvC scope cl C X.env) fp) N0 elt fe ∧ DClasOk (X.blk s H scope (compEnvC scope cl C X.env) fp) zs cs)
    (hsl : sl.all (fun j => decide (j ∈ own.map (·.2))) = true := by decide) (hn : nestC (own.map (·.2)) cs = true := by decide) (hs : ∀ x, foldedSetIterable iter X.env x = pure x := by intro _; rfl) :
    DS X ⟨we, none⟩ (.Assign [.Name y py] (.ListComp elt gens scope pos) spos) (gAsg (fLcN fi p ft cs fe (own.map (·.2))) (ptName i)) :=
  asg_of (ps_lcNs hgs hc hN hy hyl hsw hi ok hb hn hs) fun σ H Q h => lcN_ok (fun j hj => of_decide_eq_true (List.all_eq_true.mp hsl j hj)) (nestC_sl hn) h
theorem ds_lcNO (cs : List DCla) (zs : List Clz) (hgs : gens = ⟨tg, iter, ifs, 0⟩ :: zs.map Clz.c) (hc : X.calm = true) (hN : X.N.Nodup) (hy : X.N[i]? = some y) (hyl : X.env.scope.names.lookup y = some .local) (hsw : swapsWith (.ListComp elt gens scope pos) (some (.Name y py)) spos.line X.env = pure true) (hi : DI X ⟨we, none⟩ tg iter fi) (ok : BlkOk X.N X.env.scope scope own)
    (hb : ∀ (s : Shared) (H : Hp) (C : Addr) (cl : List (Str × Addr)) (fp : List Addr), DG (X.blk s H scope (compEnvC scope cl C X.env) fp) N0 tg p sl ∧ DTs (X.blk s H scope (compEnvC scope cl C X.env) fp) N0 ifs ft ∧ DE (X.blk s H scope (compEnvC scope cl C X.env) fp) N0 elt fe ∧ DClasOk (X.blk s H scope (compEnvC scope cl C X.env) fp) zs cs)
    (hsl : sl.all (fun j => decide (j ∈ own.map (·.2))) = true := by decide) (hn : nestC (own.map (·.2)) cs = true := by decide) (hs : ∀ x, foldedSetIterable iter X.env x = pure x := by intro _; rfl) :
    DS X ⟨we, none⟩ (.Assign [.Name y py] (.ListComp elt gens scope pos) spos) (gOwn (fLcN fi p ft cs fe (own.map (·.2))) i) :=
  own_of (ps_lcNs hgs hc hN hy hyl hsw hi ok hb hn hs) fun σ H Q h => lcN_ok (fun j hj => of_decide_eq_true (List.all_eq_true.mp hsl j hj)) (nestC_sl hn) h
end
end DL

/-! DL, part 39: sets of plain keys (texts, ints), their tables in order. -/
namespace DL
open PySem PySem.Spec L2
open PyProof.Rows hiding St
set_option autoImplicit false

section
variable {P : Program} {w : World} {κ : Type} [DecidableEq κ] {knd : PySem.KeyKind P w κ} {A : Around} {E : Value → Shared → Prop} {s : Shared} {a : Addr}
theorem items_perm {vs vs' : List Value} (p : vs.Perm vs') : ∀ {ks : List κ}, PySem.ItemsAre knd ks vs → ∃ ks', ks'.Perm ks ∧ PySem.ItemsAre knd ks' vs' := by
  induction p with
  | nil => intro ks h; exact ⟨ks, .refl _, h⟩
  | cons x _ ih =>
    intro ks h
    cases h with
    | @cons k v ks1 vs1 h1 h2 =>
      obtain ⟨ks', q, h3⟩ := ih h2
      exact ⟨k :: ks', q.cons k, .cons h1 h3⟩
  | swap x y l =>
    intro ks h
    cases h with
    | @cons k v ks1 vs1 h1 h2 =>
      cases h2 with
      | @cons k2 v2 ks2 vs2 h3 h4 => exact ⟨k2 :: k :: ks2, .swap .., .cons h3 (.cons h1 h4)⟩
  | trans _ _ ih1 ih2 =>
    intro ks h
    obtain ⟨k1, q1, h1⟩ := ih1 h
    obtain ⟨k2, q2, h2⟩ := ih2 h1
    exact ⟨k2, q2.trans q1, h2⟩
theorem items_len {vs : List Value} {ks : List κ} (h : PySem.ItemsAre knd ks vs) : ks.length = vs.length := by
  induction h with
  | nil => rfl
  | cons _ _ ih => simp [ih]
theorem items_mem {vs : List Value} {ks : List κ} (h : PySem.ItemsAre knd ks vs) (k : κ) : k ∈ ks ↔ ∃ v ∈ vs, knd.is k v = true := by
  induction h with
  | nil => simp
  | @cons k0 v ks vs h1 _ ih =>
    rw [List.mem_cons, ih]
    constructor
    · rintro (rfl | ⟨u, hu, q⟩)
      · exact ⟨v, List.mem_cons_self, h1⟩
      · exact ⟨u, List.mem_cons_of_mem _ hu, q⟩
    · rintro ⟨u, hu, q⟩
      rcases List.mem_cons.mp hu with rfl | hu
      · exact .inl (knd.inj _ _ _ q h1)
      · exact .inr ⟨u, hu, q⟩
/-- at a: the set of the keys L, its table in order -/
def Kset (knd : PySem.KeyKind P w κ) (h : Heap) (a : Addr) (L : List κ) : Prop :=
  ∃ o es ep t, h.get? a = some o ∧ o.ExactSet ∧ o.data = .set es ep t ∧ PySem.ElemsOf knd es.toList ∧ PySem.ItemsAre knd L (es.toList.map (·.2)) ∧ L.Nodup ∧ es.size < scanBound ∧ t.fits es.size = true ∧ Ris t.place.toList ∧ (w.params.followText "set-order" = true ∨ t.led = true)
theorem Kset.at {h h' : Heap} {L : List κ} (R : Kset knd h a L) (k : ∀ o, h.get? a = some o → h'.get? a = some o) : Kset knd h' a L := by
  obtain ⟨o, es, ep, t, ho, r⟩ := R
  exact ⟨o, es, ep, t, k o ho, r⟩
theorem kset_tail {g : Bool → Sem Unit} (hg : ∀ (b : Bool) (s1 : Shared) (Q : Unit → Shared → Prop), Q () s1 → wpAny (model P w) A (g b) Q E s1)
    {o : Obj} {es : Array (Int × Value)} {ep : Nat} {t : SetTable} (ho : s.heap.get? a = some o) (hx : o.ExactSet) (hd : o.data = .set es ep t)
    {es1 : Array (Int × Value)} {t2 : SetTable} {L : List κ} (el : PySem.ElemsOf knd es1.toList) (it : PySem.ItemsAre knd L (es1.toList.map (·.2))) (nd : L.Nodup)
    (hb : es1.size < scanBound) (hf : t2.fits es1.size = true) (hr : Ris t2.place.toList) (hl : w.params.followText "set-order" = true ∨ t2.led = true) {wasDummy : Bool} {R : Option Bool → Shared → Prop}
    (hR : ∀ h' L', Heap.SameBut a s.heap h' → L'.Perm L → Kset knd h' a L' → R (some true) { s with heap := h' }) :
    wpAny (model P w) A (do
        storeSet a es1 t2
        if (!wasDummy && t2.tooFull) = true then do
            g (relayAll t2 es1 (SetTable.grown es1.size)).2.2
            storeSet a (relayAll t2 es1 (SetTable.grown es1.size)).1 (relayAll t2 es1 (SetTable.grown es1.size)).2.1
            pure (some true)
          else pure (some true)) R E s := by
  refine wpAny_bind (wpAny_storeSet_of ho hd ?_ (fits_of_scanBound hb))
  have ho1 := store_at (es' := es1) (t' := t2) ho hd
  have sb1 := Heap.SameBut.update s.heap a (Obj.putSet es1 t2)
  split
  · have pm := relayAll_perm t2 es1 (SetTable.grown es1.size)
    have hf3 := relayAll_fits t2 es1 (SetTable.grown es1.size)
    have hr3 := relayAll_ris t2 es1 (SetTable.grown es1.size)
    have hl3 := relayAll_led t2 es1 (SetTable.grown es1.size)
    generalize relayAll t2 es1 (SetTable.grown es1.size) = Z at pm hf3 hr3 hl3 ⊢
    obtain ⟨es2, t3, gave⟩ := Z
    dsimp only at pm hf3 hr3 hl3 ⊢
    have sz : es2.size = es1.size := by rw [← Array.length_toList, pm.length_eq, Array.length_toList]
    have hb2 : es2.size < scanBound := by rw [sz]; exact hb
    obtain ⟨L2, q1, q2⟩ := items_perm (knd := knd) (pm.symm.map (·.2)) it
    refine wpAny_bind (hg _ _ _ ?_)
    refine wpAny_bind (wpAny_storeSet_of ho1 rfl ?_ (fits_of_scanBound hb2))
    have ho2 := store_at (es' := es2) (t' := t3) ho1 rfl
    exact wpAny_pure (hR _ L2 (sb1.trans (Heap.SameBut.update _ a _)) q1 ⟨_, es2, _, t3, ho2, hx, rfl, el.perm pm, q2, q1.nodup_iff.mpr nd, hb2, hf3, hr3, hl.imp id fun z => by rw [hl3]; exact z⟩)
  · exact wpAny_pure (hR _ L sb1 (.refl _) ⟨_, es1, _, t2, ho1, hx, rfl, el, it, nd, hb, hf, hr, hl⟩)
theorem kset_add {L : List κ} {k : κ} {x : Value} {Q : Bool → Shared → Prop} (R : Kset knd s.heap a L) (kx : knd.is k x = true) (sc : x.scannable = true) (room : L.length + 1 < scanBound)
    (hQ : ∀ b h' L', Heap.SameBut a s.heap h' → Kset knd h' a L' → (k ∈ L → L' = L) → (k ∉ L → L'.Perm (k :: L)) → Q b { s with heap := h' }) :
    wpAny (model P w) A (setAddHashed a x (knd.hash k)) Q E s := by
  obtain ⟨o, es, ep, t, ho, hx, hd, el, it, nd, hb, hf, hr, hl⟩ := R
  have hn : es.size = L.length := by rw [items_len it, List.length_map, Array.length_toList]
  unfold setAddHashed setAddHashedIn
  refine wpAny_holding (wpAny_bind (wpAny_setState_of ho hd hf ?_))
  dsimp only
  rw [byScan_of sc hb el]
  simp only [↓reduceIte]
  unfold setAddByScan
  refine wpAny_bind ?_
  refine wpAny_bind (wpAny_rule ?_)
  refine wpAny_bind (wpAny_setScan_of kx ho hd hf el ?_)
  have mem : k ∈ L ↔ ∃ e ∈ es.toList, knd.is k e.2 = true := by
    rw [items_mem it k]
    constructor
    · rintro ⟨v, hv, q⟩
      obtain ⟨e, he, rfl⟩ := List.mem_map.mp hv
      exact ⟨e, he, q⟩
    · rintro ⟨e, he, q⟩
      exact ⟨e.2, List.mem_map.mpr ⟨e, he, rfl⟩, q⟩
  cases hfi : List.findIdx? (fun e => knd.is k e.2) es.toList with
  | some j =>
    dsimp only
    obtain ⟨hj, pj, _⟩ := List.findIdx?_eq_some_iff_getElem.mp hfi
    have hk : k ∈ L := mem.2 ⟨es.toList[j], List.getElem_mem hj, pj⟩
    exact wpAny_pure (wpAny_pure (hQ false s.heap L (.refl a s.heap) ⟨o, es, ep, t, ho, hx, hd, el, it, nd, hb, hf, hr, hl⟩ (fun _ => rfl) fun z => (z hk).elim))
  | none =>
    dsimp only
    have hnk : k ∉ L := fun z => by
      obtain ⟨e, he, q⟩ := mem.1 z
      have c := List.findIdx?_eq_none_iff.mp hfi e he
      rw [q] at c
      cases c
    have hgw : ∀ (b : Bool) {s1 : Shared} {Q' : Unit → Shared → Prop}, Q' () s1 → wpAny (model P w) A (match b with | true => rule "set.scan.the-table-gave-way" | false => pure ()) Q' E s1 :=
      fun b s1 Q' q => by cases b <;> first | exact wpAny_pure q | exact wpAny_rule q
    have pm := layNew_perm t es (knd.hash k) x
    have hf1 := layNew_fits t es (knd.hash k) x
    have hr1 := layNew_ris t es (knd.hash k) x hr
    have hl1 := layNew_led t es (knd.hash k) x
    generalize layNew t es (knd.hash k) x = Z at pm hf1 hr1 hl1 ⊢
    obtain ⟨es1, t1, wasDummy, gave⟩ := Z
    dsimp only at pm hf1 hr1 hl1 ⊢
    rw [Array.toList_push] at pm
    have pc : es1.toList.Perm ((knd.hash k, x) :: es.toList) := pm.trans (List.perm_append_singleton _ _)
    obtain ⟨L1, p1, it1⟩ := items_perm (knd := knd) (pc.symm.map (·.2)) (ks := k :: L) (.cons kx it)
    have el1 : PySem.ElemsOf knd es1.toList := (el.push kx sc).perm pm
    have nd1 : L1.Nodup := p1.nodup_iff.mpr (List.nodup_cons.mpr ⟨hnk, nd⟩)
    have sz : es1.size = L.length + 1 := by rw [← Array.length_toList, pc.length_eq, List.length_cons, Array.length_toList, hn]
    have hb1 : es1.size < scanBound := by rw [sz]; exact room
    have hled : w.params.followText "set-order" = true ∨ t1.led = true := hl.imp id fun z => by rw [hl1]; exact z
    refine wpAny_bind (hgw _ ?_)
    split
    · refine wpAny_bind ?_
      rw [hashByValue_scannable 8 sc]
      refine wpAny_pure ?_
      refine kset_tail ?_ ho hx hd el1 it1 nd1 hb1 ?_ ?_ ?_ ?_
      · intro b s1 Q' q; cases b <;> first | exact wpAny_pure q | exact wpAny_rule q
      · first | (split <;> first | exact hf1 | exact SetTable.fits_plain_off hf1) | exact hf1
      · first | (split <;> exact hr1) | exact hr1
      · first | (split <;> exact hled) | exact hled
      · intro h' L' sb q r; dsimp only; exact wpAny_pure (hQ true h' L' sb r (fun z => (hnk z).elim) fun _ => q.trans p1)
    · refine wpAny_bind (wpAny_pure ?_)
      simp only [↓reduceIte]
      refine kset_tail ?_ ho hx hd el1 it1 nd1 hb1 hf1 hr1 hled ?_
      · intro b s1 Q' q; cases b <;> first | exact wpAny_pure q | exact wpAny_rule q
      · intro h' L' sb q r; dsimp only; exact wpAny_pure (hQ true h' L' sb r (fun z => (hnk z).elim) fun _ => q.trans p1)
theorem kset_new {h : Heap} {b : Bool} (hb : w.params.followText "set-order" = true ∨ b = true) (ho : h.get? a = some (set0 b)) : Kset knd h a [] :=
  ⟨_, #[], 0, _, ho, ⟨rfl, rfl, rfl⟩, rfl, (fun e he => by simp at he), .nil, List.nodup_nil, by decide, by rfl, List.Pairwise.nil, hb⟩
/-- what the set holds of the first i keys -/
structure KH (knd : PySem.KeyKind P w κ) (h : Heap) (S : Addr) (ks : List κ) (i : Nat) : Prop where
  ex : ∃ L, Kset knd h S L ∧ (∀ k, k ∈ L ↔ k ∈ ks.take i) ∧ L.length ≤ i
variable {R : Result → Shared → Prop} {I : Addr} {fp wr : List Addr} {Gn : Array GenState → Array GenState → Prop} {n : Nat} {Pv : Nat → Value → Prop} {Sv : Nat → Shared → Prop}
theorem kfill_loop (W : WalksS P w A.in1 I fp wr Gn n Pv Sv) {S : Addr} (away : S ∉ fp) {ks : List κ} (hn : n = ks.length) (few : ks.length + 1 < scanBound) (val : ∀ i v, Pv i v → ∃ k, ks[i]? = some k ∧ knd.is k v = true ∧ v.scannable = true) {h0 : Heap}
    (S0 : h0.get? S = none) (w0 : ∀ b ∈ wr, h0.get? b = none) :
    ∀ (left i : Nat) (s : Shared), n - i = left → i ≤ n → Sv i s → (∀ b o, h0.get? b = some o → s.heap.get? b = some o) → KH knd s.heap S ks i →
      (∀ s', Moved (S :: wr) Gn s s' → KH knd s'.heap S ks n → (∀ b o, h0.get? b = some o → s'.heap.get? b = some o) → R (.ok (.ret .none)) s') → codeAny (model P w) A (.builtin "set.update.loop" ⟨[.ref S, .ref I], []⟩) R s := by
  have nwr : S ∉ wr := fun z => away (W.sub _ z)
  have more : ∀ b ∈ wr, b ∈ S :: wr := fun b hb => List.mem_cons_of_mem _ hb
  have old : ∀ {u v : Shared}, Moved wr Gn u v → (∀ b o, h0.get? b = some o → u.heap.get? b = some o) → ∀ b o, h0.get? b = some o → v.heap.get? b = some o := fun m k b o e => m.heap b o (fun z => by rw [w0 b z] at e; cases e) (k b o e)
  intro left
  induction left with
  | zero =>
    intro i s hl hi st kp ⟨⟨L, F, g⟩⟩ hR
    obtain rfl : i = n := by omega
    refine codeAny_builtin PyProof.Rows.F.entry_set_update_loop ?_
    rw [Around.under_plainId PyProof.Rows.F.plain_set_update_loop _]
    show wpAny _ A.in1 (pyNext (.ref I) >>= _) _ _ s
    refine wpAny_bind (W.done s _ _ st fun s1 mv => wpAny_pure ?_)
    exact hR s1 (mv.mono more) ⟨⟨L, F.at (fun o e => mv.heap S o nwr e), g⟩⟩ (old mv kp)
  | succ left ih =>
    intro i s hl hi st kp ⟨⟨L, F, g, le⟩⟩ hR
    have lt : i < n := by omega
    refine codeAny_builtin PyProof.Rows.F.entry_set_update_loop ?_
    rw [Around.under_plainId PyProof.Rows.F.plain_set_update_loop _]
    show wpAny _ A.in1 (pyNext (.ref I) >>= _) _ _ s
    refine wpAny_bind (W.item i s _ _ lt st fun v s1 hv st1 mv => ?_)
    obtain ⟨k, hk, kx, sc⟩ := val i v hv
    have kp1 := old mv kp
    have F1 : Kset knd s1.heap S L := F.at fun o e => mv.heap S o nwr e
    show wpAny _ A.in1 (holding [v] (setAdd S v) >>= _) _ _ s1
    refine wpAny_bind (wpAny_holding ?_)
    unfold setAdd
    refine wpAny_holding (wpAny_bind (knd.pyHash (k := k) kx ?_))
    refine kset_add (s := { s1 with toks := s1.toks + 1 }) F1 kx sc (by omega) fun b h' L' sb F2 c1 c2 => ?_
    have other : ∀ b, b ∈ fp → b ≠ S := fun b hb z => away (by rw [← z]; exact hb)
    have kp2 : ∀ b o, h0.get? b = some o → h'.get? b = some o := fun b o e => (sb.2 b fun z => by rw [z, S0] at e; cases e).trans (kp1 b o e)
    have g2 : (∀ k, k ∈ L' ↔ k ∈ ks.take (i + 1)) ∧ L'.length ≤ i + 1 := by
      rw [take_snoc hk]
      by_cases c : k ∈ L
      · rw [c1 c]
        refine ⟨fun m => ?_, by omega⟩
        rw [List.mem_append, List.mem_singleton, ← g m]
        exact ⟨.inl, fun z => z.elim id fun z => by rw [z]; exact c⟩
      · have pm := c2 c
        refine ⟨fun m => ?_, by rw [pm.length_eq]; exact Nat.succ_le_succ le⟩
        rw [pm.mem_iff, List.mem_append, List.mem_singleton, List.mem_cons, ← g m]
        exact Or.comm
    refine wpAny_pure ⟨plainId_quiet PyProof.Rows.F.plain_set_update_loop _, ih (i + 1) _ (by omega) lt (W.frame _ s1 _ _ st1 (Nat.le_succ _) fun b hb o e => (sb.2 b (other b hb)).trans e) kp2 ⟨⟨L', F2, g2⟩⟩ fun s2 mv2 fh kp3 => ?_⟩
    exact hR s2 (Moved.trans W.gtrans ((mv.mono more).then_heap (Nat.le_succ _) fun b o hb e => (sb.2 b fun z => hb (by rw [z]; exact List.mem_cons_self)).trans e) mv2) fh kp3
end
end DL

/-! DL, part 40: set(xs) of plain keys. -/
namespace DL
open PySem PySem.Spec L2
open PyProof.Rows hiding St
set_option autoImplicit false

section
variable {P : Program} {w : World} {κ : Type} [DecidableEq κ] {knd : PySem.KeyKind P w κ} {A : Around} {E : Value → Shared → Prop} {s : Shared} {a : Addr}
theorem facts_k {l : Addr} {items : Array Value} {tup b : Bool} (calm : A.handled = none) (src : SrcAt s.heap l items tup) :
    l < s.heap.objs.size ∧ (s.heap.push (set0 b)).objs.size = s.heap.objs.size + 1 ∧ l ≠ (s.heap.push (set0 b)).objs.size ∧ s.heap.objs.size ∉ [(s.heap.push (set0 b)).objs.size, l] ∧ A.in1.in1.in1.handled = none ∧ ∀ b, s.heap.objs.size ≤ b → s.heap.get? b = none := by
  have old : l < s.heap.objs.size := by
    unfold SrcAt at src
    cases tup with
    | true => obtain ⟨o, ho, _⟩ := (show s.heap.IsTuple l items from src); exact Heap.lt_size ho
    | false => obtain ⟨o, ho, _⟩ := (show s.heap.IsList l items from src); exact Heap.lt_size ho
  have sz : (s.heap.push (set0 b)).objs.size = s.heap.objs.size + 1 := Heap.size_push ..
  refine ⟨old, sz, by rw [sz]; exact Nat.ne_of_lt (Nat.lt_succ_of_lt old), fun z => ?_, by simp [calm], fun b hb => ?_⟩
  · rw [sz] at z
    rcases List.mem_cons.mp z with z | z
    · exact Nat.ne_of_lt (Nat.lt_succ_self _) z
    · exact Nat.ne_of_gt old (List.mem_singleton.mp z)
  · cases e : s.heap.get? b with
    | none => rfl
    | some o => exact absurd (Heap.lt_size e) (Nat.not_lt.mpr hb)
theorem set_k {l : Addr} {items : Array Value} {tup : Bool} {ks : List κ} {Q : Value → Shared → Prop} (calm : A.handled = none) (src : SrcAt s.heap l items tup) (isz : items.size = ks.length) (few : ks.length + 1 < scanBound)
    (val : ∀ (i : Nat) (v : Value), items[i]? = some v → ∃ k, ks[i]? = some k ∧ knd.is k v = true ∧ v.scannable = true)
    (done : ∀ (h' : Heap) (tk : Nat), KH knd h' s.heap.objs.size ks ks.length → (∀ b o, s.heap.get? b = some o → h'.get? b = some o) → Q (.ref s.heap.objs.size) { s with heap := h', toks := tk }) :
    wpAny (model P w) A (call (.type "set") [.ref l]) Q E s := by
  obtain ⟨c, tl, mro⟩ := PySem.F.called_set.mro
  have made := PySem.F.called_set.made
  have subs := PySem.F.called_set.sub
  have noty := PySem.F.called_set.notType
  have canc := PySem.F.called_set.canCreate
  have tych := PySem.F.typeCall_set_1 (.ref l)
  refine wpAny_call (codeAny_of_tree ?_)
  show wpAny _ _ (callAny (.type "set") _) _ _ _
  refine wpAny_pure ⟨Code.quiet_builtin _ (by decide +kernel), codeAny_builtin PySem.F.entry_type_call (by
    rw [Around.under_plain (weight_type_call_type "set" [.ref l] []) rfl]
    repeat (any_goals (first | assumption | wp_step))
    -- set.__new__
    refine codeAny_mono (code_set_led1 (.ref l) (E := E) (Q₁ := fun obj u => obj = .ref s.heap.objs.size ∧ u = { s with heap := s.heap.push (set0 (!w.params.followText "set-order")) }) ⟨rfl, rfl⟩) fun r u hr => ?_
    match r, hr with
    | .error e, hr => exact hr
    | .ok (.next), hr => exact hr.elim
    | .ok (.brk), hr => exact hr.elim
    | .ok (.cont), hr => exact hr.elim
    | .ok (.ret obj), ⟨eo, eu⟩ =>
      subst eo; subst eu
      generalize hled : (!w.params.followText "set-order") = b
      have here : (s.heap.push (set0 b)).get? s.heap.objs.size = some (set0 b) := Heap.get?_push_size _ rfl
      have isset : Shared.TypeIs { s with heap := s.heap.push (set0 b) } (.ref s.heap.objs.size) "set" := ⟨_, here, rfl⟩
      have ilook := PySem.F.called_set.init.lookup
      have ibind := PySem.F.called_set.init.bind (.ref s.heap.objs.size)
      repeat (any_goals (first | assumption | wp_step))
      -- set.__init__
      refine codeAny_mono (codeAny_call_builtin (R := wants (fun r u => r = .none ∧ ∃ h' tk, u = { s with heap := h', toks := tk } ∧ KH knd h' s.heap.objs.size ks ks.length ∧ (∀ b o, s.heap.get? b = some o → h'.get? b = some o)) E)
        PySem.F.called_set.init.plain PySem.F.entry_set_init (check_set_init_1 isset ?_)) fun r2 u2 hr2 => ?_
      · cases tup with
        | true =>
          have srcT : s.heap.IsTuple l items := src
          obtain ⟨⟨oc, od, oda, osl⟩, ho, hc, nl, hd⟩ := id srcT
          simp only at hc hd
          subst hc; subst hd
          have ho' : (s.heap.push (set0 b)).get? l = some { cls := .type "tuple", dict := od, data := .seq items nl, slots := osl } := Heap.get?_push_of_some _ ho
          have s1 := PySem.F.sub_tuple_set
          have s2 := PySem.F.sub_tuple_frozenset
          have s3 : (Value.type "tuple" == Value.type "dict") = false := by decide
          have src1 : (s.heap.push (set0 b)).IsTuple l items := ⟨_, ho', rfl, nl, rfl⟩
          unfold Builtin.«set.__init__» noKeywords Builtin.Frozenset.updateFrom
          have pack := And.intro few (And.intro val (And.intro isz (And.intro hled (And.intro calm (And.intro src (And.intro srcT here))))))
          clear few val isz hled done calm src srcT mro made subs noty canc tych isset ilook ibind here
          generalize hPI : pyIter = PI
          wp_walk
          subst hPI
          obtain ⟨few, val, isz, hled, calm, src, srcT, here⟩ := pack
          obtain ⟨old, sz, ne1, away, calm3, above⟩ := facts_k (b := b) calm src
          refine wpAny_pyIter_tuple src1 (wpAny_bind (wpAny_runValue ?_))
          refine kfill_loop (knd := knd) (ks := ks) ((Walks.tuple calm3 _ l ne1 items).toS) away isz few val (h0 := s.heap) ?_ ?_ (items.size - 0) 0 _ (by omega) (Nat.zero_le _) ⟨⟨_, Heap.get?_push_size _ rfl, rfl, rfl⟩, src1.push _⟩ ?_ ?start ?fin
          · exact above _ (Nat.le_refl _)
          · intro b hb
            rw [List.mem_singleton.mp hb, sz]
            exact above _ (Nat.le_succ _)
          · exact fun b o e => Heap.get?_push_of_some _ (Heap.get?_push_of_some _ e)
          case start => exact ⟨⟨[], kset_new (led_or hled) (Heap.get?_push_of_some _ here), fun k => (by simp), Nat.le_refl _⟩⟩
          case fin =>
            intro u mv fh kp
            obtain ⟨h', g', d', tk', os'⟩ := u
            obtain rfl : g' = s.gens := mv.gens
            obtain rfl : d' = s.drawn := mv.drawn
            obtain rfl : os' = s.os := mv.os
            show wpAny _ _ _ _ _ _
            refine wpAny_pure ?_
            show wpAny _ _ (ret Value.none) _ _ _
            exact wpAny_pure ⟨rfl, h', tk', rfl, by rw [isz] at fh; exact fh, kp⟩
        | false =>
          have srcT : s.heap.IsList l items := src
          obtain ⟨⟨oc, od, oda, osl⟩, ho, hc, nl, hd⟩ := id srcT
          simp only at hc hd
          subst hc; subst hd
          have ho' : (s.heap.push (set0 b)).get? l = some { cls := .type "list", dict := od, data := .seq items nl, slots := osl } := Heap.get?_push_of_some _ ho
          have s1 := PySem.F.sub_list_set
          have s2 := PySem.F.sub_list_frozenset
          have s3 : (Value.type "list" == Value.type "dict") = false := by decide
          have src1 : (s.heap.push (set0 b)).IsList l items := ⟨_, ho', rfl, nl, rfl⟩
          unfold Builtin.«set.__init__» noKeywords Builtin.Frozenset.updateFrom
          have pack := And.intro few (And.intro val (And.intro isz (And.intro hled (And.intro calm (And.intro src (And.intro srcT here))))))
          clear few val isz hled done calm src srcT mro made subs noty canc tych isset ilook ibind here
          generalize hPI : pyIter = PI
          wp_walk
          subst hPI
          obtain ⟨few, val, isz, hled, calm, src, srcT, here⟩ := pack
          obtain ⟨old, sz, ne1, away, calm3, above⟩ := facts_k (b := b) calm src
          refine wpAny_pyIter_list src1 (wpAny_bind (wpAny_runValue ?_))
          refine kfill_loop (knd := knd) (ks := ks) ((Walks.list calm3 _ l ne1 items).toS) away isz few val (h0 := s.heap) ?_ ?_ (items.size - 0) 0 _ (by omega) (Nat.zero_le _) ⟨⟨_, Heap.get?_push_size _ rfl, rfl, rfl⟩, src1.push _⟩ ?_ ?start ?fin
          · exact above _ (Nat.le_refl _)
          · intro b hb
            rw [List.mem_singleton.mp hb, sz]
            exact above _ (Nat.le_succ _)
          · exact fun b o e => Heap.get?_push_of_some _ (Heap.get?_push_of_some _ e)
          case start => exact ⟨⟨[], kset_new (led_or hled) (Heap.get?_push_of_some _ here), fun k => (by simp), Nat.le_refl _⟩⟩
          case fin =>
            intro u mv fh kp
            obtain ⟨h', g', d', tk', os'⟩ := u
            obtain rfl : g' = s.gens := mv.gens
            obtain rfl : d' = s.drawn := mv.drawn
            obtain rfl : os' = s.os := mv.os
            show wpAny _ _ _ _ _ _
            refine wpAny_pure ?_
            show wpAny _ _ (ret Value.none) _ _ _
            exact wpAny_pure ⟨rfl, h', tk', rfl, by rw [isz] at fh; exact fh, kp⟩
      · match r2, hr2 with
        | .error e, hr2 => exact hr2
        | .ok (.next), hr2 => exact hr2.elim
        | .ok (.brk), hr2 => exact hr2.elim
        | .ok (.cont), hr2 => exact hr2.elim
        | .ok (.ret x), ⟨ex, h', tk, eu, hS, hk⟩ =>
          subst ex; subst eu
          repeat (any_goals (first | assumption | wp_step))
          exact done _ _ hS hk)⟩
end
end DL

/-! DL, part 41: sorted(set(xs)) of texts and of ints. -/
namespace DL
open PySem PySem.Spec L2
open PyProof.Rows hiding St
set_option autoImplicit false

/-- the different ones -/
def ddup {κ : Type} [DecidableEq κ] : List κ → List κ
  | [] => []
  | k :: ks => if k ∈ ks then ddup ks else k :: ddup ks
theorem ddup_mem {κ : Type} [DecidableEq κ] (k : κ) : ∀ ks : List κ, k ∈ ddup ks ↔ k ∈ ks
  | [] => Iff.rfl
  | x :: ks => by
    unfold ddup
    split
    · rename_i h
      rw [ddup_mem k ks, List.mem_cons]
      exact ⟨.inr, fun z => z.elim (fun e => by rw [e]; exact h) id⟩
    · rw [List.mem_cons, List.mem_cons, ddup_mem k ks]
theorem ddup_nodup {κ : Type} [DecidableEq κ] : ∀ ks : List κ, (ddup ks).Nodup
  | [] => List.nodup_nil
  | x :: ks => by
    unfold ddup
    split
    · exact ddup_nodup ks
    · rename_i h
      exact List.nodup_cons.mpr ⟨fun z => h ((ddup_mem x ks).1 z), ddup_nodup ks⟩
theorem ddup_le {κ : Type} [DecidableEq κ] : ∀ ks : List κ, (ddup ks).length ≤ ks.length
  | [] => Nat.le_refl _
  | x :: ks => by
    unfold ddup
    have := ddup_le ks
    split <;> simp <;> omega
section
variable {P : Program} {w : World} {A : Around} {E : Value → Shared → Prop} {s : Shared} {a : Addr}
theorem strs_items {ks : List Str} {vs : List Value} (h : PySem.ItemsAre (PySem.strKind P w) ks vs) : StrsAre vs ks := by
  induction h with
  | nil => exact .nil
  | @cons k v ks vs h1 _ ih =>
    obtain ⟨t, rfl⟩ := Value.isStrOf_shape h1
    exact .cons k t ih
theorem sorted_ks {L : List Str} {Q : Value → Shared → Prop} (R : Kset (PySem.strKind P w) s.heap a L) (hh : A.handled = none) (h64 : L.length < 64)
    (hQ : ∀ s' p (out : Array Value) (c : Nat) (ys : List Str), (∀ b o, s.heap.get? b = some o → s'.heap.get? b = some o) → s'.gens = s.gens → s'.os = s.os → s.heap.objs.size ≤ p →
      s'.heap.get? p = some (seqObj "list" out c) → StrsAre out.toList ys → ys.Perm L → sortedS ys = true → Q (.ref p) s') :
    wpAny (model P w) A (call (.builtin "sorted") [.ref a]) Q E s := by
  obtain ⟨o, es, ep, t, ho, hex, hd, el, it, nd, hb, hf, hr, hl⟩ := R
  refine Calls.call_function_entry kind_sorted plain_sorted entry_sorted (args_sorted1 _) ?_
  unfold Builtin.«sorted»
  refine wpAny_bind (m := checkCount "sorted" 1 1 _) (wpAny_pure ?_)
  refine wpAny_bind (collect_set (A := A.in1) hh ⟨o, ho, hex.1, hd⟩ hf hb hr hl fun s1 vs k1 hz g1 o1 pm => ?_)
  obtain ⟨L1, q1, it1⟩ := items_perm (knd := PySem.strKind P w) pm.symm it
  have hS := strs_items it1
  have hvl : vs.length < 64 := by rw [← items_len it1, q1.length_eq]; exact h64
  refine wpAny_bind (wpAny_newList ?_ (by rw [sizeLine_eq]; omega))
  have hoL : (s1.heap.push (seqObj "list" vs.toArray 0)).get? s1.heap.objs.size = some (seqObj "list" vs.toArray 0) := Heap.get?_push_size _ rfl
  refine wpAny_bind (wpAny_holding (wpAny_call_entry slot_list_sort ⟨_, hoL, rfl⟩ entry_list_sort (list_sort_treeK strKind_oneLt hoL hS.keysOf (fun v1 v2 rest e => keyKind_strs (by rw [← e]; exact hS)) hvl fun st' hp hs => ⟨_, rfl, ?_⟩) (args_list_sort _)))
  obtain ⟨ys, a1, a2, a3⟩ := sorted_out_str hS hp hs
  obtain ⟨c, hc⟩ := sortedHeap_at (vs := vs) (out := (arrOf st').map (·.2)) hoL
  refine wpAny_pure ⟨_, rfl, hQ _ s1.heap.objs.size _ c ys (fun b u e => ?_) g1 o1 hz hc a1 (a2.trans q1) a3⟩
  have q := k1 b u e
  have hlt := Heap.lt_size q
  show (sortedHeap (s1.heap.push (seqObj "list" vs.toArray 0)) s1.heap.objs.size vs _).get? b = some u
  rw [sortedHeap_old (Nat.ne_of_lt hlt) (by rw [size_push']; exact Nat.lt_succ_of_lt hlt)]
  exact Heap.get?_push_of_some _ q
theorem sorted_kz {L : List Int} {Q : Value → Shared → Prop} (R : Kset (intKind P w) s.heap a L) (hh : A.handled = none) (h64 : L.length < 64)
    (hQ : ∀ s' p (out : Array Value) (c : Nat) (ys : List Int), (∀ b o, s.heap.get? b = some o → s'.heap.get? b = some o) → s'.gens = s.gens → s'.os = s.os → s.heap.objs.size ≤ p →
      s'.heap.get? p = some (seqObj "list" out c) → IntsAre out.toList ys → ys.Perm L → ys.Pairwise (· ≤ ·) → Q (.ref p) s') :
    wpAny (model P w) A (call (.builtin "sorted") [.ref a]) Q E s := by
  obtain ⟨o, es, ep, t, ho, hex, hd, el, it, nd, hb, hf, hr, hl⟩ := R
  refine Calls.call_function_entry kind_sorted plain_sorted entry_sorted (args_sorted1 _) ?_
  unfold Builtin.«sorted»
  refine wpAny_bind (m := checkCount "sorted" 1 1 _) (wpAny_pure ?_)
  refine wpAny_bind (collect_set (A := A.in1) hh ⟨o, ho, hex.1, hd⟩ hf hb hr hl fun s1 vs k1 hz g1 o1 pm => ?_)
  obtain ⟨L1, q1, it1⟩ := items_perm (knd := intKind P w) pm.symm it
  have hI := ints_of_items it1
  have hvl : vs.length < 64 := by rw [← items_len it1, q1.length_eq]; exact h64
  refine wpAny_bind (wpAny_newList ?_ (by rw [sizeLine_eq]; omega))
  have hoL : (s1.heap.push (seqObj "list" vs.toArray 0)).get? s1.heap.objs.size = some (seqObj "list" vs.toArray 0) := Heap.get?_push_size _ rfl
  refine wpAny_bind (wpAny_holding (wpAny_call_entry slot_list_sort ⟨_, hoL, rfl⟩ entry_list_sort (list_sort_tree hoL hI hvl fun out ns' a1 a2 a3 => ⟨_, rfl, ?_⟩) (args_list_sort _)))
  obtain ⟨c, hc⟩ := sortedHeap_at (vs := vs) (out := out) hoL
  refine wpAny_pure ⟨_, rfl, hQ _ s1.heap.objs.size out c ns' (fun b u e => ?_) g1 o1 hz hc a1 (a2.trans q1) a3⟩
  have q := k1 b u e
  have hlt := Heap.lt_size q
  show (sortedHeap (s1.heap.push (seqObj "list" vs.toArray 0)) s1.heap.objs.size vs out).get? b = some u
  rw [sortedHeap_old (Nat.ne_of_lt hlt) (by rw [size_push']; exact Nat.lt_succ_of_lt hlt)]
  exact Heap.get?_push_of_some _ q
end
end DL

/-! DL, part 42: sorted(set(xs)), over the layer. -/
namespace DL
open PySem PySem.Spec L2
open PyProof.Rows hiding St
set_option autoImplicit false

def insI (x : Int) : List Int → List Int
  | [] => [x]
  | y :: r => if x ≤ y then x :: y :: r else y :: insI x r
def sortI : List Int → List Int
  | [] => []
  | x :: r => insI x (sortI r)
theorem insI_perm (x : Int) : ∀ l : List Int, (insI x l).Perm (x :: l)
  | [] => .refl _
  | y :: r => by
    unfold insI
    split
    · exact .refl _
    · exact ((insI_perm x r).cons y).trans (.swap _ _ _)
theorem sortI_perm : ∀ l : List Int, (sortI l).Perm l
  | [] => .refl _
  | x :: r => (insI_perm x (sortI r)).trans ((sortI_perm r).cons x)
theorem insI_pw (x : Int) : ∀ l : List Int, l.Pairwise (· ≤ ·) → (insI x l).Pairwise (· ≤ ·)
  | [], _ => by unfold insI; exact .cons (fun _ h => by cases h) .nil
  | y :: r, h => by
    have h' := List.pairwise_cons.mp h
    unfold insI
    split
    · rename_i e
      refine .cons (fun z hz => ?_) h
      rcases List.mem_cons.mp hz with rfl | hz
      · exact e
      · exact Int.le_trans e (h'.1 z hz)
    · rename_i e
      refine .cons (fun z hz => ?_) (insI_pw x r h'.2)
      rcases List.mem_cons.mp ((insI_perm x r).mem_iff.mp hz) with rfl | hz
      · omega
      · exact h'.1 z hz
theorem sortI_pw : ∀ l : List Int, (sortI l).Pairwise (· ≤ ·)
  | [] => .nil
  | x :: r => insI_pw x _ (sortI_pw r)
theorem sortedI_one {ys xs : List Int} (p : ys.Perm xs) (s : ys.Pairwise (· ≤ ·)) : ys = sortI xs :=
  List.Perm.eq_of_pairwise (fun a b _ _ h1 h2 => Int.le_antisymm h1 h2) s (sortI_pw xs) (p.trans (sortI_perm xs).symm)

/-- at a: the set of the keys ks -/
def KsO {κ : Type} [DecidableEq κ] {P : Program} {w : World} (knd : PySem.KeyKind P w κ) (a : Addr) (ks : List κ) : HO := .ext fun h => ∃ L, Kset knd h a L ∧ L.Perm (ddup ks)
theorem ksO_ok {κ : Type} [DecidableEq κ] {P : Program} {w : World} {knd : PySem.KeyKind P w κ} {H : Hp} {h : Heap} {a : Addr} {ks : List κ} (R : KH knd h a ks ks.length) : ObjOk P w H h a (KsO knd a ks) := by
  obtain ⟨⟨L, K, g, _⟩⟩ := R
  have hp : L.Perm (ddup ks) := by
    obtain ⟨o, es, ep, t, ho, hx, hd, el, it, nd, r⟩ := id K
    refine (List.perm_ext_iff_of_nodup nd (ddup_nodup ks)).mpr fun k => ?_
    rw [g k, List.take_length, ddup_mem]
  have ⟨o, es, ep, t, ho, r⟩ := K
  exact ⟨⟨L, K, hp⟩, ⟨o, ho⟩, fun h1 h2 ⟨L1, K1, p1⟩ kp => ⟨L1, K1.at fun o e => kp o e, p1⟩⟩
def rSetK {κ : Type} [DecidableEq κ] (K : PySem.W.Frag) {P : Program} {w : World} (knd : PySem.KeyKind P w κ) (up : κ → V) : List V → Hp → VK → Prop := fun xs H Q => ∃ (l : Addr) (ks : List κ), xs = [V.ref l] ∧ (SqL K H l (ks.map up) ∨ SqT K H l (ks.map up)) ∧ ks.length < 64 ∧ ∀ a, H a = none → Q (.ref a) (upd H a (KsO knd a ks))
theorem cr_setK {κ : Type} [DecidableEq κ] {X : Cx} {knd : PySem.KeyKind X.prog X.w κ} {up : κ → V} (is : ∀ {vs : List Value} {ks : List κ}, Vals (ks.map up) vs → vs.length = ks.length ∧ ∀ (i : Nat) v, vs[i]? = some v → ∃ k, ks[i]? = some k ∧ knd.is k v = true ∧ v.scannable = true) (hc : X.calm = true) : CallR X (.type "set") (rSetK X.K knd up) := by
  intro pins s σ H xs us Q I r ⟨l, ks, ex, hq, few, q⟩
  subst ex
  cases r with
  | cons r0 rr =>
    cases rr
    cases r0
    obtain ⟨its, tup, rv, src⟩ : ∃ (its : List Value) (tup : Bool), Vals (ks.map up) its ∧ SrcAt s.heap l its.toArray tup := by
      rcases hq with hq | hq
      · obtain ⟨its, rv, p, hz⟩ := I.list hq
        exact ⟨its, false, rv, p.isList⟩
      · obtain ⟨its, rv, p, hz⟩ := I.tuple hq
        exact ⟨its, true, rv, p⟩
    obtain ⟨len, val⟩ := is rv
    refine set_k (knd := knd) (ks := ks) (I.ok.hd hc) src (by simpa using len) (by unfold scanBound; omega) (fun i v hv => val i v (by simpa using hv)) fun h' tk K hk => ?_
    exact ⟨.ref _, upd H s.heap.objs.size (KsO knd s.heap.objs.size ks), I.laid (t' := tk) (fun b u e => hk b u e) (Nat.le_refl _) (ksO_ok K), rfl, q _ (I.hok.fresh (Nat.le_refl _))⟩
theorem strs_each : ∀ {us : List Value} {xs : List Str}, StrsAre us xs → us.length = xs.length ∧ ∀ (i : Nat) v, us[i]? = some v → ∃ k t, xs[i]? = some k ∧ v = .str k t
  | _, _, .nil => ⟨rfl, fun i v h => by simp at h⟩
  | _, _, .cons y t r => by
    obtain ⟨h1, h2⟩ := strs_each r
    refine ⟨by simp [h1], fun i v h => ?_⟩
    cases i with
    | zero => exact ⟨y, t, rfl, by simpa using h.symm⟩
    | succ i => obtain ⟨k, u, e1, e2⟩ := h2 i v (by simpa using h); exact ⟨k, u, by simpa using e1, e2⟩
theorem ints_each : ∀ {us : List Value} {xs : List Int}, IntsAre us xs → us.length = xs.length ∧ ∀ (i : Nat) v, us[i]? = some v → ∃ k t, xs[i]? = some k ∧ v = .int k t
  | _, _, .nil => ⟨rfl, fun i v h => by simp at h⟩
  | _, _, .cons y t r => by
    obtain ⟨h1, h2⟩ := ints_each r
    refine ⟨by simp [h1], fun i v h => ?_⟩
    cases i with
    | zero => exact ⟨y, t, rfl, by simpa using h.symm⟩
    | succ i => obtain ⟨k, u, e1, e2⟩ := h2 i v (by simpa using h); exact ⟨k, u, by simpa using e1, e2⟩
theorem cr_setKS {X : Cx} (hc : X.calm = true) : CallR X (.type "set") (rSetK X.K (PySem.strKind X.prog X.w) V.str) :=
  cr_setK (fun {vs ks} rv => by
    obtain ⟨h1, h2⟩ := strs_each rv.strs
    refine ⟨h1, fun i v h => ?_⟩
    obtain ⟨k, t, e1, e2⟩ := h2 i v h
    subst e2
    exact ⟨k, e1, strKind_is _ _ _ _, rfl⟩) hc
theorem cr_setKI {X : Cx} (hc : X.calm = true) : CallR X (.type "set") (rSetK X.K (intKind X.prog X.w) V.int) :=
  cr_setK (fun {vs ks} rv => by
    obtain ⟨h1, h2⟩ := ints_each rv.ints
    refine ⟨h1, fun i v h => ?_⟩
    obtain ⟨k, t, e1, e2⟩ := h2 i v h
    subst e2
    exact ⟨k, e1, intKind_is _ _ _ _, rfl⟩) hc
def rSortK {κ : Type} [DecidableEq κ] {P : Program} {w : World} (knd : PySem.KeyKind P w κ) (up : κ → V) (srt : List κ → List κ) : List V → Hp → VK → Prop := fun xs H Q => ∃ (a : Addr) (ks : List κ), xs = [V.ref a] ∧ H a = some (KsO knd a ks) ∧ ks.length < 64 ∧ ∀ p, H p = none → Q (.ref p) (upd H p (.lst ((srt (ddup ks)).map up)))
theorem cr_sortKS {X : Cx} (hc : X.calm = true) : CallR X (.builtin "sorted") (rSortK (PySem.strKind X.prog X.w) V.str sortS) := by
  intro pins s σ H vs us Q I r ⟨a, ks, ev, ha, few, q⟩
  subst ev
  obtain ⟨L, K, hp⟩ := (I.hok a _ ha).1
  rw [Vals.ref1 r]
  have hL : L.length ≤ ks.length := by rw [hp.length_eq]; exact ddup_le ks
  refine sorted_ks K (I.ok.hd hc) (by omega) fun s' p out c ys k g o hpz hg hi hpm hs => ?_
  have ey : ys = sortS (ddup ks) := sorted_one (hpm.trans hp) hs
  have hlen : (ys.map V.str).length ≤ sizeLine := by rw [List.length_map, hpm.length_eq, sizeLine_eq]; omega
  have hn : H p = none := I.hok.fresh hpz
  have J : Inv X pins σ (upd H p (.lst (ys.map V.str))) { s with heap := s'.heap, gens := s'.gens, drawn := s'.drawn, toks := s'.toks } :=
    I.call (ch := []) (Un.laid k hpz hn) (I.hok.laid k hpz ⟨hlen, out.toList, c, vals_of_strs hi, hg⟩) (by rw [g]; exact I.bare) (fun _ z => nomatch z)
  have e : s' = { s with heap := s'.heap, gens := s'.gens, drawn := s'.drawn, toks := s'.toks } := by
    cases s'
    cases s
    cases o
    rfl
  rw [e]
  rw [ey] at J
  exact ⟨.ref p, _, J, rfl, q p hn⟩
theorem cr_sortKI {X : Cx} (hc : X.calm = true) : CallR X (.builtin "sorted") (rSortK (intKind X.prog X.w) V.int sortI) := by
  intro pins s σ H vs us Q I r ⟨a, ks, ev, ha, few, q⟩
  subst ev
  obtain ⟨L, K, hp⟩ := (I.hok a _ ha).1
  rw [Vals.ref1 r]
  have hL : L.length ≤ ks.length := by rw [hp.length_eq]; exact ddup_le ks
  refine sorted_kz K (I.ok.hd hc) (by omega) fun s' p out c ys k g o hpz hg hi hpm hs => ?_
  have ey : ys = sortI (ddup ks) := sortedI_one (hpm.trans hp) hs
  have hlen : (ys.map V.int).length ≤ sizeLine := by rw [List.length_map, hpm.length_eq, sizeLine_eq]; omega
  have hn : H p = none := I.hok.fresh hpz
  have J : Inv X pins σ (upd H p (.lst (ys.map V.int))) { s with heap := s'.heap, gens := s'.gens, drawn := s'.drawn, toks := s'.toks } :=
    I.call (ch := []) (Un.laid k hpz hn) (I.hok.laid k hpz ⟨hlen, out.toList, c, vals_of_ints hi, hg⟩) (by rw [g]; exact I.bare) (fun _ z => nomatch z)
  have e : s' = { s with heap := s'.heap, gens := s'.gens, drawn := s'.drawn, toks := s'.toks } := by
    cases s'
    cases s
    cases o
    rfl
  rw [e]
  rw [ey] at J
  exact ⟨.ref p, _, J, rfl, q p hn⟩
/-- sorted(set(xs)) of texts; of ints -/
def sortSetS : D → Option Z := fun x => (seqD x).bind fun ds => (strsD ds).bind fun ks => if ks.length < 64 then some (.lst ((sortS (ddup ks)).map .str)) else none
def sortSetI : D → Option Z := fun x => (seqD x).bind fun ds => (intL ds).bind fun ks => if ks.length < 64 then some (.lst ((sortI (ddup ks)).map .int)) else none
theorem dn_intsL {K : Kx} {P : Hp} : ∀ ss : List Int, DnA K P (ss.map V.int) (ss.map D.int)
  | [] => .nil
  | s :: r => .cons (.int s) (dn_intsL r)
section
variable {X : Cx} {E : We} {a : Expr} {f : Fe} {p p2 pos pos2 : Pos}
theorem de_sortSetS (hc : X.calm = true) (hg : Gl X "sorted") (hm : X.mg "sorted" = none) (hg2 : Gl X "set") (hm2 : X.mg "set" = none) (ha : DE X E a f)
    (he : starEach [a] X.env = (false, eval a X.env) :: starEach [] X.env := by rfl) (he2 : starEach [.Call (.Name "set" p2) [a] [] pos2] X.env = (false, eval (.Call (.Name "set" p2) [a] [] pos2) X.env) :: starEach [] X.env := by rfl) :
    DE X E (.Call (.Name "sorted" p) [.Call (.Name "set" p2) [a] [] pos2] [] pos) (fUn sortSetS f) := by
  refine pe_imp (pe_callB (cr_sortKS hc) hg hm bt_sorted (pa_cons (pe_callTy (cr_setKS hc) hg2 hm2 bt_set (pa_cons ha pa_nil he) (by decide) (by decide) he) pa_nil he2) (by decide) (by decide) he2)
    fun σ H Q ⟨P, es, ok, h⟩ => tD_mono (tD_bind (GoE.refl ok) h) fun v H1 ⟨ra, es1, P1, g1, _, rel1, q1⟩ => ?_
  obtain ⟨r, es2, e1, q2⟩ := Post.of q1
  unfold ap1 at e1
  obtain ⟨d, e2, e3⟩ := Option.bind_eq_some_iff.mp e1
  obtain ⟨z, e4, e5⟩ := Option.map_eq_some_iff.mp e3
  cases e5
  unfold sortSetS at e4
  obtain ⟨ds, e6, e7⟩ := Option.bind_eq_some_iff.mp e4
  obtain ⟨ks, k1, k2⟩ := Option.bind_eq_some_iff.mp e7
  split at k2
  · rename_i hl
    cases k2
    obtain ⟨b, xs, ev, h1, _, h3⟩ := bw_seq g1.ok.sub (rel1.bw g1.ok e2) e6
    subst ev
    rw [strsD_ok h3 k1] at h1
    refine ⟨b, ks, rfl, h1, hl, fun c hcn => ⟨c, ks, rfl, upd_same, hl, fun p hp => ?_⟩⟩
    have g2 := g1.alloc (o := KsO (PySem.strKind X.prog X.w) c ks) hcn
    have g3 := g2.alloc (o := .lst ((sortS (ddup ks)).map V.str)) hp
    have h0 : H p = none := g2.st.free hp
    have hP1 : P1 p = none := by
      cases e : P1 p with
      | none => rfl
      | some u => rw [g2.ok.sub _ _ e] at hp; cases hp
    have nO : ¬ Own σ es1 p := fun ⟨i, d, k1, k2⟩ => by
      obtain ⟨a, q3, q4⟩ := g2.ok.ow i d k1
      rw [k2] at q3; cases q3
      obtain ⟨u, hu⟩ := q4.tracked
      rw [hp] at hu; cases hu
    refine q2 (.ref p) P1 _ g3 ⟨p, rfl, ⟨hP1, _, upd_same, ?_, dn_strs _⟩, nO, h0⟩
    rw [List.length_map, (sortS_perm _).length_eq, sizeLine_eq]
    have := ddup_le ks
    omega
  · cases k2
theorem de_sortSetI (hc : X.calm = true) (hg : Gl X "sorted") (hm : X.mg "sorted" = none) (hg2 : Gl X "set") (hm2 : X.mg "set" = none) (ha : DE X E a f)
    (he : starEach [a] X.env = (false, eval a X.env) :: starEach [] X.env := by rfl) (he2 : starEach [.Call (.Name "set" p2) [a] [] pos2] X.env = (false, eval (.Call (.Name "set" p2) [a] [] pos2) X.env) :: starEach [] X.env := by rfl) :
    DE X E (.Call (.Name "sorted" p) [.Call (.Name "set" p2) [a] [] pos2] [] pos) (fUn sortSetI f) := by
  refine pe_imp (pe_callB (cr_sortKI hc) hg hm bt_sorted (pa_cons (pe_callTy (cr_setKI hc) hg2 hm2 bt_set (pa_cons ha pa_nil he) (by decide) (by decide) he) pa_nil he2) (by decide) (by decide) he2)
    fun σ H Q ⟨P, es, ok, h⟩ => tD_mono (tD_bind (GoE.refl ok) h) fun v H1 ⟨ra, es1, P1, g1, _, rel1, q1⟩ => ?_
  obtain ⟨r, es2, e1, q2⟩ := Post.of q1
  unfold ap1 at e1
  obtain ⟨d, e2, e3⟩ := Option.bind_eq_some_iff.mp e1
  obtain ⟨z, e4, e5⟩ := Option.map_eq_some_iff.mp e3
  cases e5
  unfold sortSetI at e4
  obtain ⟨ds, e6, e7⟩ := Option.bind_eq_some_iff.mp e4
  obtain ⟨ks, k1, k2⟩ := Option.bind_eq_some_iff.mp e7
  split at k2
  · rename_i hl
    cases k2
    obtain ⟨b, xs, ev, h1, _, h3⟩ := bw_seq g1.ok.sub (rel1.bw g1.ok e2) e6
    subst ev
    rw [intL_ok h3 k1] at h1
    refine ⟨b, ks, rfl, h1, hl, fun c hcn => ⟨c, ks, rfl, upd_same, hl, fun p hp => ?_⟩⟩
    have g2 := g1.alloc (o := KsO (intKind X.prog X.w) c ks) hcn
    have g3 := g2.alloc (o := .lst ((sortI (ddup ks)).map V.int)) hp
    have h0 : H p = none := g2.st.free hp
    have hP1 : P1 p = none := by
      cases e : P1 p with
      | none => rfl
      | some u => rw [g2.ok.sub _ _ e] at hp; cases hp
    have nO : ¬ Own σ es1 p := fun ⟨i, d, k1, k2⟩ => by
      obtain ⟨a, q3, q4⟩ := g2.ok.ow i d k1
      rw [k2] at q3; cases q3
      obtain ⟨u, hu⟩ := q4.tracked
      rw [hp] at hu; cases hu
    refine q2 (.ref p) P1 _ g3 ⟨p, rfl, ⟨hP1, _, upd_same, ?_, dn_intsL _⟩, nO, h0⟩
    rw [List.length_map, (sortI_perm _).length_eq, sizeLine_eq]
    have := ddup_le ks
    omega
  · cases k2
end
end DL

/-! DL, part 43: tuples that are known to bear no dict, and tuple.index on them. -/
namespace DL
open PySem PySem.Spec L2
open PyProof.Rows hiding St
set_option autoImplicit false

/-- .. and as any other tuple -/
def nrmR : R → R
  | .sh (.pt ds) => .sh (.tup ds)
  | r => r
def fNrm (f : Fe) : Fe := fun es => (f es).bind fun p => .ok (nrmR p.1, p.2)
theorem de_nrm {X : Cx} {E : We} {a : Expr} {f : Fe} (h : DE X E a f) : DE X E a (fNrm f) := by
  refine pe_imp h fun σ H Q ⟨P, es, ok, h⟩ => tD_mono (tD_bind (GoE.refl ok) h) fun v H1 ⟨ra, es1, P1, g1, _, rel1, q1⟩ => ?_
  refine Post.ok q1 g1 ?_
  simp only
  unfold nrmR
  split
  · rename_i ds
    cases rel1 with
    | pt h z t p => exact .tup h z t
  · exact rel1
section
variable {X : Cx} {es : List Expr} {t : TA} {pos : Pos}
/-- a display; tuple(xs) of a list -/
def tTupP (t : TA) : TE := fun σ H Q => t σ H fun xs H1 => xs.length ≤ sizeLine ∧ ∀ p o, o.dict = none → H1 p = none → Q (.ref p) (upd H1 p (.frz o (.tup xs)))
theorem pe_tupP {x1} (h : PA X es t) : PE X (.Tuple es x1 pos) (tTupP t) :=
  ⟨fun pins s σ H Q I hq => wpAny_Tuple_spliced (thn (h.run pos pins s σ H _ I hq) fun us s1 ⟨xs, H1, I1, r, z, q⟩ =>
    ⟨by rw [← r.length]; exact z, .ref s1.heap.objs.size, _, I1.laid (t' := s1.toks) (o := .frz { cls := .type "tuple", data := .seq us.toArray } (.tup xs)) (fun b u e => Heap.get?_push_of_some _ e) (Nat.le_refl _)
      ⟨Heap.get?_push_size _ rfl, z, us, r, ⟨_, Heap.get?_push_size _ rfl, rfl, _, rfl⟩⟩, rfl, q _ _ rfl (I1.hok.fresh (Nat.le_refl _))⟩)⟩
def rTupP (K : PySem.W.Frag) : List V → Hp → VK → Prop := fun xs H Q => ∃ p ys, xs = [V.ref p] ∧ SqL K H p ys ∧ ∀ l o, o.dict = none → H l = none → Q (.ref l) (upd H l (.frz o (.tup ys)))
theorem cr_tupP : CallR X (.type "tuple") (rTupP X.K) := by
  intro pins s σ H xs us Q I r ⟨p, ys, ex, hq, q⟩
  subst ex
  obtain ⟨u, rfl, rx⟩ := vals1 r
  cases rx
  obtain ⟨its, rv, pl, hz⟩ := I.list hq
  have hl := rv.length
  refine call_tuple_list pl.isList (fun h' kp => ?_) (by simp only [List.size_toArray] <;> omega)
  have J : Inv X pins σ H { s with heap := h' } := I.kept (t' := s.toks) kp
  exact ⟨.ref h'.objs.size, _, J.laid (t' := s.toks) (o := .frz { cls := .type "tuple", data := .seq its.toArray } (.tup ys)) (fun b o e => Heap.get?_push_of_some _ e) (Nat.le_refl _)
    ⟨Heap.get?_push_size _ rfl, hz, its, rv, IsTup.new _ _⟩, rfl, q _ _ rfl (J.hok.fresh (Nat.le_refl _))⟩
/-- a tuple without a dict -/
def tyPt (K : PySem.W.Frag) (x : V) (H : Hp) : Prop := ∃ a xs o u, x = .ref a ∧ SqT K H a xs ∧ H a = some (.frz o u) ∧ o.dict = none
theorem ty_pt : TyOk X "tuple" (tyPt X.K) := by
  intro pins σ H s x v I r ⟨a, xs, o, u, ex, hq, hf, hd⟩
  subst ex
  cases r
  obtain ⟨its, _, ht, _⟩ := I.tuple hq
  exact ⟨ht.typeIs, fun b e => by cases e; exact ⟨o, (I.hok a _ hf).1, hd⟩⟩
end
def fPt (fs : List Fe) : Fe := fun es => (fItems fs es).bind fun p => if p.1.length ≤ sizeLine then .ok (.sh (.pt p.1), p.2) else .st
def ptL (f : Fe) : Fe := fun es => (f es).bind fun p => (Rs.of ((rdR p.2 p.1).bind lstD)).bind fun ds => .ok (.sh (.pt ds), p.2)
def fTidx (fo fe : Fe) : Fe := fun es => (fo es).bind fun p => match p.1 with
  | .sh (.pt ds) => (fe p.2).bind fun q => (Rs.of ((rdR q.2 q.1).bind fun y => if flatD y = true ∧ ds.all flatD = true then firstAt y ds 0 else none)).bind fun j => .ok (.sh (.int (j : Nat)), q.2)
  | _ => .st
section
variable {X : Cx} {E : We} {xs : List Expr} {fs : List Fe} {pos : Pos}
theorem de_pt {x1} (h : DAs X E xs (fs.map fun f => (false, f))) : DE X E (.Tuple xs x1 pos) (fPt fs) := by
  refine pe_imp (pe_tupP (das_pa h)) fun σ H Q ⟨P, es, ok, h⟩ => items_ok ok (G.bind h.g) fun vs ds es1 P1 H1 g dn q => ?_
  simp only at q
  split at q
  · rename_i hz
    refine ⟨by rw [dn.length]; exact hz, fun p o hd n => ?_⟩
    exact q (.ref p) _ _ (g.allocP n) (Dn.pt (.inl (.inr ⟨o, upd_same⟩)) (by rw [dn.length]; exact hz) (dn.mono (same_updP g.ok.sub n)) ⟨o, _, upd_same, hd⟩)
  · exact False.elim q
theorem de_ptL {a : Expr} {f : Fe} {p : Pos} (hg : Gl X "tuple") (hm : X.mg "tuple" = none) (ha : DE X E a f) (he : starEach [a] X.env = (false, eval a X.env) :: starEach [] X.env := by rfl) :
    DE X E (.Call (.Name "tuple" p) [a] [] pos) (ptL f) := by
  refine pe_imp (pe_callTy cr_tupP hg hm bt_tuple (pa_cons ha pa_nil he) (by decide) (by decide) he)
    fun σ H Q ⟨P, es, ok, h⟩ => tD_mono (tD_g (.refl ok) (G.bind h.g)) fun v H1 ⟨ra, es1, P1, g1, _, rel1, q1⟩ => ?_
  obtain ⟨ds, e, q⟩ := G.of (G.bind q1)
  obtain ⟨d, e1, e2⟩ := Option.bind_eq_some_iff.mp e
  obtain ⟨a, vs, ev, h5, h6, h7⟩ := bw_list g1.ok.sub (rel1.bw g1.ok e1) e2
  subst ev
  refine ⟨a, vs, rfl, h5, fun l o hd n => ?_⟩
  exact q (.ref l) _ _ (g1.allocP n) (Dn.pt (.inl (.inr ⟨o, upd_same⟩)) h6 (h7.mono (same_updP g1.ok.sub n)) ⟨o, _, upd_same, hd⟩)
theorem de_tidx {o e : Expr} {fo fe : Fe} {apos cpos : Pos} (ho : DE X E o fo) (ha : DE X E e fe)
    (hbase : attributeBase o "index" X.env (eval o X.env) = eval o X.env := by rfl)
    (hfew : ((backTo cpos (starEach [e] X.env)).all (fun x => !x.1) && (backToKw cpos (keywordEach [] X.env)).all (fun x => x.1.isSome) && decide (([e] : List Expr).length + ([] : List Keyword).length + (if ([] : List Keyword).isEmpty then 0 else 1) < 30)) = true := by rfl)
    (hline : (apos.endLine == cpos.line) = true := by rfl) (he : starEach [e] X.env = (false, eval e X.env) :: starEach [] X.env := by rfl) (hplain : (backTo cpos (starEach [] X.env)).any (·.1) = false := by rfl) :
    DE X E (.Call (.Attribute o "index" apos) [e] [] cpos) (fTidx fo fe) := by
  refine pe_imp (pe_mG ty_pt PySem.F.plainAttrs_tuple PySem.F.slot_tuple_index PySem.F.type_tuple_index mt_tidx ho (pa_cons ha pa_nil he) hbase hfew hline he hplain)
    fun σ H Q ⟨P, es, ok, h⟩ => tD_mono (tD_g (.refl ok) (G.bind h.g)) fun x H1 ⟨ra, es1, P1, g1, _, rel1, q1⟩ => ?_
  simp only at q1
  split at q1
  · rename_i ds
    have bw : Bw (kx X E) P1 H1 x (.pt ds) := .dn rel1
    obtain ⟨a, vs, ev, h1, h2, h3, o', u, h4, h5⟩ := bw_pt g1.ok.sub bw
    subst ev
    refine ⟨⟨a, vs, o', u, rfl, h1, g1.ok.sub _ _ h4, h5⟩, tD_mono (tD_g g1 (G.bind q1)) fun y H2 ⟨rb, es2, P2, g2, g12, rel2, q2⟩ => ?_⟩
    obtain ⟨j, e1, q3⟩ := G.of (G.bind q2)
    obtain ⟨d, e2, e3⟩ := Option.bind_eq_some_iff.mp e1
    split at e3
    · rename_i hf
      have bw2 : Bw (kx X E) P2 H2 (.ref a) (.pt ds) := .dn (Dn.mono g12.st.pp rel1)
      obtain ⟨a', vs', ev, k1, k2, k3, _⟩ := bw_pt g2.ok.sub bw2
      cases ev
      obtain ⟨hfd, hfs⟩ := hf
      have dy : Dn (kx X E) P2 y d := by
        cases rel2.bw g2.ok e2 with
        | dn h => exact h
        | ow h =>
          obtain ⟨_, h⟩ := h
          cases d <;> first | exact h.elim | cases hfd
      obtain ⟨k, ek, hk, hm⟩ := firstAt_ok e3
      rw [Nat.zero_add] at ek
      subst ek
      refine ⟨a, vs', y, j, rfl, rfl, k1, flat_ok dy hfd, flats_ok k3 hfs, by rw [k3.length]; exact hk, fun m z hmj e => ?_, q3 (.int j) P2 H2 g2 (.int _)⟩
      obtain ⟨dz, ez, dnz⟩ := k3.get' e
      rw [eqF_ok dy dnz hfd (List.all_eq_true.mp hfs dz (List.mem_of_getElem? ez))]
      exact hm m dz hmj ez
    · cases e3
  · exact False.elim q1
end
end DL

/-! DL, part 44: len(x) of an instance with its own __len__. -/
namespace DL
open PySem PySem.Spec L2
open PyProof.Rows hiding St
set_option autoImplicit false

def rLenI (K : PySem.W.Frag) (g : Addr) (sp : Sp) : List V → Hp → VK → Prop := fun xs H Q => ∃ (a C dx : Addr) (fs : List (Str × V)), xs = [V.ref a] ∧ H a = some (.ins C dx fs) ∧ PySem.W.findIn K (.ref C) "__len__" = some (some (.ref g)) ∧
  sp [.ref a] H (fun v H2 => ∃ n : Nat, v = .int n ∧ n ≤ 1000000 ∧ Q (.int n) H2) E0
theorem cr_lenI {X : Cx} {k : Nat} {g : Addr} {fd : FuncData} {ps : List Str} {sp : Sp} (F : FnOk X.prog X.w X.K X.mg X.base CX0 k g fd ps sp) (hr : Room (k + 1) X.A) (hf : PySem.W.isFn X.K (.ref g) = true) (hb : Binds X.K fd ps []) : CallR X (.builtin "len") (rLenI X.K g sp) := by
  intro pins s σ H xs us Q I r ⟨a, C, dx, fs, ex, ha, hl, h⟩
  subst ex
  rw [Vals.ref1 r]
  obtain ⟨mA, J, _⟩ := ins_get I.hok ha
  obtain ⟨od, J, _⟩ := J.look
  have start : Env0 X.prog X.w X.K X.mg X.base X.A.in1 X.stack s H := by
    have e := I.env0
    exact ⟨e.frames, e.mod, e.bs, e.bsz, e.funs, e.frf, e.hok, e.bare⟩
  have bound : BindsTo s fd ⟨[.ref a], []⟩ (ps.zip [.ref a]) := by
    have := hb s [.ref a] I.kIn (by have := F.len _ _ _ _ h; simpa using this)
    simpa using this
  refine Calls.call_function_entry kind_len plain_len entry_len (args_len1 _) ?_
  unfold Builtin.«len»
  refine wpAny_bind (m := oneArg "len" _) (wpAny_pure ?_)
  refine wpAny_bind (m := callSpecial? (.ref a) (Str.ofString "__len__")) ?_
  unfold callSpecial? specialOf
  refine wpAny_bind (wpAny_bind (J.type.here ((PySem.W.looks_findIn I.kIn hl).here ?_)))
  refine wpAny_holding (wpAny_bind ((PySem.W.bind_fn I.kIn _ (beq_iff_eq.mp hf)).here ?_))
  have run := F.run X.A.in1 X.stack s H ⟨[.ref a], []⟩ [.ref a] [.ref a] _ E0 hr.in1 start bound (.cons rfl .nil) h
  refine wpAny_bind (wpAny_call (codeAny_mono run fun res s1 out => ?_))
  match res, out with
  | .error u, out => exact out.elim
  | .ok .next, out => exact out.elim
  | .ok .brk, out => exact out.elim
  | .ok .cont, out => exact out.elim
  | .ok (.ret u), out =>
    obtain ⟨v, H2, I2, rv, n, ev, hn, q⟩ := I.after out
    subst ev
    obtain ⟨t, rfl⟩ := rv
    refine wpAny_pure ?_
    refine wpAny_bind (wpAny_holding (wpAny_pure ?_))
    refine wpAny_bind (wpAny_letGo ?_)
    show wpAny _ _ (if ((n : Nat) : Int) < 0 then _ else _) _ _ _
    rw [if_neg (by omega)]
    show wpAny _ _ (if ((n : Nat) : Int) ≥ 2 ^ 63 then _ else _) _ _ _
    rw [if_neg (by omega)]
    exact wpAny_bind (wpAny_mkInt (wpAny_pure ⟨_, rfl, ⟨.int n, H2, I2.tok _, ⟨_, rfl⟩, q⟩⟩))
/-- len(e): c its class, m what __len__ does -/
def fLenI (c : Str) (m f : Fe) : Fe := fun es => (f es).bind fun p => (Rs.of (toSh p.1 p.2)).bind fun q => match q.1 with
  | .ins c' ds => if c' = c then (noX m [some (.sh (.ins c' ds))]).bind fun r => match r.1 with
      | .sh (.int n) => if 0 ≤ n ∧ n ≤ 1000000 then (Rs.of (wb q.2 [.sh (.ins c' ds)] r.2)).bind fun es' => .ok (.sh (.int n), es') else .st
      | _ => .st
    else .st
  | _ => .st
theorem de_lenI {X : Cx} {we : WX} {k : Nat} {g : Addr} {fd : FuncData} {x : Str} {c : Str} {m f : Fe} {e : Expr} {p pos : Pos} (F : FnOk X.prog X.w X.K X.mg X.base CX0 k g fd [x] (spD0 X.K 1 m)) (hr : Room (k + 1) X.A) (hC : ∃ C, ClsAt X.K c C ∧ PySem.W.findIn X.K (.ref C) "__len__" = some (some (.ref g))) (hf : PySem.W.isFn X.K (.ref g) = true) (hb : Binds X.K fd [x] [])
    (hg : Gl X "len") (hm : X.mg "len" = none) (ha : DE X ⟨we, none⟩ e f) (he : starEach [e] X.env = (false, eval e X.env) :: starEach [] X.env := by rfl) : DE X ⟨we, none⟩ (.Call (.Name "len" p) [e] [] pos) (fLenI c m f) := by
  refine pe_imp (pe_callB (cr_lenI F hr hf hb) hg hm bt_len (pa_cons ha pa_nil he) (by decide) (by decide) he) fun σ H Q ⟨P, es, ok, h⟩ => tD_mono (tD_g (.refl ok) (G.bind h.g)) fun v H1 ⟨ra, es1, P1, g1, _, rel1, q1⟩ => ?_
  obtain ⟨s, e1, q2⟩ := G.of (G.bind q1)
  obtain ⟨P2, g2, dn, _⟩ := toSh_ok g1 rel1 e1
  obtain ⟨d, es2⟩ := s
  simp only at q2
  split at q2
  · rename_i c' ds
    split at q2
    · rename_i hc
      subst hc
      obtain ⟨C0, hC1, hC2⟩ := hC
      cases dn with
      | @ins a C dx _ fs _ hP hcl t =>
        have eC : C = C0 := ClsAt.one hcl hC1
        subst eC
        have rel : RelAs (kx X ⟨we, none⟩) P2 σ [V.ref a] [.sh (.ins c' ds)] := .cons (.ins hP hcl t) .nil
        have nd : (ioIx [Ag.sh (.ins c' ds)]).Nodup := List.nodup_nil
        have te : toEv es2 [Ag.sh (.ins c' ds)] = some [some (.sh (.ins c' ds))] := rfl
        obtain ⟨ok1, no⟩ := call_env g2.ok rel nd te
        refine ⟨a, C, dx, fs, rfl, g2.ok.sub _ _ hP, hC2, rfl, P2, _, ok1, no, ?_⟩
        have q3 := G.bind q2
        unfold noX at q3
        cases em : m [some (.sh (.ins c' ds))] with
        | st => rw [em] at q3; exact q3
        | ex x' c2 => rw [em] at q3; exact False.elim q3
        | ok r =>
          rw [em] at q3
          obtain ⟨rr, cs'⟩ := r
          intro v' P' H' g' rv
          replace q3 : G (kx X ⟨we, none⟩) we σ es P H (match rr with
              | R.sh (D.int n) => if 0 ≤ n ∧ n ≤ 1000000 then (Rs.of (wb es2 [Ag.sh (D.ins c' ds)] cs')).bind fun es' => Rs.ok (R.sh (D.int n), es') else Rs.st
              | _ => Rs.st) (fun p => ∀ (v : V) (P' H' : Hp), GoE (kx X ⟨we, none⟩) σ es P H p.2 P' H' → RelR (kx X ⟨we, none⟩) H P' H' σ p.2 v p.1 → Q v H') := q3
          split at q3
          · rename_i n
            split at q3
            · rename_i hn
              obtain ⟨es', w, q4⟩ := G.of (G.bind q3)
              obtain ⟨g5, _⟩ := call_back g2 rel nd te g' w
              cases rv
              refine ⟨n.toNat, by rw [Int.toNat_of_nonneg hn.1], by omega, ?_⟩
              rw [Int.toNat_of_nonneg hn.1]
              exact q4 (.int n) P' H' g5 (.int n)
            · exact False.elim q3
          · exact False.elim q3
    · exact False.elim q2
  · exact False.elim q2
end DL

/-! DL, part 45: == and != of two instances by their own __eq__, with either answer. -/
namespace DL
open PySem PySem.Spec L2
open PyProof.Rows hiding St
set_option autoImplicit false
section
open Builtin
variable {prog : Program} {w : World} {A : Around} {E : Value → Shared → Prop} {s : Shared} {K : PySem.W.Frag} {x y C f L : Addr} {h₀ : Heap} {m : Str → Option Value} {ox : Obj} {od : Option Obj} {tb : Value}
theorem objNe_K (X : K.In s.heap) (I : PySem.W.InstAt s.heap x ox C od) (hs : PySem.W.findIn K (.ref C) "__eq__" = some (some (.ref f))) (hf : PySem.W.isFn K (.ref f) = true) (hu : A.units < cLine) {Q : Fin → Shared → Prop}
    (hcall : wpAny (model prog w) A (call (.ref f) [.ref x, .ref y]) (fun v s' => ∃ b, v = .bool b ∧ Q (.done (.ret (.bool (!b)))) s') E s) :
    wpAny (model prog w) A (Builtin.«object.__ne__» ⟨[.ref x, .ref y], []⟩) Q E s := by
  obtain ⟨hp, g, d, t, os⟩ := s
  unfold Builtin.«object.__ne__»
  repeat (first
    | with_reducible refine wpAny_cRoomFor hu ?_
    | (refine wpAny_bind (m := callSpecialIfBound? (.ref x) (Str.ofString "__eq__") [.ref y])
        (PySem.W.ifBound_K X I hs hf (wpAny_mono hcall (fun r s' hr => by
          obtain ⟨b, rfl, hq⟩ := hr
          repeat (first | exact hq | exact wpAny_pure hq | exact wpAny_truthy_bool hq | (refine wpAny_bind (m := truthy (.bool _)) (wpAny_truthy_bool ?_)) | wp_step)) fun _ _ e => e)))
    | wp_step)
theorem check_ne_K {M : Model} (X : K.In s.heap) (I : PySem.W.InstAt s.heap x ox C od) (hm : PySem.W.mroIn K C (.type "object") = some true) {Q : Unit → Shared → Prop} (hq : Q () s) :
    wpAny M A (checkBuiltinCall "object.__ne__" ⟨[.ref x, .ref y], []⟩) Q E s := by
  simp only [checkBuiltinCall, F.cmpKind_ne, F.cmpSplit_ne]
  refine wpAny_bind ?_
  unfold isInstance
  refine wpAny_bind (I.type.here ((PySem.W.looks_mroIn X hm).here ?_))
  have ha := F.cmpArgs_ne (.ref x) (.ref y)
  cases hsig : Manifest.signature? "object.__ne__" with
  | none => exact wpAny_pure hq
  | some sig =>
    simp only [argsOk, hsig] at ha
    have h2 : Bind.checkArgs "object.__ne__" sig ⟨[.ref x, .ref y], []⟩ = pure () := ha
    show wpAny M A (Bind.checkArgs "object.__ne__" sig ⟨[.ref x, .ref y], []⟩) Q E _
    rw [h2]; exact wpAny_pure hq
theorem ne_K {Q : Value → Shared → Prop} (hu : A.units + 1 < cLine) (F₀ : PyProof.Rows.Fr h₀ L s.heap m) (X₀ : K.In h₀) (I : PySem.W.InstAt s.heap x ox C od) (hb : PySem.W.Looks (model prog w) s.heap (typeOf (.ref y)) tb) (hn : PySem.W.notFirst K C tb = true)
    (hs : PySem.W.findIn K (.ref C) "__eq__" = some (some (.ref f))) (hf : PySem.W.isFn K (.ref f) = true) (hne : PySem.W.findIn K (.ref C) "__ne__" = some (some (.builtin "object.__ne__"))) (hm : PySem.W.mroIn K C (.type "object") = some true)
    (h : wpAny (model prog w) A.in1 (call (.ref f) [.ref x, .ref y]) (fun v s' => ∃ r, v = .bool r ∧ Q (.bool (!r)) s') E s) : wpAny (model prog w) A (richCompare .NotEq (.ref x) (.ref y)) Q E s := by
  have X := X₀.keeps F₀.keep
  have one : wpAny (model prog w) A (tryCompare (.ref x) (cmpInfo .NotEq).2.1 (.ref y)) (fun r s' => ∃ v, r = some v ∧ Q v s') E s := by
    unfold tryCompare
    refine wpAny_bind ?_
    simp only [callSpecialIfBound?, bindSpecialIfBound?]
    refine wpAny_holding (wpAny_bind (wpAny_bind (wpAny_bind (I.type.here ((PySem.W.looks_findIn X hne).here ?_)))))
    refine wpAny_bind (wpAny_askSetting (wpAny_ite ?_))
    have hcall : wpAny (model prog w) A (call (.builtin "object.__ne__") ([.ref x] ++ [.ref y])) (fun v s' => ∃ r, v = .bool r ∧ Q (.bool r) s') E s := by
      refine wpAny_call (codeAny_call_builtin F.cmp_object.ne.plain F.cmpEntry_ne (check_ne_K X I hm (objNe_K (A := A.in1) X I hs hf hu (wpAny_mono h (fun v s' hv => ?_) fun _ _ e => e))))
      obtain ⟨b, rfl, hq⟩ := hv
      exact ⟨b, rfl, _, rfl, hq⟩
    have fin : wpAny (model prog w) A (call (.builtin "object.__ne__") ([.ref x] ++ [.ref y]) >>= fun v => pure (some v)) (fun r s' => wpAny (model prog w) A (match r with
        | some .notImplemented | none => pure none
        | some v => pure (some v)) (fun r s' => ∃ v, r = some v ∧ Q v s') E s') E s := wpAny_bind (wpAny_mono hcall (fun v s' ⟨r, e, q⟩ => by
      subst e
      exact wpAny_pure (wpAny_pure ⟨_, rfl, q⟩)) fun _ _ e => e)
    have hbd := F.cmp_object.ne.bind (.ref x)
    split
    · refine wpAny_bind (wpAny_of_eq hbd (wpAny_pure (by exact fin)))
    · exact wpAny_tryCatch (wpAny_bind (wpAny_of_eq hbd (wpAny_pure (by exact fin))))
  unfold richCompare
  simp only [oneThing_ref]
  refine wpAny_holding (wpAny_bind (wpAny_cRoomFor (Nat.lt_of_succ_lt hu) ?_))
  refine wpAny_bind (I.type.here (wpAny_bind (hb.here ?_)))
  split
  · rename_i q
    have e : PySem.W.subIn K tb (.ref C) = some false := by
      rcases Bool.or_eq_true_iff.mp hn with e | e
      · rw [beq_iff_eq.mp e] at q; simp at q
      · exact beq_iff_eq.mp e
    refine wpAny_bind ((PySem.W.looks_subIn X e).here ?_)
    simp only [Bool.false_eq_true, if_false]
    refine wpAny_bind (wpAny_mono one (fun r s' z => ?_) fun _ _ e => e)
    obtain ⟨v, rfl, hq⟩ := z
    exact wpAny_pure hq
  · refine wpAny_bind (wpAny_pure ?_)
    simp only [Bool.false_eq_true, if_false]
    refine wpAny_bind (wpAny_mono one (fun r s' z => ?_) fun _ _ e => e)
    obtain ⟨v, rfl, hq⟩ := z
    exact wpAny_pure hq
end
end DL

/-! DL, part 46: == and != of an instance, and of other things with an instance on the right, by its own __eq__. -/
namespace DL
open PySem PySem.Spec L2
open PyProof.Rows hiding St
set_option autoImplicit false
section
open Builtin
variable {prog : Program} {w : World} {A : Around} {E : Value → Shared → Prop} {s : Shared} {K : PySem.W.Frag} {x y C f L dx : Addr} {m : Str → Option Value}
open AutoSeq1 (wpAny_loadPart')
theorem tup_declines {M : Model} {T : Fin → Shared → Prop} {l : Addr} (X : K.In s.heap) (hy : s.heap.get? y = some (PySem.W.instObj C dx)) (hm : PySem.W.mroIn K C (.type "tuple") = some false) (hq : T (.done (.ret .notImplemented)) s) :
    wpAny M A (Builtin.«tuple.__eq__» ⟨[.ref l, .ref y], []⟩) T E s := by
  obtain ⟨hp, g, d, tk, os⟩ := s
  wp_walk using wpAny_loadPart' hy, (PySem.W.looks_mroIn X hm).here
  exact hq
theorem lst_declines {M : Model} {T : Fin → Shared → Prop} {l : Addr} (X : K.In s.heap) (hy : s.heap.get? y = some (PySem.W.instObj C dx)) (hm : PySem.W.mroIn K C (.type "list") = some false) (hq : T (.done (.ret .notImplemented)) s) :
    wpAny M A (Builtin.«list.__eq__» ⟨[.ref l, .ref y], []⟩) T E s := by
  obtain ⟨hp, g, d, tk, os⟩ := s
  wp_walk using wpAny_loadPart' hy, (PySem.W.looks_mroIn X hm).here
  exact hq
theorem str_declines {M : Model} {T : Fin → Shared → Prop} {z : Str} {t : Tok} (hy : s.heap.get? y = some (PySem.W.instObj C dx)) (hq : T (.done (.ret .notImplemented)) s) :
    wpAny M A (Builtin.«str.__eq__» ⟨[.str z t, .ref y], []⟩) T E s := by
  obtain ⟨hp, g, d, tk, os⟩ := s
  wp_walk using wpAny_load hy, wpAny_loadPart' hy
  exact hq
theorem non_declines {M : Model} {T : Fin → Shared → Prop} (hq : T (.done (.ret .notImplemented)) s) : wpAny M A (Builtin.«NoneType.__eq__» ⟨[.none, .ref y], []⟩) T E s := by
  obtain ⟨hp, g, d, tk, os⟩ := s
  wp_walk
  exact hq
theorem one_K {b : Value} {Q : Value → Shared → Prop} {ox : Obj} {od : Option Obj} (X : K.In s.heap) (I : PySem.W.InstAt s.heap x ox C od) (hs : PySem.W.findIn K (.ref C) "__eq__" = some (some (.ref f))) (hf : PySem.W.isFn K (.ref f) = true)
    (h : wpAny (model prog w) A (call (.ref f) [.ref x, b]) (fun v s' => ∃ r, v = .bool r ∧ Q (.bool r) s') E s) : wpAny (model prog w) A (tryCompare (.ref x) "__eq__" b) (fun r s' => ∃ v, r = some v ∧ Q v s') E s := by
  unfold tryCompare
  refine wpAny_bind (PySem.W.ifBound_K X I hs hf (wpAny_mono h (fun v s' hv => ?_) fun _ _ e => e))
  obtain ⟨r, rfl, q⟩ := hv
  exact wpAny_pure ⟨_, rfl, q⟩
theorem rc_refl {T ida : String} {u : Value} {Q : Value → Shared → Prop} {ox : Obj} {od : Option Obj} (X : K.In s.heap) (J : PySem.W.InstAt s.heap y ox C od) (hT : s.TypeIs u T) (hm : PySem.W.mroIn K C (.type T) = some false) (slot : Slot T "__eq__" ida)
    (hdec : ∀ Q' : Value → Shared → Prop, Q' .notImplemented s → wpAny (model prog w) A (call (.builtin ida) [u, .ref y]) Q' E s) (hs : PySem.W.findIn K (.ref C) "__eq__" = some (some (.ref f))) (hf : PySem.W.isFn K (.ref f) = true) (hu : A.units < cLine)
    (h : wpAny (model prog w) A (call (.ref f) [.ref y, u]) (fun v s' => ∃ r, v = .bool r ∧ Q (.bool r) s') E s) : wpAny (model prog w) A (richCompare .Eq u (.ref y)) Q E s := by
  rcases hi : cmpInfo CmpOp.Eq with ⟨sym, f1, r1⟩
  have hi' := hi
  simp only [cmpInfo, Prod.mk.injEq] at hi'
  obtain ⟨_, rfl, rfl⟩ := hi'
  simp only [richCompare, hi, hT.oneThing_none]
  try with_reducible refine wpAny_holding ?_
  refine wpAny_bind (wpAny_cRoomFor hu ?_)
  refine wpAny_bind (wpAny_typeOf hT (wpAny_bind (J.type.here ?_)))
  rw [show (Value.type T != Value.ref C) = true from rfl]
  simp only [if_true]
  refine wpAny_bind ((PySem.W.looks_mroIn X hm).here ?_)
  simp only [Bool.false_eq_true, if_false, Bool.not_false, if_true]
  refine wpAny_bind (m := tryCompare u _ (.ref y)) (wpAny_tryCompare_declines hT slot (hdec _ ⟨rfl, ?_⟩))
  refine wpAny_bind (m := tryCompare (.ref y) _ u) (wpAny_mono (one_K X J hs hf h) (fun r s' z => ?_) fun _ _ e => e)
  obtain ⟨v, rfl, q⟩ := z
  exact wpAny_pure q
end
section
variable {X : Cx} {k : Nat} {g : Addr} {fd : FuncData} {ps : List Str} {sp : Sp}
theorem run_eq {A : Around} {pins : List (Addr × Obj)} {σ : L2.St} {H : Hp} {s : Shared} {x y : V} {u v : Value} {Q : VK} (F : FnOk X.prog X.w X.K X.mg X.base CX0 k g fd ps sp) (hb : Binds X.K fd ps []) (hr : Room k A) (fr : A.frames = X.A.frames) (I : Inv X pins σ H s)
    (rx : RelV x u) (ry : RelV y v) (h : sp [x, y] H (fun z H2 => ∃ r, z = .bl r ∧ Q (.bl r) H2) E0) :
    wpAny (model X.prog X.w) A (call (.ref g) [u, v]) (fun w s' => ∃ r, w = .bool r ∧ ∃ H', Inv X pins σ H' s' ∧ Q (.bl r) H') X.xe s := by
  have start : Env0 X.prog X.w X.K X.mg X.base A X.stack s H := by
    have e := I.env0
    exact ⟨by rw [fr]; exact e.frames, e.mod, e.bs, e.bsz, e.funs, e.frf, e.hok, e.bare⟩
  have bound : BindsTo s fd ⟨[u, v], []⟩ (ps.zip [u, v]) := by
    have := hb s [u, v] I.kIn (by have := F.len _ _ _ _ h; simpa using this)
    simpa using this
  have run := F.run A X.stack s H ⟨[u, v], []⟩ [u, v] [x, y] _ E0 hr start bound (.cons rx (.cons ry .nil)) h
  refine wpAny_call (codeAny_mono run fun res s1 out => ?_)
  match res, out with
  | .error u, out => exact out.elim
  | .ok .next, out => exact out.elim
  | .ok .brk, out => exact out.elim
  | .ok .cont, out => exact out.elim
  | .ok (.ret w), out =>
    obtain ⟨z, H2, I2, rv, r, ez, q⟩ := I.after out
    subst ez
    cases rv
    exact ⟨r, rfl, H2, I2, q⟩
/-- no instance of the class at C is one of these built-in things -/
structure OffB (K : PySem.W.Frag) (C : Addr) : Prop where
  tup : PySem.W.mroIn K C (.type "tuple") = some false
  lst : PySem.W.mroIn K C (.type "list") = some false
  str : PySem.W.mroIn K C (.type "str") = some false
  non : PySem.W.mroIn K C (.type "NoneType") = some false
def offV (K : PySem.W.Frag) (H : Hp) (x : V) : Prop := x = .non ∨ (∃ z, x = .str z) ∨ (∃ l xs, x = .ref l ∧ SqT K H l xs) ∨ (∃ l xs, x = .ref l ∧ SqL K H l xs)
def rEqM (K : PySem.W.Frag) (g : Addr) (sp : Sp) : R2 := fun x y H Q => ∃ b C dy gs, y = .ref b ∧ H b = some (.ins C dy gs) ∧ PySem.W.findIn K (.ref C) "__eq__" = some (some (.ref g)) ∧ OffB K C ∧
  ((∃ a dx fs, x = .ref a ∧ H a = some (.ins C dx fs) ∧ sp [x, y] H (fun z H2 => ∃ r, z = .bl r ∧ Q (.bl r) H2) E0) ∨ (offV K H x ∧ sp [y, x] H (fun z H2 => ∃ r, z = .bl r ∧ Q (.bl r) H2) E0))
theorem op_eqM (FF : FnOk X.prog X.w X.K X.mg X.base CX0 k g fd ps sp) (hr : Room k X.A) (hf : PySem.W.isFn X.K (.ref g) = true) (hb : Binds X.K fd ps []) : OpR X (compareOp .Eq) (rEqM X.K g sp) := by
  intro pins s σ H x y u v Q I rx ry ⟨b, C, dy, gs, ey, hb', hs, ob, h⟩
  subst ey
  cases ry
  show wpAny (model X.prog X.w) X.A (richCompare .Eq u (.ref b)) (EP X pins σ Q) X.xe s
  obtain ⟨mB, JB, _⟩ := ins_get I.hok hb'
  have hy := JB.obj
  obtain ⟨od', JB, _⟩ := JB.look
  rcases h with ⟨a, dx, fs, rfl, ha, h⟩ | ⟨hx, h⟩
  · cases rx
    obtain ⟨mA, J, _⟩ := ins_get I.hok ha
    obtain ⟨od, J, _⟩ := J.look
    obtain ⟨m, hF⟩ := I.fr
    refine PySem.W.cmp_K (op := .Eq) (tb := .ref C) hr.units0 hF I.ok.mod.kin J JB.type (by simp [PySem.W.notFirst]) hs hf (wpAny_mono (run_eq (x := .ref a) (y := .ref b) FF hb hr rfl I rfl rfl h) (fun w s' z => ?_) fun _ _ e => e)
    obtain ⟨r, rfl, H', I', q⟩ := z
    exact ⟨.bl r, H', I', rfl, q⟩
  · have back : wpAny (model X.prog X.w) X.A (call (.ref g) [.ref b, u]) (fun v s' => ∃ r, v = .bool r ∧ EP X pins σ Q (.bool r) s') X.xe s := wpAny_mono (run_eq (x := .ref b) FF hb hr rfl I rfl rx h) (fun w s' z => by
      obtain ⟨r, rfl, H', I', q⟩ := z
      exact ⟨r, rfl, .bl r, H', I', rfl, q⟩) fun _ _ e => e
    rcases hx with rfl | ⟨z, rfl⟩ | ⟨l, xs, rfl, hl⟩ | ⟨l, xs, rfl, hl⟩
    · cases rx
      exact rc_refl (T := "NoneType") I.kIn JB rfl ob.non PySem.F.slot_NoneType_eq (fun Q' q => GQ.call_here PySem.F.slot_NoneType_eq rfl PySem.F.entry_NoneType_eq (PySem.F.args_NoneType_eq_2 _ _) (non_declines q)) hs hf hr.units0 back
    · obtain ⟨t, rfl⟩ := rx
      exact rc_refl (T := "str") I.kIn JB (typeIs_str s z t) ob.str PySem.F.slot_str_eq (fun Q' q => GQ.call_here PySem.F.slot_str_eq (typeIs_str s z t) PySem.F.entry_str_eq (PySem.F.args_str_eq_2 _ _) (str_declines hy q)) hs hf hr.units0 back
    · cases rx
      obtain ⟨its, r, ⟨o, ho, hc, e2⟩, _⟩ := I.tuple hl
      exact rc_refl (T := "tuple") I.kIn JB ⟨o, ho, hc⟩ ob.tup PySem.F.slot_tuple_eq (fun Q' q => GQ.call_here PySem.F.slot_tuple_eq ⟨o, ho, hc⟩ PySem.F.entry_tuple_eq (PySem.F.args_tuple_eq_2 _ _) (tup_declines I.kIn hy ob.tup q)) hs hf hr.units0 back
    · cases rx
      obtain ⟨its, r, ⟨o, n, ho, hc, e2⟩, _⟩ := I.list hl
      exact rc_refl (T := "list") I.kIn JB ⟨o, ho, hc⟩ ob.lst PySem.F.slot_list_eq (fun Q' q => GQ.call_here PySem.F.slot_list_eq ⟨o, ho, hc⟩ PySem.F.entry_list_eq (PySem.F.args_list_eq_2 _ _) (lst_declines I.kIn hy ob.lst q)) hs hf hr.units0 back
def rNeI (K : PySem.W.Frag) (g : Addr) (sp : Sp) : R2 := fun x y H Q => ∃ a b C dx dy fs gs, x = .ref a ∧ y = .ref b ∧ H a = some (.ins C dx fs) ∧ H b = some (.ins C dy gs) ∧ PySem.W.findIn K (.ref C) "__eq__" = some (some (.ref g)) ∧
  PySem.W.findIn K (.ref C) "__ne__" = some (some (.builtin "object.__ne__")) ∧ PySem.W.mroIn K C (.type "object") = some true ∧ sp [x, y] H (fun z H2 => ∃ r, z = .bl r ∧ (fun z' H3 => ∃ r', z' = V.bl r' ∧ Q (.bl (!r')) H3) (.bl r) H2) E0
theorem op_neI (F : FnOk X.prog X.w X.K X.mg X.base CX0 k g fd ps sp) (hr : Room (k + 1) X.A) (hf : PySem.W.isFn X.K (.ref g) = true) (hb : Binds X.K fd ps []) : OpR X (compareOp .NotEq) (rNeI X.K g sp) := by
  intro pins s σ H x y u v Q I rx ry ⟨a, b, C, dx, dy, fs, gs, ex, ey, ha, hb', hs, hne, hm, h⟩
  subst ex ey
  cases rx
  cases ry
  show wpAny (model X.prog X.w) X.A (richCompare .NotEq (.ref a) (.ref b)) (EP X pins σ Q) X.xe s
  obtain ⟨mB, JB, _⟩ := ins_get I.hok hb'
  obtain ⟨od', JB, _⟩ := JB.look
  obtain ⟨mA, J, _⟩ := ins_get I.hok ha
  obtain ⟨od, J, _⟩ := J.look
  obtain ⟨m, hF⟩ := I.fr
  refine ne_K (tb := .ref C) (by have := hr.in1.units0; simpa [Around.in1] using this) hF I.ok.mod.kin J JB.type (by simp [PySem.W.notFirst]) hs hf hne hm (wpAny_mono (run_eq (x := .ref a) (y := .ref b) (Q := fun z H2 => ∃ r, z = .bl r ∧ Q (.bl (!r)) H2) F hb hr.in1 rfl I rfl rfl h) (fun w s' z => ?_) fun _ _ e => e)
  obtain ⟨r, rfl, H', I', r', er, q⟩ := z
  cases er
  exact ⟨r, rfl, .bl (!r), H', I', rfl, q⟩
end
end DL

/-! DL, part 47: == and != by an own __eq__, as data functions. -/
namespace DL
open PySem PySem.Spec L2
open PyProof.Rows hiding St
set_option autoImplicit false
def insOf (c : Str) : D → Bool
  | .ins c' _ => c' == c
  | _ => false
def offD : D → Bool
  | .non => true
  | .str _ => true
  | .tup _ => true
  | .pt _ => true
  | .lst _ => true
  | .rl _ => true
  | _ => false
/-- what the own __eq__ says of the two: neg for != -/
def askEq (m : Fe) (neg : Bool) (x y : D) (es : Ev) : Rs (R × Ev) := (noX m [some (.sh x), some (.sh y)]).bind fun r => match r.1 with
  | .sh (.bl b) => (Rs.of (wb es [.sh x, .sh y] r.2)).bind fun es' => .ok (.sh (.bl (neg ^^ b)), es')
  | _ => .st
def fEqM (c : Str) (m fa fb : Fe) : Fe := fun es => (fa es).bind fun p => (fb p.2).bind fun q => match p.1 with
  | .sh x => match q.1 with
    | .sh y => if insOf c y = true ∧ insOf c x = true then askEq m false x y q.2 else if insOf c y = true ∧ offD x = true then askEq m false y x q.2 else .st
    | _ => .st
  | _ => .st
def fNeI (c : Str) (m fa fb : Fe) : Fe := fun es => (fa es).bind fun p => (fb p.2).bind fun q => match p.1 with
  | .sh x => match q.1 with
    | .sh y => if insOf c y = true ∧ insOf c x = true then askEq m true x y q.2 else .st
    | _ => .st
  | _ => .st
section
variable {K : PySem.W.Frag} {P H : Hp} {v : V} {x : D} {c : Str}
theorem insOf_dn {Kx' : Kx} (h : insOf c x = true) (d : Dn Kx' P v x) : ∃ a C dx fs, v = .ref a ∧ P a = some (.ins C dx fs) ∧ ClsAt Kx'.K c C := by
  unfold insOf at h
  split at h
  · have e := eq_of_beq h
    subst e
    cases d with
    | ins hP hcl t => exact ⟨_, _, _, _, rfl, hP, hcl⟩
  · cases h
theorem sqt_sub (e : Same P H) {a : Addr} {xs : List V} (h : SqT K P a xs) : SqT K H a xs := by
  rcases h with (h | ⟨o, h⟩) | h
  · exact .inl (.inl (e _ _ h))
  · exact .inl (.inr ⟨o, e _ _ h⟩)
  · exact .inr h
theorem offD_dn {xo : Option (Addr × Addr × Addr)} (h : offD x = true) (d : Dn ⟨K, xo⟩ P v x) (e : Same P H) : offV K H v := by
  cases d with
  | non => exact .inl rfl
  | str z => exact .inr (.inl ⟨z, rfl⟩)
  | tup q z t => exact .inr (.inr (.inl ⟨_, _, rfl, sqt_sub e q⟩))
  | pt q z t w => exact .inr (.inr (.inl ⟨_, _, rfl, sqt_sub e q⟩))
  | lst q z t => exact .inr (.inr (.inr ⟨_, _, rfl, .inl (.inl (e _ _ q))⟩))
  | rl q z t => exact .inr (.inr (.inr ⟨_, _, rfl, Same.seq e q⟩))
  | _ => cases h
end
section
variable {X : Cx} {we : WX} {m : Fe}
/-- the question is put -/
theorem ask_ok {neg : Bool} {σ : L2.St} {es es1 : Ev} {P H P1 H1 : Hp} {vx vy : V} {x y : D} {Q : VK} (g1 : GoE (kx X ⟨we, none⟩) σ es P H es1 P1 H1) (dx : Dn (kx X ⟨we, none⟩) P1 vx x) (dy : Dn (kx X ⟨we, none⟩) P1 vy y)
    (q : G (kx X ⟨we, none⟩) we σ es P H (askEq m neg x y es1) (fun p => ∀ (v : V) (P' H' : Hp), GoE (kx X ⟨we, none⟩) σ es P H p.2 P' H' → RelR (kx X ⟨we, none⟩) H P' H' σ p.2 v p.1 → Q v H')) :
    spD0 X.K 2 m [vx, vy] H1 (fun z H2 => ∃ r, z = .bl r ∧ Q (.bl (neg ^^ r)) H2) E0 := by
  have rel : RelAs (kx X ⟨we, none⟩) P1 σ [vx, vy] [.sh x, .sh y] := .cons dx (.cons dy .nil)
  have nd : (ioIx [Ag.sh x, Ag.sh y]).Nodup := List.nodup_nil
  have te : toEv es1 [Ag.sh x, Ag.sh y] = some [some (.sh x), some (.sh y)] := rfl
  obtain ⟨ok1, no⟩ := call_env g1.ok rel nd te
  refine ⟨rfl, P1, _, ok1, no, ?_⟩
  unfold askEq at q
  have q3 := G.bind q
  unfold noX at q3
  cases em : m [some (.sh x), some (.sh y)] with
  | st => rw [em] at q3; exact q3
  | ex x' c2 => rw [em] at q3; exact False.elim q3
  | ok r =>
    rw [em] at q3
    obtain ⟨rr, cs'⟩ := r
    intro v' P' H' g' rv
    replace q3 : G (kx X ⟨we, none⟩) we σ es P H (match rr with
        | R.sh (D.bl b) => (Rs.of (wb es1 [Ag.sh x, Ag.sh y] cs')).bind fun es' => Rs.ok (R.sh (D.bl (neg ^^ b)), es')
        | _ => Rs.st) (fun p => ∀ (v : V) (P' H' : Hp), GoE (kx X ⟨we, none⟩) σ es P H p.2 P' H' → RelR (kx X ⟨we, none⟩) H P' H' σ p.2 v p.1 → Q v H') := q3
    split at q3
    · rename_i b
      obtain ⟨es', w, q4⟩ := G.of (G.bind q3)
      obtain ⟨g5, _⟩ := call_back g1 rel nd te g' w
      cases rv
      exact ⟨b, rfl, q4 (.bl (neg ^^ b)) P' H' g5 (.bl (neg ^^ b))⟩
    · exact False.elim q3
variable {k : Nat} {g : Addr} {fd : FuncData} {p1 p2 : Str} {c : Str} {fa fb : Fe} {a b : Expr} {pos : Pos}
theorem eqM_tOp (hC : ∃ C, ClsAt X.K c C ∧ PySem.W.findIn X.K (.ref C) "__eq__" = some (some (.ref g)) ∧ OffB X.K C) {σ : L2.St} {H : Hp} {Q : VK} (h : tD (kx X ⟨we, none⟩) we (fEqM c m fa fb) σ H Q) :
    tOp (rEqM X.K g (spD0 X.K 2 m)) (tD (kx X ⟨we, none⟩) we fa) (tD (kx X ⟨we, none⟩) we fb) σ H Q := by
  obtain ⟨P, es, ok, h⟩ := h
  refine tD_mono (tD_g (.refl ok) (G.bind h.g)) fun v H1 ⟨ra, es1, P1, g1, _, rel1, q1⟩ => tD_mono (tD_g g1 (G.bind q1)) fun u H2 ⟨rb, es2, P2, g2, g12, rel2, q2⟩ => ?_
  have rel1' := rel1.step g12
  cases ra with
  | fr d => exact False.elim q2
  | ow i => exact False.elim q2
  | sh x =>
    cases rb with
    | fr d => exact False.elim q2
    | ow i => exact False.elim q2
    | sh y =>
      simp only at q2
      have dx : Dn (kx X ⟨we, none⟩) P2 v x := rel1'
      have dy : Dn (kx X ⟨we, none⟩) P2 u y := rel2
      obtain ⟨C0, hC1, hC2, hC3⟩ := hC
      split at q2
      · rename_i hh
        obtain ⟨b1, C, dd, fs, rfl, hP, hcl⟩ := insOf_dn hh.1 dy
        obtain ⟨a1, C', dd', fs', rfl, hP', hcl'⟩ := insOf_dn hh.2 dx
        cases ClsAt.one hcl hC1
        cases ClsAt.one hcl' hC1
        have h3 := ask_ok g2 dx dy q2
        exact ⟨b1, C0, dd, fs, rfl, g2.ok.sub _ _ hP, hC2, hC3, .inl ⟨a1, dd', fs', rfl, g2.ok.sub _ _ hP', by simpa using h3⟩⟩
      · split at q2
        · rename_i hh
          obtain ⟨b1, C, dd, fs, rfl, hP, hcl⟩ := insOf_dn hh.1 dy
          cases ClsAt.one hcl hC1
          have h3 := ask_ok g2 dy dx q2
          exact ⟨b1, C0, dd, fs, rfl, g2.ok.sub _ _ hP, hC2, hC3, .inr ⟨offD_dn hh.2 dx g2.ok.sub, by simpa using h3⟩⟩
        · exact False.elim q2
theorem de_eqM (F : FnOk X.prog X.w X.K X.mg X.base CX0 k g fd [p1, p2] (spD0 X.K 2 m)) (hr : Room k X.A) (hC : ∃ C, ClsAt X.K c C ∧ PySem.W.findIn X.K (.ref C) "__eq__" = some (some (.ref g)) ∧ OffB X.K C) (hf : PySem.W.isFn X.K (.ref g) = true) (hb : Binds X.K fd [p1, p2] [])
    (ha : DE X ⟨we, none⟩ a fa) (hb' : DE X ⟨we, none⟩ b fb) (hm : behindInMarks .Eq b = false) : DE X ⟨we, none⟩ (.Compare a [.Eq] [b] pos) (fEqM c m fa fb) := by
  exact pe_imp (pe_cmpR (op_eqM F hr hf hb) ha hb' hm) fun σ H Q h => eqM_tOp hC h
theorem dt_eqM (F : FnOk X.prog X.w X.K X.mg X.base CX0 k g fd [p1, p2] (spD0 X.K 2 m)) (hr : Room k X.A) (hC : ∃ C, ClsAt X.K c C ∧ PySem.W.findIn X.K (.ref C) "__eq__" = some (some (.ref g)) ∧ OffB X.K C) (hf : PySem.W.isFn X.K (.ref g) = true) (hb : Binds X.K fd [p1, p2] [])
    (ha : DE X ⟨we, none⟩ a fa) (hb' : DE X ⟨we, none⟩ b fb) (hm : behindInMarks .Eq b = false) : DT X ⟨we, none⟩ (.Compare a [.Eq] [b] pos) (fTB (fEqM c m fa fb)) := by
  refine pt_imp (pt_cmpR (op_eqM F hr hf hb) ha hb' hm) fun σ H Q ⟨P, es, ok, h⟩ => eqM_tOp hC (tD_mono (tD_bindB (GoE.refl ok) h) fun v H1 ⟨ra, es1, P1, g1, _, rel1, q1⟩ => ?_)
  cases e : asB ra with
  | none => simp only [e] at q1; exact False.elim q1
  | some c =>
    simp only [e, Rs.of_some, Rs.bind_ok] at q1
    obtain rfl := asB_ok e
    exact ⟨c, dn_bl rel1, q1 P1 H1 g1⟩
theorem neI_tOp (hC : ∃ C, ClsAt X.K c C ∧ PySem.W.findIn X.K (.ref C) "__eq__" = some (some (.ref g)) ∧ PySem.W.findIn X.K (.ref C) "__ne__" = some (some (.builtin "object.__ne__")) ∧ PySem.W.mroIn X.K C (.type "object") = some true) {σ : L2.St} {H : Hp} {Q : VK} (h : tD (kx X ⟨we, none⟩) we (fNeI c m fa fb) σ H Q) :
    tOp (rNeI X.K g (spD0 X.K 2 m)) (tD (kx X ⟨we, none⟩) we fa) (tD (kx X ⟨we, none⟩) we fb) σ H Q := by
  obtain ⟨P, es, ok, h⟩ := h
  refine tD_mono (tD_g (.refl ok) (G.bind h.g)) fun v H1 ⟨ra, es1, P1, g1, _, rel1, q1⟩ => tD_mono (tD_g g1 (G.bind q1)) fun u H2 ⟨rb, es2, P2, g2, g12, rel2, q2⟩ => ?_
  have rel1' := rel1.step g12
  cases ra with
  | fr d => exact False.elim q2
  | ow i => exact False.elim q2
  | sh x =>
    cases rb with
    | fr d => exact False.elim q2
    | ow i => exact False.elim q2
    | sh y =>
      simp only at q2
      have dx : Dn (kx X ⟨we, none⟩) P2 v x := rel1'
      have dy : Dn (kx X ⟨we, none⟩) P2 u y := rel2
      obtain ⟨C0, hC1, hC2, hC3, hC4⟩ := hC
      split at q2
      · rename_i hh
        obtain ⟨b1, C, dd, fs, rfl, hP, hcl⟩ := insOf_dn hh.1 dy
        obtain ⟨a1, C', dd', fs', rfl, hP', hcl'⟩ := insOf_dn hh.2 dx
        cases ClsAt.one hcl hC1
        cases ClsAt.one hcl' hC1
        have h3 := ask_ok g2 dx dy q2
        refine ⟨a1, b1, C0, dd', dd, fs', fs, rfl, rfl, g2.ok.sub _ _ hP', g2.ok.sub _ _ hP, hC2, hC3, hC4, ?_⟩
        simpa using h3
      · exact False.elim q2
theorem de_neI (F : FnOk X.prog X.w X.K X.mg X.base CX0 k g fd [p1, p2] (spD0 X.K 2 m)) (hr : Room (k + 1) X.A) (hC : ∃ C, ClsAt X.K c C ∧ PySem.W.findIn X.K (.ref C) "__eq__" = some (some (.ref g)) ∧ PySem.W.findIn X.K (.ref C) "__ne__" = some (some (.builtin "object.__ne__")) ∧ PySem.W.mroIn X.K C (.type "object") = some true)
    (hf : PySem.W.isFn X.K (.ref g) = true) (hb : Binds X.K fd [p1, p2] [])
    (ha : DE X ⟨we, none⟩ a fa) (hb' : DE X ⟨we, none⟩ b fb) (hm : behindInMarks .NotEq b = false) : DE X ⟨we, none⟩ (.Compare a [.NotEq] [b] pos) (fNeI c m fa fb) := by
  exact pe_imp (pe_cmpR (op_neI F hr hf hb) ha hb' hm) fun σ H Q h => neI_tOp hC h
theorem dt_neI (F : FnOk X.prog X.w X.K X.mg X.base CX0 k g fd [p1, p2] (spD0 X.K 2 m)) (hr : Room (k + 1) X.A) (hC : ∃ C, ClsAt X.K c C ∧ PySem.W.findIn X.K (.ref C) "__eq__" = some (some (.ref g)) ∧ PySem.W.findIn X.K (.ref C) "__ne__" = some (some (.builtin "object.__ne__")) ∧ PySem.W.mroIn X.K C (.type "object") = some true) (hf : PySem.W.isFn X.K (.ref g) = true) (hb : Binds X.K fd [p1, p2] [])
    (ha : DE X ⟨we, none⟩ a fa) (hb' : DE X ⟨we, none⟩ b fb) (hm : behindInMarks .NotEq b = false) : DT X ⟨we, none⟩ (.Compare a [.NotEq] [b] pos) (fTB (fNeI c m fa fb)) := by
  refine pt_imp (pt_cmpR (op_neI F hr hf hb) ha hb' hm) fun σ H Q ⟨P, es, ok, h⟩ => neI_tOp hC (tD_mono (tD_bindB (GoE.refl ok) h) fun v H1 ⟨ra, es1, P1, g1, _, rel1, q1⟩ => ?_)
  cases e : asB ra with
  | none => simp only [e] at q1; exact False.elim q1
  | some c =>
    simp only [e, Rs.of_some, Rs.bind_ok] at q1
    obtain rfl := asB_ok e
    exact ⟨c, dn_bl rel1, q1 P1 H1 g1⟩
end
theorem apart1 {K : PySem.W.Frag} {c : Str} {C : Addr} (h : ClsAt K c C) (m : PySem.W.makesIn K C = true) : Apart K [c] := by
  intro d hd
  cases List.mem_singleton.mp hd
  exact ⟨C, h, m, fun c' hc' ne => absurd (List.mem_singleton.mp hc') ne⟩
end DL

/-! DL, part 48: a, b = e, f where a, b are cells. -/
namespace DL
open PySem PySem.Spec L2
open PyProof.Rows hiding St
set_option autoImplicit false
theorem ds_parC {X : Cx} {E : We} {i j : Nat} {x y : Str} {a b : Expr} {fa fb : Fe} {oi oj : Bool} {px py pt pos : Pos} {kt k2 pt2} (hc : X.calm = true) (hpx : PG X (.Name x px) (gName i)) (hpy : PG X (.Name y py) (gName j)) (hij : i ≠ j)
    (ha : DE X E a fa) (hb : DE X E b fb)
    (hw : swappedStores [.Tuple [.Name x px, .Name y py] kt pt] (.Tuple [a, b] k2 pt2) X.env = pure none)
    (hs : swapsWithSole [.Tuple [.Name x px, .Name y py] kt pt] (.Tuple [a, b] k2 pt2) pos.line X.env = pure false := by rfl) (h1 : (assignEach [.Tuple [.Name x px, .Name y py] kt pt] X.env).map (·.2) = [assign (.Tuple [.Name x px, .Name y py] kt pt) X.env] := by rfl)
    (he : starEach [a, b] X.env = (false, eval a X.env) :: starEach [b] X.env := by rfl) (he2 : starEach [b] X.env = (false, eval b X.env) :: starEach [] X.env := by rfl)
    (hn : (assignEach [.Name x px, .Name y py] X.env).length = 2 := by rfl) (hst : (assignEach [.Name x px, .Name y py] X.env).findIdx? (·.1) = none := by rfl) :
    DS X E (.Assign [.Tuple [.Name x px, .Name y py] kt pt] (.Tuple [a, b] k2 pt2) pos) (gPar i j oi oj fa fb) := by
  refine ps_imp (ps_asg (pe_tup (pa_cons ha (pa_cons hb pa_nil he2) he)) (pg_tup (n := 2) hc (pgs_cons hpx (pgs_cons hpy L2.pgs_nil)) hn hst) hs hw h1) fun D σ H ⟨P, es, ok, h⟩ => ?_
  -- the first one, as a slot's content
  have h := GS.bind h
  refine ⟨P, es, ok, ?_⟩
  cases e0 : fa es with
  | ex x' es' => rw [e0] at h; exact fun P' H' cls od t rel => h σ P' H' cls od (.of t) rel
  | st => rw [e0] at h; exact h
  | ok p =>
    rw [e0] at h
    intro v P1 H1 g1 rel1
    obtain ⟨s, e1, h1⟩ := GS.of (GS.bind h)
    obtain ⟨s, es2⟩ := s
    obtain ⟨P2, g2, sl2⟩ := toSl_ok g1 rel1 e1
    have h2 := GS.bind h1
    simp only at h2
    refine ⟨P2, es2, g2.ok, ?_⟩
    cases e3 : fb es2 with
    | ex x' es' => rw [e3] at h2; exact fun P' H' cls od t rel => h2 σ P' H' cls od (.of (g2.trans t)) rel
    | st => rw [e3] at h2; exact h2
    | ok q =>
      rw [e3] at h2
      intro w P3 H3 g3 rel3
      obtain ⟨t, e4, h4⟩ := GS.of (GS.bind h2)
      obtain ⟨t, es4⟩ := t
      -- the second one is new behind the first
      obtain ⟨P4, g4, sl4⟩ := toSl_ok g3 rel3 e4
      have sl2' := sl2.step g4
      simp only at h4
      split at h4
      · rename_i hk
        obtain ⟨n1, n2, _⟩ := hk
        refine ⟨by rw [sizeLine_eq]; simp, fun p n => ⟨p, [v, w], rfl, .inl (.inl upd_same), rfl, v, [w], rfl, w, [], rfl, rfl, h4 _ P4 (upd H3 p (.tup [v, w])) ?_⟩⟩
        have ge := (GoE.refl (g2.trans g4).ok).alloc (o := .tup [v, w]) n
        have sl4 := sl4.step ge
        have sl2' := sl2'.step ge
        have base : GoS (kx X E) σ es P H σ es4 P4 (upd H3 p (.tup [v, w])) := .of ((g2.trans g4).alloc n)
        have put1 : GoS (kx X E) σ es P H (σ.set i (some v)) (es4.set i (some s)) P4 (upd H3 p (.tup [v, w])) := base.put n1 (by
          cases s with
          | sh d => exact .inl ⟨d, rfl, sl2'⟩
          | ow d => obtain ⟨a, z1, z2, z3, z4⟩ := sl2'; exact .inr (.inr ⟨d, a, rfl, z1, z2, z3, z4⟩)
          | io d => exact sl2'.elim)
        refine put1.put (by unfold isIo at n2 ⊢; rw [List.getElem?_set_ne hij]; exact n2) ?_
        cases t with
        | sh d => exact .inl ⟨d, rfl, sl4⟩
        | ow d =>
          obtain ⟨c, z1, z2, z3, z4⟩ := sl4
          refine .inr (.inr ⟨d, c, rfl, z1, z2, fun ⟨k, y', k1, k2⟩ => ?_, g2.st.free z4⟩)
          rcases ownAt_set k1 with ⟨ek, q⟩ | ⟨nk, q⟩
          · subst ek
            -- the first one's object stood ahead of the second
            cases s with
            | sh d' => rcases q with q | q <;> cases q
            | ow d' =>
              obtain ⟨b, o, eb, hb'⟩ := sl2.trk
              have : v = .ref c := by
                by_cases hl : k < σ.length
                · rw [List.getElem?_set_self hl] at k2
                  cases k2; rfl
                · rw [List.getElem?_eq_none (by simpa using hl)] at k2; cases k2
              rw [eb] at this
              cases this
              rw [z4] at hb'; cases hb'
            | io d' => exact sl2.elim
          · rw [List.getElem?_set_ne (Ne.symm nk)] at k2
            exact z3 ⟨k, y', q, k2⟩
        | io d => exact sl4.elim
      · exact False.elim h4

end DL

namespace K02
open PySem PySem.Spec L2 DL
open PyProof.Rows hiding St
set_option autoImplicit false
def topS (i : Nat) : Stmt := PySem.Challenge.pw_finestcuts_k02_whole_clashes_of_deeds.main.body.getD i (.Pass ⟨0, 0, 0, 0⟩)
abbrev s_is_short_integer : Stmt := topS 5
theorem sc_is_short_integer : FnScope ["value"] ["value"] (defScope s_is_short_integer) := ⟨rfl, rfl, rfl, by decide +kernel, rfl, by decide +kernel, by decide +kernel⟩
abbrev s_is_name : Stmt := topS 6
theorem sc_is_name : FnScope ["value", "letter"] ["value"] (defScope s_is_name) := ⟨rfl, rfl, rfl, by decide +kernel, rfl, by decide +kernel, by decide +kernel⟩
abbrev s_is_pair : Stmt := topS 7
theorem sc_is_pair : FnScope ["value"] ["value"] (defScope s_is_pair) := ⟨rfl, rfl, rfl, by decide +kernel, rfl, by decide +kernel, by decide +kernel⟩
abbrev s_is_headed : Stmt := topS 8
theorem sc_is_headed : FnScope ["value", "words", "size", "head"] ["value", "words", "size"] (defScope s_is_headed) := ⟨rfl, rfl, rfl, by decide +kernel, rfl, by decide +kernel, by decide +kernel⟩
abbrev s_is_place : Stmt := topS 11
theorem sc_is_place : FnScope ["value", "table", "index"] ["value"] (defScope s_is_place) := ⟨rfl, rfl, rfl, by decide +kernel, rfl, by decide +kernel, by decide +kernel⟩
abbrev s_is_term : Stmt := topS 12
theorem sc_is_term : FnScope ["value", "factor", "name"] ["value"] (defScope s_is_term) := ⟨rfl, rfl, rfl, by decide +kernel, rfl, by decide +kernel, by decide +kernel⟩
abbrev s_is_sum : Stmt := topS 13
theorem sc_is_sum : FnScope ["value", "_", "constant", "terms", "at", "term"] ["value"] (defScope s_is_sum) := ⟨rfl, rfl, rfl, by decide +kernel, rfl, by decide +kernel, by decide +kernel⟩
abbrev s_is_deed : Stmt := topS 14
theorem sc_is_deed : FnScope ["value"] ["value"] (defScope s_is_deed) := ⟨rfl, rfl, rfl, by decide +kernel, rfl, by decide +kernel, by decide +kernel⟩
abbrev s_are_alike : Stmt := topS 15
theorem sc_are_alike : FnScope ["one", "other"] ["one", "other"] (defScope s_are_alike) := ⟨rfl, rfl, rfl, by decide +kernel, rfl, by decide +kernel, by decide +kernel⟩
abbrev s_are_clashing : Stmt := topS 16
theorem sc_are_clashing : FnScope ["one", "other"] ["one", "other"] (defScope s_are_clashing) := ⟨rfl, rfl, rfl, by decide +kernel, rfl, by decide +kernel, by decide +kernel⟩
abbrev s_do_clash : Stmt := topS 17
theorem sc_do_clash : FnScope ["one", "other", "deed"] ["one", "other"] (defScope s_do_clash) := ⟨rfl, rfl, rfl, by decide +kernel, rfl, by decide +kernel, by decide +kernel⟩
abbrev s_apply : Stmt := topS 19
theorem sc_apply : FnScope ["deed", "item", "value", "amount", "word"] ["deed", "item", "value", "amount"] (defScope s_apply) := ⟨rfl, rfl, rfl, by decide +kernel, rfl, by decide +kernel, by decide +kernel⟩
abbrev s__law_pool : Stmt := topS 21
theorem sc__law_pool : FnScope ["_law_script", "_law_k", "_law_cell", "_law_size", "_law_seed"] ["_law_script", "_law_k"] (defScope s__law_pool) := ⟨rfl, rfl, rfl, by decide +kernel, rfl, by decide +kernel, by decide +kernel⟩
abbrev s__law_draw : Stmt := topS 22
theorem sc__law_draw : FnScope ["_law_pool_here", "_law_count", "_law_found"] ["_law_pool_here", "_law_count"] (defScope s__law_draw) := ⟨rfl, rfl, rfl, by decide +kernel, rfl, by decide +kernel, by decide +kernel⟩
abbrev s__law_sum : Stmt := topS 23
theorem sc__law_sum : FnScope ["_law_pool_here", "_law_names", "_law_total", "_law_turn", "_law_name", "_law_terms"] ["_law_pool_here", "_law_names"] (defScope s__law_sum) := ⟨rfl, rfl, rfl, by decide +kernel, rfl, by decide +kernel, by decide +kernel⟩
abbrev s__law_deed : Stmt := topS 24
theorem sc__law_deed : FnScope ["_law_pool_here", "_law_params", "_law_known", "_law_some", "_law_place", "_law_word"] ["_law_pool_here", "_law_params", "_law_known"] (defScope s__law_deed) := ⟨rfl, rfl, rfl, by decide +kernel, rfl, by decide +kernel, by decide +kernel⟩
abbrev s__law_clash : Stmt := topS 25
theorem sc__law_clash : FnScope ["_law_one", "_law_other"] ["_law_one", "_law_other"] (defScope s__law_clash) := ⟨rfl, rfl, rfl, by decide +kernel, rfl, by decide +kernel, by decide +kernel⟩
abbrev s__law_error : Stmt := topS 26
theorem sc__law_error : FnScope ["_law_one", "_law_other", "e"] ["_law_one", "_law_other"] (defScope s__law_error) := ⟨rfl, rfl, rfl, by decide +kernel, rfl, by decide +kernel, by decide +kernel⟩
abbrev s__law_amount : Stmt := topS 27
theorem sc__law_amount : FnScope ["_law_deed_here", "_law_spot", "_law_free", "_law_names", "_law_factor", "_law_name"] ["_law_deed_here", "_law_spot", "_law_free"] (defScope s__law_amount) := ⟨rfl, rfl, rfl, by decide +kernel, rfl, by decide +kernel, by decide +kernel⟩
abbrev s__law_same_ends : Stmt := topS 28
theorem sc__law_same_ends : FnScope ["_law_one", "_law_other", "_law_value", "_law_first", "_law_second", "_law_whole", "_law_spot", "_law_item", "_law_found", "_law_deed_here"] ["_law_one", "_law_other", "_law_value", "_law_first", "_law_second"] (defScope s__law_same_ends) := ⟨rfl, rfl, rfl, by decide +kernel, rfl, by decide +kernel, by decide +kernel⟩
abbrev s_law : Stmt := topS 29
theorem sc_law : FnScope ["_law_script", "_law_k", "_law_pool_here", "_law_turn", "_law_one", "_law_other", "_law_value", "_law_first", "_law_second", "_law_odd", "_law_number"] ["_law_script"] (defScope s_law) := ⟨rfl, rfl, rfl, by decide +kernel, rfl, by decide +kernel, by decide +kernel⟩
/-! ### what the defs do, on data -/
def c_RESERVED : D := .tup [.str "kind", .str "unlike", .str "backs", .str "alone", .str "read", .str "add", .str "raise", .str "lower", .str "put", .str "check", .str "choose", .str "or", .str "end", .str "none"]
def c_CHANGES : D := .tup [.str "add", .str "raise", .str "lower", .str "put"]
def g_is_short_integer : Fs := (gRet (fAnd (fOp isZ (fUn tyZ (fVar 0)) (fCon (.ty "int"))) (fOp ltZ (fUn absZ (fVar 0)) (fOp mulD (fOp powD (fCon (.int 10)) (fCon (.int 50))) (fOp powD (fCon (.int 10)) (fCon (.int 50)))))))
def m_is_short_integer : Fe := mDef 1 g_is_short_integer
def g_is_name : Fs := (gSeq (gIf (fOrT (fTB (fOp isNotZ (fUn tyZ (fVar 0)) (fCon (.ty "str")))) (fNotT (fTB (fChain leZ leZ (fCon (.int 1)) (fUn lenZ (fVar 0)) (fCon (.int 8))))))
  (gRet (fCon (.bl false)))
  gNil)
  (gRet (fAnd (fOp notInZ (fVar 0) (fCon c_RESERVED)) (fUn allZ (fLc (iAnyF (fVar 0)) (ptName 1) ftYes (fChain leZ leZ (fCon (.str "a")) (fVar 1) (fCon (.str "z"))) [1])))))
def m_is_name : Fe := mDef 2 g_is_name
def g_is_pair : Fs := (gRet (fAnd (fOp isZ (fUn tyZ (fVar 0)) (fCon (.ty "tuple"))) (fOp eqZ (fUn lenZ (fVar 0)) (fCon (.int 2)))))
def m_is_pair : Fe := mDef 1 g_is_pair
def g_is_headed : Fs := (gSeq (gIf (fOrT (fTB (fOp isNotZ (fUn tyZ (fVar 0)) (fCon (.ty "tuple")))) (fTB (fOp neZ (fUn lenZ (fVar 0)) (fVar 2))))
  (gRet (fCon (.bl false)))
  gNil)
  (gSeq (gAsg (fOp ixZ (fVar 0) (fCon (.int 0))) (ptName 3))
  (gRet (fAnd (fOp isZ (fUn tyZ (fVar 3)) (fCon (.ty "str"))) (fOp inZ (fVar 3) (fVar 1))))))
def m_is_headed : Fe := mDef 4 g_is_headed
def g_is_place : Fs := (gSeq (gIf (fNotT (fTru (fCall (noX m_is_pair) [(false, (fVar 0))] [])))
  (gRet (fCon (.bl false)))
  gNil)
  (gSeq (gAsg (fVar 0) (ptTup [(ptName 1), (ptName 2)]))
  (gRet (fAnd (fCall (noX m_is_name) [(false, (fVar 1))] []) (fOr (fCall (noX m_is_name) [(false, (fVar 2))] []) (fCall (noX m_is_short_integer) [(false, (fVar 2))] []))))))
def m_is_place : Fe := mDef 3 g_is_place
def g_is_term : Fs := (gSeq (gIf (fNotT (fTru (fCall (noX m_is_pair) [(false, (fVar 0))] [])))
  (gRet (fCon (.bl false)))
  gNil)
  (gSeq (gAsg (fVar 0) (ptTup [(ptName 1), (ptName 2)]))
  (gRet (fAnd (fCall (noX m_is_short_integer) [(false, (fVar 1))] []) (fAnd (fOp neZ (fVar 1) (fCon (.int 0))) (fCall (noX m_is_name) [(false, (fVar 2))] []))))))
def m_is_term : Fe := mDef 3 g_is_term
def g_is_sum : Fs := (gSeq (gIf (fNotT (fTru (fCall (noX m_is_headed) [(false, (fVar 0)), (false, (fTup [(fCon (.str "sum"))])), (false, (fCon (.int 3)))] [])))
  (gRet (fCon (.bl false)))
  gNil)
  (gSeq (gAsg (fVar 0) (ptTup [(ptName 1), (ptName 2), (ptName 3)]))
  (gSeq (gIf (fOrT (fNotT (fTru (fCall (noX m_is_short_integer) [(false, (fVar 2))] []))) (fTB (fOp isNotZ (fUn tyZ (fVar 3)) (fCon (.ty "tuple")))))
  (gRet (fCon (.bl false)))
  gNil)
  (gSeq (gIf (fNotT (fTru (fUn allZ (fLc (iAnyF (fVar 3)) (ptName 5) ftYes (fCall (noX m_is_term) [(false, (fVar 5))] []) [5]))))
  (gRet (fCon (.bl false)))
  gNil)
  (gRet (fUn allZ (fLc (iRng1F (fOp subD (fUn lenZ (fVar 3)) (fCon (.int 1)))) (ptName 4) ftYes (fOp ltZ (fOp ixZ (fOp ixZ (fVar 3) (fVar 4)) (fCon (.int 1))) (fOp ixZ (fOp ixZ (fVar 3) (fOp addD (fVar 4) (fCon (.int 1)))) (fCon (.int 1)))) [4])))))))
def m_is_sum : Fe := mDef 6 g_is_sum
def g_is_deed : Fs := (gSeq (gIf (fTru (fCall (noX m_is_headed) [(false, (fVar 0)), (false, (fTup [(fCon (.str "read"))])), (false, (fCon (.int 3)))] []))
  (gRet (fAnd (fCall (noX m_is_place) [(false, (fOp ixZ (fVar 0) (fCon (.int 1))))] []) (fCall (noX m_is_name) [(false, (fOp ixZ (fVar 0) (fCon (.int 2))))] [])))
  gNil)
  (gRet (fAnd (fCall (noX m_is_headed) [(false, (fVar 0)), (false, (fCon c_CHANGES)), (false, (fCon (.int 3)))] []) (fAnd (fCall (noX m_is_place) [(false, (fOp ixZ (fVar 0) (fCon (.int 1))))] []) (fCall (noX m_is_sum) [(false, (fOp ixZ (fVar 0) (fCon (.int 2))))] [])))))
def m_is_deed : Fe := mDef 1 g_is_deed
def g_are_alike : Fs := (gSeq (gIf (fTB (fOp neZ (fOp ixZ (fVar 0) (fCon (.int 0))) (fOp ixZ (fVar 1) (fCon (.int 0)))))
  (gRet (fCon (.bl false)))
  gNil)
  (gSeq (gIf (fTB (fOp neZ (fOp ixZ (fVar 0) (fCon (.int 0))) (fCon (.str "put"))))
  (gRet (fCon (.bl true)))
  gNil)
  (gRet (fAnd (fOp eqZ (fOp ixZ (fVar 0) (fCon (.int 2))) (fOp ixZ (fVar 1) (fCon (.int 2)))) (fNotV (fOp ixZ (fOp ixZ (fVar 0) (fCon (.int 2))) (fCon (.int 2))))))))
def m_are_alike : Fe := mDef 2 g_are_alike
def g_are_clashing : Fs := (gRet (fAnd (fOp eqZ (fOp ixZ (fOp ixZ (fVar 0) (fCon (.int 1))) (fCon (.int 0))) (fOp ixZ (fOp ixZ (fVar 1) (fCon (.int 1))) (fCon (.int 0)))) (fNotV (fCall (noX m_are_alike) [(false, (fVar 0)), (false, (fVar 1))] []))))
def m_are_clashing : Fe := mDef 2 g_are_clashing
def g_do_clash : Fs := (gSeq (gFor (iAnyF (fTup [(fVar 0), (fVar 1)])) (ptName 2) (gIf (fNotT (fTru (fCall (noX m_is_deed) [(false, (fVar 2))] [])))
  (gRaise "InvalidItem" "value" (fVar 2))
  gNil))
  (gRet (fCall (noX m_are_clashing) [(false, (fVar 0)), (false, (fVar 1))] [])))
def m_do_clash : Fe := mDef 3 g_do_clash
def g_apply : Fs := (gSeq (gAsg (fOp ixZ (fVar 0) (fCon (.int 0))) (ptName 4))
  (gSeq (gIf (fTB (fOp eqZ (fVar 4) (fCon (.str "add"))))
  (gRet (fOp addD (fVar 2) (fVar 3)))
  gNil)
  (gSeq (gIf (fTB (fOp eqZ (fVar 4) (fCon (.str "raise"))))
  (gRet (fOp maxZ (fVar 2) (fVar 3)))
  gNil)
  (gSeq (gIf (fTB (fOp eqZ (fVar 4) (fCon (.str "lower"))))
  (gRet (fOp minZ (fVar 2) (fVar 3)))
  gNil)
  (gRet (fIfE (fTB (fOp eqZ (fVar 4) (fCon (.str "put")))) (fVar 3) (fVar 2)))))))
def m_apply : Fe := mDef 5 g_apply
def g__law_pool : Fs := (gSeq (gAsg (fCon (.int 0)) (ptName 2))
  (gSeq (gIf (fTB (fOp ltZ (fVar 1) (fUn lenZ (fVar 0))))
  (gAsg (fOp ixZ (fVar 0) (fVar 1)) (ptName 2))
  gNil)
  (gSeq (gAsg (fUn absZ (fVar 2)) (ptName 3))
  (gSeq (gAsg (fOp modD (fOp mulD (fOp addD (fOp addD (fOp modD (fVar 3) (fCon (.int 2147483629))) (fOp mulD (fCon (.int 7919)) (fVar 1))) (fCon (.int 31))) (fCon (.int 48271))) (fCon (.int 2147483647))) (ptName 4))
  (gRet (fLst [(fOp mulD (fVar 3) (fUn intZ (fOp geZ (fVar 3) (fOp powD (fCon (.int 10)) (fCon (.int 18)))))), (fVar 4)]))))))
def m__law_pool : Fe := mDef 5 g__law_pool
def g__law_draw : Fs := (gSeq (gIf (fTB (fOp gtZ (fOp ixZ (fVar 0) (fCon (.int 0))) (fCon (.int 0))))
  (gSeq (gAsg (fOp modD (fOp ixZ (fVar 0) (fCon (.int 0))) (fVar 1)) (ptName 2))
  (gSeq (gSetI 0 (fCon (.int 0)) (fOp divD (fOp ixZ (fVar 0) (fCon (.int 0))) (fVar 1)))
  (gRet (fVar 2))))
  gNil)
  (gSeq (gSetI 0 (fCon (.int 1)) (fOp modD (fOp addD (fOp mulD (fOp ixZ (fVar 0) (fCon (.int 1))) (fCon (.int 48271))) (fCon (.int 11))) (fCon (.int 2147483647))))
  (gRet (fOp modD (fOp divD (fOp modD (fOp mulD (fOp ixZ (fVar 0) (fCon (.int 1))) (fOp ixZ (fVar 0) (fCon (.int 1)))) (fCon (.int 2147483629))) (fCon (.int 64))) (fVar 1)))))
def m__law_draw : Fe := mDef 3 g__law_draw
def g__law_sum : Fs := (gSeq (gOwn fDnew 2)
  (gSeq (gFor (iRng1F (fOp mulD (fCall (noX m__law_draw) [(true, (fVar 0)), (false, (fCon (.int 3)))] []) (fUn intZ (fOp neZ (fVar 1) (fLst []))))) (ptName 3) (gSeq (gAsg (fOp ixZ (fVar 1) (fCall (noX m__law_draw) [(true, (fVar 0)), (false, (fUn lenZ (fVar 1)))] [])) (ptName 4))
  (gDput 2 (fVar 4) (fOp addD (fGet2 (fVar 2) (fVar 4) (fCon (.int 0))) (fOp ixZ (fLst [(fCon (.int 1)), (fUn negD (fCon (.int 1))), (fCon (.int 2))]) (fCall (noX m__law_draw) [(true, (fVar 0)), (false, (fCon (.int 3)))] []))))))
  (gSeq (gAsg (fUn tupleZ (fLc (iAnyF (fUn sortZ (fVar 2))) (ptName 4) (fTB (fOp neZ (fOp dgetZ (fVar 2) (fVar 4)) (fCon (.int 0)))) (fTup [(fOp dgetZ (fVar 2) (fVar 4)), (fVar 4)]) [4])) (ptName 5))
  (gRet (fTup [(fCon (.str "sum")), (fOp ixZ (fLst [(fCon (.int 0)), (fCon (.int 1)), (fUn negD (fCon (.int 2))), (fCon (.int 5))]) (fCall (noX m__law_draw) [(true, (fVar 0)), (false, (fCon (.int 4)))] [])), (fVar 5)])))))
def m__law_sum : Fe := mDef 6 g__law_sum
def g__law_deed : Fs := (gSeq (gAsg (fOp addD (fOp addD (fVar 1) (fVar 1)) (fSl (fLst [(fCon (.int 0)), (fCon (.int 1))]) none (some (fOp addD (fCon (.int 1)) (fCall (noX m__law_draw) [(true, (fVar 0)), (false, (fCon (.int 2)))] []))))) (ptName 3))
  (gSeq (gAsg (fTup [(fOp ixZ (fLst [(fCon (.str "a")), (fCon (.str "b"))]) (fCall (noX m__law_draw) [(true, (fVar 0)), (false, (fCon (.int 2)))] [])), (fOp ixZ (fVar 3) (fCall (noX m__law_draw) [(true, (fVar 0)), (false, (fUn lenZ (fVar 3)))] []))]) (ptName 4))
  (gSeq (gAsg (fOp ixZ (fLst [(fCon (.str "read")), (fCon (.str "read")), (fCon (.str "add")), (fCon (.str "add")), (fCon (.str "put")), (fCon (.str "raise")), (fCon (.str "lower"))]) (fCall (noX m__law_draw) [(true, (fVar 0)), (false, (fCon (.int 7)))] [])) (ptName 5))
  (gSeq (gIf (fTB (fOp eqZ (fVar 5) (fCon (.str "read"))))
  (gSeq (gExp (fApp 2 (fOp ixZ (fLst [(fCon (.str "x")), (fCon (.str "y"))]) (fCall (noX m__law_draw) [(true, (fVar 0)), (false, (fCon (.int 2)))] []))))
  (gRet (fTup [(fCon (.str "read")), (fVar 4), (fOp ixZ (fVar 2) (fUn negD (fCon (.int 1))))])))
  gNil)
  (gRet (fTup [(fVar 5), (fVar 4), (fCall (noX m__law_sum) [(true, (fVar 0)), (false, (fOp addD (fVar 1) (fVar 2)))] [])]))))))
def m__law_deed : Fe := mDef 6 g__law_deed
def g__law_clash : Fs := (gSeq (gIf (fTB (fOp neZ (fOp ixZ (fOp ixZ (fVar 0) (fCon (.int 1))) (fCon (.int 0))) (fOp ixZ (fOp ixZ (fVar 1) (fCon (.int 1))) (fCon (.int 0)))))
  (gRet (fCon (.bl false)))
  gNil)
  (gSeq (gIf (fTB (fOp neZ (fOp ixZ (fVar 0) (fCon (.int 0))) (fOp ixZ (fVar 1) (fCon (.int 0)))))
  (gRet (fCon (.bl true)))
  gNil)
  (gRet (fAnd (fOp eqZ (fOp ixZ (fVar 0) (fCon (.int 0))) (fCon (.str "put"))) (fNotV (fAnd (fOp eqZ (fOp ixZ (fVar 0) (fCon (.int 2))) (fOp ixZ (fVar 1) (fCon (.int 2)))) (fOp eqZ (fOp ixZ (fOp ixZ (fVar 0) (fCon (.int 2))) (fCon (.int 2))) (fTup []))))))))
def m__law_clash : Fe := mDef 2 g__law_clash
def g__law_error : Fs := (gSeq (gTry 2 (tblOf [("InvalidItem", true)])
  (gExp (fCall m_do_clash [(false, (fVar 0)), (false, (fVar 1))] []))
  (gRet (fLst [(fXc 2 ["InvalidItem"] "value"), (fIsE 2 (tblOf [("InvalidItem", true)])), (fIsE 2 (tblOf [("InvalidItem", true)]))])))
  (gRet (fCon .non)))
def m__law_error : Fe := mDef 3 g__law_error
def g__law_amount : Fs := (gSeq (gAsg (fDisp [((fCon (.str "p")), (fIfE (fTB (fOp eqZ (fOp ixZ (fOp ixZ (fVar 0) (fCon (.int 1))) (fCon (.int 1))) (fCon (.str "p")))) (fVar 1) (fVar 2))), ((fCon (.str "x")), (fOp addD (fVar 2) (fCon (.int 1))))]) (ptName 3))
  (gRet (fOp addD (fOp ixZ (fOp ixZ (fVar 0) (fCon (.int 2))) (fCon (.int 1))) (fUn sumZ (fLc (iAnyF (fOp ixZ (fOp ixZ (fVar 0) (fCon (.int 2))) (fCon (.int 2)))) (ptTup [(ptName 4), (ptName 5)]) ftYes (fOp mulD (fVar 4) (fOp dgetZ (fVar 3) (fVar 5))) [4, 5])))))
def m__law_amount : Fe := mDef 6 g__law_amount
def g__law_same_ends : Fs := (gSeq (gIf (fTB (fOp inZ (fCon (.str "read")) (fLst [(fOp ixZ (fVar 0) (fCon (.int 0))), (fOp ixZ (fVar 1) (fCon (.int 0)))])))
  (gRet (fCon (.bl true)))
  gNil)
  (gSeq (gAsg (fLc (iAnyF (fLst [(fVar 0), (fVar 1)])) (ptName 9) (fNotT (fTru (fOp isiZ (fOp ixZ (fOp ixZ (fVar 9) (fCon (.int 1))) (fCon (.int 1))) (fCon (.ty "str"))))) (fOp ixZ (fOp ixZ (fVar 9) (fCon (.int 1))) (fCon (.int 1))) [9]) (ptName 5))
  (gSeq (gIf (fAndT (fTB (fOp eqZ (fUn lenZ (fVar 5)) (fCon (.int 2)))) (fTB (fOp neZ (fOp ixZ (fVar 5) (fCon (.int 0))) (fOp ixZ (fVar 5) (fCon (.int 1))))))
  (gRet (fCon (.bl true)))
  gNil)
  (gSeq (gAsg (fOp ixZ (fOp addD (fVar 5) (fLst [(fCon (.int 1))])) (fCon (.int 0))) (ptName 6))
  (gSeq (gAsg (fTup [(fOp ixZ (fOp ixZ (fVar 0) (fCon (.int 1))) (fCon (.int 0))), (fVar 6)]) (ptName 7))
  (gSeq (gPar 3 4 false false (fCall (noX m__law_amount) [(false, (fVar 0)), (false, (fVar 6)), (false, (fVar 3))] []) (fCall (noX m__law_amount) [(false, (fVar 1)), (false, (fVar 6)), (false, (fVar 4))] []))
  (gSeq (gAsg (fCall (noX m_apply) [(false, (fVar 1)), (false, (fVar 7)), (false, (fCall (noX m_apply) [(false, (fVar 0)), (false, (fVar 7)), (false, (fVar 2)), (false, (fVar 3))] [])), (false, (fVar 4))] []) (ptName 8))
  (gRet (fOp eqZ (fVar 8) (fCall (noX m_apply) [(false, (fVar 0)), (false, (fVar 7)), (false, (fCall (noX m_apply) [(false, (fVar 1)), (false, (fVar 7)), (false, (fVar 2)), (false, (fVar 4))] [])), (false, (fVar 3))] []))))))))))
def m__law_same_ends : Fe := mDef 10 g__law_same_ends
def g_law : Fs := (gSeq (gFor (iRng1F (fOp maxZ (fCon (.int 1)) (fOp minZ (fCon (.int 8)) (fUn lenZ (fVar 0))))) (ptName 1) (gSeq (gOwn (fCall (noX m__law_pool) [(false, (fVar 0)), (false, (fVar 1))] []) 2)
  (gFor (iRng1F (fCon (.int 12))) (ptName 3) (gSeq (gPar 4 5 false false (fCallL (noX m__law_deed) [(true, (fVar 2)), (false, (fLst [(fCon (.str "p"))]))] (fLst [(fCon (.str "x"))])) (fCallL (noX m__law_deed) [(true, (fVar 2)), (false, (fLst [(fCon (.str "p"))]))] (fLst [(fCon (.str "x"))])))
  (gSeq (gIf (fTB (fOp neZ (fCall m_do_clash [(false, (fVar 4)), (false, (fVar 5))] []) (fCall (noX m__law_clash) [(false, (fVar 4)), (false, (fVar 5))] [])))
  (gRet (fCon (.bl false)))
  gNil)
  (gSeq (gIf (fTB (fOp neZ (fCall m_do_clash [(false, (fVar 5)), (false, (fVar 4))] []) (fCall m_do_clash [(false, (fVar 4)), (false, (fVar 5))] [])))
  (gRet (fCon (.bl false)))
  gNil)
  (gSeq (gIf (fTB (fOp neZ (fCall m_do_clash [(false, (fVar 4)), (false, (fVar 4))] []) (fAnd (fOp eqZ (fOp ixZ (fVar 4) (fCon (.int 0))) (fCon (.str "put"))) (fOp neZ (fOp ixZ (fOp ixZ (fVar 4) (fCon (.int 2))) (fCon (.int 2))) (fTup [])))))
  (gRet (fCon (.bl false)))
  gNil)
  (gSeq (gAsg (fLc (iRng1F (fCon (.int 3))) (ptName 10) ftYes (fOp subD (fCall (noX m__law_draw) [(true, (fVar 2)), (false, (fOp powD (fCon (.int 10)) (fCon (.int 9))))] []) (fOp powD (fCon (.int 10)) (fCon (.int 7)))) [10]) (ptLst [(ptName 6), (ptName 7), (ptName 8)]))
  (gSeq (gIf (fAndT (fTB (fOp eqZ (fOp ixZ (fOp ixZ (fVar 4) (fCon (.int 1))) (fCon (.int 0))) (fOp ixZ (fOp ixZ (fVar 5) (fCon (.int 1))) (fCon (.int 0))))) (fNotT (fTru (fCall m_do_clash [(false, (fVar 4)), (false, (fVar 5))] []))))
  (gIf (fNotT (fTru (fCall (noX m__law_same_ends) [(false, (fVar 4)), (false, (fVar 5)), (false, (fVar 6)), (false, (fVar 7)), (false, (fVar 8))] [])))
  (gRet (fCon (.bl false)))
  gNil)
  gNil)
  (gFor (iAnyF (fLst [(fCon .non), (fCon (.int 5)), (fTup []), (fLst [(fCon (.str "read")), (fTup [(fCon (.str "a")), (fCon (.int 1))]), (fCon (.str "x"))]), (fTup [(fCon (.str "read")), (fTup [(fCon (.str "a")), (fCon (.int 1))]), (fCon (.int 5))]), (fCon (.str "read"))])) (ptName 9) (gSeq (gIf (fTB (fOp neZ (fCall (noX m__law_error) [(false, (fVar 9)), (false, (fCon (.int 7)))] []) (fLst [(fVar 9), (fCon (.bl true)), (fCon (.bl true))])))
  (gRet (fCon (.bl false)))
  gNil)
  (gIf (fTB (fOp neZ (fCall (noX m__law_error) [(false, (fVar 4)), (false, (fVar 9))] []) (fLst [(fVar 9), (fCon (.bl true)), (fCon (.bl true))])))
  (gRet (fCon (.bl false)))
  gNil))))))))))))
  (gRet (fCon (.bl true))))
def m_law : Fe := mDef 11 g_law
abbrev si_InvalidItem : Stmt := inCls (topS 2) 0
theorem sci_InvalidItem : FnScope ["self", "value"] ["self", "value"] (defScope si_InvalidItem) := ⟨rfl, rfl, rfl, by decide +kernel, rfl, by decide +kernel, by decide +kernel⟩
/-! ### what the top has left -/
structure Ad where
  C_CutError : Addr
  C_InvalidItem : Addr
  fI_InvalidItem : Addr
  dI_InvalidItem : FuncData
  empty : Addr
  c_RESERVED : Addr
  c_CHANGES : Addr
  f_is_short_integer : Addr
  d_is_short_integer : FuncData
  f_is_name : Addr
  d_is_name : FuncData
  f_is_pair : Addr
  d_is_pair : FuncData
  f_is_headed : Addr
  d_is_headed : FuncData
  f_is_place : Addr
  d_is_place : FuncData
  f_is_term : Addr
  d_is_term : FuncData
  f_is_sum : Addr
  d_is_sum : FuncData
  f_is_deed : Addr
  d_is_deed : FuncData
  f_are_alike : Addr
  d_are_alike : FuncData
  f_are_clashing : Addr
  d_are_clashing : FuncData
  f_do_clash : Addr
  d_do_clash : FuncData
  f_apply : Addr
  d_apply : FuncData
  f__law_pool : Addr
  d__law_pool : FuncData
  f__law_draw : Addr
  d__law_draw : FuncData
  f__law_sum : Addr
  d__law_sum : FuncData
  f__law_deed : Addr
  d__law_deed : FuncData
  f__law_clash : Addr
  d__law_clash : FuncData
  f__law_error : Addr
  d__law_error : FuncData
  f__law_amount : Addr
  d__law_amount : FuncData
  f__law_same_ends : Addr
  d__law_same_ends : FuncData
  f_law : Addr
  d_law : FuncData
structure Txt (K : PySem.W.Frag) (mg : Str → Option Value) (a : Ad) : Prop where
  b_type : mg "type" = none
  b_int : mg "int" = none
  b_abs : mg "abs" = none
  b_str : mg "str" = none
  b_len : mg "len" = none
  b_all : mg "all" = none
  b_tuple : mg "tuple" = none
  b_range : mg "range" = none
  b_max : mg "max" = none
  b_min : mg "min" = none
  b_sorted : mg "sorted" = none
  b_isinstance : mg "isinstance" = none
  b_ValueError : mg "ValueError" = none
  b_sum : mg "sum" = none
  g_CutError : mg "CutError" = some (.ref a.C_CutError)
  n_CutError : ClsAt K "CutError" a.C_CutError
  g_InvalidItem : mg "InvalidItem" = some (.ref a.C_InvalidItem)
  n_InvalidItem : ClsAt K "InvalidItem" a.C_InvalidItem
  nf_InvalidItem : PySem.W.findIn K (.ref a.C_InvalidItem) "value" = some none
  o_InvalidItem : OexC K a.C_InvalidItem
  i_InvalidItem : PySem.W.findIn K (.ref a.C_InvalidItem) "__init__" = some (some (.ref a.fI_InvalidItem))
  t_InvalidItem : PySem.W.typeIn K (.ref a.fI_InvalidItem) = some (.type "function")
  FI_InvalidItem : Fun K "__init__" "InvalidItem.__init__" si_InvalidItem a.fI_InvalidItem a.dI_InvalidItem
  BI_InvalidItem : Binds K a.dI_InvalidItem ["self", "value"] []
  xf_InvalidItem : XfC K a.C_InvalidItem
  ex_InvalidItem : ExcC K a.C_InvalidItem
  is_InvalidItem_CutError : PySem.W.kitOne K (.ref a.C_InvalidItem) (.ref a.C_CutError) = some true
  is_InvalidItem_ValueError : PySem.W.kitOne K (.ref a.C_InvalidItem) (.type "ValueError") = some true
  ct_InvalidItem_InvalidItem : PySem.W.exmOne K (.ref a.C_InvalidItem) (.ref a.C_InvalidItem) = some true
  g_RESERVED : mg "RESERVED" = some (.ref a.c_RESERVED)
  d_RESERVED : ∀ P, Dn ⟨K, none⟩ P (.ref a.c_RESERVED) c_RESERVED
  g_CHANGES : mg "CHANGES" = some (.ref a.c_CHANGES)
  d_CHANGES : ∀ P, Dn ⟨K, none⟩ P (.ref a.c_CHANGES) c_CHANGES
  g_is_short_integer : mg "is_short_integer" = some (.ref a.f_is_short_integer)
  F_is_short_integer : Fun K "is_short_integer" "is_short_integer" s_is_short_integer a.f_is_short_integer a.d_is_short_integer
  B_is_short_integer : Binds K a.d_is_short_integer ["value"] []
  g_is_name : mg "is_name" = some (.ref a.f_is_name)
  F_is_name : Fun K "is_name" "is_name" s_is_name a.f_is_name a.d_is_name
  B_is_name : Binds K a.d_is_name ["value"] []
  g_is_pair : mg "is_pair" = some (.ref a.f_is_pair)
  F_is_pair : Fun K "is_pair" "is_pair" s_is_pair a.f_is_pair a.d_is_pair
  B_is_pair : Binds K a.d_is_pair ["value"] []
  g_is_headed : mg "is_headed" = some (.ref a.f_is_headed)
  F_is_headed : Fun K "is_headed" "is_headed" s_is_headed a.f_is_headed a.d_is_headed
  B_is_headed : Binds K a.d_is_headed ["value", "words", "size"] []
  g_is_place : mg "is_place" = some (.ref a.f_is_place)
  F_is_place : Fun K "is_place" "is_place" s_is_place a.f_is_place a.d_is_place
  B_is_place : Binds K a.d_is_place ["value"] []
  g_is_term : mg "is_term" = some (.ref a.f_is_term)
  F_is_term : Fun K "is_term" "is_term" s_is_term a.f_is_term a.d_is_term
  B_is_term : Binds K a.d_is_term ["value"] []
  g_is_sum : mg "is_sum" = some (.ref a.f_is_sum)
  F_is_sum : Fun K "is_sum" "is_sum" s_is_sum a.f_is_sum a.d_is_sum
  B_is_sum : Binds K a.d_is_sum ["value"] []
  g_is_deed : mg "is_deed" = some (.ref a.f_is_deed)
  F_is_deed : Fun K "is_deed" "is_deed" s_is_deed a.f_is_deed a.d_is_deed
  B_is_deed : Binds K a.d_is_deed ["value"] []
  g_are_alike : mg "are_alike" = some (.ref a.f_are_alike)
  F_are_alike : Fun K "are_alike" "are_alike" s_are_alike a.f_are_alike a.d_are_alike
  B_are_alike : Binds K a.d_are_alike ["one", "other"] []
  g_are_clashing : mg "are_clashing" = some (.ref a.f_are_clashing)
  F_are_clashing : Fun K "are_clashing" "are_clashing" s_are_clashing a.f_are_clashing a.d_are_clashing
  B_are_clashing : Binds K a.d_are_clashing ["one", "other"] []
  g_do_clash : mg "do_clash" = some (.ref a.f_do_clash)
  F_do_clash : Fun K "do_clash" "do_clash" s_do_clash a.f_do_clash a.d_do_clash
  B_do_clash : Binds K a.d_do_clash ["one", "other"] []
  g_apply : mg "apply" = some (.ref a.f_apply)
  F_apply : Fun K "apply" "apply" s_apply a.f_apply a.d_apply
  B_apply : Binds K a.d_apply ["deed", "item", "value", "amount"] []
  g__law_pool : mg "_law_pool" = some (.ref a.f__law_pool)
  F__law_pool : Fun K "_law_pool" "_law_pool" s__law_pool a.f__law_pool a.d__law_pool
  B__law_pool : Binds K a.d__law_pool ["_law_script", "_law_k"] []
  g__law_draw : mg "_law_draw" = some (.ref a.f__law_draw)
  F__law_draw : Fun K "_law_draw" "_law_draw" s__law_draw a.f__law_draw a.d__law_draw
  B__law_draw : Binds K a.d__law_draw ["_law_pool_here", "_law_count"] []
  g__law_sum : mg "_law_sum" = some (.ref a.f__law_sum)
  F__law_sum : Fun K "_law_sum" "_law_sum" s__law_sum a.f__law_sum a.d__law_sum
  B__law_sum : Binds K a.d__law_sum ["_law_pool_here", "_law_names"] []
  g__law_deed : mg "_law_deed" = some (.ref a.f__law_deed)
  F__law_deed : Fun K "_law_deed" "_law_deed" s__law_deed a.f__law_deed a.d__law_deed
  B__law_deed : Binds K a.d__law_deed ["_law_pool_here", "_law_params", "_law_known"] []
  g__law_clash : mg "_law_clash" = some (.ref a.f__law_clash)
  F__law_clash : Fun K "_law_clash" "_law_clash" s__law_clash a.f__law_clash a.d__law_clash
  B__law_clash : Binds K a.d__law_clash ["_law_one", "_law_other"] []
  g__law_error : mg "_law_error" = some (.ref a.f__law_error)
  F__law_error : Fun K "_law_error" "_law_error" s__law_error a.f__law_error a.d__law_error
  B__law_error : Binds K a.d__law_error ["_law_one", "_law_other"] []
  g__law_amount : mg "_law_amount" = some (.ref a.f__law_amount)
  F__law_amount : Fun K "_law_amount" "_law_amount" s__law_amount a.f__law_amount a.d__law_amount
  B__law_amount : Binds K a.d__law_amount ["_law_deed_here", "_law_spot", "_law_free"] []
  g__law_same_ends : mg "_law_same_ends" = some (.ref a.f__law_same_ends)
  F__law_same_ends : Fun K "_law_same_ends" "_law_same_ends" s__law_same_ends a.f__law_same_ends a.d__law_same_ends
  B__law_same_ends : Binds K a.d__law_same_ends ["_law_one", "_law_other", "_law_value", "_law_first", "_law_second"] []
  g_law : mg "law" = some (.ref a.f_law)
  F_law : Fun K "law" "law" s_law a.f_law a.d_law
  B_law : Binds K a.d_law ["_law_script"] []
/-! ### each def does so -/
section
variable {P : Program} {w : World} {K : PySem.W.Frag} {mg : Str → Option Value} {base : Heap} {a : Ad}
theorem xcl_InvalidItem (T : Txt K mg a) : Xcl P w K mg base "InvalidItem" "value" := ⟨⟨a.C_InvalidItem, a.fI_InvalidItem, a.dI_InvalidItem, "value", T.g_InvalidItem, T.n_InvalidItem, T.o_InvalidItem, T.i_InvalidItem, T.t_InvalidItem, xinit1 (s1 := .Pass ⟨0, 0, 0, 0⟩) T.FI_InvalidItem sci_InvalidItem T.o_InvalidItem T.nf_InvalidItem (fun cdv A outer s H E => pss_one (ps_ost (pv 0) (pv 1))), T.BI_InvalidItem⟩⟩
theorem ok_is_short_integer (T : Txt K mg a) : FnOk P w K mg base CX0 1 a.f_is_short_integer a.d_is_short_integer ["value"] (spD0 K 1 m_is_short_integer) :=
  fn_def T.F_is_short_integer sc_is_short_integer rfl fun cdv A outer s H E hr =>
  (dss_one (ds_ret (de_and (de_cmp op_isA isZ_ok (de_callT1 call_type1 tyZ_ok rfl T.b_type bt_type (de_var (pv 0))) (de_tyN rfl T.b_int bt_int) (nomark _)) (de_one (de_cmp op_ltA ltZ_ok (de_callB1 call_abs absZ_ok rfl T.b_abs bt_abs (de_var (pv 0))) (de_op op_mulA mulD_ok (de_op op_pow powD_ok de_int de_int) (de_op op_pow powD_ok de_int de_int)) (nomark _))))))
theorem ok_is_name (T : Txt K mg a) : FnOk P w K mg base CX0 1 a.f_is_name a.d_is_name ["value"] (spD0 K 1 m_is_name) :=
  fn_def T.F_is_name sc_is_name rfl fun cdv A outer s H E hr =>
  (dss_cons (ds_if (dt_w (dw_or (dt_cmp op_isNotA isNotZ_ok (de_callT1 call_type1 tyZ_ok rfl T.b_type bt_type (de_var (pv 0))) (de_tyN rfl T.b_str bt_str) (nomark _)) (dw_or1 (dt_not (dt_chain op_leA leZ_ok op_leA leZ_ok de_int (de_callB1 call_lenA lenZ_ok rfl T.b_len bt_len (de_var (pv 0))) de_int))))) (dss_one (ds_ret de_bl)) dss_nil)
  (dss_one (ds_ret (de_and (de_cmp op_notIn_seq notInZ_ok (de_var (pv 0)) (de_con (v := .ref a.c_RESERVED) (pe_glob rfl T.g_RESERVED rfl) T.d_RESERVED) (by with_unfolding_all rfl)) (de_one (de_callB1 (cr_all rfl) allZ_ok rfl T.b_all bt_all (de_lc (own := [("letter", 1)]) rfl sc_is_name.nd (di_any (de_var (pv 0))) (blkOk_by (by decide +kernel : blkC ["value", "letter"] (defScope s_is_name) _ _ = true)) (fun _ _ _ _ _ => (dg_name (pg_name (i := 1) sc_is_name.nd rfl (.inl rfl)))) (fun _ _ _ _ _ => dts_nil) (fun _ _ _ _ _ => (de_chain op_leA leZ_ok op_leA leZ_ok de_str (de_var (pv 1)) de_str)))))))))
theorem ok_is_pair (T : Txt K mg a) : FnOk P w K mg base CX0 1 a.f_is_pair a.d_is_pair ["value"] (spD0 K 1 m_is_pair) :=
  fn_def T.F_is_pair sc_is_pair rfl fun cdv A outer s H E hr =>
  (dss_one (ds_ret (de_and (de_cmp op_isA isZ_ok (de_callT1 call_type1 tyZ_ok rfl T.b_type bt_type (de_var (pv 0))) (de_tyN rfl T.b_tuple bt_tuple) (nomark _)) (de_one (de_cmp (op_eqD hr.units) eqZ_ok (de_callB1 call_lenA lenZ_ok rfl T.b_len bt_len (de_var (pv 0))) de_int (nomark _))))))
theorem ok_is_headed (T : Txt K mg a) : FnOk P w K mg base CX0 1 a.f_is_headed a.d_is_headed ["value", "words", "size"] (spD0 K 3 m_is_headed) :=
  fn_def T.F_is_headed sc_is_headed rfl fun cdv A outer s H E hr =>
  (dss_cons (ds_if (dt_w (dw_or (dt_cmp op_isNotA isNotZ_ok (de_callT1 call_type1 tyZ_ok rfl T.b_type bt_type (de_var (pv 0))) (de_tyN rfl T.b_tuple bt_tuple) (nomark _)) (dw_or1 (dt_cmp (op_neD hr.units) neZ_ok (de_callB1 call_lenA lenZ_ok rfl T.b_len bt_len (de_var (pv 0))) (de_var (pv 2)) (nomark _))))) (dss_one (ds_ret de_bl)) dss_nil)
  (dss_cons (ds_asg (de_ix ix_A ixZ_ok (de_var (pv 0)) de_int (fun _ _ => rfl)) (dg_name (pg_name (i := 3) sc_is_headed.nd rfl (.inl rfl))))
  (dss_one (ds_ret (de_and (de_cmp op_isA isZ_ok (de_callT1 call_type1 tyZ_ok rfl T.b_type bt_type (de_var (pv 3))) (de_tyN rfl T.b_str bt_str) (nomark _)) (de_one (de_cmp op_in_seq inZ_ok (de_var (pv 3)) (de_var (pv 1)) (by with_unfolding_all rfl))))))))
theorem ok_is_place (T : Txt K mg a) : FnOk P w K mg base CX0 2 a.f_is_place a.d_is_place ["value"] (spD0 K 1 m_is_place) :=
  fn_def T.F_is_place sc_is_place rfl fun cdv A outer s H E hr =>
  (dss_cons (ds_if (dt_not (dt_tru (de_call0 (fs := [(false, (fVar 0))]) (ok_is_pair T) (hr.mono (by decide)) rfl T.g_is_pair T.F_is_pair.kp T.B_is_pair .nil (fun _ => .nil) (.arg (b := false) (de_var (pv 0)) .nil)))) (dss_one (ds_ret de_bl)) dss_nil)
  (dss_cons (ds_asg (de_var (pv 0)) (dg_tup rfl (dgs_cons (dg_name (pg_name (i := 1) sc_is_place.nd rfl (.inl rfl))) (dgs_cons (dg_name (pg_name (i := 2) sc_is_place.nd rfl (.inl rfl))) dgs_nil))))
  (dss_one (ds_ret (de_and (de_call0 (fs := [(false, (fVar 1))]) (ok_is_name T) (hr.mono (by decide)) rfl T.g_is_name T.F_is_name.kp T.B_is_name .nil (fun _ => .nil) (.arg (b := false) (de_var (pv 1)) .nil)) (de_one (de_or (de_call0 (fs := [(false, (fVar 2))]) (ok_is_name T) (hr.mono (by decide)) rfl T.g_is_name T.F_is_name.kp T.B_is_name .nil (fun _ => .nil) (.arg (b := false) (de_var (pv 2)) .nil)) (de_one (de_call0 (fs := [(false, (fVar 2))]) (ok_is_short_integer T) (hr.mono (by decide)) rfl T.g_is_short_integer T.F_is_short_integer.kp T.B_is_short_integer .nil (fun _ => .nil) (.arg (b := false) (de_var (pv 2)) .nil))))))))))
theorem ok_is_term (T : Txt K mg a) : FnOk P w K mg base CX0 2 a.f_is_term a.d_is_term ["value"] (spD0 K 1 m_is_term) :=
  fn_def T.F_is_term sc_is_term rfl fun cdv A outer s H E hr =>
  (dss_cons (ds_if (dt_not (dt_tru (de_call0 (fs := [(false, (fVar 0))]) (ok_is_pair T) (hr.mono (by decide)) rfl T.g_is_pair T.F_is_pair.kp T.B_is_pair .nil (fun _ => .nil) (.arg (b := false) (de_var (pv 0)) .nil)))) (dss_one (ds_ret de_bl)) dss_nil)
  (dss_cons (ds_asg (de_var (pv 0)) (dg_tup rfl (dgs_cons (dg_name (pg_name (i := 1) sc_is_term.nd rfl (.inl rfl))) (dgs_cons (dg_name (pg_name (i := 2) sc_is_term.nd rfl (.inl rfl))) dgs_nil))))
  (dss_one (ds_ret (de_and (de_call0 (fs := [(false, (fVar 1))]) (ok_is_short_integer T) (hr.mono (by decide)) rfl T.g_is_short_integer T.F_is_short_integer.kp T.B_is_short_integer .nil (fun _ => .nil) (.arg (b := false) (de_var (pv 1)) .nil)) (de_and (de_cmp (op_neD hr.units) neZ_ok (de_var (pv 1)) de_int (nomark _)) (de_one (de_call0 (fs := [(false, (fVar 2))]) (ok_is_name T) (hr.mono (by decide)) rfl T.g_is_name T.F_is_name.kp T.B_is_name .nil (fun _ => .nil) (.arg (b := false) (de_var (pv 2)) .nil)))))))))
theorem ok_is_sum (T : Txt K mg a) : FnOk P w K mg base CX0 3 a.f_is_sum a.d_is_sum ["value"] (spD0 K 1 m_is_sum) :=
  fn_def T.F_is_sum sc_is_sum rfl fun cdv A outer s H E hr =>
  (dss_cons (ds_if (dt_not (dt_tru (de_call0 (fs := [(false, (fVar 0)), (false, (fTup [(fCon (.str "sum"))])), (false, (fCon (.int 3)))]) (ok_is_headed T) (hr.mono (by decide)) rfl T.g_is_headed T.F_is_headed.kp T.B_is_headed .nil (fun _ => .nil) (.arg (b := false) (de_var (pv 0)) (.arg (b := false) (de_tup (fs := [(fCon (.str "sum"))]) (.arg de_str .nil)) (.arg (b := false) de_int .nil)))))) (dss_one (ds_ret de_bl)) dss_nil)
  (dss_cons (ds_asg (de_var (pv 0)) (dg_tup rfl (dgs_cons (dg_name (pg_name (i := 1) sc_is_sum.nd rfl (.inl rfl))) (dgs_cons (dg_name (pg_name (i := 2) sc_is_sum.nd rfl (.inl rfl))) (dgs_cons (dg_name (pg_name (i := 3) sc_is_sum.nd rfl (.inr rfl))) dgs_nil)))))
  (dss_cons (ds_if (dt_w (dw_or (dt_not (dt_tru (de_call0 (fs := [(false, (fVar 2))]) (ok_is_short_integer T) (hr.mono (by decide)) rfl T.g_is_short_integer T.F_is_short_integer.kp T.B_is_short_integer .nil (fun _ => .nil) (.arg (b := false) (de_var (pv 2)) .nil)))) (dw_or1 (dt_cmp op_isNotA isNotZ_ok (de_callT1 call_type1 tyZ_ok rfl T.b_type bt_type (de_var (pv 3))) (de_tyN rfl T.b_tuple bt_tuple) (nomark _))))) (dss_one (ds_ret de_bl)) dss_nil)
  (dss_cons (ds_if (dt_not (dt_tru (de_callB1 (cr_all rfl) allZ_ok rfl T.b_all bt_all (de_lc (own := [("term", 5)]) rfl sc_is_sum.nd (di_any (de_var (pv 3))) (blkOk_by (by decide +kernel : blkC ["value", "_", "constant", "terms", "at", "term"] (defScope s_is_sum) _ _ = true)) (fun _ _ _ _ _ => (dg_name (pg_name (i := 5) sc_is_sum.nd rfl (.inl rfl)))) (fun _ _ _ _ _ => dts_nil) (fun _ _ _ _ _ => (de_call0 (fs := [(false, (fVar 5))]) (ok_is_term T) (hr.mono (by decide)) rfl T.g_is_term T.F_is_term.kp T.B_is_term .nil (fun _ => .nil) (.arg (b := false) (de_var (pv 5)) .nil))))))) (dss_one (ds_ret de_bl)) dss_nil)
  (dss_one (ds_ret (de_callB1 (cr_all rfl) allZ_ok rfl T.b_all bt_all (de_lc (own := [("at", 4)]) rfl sc_is_sum.nd (di_range1 rfl T.b_range (de_op op_sub subD_ok (de_callB1 call_lenA lenZ_ok rfl T.b_len bt_len (de_var (pv 3))) de_int)) (blkOk_by (by decide +kernel : blkC ["value", "_", "constant", "terms", "at", "term"] (defScope s_is_sum) _ _ = true)) (fun _ _ _ _ _ => (dg_name (pg_name (i := 4) sc_is_sum.nd rfl (.inl rfl)))) (fun _ _ _ _ _ => dts_nil) (fun _ _ _ _ _ => (de_cmp op_ltA ltZ_ok (de_ix ix_A ixZ_ok (de_ix ix_A ixZ_ok (de_var (pv 3)) (de_var (pv 4)) (fun _ _ => rfl)) de_int (fun _ _ => rfl)) (de_ix ix_A ixZ_ok (de_ix ix_A ixZ_ok (de_var (pv 3)) (de_op op_addA addD_ok (de_var (pv 4)) de_int) (fun _ _ => rfl)) de_int (fun _ _ => rfl)) (nomark _)))))))))))
theorem ok_is_deed (T : Txt K mg a) : FnOk P w K mg base CX0 4 a.f_is_deed a.d_is_deed ["value"] (spD0 K 1 m_is_deed) :=
  fn_def T.F_is_deed sc_is_deed rfl fun cdv A outer s H E hr =>
  (dss_cons (ds_if (dt_tru (de_call0 (fs := [(false, (fVar 0)), (false, (fTup [(fCon (.str "read"))])), (false, (fCon (.int 3)))]) (ok_is_headed T) (hr.mono (by decide)) rfl T.g_is_headed T.F_is_headed.kp T.B_is_headed .nil (fun _ => .nil) (.arg (b := false) (de_var (pv 0)) (.arg (b := false) (de_tup (fs := [(fCon (.str "read"))]) (.arg de_str .nil)) (.arg (b := false) de_int .nil))))) (dss_one (ds_ret (de_and (de_call0 (fs := [(false, (fOp ixZ (fVar 0) (fCon (.int 1))))]) (ok_is_place T) (hr.mono (by decide)) rfl T.g_is_place T.F_is_place.kp T.B_is_place .nil (fun _ => .nil) (.arg (b := false) (de_ix ix_A ixZ_ok (de_var (pv 0)) de_int (fun _ _ => rfl)) .nil)) (de_one (de_call0 (fs := [(false, (fOp ixZ (fVar 0) (fCon (.int 2))))]) (ok_is_name T) (hr.mono (by decide)) rfl T.g_is_name T.F_is_name.kp T.B_is_name .nil (fun _ => .nil) (.arg (b := false) (de_ix ix_A ixZ_ok (de_var (pv 0)) de_int (fun _ _ => rfl)) .nil)))))) dss_nil)
  (dss_one (ds_ret (de_and (de_call0 (fs := [(false, (fVar 0)), (false, (fCon c_CHANGES)), (false, (fCon (.int 3)))]) (ok_is_headed T) (hr.mono (by decide)) rfl T.g_is_headed T.F_is_headed.kp T.B_is_headed .nil (fun _ => .nil) (.arg (b := false) (de_var (pv 0)) (.arg (b := false) (de_con (v := .ref a.c_CHANGES) (pe_glob rfl T.g_CHANGES rfl) T.d_CHANGES) (.arg (b := false) de_int .nil)))) (de_and (de_call0 (fs := [(false, (fOp ixZ (fVar 0) (fCon (.int 1))))]) (ok_is_place T) (hr.mono (by decide)) rfl T.g_is_place T.F_is_place.kp T.B_is_place .nil (fun _ => .nil) (.arg (b := false) (de_ix ix_A ixZ_ok (de_var (pv 0)) de_int (fun _ _ => rfl)) .nil)) (de_one (de_call0 (fs := [(false, (fOp ixZ (fVar 0) (fCon (.int 2))))]) (ok_is_sum T) (hr.mono (by decide)) rfl T.g_is_sum T.F_is_sum.kp T.B_is_sum .nil (fun _ => .nil) (.arg (b := false) (de_ix ix_A ixZ_ok (de_var (pv 0)) de_int (fun _ _ => rfl)) .nil))))))))
theorem ok_are_alike (T : Txt K mg a) : FnOk P w K mg base CX0 1 a.f_are_alike a.d_are_alike ["one", "other"] (spD0 K 2 m_are_alike) :=
  fn_def T.F_are_alike sc_are_alike rfl fun cdv A outer s H E hr =>
  (dss_cons (ds_if (dt_cmp (op_neD hr.units) neZ_ok (de_ix ix_A ixZ_ok (de_var (pv 0)) de_int (fun _ _ => rfl)) (de_ix ix_A ixZ_ok (de_var (pv 1)) de_int (fun _ _ => rfl)) (nomark _)) (dss_one (ds_ret de_bl)) dss_nil)
  (dss_cons (ds_if (dt_cmp (op_neD hr.units) neZ_ok (de_ix ix_A ixZ_ok (de_var (pv 0)) de_int (fun _ _ => rfl)) de_str (nomark _)) (dss_one (ds_ret de_bl)) dss_nil)
  (dss_one (ds_ret (de_and (de_cmp (op_eqD hr.units) eqZ_ok (de_ix ix_A ixZ_ok (de_var (pv 0)) de_int (fun _ _ => rfl)) (de_ix ix_A ixZ_ok (de_var (pv 1)) de_int (fun _ _ => rfl)) (nomark _)) (de_one (de_notV (de_ix ix_A ixZ_ok (de_ix ix_A ixZ_ok (de_var (pv 0)) de_int (fun _ _ => rfl)) de_int (fun _ _ => rfl)))))))))
theorem ok_are_clashing (T : Txt K mg a) : FnOk P w K mg base CX0 2 a.f_are_clashing a.d_are_clashing ["one", "other"] (spD0 K 2 m_are_clashing) :=
  fn_def T.F_are_clashing sc_are_clashing rfl fun cdv A outer s H E hr =>
  (dss_one (ds_ret (de_and (de_cmp (op_eqD hr.units) eqZ_ok (de_ix ix_A ixZ_ok (de_ix ix_A ixZ_ok (de_var (pv 0)) de_int (fun _ _ => rfl)) de_int (fun _ _ => rfl)) (de_ix ix_A ixZ_ok (de_ix ix_A ixZ_ok (de_var (pv 1)) de_int (fun _ _ => rfl)) de_int (fun _ _ => rfl)) (nomark _)) (de_one (de_notV (de_call0 (fs := [(false, (fVar 0)), (false, (fVar 1))]) (ok_are_alike T) (hr.mono (by decide)) rfl T.g_are_alike T.F_are_alike.kp T.B_are_alike .nil (fun _ => .nil) (.arg (b := false) (de_var (pv 0)) (.arg (b := false) (de_var (pv 1)) .nil))))))))
theorem ok_do_clash (T : Txt K mg a) : FnOk P w K mg base (L2.CX P w) 5 a.f_do_clash a.d_do_clash ["one", "other"] (spD K 2 m_do_clash) :=
  fn_defX T.F_do_clash sc_do_clash rfl fun cdv A outer s H E hr tk =>
  (dss_cons (ds_for (passes_of rfl) rfl (di_any (de_tup (fs := [(fVar 0), (fVar 1)]) (.arg (de_var (pv 0)) (.arg (de_var (pv 1)) .nil)))) (dg_name (pg_name (i := 2) sc_do_clash.nd rfl (.inl rfl))) (dss_one (ds_if (dt_not (dt_tru (de_call0 (fs := [(false, (fVar 2))]) (ok_is_deed T) (hr.mono (by decide)) rfl T.g_is_deed T.F_is_deed.kp T.B_is_deed .nil (fun _ => .nil) (.arg (b := false) (de_var (pv 2)) .nil)))) (dss_one (ds_raise rfl tk (xcl_InvalidItem T) (hr.mono (by decide)) rfl (de_var (pv 2)))) dss_nil)))
  (dss_one (ds_ret (de_call0 (fs := [(false, (fVar 0)), (false, (fVar 1))]) (ok_are_clashing T) (hr.mono (by decide)) rfl T.g_are_clashing T.F_are_clashing.kp T.B_are_clashing .nil (fun _ => .nil) (.arg (b := false) (de_var (pv 0)) (.arg (b := false) (de_var (pv 1)) .nil))))))
theorem ok_apply (T : Txt K mg a) : FnOk P w K mg base CX0 1 a.f_apply a.d_apply ["deed", "item", "value", "amount"] (spD0 K 4 m_apply) :=
  fn_def T.F_apply sc_apply rfl fun cdv A outer s H E hr =>
  (dss_cons (ds_asg (de_ix ix_A ixZ_ok (de_var (pv 0)) de_int (fun _ _ => rfl)) (dg_name (pg_name (i := 4) sc_apply.nd rfl (.inl rfl))))
  (dss_cons (ds_if (dt_cmp (op_eqD hr.units) eqZ_ok (de_var (pv 4)) de_str (nomark _)) (dss_one (ds_ret (de_op op_addA addD_ok (de_var (pv 2)) (de_var (pv 3))))) dss_nil)
  (dss_cons (ds_if (dt_cmp (op_eqD hr.units) eqZ_ok (de_var (pv 4)) de_str (nomark _)) (dss_one (ds_ret (de_callB2 (call_max2 rfl) maxZ_ok rfl T.b_max bt_max (de_var (pv 2)) (de_var (pv 3))))) dss_nil)
  (dss_cons (ds_if (dt_cmp (op_eqD hr.units) eqZ_ok (de_var (pv 4)) de_str (nomark _)) (dss_one (ds_ret (de_callB2 (call_min2 rfl) minZ_ok rfl T.b_min bt_min (de_var (pv 2)) (de_var (pv 3))))) dss_nil)
  (dss_one (ds_ret (de_ifE (dt_cmp (op_eqD hr.units) eqZ_ok (de_var (pv 4)) de_str (nomark _)) (de_var (pv 3)) (de_var (pv 2)))))))))
theorem ok__law_pool (T : Txt K mg a) : FnOk P w K mg base CX0 1 a.f__law_pool a.d__law_pool ["_law_script", "_law_k"] (spD0 K 2 m__law_pool) :=
  fn_def T.F__law_pool sc__law_pool rfl fun cdv A outer s H E hr =>
  (dss_cons (ds_asg de_int (dg_name (pg_name (i := 2) sc__law_pool.nd rfl (.inl rfl))))
  (dss_cons (ds_if (dt_cmp op_ltA ltZ_ok (de_var (pv 1)) (de_callB1 call_lenA lenZ_ok rfl T.b_len bt_len (de_var (pv 0))) (nomark _)) (dss_one (ds_asg (de_ix ix_A ixZ_ok (de_var (pv 0)) (de_var (pv 1)) (fun _ _ => rfl)) (dg_name (pg_name (i := 2) sc__law_pool.nd rfl (.inl rfl))))) dss_nil)
  (dss_cons (ds_asg (de_callB1 call_abs absZ_ok rfl T.b_abs bt_abs (de_var (pv 2))) (dg_name (pg_name (i := 3) sc__law_pool.nd rfl (.inl rfl))))
  (dss_cons (ds_asg (de_op op_mod modD_ok (de_op op_mulA mulD_ok (de_op op_addA addD_ok (de_op op_addA addD_ok (de_op op_mod modD_ok (de_var (pv 3)) de_int) (de_op op_mulA mulD_ok de_int (de_var (pv 1)))) de_int) de_int) de_int) (dg_name (pg_name (i := 4) sc__law_pool.nd rfl (.inl rfl))))
  (dss_one (ds_ret (de_lst (fs := [(fOp mulD (fVar 3) (fUn intZ (fOp geZ (fVar 3) (fOp powD (fCon (.int 10)) (fCon (.int 18)))))), (fVar 4)]) (.arg (de_op op_mulA mulD_ok (de_var (pv 3)) (de_callT1 call_intA intZ_ok rfl T.b_int bt_int (de_cmp op_geA geZ_ok (de_var (pv 3)) (de_op op_pow powD_ok de_int de_int) (nomark _)))) (.arg (de_var (pv 4)) .nil)))))))))
theorem ok__law_draw (T : Txt K mg a) : FnOk P w K mg base CX0 1 a.f__law_draw a.d__law_draw ["_law_pool_here", "_law_count"] (spD0 K 2 m__law_draw) :=
  fn_def T.F__law_draw sc__law_draw rfl fun cdv A outer s H E hr =>
  (dss_cons (ds_if (dt_cmp op_gtA gtZ_ok (de_ix ix_A ixZ_ok (de_var (pv 0)) de_int (fun _ _ => rfl)) de_int (nomark _)) (dss_cons (ds_asg (de_op op_mod modD_ok (de_ix ix_A ixZ_ok (de_var (pv 0)) de_int (fun _ _ => rfl)) (de_var (pv 1))) (dg_name (pg_name (i := 2) sc__law_draw.nd rfl (.inl rfl))))
  (dss_cons (ds_setI (pv 0) de_int (de_op op_divA divD_ok (de_ix ix_A ixZ_ok (de_var (pv 0)) de_int (fun _ _ => rfl)) (de_var (pv 1))))
  (dss_one (ds_ret (de_var (pv 2)))))) dss_nil)
  (dss_cons (ds_setI (pv 0) de_int (de_op op_mod modD_ok (de_op op_addA addD_ok (de_op op_mulA mulD_ok (de_ix ix_A ixZ_ok (de_var (pv 0)) de_int (fun _ _ => rfl)) de_int) de_int) de_int))
  (dss_one (ds_ret (de_op op_mod modD_ok (de_op op_divA divD_ok (de_op op_mod modD_ok (de_op op_mulA mulD_ok (de_ix ix_A ixZ_ok (de_var (pv 0)) de_int (fun _ _ => rfl)) (de_ix ix_A ixZ_ok (de_var (pv 0)) de_int (fun _ _ => rfl))) de_int) de_int) (de_var (pv 1)))))))
theorem ok__law_sum (T : Txt K mg a) : FnOk P w K mg base CX0 2 a.f__law_sum a.d__law_sum ["_law_pool_here", "_law_names"] (spD0 K 2 m__law_sum) :=
  fn_def T.F__law_sum sc__law_sum rfl fun cdv A outer s H E hr =>
  (dss_cons (ds_own de_dnew (pg_name (i := 2) sc__law_sum.nd rfl (.inr rfl)))
  (dss_cons (ds_for PassesOwn.never rfl (di_range1 rfl T.b_range (de_op op_mulA mulD_ok (de_call0 (fs := [(true, (fVar 0)), (false, (fCon (.int 3)))]) (ok__law_draw T) (hr.mono (by decide)) rfl T.g__law_draw T.F__law_draw.kp T.B__law_draw .nil (fun _ => .nil) (.arg (b := true) (de_var (pv 0)) (.arg (b := false) de_int .nil))) (de_callT1 call_intA intZ_ok rfl T.b_int bt_int (de_cmp (op_neD hr.units) neZ_ok (de_var (pv 1)) (de_lst (fs := []) .nil) (nomark _))))) (dg_name (pg_name (i := 3) sc__law_sum.nd rfl (.inl rfl))) (dss_cons (ds_asg (de_ix ix_A ixZ_ok (de_var (pv 1)) (de_call0 (fs := [(true, (fVar 0)), (false, (fUn lenZ (fVar 1)))]) (ok__law_draw T) (hr.mono (by decide)) rfl T.g__law_draw T.F__law_draw.kp T.B__law_draw .nil (fun _ => .nil) (.arg (b := true) (de_var (pv 0)) (.arg (b := false) (de_callB1 call_lenA lenZ_ok rfl T.b_len bt_len (de_var (pv 1))) .nil))) (fun _ _ => rfl)) (dg_name (pg_name (i := 4) sc__law_sum.nd rfl (.inl rfl))))
  (dss_one (ds_dput (hu_of hr) (pv 2) (de_var (pv 4)) (de_op op_addA addD_ok (de_get2 (hu_of hr) (de_var (pv 2)) (de_var (pv 4)) de_int ⟨rfl, rfl, rfl, rfl⟩) (de_ix ix_A ixZ_ok (de_lst (fs := [(fCon (.int 1)), (fUn negD (fCon (.int 1))), (fCon (.int 2))]) (.arg de_int (.arg (de_un un_neg negD_ok de_int) (.arg de_int .nil)))) (de_call0 (fs := [(true, (fVar 0)), (false, (fCon (.int 3)))]) (ok__law_draw T) (hr.mono (by decide)) rfl T.g__law_draw T.F__law_draw.kp T.B__law_draw .nil (fun _ => .nil) (.arg (b := true) (de_var (pv 0)) (.arg (b := false) de_int .nil))) (fun _ _ => rfl)))))))
  (dss_cons (ds_asg (de_callT1 call_tuple_of tupleZ_ok rfl T.b_tuple bt_tuple (de_lc (own := [("_law_name", 4)]) rfl sc__law_sum.nd (di_any (de_callB1 (call_sortA rfl) sortZ_ok rfl T.b_sorted bt_sorted (de_var (pv 2)))) (blkOk_by (by decide +kernel : blkC ["_law_pool_here", "_law_names", "_law_total", "_law_turn", "_law_name", "_law_terms"] (defScope s__law_sum) _ _ = true)) (fun _ _ _ _ _ => (dg_name (pg_name (i := 4) sc__law_sum.nd rfl (.inl rfl)))) (fun _ _ _ _ _ => (dts_one (dt_cmp (op_neD hr.units) neZ_ok (de_dget (hu_of hr) (de_var (pv 2)) (de_var (pv 4)) (fun _ _ => rfl)) de_int (nomark _)))) (fun _ _ _ _ _ => (de_tup (fs := [(fOp dgetZ (fVar 2) (fVar 4)), (fVar 4)]) (.arg (de_dget (hu_of hr) (de_var (pv 2)) (de_var (pv 4)) (fun _ _ => rfl)) (.arg (de_var (pv 4)) .nil)))))) (dg_name (pg_name (i := 5) sc__law_sum.nd rfl (.inl rfl))))
  (dss_one (ds_ret (de_tup (fs := [(fCon (.str "sum")), (fOp ixZ (fLst [(fCon (.int 0)), (fCon (.int 1)), (fUn negD (fCon (.int 2))), (fCon (.int 5))]) (fCall (noX m__law_draw) [(true, (fVar 0)), (false, (fCon (.int 4)))] [])), (fVar 5)]) (.arg de_str (.arg (de_ix ix_A ixZ_ok (de_lst (fs := [(fCon (.int 0)), (fCon (.int 1)), (fUn negD (fCon (.int 2))), (fCon (.int 5))]) (.arg de_int (.arg de_int (.arg (de_un un_neg negD_ok de_int) (.arg de_int .nil))))) (de_call0 (fs := [(true, (fVar 0)), (false, (fCon (.int 4)))]) (ok__law_draw T) (hr.mono (by decide)) rfl T.g__law_draw T.F__law_draw.kp T.B__law_draw .nil (fun _ => .nil) (.arg (b := true) (de_var (pv 0)) (.arg (b := false) de_int .nil))) (fun _ _ => rfl)) (.arg (de_var (pv 5)) .nil)))))))))
theorem ok__law_deed (T : Txt K mg a) : FnOk P w K mg base CX0 3 a.f__law_deed a.d__law_deed ["_law_pool_here", "_law_params", "_law_known"] (spD0 K 3 m__law_deed) :=
  fn_def T.F__law_deed sc__law_deed rfl fun cdv A outer s H E hr =>
  (dss_cons (ds_asg (de_op op_addA addD_ok (de_op op_addA addD_ok (de_var (pv 1)) (de_var (pv 1))) (de_sl (de_lst (fs := [(fCon (.int 0)), (fCon (.int 1))]) (.arg de_int (.arg de_int .nil))) .none (.some (de_op op_addA addD_ok de_int (de_call0 (fs := [(true, (fVar 0)), (false, (fCon (.int 2)))]) (ok__law_draw T) (hr.mono (by decide)) rfl T.g__law_draw T.F__law_draw.kp T.B__law_draw .nil (fun _ => .nil) (.arg (b := true) (de_var (pv 0)) (.arg (b := false) de_int .nil))))))) (dg_name (pg_name (i := 3) sc__law_deed.nd rfl (.inl rfl))))
  (dss_cons (ds_asg (de_tup (fs := [(fOp ixZ (fLst [(fCon (.str "a")), (fCon (.str "b"))]) (fCall (noX m__law_draw) [(true, (fVar 0)), (false, (fCon (.int 2)))] [])), (fOp ixZ (fVar 3) (fCall (noX m__law_draw) [(true, (fVar 0)), (false, (fUn lenZ (fVar 3)))] []))]) (.arg (de_ix ix_A ixZ_ok (de_lst (fs := [(fCon (.str "a")), (fCon (.str "b"))]) (.arg de_str (.arg de_str .nil))) (de_call0 (fs := [(true, (fVar 0)), (false, (fCon (.int 2)))]) (ok__law_draw T) (hr.mono (by decide)) rfl T.g__law_draw T.F__law_draw.kp T.B__law_draw .nil (fun _ => .nil) (.arg (b := true) (de_var (pv 0)) (.arg (b := false) de_int .nil))) (fun _ _ => rfl)) (.arg (de_ix ix_A ixZ_ok (de_var (pv 3)) (de_call0 (fs := [(true, (fVar 0)), (false, (fUn lenZ (fVar 3)))]) (ok__law_draw T) (hr.mono (by decide)) rfl T.g__law_draw T.F__law_draw.kp T.B__law_draw .nil (fun _ => .nil) (.arg (b := true) (de_var (pv 0)) (.arg (b := false) (de_callB1 call_lenA lenZ_ok rfl T.b_len bt_len (de_var (pv 3))) .nil))) (fun _ _ => rfl)) .nil))) (dg_name (pg_name (i := 4) sc__law_deed.nd rfl (.inl rfl))))
  (dss_cons (ds_asg (de_ix ix_A ixZ_ok (de_lst (fs := [(fCon (.str "read")), (fCon (.str "read")), (fCon (.str "add")), (fCon (.str "add")), (fCon (.str "put")), (fCon (.str "raise")), (fCon (.str "lower"))]) (.arg de_str (.arg de_str (.arg de_str (.arg de_str (.arg de_str (.arg de_str (.arg de_str .nil)))))))) (de_call0 (fs := [(true, (fVar 0)), (false, (fCon (.int 7)))]) (ok__law_draw T) (hr.mono (by decide)) rfl T.g__law_draw T.F__law_draw.kp T.B__law_draw .nil (fun _ => .nil) (.arg (b := true) (de_var (pv 0)) (.arg (b := false) de_int .nil))) (fun _ _ => rfl)) (dg_name (pg_name (i := 5) sc__law_deed.nd rfl (.inl rfl))))
  (dss_cons (ds_if (dt_cmp (op_eqD hr.units) eqZ_ok (de_var (pv 5)) de_str (nomark _)) (dss_cons (ds_exp (de_append (pv 2) (de_ix ix_A ixZ_ok (de_lst (fs := [(fCon (.str "x")), (fCon (.str "y"))]) (.arg de_str (.arg de_str .nil))) (de_call0 (fs := [(true, (fVar 0)), (false, (fCon (.int 2)))]) (ok__law_draw T) (hr.mono (by decide)) rfl T.g__law_draw T.F__law_draw.kp T.B__law_draw .nil (fun _ => .nil) (.arg (b := true) (de_var (pv 0)) (.arg (b := false) de_int .nil))) (fun _ _ => rfl))))
  (dss_one (ds_ret (de_tup (fs := [(fCon (.str "read")), (fVar 4), (fOp ixZ (fVar 2) (fUn negD (fCon (.int 1))))]) (.arg de_str (.arg (de_var (pv 4)) (.arg (de_ix ix_A ixZ_ok (de_var (pv 2)) (de_un un_neg negD_ok de_int) (fun _ _ => rfl)) .nil))))))) dss_nil)
  (dss_one (ds_ret (de_tup (fs := [(fVar 5), (fVar 4), (fCall (noX m__law_sum) [(true, (fVar 0)), (false, (fOp addD (fVar 1) (fVar 2)))] [])]) (.arg (de_var (pv 5)) (.arg (de_var (pv 4)) (.arg (de_call0 (fs := [(true, (fVar 0)), (false, (fOp addD (fVar 1) (fVar 2)))]) (ok__law_sum T) (hr.mono (by decide)) rfl T.g__law_sum T.F__law_sum.kp T.B__law_sum .nil (fun _ => .nil) (.arg (b := true) (de_var (pv 0)) (.arg (b := false) (de_op op_addA addD_ok (de_var (pv 1)) (de_var (pv 2))) .nil))) .nil))))))))))
theorem ok__law_clash (T : Txt K mg a) : FnOk P w K mg base CX0 1 a.f__law_clash a.d__law_clash ["_law_one", "_law_other"] (spD0 K 2 m__law_clash) :=
  fn_def T.F__law_clash sc__law_clash rfl fun cdv A outer s H E hr =>
  (dss_cons (ds_if (dt_cmp (op_neD hr.units) neZ_ok (de_ix ix_A ixZ_ok (de_ix ix_A ixZ_ok (de_var (pv 0)) de_int (fun _ _ => rfl)) de_int (fun _ _ => rfl)) (de_ix ix_A ixZ_ok (de_ix ix_A ixZ_ok (de_var (pv 1)) de_int (fun _ _ => rfl)) de_int (fun _ _ => rfl)) (nomark _)) (dss_one (ds_ret de_bl)) dss_nil)
  (dss_cons (ds_if (dt_cmp (op_neD hr.units) neZ_ok (de_ix ix_A ixZ_ok (de_var (pv 0)) de_int (fun _ _ => rfl)) (de_ix ix_A ixZ_ok (de_var (pv 1)) de_int (fun _ _ => rfl)) (nomark _)) (dss_one (ds_ret de_bl)) dss_nil)
  (dss_one (ds_ret (de_and (de_cmp (op_eqD hr.units) eqZ_ok (de_ix ix_A ixZ_ok (de_var (pv 0)) de_int (fun _ _ => rfl)) de_str (nomark _)) (de_one (de_notV (de_and (de_cmp (op_eqD hr.units) eqZ_ok (de_ix ix_A ixZ_ok (de_var (pv 0)) de_int (fun _ _ => rfl)) (de_ix ix_A ixZ_ok (de_var (pv 1)) de_int (fun _ _ => rfl)) (nomark _)) (de_one (de_cmp (op_eqD hr.units) eqZ_ok (de_ix ix_A ixZ_ok (de_ix ix_A ixZ_ok (de_var (pv 0)) de_int (fun _ _ => rfl)) de_int (fun _ _ => rfl)) (de_tup (fs := []) .nil) (nomark _)))))))))))
theorem ok__law_error (T : Txt K mg a) : FnOk P w K mg base CX0 6 a.f__law_error a.d__law_error ["_law_one", "_law_other"] (spD0 K 2 m__law_error) :=
  fn_def T.F__law_error sc__law_error rfl fun cdv A outer s H E hr =>
  (dss_cons (ds_try (i := 2) (c := .ref a.C_InvalidItem) (sub := tblOf [("InvalidItem", true)]) rfl rfl sc__law_error.nd rfl rfl ⟨rfl, by decide, .inl T.g_InvalidItem⟩ takes0 (fun c' C' b hs hC => (tbl_ok (P := fun c b => ∀ C', ClsAt K c C' → PySem.W.exmOne K (.ref C') (.ref a.C_InvalidItem) = some b) (l := [("InvalidItem", true)]) (List.forall_mem_cons.mpr ⟨fun C hC => (by obtain rfl := hC.one T.n_InvalidItem; exact T.ct_InvalidItem_InvalidItem), (fun _ h => nomatch h)⟩)) c' b hs C' hC)
  (fun W pn xe tk ow => (dss_one (ds_exp (de_call (fs := [(false, (fVar 0)), (false, (fVar 1))]) (ok_do_clash T) (hr.mono (by decide)) rfl T.g_do_clash T.F_do_clash.kp T.B_do_clash .nil (fun _ => .nil) (fun σ => passAt tk σ) (.arg (b := false) (de_var (pv 0)) (.arg (b := false) (de_var (pv 1)) .nil))))))
  (fun z dd C' oe pn hz hv => (dss_one (ds_ret (de_lst (fs := [(fXc 2 ["InvalidItem"] "value"), (fIsE 2 (tblOf [("InvalidItem", true)])), (fIsE 2 (tblOf [("InvalidItem", true)]))]) (.arg (de_xc (cs := ["InvalidItem"]) hz hv (List.forall_mem_cons.mpr ⟨fun C hC => (by obtain rfl := hC.one T.n_InvalidItem; exact ⟨T.xf_InvalidItem, T.nf_InvalidItem⟩), (fun _ h => nomatch h)⟩) (pv 2)) (.arg (de_isE (x := "isinstance") (v2 := (.ref a.C_CutError)) (cv := (.ref a.C_CutError)) (tbl := tblOf [("InvalidItem", true)]) hz hv (pv 2) (pe_glob rfl T.g_CutError rfl) (fun _ h => h) (tbl_ok (P := fun c b => ∀ C, ClsAt K c C → ExcC K C ∧ PySem.W.kitOne K (.ref C) (.ref a.C_CutError) = some b) (l := [("InvalidItem", true)]) (List.forall_mem_cons.mpr ⟨fun C hC => (by obtain rfl := hC.one T.n_InvalidItem; exact ⟨T.ex_InvalidItem, T.is_InvalidItem_CutError⟩), (fun _ h => nomatch h)⟩)) rfl T.b_isinstance) (.arg (de_isE (x := "isinstance") (v2 := (.ty "ValueError")) (cv := (.type "ValueError")) (tbl := tblOf [("InvalidItem", true)]) hz hv (pv 2) (pe_tyG rfl T.b_ValueError bt_ValueError) (fun _ h => h) (tbl_ok (P := fun c b => ∀ C, ClsAt K c C → ExcC K C ∧ PySem.W.kitOne K (.ref C) (.type "ValueError") = some b) (l := [("InvalidItem", true)]) (List.forall_mem_cons.mpr ⟨fun C hC => (by obtain rfl := hC.one T.n_InvalidItem; exact ⟨T.ex_InvalidItem, T.is_InvalidItem_ValueError⟩), (fun _ h => nomatch h)⟩)) rfl T.b_isinstance) .nil))))))))
  (dss_one (ds_ret de_non)))
theorem ok__law_amount (T : Txt K mg a) : FnOk P w K mg base CX0 1 a.f__law_amount a.d__law_amount ["_law_deed_here", "_law_spot", "_law_free"] (spD0 K 3 m__law_amount) :=
  fn_def T.F__law_amount sc__law_amount rfl fun cdv A outer s H E hr =>
  (dss_cons (ds_asg (de_disp (prs := [((fCon (.str "p")), (fIfE (fTB (fOp eqZ (fOp ixZ (fOp ixZ (fVar 0) (fCon (.int 1))) (fCon (.int 1))) (fCon (.str "p")))) (fVar 1) (fVar 2))), ((fCon (.str "x")), (fOp addD (fVar 2) (fCon (.int 1))))]) (.cons de_str (de_ifE (dt_cmp (op_eqD hr.units) eqZ_ok (de_ix ix_A ixZ_ok (de_ix ix_A ixZ_ok (de_var (pv 0)) de_int (fun _ _ => rfl)) de_int (fun _ _ => rfl)) de_str (nomark _)) (de_var (pv 1)) (de_var (pv 2))) (.cons de_str (de_op op_addA addD_ok (de_var (pv 2)) de_int) .nil)) rfl rfl (by simp) (by decide)) (dg_name (pg_name (i := 3) sc__law_amount.nd rfl (.inr rfl))))
  (dss_one (ds_ret (de_op op_addA addD_ok (de_ix ix_A ixZ_ok (de_ix ix_A ixZ_ok (de_var (pv 0)) de_int (fun _ _ => rfl)) de_int (fun _ _ => rfl)) (de_callB1 (cr_sum rfl) sumZ_ok rfl T.b_sum bt_sum (de_lc (own := [("_law_factor", 4), ("_law_name", 5)]) rfl sc__law_amount.nd (di_any (de_ix ix_A ixZ_ok (de_ix ix_A ixZ_ok (de_var (pv 0)) de_int (fun _ _ => rfl)) de_int (fun _ _ => rfl))) (blkOk_by (by decide +kernel : blkC ["_law_deed_here", "_law_spot", "_law_free", "_law_names", "_law_factor", "_law_name"] (defScope s__law_amount) _ _ = true)) (fun _ _ _ _ _ => (dg_tup rfl (dgs_cons (dg_name (pg_name (i := 4) sc__law_amount.nd rfl (.inl rfl))) (dgs_cons (dg_name (pg_name (i := 5) sc__law_amount.nd rfl (.inl rfl))) dgs_nil)))) (fun _ _ _ _ _ => dts_nil) (fun _ _ _ _ _ => (de_op op_mulA mulD_ok (de_var (pv 4)) (de_dget (hu_of hr) (de_var (pv 3)) (de_var (pv 5)) (fun _ _ => rfl))))))))))
theorem ok__law_same_ends (T : Txt K mg a) : FnOk P w K mg base CX0 2 a.f__law_same_ends a.d__law_same_ends ["_law_one", "_law_other", "_law_value", "_law_first", "_law_second"] (spD0 K 5 m__law_same_ends) :=
  fn_def T.F__law_same_ends sc__law_same_ends rfl fun cdv A outer s H E hr =>
  (dss_cons (ds_if (dt_cmp op_in_seq inZ_ok de_str (de_lst (fs := [(fOp ixZ (fVar 0) (fCon (.int 0))), (fOp ixZ (fVar 1) (fCon (.int 0)))]) (.arg (de_ix ix_A ixZ_ok (de_var (pv 0)) de_int (fun _ _ => rfl)) (.arg (de_ix ix_A ixZ_ok (de_var (pv 1)) de_int (fun _ _ => rfl)) .nil))) (by with_unfolding_all rfl)) (dss_one (ds_ret de_bl)) dss_nil)
  (dss_cons (ds_lcA (i := 5) (own := [("_law_deed_here", 9)]) rfl sc__law_same_ends.nd rfl rfl (sw_true rfl rfl rfl (by decide +kernel)) (di_any (de_lst (fs := [(fVar 0), (fVar 1)]) (.arg (de_var (pv 0)) (.arg (de_var (pv 1)) .nil)))) (blkOk_by (by decide +kernel : blkC ["_law_one", "_law_other", "_law_value", "_law_first", "_law_second", "_law_whole", "_law_spot", "_law_item", "_law_found", "_law_deed_here"] (defScope s__law_same_ends) _ _ = true)) (fun _ _ _ _ _ => (dg_name (pg_name (i := 9) sc__law_same_ends.nd rfl (.inl rfl)))) (fun _ _ _ _ _ => (dts_one (dt_not (dt_tru (de_callB2 call_isi isiZ_ok rfl T.b_isinstance bt_isinstance (de_ix ix_A ixZ_ok (de_ix ix_A ixZ_ok (de_var (pv 9)) de_int (fun _ _ => rfl)) de_int (fun _ _ => rfl)) (de_tyN rfl T.b_str bt_str)))))) (fun _ _ _ _ _ => (de_ix ix_A ixZ_ok (de_ix ix_A ixZ_ok (de_var (pv 9)) de_int (fun _ _ => rfl)) de_int (fun _ _ => rfl))))
  (dss_cons (ds_if (dt_w (dw_and (dt_cmp (op_eqD hr.units) eqZ_ok (de_callB1 call_lenA lenZ_ok rfl T.b_len bt_len (de_var (pv 5))) de_int (nomark _)) (dw_and1 (dt_cmp (op_neD hr.units) neZ_ok (de_ix ix_A ixZ_ok (de_var (pv 5)) de_int (fun _ _ => rfl)) (de_ix ix_A ixZ_ok (de_var (pv 5)) de_int (fun _ _ => rfl)) (nomark _))))) (dss_one (ds_ret de_bl)) dss_nil)
  (dss_cons (ds_asg (de_ix ix_A ixZ_ok (de_op op_addA addD_ok (de_var (pv 5)) (de_lst (fs := [(fCon (.int 1))]) (.arg de_int .nil))) de_int (fun _ _ => rfl)) (dg_name (pg_name (i := 6) sc__law_same_ends.nd rfl (.inl rfl))))
  (dss_cons (ds_asg (de_tup (fs := [(fOp ixZ (fOp ixZ (fVar 0) (fCon (.int 1))) (fCon (.int 0))), (fVar 6)]) (.arg (de_ix ix_A ixZ_ok (de_ix ix_A ixZ_ok (de_var (pv 0)) de_int (fun _ _ => rfl)) de_int (fun _ _ => rfl)) (.arg (de_var (pv 6)) .nil))) (dg_name (pg_name (i := 7) sc__law_same_ends.nd rfl (.inl rfl))))
  (dss_cons (ds_par (i := 3) (j := 4) (oi := false) (oj := false) rfl sc__law_same_ends.nd rfl rfl (by decide) rfl rfl (de_call0 (fs := [(false, (fVar 0)), (false, (fVar 6)), (false, (fVar 3))]) (ok__law_amount T) (hr.mono (by decide)) rfl T.g__law_amount T.F__law_amount.kp T.B__law_amount .nil (fun _ => .nil) (.arg (b := false) (de_var (pv 0)) (.arg (b := false) (de_var (pv 6)) (.arg (b := false) (de_var (pv 3)) .nil)))) (de_call0 (fs := [(false, (fVar 1)), (false, (fVar 6)), (false, (fVar 4))]) (ok__law_amount T) (hr.mono (by decide)) rfl T.g__law_amount T.F__law_amount.kp T.B__law_amount .nil (fun _ => .nil) (.arg (b := false) (de_var (pv 1)) (.arg (b := false) (de_var (pv 6)) (.arg (b := false) (de_var (pv 4)) .nil)))) (by with_unfolding_all rfl))
  (dss_cons (ds_asg (de_call0 (fs := [(false, (fVar 1)), (false, (fVar 7)), (false, (fCall (noX m_apply) [(false, (fVar 0)), (false, (fVar 7)), (false, (fVar 2)), (false, (fVar 3))] [])), (false, (fVar 4))]) (ok_apply T) (hr.mono (by decide)) rfl T.g_apply T.F_apply.kp T.B_apply .nil (fun _ => .nil) (.arg (b := false) (de_var (pv 1)) (.arg (b := false) (de_var (pv 7)) (.arg (b := false) (de_call0 (fs := [(false, (fVar 0)), (false, (fVar 7)), (false, (fVar 2)), (false, (fVar 3))]) (ok_apply T) (hr.mono (by decide)) rfl T.g_apply T.F_apply.kp T.B_apply .nil (fun _ => .nil) (.arg (b := false) (de_var (pv 0)) (.arg (b := false) (de_var (pv 7)) (.arg (b := false) (de_var (pv 2)) (.arg (b := false) (de_var (pv 3)) .nil))))) (.arg (b := false) (de_var (pv 4)) .nil))))) (dg_name (pg_name (i := 8) sc__law_same_ends.nd rfl (.inl rfl))))
  (dss_one (ds_ret (de_cmp (op_eqD hr.units) eqZ_ok (de_var (pv 8)) (de_call0 (fs := [(false, (fVar 0)), (false, (fVar 7)), (false, (fCall (noX m_apply) [(false, (fVar 1)), (false, (fVar 7)), (false, (fVar 2)), (false, (fVar 4))] [])), (false, (fVar 3))]) (ok_apply T) (hr.mono (by decide)) rfl T.g_apply T.F_apply.kp T.B_apply .nil (fun _ => .nil) (.arg (b := false) (de_var (pv 0)) (.arg (b := false) (de_var (pv 7)) (.arg (b := false) (de_call0 (fs := [(false, (fVar 1)), (false, (fVar 7)), (false, (fVar 2)), (false, (fVar 4))]) (ok_apply T) (hr.mono (by decide)) rfl T.g_apply T.F_apply.kp T.B_apply .nil (fun _ => .nil) (.arg (b := false) (de_var (pv 1)) (.arg (b := false) (de_var (pv 7)) (.arg (b := false) (de_var (pv 2)) (.arg (b := false) (de_var (pv 4)) .nil))))) (.arg (b := false) (de_var (pv 3)) .nil))))) (nomark _)))))))))))
theorem ok_law (T : Txt K mg a) : FnOk P w K mg base CX0 7 a.f_law a.d_law ["_law_script"] (spD0 K 1 m_law) :=
  fn_def T.F_law sc_law rfl fun cdv A outer s H E hr =>
  (dss_cons (ds_for PassesOwn.never rfl (di_range1 rfl T.b_range (de_callB2 (call_max2 rfl) maxZ_ok rfl T.b_max bt_max de_int (de_callB2 (call_min2 rfl) minZ_ok rfl T.b_min bt_min de_int (de_callB1 call_lenA lenZ_ok rfl T.b_len bt_len (de_var (pv 0)))))) (dg_name (pg_name (i := 1) sc_law.nd rfl (.inl rfl))) (dss_cons (ds_own (de_call0 (fs := [(false, (fVar 0)), (false, (fVar 1))]) (ok__law_pool T) (hr.mono (by decide)) rfl T.g__law_pool T.F__law_pool.kp T.B__law_pool .nil (fun _ => .nil) (.arg (b := false) (de_var (pv 0)) (.arg (b := false) (de_var (pv 1)) .nil))) (pg_name (i := 2) sc_law.nd rfl (.inr rfl)))
  (dss_one (ds_for PassesOwn.never rfl (di_range1 rfl T.b_range de_int) (dg_name (pg_name (i := 3) sc_law.nd rfl (.inl rfl))) (dss_cons (ds_par (i := 4) (j := 5) (oi := false) (oj := false) rfl sc_law.nd rfl rfl (by decide) rfl rfl (de_callL0 (fs := [(true, (fVar 2)), (false, (fLst [(fCon (.str "p"))]))]) (fl := (fLst [(fCon (.str "x"))])) (ok__law_deed T) (hr.mono (by decide)) rfl T.g__law_deed T.F__law_deed.kp T.B__law_deed (.arg (b := true) (de_var (pv 2)) (.arg (b := false) (de_lst (fs := [(fCon (.str "p"))]) (.arg de_str .nil)) (.one (de_lst (fs := [(fCon (.str "x"))]) (.arg de_str .nil)))))) (de_callL0 (fs := [(true, (fVar 2)), (false, (fLst [(fCon (.str "p"))]))]) (fl := (fLst [(fCon (.str "x"))])) (ok__law_deed T) (hr.mono (by decide)) rfl T.g__law_deed T.F__law_deed.kp T.B__law_deed (.arg (b := true) (de_var (pv 2)) (.arg (b := false) (de_lst (fs := [(fCon (.str "p"))]) (.arg de_str .nil)) (.one (de_lst (fs := [(fCon (.str "x"))]) (.arg de_str .nil)))))) (by with_unfolding_all rfl))
  (dss_cons (ds_if (dt_cmp (op_neD hr.units) neZ_ok (de_call (fs := [(false, (fVar 4)), (false, (fVar 5))]) (ok_do_clash T) (hr.mono (by decide)) rfl T.g_do_clash T.F_do_clash.kp T.B_do_clash .nil (fun _ => .nil) (fun σ => passW0 σ) (.arg (b := false) (de_var (pv 4)) (.arg (b := false) (de_var (pv 5)) .nil))) (de_call0 (fs := [(false, (fVar 4)), (false, (fVar 5))]) (ok__law_clash T) (hr.mono (by decide)) rfl T.g__law_clash T.F__law_clash.kp T.B__law_clash .nil (fun _ => .nil) (.arg (b := false) (de_var (pv 4)) (.arg (b := false) (de_var (pv 5)) .nil))) (nomark _)) (dss_one (ds_ret de_bl)) dss_nil)
  (dss_cons (ds_if (dt_cmp (op_neD hr.units) neZ_ok (de_call (fs := [(false, (fVar 5)), (false, (fVar 4))]) (ok_do_clash T) (hr.mono (by decide)) rfl T.g_do_clash T.F_do_clash.kp T.B_do_clash .nil (fun _ => .nil) (fun σ => passW0 σ) (.arg (b := false) (de_var (pv 5)) (.arg (b := false) (de_var (pv 4)) .nil))) (de_call (fs := [(false, (fVar 4)), (false, (fVar 5))]) (ok_do_clash T) (hr.mono (by decide)) rfl T.g_do_clash T.F_do_clash.kp T.B_do_clash .nil (fun _ => .nil) (fun σ => passW0 σ) (.arg (b := false) (de_var (pv 4)) (.arg (b := false) (de_var (pv 5)) .nil))) (nomark _)) (dss_one (ds_ret de_bl)) dss_nil)
  (dss_cons (ds_if (dt_cmp (op_neD hr.units) neZ_ok (de_call (fs := [(false, (fVar 4)), (false, (fVar 4))]) (ok_do_clash T) (hr.mono (by decide)) rfl T.g_do_clash T.F_do_clash.kp T.B_do_clash .nil (fun _ => .nil) (fun σ => passW0 σ) (.arg (b := false) (de_var (pv 4)) (.arg (b := false) (de_var (pv 4)) .nil))) (de_and (de_cmp (op_eqD hr.units) eqZ_ok (de_ix ix_A ixZ_ok (de_var (pv 4)) de_int (fun _ _ => rfl)) de_str (nomark _)) (de_one (de_cmp (op_neD hr.units) neZ_ok (de_ix ix_A ixZ_ok (de_ix ix_A ixZ_ok (de_var (pv 4)) de_int (fun _ _ => rfl)) de_int (fun _ _ => rfl)) (de_tup (fs := []) .nil) (nomark _)))) (nomark _)) (dss_one (ds_ret de_bl)) dss_nil)
  (dss_cons (ds_asg (de_lc (own := [("_law_number", 10)]) rfl sc_law.nd (di_range1 rfl T.b_range de_int) (blkOk_by (by decide +kernel : blkC ["_law_script", "_law_k", "_law_pool_here", "_law_turn", "_law_one", "_law_other", "_law_value", "_law_first", "_law_second", "_law_odd", "_law_number"] (defScope s_law) _ _ = true)) (fun _ _ _ _ _ => (dg_name (pg_name (i := 10) sc_law.nd rfl (.inl rfl)))) (fun _ _ _ _ _ => dts_nil) (fun _ _ _ _ _ => (de_op op_sub subD_ok (de_call0 (fs := [(true, (fVar 2)), (false, (fOp powD (fCon (.int 10)) (fCon (.int 9))))]) (ok__law_draw T) (hr.mono (by decide)) rfl T.g__law_draw T.F__law_draw.kp T.B__law_draw .nil (fun _ => .nil) (.arg (b := true) (de_var (pv 2)) (.arg (b := false) (de_op op_pow powD_ok de_int de_int) .nil))) (de_op op_pow powD_ok de_int de_int)))) (dg_lst rfl (dgs_cons (dg_name (pg_name (i := 6) sc_law.nd rfl (.inl rfl))) (dgs_cons (dg_name (pg_name (i := 7) sc_law.nd rfl (.inl rfl))) (dgs_cons (dg_name (pg_name (i := 8) sc_law.nd rfl (.inl rfl))) dgs_nil)))))
  (dss_cons (ds_if (dt_w (dw_and (dt_cmp (op_eqD hr.units) eqZ_ok (de_ix ix_A ixZ_ok (de_ix ix_A ixZ_ok (de_var (pv 4)) de_int (fun _ _ => rfl)) de_int (fun _ _ => rfl)) (de_ix ix_A ixZ_ok (de_ix ix_A ixZ_ok (de_var (pv 5)) de_int (fun _ _ => rfl)) de_int (fun _ _ => rfl)) (nomark _)) (dw_and1 (dt_not (dt_tru (de_call (fs := [(false, (fVar 4)), (false, (fVar 5))]) (ok_do_clash T) (hr.mono (by decide)) rfl T.g_do_clash T.F_do_clash.kp T.B_do_clash .nil (fun _ => .nil) (fun σ => passW0 σ) (.arg (b := false) (de_var (pv 4)) (.arg (b := false) (de_var (pv 5)) .nil)))))))) (dss_one (ds_if (dt_not (dt_tru (de_call0 (fs := [(false, (fVar 4)), (false, (fVar 5)), (false, (fVar 6)), (false, (fVar 7)), (false, (fVar 8))]) (ok__law_same_ends T) (hr.mono (by decide)) rfl T.g__law_same_ends T.F__law_same_ends.kp T.B__law_same_ends .nil (fun _ => .nil) (.arg (b := false) (de_var (pv 4)) (.arg (b := false) (de_var (pv 5)) (.arg (b := false) (de_var (pv 6)) (.arg (b := false) (de_var (pv 7)) (.arg (b := false) (de_var (pv 8)) .nil)))))))) (dss_one (ds_ret de_bl)) dss_nil)) dss_nil)
  (dss_one (ds_for PassesOwn.never rfl (di_any (de_lst (fs := [(fCon .non), (fCon (.int 5)), (fTup []), (fLst [(fCon (.str "read")), (fTup [(fCon (.str "a")), (fCon (.int 1))]), (fCon (.str "x"))]), (fTup [(fCon (.str "read")), (fTup [(fCon (.str "a")), (fCon (.int 1))]), (fCon (.int 5))]), (fCon (.str "read"))]) (.arg de_non (.arg de_int (.arg (de_tup (fs := []) .nil) (.arg (de_lst (fs := [(fCon (.str "read")), (fTup [(fCon (.str "a")), (fCon (.int 1))]), (fCon (.str "x"))]) (.arg de_str (.arg (de_tup (fs := [(fCon (.str "a")), (fCon (.int 1))]) (.arg de_str (.arg de_int .nil))) (.arg de_str .nil)))) (.arg (de_tup (fs := [(fCon (.str "read")), (fTup [(fCon (.str "a")), (fCon (.int 1))]), (fCon (.int 5))]) (.arg de_str (.arg (de_tup (fs := [(fCon (.str "a")), (fCon (.int 1))]) (.arg de_str (.arg de_int .nil))) (.arg de_int .nil)))) (.arg de_str .nil)))))))) (dg_name (pg_name (i := 9) sc_law.nd rfl (.inl rfl))) (dss_cons (ds_if (dt_cmp (op_neD hr.units) neZ_ok (de_call0 (fs := [(false, (fVar 9)), (false, (fCon (.int 7)))]) (ok__law_error T) (hr.mono (by decide)) rfl T.g__law_error T.F__law_error.kp T.B__law_error .nil (fun _ => .nil) (.arg (b := false) (de_var (pv 9)) (.arg (b := false) de_int .nil))) (de_lst (fs := [(fVar 9), (fCon (.bl true)), (fCon (.bl true))]) (.arg (de_var (pv 9)) (.arg de_bl (.arg de_bl .nil)))) (nomark _)) (dss_one (ds_ret de_bl)) dss_nil)
  (dss_one (ds_if (dt_cmp (op_neD hr.units) neZ_ok (de_call0 (fs := [(false, (fVar 4)), (false, (fVar 9))]) (ok__law_error T) (hr.mono (by decide)) rfl T.g__law_error T.F__law_error.kp T.B__law_error .nil (fun _ => .nil) (.arg (b := false) (de_var (pv 4)) (.arg (b := false) (de_var (pv 9)) .nil))) (de_lst (fs := [(fVar 9), (fCon (.bl true)), (fCon (.bl true))]) (.arg (de_var (pv 9)) (.arg de_bl (.arg de_bl .nil)))) (nomark _)) (dss_one (ds_ret de_bl)) dss_nil)))))))))))))))
  (dss_one (ds_ret de_bl)))
end
/-! ### what the top has written -/
theorem txt_mk {K : PySem.W.Frag} {h : Heap} {mg : Str → Option Value} (X : K.In h) (G : h.Ns mainGlobals mg)
    {C_CutError : Addr}
    {C_InvalidItem : Addr}
    {nm_InvalidItem q_InvalidItem : Str} {N_InvalidItem : Addr} {bs_InvalidItem bm_InvalidItem : List Value} {sn_InvalidItem : List Str} {sb_InvalidItem : List Value} {ab_InvalidItem : Bool} {co_InvalidItem : Option Bool} {dd_InvalidItem : Option Addr} {k0_InvalidItem k1_InvalidItem k2_InvalidItem k3_InvalidItem k5_InvalidItem : Option Value}
    {fI_InvalidItem : Addr} {oc_InvalidItem kV_InvalidItem dc_InvalidItem pm_InvalidItem cd_InvalidItem ct_InvalidItem : Value} {od_InvalidItem an_InvalidItem : Option Addr} {sl_InvalidItem : Array (Option Value)}
    {a_RESERVED : Addr} {o_RESERVED : Obj} {i_RESERVED : Array Value} {n_RESERVED : Nat}
    {a_CHANGES : Addr} {o_CHANGES : Obj} {i_CHANGES : Array Value} {n_CHANGES : Nat}
    {f_is_short_integer : Addr} {oc_is_short_integer kV_is_short_integer dc_is_short_integer pm_is_short_integer cd_is_short_integer ct_is_short_integer : Value} {od_is_short_integer an_is_short_integer : Option Addr} {sl_is_short_integer : Array (Option Value)}
    {f_is_name : Addr} {oc_is_name kV_is_name dc_is_name pm_is_name cd_is_name ct_is_name : Value} {od_is_name an_is_name : Option Addr} {sl_is_name : Array (Option Value)}
    {f_is_pair : Addr} {oc_is_pair kV_is_pair dc_is_pair pm_is_pair cd_is_pair ct_is_pair : Value} {od_is_pair an_is_pair : Option Addr} {sl_is_pair : Array (Option Value)}
    {f_is_headed : Addr} {oc_is_headed kV_is_headed dc_is_headed pm_is_headed cd_is_headed ct_is_headed : Value} {od_is_headed an_is_headed : Option Addr} {sl_is_headed : Array (Option Value)}
    {f_is_place : Addr} {oc_is_place kV_is_place dc_is_place pm_is_place cd_is_place ct_is_place : Value} {od_is_place an_is_place : Option Addr} {sl_is_place : Array (Option Value)}
    {f_is_term : Addr} {oc_is_term kV_is_term dc_is_term pm_is_term cd_is_term ct_is_term : Value} {od_is_term an_is_term : Option Addr} {sl_is_term : Array (Option Value)}
    {f_is_sum : Addr} {oc_is_sum kV_is_sum dc_is_sum pm_is_sum cd_is_sum ct_is_sum : Value} {od_is_sum an_is_sum : Option Addr} {sl_is_sum : Array (Option Value)}
    {f_is_deed : Addr} {oc_is_deed kV_is_deed dc_is_deed pm_is_deed cd_is_deed ct_is_deed : Value} {od_is_deed an_is_deed : Option Addr} {sl_is_deed : Array (Option Value)}
    {f_are_alike : Addr} {oc_are_alike kV_are_alike dc_are_alike pm_are_alike cd_are_alike ct_are_alike : Value} {od_are_alike an_are_alike : Option Addr} {sl_are_alike : Array (Option Value)}
    {f_are_clashing : Addr} {oc_are_clashing kV_are_clashing dc_are_clashing pm_are_clashing cd_are_clashing ct_are_clashing : Value} {od_are_clashing an_are_clashing : Option Addr} {sl_are_clashing : Array (Option Value)}
    {f_do_clash : Addr} {oc_do_clash kV_do_clash dc_do_clash pm_do_clash cd_do_clash ct_do_clash : Value} {od_do_clash an_do_clash : Option Addr} {sl_do_clash : Array (Option Value)}
    {f_apply : Addr} {oc_apply kV_apply dc_apply pm_apply cd_apply ct_apply : Value} {od_apply an_apply : Option Addr} {sl_apply : Array (Option Value)}
    {f__law_pool : Addr} {oc__law_pool kV__law_pool dc__law_pool pm__law_pool cd__law_pool ct__law_pool : Value} {od__law_pool an__law_pool : Option Addr} {sl__law_pool : Array (Option Value)}
    {f__law_draw : Addr} {oc__law_draw kV__law_draw dc__law_draw pm__law_draw cd__law_draw ct__law_draw : Value} {od__law_draw an__law_draw : Option Addr} {sl__law_draw : Array (Option Value)}
    {f__law_sum : Addr} {oc__law_sum kV__law_sum dc__law_sum pm__law_sum cd__law_sum ct__law_sum : Value} {od__law_sum an__law_sum : Option Addr} {sl__law_sum : Array (Option Value)}
    {f__law_deed : Addr} {oc__law_deed kV__law_deed dc__law_deed pm__law_deed cd__law_deed ct__law_deed : Value} {od__law_deed an__law_deed : Option Addr} {sl__law_deed : Array (Option Value)}
    {f__law_clash : Addr} {oc__law_clash kV__law_clash dc__law_clash pm__law_clash cd__law_clash ct__law_clash : Value} {od__law_clash an__law_clash : Option Addr} {sl__law_clash : Array (Option Value)}
    {f__law_error : Addr} {oc__law_error kV__law_error dc__law_error pm__law_error cd__law_error ct__law_error : Value} {od__law_error an__law_error : Option Addr} {sl__law_error : Array (Option Value)}
    {f__law_amount : Addr} {oc__law_amount kV__law_amount dc__law_amount pm__law_amount cd__law_amount ct__law_amount : Value} {od__law_amount an__law_amount : Option Addr} {sl__law_amount : Array (Option Value)}
    {f__law_same_ends : Addr} {oc__law_same_ends kV__law_same_ends dc__law_same_ends pm__law_same_ends cd__law_same_ends ct__law_same_ends : Value} {od__law_same_ends an__law_same_ends : Option Addr} {sl__law_same_ends : Array (Option Value)}
    {f_law : Addr} {oc_law kV_law dc_law pm_law cd_law ct_law : Value} {od_law an_law : Option Addr} {sl_law : Array (Option Value)}
    (z_type : PySem.W.nsIn K mainGlobals "type" = some none)
    (z_int : PySem.W.nsIn K mainGlobals "int" = some none)
    (z_abs : PySem.W.nsIn K mainGlobals "abs" = some none)
    (z_str : PySem.W.nsIn K mainGlobals "str" = some none)
    (z_len : PySem.W.nsIn K mainGlobals "len" = some none)
    (z_all : PySem.W.nsIn K mainGlobals "all" = some none)
    (z_tuple : PySem.W.nsIn K mainGlobals "tuple" = some none)
    (z_range : PySem.W.nsIn K mainGlobals "range" = some none)
    (z_max : PySem.W.nsIn K mainGlobals "max" = some none)
    (z_min : PySem.W.nsIn K mainGlobals "min" = some none)
    (z_sorted : PySem.W.nsIn K mainGlobals "sorted" = some none)
    (z_isinstance : PySem.W.nsIn K mainGlobals "isinstance" = some none)
    (z_ValueError : PySem.W.nsIn K mainGlobals "ValueError" = some none)
    (z_sum : PySem.W.nsIn K mainGlobals "sum" = some none)
    (a_CutError : PySem.W.nsIn K mainGlobals "CutError" = some (some (.ref C_CutError)))
    (exC_CutError : PySem.W.subIn K (.ref C_CutError) (.type "BaseException") = some true) (tyC_CutError : PySem.W.typeIn K (.ref C_CutError) = some (.type "type")) (kC_CutError : PySem.W.keepIn K (.ref C_CutError) = true) (hdC_CutError : PySem.W.hasDictIn K C_CutError = true) (icC_CutError : PySem.W.isClsIn K C_CutError = true)
    (a_InvalidItem : PySem.W.nsIn K mainGlobals "InvalidItem" = some (some (.ref C_InvalidItem)))
    (exC_InvalidItem : PySem.W.subIn K (.ref C_InvalidItem) (.type "BaseException") = some true) (tyC_InvalidItem : PySem.W.typeIn K (.ref C_InvalidItem) = some (.type "type")) (kC_InvalidItem : PySem.W.keepIn K (.ref C_InvalidItem) = true) (hdC_InvalidItem : PySem.W.hasDictIn K C_InvalidItem = true) (icC_InvalidItem : PySem.W.isClsIn K C_InvalidItem = true)
    (ga_InvalidItem : PySem.W.findIn K (.ref C_InvalidItem) "__getattribute__" = some (some (.builtin "BaseException.__getattribute__"))) (gg_InvalidItem : PySem.W.findIn K (.ref C_InvalidItem) "__getattr__" = some none)
    (nfh_InvalidItem : PySem.W.findIn K (.ref C_InvalidItem) "value" = some none)
    (xL_InvalidItem : K.lookup C_InvalidItem = some (excClassObj nm_InvalidItem q_InvalidItem C_InvalidItem N_InvalidItem bs_InvalidItem bm_InvalidItem true sn_InvalidItem sb_InvalidItem ab_InvalidItem co_InvalidItem dd_InvalidItem k0_InvalidItem k1_InvalidItem k2_InvalidItem k3_InvalidItem k5_InvalidItem "ValueError.__new__")) (rv_InvalidItem : PySem.HandSPX.refsVE bm_InvalidItem = true)
    (sa_InvalidItem : PySem.W.findIn K (.ref C_InvalidItem) "__setattr__" = some (some (.builtin "object.__setattr__")))
    (ih_InvalidItem : PySem.W.findIn K (.ref C_InvalidItem) "__init__" = some (some (.ref fI_InvalidItem))) (th_InvalidItem : PySem.W.typeIn K (.ref fI_InvalidItem) = some (.type "function"))
    (l_InvalidItem : K.lookup fI_InvalidItem = some ⟨oc_InvalidItem, od_InvalidItem, .func (PySem.W.fnOf "__init__" "InvalidItem.__init__" (defArgs si_InvalidItem) (defBody si_InvalidItem) (defScope si_InvalidItem) .none kV_InvalidItem dc_InvalidItem pm_InvalidItem an_InvalidItem cd_InvalidItem ct_InvalidItem), sl_InvalidItem⟩) (c_InvalidItem : PySem.W.codeIn K cd_InvalidItem "InvalidItem.__init__" = true) (k_InvalidItem : PySem.W.keepIn K (.ref fI_InvalidItem) = true)
    (ha_InvalidItem : PySem.W.findIn K (.ref C_InvalidItem) "__class__" = some (some (.builtin "object.__class__"))) (hn_InvalidItem : PySem.W.specialIn K (.builtin "object.__class__") "__get__" = some (some (.builtin "getset_descriptor.__get__"))) (ht_InvalidItem : PySem.W.takesIn K (.builtin "object.__class__") = some true) (hm_InvalidItem : PySem.W.mroIn K C_InvalidItem (.type "object") = some true)
    (su_InvalidItem_CutError : PySem.W.subIn K (.ref C_InvalidItem) (.ref C_CutError) = some true)
    (su_InvalidItem_ValueError : PySem.W.subIn K (.ref C_InvalidItem) (.type "ValueError") = some true)
    (sc_InvalidItem_InvalidItem : PySem.W.subIn K (.ref C_InvalidItem) (.ref C_InvalidItem) = some true)
    (a_RESERVED' : PySem.W.nsIn K mainGlobals "RESERVED" = some (some (.ref a_RESERVED))) (l_RESERVED : K.lookup a_RESERVED = some o_RESERVED) (e_RESERVED : o_RESERVED.cls = .type "tuple" ∧ o_RESERVED.data = .seq i_RESERVED n_RESERVED) (v_RESERVED : ∀ P, DnVs ⟨K, none⟩ P i_RESERVED.toList [.str "kind", .str "unlike", .str "backs", .str "alone", .str "read", .str "add", .str "raise", .str "lower", .str "put", .str "check", .str "choose", .str "or", .str "end", .str "none"])
    (a_CHANGES' : PySem.W.nsIn K mainGlobals "CHANGES" = some (some (.ref a_CHANGES))) (l_CHANGES : K.lookup a_CHANGES = some o_CHANGES) (e_CHANGES : o_CHANGES.cls = .type "tuple" ∧ o_CHANGES.data = .seq i_CHANGES n_CHANGES) (v_CHANGES : ∀ P, DnVs ⟨K, none⟩ P i_CHANGES.toList [.str "add", .str "raise", .str "lower", .str "put"])
    (a_is_short_integer : PySem.W.nsIn K mainGlobals "is_short_integer" = some (some (.ref f_is_short_integer))) (l_is_short_integer : K.lookup f_is_short_integer = some ⟨oc_is_short_integer, od_is_short_integer, .func (PySem.W.fnOf "is_short_integer" "is_short_integer" (defArgs s_is_short_integer) (defBody s_is_short_integer) (defScope s_is_short_integer) .none kV_is_short_integer dc_is_short_integer pm_is_short_integer an_is_short_integer cd_is_short_integer ct_is_short_integer), sl_is_short_integer⟩) (c_is_short_integer : PySem.W.codeIn K cd_is_short_integer "is_short_integer" = true) (k_is_short_integer : PySem.W.keepIn K (.ref f_is_short_integer) = true)
    (a_is_name : PySem.W.nsIn K mainGlobals "is_name" = some (some (.ref f_is_name))) (l_is_name : K.lookup f_is_name = some ⟨oc_is_name, od_is_name, .func (PySem.W.fnOf "is_name" "is_name" (defArgs s_is_name) (defBody s_is_name) (defScope s_is_name) .none kV_is_name dc_is_name pm_is_name an_is_name cd_is_name ct_is_name), sl_is_name⟩) (c_is_name : PySem.W.codeIn K cd_is_name "is_name" = true) (k_is_name : PySem.W.keepIn K (.ref f_is_name) = true)
    (a_is_pair : PySem.W.nsIn K mainGlobals "is_pair" = some (some (.ref f_is_pair))) (l_is_pair : K.lookup f_is_pair = some ⟨oc_is_pair, od_is_pair, .func (PySem.W.fnOf "is_pair" "is_pair" (defArgs s_is_pair) (defBody s_is_pair) (defScope s_is_pair) .none kV_is_pair dc_is_pair pm_is_pair an_is_pair cd_is_pair ct_is_pair), sl_is_pair⟩) (c_is_pair : PySem.W.codeIn K cd_is_pair "is_pair" = true) (k_is_pair : PySem.W.keepIn K (.ref f_is_pair) = true)
    (a_is_headed : PySem.W.nsIn K mainGlobals "is_headed" = some (some (.ref f_is_headed))) (l_is_headed : K.lookup f_is_headed = some ⟨oc_is_headed, od_is_headed, .func (PySem.W.fnOf "is_headed" "is_headed" (defArgs s_is_headed) (defBody s_is_headed) (defScope s_is_headed) .none kV_is_headed dc_is_headed pm_is_headed an_is_headed cd_is_headed ct_is_headed), sl_is_headed⟩) (c_is_headed : PySem.W.codeIn K cd_is_headed "is_headed" = true) (k_is_headed : PySem.W.keepIn K (.ref f_is_headed) = true)
    (a_is_place : PySem.W.nsIn K mainGlobals "is_place" = some (some (.ref f_is_place))) (l_is_place : K.lookup f_is_place = some ⟨oc_is_place, od_is_place, .func (PySem.W.fnOf "is_place" "is_place" (defArgs s_is_place) (defBody s_is_place) (defScope s_is_place) .none kV_is_place dc_is_place pm_is_place an_is_place cd_is_place ct_is_place), sl_is_place⟩) (c_is_place : PySem.W.codeIn K cd_is_place "is_place" = true) (k_is_place : PySem.W.keepIn K (.ref f_is_place) = true)
    (a_is_term : PySem.W.nsIn K mainGlobals "is_term" = some (some (.ref f_is_term))) (l_is_term : K.lookup f_is_term = some ⟨oc_is_term, od_is_term, .func (PySem.W.fnOf "is_term" "is_term" (defArgs s_is_term) (defBody s_is_term) (defScope s_is_term) .none kV_is_term dc_is_term pm_is_term an_is_term cd_is_term ct_is_term), sl_is_term⟩) (c_is_term : PySem.W.codeIn K cd_is_term "is_term" = true) (k_is_term : PySem.W.keepIn K (.ref f_is_term) = true)
    (a_is_sum : PySem.W.nsIn K mainGlobals "is_sum" = some (some (.ref f_is_sum))) (l_is_sum : K.lookup f_is_sum = some ⟨oc_is_sum, od_is_sum, .func (PySem.W.fnOf "is_sum" "is_sum" (defArgs s_is_sum) (defBody s_is_sum) (defScope s_is_sum) .none kV_is_sum dc_is_sum pm_is_sum an_is_sum cd_is_sum ct_is_sum), sl_is_sum⟩) (c_is_sum : PySem.W.codeIn K cd_is_sum "is_sum" = true) (k_is_sum : PySem.W.keepIn K (.ref f_is_sum) = true)
    (a_is_deed : PySem.W.nsIn K mainGlobals "is_deed" = some (some (.ref f_is_deed))) (l_is_deed : K.lookup f_is_deed = some ⟨oc_is_deed, od_is_deed, .func (PySem.W.fnOf "is_deed" "is_deed" (defArgs s_is_deed) (defBody s_is_deed) (defScope s_is_deed) .none kV_is_deed dc_is_deed pm_is_deed an_is_deed cd_is_deed ct_is_deed), sl_is_deed⟩) (c_is_deed : PySem.W.codeIn K cd_is_deed "is_deed" = true) (k_is_deed : PySem.W.keepIn K (.ref f_is_deed) = true)
    (a_are_alike : PySem.W.nsIn K mainGlobals "are_alike" = some (some (.ref f_are_alike))) (l_are_alike : K.lookup f_are_alike = some ⟨oc_are_alike, od_are_alike, .func (PySem.W.fnOf "are_alike" "are_alike" (defArgs s_are_alike) (defBody s_are_alike) (defScope s_are_alike) .none kV_are_alike dc_are_alike pm_are_alike an_are_alike cd_are_alike ct_are_alike), sl_are_alike⟩) (c_are_alike : PySem.W.codeIn K cd_are_alike "are_alike" = true) (k_are_alike : PySem.W.keepIn K (.ref f_are_alike) = true)
    (a_are_clashing : PySem.W.nsIn K mainGlobals "are_clashing" = some (some (.ref f_are_clashing))) (l_are_clashing : K.lookup f_are_clashing = some ⟨oc_are_clashing, od_are_clashing, .func (PySem.W.fnOf "are_clashing" "are_clashing" (defArgs s_are_clashing) (defBody s_are_clashing) (defScope s_are_clashing) .none kV_are_clashing dc_are_clashing pm_are_clashing an_are_clashing cd_are_clashing ct_are_clashing), sl_are_clashing⟩) (c_are_clashing : PySem.W.codeIn K cd_are_clashing "are_clashing" = true) (k_are_clashing : PySem.W.keepIn K (.ref f_are_clashing) = true)
    (a_do_clash : PySem.W.nsIn K mainGlobals "do_clash" = some (some (.ref f_do_clash))) (l_do_clash : K.lookup f_do_clash = some ⟨oc_do_clash, od_do_clash, .func (PySem.W.fnOf "do_clash" "do_clash" (defArgs s_do_clash) (defBody s_do_clash) (defScope s_do_clash) .none kV_do_clash dc_do_clash pm_do_clash an_do_clash cd_do_clash ct_do_clash), sl_do_clash⟩) (c_do_clash : PySem.W.codeIn K cd_do_clash "do_clash" = true) (k_do_clash : PySem.W.keepIn K (.ref f_do_clash) = true)
    (a_apply : PySem.W.nsIn K mainGlobals "apply" = some (some (.ref f_apply))) (l_apply : K.lookup f_apply = some ⟨oc_apply, od_apply, .func (PySem.W.fnOf "apply" "apply" (defArgs s_apply) (defBody s_apply) (defScope s_apply) .none kV_apply dc_apply pm_apply an_apply cd_apply ct_apply), sl_apply⟩) (c_apply : PySem.W.codeIn K cd_apply "apply" = true) (k_apply : PySem.W.keepIn K (.ref f_apply) = true)
    (a__law_pool : PySem.W.nsIn K mainGlobals "_law_pool" = some (some (.ref f__law_pool))) (l__law_pool : K.lookup f__law_pool = some ⟨oc__law_pool, od__law_pool, .func (PySem.W.fnOf "_law_pool" "_law_pool" (defArgs s__law_pool) (defBody s__law_pool) (defScope s__law_pool) .none kV__law_pool dc__law_pool pm__law_pool an__law_pool cd__law_pool ct__law_pool), sl__law_pool⟩) (c__law_pool : PySem.W.codeIn K cd__law_pool "_law_pool" = true) (k__law_pool : PySem.W.keepIn K (.ref f__law_pool) = true)
    (a__law_draw : PySem.W.nsIn K mainGlobals "_law_draw" = some (some (.ref f__law_draw))) (l__law_draw : K.lookup f__law_draw = some ⟨oc__law_draw, od__law_draw, .func (PySem.W.fnOf "_law_draw" "_law_draw" (defArgs s__law_draw) (defBody s__law_draw) (defScope s__law_draw) .none kV__law_draw dc__law_draw pm__law_draw an__law_draw cd__law_draw ct__law_draw), sl__law_draw⟩) (c__law_draw : PySem.W.codeIn K cd__law_draw "_law_draw" = true) (k__law_draw : PySem.W.keepIn K (.ref f__law_draw) = true)
    (a__law_sum : PySem.W.nsIn K mainGlobals "_law_sum" = some (some (.ref f__law_sum))) (l__law_sum : K.lookup f__law_sum = some ⟨oc__law_sum, od__law_sum, .func (PySem.W.fnOf "_law_sum" "_law_sum" (defArgs s__law_sum) (defBody s__law_sum) (defScope s__law_sum) .none kV__law_sum dc__law_sum pm__law_sum an__law_sum cd__law_sum ct__law_sum), sl__law_sum⟩) (c__law_sum : PySem.W.codeIn K cd__law_sum "_law_sum" = true) (k__law_sum : PySem.W.keepIn K (.ref f__law_sum) = true)
    (a__law_deed : PySem.W.nsIn K mainGlobals "_law_deed" = some (some (.ref f__law_deed))) (l__law_deed : K.lookup f__law_deed = some ⟨oc__law_deed, od__law_deed, .func (PySem.W.fnOf "_law_deed" "_law_deed" (defArgs s__law_deed) (defBody s__law_deed) (defScope s__law_deed) .none kV__law_deed dc__law_deed pm__law_deed an__law_deed cd__law_deed ct__law_deed), sl__law_deed⟩) (c__law_deed : PySem.W.codeIn K cd__law_deed "_law_deed" = true) (k__law_deed : PySem.W.keepIn K (.ref f__law_deed) = true)
    (a__law_clash : PySem.W.nsIn K mainGlobals "_law_clash" = some (some (.ref f__law_clash))) (l__law_clash : K.lookup f__law_clash = some ⟨oc__law_clash, od__law_clash, .func (PySem.W.fnOf "_law_clash" "_law_clash" (defArgs s__law_clash) (defBody s__law_clash) (defScope s__law_clash) .none kV__law_clash dc__law_clash pm__law_clash an__law_clash cd__law_clash ct__law_clash), sl__law_clash⟩) (c__law_clash : PySem.W.codeIn K cd__law_clash "_law_clash" = true) (k__law_clash : PySem.W.keepIn K (.ref f__law_clash) = true)
    (a__law_error : PySem.W.nsIn K mainGlobals "_law_error" = some (some (.ref f__law_error))) (l__law_error : K.lookup f__law_error = some ⟨oc__law_error, od__law_error, .func (PySem.W.fnOf "_law_error" "_law_error" (defArgs s__law_error) (defBody s__law_error) (defScope s__law_error) .none kV__law_error dc__law_error pm__law_error an__law_error cd__law_error ct__law_error), sl__law_error⟩) (c__law_error : PySem.W.codeIn K cd__law_error "_law_error" = true) (k__law_error : PySem.W.keepIn K (.ref f__law_error) = true)
    (a__law_amount : PySem.W.nsIn K mainGlobals "_law_amount" = some (some (.ref f__law_amount))) (l__law_amount : K.lookup f__law_amount = some ⟨oc__law_amount, od__law_amount, .func (PySem.W.fnOf "_law_amount" "_law_amount" (defArgs s__law_amount) (defBody s__law_amount) (defScope s__law_amount) .none kV__law_amount dc__law_amount pm__law_amount an__law_amount cd__law_amount ct__law_amount), sl__law_amount⟩) (c__law_amount : PySem.W.codeIn K cd__law_amount "_law_amount" = true) (k__law_amount : PySem.W.keepIn K (.ref f__law_amount) = true)
    (a__law_same_ends : PySem.W.nsIn K mainGlobals "_law_same_ends" = some (some (.ref f__law_same_ends))) (l__law_same_ends : K.lookup f__law_same_ends = some ⟨oc__law_same_ends, od__law_same_ends, .func (PySem.W.fnOf "_law_same_ends" "_law_same_ends" (defArgs s__law_same_ends) (defBody s__law_same_ends) (defScope s__law_same_ends) .none kV__law_same_ends dc__law_same_ends pm__law_same_ends an__law_same_ends cd__law_same_ends ct__law_same_ends), sl__law_same_ends⟩) (c__law_same_ends : PySem.W.codeIn K cd__law_same_ends "_law_same_ends" = true) (k__law_same_ends : PySem.W.keepIn K (.ref f__law_same_ends) = true)
    (a_law : PySem.W.nsIn K mainGlobals "law" = some (some (.ref f_law))) (l_law : K.lookup f_law = some ⟨oc_law, od_law, .func (PySem.W.fnOf "law" "law" (defArgs s_law) (defBody s_law) (defScope s_law) .none kV_law dc_law pm_law an_law cd_law ct_law), sl_law⟩) (c_law : PySem.W.codeIn K cd_law "law" = true) (k_law : PySem.W.keepIn K (.ref f_law) = true) :
    Txt K mg { C_CutError := C_CutError, C_InvalidItem := C_InvalidItem, empty := (0 : Nat), fI_InvalidItem := fI_InvalidItem, dI_InvalidItem := PySem.W.fnOf "__init__" "InvalidItem.__init__" (defArgs si_InvalidItem) (defBody si_InvalidItem) (defScope si_InvalidItem) .none kV_InvalidItem dc_InvalidItem pm_InvalidItem an_InvalidItem cd_InvalidItem ct_InvalidItem, c_RESERVED := a_RESERVED, c_CHANGES := a_CHANGES, f_is_short_integer := f_is_short_integer, d_is_short_integer := PySem.W.fnOf "is_short_integer" "is_short_integer" (defArgs s_is_short_integer) (defBody s_is_short_integer) (defScope s_is_short_integer) .none kV_is_short_integer dc_is_short_integer pm_is_short_integer an_is_short_integer cd_is_short_integer ct_is_short_integer, f_is_name := f_is_name, d_is_name := PySem.W.fnOf "is_name" "is_name" (defArgs s_is_name) (defBody s_is_name) (defScope s_is_name) .none kV_is_name dc_is_name pm_is_name an_is_name cd_is_name ct_is_name, f_is_pair := f_is_pair, d_is_pair := PySem.W.fnOf "is_pair" "is_pair" (defArgs s_is_pair) (defBody s_is_pair) (defScope s_is_pair) .none kV_is_pair dc_is_pair pm_is_pair an_is_pair cd_is_pair ct_is_pair, f_is_headed := f_is_headed, d_is_headed := PySem.W.fnOf "is_headed" "is_headed" (defArgs s_is_headed) (defBody s_is_headed) (defScope s_is_headed) .none kV_is_headed dc_is_headed pm_is_headed an_is_headed cd_is_headed ct_is_headed, f_is_place := f_is_place, d_is_place := PySem.W.fnOf "is_place" "is_place" (defArgs s_is_place) (defBody s_is_place) (defScope s_is_place) .none kV_is_place dc_is_place pm_is_place an_is_place cd_is_place ct_is_place, f_is_term := f_is_term, d_is_term := PySem.W.fnOf "is_term" "is_term" (defArgs s_is_term) (defBody s_is_term) (defScope s_is_term) .none kV_is_term dc_is_term pm_is_term an_is_term cd_is_term ct_is_term, f_is_sum := f_is_sum, d_is_sum := PySem.W.fnOf "is_sum" "is_sum" (defArgs s_is_sum) (defBody s_is_sum) (defScope s_is_sum) .none kV_is_sum dc_is_sum pm_is_sum an_is_sum cd_is_sum ct_is_sum, f_is_deed := f_is_deed, d_is_deed := PySem.W.fnOf "is_deed" "is_deed" (defArgs s_is_deed) (defBody s_is_deed) (defScope s_is_deed) .none kV_is_deed dc_is_deed pm_is_deed an_is_deed cd_is_deed ct_is_deed, f_are_alike := f_are_alike, d_are_alike := PySem.W.fnOf "are_alike" "are_alike" (defArgs s_are_alike) (defBody s_are_alike) (defScope s_are_alike) .none kV_are_alike dc_are_alike pm_are_alike an_are_alike cd_are_alike ct_are_alike, f_are_clashing := f_are_clashing, d_are_clashing := PySem.W.fnOf "are_clashing" "are_clashing" (defArgs s_are_clashing) (defBody s_are_clashing) (defScope s_are_clashing) .none kV_are_clashing dc_are_clashing pm_are_clashing an_are_clashing cd_are_clashing ct_are_clashing, f_do_clash := f_do_clash, d_do_clash := PySem.W.fnOf "do_clash" "do_clash" (defArgs s_do_clash) (defBody s_do_clash) (defScope s_do_clash) .none kV_do_clash dc_do_clash pm_do_clash an_do_clash cd_do_clash ct_do_clash, f_apply := f_apply, d_apply := PySem.W.fnOf "apply" "apply" (defArgs s_apply) (defBody s_apply) (defScope s_apply) .none kV_apply dc_apply pm_apply an_apply cd_apply ct_apply, f__law_pool := f__law_pool, d__law_pool := PySem.W.fnOf "_law_pool" "_law_pool" (defArgs s__law_pool) (defBody s__law_pool) (defScope s__law_pool) .none kV__law_pool dc__law_pool pm__law_pool an__law_pool cd__law_pool ct__law_pool, f__law_draw := f__law_draw, d__law_draw := PySem.W.fnOf "_law_draw" "_law_draw" (defArgs s__law_draw) (defBody s__law_draw) (defScope s__law_draw) .none kV__law_draw dc__law_draw pm__law_draw an__law_draw cd__law_draw ct__law_draw, f__law_sum := f__law_sum, d__law_sum := PySem.W.fnOf "_law_sum" "_law_sum" (defArgs s__law_sum) (defBody s__law_sum) (defScope s__law_sum) .none kV__law_sum dc__law_sum pm__law_sum an__law_sum cd__law_sum ct__law_sum, f__law_deed := f__law_deed, d__law_deed := PySem.W.fnOf "_law_deed" "_law_deed" (defArgs s__law_deed) (defBody s__law_deed) (defScope s__law_deed) .none kV__law_deed dc__law_deed pm__law_deed an__law_deed cd__law_deed ct__law_deed, f__law_clash := f__law_clash, d__law_clash := PySem.W.fnOf "_law_clash" "_law_clash" (defArgs s__law_clash) (defBody s__law_clash) (defScope s__law_clash) .none kV__law_clash dc__law_clash pm__law_clash an__law_clash cd__law_clash ct__law_clash, f__law_error := f__law_error, d__law_error := PySem.W.fnOf "_law_error" "_law_error" (defArgs s__law_error) (defBody s__law_error) (defScope s__law_error) .none kV__law_error dc__law_error pm__law_error an__law_error cd__law_error ct__law_error, f__law_amount := f__law_amount, d__law_amount := PySem.W.fnOf "_law_amount" "_law_amount" (defArgs s__law_amount) (defBody s__law_amount) (defScope s__law_amount) .none kV__law_amount dc__law_amount pm__law_amount an__law_amount cd__law_amount ct__law_amount, f__law_same_ends := f__law_same_ends, d__law_same_ends := PySem.W.fnOf "_law_same_ends" "_law_same_ends" (defArgs s__law_same_ends) (defBody s__law_same_ends) (defScope s__law_same_ends) .none kV__law_same_ends dc__law_same_ends pm__law_same_ends an__law_same_ends cd__law_same_ends ct__law_same_ends, f_law := f_law, d_law := PySem.W.fnOf "law" "law" (defArgs s_law) (defBody s_law) (defScope s_law) .none kV_law dc_law pm_law an_law cd_law ct_law } where
  b_type := PySem.W.mg_none_of X G z_type
  b_int := PySem.W.mg_none_of X G z_int
  b_abs := PySem.W.mg_none_of X G z_abs
  b_str := PySem.W.mg_none_of X G z_str
  b_len := PySem.W.mg_none_of X G z_len
  b_all := PySem.W.mg_none_of X G z_all
  b_tuple := PySem.W.mg_none_of X G z_tuple
  b_range := PySem.W.mg_none_of X G z_range
  b_max := PySem.W.mg_none_of X G z_max
  b_min := PySem.W.mg_none_of X G z_min
  b_sorted := PySem.W.mg_none_of X G z_sorted
  b_isinstance := PySem.W.mg_none_of X G z_isinstance
  b_ValueError := PySem.W.mg_none_of X G z_ValueError
  b_sum := PySem.W.mg_none_of X G z_sum
  g_CutError := PySem.W.mg_of X G a_CutError
  n_CutError := a_CutError
  g_InvalidItem := PySem.W.mg_of X G a_InvalidItem
  n_InvalidItem := a_InvalidItem
  nf_InvalidItem := nfh_InvalidItem
  o_InvalidItem := ⟨⟨nm_InvalidItem, q_InvalidItem, N_InvalidItem, bs_InvalidItem, bm_InvalidItem, sn_InvalidItem, sb_InvalidItem, ab_InvalidItem, co_InvalidItem, dd_InvalidItem, k0_InvalidItem, k1_InvalidItem, k2_InvalidItem, k3_InvalidItem, k5_InvalidItem, xL_InvalidItem, rv_InvalidItem⟩, sa_InvalidItem, exC_InvalidItem, tyC_InvalidItem, kC_InvalidItem⟩
  i_InvalidItem := ih_InvalidItem
  t_InvalidItem := th_InvalidItem
  FI_InvalidItem := fun_mk (st := si_InvalidItem) l_InvalidItem c_InvalidItem k_InvalidItem
  BI_InvalidItem := (fun_mk (st := si_InvalidItem) l_InvalidItem c_InvalidItem k_InvalidItem).binds (ps := ["self", "value"]) fun _ _ _ _ _ _ us hl => match us, hl with | [_, _], _ => rfl
  xf_InvalidItem := ⟨ga_InvalidItem, gg_InvalidItem, exC_InvalidItem, hdC_InvalidItem⟩
  ex_InvalidItem := ⟨ga_InvalidItem, gg_InvalidItem, exC_InvalidItem, hdC_InvalidItem, ha_InvalidItem, hn_InvalidItem, ht_InvalidItem, hm_InvalidItem⟩
  is_InvalidItem_CutError := kit_own tyC_CutError icC_CutError su_InvalidItem_CutError
  is_InvalidItem_ValueError := kit_blt (by decide +kernel) su_InvalidItem_ValueError
  ct_InvalidItem_InvalidItem := exm_of exC_InvalidItem icC_InvalidItem tyC_InvalidItem exC_InvalidItem sc_InvalidItem_InvalidItem
  g_RESERVED := PySem.W.mg_of X G a_RESERVED'
  d_RESERVED := fun P => dn_const l_RESERVED e_RESERVED.1 e_RESERVED.2 (v_RESERVED P) (by decide)
  g_CHANGES := PySem.W.mg_of X G a_CHANGES'
  d_CHANGES := fun P => dn_const l_CHANGES e_CHANGES.1 e_CHANGES.2 (v_CHANGES P) (by decide)
  g_is_short_integer := PySem.W.mg_of X G a_is_short_integer
  F_is_short_integer := fun_mk (st := s_is_short_integer) l_is_short_integer c_is_short_integer k_is_short_integer
  B_is_short_integer := (fun_mk (st := s_is_short_integer) l_is_short_integer c_is_short_integer k_is_short_integer).binds (ps := ["value"]) fun _ _ _ _ _ _ us hl => match us, hl with | [_], _ => rfl
  g_is_name := PySem.W.mg_of X G a_is_name
  F_is_name := fun_mk (st := s_is_name) l_is_name c_is_name k_is_name
  B_is_name := (fun_mk (st := s_is_name) l_is_name c_is_name k_is_name).binds (ps := ["value"]) fun _ _ _ _ _ _ us hl => match us, hl with | [_], _ => rfl
  g_is_pair := PySem.W.mg_of X G a_is_pair
  F_is_pair := fun_mk (st := s_is_pair) l_is_pair c_is_pair k_is_pair
  B_is_pair := (fun_mk (st := s_is_pair) l_is_pair c_is_pair k_is_pair).binds (ps := ["value"]) fun _ _ _ _ _ _ us hl => match us, hl with | [_], _ => rfl
  g_is_headed := PySem.W.mg_of X G a_is_headed
  F_is_headed := fun_mk (st := s_is_headed) l_is_headed c_is_headed k_is_headed
  B_is_headed := (fun_mk (st := s_is_headed) l_is_headed c_is_headed k_is_headed).binds (ps := ["value", "words", "size"]) fun _ _ _ _ _ _ us hl => match us, hl with | [_, _, _], _ => rfl
  g_is_place := PySem.W.mg_of X G a_is_place
  F_is_place := fun_mk (st := s_is_place) l_is_place c_is_place k_is_place
  B_is_place := (fun_mk (st := s_is_place) l_is_place c_is_place k_is_place).binds (ps := ["value"]) fun _ _ _ _ _ _ us hl => match us, hl with | [_], _ => rfl
  g_is_term := PySem.W.mg_of X G a_is_term
  F_is_term := fun_mk (st := s_is_term) l_is_term c_is_term k_is_term
  B_is_term := (fun_mk (st := s_is_term) l_is_term c_is_term k_is_term).binds (ps := ["value"]) fun _ _ _ _ _ _ us hl => match us, hl with | [_], _ => rfl
  g_is_sum := PySem.W.mg_of X G a_is_sum
  F_is_sum := fun_mk (st := s_is_sum) l_is_sum c_is_sum k_is_sum
  B_is_sum := (fun_mk (st := s_is_sum) l_is_sum c_is_sum k_is_sum).binds (ps := ["value"]) fun _ _ _ _ _ _ us hl => match us, hl with | [_], _ => rfl
  g_is_deed := PySem.W.mg_of X G a_is_deed
  F_is_deed := fun_mk (st := s_is_deed) l_is_deed c_is_deed k_is_deed
  B_is_deed := (fun_mk (st := s_is_deed) l_is_deed c_is_deed k_is_deed).binds (ps := ["value"]) fun _ _ _ _ _ _ us hl => match us, hl with | [_], _ => rfl
  g_are_alike := PySem.W.mg_of X G a_are_alike
  F_are_alike := fun_mk (st := s_are_alike) l_are_alike c_are_alike k_are_alike
  B_are_alike := (fun_mk (st := s_are_alike) l_are_alike c_are_alike k_are_alike).binds (ps := ["one", "other"]) fun _ _ _ _ _ _ us hl => match us, hl with | [_, _], _ => rfl
  g_are_clashing := PySem.W.mg_of X G a_are_clashing
  F_are_clashing := fun_mk (st := s_are_clashing) l_are_clashing c_are_clashing k_are_clashing
  B_are_clashing := (fun_mk (st := s_are_clashing) l_are_clashing c_are_clashing k_are_clashing).binds (ps := ["one", "other"]) fun _ _ _ _ _ _ us hl => match us, hl with | [_, _], _ => rfl
  g_do_clash := PySem.W.mg_of X G a_do_clash
  F_do_clash := fun_mk (st := s_do_clash) l_do_clash c_do_clash k_do_clash
  B_do_clash := (fun_mk (st := s_do_clash) l_do_clash c_do_clash k_do_clash).binds (ps := ["one", "other"]) fun _ _ _ _ _ _ us hl => match us, hl with | [_, _], _ => rfl
  g_apply := PySem.W.mg_of X G a_apply
  F_apply := fun_mk (st := s_apply) l_apply c_apply k_apply
  B_apply := (fun_mk (st := s_apply) l_apply c_apply k_apply).binds (ps := ["deed", "item", "value", "amount"]) fun _ _ _ _ _ _ us hl => match us, hl with | [_, _, _, _], _ => rfl
  g__law_pool := PySem.W.mg_of X G a__law_pool
  F__law_pool := fun_mk (st := s__law_pool) l__law_pool c__law_pool k__law_pool
  B__law_pool := (fun_mk (st := s__law_pool) l__law_pool c__law_pool k__law_pool).binds (ps := ["_law_script", "_law_k"]) fun _ _ _ _ _ _ us hl => match us, hl with | [_, _], _ => rfl
  g__law_draw := PySem.W.mg_of X G a__law_draw
  F__law_draw := fun_mk (st := s__law_draw) l__law_draw c__law_draw k__law_draw
  B__law_draw := (fun_mk (st := s__law_draw) l__law_draw c__law_draw k__law_draw).binds (ps := ["_law_pool_here", "_law_count"]) fun _ _ _ _ _ _ us hl => match us, hl with | [_, _], _ => rfl
  g__law_sum := PySem.W.mg_of X G a__law_sum
  F__law_sum := fun_mk (st := s__law_sum) l__law_sum c__law_sum k__law_sum
  B__law_sum := (fun_mk (st := s__law_sum) l__law_sum c__law_sum k__law_sum).binds (ps := ["_law_pool_here", "_law_names"]) fun _ _ _ _ _ _ us hl => match us, hl with | [_, _], _ => rfl
  g__law_deed := PySem.W.mg_of X G a__law_deed
  F__law_deed := fun_mk (st := s__law_deed) l__law_deed c__law_deed k__law_deed
  B__law_deed := (fun_mk (st := s__law_deed) l__law_deed c__law_deed k__law_deed).binds (ps := ["_law_pool_here", "_law_params", "_law_known"]) fun _ _ _ _ _ _ us hl => match us, hl with | [_, _, _], _ => rfl
  g__law_clash := PySem.W.mg_of X G a__law_clash
  F__law_clash := fun_mk (st := s__law_clash) l__law_clash c__law_clash k__law_clash
  B__law_clash := (fun_mk (st := s__law_clash) l__law_clash c__law_clash k__law_clash).binds (ps := ["_law_one", "_law_other"]) fun _ _ _ _ _ _ us hl => match us, hl with | [_, _], _ => rfl
  g__law_error := PySem.W.mg_of X G a__law_error
  F__law_error := fun_mk (st := s__law_error) l__law_error c__law_error k__law_error
  B__law_error := (fun_mk (st := s__law_error) l__law_error c__law_error k__law_error).binds (ps := ["_law_one", "_law_other"]) fun _ _ _ _ _ _ us hl => match us, hl with | [_, _], _ => rfl
  g__law_amount := PySem.W.mg_of X G a__law_amount
  F__law_amount := fun_mk (st := s__law_amount) l__law_amount c__law_amount k__law_amount
  B__law_amount := (fun_mk (st := s__law_amount) l__law_amount c__law_amount k__law_amount).binds (ps := ["_law_deed_here", "_law_spot", "_law_free"]) fun _ _ _ _ _ _ us hl => match us, hl with | [_, _, _], _ => rfl
  g__law_same_ends := PySem.W.mg_of X G a__law_same_ends
  F__law_same_ends := fun_mk (st := s__law_same_ends) l__law_same_ends c__law_same_ends k__law_same_ends
  B__law_same_ends := (fun_mk (st := s__law_same_ends) l__law_same_ends c__law_same_ends k__law_same_ends).binds (ps := ["_law_one", "_law_other", "_law_value", "_law_first", "_law_second"]) fun _ _ _ _ _ _ us hl => match us, hl with | [_, _, _, _, _], _ => rfl
  g_law := PySem.W.mg_of X G a_law
  F_law := fun_mk (st := s_law) l_law c_law k_law
  B_law := (fun_mk (st := s_law) l_law c_law k_law).binds (ps := ["_law_script"]) fun _ _ _ _ _ _ us hl => match us, hl with | [_], _ => rfl
theorem law_mk {P : Program} {w : World} {K : PySem.W.Frag} {mg : Str → Option Value} {a : Ad} {fa : Addr} (hfa : mg "law" = some (.ref fa)) (T : Txt K mg a)
    (hm : ∀ ns : List Int, ns.length ≤ 63 → ∃ es, m_law [some (.sh (.rl (ns.map D.int)))] = .ok (.sh (.bl true), es)) :
    ∃ fd : FuncData, (∀ (s : Shared) (v : Value), BindsTo s fd ⟨[v], []⟩ [("_law_script", v)]) ∧ ∀ base : Heap, K.In base → base.Ns mainGlobals mg → FnOk P w K mg base CX0 7 fa fd ["_law_script"] (spLaw K 63) := by
  have e := hfa.symm.trans T.g_law
  cases e
  refine ⟨a.d_law, fun s v => ?_, fun base _ _ => law_end (ok_law T) (by decide) hm⟩
  obtain ⟨oc, od, kV, doc, pm, an, cdv, ct, osl, e, lk, hcd⟩ := T.F_law.ex
  rw [e]
  exact .of_eq rfl
end K02

namespace K02
open PySem PySem.Spec L2 DL
open PyProof.Rows hiding St
set_option autoImplicit false
/-! ### draws -/
theorem draw {a b c : Int} (h0 : 0 < c) (h1 : c < 1073741824) : ∃ f a' b', 0 ≤ f ∧ f < c ∧ m__law_draw [some (.io (.lst [.int a, .int b])), some (.sh (.int c))] = .ok (.sh (.int f), [some (.io (.lst [.int a', .int b'])), some (.sh (.int c))]) := by
  by_cases ha : 0 < a
  · refine ⟨a % c, a / c, b, Int.emod_nonneg _ (by omega), Int.emod_lt_of_pos _ h0, ?_⟩
    simp [m__law_draw, g__law_draw, mDef, gSeq, gIf, fTB, fOp, fUn, fVar, fCon, ap2, ap1, rdR, slotD, ixZ, seqD, L2.atI, L2.ixN, gtZ, ltZ, geZ, ordD, asB, Z.r, gAsg, toSh, modD, divD, mulD, addD, subD, absZ, DL.lenZ, intZ, ptName, isIo, gSetI, ownAt, setC, gRet, retR, outEv, DL.gNil, fLst, fItems, fArgs, shAll, ha, h0, h1]
  · have hm : mulOk b 48271 = true := by unfold mulOk; simp
    have hb0 : 0 ≤ (b * 48271 + 11) % 2147483647 := Int.emod_nonneg _ (by omega)
    have hb1 : (b * 48271 + 11) % 2147483647 < 2147483647 := Int.emod_lt_of_pos _ (by omega)
    have hm2 : mulOk ((b * 48271 + 11) % 2147483647) ((b * 48271 + 11) % 2147483647) = true := by
      unfold mulOk
      exact decide_eq_true (.inl ⟨by omega, by omega⟩)
    refine ⟨((b * 48271 + 11) % 2147483647 * ((b * 48271 + 11) % 2147483647) % 2147483629 / 64) % c, a, (b * 48271 + 11) % 2147483647, Int.emod_nonneg _ (by omega), Int.emod_lt_of_pos _ h0, ?_⟩
    simp [m__law_draw, g__law_draw, mDef, gSeq, gIf, fTB, fOp, fUn, fVar, fCon, ap2, ap1, rdR, slotD, ixZ, seqD, L2.atI, L2.ixN, gtZ, ltZ, geZ, ordD, asB, Z.r, gAsg, toSh, modD, divD, mulD, addD, subD, absZ, DL.lenZ, intZ, ptName, isIo, gSetI, ownAt, setC, gRet, retR, outEv, DL.gNil, fLst, fItems, fArgs, shAll, ha, h0, h1, hm, hm2]
theorem abs_nn (n : Int) : 0 ≤ (if n < 0 then -n else n) := by split <;> omega
def gpz (z : Int) : Fs := (gSeq (gAsg (fCon (.int z)) (ptName 2))
  (gSeq (gIf (fTB (fOp ltZ (fVar 1) (fUn lenZ (fVar 0))))
  (gAsg (fOp ixZ (fVar 0) (fVar 1)) (ptName 2))
  gNil)
  (gSeq (gAsg (fUn absZ (fVar 2)) (ptName 3))
  (gSeq (gAsg (fOp modD (fOp mulD (fOp addD (fOp addD (fOp modD (fVar 3) (fCon (.int 2147483629))) (fOp mulD (fCon (.int 7919)) (fVar 1))) (fCon (.int 31))) (fCon (.int 48271))) (fCon (.int 2147483647))) (ptName 4))
  (gRet (fLst [(fOp mulD (fVar 3) (fUn intZ (fOp geZ (fVar 3) (fOp powD (fCon (.int 10)) (fCon (.int 18)))))), (fVar 4)]))))))
theorem poolz {ns : List Int} {k : Nat} (z : Int) : ∃ a b, mDef 5 (gpz z) [some (.sh (.rl (ns.map D.int))), some (.sh (.int k))] = .ok (.fr (.lst [.int a, .int b]), [some (.sh (.rl (ns.map D.int))), some (.sh (.int k))]) := by
  have hm (x : Int) : mulOk 7919 x = true := by unfold mulOk; simp
  have hm2 (x : Int) : mulOk x 48271 = true := by unfold mulOk; simp
  have hm3 (x : Int) (c : Prop) [Decidable c] : mulOk x (if c then 1 else 0) = true := by unfold mulOk; split <;> simp
  have hz : 2 ≤ sizeLine := by rw [sizeLine_eq]; omega
  have hm4 : mulOk 0 0 = true := rfl
  have hp : powD (.int 10) (.int 18) = some (.sh (.int 1000000000000000000)) := by simp [powD]
  by_cases hk : k < ns.length
  · simp [gpz, mDef, gSeq, gIf, fTB, fOp, fUn, fVar, fCon, ap2, ap1, rdR, slotD, ixZ, seqD, L2.atI, L2.ixN, gtZ, ltZ, geZ, ordD, asB, Z.r, gAsg, toSh, modD, divD, mulD, addD, subD, absZ, DL.lenZ, intZ, ptName, isIo, gSetI, ownAt, setC, gRet, retR, outEv, DL.gNil, fLst, fItems, fArgs, shAll, hm, hm2, hm3, hm4, hp, hk, hz]
  · simp [gpz, mDef, gSeq, gIf, fTB, fOp, fUn, fVar, fCon, ap2, ap1, rdR, slotD, ixZ, seqD, L2.atI, L2.ixN, gtZ, ltZ, geZ, ordD, asB, Z.r, gAsg, toSh, modD, divD, mulD, addD, subD, absZ, DL.lenZ, intZ, ptName, isIo, gSetI, ownAt, setC, gRet, retR, outEv, DL.gNil, fLst, fItems, fArgs, shAll, hm, hm2, hm3, hm4, hp, hk, hz]

theorem pool {ns : List Int} {k : Nat} : ∃ a b, m__law_pool [some (.sh (.rl (ns.map D.int))), some (.sh (.int k))] = .ok (.fr (.lst [.int a, .int b]), [some (.sh (.rl (ns.map D.int))), some (.sh (.int k))]) := poolz 0
end K02

namespace K02
open PySem PySem.Spec L2 DL
open PyProof.Rows hiding St
set_option autoImplicit false
/-- a draw in its place -/
theorem draw_call {es : Ev} {i : Nat} {a b c : Int} {fc : Fe} (hs : ownAt es i = some (.lst [.int a, .int b])) (hf : fc es = .ok (.sh (.int c), es)) (h0 : 0 < c) (h1 : c < 1073741824) :
    ∃ f a' b', 0 ≤ f ∧ f < c ∧ fCall (noX m__law_draw) [(true, fVar i), (false, fc)] [] es = .ok (.sh (.int f), setC es i (.lst [.int a', .int b'])) := by
  obtain ⟨f, a', b', q0, q1, q2⟩ := draw (a := a) (b := b) h0 h1
  have hv : fVar i es = .ok (.ow i, es) := by
    unfold ownAt at hs
    unfold fVar
    split at hs
    · rename_i e; rw [e]
    · rename_i e; rw [e]
    · cases hs
  exact ⟨f, a', b', q0, q1, call_g (es1 := es) (es' := setC es i (.lst [.int a', .int b'])) (as := [.io i, .sh (.int c)]) (cs := [some (.io (.lst [.int a, .int b])), some (.sh (.int c))]) (by simp [fArgs, hv, hf, toSh]) (by simp [ioIx]) (by simp [toEv, hs]) q2 (by simp [wb])⟩
/-! ### sums -/
def names4 : List Str := ["p", "q", "x", "y"]
def getI (kvs : List (Key × D)) (x : Str) : Int := match vD kvs (.inr x) with
  | some (.int i) => i
  | _ => 0
def T : Nat → List (List (Key × D))
  | 0 => [[]]
  | n + 1 => (T n).flatMap fun kvs => names4.flatMap fun x => [1, -1, 2].map fun v => putD kvs (.inr x) (.int (getI kvs x + v))
def okV (kvs : List (Key × D)) (x : Str) : Bool := match vD kvs (.inr x) with
  | some (.int _) => true
  | none => true
  | _ => false
def okK (kvs : List (Key × D)) (x : Str) : Bool := match vD kvs (.inr x) with
  | some (.int _) => true
  | _ => false
def keysS (kvs : List (Key × D)) : List Str := (strKeys kvs).getD []
def tm (kvs : List (Key × D)) (x : Str) : Option D := match vD kvs (.inr x) with
  | some (.int v) => if v = 0 then none else some (.tup [.int v, .str x])
  | _ => none
def terms (kvs : List (Key × D)) : List D := (sortS (keysS kvs)).filterMap (tm kvs)
/-- data that == takes -/
def shp (d : D) : Bool := match toPy d with
  | some p => SeqAt.shaped p
  | none => false
def tOk : D → Bool
  | .tup [.int v, .str _] => decide (-10 ≤ v ∧ v ≤ 10)
  | _ => false
def chk (kvs : List (Key × D)) : Bool := decide (kvs.length < 3) && names4.all (okV kvs) && (strKeys kvs).isSome && decide ((keysS kvs).length < 64) && (sortS (keysS kvs)).all (okK kvs) && decide ((terms kvs).length < 3) &&
  ([0, 1, -2, 5].all fun c => isT (m_is_sum [some (.sh (.tup [.str "sum", .int c, .tup (terms kvs)]))])) && ((terms kvs).all tOk && shp (.tup (terms kvs)) && [0, 1, -2, 5].all fun c => shp (.tup [.str "sum", .int c, .tup (terms kvs)]))
def allT : List (List (Key × D)) := T 0 ++ T 1 ++ T 2
theorem chk_all : allT.all chk = true := by decide +kernel
end K02

namespace K02
open PySem PySem.Spec L2 DL
open PyProof.Rows hiding St
set_option autoImplicit false
theorem ownAt_io {es : Ev} {i : Nat} {d : D} (h : es[i]? = some (some (.io d))) : ownAt es i = some d := by unfold ownAt; rw [h]
theorem toPyA_cons {x : Str} {nm : List Str} : toPyA ((x :: nm).map D.str) = (toPyA (nm.map D.str)).map fun ps => .str x :: ps := by
  rw [List.map_cons, toPyA, toPy]; rfl
theorem toPyA_strs : ∀ nm : List Str, toPyA (nm.map D.str) = some (nm.map PyData.str)
  | [] => rfl
  | x :: r => by rw [toPyA_cons, toPyA_strs r]; rfl
theorem lay_strs : ∀ {nm : List Str}, (∀ x ∈ nm, (PyData.str x).canLay0 = true) → PyData.canLayAll0 (nm.map PyData.str) = true ∧ PyData.depthAll (nm.map PyData.str) = 0
  | [], _ => ⟨rfl, rfl⟩
  | x :: r, h => by
    obtain ⟨h1, h2⟩ := lay_strs (nm := r) fun y hy => h y (List.mem_cons_of_mem _ hy)
    refine ⟨?_, ?_⟩
    · rw [List.map_cons, PyData.canLayAll0, h x List.mem_cons_self, h1]; rfl
    · rw [List.map_cons, PyData.depthAll, h2, PyData.depth]; rfl
theorem lay4 : names4.all (fun x => (PyData.str x).canLay0) = true := by decide +kernel
theorem ne_nil {nm : List Str} (h : nm ≠ []) (h4 : ∀ x ∈ nm, x ∈ names4) : neZ (.lst (nm.map .str)) (.lst []) = some (.sh (.bl true)) := by
  obtain ⟨l1, l2⟩ := lay_strs (nm := nm) fun x hx => List.all_eq_true.mp lay4 x (h4 x hx)
  have hs : SeqAt.shaped (PyData.list (nm.map PyData.str)) = true := by
    unfold SeqAt.shaped
    rw [PyData.canLay0, PyData.depth, l1, l2]; rfl
  have hs0 : SeqAt.shaped (PyData.list []) = true := by decide +kernel
  have he : (PyData.list (nm.map PyData.str)).eqv (PyData.list []) = false := by
    cases nm with
    | nil => exact (h rfl).elim
    | cons x r => rfl
  unfold neZ eqD
  rw [toPy, toPyA_strs]
  simp only [toPy, toPyA, Option.map_some, Option.bind_some, hs, hs0, and_self, if_true, he]
  rfl
theorem turns {es : Ev} {a b : Int} {nm : List Str} (h0 : ownAt es 0 = some (.lst [.int a, .int b])) (h1 : ∀ d, (setC es 0 d)[1]? = some (some (.sh (.lst (nm.map .str))))) (hn : nm ≠ []) (h4 : ∀ x ∈ nm, x ∈ names4) :
    ∃ t a' b' : Int, 0 ≤ t ∧ t ≤ 2 ∧ iRng1F (fOp mulD (fCall (noX m__law_draw) [(true, (fVar 0)), (false, (fCon (.int 3)))] []) (fUn intZ (fOp neZ (fVar 1) (fLst [])))) es = .ok (intsD 0 t.toNat, setC es 0 (.lst [.int a', .int b'])) := by
  obtain ⟨f, a', b', q0, q1, q2⟩ := draw_call (fc := fCon (.int 3)) h0 rfl (by omega) (by omega)
  have hm (x : Int) : mulOk x 1 = true := by unfold mulOk; simp
  refine ⟨f, a', b', q0, by omega, ?_⟩
  have hz : 0 ≤ sizeLine := Nat.zero_le _
  have e1 : -(4611686018427387904 : Int) ≤ f := by omega
  have e2 : f ≤ 16777216 := by omega
  simp [iRng1F, fArgs, fOp, q2, fUn, fVar, h1, fLst, fItems, shAll, hz, ap2, rdR, ap1, ne_nil hn h4, intZ, Z.r, mulD, hm, toSh, asInt, e1, e2]
end K02

namespace K02
open PySem PySem.Spec L2 DL
open PyProof.Rows hiding St
set_option autoImplicit false
theorem io1 {a : Option Sl} {o : Option D} {r : Ev} : isIo (a :: Option.map Sl.sh o :: r) 1 = false := by cases o <;> rfl
theorem io2 {a b : Option Sl} {o : Option D} {r : Ev} : isIo (a :: b :: Option.map Sl.sh o :: r) 2 = false := by cases o <;> rfl
theorem io3 {a b c : Option Sl} {o : Option D} {r : Ev} : isIo (a :: b :: c :: Option.map Sl.sh o :: r) 3 = false := by cases o <;> rfl
theorem io4 {a b c d : Option Sl} {o : Option D} {r : Ev} : isIo (a :: b :: c :: d :: Option.map Sl.sh o :: r) 4 = false := by cases o <;> rfl
theorem io5 {a b c d e : Option Sl} {o : Option D} {r : Ev} : isIo (a :: b :: c :: d :: e :: Option.map Sl.sh o :: r) 5 = false := by cases o <;> rfl
theorem io6 {a b c d e f : Option Sl} {o : Option D} {r : Ev} : isIo (a :: b :: c :: d :: e :: f :: Option.map Sl.sh o :: r) 6 = false := by cases o <;> rfl
theorem io7 {a b c d e f g : Option Sl} {o : Option D} {r : Ev} : isIo (a :: b :: c :: d :: e :: f :: g :: Option.map Sl.sh o :: r) 7 = false := by cases o <;> rfl
theorem okV_T {n : Nat} (hn : n ≤ 2) {kvs : List (Key × D)} (h : kvs ∈ T n) : chk kvs = true := by
  refine List.all_eq_true.mp chk_all kvs ?_
  unfold allT
  rw [List.mem_append, List.mem_append]
  match n, hn with
  | 0, _ => exact .inl (.inl h)
  | 1, _ => exact .inl (.inr h)
  | 2, _ => exact .inr h
theorem get_I {kvs : List (Key × D)} {x : Str} (h : okV kvs x = true) : (match vD kvs (.inr x) with
    | some d => d
    | none => .int 0) = .int (getI kvs x) := by
  unfold okV at h
  unfold getI
  cases e : vD kvs (.inr x) with
  | none => rfl
  | some d =>
    rw [e] at h
    cases d <;> first | rfl | (cases h)
def keysIn (nm : List Str) (kvs : List (Key × D)) : Prop := ∀ kv ∈ kvs, ∃ x ∈ nm, kv.1 = .inr x
theorem keysIn_put {nm : List Str} {kvs : List (Key × D)} {x : Str} {d : D} (h : keysIn nm kvs) (hx : x ∈ nm) : keysIn nm (putD kvs (.inr x) d) := by
  intro kv hk
  unfold putD at hk
  split at hk
  · obtain ⟨k0, h0, e⟩ := List.mem_map.mp hk
    obtain ⟨y, hy, ey⟩ := h k0 h0
    split at e
    · subst e; exact ⟨y, hy, ey⟩
    · subst e; exact ⟨y, hy, ey⟩
  · rcases List.mem_append.mp hk with q | q
    · exact h kv q
    · rw [List.mem_singleton.mp q]; exact ⟨x, hx, rfl⟩
def IS (nm : List Str) (n : Nat) (es : Ev) : Prop := ∃ a b kvs o3 o4, es = [some (.io (.lst [.int a, .int b])), some (.sh (.lst (nm.map .str))), some (.ow (.dk kvs)), nz o3, nz o4, none] ∧ kvs ∈ T n ∧ keysIn nm kvs
def bS : Fs := (gSeq (gAsg (fOp ixZ (fVar 1) (fCall (noX m__law_draw) [(true, (fVar 0)), (false, (fUn DL.lenZ (fVar 1)))] [])) (ptName 4))
  (gDput 2 (fVar 4) (fOp addD (fGet2 (fVar 2) (fVar 4) (fCon (.int 0))) (fOp ixZ (fLst [(fCon (.int 1)), (fUn negD (fCon (.int 1))), (fCon (.int 2))]) (fCall (noX m__law_draw) [(true, (fVar 0)), (false, (fCon (.int 3)))] [])))))
theorem step_S {nm : List Str} (hn : nm ≠ []) (h4 : ∀ x ∈ nm, x ∈ names4) (hl : nm.length < 100) {i : Nat} (hi : i < 2) {d : D} {es : Ev} (h : IS nm i es) : ∃ e1 e2, ptName 3 d es = some e1 ∧ (bS e1 = .ok (.nx e2) ∨ bS e1 = .ok (.ct e2)) ∧ IS nm (i + 1) e2 := by
  obtain ⟨a, b, kvs, o3, o4, rfl, hk, hki⟩ := h
  have hc := okV_T (by omega) hk
  unfold chk at hc
  simp only [Bool.and_eq_true] at hc
  obtain ⟨⟨⟨⟨⟨⟨⟨c1, c2⟩, _⟩, _⟩, _⟩, _⟩, _⟩, _⟩ := hc
  have c1 := of_decide_eq_true c1
  have hlen : (0 : Int) < (nm.length : Int) := by
    cases nm with
    | nil => exact (hn rfl).elim
    | cons x r => simp
  let e1 : Ev := [some (.io (.lst [.int a, .int b])), some (.sh (.lst (nm.map .str))), some (.ow (.dk kvs)), nz (some d), nz o4, none]
  obtain ⟨f, a1, b1, f0, f1, hd1⟩ := draw_call (es := e1) (i := 0) (a := a) (b := b) (c := nm.length) (fc := fUn DL.lenZ (fVar 1)) rfl (by simp [e1, fUn, fVar, ap1, rdR, DL.lenZ, seqD, Z.r]) hlen (by omega)
  obtain ⟨w, _, hw, hx⟩ := ixZ_in (ds := nm.map D.str) f0 (by rw [List.length_map]; exact f1)
  obtain ⟨x, hx1, rfl⟩ := List.mem_map.mp hw
  let e2 : Ev := [some (.io (.lst [.int a1, .int b1])), some (.sh (.lst (nm.map .str))), some (.ow (.dk kvs)), nz (some d), nz (some (.str x)), none]
  obtain ⟨g, a2, b2, g0, g1, hd2⟩ := draw_call (es := e2) (i := 0) (a := a1) (b := b1) (c := 3) (fc := fCon (.int 3)) rfl rfl (by omega) (by omega)
  obtain ⟨v, _, hv, hy⟩ := ixZ_in (ds := [.int 1, .int (-1), .int 2]) g0 (by simpa using g1)
  obtain ⟨v, hv1, rfl⟩ : ∃ v' : Int, v' ∈ [(1 : Int), -1, 2] ∧ v = .int v' := by
    rcases List.mem_cons.mp hv with e | hv
    · exact ⟨1, by simp, e⟩
    rcases List.mem_cons.mp hv with e | hv
    · exact ⟨-1, by simp, e⟩
    rcases List.mem_cons.mp hv with e | hv
    · exact ⟨2, by simp, e⟩
    cases hv
  have hx4 := h4 x hx1
  have hg := get_I (List.all_eq_true.mp c2 x hx4)
  have hz3 : 3 ≤ sizeLine := by rw [sizeLine_eq]; omega
  have hzk : kvs.length < sizeLine := by rw [sizeLine_eq]; omega
  refine ⟨e1, [some (.io (.lst [.int a2, .int b2])), some (.sh (.lst (nm.map .str))), some (.ow (.dk (putD kvs (.inr x) (.int (getI kvs x + v))))), nz (some d), nz (some (.str x)), none], by simp [ptName, io3, e1, nz], .inl ?_, a2, b2, _, _, _, rfl, ?_⟩
  · have s1 : gAsg (fOp ixZ (fVar 1) (fCall (noX m__law_draw) [(true, (fVar 0)), (false, (fUn DL.lenZ (fVar 1)))] [])) (ptName 4) e1 = .ok (.nx e2) := by
      unfold gAsg fOp
      have : fVar 1 e1 = .ok (.sh (.lst (nm.map .str)), e1) := rfl
      rw [this]
      simp only [Rs.bind_ok, hd1]
      simp [ap2, rdR, hx, Z.r, toSh, ptName, setC, e1, e2, io4, nz]
    have s2 : fGet2 (fVar 2) (fVar 4) (fCon (.int 0)) e2 = .ok (.sh (.int (getI kvs x)), e2) := by
      simp [fGet2, fVar, fCon, e2, isDk, rdR, slotD, keyD, nz]
      cases e : vD kvs (.inr x) with
      | none => rw [e] at hg; simp at hg; simp [hg]
      | some y => rw [e] at hg; simp at hg; simp [hg]
    have s3 : fLst [(fCon (.int 1)), (fUn negD (fCon (.int 1))), (fCon (.int 2))] e2 = .ok (.fr (.lst [.int 1, .int (-1), .int 2]), e2) := by
      simp [fLst, fItems, fArgs, fCon, fUn, ap1, rdR, negD, Z.r, toSh, shAll, hz3]
    unfold bS gSeq
    rw [s1]
    simp only [Rs.bind_ok]
    unfold gDput fOp
    simp only [s2, s3, Rs.bind_ok, hd2]
    simp [ap2, rdR, hy, Z.r, addD, toSh, setC, e2, ownAt, fVar, keyD, nz, hzk]
  · refine ⟨?_, keysIn_put hki hx1⟩
    unfold T
    rw [List.mem_flatMap]
    refine ⟨kvs, hk, List.mem_flatMap.mpr ⟨x, hx4, List.mem_map.mpr ⟨v, hv1, rfl⟩⟩⟩
end K02

namespace K02
open PySem PySem.Spec L2 DL
open PyProof.Rows hiding St
set_option autoImplicit false
theorem eq_int (i j : Int) : eqZ (.int i) (.int j) = some (.sh (.bl (i == j))) := by
  unfold eqZ eqD
  simp only [toPy, Option.bind_some]
  rw [if_pos ⟨by rfl, by rfl⟩]
  rfl
theorem ne_int (i j : Int) : neZ (.int i) (.int j) = some (.sh (.bl (!(i == j)))) := by
  unfold neZ eqD
  simp only [toPy, Option.bind_some]
  rw [if_pos ⟨by rfl, by rfl⟩]
  rfl
theorem fUn_eq (g : D → Option Z) (fa : Fe) (es : Ev) : fUn g fa es = (fa es).bind fun p => Rs.of (ap1 g p.1 p.2) := rfl
theorem fOp_eq (g : D → D → Option Z) (fa fb : Fe) (es : Ev) : fOp g fa fb es = (fa es).bind fun p => (fb p.2).bind fun q => Rs.of (ap2 g p.1 q.1 q.2) := rfl
theorem gSeq_ok {g1 g2 : Fs} {es e : Ev} (h : g1 es = .ok (.nx e)) : gSeq g1 g2 es = g2 e := by unfold gSeq; rw [h]; rfl
theorem gAsg_ok {f : Fe} {p : Pt} {es e1 e2 e3 : Ev} {r : R} {d : D} (h : f es = .ok (r, e1)) (h2 : toSh r e1 = some (d, e2)) (h3 : p d e2 = some e3) : gAsg f p es = .ok (.nx e3) := by unfold gAsg; rw [h]; simp only [Rs.bind_ok, h2, Rs.of_some, h3]
theorem hz4_ : 4 ≤ sizeLine := by rw [sizeLine_eq]; omega
theorem lcl {kvs : List (Key × D)} {p0 p1 p3 p5 : Option Sl} {o : Option D} : ∀ {ss : List Str}, (∀ x ∈ ss, okK kvs x = true) →
    lcL (ptName 4) (fTB (fOp neZ (fOp dgetZ (fVar 2) (fVar 4)) (fCon (.int 0)))) (fTup [(fOp dgetZ (fVar 2) (fVar 4)), (fVar 4)]) [4] (ss.map D.str) [p0, p1, some (.ow (.dk kvs)), p3, nz o, p5] = .ok (ss.filterMap (tm kvs), [p0, p1, some (.ow (.dk kvs)), p3, nz o, p5])
  | [], _ => rfl
  | x :: ss, h => by
    have hx := h x List.mem_cons_self
    have ih := lcl (p0 := p0) (p1 := p1) (p3 := p3) (p5 := p5) (o := o) (ss := ss) fun y hy => h y (List.mem_cons_of_mem _ hy)
    obtain ⟨v, hv⟩ : ∃ v, vD kvs (.inr x) = some (.int v) := by
      unfold okK at hx
      split at hx
      · rename_i v e; exact ⟨v, e⟩
      · cases hx
    have h2 : 2 ≤ sizeLine := Nat.le_trans (by omega) hz4_
    rw [List.map_cons, lcL]
    simp only [wipeE, List.set_cons_succ, List.set_cons_zero]
    simp only [ptName, isIo, List.getElem?_cons_succ, List.getElem?_cons_zero, if_true, List.set_cons_succ, List.set_cons_zero, Rs.of_some, Rs.bind_ok]
    by_cases hz : v = 0
    · have e1 : tm kvs x = none := by unfold tm; rw [hv]; simp [hz]
      rw [List.filterMap_cons, e1]
      simp [noXT, fTB, fOp, fVar, fCon, ap2, rdR, slotD, dgetZ, keyD, hv, Z.r, ne_int, hz, asB, unw, nz]
      exact ih
    · have e1 : tm kvs x = some (.tup [.int v, .str x]) := by unfold tm; rw [hv]; simp [hz]
      rw [List.filterMap_cons, e1]
      simp [noXT, noX, fTB, fOp, fVar, fCon, ap2, rdR, slotD, dgetZ, keyD, hv, Z.r, ne_int, hz, asB, unw, nz, fTup, fItems, fArgs, shAll, toSh, h2]
      rw [show (Option.map Sl.sh o) = nz o from rfl, ih]
      rfl
structure SumOk (nm : List Str) (s : D) : Prop where
  ex : ∃ c ts, s = .tup [.str "sum", .int c, .tup ts] ∧ m_is_sum [some (.sh s)] = .ok (.sh (.bl true), [some (.sh s)]) ∧ shp s = true ∧ shp (.tup ts) = true ∧ ts.length < 3 ∧ ∀ t ∈ ts, ∃ v x, t = .tup [.int v, .str x] ∧ x ∈ nm ∧ -10 ≤ v ∧ v ≤ 10
theorem keys_mem : ∀ {kvs : List (Key × D)} {ks : List Str} {x : Str}, strKeys kvs = some ks → x ∈ ks → ∃ d, (.inr x, d) ∈ kvs
  | [], _, _, h, hx => by cases h; cases hx
  | (.inr s, d) :: r, ks, x, h, hx => by
    obtain ⟨l, h1, h2⟩ := Option.map_eq_some_iff.mp h
    subst h2
    rcases List.mem_cons.mp hx with e | hx
    · subst e; exact ⟨d, List.mem_cons_self⟩
    · obtain ⟨d', h'⟩ := keys_mem h1 hx
      exact ⟨d', List.mem_cons_of_mem _ h'⟩
  | (.inl _, _) :: _, _, _, h, _ => by cases h
theorem terms_in {nm : List Str} {kvs : List (Key × D)} {ks : List Str} (hk : keysIn nm kvs) (e : strKeys kvs = some ks) (ht : (terms kvs).all tOk = true) : ∀ t ∈ terms kvs, ∃ v x, t = .tup [.int v, .str x] ∧ x ∈ nm ∧ -10 ≤ v ∧ v ≤ 10 := by
  intro t h
  have h1 := List.all_eq_true.mp ht t h
  unfold terms at h
  obtain ⟨x, hx, e1⟩ := List.mem_filterMap.mp h
  have hx : x ∈ ks := by
    have : x ∈ keysS kvs := (sortS_perm _).mem_iff.mp hx
    unfold keysS at this
    rw [e] at this
    exact this
  obtain ⟨d, hd⟩ := keys_mem e hx
  obtain ⟨y, hy, ey⟩ := hk _ hd
  have : x = y := Sum.inr.inj ey
  subst this
  unfold tm at e1
  split at e1
  · rename_i v _
    split at e1
    · cases e1
    · cases e1
      exact ⟨v, x, rfl, hy, of_decide_eq_true h1⟩
  · cases e1
theorem sum {a b : Int} {nm : List Str} (hn : nm ≠ []) (h4 : ∀ x ∈ nm, x ∈ names4) (hl : nm.length < 100) :
    ∃ s a' b', SumOk nm s ∧ m__law_sum [some (.io (.lst [.int a, .int b])), some (.sh (.lst (nm.map .str)))] = .ok (.sh s, [some (.io (.lst [.int a', .int b'])), some (.sh (.lst (nm.map .str)))]) := by
  let E0 : Ev := [some (.io (.lst [.int a, .int b])), some (.sh (.lst (nm.map .str))), none, none, none, none]
  let E1 : Ev := [some (.io (.lst [.int a, .int b])), some (.sh (.lst (nm.map .str))), some (.ow (.dk [])), none, none, none]
  have s1 : gOwn fDnew 2 E0 = .ok (.nx E1) := rfl
  obtain ⟨t, a1, b1, t0, t2, ht⟩ := turns (es := E1) (a := a) (b := b) (nm := nm) rfl (fun d => rfl) hn h4
  have hlen : (intsD 0 t.toNat).length = t.toNat := by unfold intsD; simp
  obtain ⟨es2, l1, l2⟩ := forL_go (p := ptName 3) (body := bS) (IS nm) (ds := intsD 0 t.toNat) (k := 0) (es := setC E1 0 (.lst [.int a1, .int b1])) (fun i d e q w => by
    have : i < t.toNat := by
      have := (List.getElem?_eq_some_iff.mp q).1
      omega
    rw [Nat.zero_add] at w ⊢
    exact step_S hn h4 hl (by omega) w) ⟨a1, b1, [], none, none, rfl, by unfold T; exact List.mem_singleton.mpr rfl, fun kv h => by cases h⟩
  rw [Nat.zero_add, hlen] at l2
  obtain ⟨a2, b2, kvs, o3, o4, rfl, hk, hki⟩ := l2
  have hc := okV_T (by omega) hk
  unfold chk at hc
  simp only [Bool.and_eq_true] at hc
  obtain ⟨⟨⟨⟨⟨⟨⟨_, _⟩, c3⟩, c4⟩, c5⟩, c6⟩, c7⟩, ⟨c8, c9⟩, c10⟩ := hc
  have c4 := of_decide_eq_true c4
  have c6 := of_decide_eq_true c6
  obtain ⟨ks, hks⟩ := Option.isSome_iff_exists.mp c3
  have hkS : keysS kvs = ks := by unfold keysS; rw [hks]; rfl
  let E2 : Ev := [some (.io (.lst [.int a2, .int b2])), some (.sh (.lst (nm.map .str))), some (.ow (.dk kvs)), nz o3, nz o4, none]
  let E3 : Ev := [some (.io (.lst [.int a2, .int b2])), some (.sh (.lst (nm.map .str))), some (.ow (.dk kvs)), nz o3, nz o4, some (.sh (.tup (terms kvs)))]
  have hsz : (sortS ks).length < 64 := by rw [(sortS_perm ks).length_eq, ← hkS]; exact c4
  have s3 : (iAnyF (fUn sortZ (fVar 2))) E2 = .ok ((sortS ks).map .str, E2) := by
    have : ks.length < 64 := by rw [← hkS]; exact c4
    simp [iAnyF, fUn, fVar, E2, ap1, rdR, slotD, sortZ, hks, this, Z.r, toSh, itemsD, seqD]
  have s4 : gAsg (fUn tupleZ (fLc (iAnyF (fUn sortZ (fVar 2))) (ptName 4) (fTB (fOp neZ (fOp dgetZ (fVar 2) (fVar 4)) (fCon (.int 0)))) (fTup [(fOp dgetZ (fVar 2) (fVar 4)), (fVar 4)]) [4])) (ptName 5) E2 = .ok (.nx E3) := by
    have lc := lcl (kvs := kvs) (p0 := some (.io (.lst [.int a2, .int b2]))) (p1 := some (.sh (.lst (nm.map .str)))) (p3 := nz o3) (p5 := none) (o := o4) (ss := sortS ks) (by rw [← hkS]; exact List.all_eq_true.mp c5)
    have ht : (sortS ks).filterMap (tm kvs) = terms kvs := by unfold terms; rw [hkS]
    rw [ht] at lc
    have hl : fLc (iAnyF (fUn sortZ (fVar 2))) (ptName 4) (fTB (fOp neZ (fOp dgetZ (fVar 2) (fVar 4)) (fCon (.int 0)))) (fTup [(fOp dgetZ (fVar 2) (fVar 4)), (fVar 4)]) [4] E2 = .ok (.fr (.lst (terms kvs)), E2) := by
      unfold fLc
      rw [s3]
      simp only [Rs.bind_ok]
      rw [show E2 = [some (.io (.lst [.int a2, .int b2])), some (.sh (.lst (nm.map .str))), some (.ow (.dk kvs)), nz o3, nz o4, none] from rfl, lc]
      rfl
    exact gAsg_ok (r := .sh (.tup (terms kvs))) (e1 := E2) (e2 := E2) (d := .tup (terms kvs)) (by rw [fUn_eq, hl]; simp [ap1, rdR, tupleZ, lstD, Z.r]) rfl (by simp [ptName, isIo, E2, E3])
  obtain ⟨f, a3, b3, f0, f1, hd⟩ := draw_call (es := E3) (i := 0) (a := a2) (b := b2) (c := 4) (fc := fCon (.int 4)) rfl rfl (by omega) (by omega)
  obtain ⟨v, _, hv, hy⟩ := ixZ_in (ds := [.int 0, .int 1, .int (-2), .int 5]) f0 (by simpa using f1)
  obtain ⟨v, hv1, rfl⟩ : ∃ v' : Int, v' ∈ [(0 : Int), 1, -2, 5] ∧ v = .int v' := by
    rcases List.mem_cons.mp hv with e | hv
    · exact ⟨0, by simp, e⟩
    rcases List.mem_cons.mp hv with e | hv
    · exact ⟨1, by simp, e⟩
    rcases List.mem_cons.mp hv with e | hv
    · exact ⟨-2, by simp, e⟩
    rcases List.mem_cons.mp hv with e | hv
    · exact ⟨5, by simp, e⟩
    cases hv
  refine ⟨.tup [.str "sum", .int v, .tup (terms kvs)], a3, b3, ⟨v, terms kvs, rfl, isT_ok (allSh1 _) (List.all_eq_true.mp c7 v hv1), List.all_eq_true.mp c10 v hv1, c9, c6, terms_in hki hks c8⟩, ?_⟩
  have h3 : 3 ≤ sizeLine := Nat.le_trans (by omega) hz4_
  have s5 : fLst [(fCon (.int 0)), (fCon (.int 1)), (fUn negD (fCon (.int 2))), (fCon (.int 5))] E3 = .ok (.fr (.lst [.int 0, .int 1, .int (-2), .int 5]), E3) := by
    simp [fLst, fItems, fArgs, fCon, fUn, ap1, rdR, negD, Z.r, toSh, shAll, hz4_]
  have s6 : gRet (fTup [(fCon (.str "sum")), (fOp ixZ (fLst [(fCon (.int 0)), (fCon (.int 1)), (fUn negD (fCon (.int 2))), (fCon (.int 5))]) (fCall (noX m__law_draw) [(true, (fVar 0)), (false, (fCon (.int 4)))] [])), (fVar 5)]) E3 = .ok (.rt (.sh (.tup [.str "sum", .int v, .tup (terms kvs)])) (setC E3 0 (.lst [.int a3, .int b3]))) := by
    have hf : fOp ixZ (fLst [(fCon (.int 0)), (fCon (.int 1)), (fUn negD (fCon (.int 2))), (fCon (.int 5))]) (fCall (noX m__law_draw) [(true, (fVar 0)), (false, (fCon (.int 4)))] []) E3 = .ok (.sh (.int v), setC E3 0 (.lst [.int a3, .int b3])) := by
      rw [fOp_eq, s5]
      simp only [Rs.bind_ok, hd]
      simp [ap2, rdR, hy, Z.r]
    have hv5 : fVar 5 (setC E3 0 (.lst [.int a3, .int b3])) = .ok (.sh (.tup (terms kvs)), setC E3 0 (.lst [.int a3, .int b3])) := rfl
    unfold gRet fTup fItems
    simp only [List.map_cons, List.map_nil, fArgs, fCon, Rs.bind_ok, toSh, Rs.of_some, hf, hv5, shAll, Option.map_some, List.length_cons, List.length_nil]
    rw [if_pos h3]
    rfl
  have s7 : g__law_sum E0 = .ok (.rt (.sh (.tup [.str "sum", .int v, .tup (terms kvs)])) (setC E3 0 (.lst [.int a3, .int b3]))) := by
    have hF : gFor (iRng1F (fOp mulD (fCall (noX m__law_draw) [(true, (fVar 0)), (false, (fCon (.int 3)))] []) (fUn intZ (fOp neZ (fVar 1) (fLst []))))) (ptName 3) bS E1 = .ok (.nx E2) := by
      unfold gFor
      rw [ht]
      exact l1
    exact (gSeq_ok s1).trans ((gSeq_ok hF).trans ((gSeq_ok s4).trans s6))
  unfold m__law_sum mDef
  rw [show ([some (.io (.lst [.int a, .int b])), some (.sh (.lst (nm.map .str)))] ++ List.replicate (6 - [some (Sl.io (.lst [.int a, .int b])), some (.sh (.lst (nm.map .str)))].length) none : Ev) = E0 from rfl, s7]
  rfl
end K02

namespace K02
open PySem PySem.Spec L2 DL
open PyProof.Rows hiding St
set_option autoImplicit false
abbrev s1_ (d : D) : Ev := [some (.sh d)]
abbrev s3_ (d e f : D) : Ev := [some (.sh d), some (.sh e), some (.sh f)]
def chW : List Str := ["add", "put", "raise", "lower"]
theorem hd_read (pl t : D) : m_is_headed (s3_ (.tup [.str "read", pl, t]) (.tup [.str "read"]) (.int 3)) = .ok (.sh (.bl true), s3_ (.tup [.str "read", pl, t]) (.tup [.str "read"]) (.int 3)) := by with_unfolding_all rfl
theorem hd_rs (pl t : D) : m_is_headed (s3_ (.tup [.str "read", pl, t]) (.tup [.str "sum"]) (.int 3)) = .ok (.sh (.bl false), s3_ (.tup [.str "read", pl, t]) (.tup [.str "sum"]) (.int 3)) := by with_unfolding_all rfl
theorem hd_ss (pl t : D) : m_is_headed (s3_ (.tup [.str "sum", pl, t]) (.tup [.str "sum"]) (.int 3)) = .ok (.sh (.bl true), s3_ (.tup [.str "sum", pl, t]) (.tup [.str "sum"]) (.int 3)) := by with_unfolding_all rfl
theorem ch_cases {w : Str} (h : w ∈ chW) : w = "add" ∨ w = "put" ∨ w = "raise" ∨ w = "lower" := by
  unfold chW at h
  simpa using h
theorem hd_wr {w : Str} (h : w ∈ chW) (pl t : D) : m_is_headed (s3_ (.tup [.str w, pl, t]) (.tup [.str "read"]) (.int 3)) = .ok (.sh (.bl false), s3_ (.tup [.str w, pl, t]) (.tup [.str "read"]) (.int 3)) := by
  rcases ch_cases h with rfl | rfl | rfl | rfl <;> with_unfolding_all rfl
theorem hd_ws {w : Str} (h : w ∈ chW) (pl t : D) : m_is_headed (s3_ (.tup [.str w, pl, t]) (.tup [.str "sum"]) (.int 3)) = .ok (.sh (.bl false), s3_ (.tup [.str w, pl, t]) (.tup [.str "sum"]) (.int 3)) := by
  rcases ch_cases h with rfl | rfl | rfl | rfl <;> with_unfolding_all rfl
theorem hd_wc {w : Str} (h : w ∈ chW) (pl t : D) : m_is_headed (s3_ (.tup [.str w, pl, t]) c_CHANGES (.int 3)) = .ok (.sh (.bl true), s3_ (.tup [.str w, pl, t]) c_CHANGES (.int 3)) := by
  rcases ch_cases h with rfl | rfl | rfl | rfl <;> with_unfolding_all rfl
theorem hd_lr (ds : List D) : m_is_headed (s3_ (.lst ds) (.tup [.str "read"]) (.int 3)) = .ok (.sh (.bl false), s3_ (.lst ds) (.tup [.str "read"]) (.int 3)) := by with_unfolding_all rfl
theorem hd_lc (ds : List D) : m_is_headed (s3_ (.lst ds) c_CHANGES (.int 3)) = .ok (.sh (.bl false), s3_ (.lst ds) c_CHANGES (.int 3)) := by with_unfolding_all rfl
theorem call_3 {m f1 f2 f3 : Fe} {es : Ev} {d1 d2 d3 r : D} (h1 : f1 es = .ok (.sh d1, es)) (h2 : f2 es = .ok (.sh d2, es)) (h3 : f3 es = .ok (.sh d3, es)) (hm : m (s3_ d1 d2 d3) = .ok (.sh r, s3_ d1 d2 d3)) : fCall (noX m) [(false, f1), (false, f2), (false, f3)] [] es = .ok (.sh r, es) :=
  call_g (es1 := es) (as := [.sh d1, .sh d2, .sh d3]) (cs := s3_ d1 d2 d3) (cs' := s3_ d1 d2 d3) (by simp [fArgs, h1, h2, h3, toSh]) (by simp [ioIx]) rfl hm rfl
theorem tup1 {s : D} {es : Ev} : fTup [(fCon s)] es = .ok (.sh (.tup [s]), es) := by
  have : 1 ≤ sizeLine := Nat.le_trans (by omega) hz4_
  simp [fTup, fItems, fArgs, fCon, toSh, shAll, this]
/-! ### places, names -/
def plcs : List D := [.tup [.str "a", .str "p"], .tup [.str "a", .str "q"], .tup [.str "a", .int 0], .tup [.str "a", .int 1], .tup [.str "b", .str "p"], .tup [.str "b", .str "q"], .tup [.str "b", .int 0], .tup [.str "b", .int 1]]
theorem plcs_ok : plcs.all (fun d => isT (m_is_place (s1_ d))) = true := by decide +kernel
theorem place_ok {d : D} (h : d ∈ plcs) : m_is_place (s1_ d) = .ok (.sh (.bl true), s1_ d) := isT_ok (allSh1 d) (List.all_eq_true.mp plcs_ok d h)
def xy : List Str := ["x", "y"]
theorem xy_ok : xy.all (fun x => isT (m_is_name (s1_ (.str x)))) = true := by decide +kernel
theorem name_ok {x : Str} (h : x ∈ xy) : m_is_name (s1_ (.str x)) = .ok (.sh (.bl true), s1_ (.str x)) := isT_ok (allSh1 _) (List.all_eq_true.mp xy_ok x h)
theorem name_a : m_is_name (s1_ (.str "abcdefgh")) = .ok (.sh (.bl true), s1_ (.str "abcdefgh")) := isT_ok (allSh1 _) (by decide +kernel)
theorem nm_zz : m_is_name (s1_ (.str "zz")) = .ok (.sh (.bl true), s1_ (.str "zz")) := isT_ok (allSh1 _) (by decide +kernel)
theorem name_i (i : Int) : m_is_name (s1_ (.int i)) = .ok (.sh (.bl false), s1_ (.int i)) := by with_unfolding_all rfl
theorem pair_2 (x y : D) : m_is_pair (s1_ (.tup [x, y])) = .ok (.sh (.bl true), s1_ (.tup [x, y])) := by with_unfolding_all rfl
/-! ### deeds -/
theorem rd_deed {pl : D} {x : D} (hp : m_is_place (s1_ pl) = .ok (.sh (.bl true), s1_ pl)) (hx : m_is_name (s1_ x) = .ok (.sh (.bl true), s1_ x)) : m_is_deed (s1_ (.tup [.str "read", pl, x])) = .ok (.sh (.bl true), s1_ (.tup [.str "read", pl, x])) := by
  have h0 : fVar 0 (s1_ (.tup [.str "read", pl, x])) = .ok (.sh (.tup [.str "read", pl, x]), s1_ (.tup [.str "read", pl, x])) := rfl
  have c1 := call_3 (m := m_is_headed) h0 (tup1 (s := .str "read")) (f3 := fCon (.int 3)) rfl (hd_read pl x)
  have i1 : fOp ixZ (fVar 0) (fCon (.int 1)) (s1_ (.tup [.str "read", pl, x])) = .ok (.sh pl, s1_ (.tup [.str "read", pl, x])) := rfl
  have i2 : fOp ixZ (fVar 0) (fCon (.int 2)) (s1_ (.tup [.str "read", pl, x])) = .ok (.sh x, s1_ (.tup [.str "read", pl, x])) := rfl
  have c2 := call_1 i1 hp
  have c3 := call_1 i2 hx
  simp [m_is_deed, mDef, g_is_deed, gSeq, gIf, fTru, c1, rdR, truD, gRet, fAnd, c2, c3, asB, retR, outEv]
theorem wr_deed {w : Str} {pl : D} {t : D} (hw : w ∈ chW) (hp : m_is_place (s1_ pl) = .ok (.sh (.bl true), s1_ pl)) (ht : m_is_sum (s1_ t) = .ok (.sh (.bl true), s1_ t)) : m_is_deed (s1_ (.tup [.str w, pl, t])) = .ok (.sh (.bl true), s1_ (.tup [.str w, pl, t])) := by
  have h0 : fVar 0 (s1_ (.tup [.str w, pl, t])) = .ok (.sh (.tup [.str w, pl, t]), s1_ (.tup [.str w, pl, t])) := rfl
  have c1 := call_3 (m := m_is_headed) h0 (tup1 (s := .str "read")) (f3 := fCon (.int 3)) rfl (hd_wr hw pl t)
  have c0 := call_3 (m := m_is_headed) h0 (f2 := fCon c_CHANGES) rfl (f3 := fCon (.int 3)) rfl (hd_wc hw pl t)
  have i1 : fOp ixZ (fVar 0) (fCon (.int 1)) (s1_ (.tup [.str w, pl, t])) = .ok (.sh pl, s1_ (.tup [.str w, pl, t])) := rfl
  have i2 : fOp ixZ (fVar 0) (fCon (.int 2)) (s1_ (.tup [.str w, pl, t])) = .ok (.sh t, s1_ (.tup [.str w, pl, t])) := rfl
  have c2 := call_1 i1 hp
  have c3 := call_1 i2 ht
  simp [m_is_deed, mDef, g_is_deed, gSeq, gIf, DL.gNil, fTru, c1, c0, rdR, truD, gRet, fAnd, c2, c3, asB, retR, outEv]
theorem l_deed (ds : List D) : m_is_deed (s1_ (.lst ds)) = .ok (.sh (.bl false), s1_ (.lst ds)) := by
  have h0 : fVar 0 (s1_ (.lst ds)) = .ok (.sh (.lst ds), s1_ (.lst ds)) := rfl
  have c1 := call_3 (m := m_is_headed) h0 (tup1 (s := .str "read")) (f3 := fCon (.int 3)) rfl (hd_lr ds)
  have c0 := call_3 (m := m_is_headed) h0 (f2 := fCon c_CHANGES) rfl (f3 := fCon (.int 3)) rfl (hd_lc ds)
  simp [m_is_deed, mDef, g_is_deed, gSeq, gIf, DL.gNil, fTru, c1, c0, rdR, truD, gRet, fAnd, asB, retR, outEv]
theorem no_sum {d : D} (h : m_is_headed (s3_ d (.tup [.str "sum"]) (.int 3)) = .ok (.sh (.bl false), s3_ d (.tup [.str "sum"]) (.int 3))) : m_is_sum (s1_ d) = .ok (.sh (.bl false), s1_ d) := by
  have h0 : fVar 0 ([some (.sh d), none, none, none, none, none] : Ev) = .ok (.sh d, [some (.sh d), none, none, none, none, none]) := rfl
  have c1 := call_3 (m := m_is_headed) h0 (tup1 (s := .str "sum")) (f3 := fCon (.int 3)) rfl h
  simp [m_is_sum, mDef, g_is_sum, gSeq, gIf, fNotT, fTru, c1, rdR, truD, gRet, fCon, retR, outEv]
end K02

namespace K02
open PySem PySem.Spec L2 DL
open PyProof.Rows hiding St
set_option autoImplicit false
abbrev pl_ (a b : Int) : D := .lst [.int a, .int b]
/-- parameters -/
structure PsOk (ps : List Str) : Prop where
  len : ps.length ≤ 2
  mem : ∀ x ∈ ps, x = "p" ∨ x = "q"
def wd : List Str := ["read", "read", "add", "add", "put", "raise", "lower"]
theorem wd_ok {w : Str} (h : w ∈ wd) : (w = "read" ∧ eqZ (.str w) (.str "read") = some (.sh (.bl true))) ∨ (w ∈ chW ∧ eqZ (.str w) (.str "read") = some (.sh (.bl false))) := by
  have e0 : eqZ (.str "read") (.str "read") = some (.sh (.bl true)) := by with_unfolding_all rfl
  have e1 : eqZ (.str "add") (.str "read") = some (.sh (.bl false)) := by with_unfolding_all rfl
  have e2 : eqZ (.str "put") (.str "read") = some (.sh (.bl false)) := by with_unfolding_all rfl
  have e3 : eqZ (.str "raise") (.str "read") = some (.sh (.bl false)) := by with_unfolding_all rfl
  have e4 : eqZ (.str "lower") (.str "read") = some (.sh (.bl false)) := by with_unfolding_all rfl
  unfold wd at h
  simp only [List.mem_cons, List.not_mem_nil, or_false] at h
  rcases h with rfl | rfl | rfl | rfl | rfl | rfl | rfl
  · exact .inl ⟨rfl, e0⟩
  · exact .inl ⟨rfl, e0⟩
  · exact .inr ⟨by simp [chW], e1⟩
  · exact .inr ⟨by simp [chW], e1⟩
  · exact .inr ⟨by simp [chW], e2⟩
  · exact .inr ⟨by simp [chW], e3⟩
  · exact .inr ⟨by simp [chW], e4⟩
def ixL (ps : List Str) : List D := ps.map .str ++ [.int 0, .int 1]
def someL (ps : List Str) (f : Int) : List D := ps.map .str ++ ps.map .str ++ (if f = 0 then [.int 0] else [.int 0, .int 1])
theorem someL_len {ps : List Str} (h : PsOk ps) (f : Int) : 0 < (someL ps f).length ∧ (someL ps f).length < 7 := by
  have := h.len
  unfold someL
  split <;> simp <;> omega
theorem someL_in {ps : List Str} {f : Int} {d : D} (h : d ∈ someL ps f) : d ∈ ixL ps := by
  unfold someL at h
  unfold ixL
  rcases List.mem_append.mp h with h | h
  · rcases List.mem_append.mp h with h | h <;> exact List.mem_append_left _ h
  · refine List.mem_append_right _ ?_
    split at h
    · rw [List.mem_singleton.mp h]; exact List.mem_cons_self
    · exact h
theorem ix_place {ps : List Str} (h : PsOk ps) {d : D} (hd : d ∈ ixL ps) {x : Str} (hx : x = "a" ∨ x = "b") : .tup [.str x, d] ∈ plcs := by
  have h : d = .str "p" ∨ d = .str "q" ∨ d = .int 0 ∨ d = .int 1 := by
    unfold ixL at hd
    rcases List.mem_append.mp hd with q | q
    · obtain ⟨y, hy, rfl⟩ := List.mem_map.mp q
      rcases h.mem y hy with rfl | rfl <;> simp
    · simp at q
      rcases q with q | q <;> simp [q]
  unfold plcs
  rcases hx with rfl | rfl <;> rcases h with rfl | rfl | rfl | rfl <;> simp
/-! ### deeds drawn -/
structure DeedOk (ps nm : List Str) (d : D) : Prop where
  ex : ∃ w t ix l, d = .tup [.str w, .tup [.str t, ix], l] ∧ (t = "a" ∨ t = "b") ∧ ix ∈ ixL ps ∧ ((w = "read" ∧ ∃ x ∈ xy, l = .str x) ∨ (w ∈ chW ∧ SumOk nm l))
theorem deed_ok {ps nm : List Str} {d : D} (hp : PsOk ps) (h : DeedOk ps nm d) : m_is_deed (s1_ d) = .ok (.sh (.bl true), s1_ d) := by
  obtain ⟨w, t, ix, l, rfl, ht, hix, ⟨rfl, x, hx, rfl⟩ | ⟨hw, c, ts, rfl, hs, _⟩⟩ := h.ex
  · exact rd_deed (place_ok (ix_place hp hix ht)) (name_ok hx)
  · exact wr_deed hw (place_ok (ix_place hp hix ht)) hs
/-- known names -/
def KsOk (n : Nat) (ks : List Str) : Prop := ks.length = n ∧ ∀ x ∈ ks, x ∈ xy
theorem fVar_io {es : Ev} {i : Nat} {d : D} (h : es[i]? = some (some (.io d))) : fVar i es = .ok (.ow i, es) := by unfold fVar; rw [h]
theorem last_in {ks : List Str} {x : Str} {es : Ev} : ixZ (.lst ((ks ++ [x]).map .str)) (.int (-1)) = some (.sh (.str x)) := by
  unfold ixZ
  simp only [seqD, Option.bind_some]
  unfold L2.atI L2.ixN
  simp only [List.map_append, List.map_cons, List.map_nil, List.length_append, List.length_map, List.length_cons, List.length_nil]
  rw [if_neg (by omega), if_pos (by omega)]
  simp only [Option.bind_some]
  rw [show ((-1 : Int) + ((ks.length + (0 + 1) : Nat) : Int)).toNat = ks.length by omega, List.getElem?_append_right (by simp)]
  simp
theorem deed {a b : Int} {n : Nat} {ps ks : List Str} (hp : PsOk ps) (hk : KsOk n ks) (hn : n < 90) (hne : ps ++ ks ≠ []) :
    ∃ d a' b' n' ks', DeedOk ps (ps ++ ks) d ∧ ((∃ w l, d = .tup (.str w :: l) ∧ w ∈ chW) ∧ n' = n ∧ ks' = ks ∨ ∃ pl x, d = .tup [.str "read", pl, .str x] ∧ n' = n + 1 ∧ ks' = ks ++ [x]) ∧ KsOk n' ks' ∧ m__law_deed [some (.io (pl_ a b)), some (.sh (.lst (ps.map .str))), some (.io (.lst (ks.map .str)))] = .ok (.sh d, [some (.io (pl_ a' b')), some (.sh (.lst (ps.map .str))), some (.io (.lst (ks'.map .str)))]) := by
  have hpl := hp.len
  have h2 : 2 ≤ sizeLine := by rw [sizeLine_eq]; omega
  have h3 : 3 ≤ sizeLine := by rw [sizeLine_eq]; omega
  have h4 : 4 ≤ sizeLine := by rw [sizeLine_eq]; omega
  have h6 : 6 ≤ sizeLine := by rw [sizeLine_eq]; omega
  have h7 : 7 ≤ sizeLine := by rw [sizeLine_eq]; omega
  have hz : ks.length < sizeLine := by rw [sizeLine_eq, hk.1]; omega
  have hz2 : ps.length + ks.length ≤ sizeLine := by rw [sizeLine_eq, hk.1]; omega
  have hp2 : ps.length + ps.length ≤ sizeLine := by rw [sizeLine_eq]; omega
  -- the names of the place
  let E0 : Ev := [some (.io (pl_ a b)), some (.sh (.lst (ps.map .str))), some (.io (.lst (ks.map .str))), none, none, none]
  obtain ⟨f, a1, b1, f0, f1, hd1⟩ := draw_call (es := E0) (i := 0) (a := a) (b := b) (c := 2) (fc := fCon (.int 2)) rfl rfl (by omega) (by omega)
  let E1 : Ev := [some (.io (pl_ a1 b1)), some (.sh (.lst (ps.map .str))), some (.io (.lst (ks.map .str))), some (.sh (.lst (someL ps f))), none, none]
  have hcut : cutD [.int 0, .int 1] none (some (1 + f)) = (if f = 0 then [.int 0] else [.int 0, .int 1]) := by
    have : f = 0 ∨ f = 1 := by omega
    rcases this with rfl | rfl <;> rfl
  have s1 : gAsg (fOp addD (fOp addD (fVar 1) (fVar 1)) (fSl (fLst [(fCon (.int 0)), (fCon (.int 1))]) none (some (fOp addD (fCon (.int 1)) (fCall (noX m__law_draw) [(true, (fVar 0)), (false, (fCon (.int 2)))] []))))) (ptName 3) E0 = .ok (.nx E1) := by
    have t1 : fOp addD (fVar 1) (fVar 1) E0 = .ok (.fr (.lst (ps.map .str ++ ps.map .str)), E0) := by
      simp [fOp, fVar, E0, ap2, rdR, addD, Z.r, hp2]
    have t2 : fOp addD (fCon (.int 1)) (fCall (noX m__law_draw) [(true, (fVar 0)), (false, (fCon (.int 2)))] []) E0 = .ok (.sh (.int (1 + f)), setC E0 0 (pl_ a1 b1)) := by
      rw [fOp_eq, show fCon (.int 1) E0 = .ok (.sh (.int 1), E0) from rfl]
      simp only [Rs.bind_ok]
      rw [hd1]
      rfl
    have t3 : fSl (fLst [(fCon (.int 0)), (fCon (.int 1))]) none (some (fOp addD (fCon (.int 1)) (fCall (noX m__law_draw) [(true, (fVar 0)), (false, (fCon (.int 2)))] []))) E0 = .ok (.fr (.lst (if f = 0 then [.int 0] else [.int 0, .int 1])), setC E0 0 (pl_ a1 b1)) := by
      have : fLst [(fCon (.int 0)), (fCon (.int 1))] E0 = .ok (.fr (.lst [.int 0, .int 1]), E0) := by simp [fLst, fItems, fArgs, fCon, toSh, shAll, h2]
      unfold fSl
      rw [this]
      simp only [Rs.bind_ok, partF, t2, rdR, Option.bind_some, slZ, Rs.of_some, Z.r, hcut]
    refine gAsg_ok (r := .fr (.lst (someL ps f))) (e1 := setC E0 0 (pl_ a1 b1)) (d := .lst (someL ps f)) (e2 := setC E0 0 (pl_ a1 b1)) ?_ rfl rfl
    rw [fOp_eq, t1]
    simp only [Rs.bind_ok, t3]
    have : f = 0 ∨ f = 1 := by omega
    have h5 : ps.length + ps.length + 1 ≤ sizeLine := by rw [sizeLine_eq]; omega
    have h6 : ps.length + ps.length + 2 ≤ sizeLine := by rw [sizeLine_eq]; omega
    rcases this with rfl | rfl <;> simp [ap2, rdR, addD, Z.r, h5, h6, someL]
  -- the place
  obtain ⟨g, a2, b2, g0, g1, hd2⟩ := draw_call (es := E1) (i := 0) (a := a1) (b := b1) (c := 2) (fc := fCon (.int 2)) rfl rfl (by omega) (by omega)
  obtain ⟨x, _, hxm, hx1⟩ := ixZ_in (ds := [.str "a", .str "b"]) g0 (by simpa using g1)
  obtain ⟨x, rfl, hx⟩ : ∃ x' : Str, x = .str x' ∧ (x' = "a" ∨ x' = "b") := by
    have hx : x = .str "a" ∨ x = .str "b" := by simpa using hxm
    rcases hx with rfl | rfl
    · exact ⟨"a", rfl, .inl rfl⟩
    · exact ⟨"b", rfl, .inr rfl⟩
  let E2 : Ev := [some (.io (pl_ a2 b2)), some (.sh (.lst (ps.map .str))), some (.io (.lst (ks.map .str))), some (.sh (.lst (someL ps f))), none, none]
  obtain ⟨u, a3, b3, u0, u1, hd3⟩ := draw_call (es := E2) (i := 0) (a := a2) (b := b2) (c := (someL ps f).length) (fc := fUn DL.lenZ (fVar 3)) rfl (by simp [E2, fUn, fVar, ap1, rdR, DL.lenZ, seqD, Z.r]) (by have := (someL_len hp f).1; omega) (by have := (someL_len hp f).2; omega)
  obtain ⟨y, _, hy, hy1⟩ := ixZ_in (ds := someL ps f) u0 u1
  let E3 : Ev := [some (.io (pl_ a3 b3)), some (.sh (.lst (ps.map .str))), some (.io (.lst (ks.map .str))), some (.sh (.lst (someL ps f))), some (.sh (.tup [.str x, y])), none]
  have s2 : gAsg (fTup [(fOp ixZ (fLst [(fCon (.str "a")), (fCon (.str "b"))]) (fCall (noX m__law_draw) [(true, (fVar 0)), (false, (fCon (.int 2)))] [])), (fOp ixZ (fVar 3) (fCall (noX m__law_draw) [(true, (fVar 0)), (false, (fUn DL.lenZ (fVar 3)))] []))]) (ptName 4) E1 = .ok (.nx E3) := by
    have t1 : fOp ixZ (fLst [(fCon (.str "a")), (fCon (.str "b"))]) (fCall (noX m__law_draw) [(true, (fVar 0)), (false, (fCon (.int 2)))] []) E1 = .ok (.sh (.str x), E2) := by
      have : fLst [(fCon (.str "a")), (fCon (.str "b"))] E1 = .ok (.fr (.lst [.str "a", .str "b"]), E1) := by simp [fLst, fItems, fArgs, fCon, toSh, shAll, h2]
      rw [fOp_eq, this]
      simp only [Rs.bind_ok, hd2, ap2, rdR, Option.bind_some, hx1]
      rfl
    have t2 : fOp ixZ (fVar 3) (fCall (noX m__law_draw) [(true, (fVar 0)), (false, (fUn DL.lenZ (fVar 3)))] []) E2 = .ok (.sh y, setC E2 0 (pl_ a3 b3)) := by
      rw [fOp_eq, show fVar 3 E2 = .ok (.sh (.lst (someL ps f)), E2) from rfl]
      simp only [Rs.bind_ok, hd3, ap2, rdR, Option.bind_some, hy1]
      rfl
    refine gAsg_ok (r := .sh (.tup [.str x, y])) (e1 := setC E2 0 (pl_ a3 b3)) (d := .tup [.str x, y]) (e2 := setC E2 0 (pl_ a3 b3)) ?_ rfl rfl
    simp [fTup, fItems, fArgs, t1, t2, toSh, shAll, h2]
  -- the word
  obtain ⟨v, a4, b4, v0, v1, hd4⟩ := draw_call (es := E3) (i := 0) (a := a3) (b := b3) (c := 7) (fc := fCon (.int 7)) rfl rfl (by omega) (by omega)
  obtain ⟨w, _, hw, hw1⟩ := ixZ_in (ds := wd.map D.str) v0 (by simpa [wd] using v1)
  obtain ⟨w, hw', rfl⟩ := List.mem_map.mp hw
  let E4 : Ev := [some (.io (pl_ a4 b4)), some (.sh (.lst (ps.map .str))), some (.io (.lst (ks.map .str))), some (.sh (.lst (someL ps f))), some (.sh (.tup [.str x, y])), some (.sh (.str w))]
  have s3 : gAsg (fOp ixZ (fLst [(fCon (.str "read")), (fCon (.str "read")), (fCon (.str "add")), (fCon (.str "add")), (fCon (.str "put")), (fCon (.str "raise")), (fCon (.str "lower"))]) (fCall (noX m__law_draw) [(true, (fVar 0)), (false, (fCon (.int 7)))] [])) (ptName 5) E3 = .ok (.nx E4) := by
    have t1 : fLst [(fCon (.str "read")), (fCon (.str "read")), (fCon (.str "add")), (fCon (.str "add")), (fCon (.str "put")), (fCon (.str "raise")), (fCon (.str "lower"))] E3 = .ok (.fr (.lst (wd.map D.str)), E3) := by simp [fLst, fItems, fArgs, fCon, toSh, shAll, h7, wd]
    refine gAsg_ok (r := .sh (.str w)) (e1 := setC E3 0 (pl_ a4 b4)) (d := .str w) (e2 := setC E3 0 (pl_ a4 b4)) ?_ rfl rfl
    rw [fOp_eq, t1]
    simp only [Rs.bind_ok, hd4, ap2, rdR, Option.bind_some, hw1]
    rfl
  rcases wd_ok hw' with ⟨rfl, hq⟩ | ⟨hwc, hq⟩
  · -- a read
    obtain ⟨i, a5, b5, i0, i1, hd5⟩ := draw_call (es := E4) (i := 0) (a := a4) (b := b4) (c := 2) (fc := fCon (.int 2)) rfl rfl (by omega) (by omega)
    obtain ⟨z, _, hz0, hz1⟩ := ixZ_in (ds := xy.map D.str) i0 (by simpa [xy] using i1)
    obtain ⟨z, hz0', rfl⟩ := List.mem_map.mp hz0
    let E5 : Ev := [some (.io (pl_ a5 b5)), some (.sh (.lst (ps.map .str))), some (.io (.lst ((ks ++ [z]).map .str))), some (.sh (.lst (someL ps f))), some (.sh (.tup [.str x, y])), some (.sh (.str "read"))]
    have t1 : fOp ixZ (fLst [(fCon (.str "x")), (fCon (.str "y"))]) (fCall (noX m__law_draw) [(true, (fVar 0)), (false, (fCon (.int 2)))] []) E4 = .ok (.sh (.str z), setC E4 0 (pl_ a5 b5)) := by
      have : fLst [(fCon (.str "x")), (fCon (.str "y"))] E4 = .ok (.fr (.lst (xy.map D.str)), E4) := by simp [fLst, fItems, fArgs, fCon, toSh, shAll, h2, xy]
      rw [fOp_eq, this]
      simp only [Rs.bind_ok, hd5, ap2, rdR, Option.bind_some, hz1]
      rfl
    have t2 : fApp 2 (fOp ixZ (fLst [(fCon (.str "x")), (fCon (.str "y"))]) (fCall (noX m__law_draw) [(true, (fVar 0)), (false, (fCon (.int 2)))] [])) E4 = .ok (.sh .non, E5) := by
      unfold fApp
      rw [show ownAt E4 2 = some (.lst (ks.map .str)) from rfl]
      simp only [t1, Rs.bind_ok, toSh, Rs.of_some]
      rw [show ownAt (setC E4 0 (pl_ a5 b5)) 2 = some (.lst (ks.map .str)) from rfl]
      simp only [List.length_map]
      rw [if_pos hz]
      simp [setC, E4, E5]
    have s4 : gSeq (gExp (fApp 2 (fOp ixZ (fLst [(fCon (.str "x")), (fCon (.str "y"))]) (fCall (noX m__law_draw) [(true, (fVar 0)), (false, (fCon (.int 2)))] [])))) (gRet (fTup [(fCon (.str "read")), (fVar 4), (fOp ixZ (fVar 2) (fUn negD (fCon (.int 1))))])) E4 = .ok (.rt (.sh (.tup [.str "read", .tup [.str x, y], .str z])) E5) := by
      have u1 : gExp (fApp 2 (fOp ixZ (fLst [(fCon (.str "x")), (fCon (.str "y"))]) (fCall (noX m__law_draw) [(true, (fVar 0)), (false, (fCon (.int 2)))] []))) E4 = .ok (.nx E5) := by
        unfold gExp; rw [t2]; rfl
      rw [gSeq_ok u1]
      have u2 : fOp ixZ (fVar 2) (fUn negD (fCon (.int 1))) E5 = .ok (.sh (.str z), E5) := by
        rw [fOp_eq, show fVar 2 E5 = .ok (.ow 2, E5) from rfl]
        simp only [Rs.bind_ok]
        rw [show fUn negD (fCon (.int 1)) E5 = .ok (.sh (.int (-1)), E5) from rfl]
        simp only [Rs.bind_ok, ap2, rdR]
        rw [show slotD E5 2 = some (.lst ((ks ++ [z]).map .str)) from rfl]
        simp only [Option.bind_some]
        rw [last_in (es := [])]
        rfl
      simp [gRet, fTup, fItems, fArgs, fCon, toSh, u2, shAll, h3, show fVar 4 E5 = .ok (.sh (.tup [.str x, y]), E5) from rfl]
    have s5 : g__law_deed E0 = .ok (.rt (.sh (.tup [.str "read", .tup [.str x, y], .str z])) E5) := by
      refine (gSeq_ok s1).trans ((gSeq_ok s2).trans ((gSeq_ok s3).trans ?_))
      have e : (fTB (fOp eqZ (fVar 5) (fCon (.str "read")))) E4 = .ok (true, E4) := by
        rw [fTB, fOp_eq, show fVar 5 E4 = .ok (.sh (.str "read"), E4) from rfl]
        simp only [Rs.bind_ok, fCon, ap2, rdR, Option.bind_some, hq]
        rfl
      rw [gSeq, gIf, e]
      simp only [Rs.bind_ok, if_true, s4]
    refine ⟨.tup [.str "read", .tup [.str x, y], .str z], a5, b5, n + 1, ks ++ [z], ⟨⟨"read", x, y, .str z, rfl, hx, someL_in hy, .inl ⟨rfl, z, hz0', rfl⟩⟩⟩, .inr ⟨_, z, rfl, rfl, rfl⟩, ⟨by rw [List.length_append, hk.1]; rfl, fun q hq => ?_⟩, ?_⟩
    · rcases List.mem_append.mp hq with h | h
      · exact hk.2 q h
      · rw [List.mem_singleton.mp h]; exact hz0'
    · simp only [m__law_deed, mDef]
      rw [show ([some (.io (pl_ a b)), some (.sh (.lst (ps.map .str))), some (.io (.lst (ks.map .str)))] ++ List.replicate (6 - [some (Sl.io (pl_ a b)), some (.sh (.lst (ps.map .str))), some (.io (.lst (ks.map .str)))].length) none : Ev) = E0 from rfl, s5]
      rfl
  · -- a change
    have hin : ∀ q ∈ ps ++ ks, q ∈ names4 := fun q hq => by
      rcases List.mem_append.mp hq with h | h
      · have := hp.mem q h
        rcases this with rfl | rfl <;> simp [names4]
      · have := hk.2 q h
        have : q = "x" ∨ q = "y" := by simpa [xy] using this
        rcases this with rfl | rfl <;> simp [names4]
    obtain ⟨t, a5, b5, hs, ht⟩ := sum (a := a4) (b := b4) (nm := ps ++ ks) hne hin (by rw [List.length_append, hk.1]; omega)
    let E5 : Ev := [some (.io (pl_ a5 b5)), some (.sh (.lst (ps.map .str))), some (.io (.lst (ks.map .str))), some (.sh (.lst (someL ps f))), some (.sh (.tup [.str x, y])), some (.sh (.str w))]
    have c1 : fCall (noX m__law_sum) [(true, (fVar 0)), (false, (fOp addD (fVar 1) (fVar 2)))] [] E4 = .ok (.sh t, E5) := by
      have u1 : fOp addD (fVar 1) (fVar 2) E4 = .ok (.fr (.lst ((ps ++ ks).map .str)), E4) := by
        simp [fOp, fVar, E4, ap2, rdR, slotD, addD, Z.r, hz2]
      exact call_g (es1 := E4) (es' := E5) (as := [.io 0, .sh (.lst ((ps ++ ks).map .str))]) (cs := [some (.io (pl_ a4 b4)), some (.sh (.lst ((ps ++ ks).map .str)))]) (by simp [fArgs, show fVar 0 E4 = .ok (.ow 0, E4) from rfl, u1, toSh]) (by simp [ioIx]) rfl ht rfl
    have s4 : gRet (fTup [(fVar 5), (fVar 4), (fCall (noX m__law_sum) [(true, (fVar 0)), (false, (fOp addD (fVar 1) (fVar 2)))] [])]) E4 = .ok (.rt (.sh (.tup [.str w, .tup [.str x, y], t])) E5) := by
      simp [gRet, fTup, fItems, fArgs, toSh, c1, shAll, h3, show fVar 4 E4 = .ok (.sh (.tup [.str x, y]), E4) from rfl, show fVar 5 E4 = .ok (.sh (.str w), E4) from rfl]
    have s5 : g__law_deed E0 = .ok (.rt (.sh (.tup [.str w, .tup [.str x, y], t])) E5) := by
      refine (gSeq_ok s1).trans ((gSeq_ok s2).trans ((gSeq_ok s3).trans ?_))
      have e : (fTB (fOp eqZ (fVar 5) (fCon (.str "read")))) E4 = .ok (false, E4) := by
        rw [fTB, fOp_eq, show fVar 5 E4 = .ok (.sh (.str w), E4) from rfl]
        simp only [Rs.bind_ok, fCon, ap2, rdR, Option.bind_some, hq]
        rfl
      rw [gSeq, gIf, e]
      simp only [Rs.bind_ok]
      exact s4
    refine ⟨.tup [.str w, .tup [.str x, y], t], a5, b5, n, ks, ⟨⟨w, x, y, t, rfl, hx, someL_in hy, .inr ⟨hwc, hs⟩⟩⟩, .inl ⟨⟨w, _, rfl, hwc⟩, rfl, rfl⟩, hk, ?_⟩
    simp only [m__law_deed, mDef]
    rw [show ([some (.io (pl_ a b)), some (.sh (.lst (ps.map .str))), some (.io (.lst (ks.map .str)))] ++ List.replicate (6 - [some (Sl.io (pl_ a b)), some (.sh (.lst (ps.map .str))), some (.io (.lst (ks.map .str)))].length) none : Ev) = E0 from rfl, s5]
    rfl
end K02

/-! DL, part 28: evaluation of data functions by simp. -/
namespace DL
open PySem PySem.Spec L2
open PyProof.Rows hiding St
set_option autoImplicit false
section
variable {f fa fb fc : Fe} {ft fu : Ft} {g g1 g2 : Fs} {es e1 : Ev} {d x y : D} {i j k : Nat} {a b c : Int} {r ra rb : R} {ds : List D}
/-! slots -/
@[simp] theorem ev_var0 {s : Sl} : fVar 0 (some (.sh d) :: es) = .ok (.sh d, some (.sh d) :: es) := rfl
@[simp] theorem ev_var {es : Ev} : fVar i es = (match es[i]? with
  | some (some (.sh d)) => .ok (.sh d, es)
  | some (some (.ow _)) => .ok (.ow i, es)
  | some (some (.io _)) => .ok (.ow i, es)
  | _ => .st) := rfl
@[simp] theorem ev_con : fCon d es = .ok (.sh d, es) := rfl
@[simp] theorem ev_op {h : D → D → Option Z} : fOp h fa fb es = (fa es).bind fun p => (fb p.2).bind fun q => Rs.of (ap2 h p.1 q.1 q.2) := rfl
@[simp] theorem ev_un {h : D → Option Z} : fUn h fa es = (fa es).bind fun p => Rs.of (ap1 h p.1 p.2) := rfl
@[simp] theorem ev_ap2 {h : D → D → Option Z} : ap2 h (.sh x) (.sh y) es = (h x y).map fun z => (z.r, es) := rfl
@[simp] theorem ev_ap2a {h : D → D → Option Z} : ap2 h (.fr x) (.sh y) es = (h x y).map fun z => (z.r, es) := rfl
@[simp] theorem ev_ap2b {h : D → D → Option Z} : ap2 h (.sh x) (.fr y) es = (h x y).map fun z => (z.r, es) := rfl
@[simp] theorem ev_ap2c {h : D → D → Option Z} : ap2 h (.fr x) (.fr y) es = (h x y).map fun z => (z.r, es) := rfl
@[simp] theorem ev_ap2d {h : D → D → Option Z} : ap2 h (.ow i) rb es = (slotD es i).bind fun x => (rdR es rb).bind fun y => (h x y).map fun z => (z.r, es) := rfl
@[simp] theorem ev_ap2e {h : D → D → Option Z} : ap2 h (.sh x) (.ow i) es = (slotD es i).bind fun y => (h x y).map fun z => (z.r, es) := rfl
@[simp] theorem ev_ap2f {h : D → D → Option Z} : ap2 h (.fr x) (.ow i) es = (slotD es i).bind fun y => (h x y).map fun z => (z.r, es) := rfl
@[simp] theorem ev_ap1 {h : D → Option Z} : ap1 h (.sh x) es = (h x).map fun z => (z.r, es) := rfl
@[simp] theorem ev_ap1a {h : D → Option Z} : ap1 h (.fr x) es = (h x).map fun z => (z.r, es) := rfl
@[simp] theorem ev_ap1b {h : D → Option Z} : ap1 h (.ow i) es = (slotD es i).bind fun x => (h x).map fun z => (z.r, es) := rfl
@[simp] theorem ev_rd1 : rdR es (.sh d) = some d := rfl
@[simp] theorem ev_rd2 : rdR es (.fr d) = some d := rfl
@[simp] theorem ev_rd3 : rdR es (.ow i) = slotD es i := rfl
@[simp] theorem ev_slotD : slotD es i = (match es[i]? with
  | some (some (.sh d)) => some d
  | some (some (.ow d)) => some d
  | some (some (.io d)) => some d
  | _ => none) := rfl
@[simp] theorem ev_ownAt : ownAt es i = (match es[i]? with
  | some (some (.ow d)) => some d
  | some (some (.io d)) => some d
  | _ => none) := rfl
@[simp] theorem ev_setC : setC es i d = (match es[i]? with
  | some (some (.ow _)) => es.set i (some (.ow d))
  | some (some (.io _)) => es.set i (some (.io d))
  | _ => es) := rfl
@[simp] theorem ev_toSh1 : toSh (.sh d) es = some (d, es) := rfl
@[simp] theorem ev_toSh2 : toSh (.fr d) es = some (d, es) := rfl
@[simp] theorem ev_toSh3 : toSh (.ow i) es = (match es[i]? with
    | some (some (.sh d)) => some (d, es)
    | some (some (.ow d)) => some (d, es.set i (some (.sh d)))
    | _ => none) := rfl
@[simp] theorem ev_zr1 : (Z.sh d).r = .sh d := rfl
@[simp] theorem ev_zr2 : (Z.lst ds).r = .fr (.lst ds) := rfl
@[simp] theorem ev_zr3 : (Z.tup ds).r = .sh (.tup ds) := rfl
/-- is it a parameter's, to be changed -/
def isIoS : Option Sl → Bool
  | some (.io _) => true
  | _ => false
@[simp] theorem ev_isIo : isIo es i = isIoS ((es[i]?).getD none) := by
  unfold isIo isIoS
  cases es[i]? with
  | none => rfl
  | some s => match s with
    | none => rfl
    | some (.sh _) => rfl
    | some (.ow _) => rfl
    | some (.io _) => rfl
@[simp] theorem ev_ioS1 : isIoS (some (.sh d)) = false := rfl
@[simp] theorem ev_ioS2 : isIoS (some (.ow d)) = false := rfl
@[simp] theorem ev_ioS3 : isIoS (some (.io d)) = true := rfl
@[simp] theorem ev_ioS4 : isIoS none = false := rfl
@[simp] theorem ev_ioS5 {o : Option D} : isIoS (nz o) = false := by cases o <;> rfl
@[simp] theorem ev_ioS6 {o : Option D} : isIoS (nw o) = false := by cases o <;> rfl
/-! expressions -/
@[simp] theorem ev_and : fAnd fa fb es = (fa es).bind fun p => (Rs.of (asB p.1)).bind fun b => if b = true then fb p.2 else .ok (.sh (.bl false), p.2) := rfl
@[simp] theorem ev_or : fOr fa fb es = (fa es).bind fun p => (Rs.of (asB p.1)).bind fun b => if b = true then .ok (.sh (.bl true), p.2) else fb p.2 := rfl
@[simp] theorem ev_not : fNot fa es = (fa es).bind fun p => (Rs.of (asB p.1)).bind fun b => .ok (.sh (.bl (!b)), p.2) := rfl
@[simp] theorem ev_notV : fNotV f es = (f es).bind fun p => (Rs.of ((rdR p.2 p.1).bind truD)).bind fun b => .ok (.sh (.bl (!b)), p.2) := rfl
@[simp] theorem ev_asB {b : Bool} : asB (.sh (.bl b)) = some b := rfl
@[simp] theorem ev_tru : fTru f es = (f es).bind fun p => (Rs.of ((rdR p.2 p.1).bind truD)).bind fun b => .ok (b, p.2) := rfl
@[simp] theorem ev_tb : fTB f es = (f es).bind fun p => (Rs.of (asB p.1)).bind fun b => .ok (b, p.2) := rfl
@[simp] theorem ev_andT : fAndT ft fu es = (ft es).bind fun p => if p.1 = true then fu p.2 else .ok (false, p.2) := rfl
@[simp] theorem ev_orT : fOrT ft fu es = (ft es).bind fun p => if p.1 = true then .ok (true, p.2) else fu p.2 := rfl
@[simp] theorem ev_notT : fNotT ft es = (ft es).bind fun p => .ok (!p.1, p.2) := rfl
@[simp] theorem ev_ifE : fIfE ft fa fb es = (ft es).bind fun p => if p.1 = true then fa p.2 else fb p.2 := rfl
@[simp] theorem ev_chain {h h' : D → D → Option Z} : fChain h h' fa fb fc es = (fa es).bind fun p => (fb p.2).bind fun q => (Rs.of (asFl q.1)).bind fun y => (Rs.of (ap2 h p.1 (.sh y) q.2)).bind fun s => (Rs.of (asB s.1)).bind fun b => if b = true then (fc s.2).bind fun t => Rs.of (ap2 h' (.sh y) t.1 t.2) else .ok (.sh (.bl false), s.2) := rfl
@[simp] theorem ev_truB {b : Bool} : truD (.bl b) = some b := rfl
@[simp] theorem ev_truI : truD (.int a) = some (a != 0) := rfl
@[simp] theorem ev_truT : truD (.tup ds) = some (!ds.isEmpty) := rfl
@[simp] theorem ev_truL : truD (.lst ds) = some (!ds.isEmpty) := rfl
@[simp] theorem ev_truN : truD .non = some false := rfl
@[simp] theorem ev_args0 : fArgs [] es = .ok ([], es) := rfl
@[simp] theorem ev_args1 {rest : List (Bool × Fe)} : fArgs ((false, f) :: rest) es = (f es).bind fun p => (Rs.of (toSh p.1 p.2)).bind fun q => (fArgs rest q.2).bind fun s => .ok (.sh q.1 :: s.1, s.2) := rfl
@[simp] theorem ev_args2 {rest : List (Bool × Fe)} : fArgs ((true, f) :: rest) es = (f es).bind fun p => match p.1 with
    | .ow i => (fArgs rest p.2).bind fun s => .ok (.io i :: s.1, s.2)
    | _ => .st := rfl
@[simp] theorem ev_argsL0 : fArgsL [] f es = (f es).bind fun q => match q.1 with
    | .fr d => .ok (([], d), q.2)
    | _ => .st := rfl
@[simp] theorem ev_argsL1 {rest : List (Bool × Fe)} : fArgsL ((false, f) :: rest) fa es = (f es).bind fun p => (Rs.of (toSh p.1 p.2)).bind fun q => (fArgsL rest fa q.2).bind fun s => .ok ((.sh q.1 :: s.1.1, s.1.2), s.2) := rfl
@[simp] theorem ev_argsL2 {rest : List (Bool × Fe)} : fArgsL ((true, f) :: rest) fa es = (f es).bind fun p => match p.1 with
    | .ow i => (fArgsL rest fa p.2).bind fun s => .ok ((.io i :: s.1.1, s.1.2), s.2)
    | _ => .st := rfl
@[simp] theorem ev_items {fs : List Fe} : fItems fs es = (fArgs (fs.map fun f => (false, f)) es).bind fun p => (Rs.of (shAll p.1)).bind fun ds => .ok (ds, p.2) := rfl
@[simp] theorem ev_shAll0 : shAll [] = some [] := rfl
@[simp] theorem ev_shAll1 {l : List Ag} : shAll (.sh d :: l) = (shAll l).map fun ds => d :: ds := rfl
@[simp] theorem sz16 : sizeLine = 16777216 := sizeLine_eq
@[simp] theorem ev_tup {fs : List Fe} : fTup fs es = (fItems fs es).bind fun p => if p.1.length ≤ sizeLine then .ok (.sh (.tup p.1), p.2) else .st := rfl
@[simp] theorem ev_lst {fs : List Fe} : fLst fs es = (fItems fs es).bind fun p => if p.1.length ≤ sizeLine then .ok (.fr (.lst p.1), p.2) else .st := rfl
@[simp] theorem ev_call {m : Fe} {fs : List (Bool × Fe)} {dfs : List D} : fCall m fs dfs es = (fArgs fs es).bind fun p =>
  if (ioIx p.1).Nodup then (Rs.of (toEv p.2 (p.1 ++ dfs.map .sh))).bind fun cs => match m cs with
    | .ok (.sh d, cs') => (Rs.of (wb p.2 (p.1 ++ dfs.map .sh) cs')).bind fun es' => .ok (.sh d, es')
    | .ok (.fr d, cs') => (Rs.of (wb p.2 (p.1 ++ dfs.map .sh) cs')).bind fun es' => .ok (.fr d, es')
    | .ok (.ow _, _) => .st
    | .ex x cs' => (Rs.of (wb p.2 (p.1 ++ dfs.map .sh) cs')).bind fun es' => .ex x es'
    | .st => .st
  else .st := rfl
@[simp] theorem ev_callL {m : Fe} {fs : List (Bool × Fe)} {fl : Fe} : fCallL m fs fl es = (fArgsL fs fl es).bind fun p =>
  if (ioIx p.1.1).Nodup then (Rs.of (toEv p.2 p.1.1)).bind fun cs => match m (cs ++ [some (.io p.1.2)]) with
    | .ok (.sh d, cs') => (Rs.of (cutLast cs')).bind fun t => (Rs.of (wb p.2 p.1.1 t.1)).bind fun es' => .ok (.sh d, es')
    | .ok (.fr d, cs') => (Rs.of (cutLast cs')).bind fun t => (Rs.of (wb p.2 p.1.1 t.1)).bind fun es' => .ok (.fr d, es')
    | .ok (.ow _, _) => .st
    | .ex x cs' => (Rs.of (cutLast cs')).bind fun t => (Rs.of (wb p.2 p.1.1 t.1)).bind fun es' => .ex x es'
    | .st => .st
  else .st := rfl
@[simp] theorem ev_noX {m : Fe} {cs : Ev} : noX m cs = (match m cs with
  | .ex _ _ => .st
  | r => r) := rfl
@[simp] theorem ev_ioIx0 : ioIx [] = [] := rfl
@[simp] theorem ev_ioIx1 {l : List Ag} : ioIx (.sh d :: l) = ioIx l := rfl
@[simp] theorem ev_ioIx2 {l : List Ag} : ioIx (.io i :: l) = i :: ioIx l := rfl
@[simp] theorem ev_toEv0 : toEv es [] = some [] := rfl
@[simp] theorem ev_toEv1 {l : List Ag} : toEv es (.sh d :: l) = (toEv es l).map fun cs => some (.sh d) :: cs := rfl
@[simp] theorem ev_toEv2 {l : List Ag} : toEv es (.io i :: l) = (ownAt es i).bind fun d => (toEv es l).map fun cs => some (.io d) :: cs := rfl
@[simp] theorem ev_wb0 {cs : Ev} : wb es [] cs = some es := by unfold wb; rfl
@[simp] theorem ev_wb1 {l : List Ag} {s : Option Sl} {cs : Ev} : wb es (.sh d :: l) (s :: cs) = wb es l cs := rfl
@[simp] theorem ev_wb2 {l : List Ag} {cs : Ev} : wb es (.io i :: l) (some (.io d) :: cs) = wb (setC es i d) l cs := rfl
@[simp] theorem ev_cutL0 {s : Option Sl} : cutLast [s] = (lastIo s).map fun x => ([], x) := rfl
@[simp] theorem ev_cutL1 {s t : Option Sl} {cs : Ev} : cutLast (s :: t :: cs) = (cutLast (t :: cs)).map fun p => (s :: p.1, p.2) := rfl
@[simp] theorem ev_lastIo : lastIo (some (.io d)) = some d := rfl
@[simp] theorem ev_app : fApp i f es = (match ownAt es i with
  | some (.lst _) => (f es).bind fun p => (Rs.of (toSh p.1 p.2)).bind fun q => match ownAt q.2 i with
    | some (.lst ds) => if ds.length < sizeLine then .ok (.sh .non, setC q.2 i (.lst (ds ++ [q.1]))) else .st
    | _ => .st
  | _ => .st) := rfl
@[simp] theorem ev_iany : iAnyF f es = (f es).bind fun p => (Rs.of (toSh p.1 p.2)).bind fun q => (Rs.of (itemsD q.1)).bind fun ds => .ok (ds, q.2) := rfl
@[simp] theorem ev_itemsT : itemsD (.tup ds) = some ds := rfl
@[simp] theorem ev_itemsL : itemsD (.lst ds) = some ds := rfl
@[simp] theorem ev_itemsR : itemsD (.rl ds) = some ds := rfl
@[simp] theorem ev_seqT : seqD (.tup ds) = some ds := rfl
@[simp] theorem ev_seqL : seqD (.lst ds) = some ds := rfl
@[simp] theorem ev_seqR : seqD (.rl ds) = some ds := rfl
@[simp] theorem ev_lstL : lstD (.lst ds) = some ds := rfl
@[simp] theorem ev_lc {fi : Fi} {p : Pt} {vs : List Nat} : fLc fi p ft f vs es = (fi es).bind fun q => (lcL p ft f vs q.1 q.2).bind fun s => .ok (.fr (.lst s.1), s.2) := rfl
@[simp] theorem ev_lcL0 {p : Pt} {vs : List Nat} : lcL p ft f vs [] es = .ok ([], es) := rfl
@[simp] theorem ev_lcL1 {p : Pt} {vs : List Nat} : lcL p ft f vs (d :: ds) es = (Rs.of (p d (wipeE es vs))).bind fun e1 => (noXT ft e1).bind fun b => if b.1 = true then
      (noX f b.2).bind fun r => (Rs.of (toSh r.1 r.2)).bind fun q => (lcL p ft f vs ds (unw es q.2 vs)).bind fun s => .ok (q.1 :: s.1, s.2)
    else lcL p ft f vs ds (unw es b.2 vs) := rfl
@[simp] theorem ev_noXT : noXT ft es = (match ft es with
  | .ex _ _ => .st
  | r => r) := rfl
@[simp] theorem ev_yes : ftYes es = .ok (true, es) := rfl
@[simp] theorem ev_wipe0 : wipeE es [] = es := rfl
@[simp] theorem ev_wipe1 {vs : List Nat} : wipeE es (i :: vs) = (wipeE es vs).set i none := rfl
@[simp] theorem ev_unw0 : unw es e1 [] = e1 := rfl
@[simp] theorem ev_unw1 {vs : List Nat} : unw es e1 (i :: vs) = (unw es e1 vs).set i ((es[i]?).getD none) := rfl
/-! statements -/
@[simp] theorem ev_nil : gNil es = .ok (.nx es) := rfl
@[simp] theorem ev_seq : gSeq g1 g2 es = (g1 es).bind fun o => match o with
  | .nx e => g2 e
  | o => .ok o := rfl
@[simp] theorem ev_ret : gRet f es = (f es).bind fun p => .ok (.rt p.1 p.2) := rfl
@[simp] theorem ev_retN : gRetN es = .ok (.rt (.sh .non) es) := rfl
@[simp] theorem ev_if : gIf ft g1 g2 es = (ft es).bind fun p => if p.1 = true then g1 p.2 else g2 p.2 := rfl
@[simp] theorem ev_exp : gExp f es = (f es).bind fun p => .ok (.nx p.2) := rfl
@[simp] theorem ev_asg {p : Pt} : gAsg f p es = (f es).bind fun r => (Rs.of (toSh r.1 r.2)).bind fun q => (Rs.of (p q.1 q.2)).bind fun e => .ok (.nx e) := rfl
@[simp] theorem ev_own : gOwn f i es = (f es).bind fun r => match r.1 with
  | .fr d => if isIo r.2 i = false then .ok (.nx (r.2.set i (some (.ow d)))) else .st
  | _ => .st := rfl
@[simp] theorem ev_ptName : ptName i d es = if isIo es i = false then some (es.set i (some (.sh d))) else none := rfl
@[simp] theorem ev_ptTup {ps : List Pt} : ptTup ps (.tup ds) es = ptAll ps ds es := rfl
@[simp] theorem ev_ptLst {ps : List Pt} : ptLst ps (.lst ds) es = ptAll ps ds es := rfl
@[simp] theorem ev_ptAll0 : ptAll [] [] es = some es := rfl
@[simp] theorem ev_ptAll1 {p : Pt} {ps : List Pt} : ptAll (p :: ps) (d :: ds) es = (p d es).bind fun e => ptAll ps ds e := rfl
@[simp] theorem ev_for {fi : Fi} {p : Pt} : gFor fi p g es = (fi es).bind fun q => forL p g q.1 q.2 := rfl
@[simp] theorem ev_for0 {p : Pt} : forL p g [] es = .ok (.nx es) := rfl
@[simp] theorem ev_for1 {p : Pt} : forL p g (d :: ds) es = (Rs.of (p d es)).bind fun e => (g e).bind fun o => match o with
    | .nx e1 => forL p g ds e1
    | .ct e1 => forL p g ds e1
    | .bk e1 => .ok (.nx e1)
    | .rt r e1 => .ok (.rt r e1) := rfl
@[simp] theorem ev_mDef {n : Nat} {cs : Ev} : mDef n g cs = (match g (cs ++ List.replicate (n - cs.length) none) with
  | .ok (.nx e) => (Rs.of (outEv cs e)).bind fun c => .ok (.sh .non, c)
  | .ok (.rt r e) => (Rs.of (retR e r)).bind fun r' => (Rs.of (outEv cs e)).bind fun c => .ok (r', c)
  | .ok _ => .st
  | .ex x e => (Rs.of (outEv cs e)).bind fun c => .ex x c
  | .st => .st) := rfl
@[simp] theorem ev_out0 : outEv [] es = some [] := by unfold outEv; rfl
@[simp] theorem ev_out1 {s : Option Sl} {cs : Ev} : outEv (some (.sh d) :: cs) (s :: es) = (outEv cs es).map fun r => some (.sh d) :: r := rfl
@[simp] theorem ev_out2 {cs : Ev} : outEv (some (.io d) :: cs) (some (.io x) :: es) = (outEv cs es).map fun r => some (.io x) :: r := rfl
@[simp] theorem ev_ret1 : retR es (.sh d) = some (.sh d) := rfl
@[simp] theorem ev_ret2 : retR es (.fr d) = some (.fr d) := rfl
@[simp] theorem ev_ret3 : retR es (.ow i) = (match es[i]? with
    | some (some (.sh d)) => some (.sh d)
    | some (some (.ow d)) => some (.fr d)
    | _ => none) := rfl
/-! operators -/
@[simp] theorem ev_subI : subD (.int a) (.int b) = some (.sh (.int (a - b))) := rfl
@[simp] theorem ev_addI : addD (.int a) (.int b) = some (.sh (.int (a + b))) := rfl
@[simp] theorem ev_powI : powD (.int a) (.int b) = if 0 ≤ b ∧ b ≤ 64 ∧ a.natAbs < 2 ^ 64 then some (.sh (.int (a ^ b.toNat))) else none := rfl
@[simp] theorem ev_modI : modD (.int a) (.int b) = if 0 < b then some (.sh (.int (a % b))) else none := rfl
@[simp] theorem ev_negI : negD (.int a) = some (.sh (.int (-a))) := rfl
@[simp] theorem ev_ltI : ltZ (.int a) (.int b) = some (.sh (.bl (decide (a < b)))) := rfl
@[simp] theorem ev_leI : leZ (.int a) (.int b) = some (.sh (.bl (decide (a ≤ b)))) := rfl
@[simp] theorem ev_gtI : gtZ (.int a) (.int b) = some (.sh (.bl (decide (b < a)))) := rfl
@[simp] theorem ev_geI : geZ (.int a) (.int b) = some (.sh (.bl (decide (b ≤ a)))) := rfl
@[simp] theorem ev_lenT : DL.lenZ (.tup ds) = some (.sh (.int ds.length)) := rfl
@[simp] theorem ev_lenL : DL.lenZ (.lst ds) = some (.sh (.int ds.length)) := rfl
@[simp] theorem ev_lenR : DL.lenZ (.rl ds) = some (.sh (.int ds.length)) := rfl
@[simp] theorem ev_tyZ : tyZ x = (tyN x).map fun n => .sh (.ty n) := rfl
@[simp] theorem ev_tyI : tyN (.int a) = some "int" := rfl
@[simp] theorem ev_tyS {s : Str} : tyN (.str s) = some "str" := rfl
@[simp] theorem ev_tyT : tyN (.tup ds) = some "tuple" := rfl
@[simp] theorem ev_tyL : tyN (.lst ds) = some "list" := rfl
@[simp] theorem ev_isTy {m n : String} : isZ (.ty m) (.ty n) = some (.sh (.bl (m == n))) := rfl
@[simp] theorem ev_isNTy {m n : String} : isNotZ (.ty m) (.ty n) = some (.sh (.bl (!(m == n)))) := rfl
@[simp] theorem ev_ixT : ixZ (.tup ds) (.int a) = (L2.atI ds a).map .sh := rfl
@[simp] theorem ev_ixL : ixZ (.lst ds) (.int a) = (L2.atI ds a).map .sh := rfl
@[simp] theorem ev_at : L2.atI ds a = (if 0 ≤ a then (if a < ds.length then ds[a.toNat]? else none) else if -(ds.length : Int) ≤ a then ds[(a + ds.length).toNat]? else none) := by
  unfold L2.atI L2.ixN
  split
  · split <;> rfl
  · split <;> rfl
@[simp] theorem ev_eqI : eqZ (.int a) (.int b) = some (.sh (.bl (a == b))) := by
  unfold eqZ eqD
  simp only [toPy, Option.bind_some]
  rw [if_pos ⟨by rfl, by rfl⟩]
  rfl
@[simp] theorem ev_neI : neZ (.int a) (.int b) = some (.sh (.bl (!(a == b)))) := by
  unfold neZ eqD
  simp only [toPy, Option.bind_some]
  rw [if_pos ⟨by rfl, by rfl⟩]
  rfl
@[simp] theorem ev_eqB {p q : Bool} : eqZ (.bl p) (.bl q) = some (.sh (.bl (p == q))) := by
  unfold eqZ eqD
  simp only [toPy, Option.bind_some]
  rw [if_pos ⟨by rfl, by rfl⟩]
  rfl
@[simp] theorem ev_neB {p q : Bool} : neZ (.bl p) (.bl q) = some (.sh (.bl (!(p == q)))) := by
  unfold neZ eqD
  simp only [toPy, Option.bind_some]
  rw [if_pos ⟨by rfl, by rfl⟩]
  rfl
@[simp] theorem ev_maxI : maxZ (.int a) (.int b) = some (.sh (.int (if b > a then b else a))) := rfl
@[simp] theorem ev_minI : minZ (.int a) (.int b) = some (.sh (.int (if b < a then b else a))) := rfl
@[simp] theorem ev_addL {l : List D} : addD (.lst ds) (.lst l) = if ds.length + l.length ≤ sizeLine then some (.lst (ds ++ l)) else none := rfl
@[simp] theorem ev_addT {l : List D} : addD (.tup ds) (.tup l) = if ds.length + l.length ≤ sizeLine then some (.tup (ds ++ l)) else none := rfl
@[simp] theorem ev_isiI {m : String} : isiZ (.int a) (.ty m) = (isN "int" m).map fun b => .sh (.bl b) := rfl
@[simp] theorem ev_isiS {s : Str} {m : String} : isiZ (.str s) (.ty m) = (isN "str" m).map fun b => .sh (.bl b) := rfl
@[simp] theorem ev_isN {n : String} : isN n "str" = some (decide (n = "str")) := rfl
@[simp] theorem ev_par {oi oj : Bool} : gPar i j oi oj fa fb es = (fa es).bind fun p => (Rs.of (toSl oi p.1 p.2)).bind fun s => (fb s.2).bind fun q => (Rs.of (toSl oj q.1 q.2)).bind fun t =>
  if isIo t.2 i = false ∧ isIo t.2 j = false ∧ i ≠ j then .ok (.nx ((t.2.set i (some s.1)).set j (some t.1))) else .st := rfl
@[simp] theorem ev_toSlF : toSl false r es = (toSh r es).map fun p => (.sh p.1, p.2) := rfl
@[simp] theorem ev_toSlT : toSl true (.fr d) es = some (.ow d, es) := rfl
@[simp] theorem ev_disp {prs : List (Fe × Fe)} : fDisp prs es = (dItems prs es).bind fun s => if s.1.length ≤ 15 then .ok (.fr (.dk (mergeD [] s.1)), s.2) else .st := rfl
@[simp] theorem ev_dIt0 : dItems [] es = .ok ([], es) := rfl
@[simp] theorem ev_dIt1 {rest : List (Fe × Fe)} : dItems ((fa, fb) :: rest) es = (fa es).bind fun p => (Rs.of (toSh p.1 p.2)).bind fun q => (Rs.of (keyD q.1)).bind fun k => (fb q.2).bind fun p2 => (Rs.of (toSh p2.1 p2.2)).bind fun q2 => (dItems rest q2.2).bind fun s => .ok ((k, q2.1) :: s.1, s.2) := rfl
@[simp] theorem ev_keyI : keyD (.int a) = some (.inl a) := rfl
@[simp] theorem ev_keyS {s : Str} : keyD (.str s) = some (.inr s) := rfl
@[simp] theorem ev_dget {kvs : List (Key × D)} : dgetZ (.dk kvs) y = (keyD y).bind fun k => (vD kvs k).map .sh := rfl
@[simp] theorem ev_sum : sumZ x = (lstD x).bind fun ds => (intL ds).map fun ns => .sh (.int ns.sum) := rfl
@[simp] theorem ev_intL0 : intL [] = some [] := rfl
@[simp] theorem ev_intL1 : intL (.int a :: ds) = (intL ds).map fun l => a :: l := rfl
theorem shp_str {s : Str} (h : PyData.strOk s = true) : SeqAt.shaped (.str s) = true := by
  unfold SeqAt.shaped
  rw [PyData.canLay0, h]
  rfl
theorem eq_str {s t : Str} (h : PyData.strOk s = true) (h' : PyData.strOk t = true) : eqZ (.str s) (.str t) = some (.sh (.bl (s == t))) := by
  unfold eqZ eqD
  simp only [toPy, Option.bind_some]
  rw [if_pos ⟨shp_str h, shp_str h'⟩]
  rfl
theorem ne_str {s t : Str} (h : PyData.strOk s = true) (h' : PyData.strOk t = true) : neZ (.str s) (.str t) = some (.sh (.bl (!(s == t)))) := by
  unfold neZ eqD
  simp only [toPy, Option.bind_some]
  rw [if_pos ⟨shp_str h, shp_str h'⟩]
  rfl
@[simp] theorem ev_intB {b : Bool} : intZ (.bl b) = some (.sh (.int (if b then 1 else 0))) := rfl
@[simp] theorem ev_intI : intZ (.int a) = some (.sh (.int a)) := rfl
end
@[simp] theorem ev_rng1 {f : Fe} {es : Ev} : iRng1F f es = (fArgs [(false, f)] es).bind fun p => (Rs.of (asInt p.1)).bind fun j => if -(2 ^ 62) ≤ j ∧ j ≤ 16777216 then .ok (intsD 0 j.toNat, p.2) else .st := rfl
@[simp] theorem ev_asInt {a : Int} : asInt [.sh (.int a)] = some a := rfl
end DL

namespace K02
open PySem PySem.Spec L2 DL
open PyProof.Rows hiding St
set_option autoImplicit false
abbrev s2_ (d e : D) : Ev := [some (.sh d), some (.sh e)]
theorem so_put : PyData.strOk "put" = true := by decide +kernel
theorem so_read : PyData.strOk "read" = true := by decide +kernel
theorem so_add : PyData.strOk "add" = true := by decide +kernel
theorem so_raise : PyData.strOk "raise" = true := by decide +kernel
theorem so_lower : PyData.strOk "lower" = true := by decide +kernel
theorem so_a : PyData.strOk "a" = true := by decide +kernel
theorem so_b : PyData.strOk "b" = true := by decide +kernel
theorem so_x : PyData.strOk "x" = true := by decide +kernel
theorem so_p : PyData.strOk "p" = true := by decide +kernel
theorem alike_a {w1 w2 : Str} {p1 p2 l1 l2 : D} (o1 : PyData.strOk w1 = true) (o2 : PyData.strOk w2 = true) (h : (w1 == w2) = false) :
    m_are_alike (s2_ (.tup [.str w1, p1, l1]) (.tup [.str w2, p2, l2])) = .ok (.sh (.bl false), s2_ (.tup [.str w1, p1, l1]) (.tup [.str w2, p2, l2])) := by
  simp [m_are_alike, g_are_alike, ne_str o1 o2, h]
theorem alike_b {w1 w2 : Str} {p1 p2 l1 l2 : D} (o1 : PyData.strOk w1 = true) (o2 : PyData.strOk w2 = true) (h : (w1 == w2) = true) (h2 : (w1 == "put") = false) :
    m_are_alike (s2_ (.tup [.str w1, p1, l1]) (.tup [.str w2, p2, l2])) = .ok (.sh (.bl true), s2_ (.tup [.str w1, p1, l1]) (.tup [.str w2, p2, l2])) := by
  simp [m_are_alike, g_are_alike, ne_str o1 o2, ne_str o1 so_put, h, h2]
theorem alike_c {p1 p2 l2 s c : D} {ts : List D} {b : Bool} (h : eqZ (.tup [s, c, .tup ts]) l2 = some (.sh (.bl b))) :
    m_are_alike (s2_ (.tup [.str "put", p1, .tup [s, c, .tup ts]]) (.tup [.str "put", p2, l2])) = .ok (.sh (.bl (b && ts.isEmpty)), s2_ (.tup [.str "put", p1, .tup [s, c, .tup ts]]) (.tup [.str "put", p2, l2])) := by
  cases b <;> simp [m_are_alike, g_are_alike, ne_str so_put so_put, h]
end K02

namespace K02
open PySem PySem.Spec L2 DL
open PyProof.Rows hiding St
set_option autoImplicit false
theorem clash_ok {w1 w2 t1 t2 : Str} {i1 i2 l1 l2 : D} {al : Bool} (o1 : PyData.strOk t1 = true) (o2 : PyData.strOk t2 = true)
    (h1 : m_is_deed (s1_ (.tup [.str w1, .tup [.str t1, i1], l1])) = .ok (.sh (.bl true), s1_ (.tup [.str w1, .tup [.str t1, i1], l1])))
    (h2 : m_is_deed (s1_ (.tup [.str w2, .tup [.str t2, i2], l2])) = .ok (.sh (.bl true), s1_ (.tup [.str w2, .tup [.str t2, i2], l2])))
    (ha : m_are_alike (s2_ (.tup [.str w1, .tup [.str t1, i1], l1]) (.tup [.str w2, .tup [.str t2, i2], l2])) = .ok (.sh (.bl al), s2_ (.tup [.str w1, .tup [.str t1, i1], l1]) (.tup [.str w2, .tup [.str t2, i2], l2]))) :
    m_do_clash (s2_ (.tup [.str w1, .tup [.str t1, i1], l1]) (.tup [.str w2, .tup [.str t2, i2], l2])) = .ok (.sh (.bl ((t1 == t2) && !al)), s2_ (.tup [.str w1, .tup [.str t1, i1], l1]) (.tup [.str w2, .tup [.str t2, i2], l2])) := by
  cases ht : (t1 == t2) <;> simp [m_do_clash, g_do_clash, m_are_clashing, g_are_clashing, h1, h2, ha, eq_str o1 o2, ht]
/-- what isn't a deed -/
theorem clash_x1 {x y : D} (h : m_is_deed (s1_ x) = .ok (.sh (.bl false), s1_ x)) : m_do_clash (s2_ x y) = .ex (.own "InvalidItem" [("value", x)]) (s2_ x y) := by
  simp [m_do_clash, g_do_clash, h, gRaise]
theorem clash_x2 {x y : D} (h : m_is_deed (s1_ x) = .ok (.sh (.bl true), s1_ x)) (h2 : m_is_deed (s1_ y) = .ok (.sh (.bl false), s1_ y)) : m_do_clash (s2_ x y) = .ex (.own "InvalidItem" [("value", y)]) (s2_ x y) := by
  simp [m_do_clash, g_do_clash, h, h2, gRaise]
/-! ### the law's own -/
theorem lclash_t {w1 w2 t1 t2 : Str} {i1 i2 l1 l2 : D} (o1 : PyData.strOk t1 = true) (o2 : PyData.strOk t2 = true) (h : (t1 == t2) = false) :
    m__law_clash (s2_ (.tup [.str w1, .tup [.str t1, i1], l1]) (.tup [.str w2, .tup [.str t2, i2], l2])) = .ok (.sh (.bl false), s2_ (.tup [.str w1, .tup [.str t1, i1], l1]) (.tup [.str w2, .tup [.str t2, i2], l2])) := by
  simp [m__law_clash, g__law_clash, ne_str o1 o2, h]
theorem lclash_w {w1 w2 t1 t2 : Str} {i1 i2 l1 l2 : D} (o1 : PyData.strOk t1 = true) (o2 : PyData.strOk t2 = true) (p1 : PyData.strOk w1 = true) (p2 : PyData.strOk w2 = true) (h : (t1 == t2) = true) (hw : (w1 == w2) = false) :
    m__law_clash (s2_ (.tup [.str w1, .tup [.str t1, i1], l1]) (.tup [.str w2, .tup [.str t2, i2], l2])) = .ok (.sh (.bl true), s2_ (.tup [.str w1, .tup [.str t1, i1], l1]) (.tup [.str w2, .tup [.str t2, i2], l2])) := by
  simp [m__law_clash, g__law_clash, ne_str o1 o2, ne_str p1 p2, h, hw]
theorem lclash_n {w1 w2 t1 t2 : Str} {i1 i2 l1 l2 : D} (o1 : PyData.strOk t1 = true) (o2 : PyData.strOk t2 = true) (p1 : PyData.strOk w1 = true) (p2 : PyData.strOk w2 = true) (h : (t1 == t2) = true) (hw : (w1 == w2) = true) (hp : (w1 == "put") = false) :
    m__law_clash (s2_ (.tup [.str w1, .tup [.str t1, i1], l1]) (.tup [.str w2, .tup [.str t2, i2], l2])) = .ok (.sh (.bl false), s2_ (.tup [.str w1, .tup [.str t1, i1], l1]) (.tup [.str w2, .tup [.str t2, i2], l2])) := by
  simp [m__law_clash, g__law_clash, ne_str o1 o2, ne_str p1 p2, eq_str p1 so_put, h, hw, hp]
theorem lclash_p {t1 t2 : Str} {i1 i2 s c l2 : D} {ts : List D} {b : Bool} (o1 : PyData.strOk t1 = true) (o2 : PyData.strOk t2 = true) (h : (t1 == t2) = true) (he : eqZ (.tup [s, c, .tup ts]) l2 = some (.sh (.bl b))) (hz : eqZ (.tup ts) (.tup []) = some (.sh (.bl ts.isEmpty))) :
    m__law_clash (s2_ (.tup [.str "put", .tup [.str t1, i1], .tup [s, c, .tup ts]]) (.tup [.str "put", .tup [.str t2, i2], l2])) = .ok (.sh (.bl (!(b && ts.isEmpty))), s2_ (.tup [.str "put", .tup [.str t1, i1], .tup [s, c, .tup ts]]) (.tup [.str "put", .tup [.str t2, i2], l2])) := by
  cases b <;> simp [m__law_clash, g__law_clash, ne_str o1 o2, ne_str so_put so_put, eq_str so_put so_put, h, he, hz]
end K02

namespace K02
open PySem PySem.Spec L2 DL
open PyProof.Rows hiding St
set_option autoImplicit false
theorem lerr {x y v : D} (h : m_do_clash (s2_ x y) = .ex (.own "InvalidItem" [("value", v)]) (s2_ x y)) (hx : xf x = true) (hy : xf y = true) (hv : xf v = true) :
    m__law_error (s2_ x y) = .ok (.fr (.lst [v, .bl true, .bl true]), s2_ x y) := by
  simp [m__law_error, g__law_error, gTry, h, tblOf, fXc, fIsE, outT, xfE, xfS, hx, hy, hv, xf, xfA]
theorem ne_px : ¬ ("p" : Str) = "x" := by decide
theorem ne_xp : ¬ ("x" : Str) = "p" := by decide
theorem eq_0p : eqZ (.int 0) (.str "p") = some (.sh (.bl false)) := by with_unfolding_all rfl
theorem eq_1p : eqZ (.int 1) (.str "p") = some (.sh (.bl false)) := by with_unfolding_all rfl
theorem mo {v : Int} (h : -10 ≤ v ∧ v ≤ 10) (n : Int) : mulOk v n = true := decide_eq_true (.inl ⟨by omega, by omega⟩)
theorem amt {w t : Str} {ix : D} {c : Int} {ts : List D} {sp fr : Int} (hix : ix ∈ ixL ["p"]) (hl : ts.length < 3) (ht : ∀ t ∈ ts, ∃ v x, t = .tup [.int v, .str x] ∧ x ∈ (["p", "x"] : List Str) ∧ -10 ≤ v ∧ v ≤ 10) :
    ∃ A, m__law_amount [some (.sh (.tup [.str w, .tup [.str t, ix], .tup [.str "sum", .int c, .tup ts]])), some (.sh (.int sp)), some (.sh (.int fr))] = .ok (.sh (.int A), [some (.sh (.tup [.str w, .tup [.str t, ix], .tup [.str "sum", .int c, .tup ts]])), some (.sh (.int sp)), some (.sh (.int fr))]) ∧ (ts = [] → A = c) := by
  have hd : ∃ P, eqZ ix (.str "p") = some (.sh (.bl P)) := by
    simp [ixL] at hix
    rcases hix with rfl | rfl | rfl
    · exact ⟨_, eq_str so_p so_p⟩
    · exact ⟨_, eq_0p⟩
    · exact ⟨_, eq_1p⟩
  obtain ⟨P, hP⟩ := hd
  match ts, hl, ht with
  | [], _, _ => exact ⟨c, by cases P <;> simp [m__law_amount, g__law_amount, hP, mergeD, putD, ne_px, ne_xp], fun _ => rfl⟩
  | [t1], _, ht =>
    obtain ⟨v, x, rfl, hx, hv⟩ := ht t1 List.mem_cons_self
    have hm := mo hv
    simp only [List.mem_cons, List.not_mem_nil, or_false] at hx
    rcases hx with rfl | rfl <;> cases P <;> exact ⟨_, (by simp [m__law_amount, g__law_amount, hP, mergeD, putD, ne_px, ne_xp, vD, mulD, hm]; rfl), fun h => by cases h⟩
  | [t1, t2], _, ht =>
    obtain ⟨v, x, rfl, hx, hv⟩ := ht t1 List.mem_cons_self
    obtain ⟨v2, x2, rfl, hx2, hv2⟩ := ht t2 (List.mem_cons_of_mem _ List.mem_cons_self)
    have hm := mo hv
    have hm2 := mo hv2
    simp only [List.mem_cons, List.not_mem_nil, or_false] at hx hx2
    rcases hx with rfl | rfl <;> rcases hx2 with rfl | rfl <;> cases P <;> exact ⟨_, (by simp [m__law_amount, g__law_amount, hP, mergeD, putD, ne_px, ne_xp, vD, mulD, hm, hm2]; rfl), fun h => by cases h⟩
  | _ :: _ :: _ :: _, hl, _ => exact absurd hl (by simp)
/-! ### apply -/
theorem app_add {p l : D} {it : D} {v a : Int} : m_apply [some (.sh (.tup [.str "add", p, l])), some (.sh it), some (.sh (.int v)), some (.sh (.int a))] = .ok (.sh (.int (v + a)), [some (.sh (.tup [.str "add", p, l])), some (.sh it), some (.sh (.int v)), some (.sh (.int a))]) := by
  simp [m_apply, g_apply, eq_str so_add so_add]
theorem w_ra : (("raise" : Str) == "add") = false := by decide
theorem w_la : (("lower" : Str) == "add") = false := by decide
theorem w_lr : (("lower" : Str) == "raise") = false := by decide
theorem w_pa : (("put" : Str) == "add") = false := by decide
theorem w_pr : (("put" : Str) == "raise") = false := by decide
theorem w_pl : (("put" : Str) == "lower") = false := by decide
theorem app_raise {p l : D} {it : D} {v a : Int} : m_apply [some (.sh (.tup [.str "raise", p, l])), some (.sh it), some (.sh (.int v)), some (.sh (.int a))] = .ok (.sh (.int (if a > v then a else v)), [some (.sh (.tup [.str "raise", p, l])), some (.sh it), some (.sh (.int v)), some (.sh (.int a))]) := by
  simp [m_apply, g_apply, eq_str so_raise so_add, eq_str so_raise so_raise, w_ra]
theorem app_lower {p l : D} {it : D} {v a : Int} : m_apply [some (.sh (.tup [.str "lower", p, l])), some (.sh it), some (.sh (.int v)), some (.sh (.int a))] = .ok (.sh (.int (if a < v then a else v)), [some (.sh (.tup [.str "lower", p, l])), some (.sh it), some (.sh (.int v)), some (.sh (.int a))]) := by
  simp [m_apply, g_apply, eq_str so_lower so_add, eq_str so_lower so_raise, eq_str so_lower so_lower, w_la, w_lr]
theorem app_put {p l : D} {it : D} {v a : Int} : m_apply [some (.sh (.tup [.str "put", p, l])), some (.sh it), some (.sh (.int v)), some (.sh (.int a))] = .ok (.sh (.int a), [some (.sh (.tup [.str "put", p, l])), some (.sh it), some (.sh (.int v)), some (.sh (.int a))]) := by
  simp [m_apply, g_apply, eq_str so_put so_add, eq_str so_put so_raise, eq_str so_put so_lower, eq_str so_put so_put, w_pa, w_pr, w_pl]
/-! ### the same ends -/
abbrev ends_ (w w2 : Str) (t t2 : Str) (i i2 l l2 : D) (v f s : Int) : Ev := [some (.sh (.tup [.str w, .tup [.str t, i], l])), some (.sh (.tup [.str w2, .tup [.str t2, i2], l2])), some (.sh (.int v)), some (.sh (.int f)), some (.sh (.int s))]
def T_ (e : Ev) : Prop := m__law_same_ends e = .ok (.sh (.bl true), e)
theorem in_read {w w2 : Str} {r : Bool} (h : (w == "read" || w2 == "read") = r) : inZ (.str "read") (.lst [.str w, .str w2]) = some (.sh (.bl r)) := by
  subst h
  simp [inZ, inD, flatD, inF, eqF]
theorem ends_read {w w2 t t2 : Str} {i i2 l l2 : D} {v f s : Int} (h : (w == "read" || w2 == "read") = true) : T_ (ends_ w w2 t t2 i i2 l l2 v f s) := by
  simp [T_, m__law_same_ends, g__law_same_ends, in_read h]
theorem ends_two {w w2 t t2 : Str} {i i2 : Int} {l l2 : D} {v f s : Int} (h : (w == "read" || w2 == "read") = false) (hi : i ≠ i2) : T_ (ends_ w w2 t t2 (.int i) (.int i2) l l2 v f s) := by
  simp [T_, m__law_same_ends, g__law_same_ends, in_read h, hi]
end K02

namespace K02
open PySem PySem.Spec L2 DL
open PyProof.Rows hiding St
set_option autoImplicit false
def Sp (i i2 : D) (sp : Int) : Prop := (i = .str "p" ∧ i2 = .str "p" ∧ sp = 1) ∨ (i = .str "p" ∧ i2 = .int sp) ∨ (i = .int sp ∧ i2 = .str "p") ∨ (i = .int sp ∧ i2 = .int sp)
def Am (d : D) (sp f A : Int) : Prop := m__law_amount [some (.sh d), some (.sh (.int sp)), some (.sh (.int f))] = .ok (.sh (.int A), [some (.sh d), some (.sh (.int sp)), some (.sh (.int f))])
section
variable {w t t2 : Str} {i i2 l l2 : D} {v f s sp A B : Int}
theorem ends_add (hs : Sp i i2 sp) (h1 : Am (.tup [.str "add", .tup [.str t, i], l]) sp f A) (h2 : Am (.tup [.str "add", .tup [.str t2, i2], l2]) sp s B) : T_ (ends_ "add" "add" t t2 i i2 l l2 v f s) := by
  have hn : (("add" : Str) == "read" || ("add" : Str) == "read") = false := by decide
  have e : (v + A + B == v + B + A) = true := by simp; omega
  unfold Am at h1 h2
  rcases hs with ⟨rfl, rfl, rfl⟩ | ⟨rfl, rfl⟩ | ⟨rfl, rfl⟩ | ⟨rfl, rfl⟩ <;>
  simp [T_, m__law_same_ends, g__law_same_ends, in_read hn, h1, h2, app_add] <;> omega
theorem ends_raise (hs : Sp i i2 sp) (h1 : Am (.tup [.str "raise", .tup [.str t, i], l]) sp f A) (h2 : Am (.tup [.str "raise", .tup [.str t2, i2], l2]) sp s B) : T_ (ends_ "raise" "raise" t t2 i i2 l l2 v f s) := by
  have hn : (("raise" : Str) == "read" || ("raise" : Str) == "read") = false := by decide
  unfold Am at h1 h2
  rcases hs with ⟨rfl, rfl, rfl⟩ | ⟨rfl, rfl⟩ | ⟨rfl, rfl⟩ | ⟨rfl, rfl⟩ <;>
  simp [T_, m__law_same_ends, g__law_same_ends, in_read hn, h1, h2, app_raise] <;> (repeat' split) <;> omega
theorem ends_lower (hs : Sp i i2 sp) (h1 : Am (.tup [.str "lower", .tup [.str t, i], l]) sp f A) (h2 : Am (.tup [.str "lower", .tup [.str t2, i2], l2]) sp s B) : T_ (ends_ "lower" "lower" t t2 i i2 l l2 v f s) := by
  have hn : (("lower" : Str) == "read" || ("lower" : Str) == "read") = false := by decide
  unfold Am at h1 h2
  rcases hs with ⟨rfl, rfl, rfl⟩ | ⟨rfl, rfl⟩ | ⟨rfl, rfl⟩ | ⟨rfl, rfl⟩ <;>
  simp [T_, m__law_same_ends, g__law_same_ends, in_read hn, h1, h2, app_lower] <;> (repeat' split) <;> omega
theorem ends_put (hs : Sp i i2 sp) (h1 : Am (.tup [.str "put", .tup [.str t, i], l]) sp f A) (h2 : Am (.tup [.str "put", .tup [.str t2, i2], l2]) sp s A) : T_ (ends_ "put" "put" t t2 i i2 l l2 v f s) := by
  have hn : (("put" : Str) == "read" || ("put" : Str) == "read") = false := by decide
  unfold Am at h1 h2
  rcases hs with ⟨rfl, rfl, rfl⟩ | ⟨rfl, rfl⟩ | ⟨rfl, rfl⟩ | ⟨rfl, rfl⟩ <;>
  simp [T_, m__law_same_ends, g__law_same_ends, in_read hn, h1, h2, app_put]
end
end K02

namespace K02
open PySem PySem.Spec L2 DL
open PyProof.Rows hiding St
set_option autoImplicit false
/-! ### sums compared -/
def eqB (x y : D) : Bool := (eqD x y).getD false
theorem shp_py {x : D} (h : shp x = true) : ∃ p, toPy x = some p ∧ SeqAt.shaped p = true := by
  unfold shp at h
  split at h
  · rename_i p e; exact ⟨p, e, h⟩
  · cases h
theorem eqB_ok {x y : D} (hx : shp x = true) (hy : shp y = true) : eqD x y = some (eqB x y) := by
  obtain ⟨p, e1, h1⟩ := shp_py hx
  obtain ⟨q, e2, h2⟩ := shp_py hy
  have : eqD x y = some (PyData.eqv p q) := by unfold eqD; rw [e1, e2]; simp only [Option.bind_some]; rw [if_pos ⟨h1, h2⟩]
  unfold eqB
  rw [this]
  rfl
theorem eqZ_ok' {x y : D} (hx : shp x = true) (hy : shp y = true) : eqZ x y = some (.sh (.bl (eqB x y))) := by unfold eqZ; rw [eqB_ok hx hy]; rfl
theorem neZ_ok' {x y : D} (hx : shp x = true) (hy : shp y = true) : neZ x y = some (.sh (.bl (!(eqB x y)))) := by unfold neZ; rw [eqB_ok hx hy]; rfl
theorem eqB_comm {x y : D} (hx : shp x = true) (hy : shp y = true) : eqB x y = eqB y x := by
  obtain ⟨p, e1, h1⟩ := shp_py hx
  obtain ⟨q, e2, h2⟩ := shp_py hy
  unfold eqB eqD
  rw [e1, e2]
  simp only [Option.bind_some]
  rw [if_pos ⟨h1, h2⟩, if_pos ⟨h2, h1⟩, PySem.W.eqv_comm]
theorem eqB_self {x : D} (hx : shp x = true) : eqB x x = true := by
  obtain ⟨p, e1, h1⟩ := shp_py hx
  unfold eqB eqD
  rw [e1]
  simp only [Option.bind_some]
  rw [if_pos ⟨h1, h1⟩, SeqAt.eqv_refl p (SeqAt.canLay_of_shaped h1)]
  rfl
theorem toPyA_nil {ds : List D} (h : toPyA ds = some []) : ds = [] := by
  cases ds with
  | nil => rfl
  | cons d r =>
    rw [toPyA] at h
    obtain ⟨p, _, h⟩ := Option.bind_eq_some_iff.mp h
    obtain ⟨ps, _, h⟩ := Option.map_eq_some_iff.mp h
    cases h
theorem py_sum {c : Int} {ts : List D} {p : PyData} (h : toPy (.tup [.str "sum", .int c, .tup ts]) = some p) : ∃ ps, toPyA ts = some ps ∧ p = .tuple [.str "sum", .int c, .tuple ps] := by
  rw [toPy] at h
  obtain ⟨q, h1, h2⟩ := Option.map_eq_some_iff.mp h
  simp only [toPyA, toPy, Option.bind_some, Option.map_some] at h1
  obtain ⟨r, h3, h4⟩ := Option.map_eq_some_iff.mp h1
  cases hq : toPyA ts with
  | none => rw [hq] at h3; simp at h3
  | some ps =>
    rw [hq] at h3
    refine ⟨ps, rfl, ?_⟩
    rw [← h2, ← h4]
    simp at h3
    rw [← h3]
theorem sum_eq {c1 c2 : Int} {t1 t2 : List D} (h1 : shp (.tup [.str "sum", .int c1, .tup t1]) = true) (h2 : shp (.tup [.str "sum", .int c2, .tup t2]) = true) (h : eqB (.tup [.str "sum", .int c1, .tup t1]) (.tup [.str "sum", .int c2, .tup t2]) = true) : c1 = c2 ∧ (t1 = [] → t2 = []) := by
  obtain ⟨p, e1, s1⟩ := shp_py h1
  obtain ⟨q, e2, s2⟩ := shp_py h2
  obtain ⟨ps, u1, rfl⟩ := py_sum e1
  obtain ⟨qs, u2, rfl⟩ := py_sum e2
  unfold eqB eqD at h
  rw [e1, e2] at h
  simp only [Option.bind_some] at h
  rw [if_pos ⟨s1, s2⟩] at h
  simp [PyData.eqv, PyData.eqvAll] at h
  refine ⟨h.1, fun z => ?_⟩
  subst z
  rw [toPyA] at u1
  cases u1
  have h2 := h.2
  cases qs with
  | nil => exact toPyA_nil u2
  | cons x r => simp [PyData.eqvAll] at h2
theorem emp_eq {ts : List D} (h : shp (.tup ts) = true) : eqZ (.tup ts) (.tup []) = some (.sh (.bl ts.isEmpty)) := by
  rw [eqZ_ok' h (by decide +kernel)]
  obtain ⟨p, e1, s1⟩ := shp_py h
  have e2 : toPy (.tup []) = some (.tuple []) := by with_unfolding_all rfl
  have s2 : SeqAt.shaped (.tuple []) = true := by decide +kernel
  unfold eqB eqD
  rw [e1, e2]
  simp only [Option.bind_some]
  rw [if_pos ⟨s1, s2⟩]
  rw [toPy] at e1
  obtain ⟨ps, h1, rfl⟩ := Option.map_eq_some_iff.mp e1
  cases ts with
  | nil => rw [toPyA] at h1; cases h1; rfl
  | cons d r =>
    rw [toPyA] at h1
    obtain ⟨a, _, h1⟩ := Option.bind_eq_some_iff.mp h1
    obtain ⟨b, _, h1⟩ := Option.map_eq_some_iff.mp h1
    subst h1
    rfl
/-! ### pairs of drawn deeds -/
abbrev Dd : D → Prop := DeedOk ["p"] ["p", "x"]
theorem ps1 : PsOk ["p"] := ⟨by decide, fun x hx => .inl (by simpa using hx)⟩
def wds : List Str := ["read", "add", "put", "raise", "lower"]
theorem wds_ok : wds.all PyData.strOk = true := by decide +kernel
theorem tab_ok {t : Str} (h : t = "a" ∨ t = "b") : PyData.strOk t = true := by rcases h with rfl | rfl <;> decide +kernel
theorem ch_ok {w : Str} (h : w ∈ chW) : PyData.strOk w = true := by rcases ch_cases h with rfl | rfl | rfl | rfl <;> decide +kernel
/-- what a drawn deed is, told once -/
structure Dt (d : D) (w t : Str) (ix l : D) : Prop where
  eq : d = .tup [.str w, .tup [.str t, ix], l]
  wo : PyData.strOk w = true
  to : PyData.strOk t = true
  ixm : ix ∈ ixL ["p"]
  dd : m_is_deed (s1_ d) = .ok (.sh (.bl true), s1_ d)
  last : (w = "read" ∧ ∃ x, l = .str x) ∨ (w ∈ chW ∧ SumOk ["p", "x"] l)
theorem dt_of {d : D} (h : Dd d) : ∃ w t ix l, Dt d w t ix l := by
  obtain ⟨w, t, ix, l, e, ht, hi, hl⟩ := h.ex
  refine ⟨w, t, ix, l, e, ?_, tab_ok ht, hi, deed_ok ps1 h, ?_⟩
  · rcases hl with ⟨rfl, _⟩ | ⟨hw, _⟩
    · exact so_read
    · exact ch_ok hw
  · rcases hl with ⟨rfl, x, _, rfl⟩ | h
    · exact .inl ⟨rfl, x, rfl⟩
    · exact .inr h
theorem w_cases {d : D} {w t : Str} {ix l : D} (h : Dt d w t ix l) : w = "read" ∨ w = "add" ∨ w = "put" ∨ w = "raise" ∨ w = "lower" := by
  rcases h.last with ⟨rfl, _⟩ | ⟨hw, _⟩
  · exact .inl rfl
  · exact .inr (ch_cases hw)
/-- are they alike -/
def alB (w w2 : Str) (l l2 : D) (emp : Bool) : Bool := (w == w2) && (!(w == "put") || (eqB l l2 && emp))
def empB : D → Bool
  | .tup [_, _, .tup ts] => ts.isEmpty
  | _ => false
theorem alike_ok {d d2 : D} {w t w2 t2 : Str} {ix l ix2 l2 : D} (h : Dt d w t ix l) (h2 : Dt d2 w2 t2 ix2 l2) : m_are_alike (s2_ d d2) = .ok (.sh (.bl (alB w w2 l l2 (empB l))), s2_ d d2) := by
  have e1 := h.eq
  have e2 := h2.eq
  subst e1 e2
  unfold alB
  cases hw : (w == w2) with
  | false => exact alike_a h.wo h2.wo hw
  | true =>
    cases hp : (w == "put") with
    | false => exact alike_b h.wo h2.wo hw hp
    | true =>
      have : w = "put" := eq_of_beq hp
      subst this
      have : w2 = "put" := (eq_of_beq hw).symm
      subst this
      rcases h.last with ⟨z, _⟩ | ⟨_, ⟨c, ts, rfl, hs, sh1, sh2, _⟩⟩
      · exact absurd z (by decide)
      rcases h2.last with ⟨z, _⟩ | ⟨_, ⟨c2, ts2, rfl, hs', sh1', sh2', _⟩⟩
      · exact absurd z (by decide)
      exact alike_c (eqZ_ok' sh1 sh1')
theorem clash_eq {d d2 : D} {w t w2 t2 : Str} {ix l ix2 l2 : D} (h : Dt d w t ix l) (h2 : Dt d2 w2 t2 ix2 l2) : m_do_clash (s2_ d d2) = .ok (.sh (.bl ((t == t2) && !alB w w2 l l2 (empB l))), s2_ d d2) := by
  have ha := alike_ok h h2
  have d1 := h.dd
  have d2' := h2.dd
  have e1 := h.eq
  have e2 := h2.eq
  subst e1 e2
  exact clash_ok h.to h2.to d1 d2' ha
theorem lclash_eq {d d2 : D} {w t w2 t2 : Str} {ix l ix2 l2 : D} (h : Dt d w t ix l) (h2 : Dt d2 w2 t2 ix2 l2) : m__law_clash (s2_ d d2) = .ok (.sh (.bl ((t == t2) && !alB w w2 l l2 (empB l))), s2_ d d2) := by
  have e1 := h.eq
  have e2 := h2.eq
  subst e1 e2
  unfold alB
  cases ht : (t == t2) with
  | false => exact lclash_t h.to h2.to ht
  | true =>
    cases hw : (w == w2) with
    | false => exact lclash_w h.to h2.to h.wo h2.wo ht hw
    | true =>
      cases hp : (w == "put") with
      | false => exact lclash_n h.to h2.to h.wo h2.wo ht hw hp
      | true =>
        have : w = "put" := eq_of_beq hp
        subst this
        have : w2 = "put" := (eq_of_beq hw).symm
        subst this
        rcases h.last with ⟨z, _⟩ | ⟨_, ⟨c, ts, rfl, hs, sh1, sh2, _⟩⟩
        · exact absurd z (by decide)
        rcases h2.last with ⟨z, _⟩ | ⟨_, ⟨c2, ts2, rfl, hs', sh1', sh2', _⟩⟩
        · exact absurd z (by decide)
        exact lclash_p h.to h2.to ht (eqZ_ok' sh1 sh1') (emp_eq sh2)
theorem al_comm {d d2 : D} {w t w2 t2 : Str} {ix l ix2 l2 : D} (h : Dt d w t ix l) (h2 : Dt d2 w2 t2 ix2 l2) : alB w w2 l l2 (empB l) = alB w2 w l2 l (empB l2) := by
  unfold alB
  cases hw : (w == w2) with
  | false =>
    have : (w2 == w) = false := by
      rw [beq_eq_false_iff_ne] at hw ⊢
      exact fun e => hw e.symm
    rw [this]; rfl
  | true =>
    have e : w = w2 := eq_of_beq hw
    subst e
    rw [show (w == w) = true from hw]
    cases hp : (w == "put") with
    | false => rfl
    | true =>
      have : w = "put" := eq_of_beq hp
      subst this
      rcases h.last with ⟨z, _⟩ | ⟨_, ⟨c, ts, rfl, hs, sh1, sh2, _⟩⟩
      · exact absurd z (by decide)
      rcases h2.last with ⟨z, _⟩ | ⟨_, ⟨c2, ts2, rfl, hs', sh1', sh2', _⟩⟩
      · exact absurd z (by decide)
      rw [eqB_comm sh1' sh1]
      cases he : eqB (.tup [.str "sum", .int c, .tup ts]) (.tup [.str "sum", .int c2, .tup ts2]) with
      | false => rfl
      | true =>
        have k1 := (sum_eq sh1 sh1' he).2
        have k2 := (sum_eq sh1' sh1 (by rw [eqB_comm sh1' sh1]; exact he)).2
        show (true && (!true || (true && ts.isEmpty))) = (true && (!true || (true && ts2.isEmpty)))
        cases ts with
        | nil => rw [k1 rfl]
        | cons a r =>
          cases ts2 with
          | nil => exact absurd (k2 rfl) (by simp)
          | cons b s => rfl
theorem comm_eq {d d2 : D} {w t w2 t2 : Str} {ix l ix2 l2 : D} (h : Dt d w t ix l) (h2 : Dt d2 w2 t2 ix2 l2) : ((t2 == t) && !alB w2 w l2 l (empB l2)) = ((t == t2) && !alB w w2 l l2 (empB l)) := by
  rw [al_comm h h2]
  congr 1
  rw [Bool.eq_iff_iff, beq_iff_eq, beq_iff_eq]
  exact eq_comm
theorem self_eq {d : D} {w t : Str} {ix l : D} (h : Dt d w t ix l) : ((t == t) && !alB w w l l (empB l)) = ((w == "put") && !(empB l)) := by
  unfold alB
  rw [beq_self_eq_true, beq_self_eq_true]
  cases hp : (w == "put") with
  | false => rfl
  | true =>
    have : w = "put" := eq_of_beq hp
    subst this
    rcases h.last with ⟨z, _⟩ | ⟨_, ⟨c, ts, rfl, hs, sh1, sh2, _⟩⟩
    · exact absurd z (by decide)
    rw [eqB_self sh1]
    rfl
theorem ix_cases {ix : D} (h : ix ∈ ixL ["p"]) : ix = .str "p" ∨ ∃ i : Int, ix = .int i := by
  simp [ixL] at h
  rcases h with rfl | rfl | rfl
  · exact .inl rfl
  · exact .inr ⟨0, rfl⟩
  · exact .inr ⟨1, rfl⟩
theorem ends_ok {d d2 : D} {w t w2 t2 : Str} {ix l ix2 l2 : D} (h : Dt d w t ix l) (h2 : Dt d2 w2 t2 ix2 l2) (ht : (t == t2) = true) (hc : ((t == t2) && !alB w w2 l l2 (empB l)) = false) (v f s : Int) :
    m__law_same_ends [some (.sh d), some (.sh d2), some (.sh (.int v)), some (.sh (.int f)), some (.sh (.int s))] = .ok (.sh (.bl true), [some (.sh d), some (.sh d2), some (.sh (.int v)), some (.sh (.int f)), some (.sh (.int s))]) := by
  have e1 := h.eq
  have e2 := h2.eq
  subst e1 e2
  show T_ (ends_ w w2 t t2 ix ix2 l l2 v f s)
  rw [ht] at hc
  have hal : alB w w2 l l2 (empB l) = true := by simpa using hc
  unfold alB at hal
  rw [Bool.and_eq_true] at hal
  obtain ⟨hw, hal⟩ := hal
  have : w2 = w := (eq_of_beq hw).symm
  subst this
  by_cases hr : w2 = "read"
  · subst hr
    exact ends_read (by decide)
  have hnr : (w2 == "read" || w2 == "read") = false := by simp [hr]
  rcases h.last with ⟨z, _⟩ | ⟨hch, ⟨c, ts, rfl, hs, sh1, sh2, hlen, hterm⟩⟩
  · exact absurd z hr
  rcases h2.last with ⟨z, _⟩ | ⟨_, ⟨c2, ts2, rfl, hs', sh1', sh2', hlen2, hterm2⟩⟩
  · exact absurd z hr
  have go : ∀ sp, Sp ix ix2 sp → T_ (ends_ w2 w2 t t2 ix ix2 (.tup [.str "sum", .int c, .tup ts]) (.tup [.str "sum", .int c2, .tup ts2]) v f s) := fun sp hsp => by
    obtain ⟨A, hA, zA⟩ := amt (w := w2) (t := t) (c := c) (sp := sp) (fr := f) h.ixm hlen hterm
    obtain ⟨B, hB, zB⟩ := amt (w := w2) (t := t2) (c := c2) (sp := sp) (fr := s) h2.ixm hlen2 hterm2
    rcases ch_cases hch with rfl | rfl | rfl | rfl
    · exact ends_add hsp hA hB
    · have hal : (eqB (.tup [.str "sum", .int c, .tup ts]) (.tup [.str "sum", .int c2, .tup ts2]) && ts.isEmpty) = true := by simpa [empB] using hal
      rw [Bool.and_eq_true] at hal
      obtain ⟨k1, k2⟩ := sum_eq sh1 sh1' hal.1
      have k3 : ts = [] := List.isEmpty_iff.mp hal.2
      have : B = A := by rw [zA k3, zB (k2 k3), k1]
      subst this
      exact ends_put hsp hA hB
    · exact ends_raise hsp hA hB
    · exact ends_lower hsp hA hB
  rcases ix_cases h.ixm with rfl | ⟨i, rfl⟩
  · rcases ix_cases h2.ixm with rfl | ⟨j, rfl⟩
    · exact go 1 (.inl ⟨rfl, rfl, rfl⟩)
    · exact go j (.inr (.inl ⟨rfl, rfl⟩))
  · rcases ix_cases h2.ixm with rfl | ⟨j, rfl⟩
    · exact go i (.inr (.inr (.inl ⟨rfl, rfl⟩)))
    · by_cases hij : i = j
      · subst hij
        exact go i (.inr (.inr (.inr ⟨rfl, rfl⟩)))
      · exact ends_two hnr hij
end K02

namespace K02
open PySem PySem.Spec L2 DL
open PyProof.Rows hiding St
set_option autoImplicit false
theorem ints3 : intsD 0 3 = [.int 0, .int 1, .int 2] := rfl
theorem xf_terms {ts : List D} {nm : List Str} (h : ∀ t ∈ ts, ∃ v x, t = .tup [.int v, .str x] ∧ x ∈ nm ∧ -10 ≤ v ∧ v ≤ 10) : xfA ts = true := by
  induction ts with
  | nil => rfl
  | cons t r ih =>
    obtain ⟨v, x, rfl, _⟩ := h t List.mem_cons_self
    rw [xfA, ih fun q hq => h q (List.mem_cons_of_mem _ hq)]
    rfl
theorem xf_dd {d : D} {w t : Str} {ix l : D} (h : Dt d w t ix l) : xf d = true := by
  have e := h.eq
  subst e
  have hi : xf ix = true := by rcases ix_cases h.ixm with rfl | ⟨i, rfl⟩ <;> rfl
  have hl : xf l = true := by
    rcases h.last with ⟨_, x, rfl⟩ | ⟨_, ⟨c, ts, rfl, _, _, _, _, ht⟩⟩
    · rfl
    · simp [xf, xfA, xf_terms ht]
  simp [xf, xfA, hi, hl]
/-! ### what is no deed -/
def odds : List D := [.non, .int 5, .tup [], .lst [.str "read", .tup [.str "a", .int 1], .str "x"], .tup [.str "read", .tup [.str "a", .int 1], .int 5], .str "read"]
theorem odds_ok : odds.all (fun d => isF (m_is_deed (s1_ d)) && xf d && shp (.lst [d, .bl true, .bl true])) = true := by decide +kernel
structure OddOk (o : D) : Prop where
  no : m_is_deed (s1_ o) = .ok (.sh (.bl false), s1_ o)
  xx : xf o = true
  ne : neZ (.lst [o, .bl true, .bl true]) (.lst [o, .bl true, .bl true]) = some (.sh (.bl false))
theorem odd_ok {o : D} (h : o ∈ odds) : OddOk o := by
  have := List.all_eq_true.mp odds_ok o h
  simp only [Bool.and_eq_true] at this
  refine ⟨isF_ok (allSh1 o) this.1.1, this.1.2, ?_⟩
  rw [neZ_ok' this.2 this.2, eqB_self this.2]
  rfl
/-! ### the law's slots -/
abbrev EL (ns : List Int) (o1 : Option D) (x2 : Option Sl) (o3 o4 o5 o6 o7 o8 o9 : Option D) : Ev := [some (.sh (.rl (ns.map D.int))), nz o1, x2, nz o3, nz o4, nz o5, nz o6, nz o7, nz o8, nz o9, none]
abbrev ow_ (a b : Int) : Option Sl := some (.ow (pl_ a b))
def b9 : Fs := (gSeq (gIf (fTB (fOp neZ (fCall (noX m__law_error) [(false, (fVar 9)), (false, (fCon (.int 7)))] []) (fLst [(fVar 9), (fCon (.bl true)), (fCon (.bl true))])))
  (gRet (fCon (.bl false)))
  gNil)
  (gIf (fTB (fOp neZ (fCall (noX m__law_error) [(false, (fVar 4)), (false, (fVar 9))] []) (fLst [(fVar 9), (fCon (.bl true)), (fCon (.bl true))])))
  (gRet (fCon (.bl false)))
  gNil))
section
variable {ns : List Int} {o1 o3 o5 o6 o7 o8 o9 : Option D} {a b : Int} {d d2 : D} {w t w2 t2 : Str} {ix l ix2 l2 : D}
@[simp] theorem nz_some {x : D} : nz (some x) = some (.sh x) := rfl
theorem step9 (h : Dt d w t ix l) {o : D} (ho : OddOk o) : b9 (EL ns o1 (ow_ a b) o3 (some d) o5 o6 o7 o8 (some o)) = .ok (.nx (EL ns o1 (ow_ a b) o3 (some d) o5 o6 o7 o8 (some o))) := by
  have e1 := lerr (y := .int 7) (clash_x1 (y := .int 7) ho.no) ho.xx rfl ho.xx
  have e2 := lerr (clash_x2 h.dd ho.no) (xf_dd h) ho.xx ho.xx
  simp [b9, e1, e2, ho.ne]
theorem loop9 (h : Dt d w t ix l) : ∃ o9', gFor (iAnyF (fLst [(fCon .non), (fCon (.int 5)), (fTup []), (fLst [(fCon (.str "read")), (fTup [(fCon (.str "a")), (fCon (.int 1))]), (fCon (.str "x"))]), (fTup [(fCon (.str "read")), (fTup [(fCon (.str "a")), (fCon (.int 1))]), (fCon (.int 5))]), (fCon (.str "read"))])) (ptName 9) b9 (EL ns o1 (ow_ a b) o3 (some d) o5 o6 o7 o8 o9) = .ok (.nx (EL ns o1 (ow_ a b) o3 (some d) o5 o6 o7 o8 o9')) := by
  have hi : iAnyF (fLst [(fCon .non), (fCon (.int 5)), (fTup []), (fLst [(fCon (.str "read")), (fTup [(fCon (.str "a")), (fCon (.int 1))]), (fCon (.str "x"))]), (fTup [(fCon (.str "read")), (fTup [(fCon (.str "a")), (fCon (.int 1))]), (fCon (.int 5))]), (fCon (.str "read"))]) (EL ns o1 (ow_ a b) o3 (some d) o5 o6 o7 o8 o9) = .ok (odds, EL ns o1 (ow_ a b) o3 (some d) o5 o6 o7 o8 o9) := by
    simp [odds]
  obtain ⟨e3, l1, l2⟩ := forL_go (p := ptName 9) (body := b9) (fun _ e => ∃ o, e = EL ns o1 (ow_ a b) o3 (some d) o5 o6 o7 o8 o) (ds := odds) (k := 0) (es := EL ns o1 (ow_ a b) o3 (some d) o5 o6 o7 o8 o9) (fun i x e q ⟨o, he⟩ => by
    subst he
    exact ⟨EL ns o1 (ow_ a b) o3 (some d) o5 o6 o7 o8 (some x), EL ns o1 (ow_ a b) o3 (some d) o5 o6 o7 o8 (some x), by simp, .inl (step9 h (odd_ok (List.mem_of_getElem? q))), _, rfl⟩) ⟨o9, rfl⟩
  obtain ⟨o, rfl⟩ := l2
  exact ⟨o, by unfold gFor; rw [hi]; exact l1⟩
/-! ### a turn -/
theorem ksx : KsOk 1 ["x"] := ⟨rfl, fun q h => by rw [List.mem_singleton.mp h]; exact List.mem_cons_self⟩
theorem deed1 (a b : Int) : ∃ d a' b' ks, (∃ w t ix l, Dt d w t ix l) ∧ m__law_deed [some (.io (pl_ a b)), some (.sh (.lst [.str "p"])), some (.io (.lst [.str "x"]))] = .ok (.sh d, [some (.io (pl_ a' b')), some (.sh (.lst [.str "p"])), some (.io (.lst ks))]) := by
  obtain ⟨d, a', b', n', ks', hd, _, _, he⟩ := deed (a := a) (b := b) (n := 1) (ps := ["p"]) (ks := ["x"]) ps1 ksx (by omega) (by simp)
  exact ⟨d, a', b', ks'.map .str, dt_of hd, he⟩
theorem selfE (h : Dt d w t ix l) {x2 : Option Sl} : fAnd (fOp eqZ (fOp ixZ (fVar 4) (fCon (.int 0))) (fCon (.str "put"))) (fOp neZ (fOp ixZ (fOp ixZ (fVar 4) (fCon (.int 2))) (fCon (.int 2))) (fTup [])) (EL ns o1 x2 o3 (some d) o5 o6 o7 o8 o9) = .ok (.sh (.bl ((w == "put") && !(empB l))), EL ns o1 x2 o3 (some d) o5 o6 o7 o8 o9) := by
  have e := h.eq
  subst e
  cases hp : (w == "put") with
  | false => simp [eq_str h.wo so_put, hp]
  | true =>
    have : w = "put" := eq_of_beq hp
    subst this
    rcases h.last with ⟨z, _⟩ | ⟨_, ⟨c, ts, rfl, _, _, sh2, _⟩⟩
    · exact absurd z (by decide)
    have e0 := emp_eq sh2
    have e1 : neZ (.tup ts) (.tup []) = some (.sh (.bl (!ts.isEmpty))) := by
      have e2 := eqZ_ok' sh2 (show shp (.tup []) = true by decide +kernel)
      rw [e0] at e2
      have : ts.isEmpty = eqB (.tup ts) (.tup []) := by
        injection e2 with e2
        injection e2 with e2
        injection e2
      rw [neZ_ok' sh2 (show shp (.tup []) = true by decide +kernel), this]
    simp [eq_str so_put so_put, e1, empB]
end
end K02

namespace K02
open PySem PySem.Spec L2 DL
open PyProof.Rows hiding St
set_option autoImplicit false
section
variable {ns : List Int} {o1 o3 o4 o5 o6 o7 o8 o9 : Option D} {a b : Int} {d d2 : D} {w t w2 t2 : Str} {ix l ix2 l2 : D}
def q1 : Fs := (gPar 4 5 false false (fCallL (noX m__law_deed) [(true, (fVar 2)), (false, (fLst [(fCon (.str "p"))]))] (fLst [(fCon (.str "x"))])) (fCallL (noX m__law_deed) [(true, (fVar 2)), (false, (fLst [(fCon (.str "p"))]))] (fLst [(fCon (.str "x"))])))
theorem s1 : ∃ d d2 a' b', (∃ w t ix l, Dt d w t ix l) ∧ (∃ w t ix l, Dt d2 w t ix l) ∧ q1 (EL ns o1 (ow_ a b) o3 o4 o5 o6 o7 o8 o9) = .ok (.nx (EL ns o1 (ow_ a' b') o3 (some d) (some d2) o6 o7 o8 o9)) := by
  obtain ⟨d, a1, b1, ks1, h1, e1⟩ := deed1 a b
  obtain ⟨d2, a2, b2, ks2, h2, e2⟩ := deed1 a1 b1
  exact ⟨d, d2, a2, b2, h1, h2, by simp [q1, e1, e2]⟩
def q2 : Fs := (gIf (fTB (fOp neZ (fCall m_do_clash [(false, (fVar 4)), (false, (fVar 5))] []) (fCall (noX m__law_clash) [(false, (fVar 4)), (false, (fVar 5))] [])))
  (gRet (fCon (.bl false)))
  gNil)
theorem s2 {x2 : Option Sl} (h : Dt d w t ix l) (h2 : Dt d2 w2 t2 ix2 l2) : q2 (EL ns o1 x2 o3 (some d) (some d2) o6 o7 o8 o9) = .ok (.nx (EL ns o1 x2 o3 (some d) (some d2) o6 o7 o8 o9)) := by
  have e1 := clash_eq h h2
  have e2 := lclash_eq h h2
  simp [q2, e1, e2]
def q3 : Fs := (gIf (fTB (fOp neZ (fCall m_do_clash [(false, (fVar 5)), (false, (fVar 4))] []) (fCall m_do_clash [(false, (fVar 4)), (false, (fVar 5))] [])))
  (gRet (fCon (.bl false)))
  gNil)
theorem s3 {x2 : Option Sl} (h : Dt d w t ix l) (h2 : Dt d2 w2 t2 ix2 l2) : q3 (EL ns o1 x2 o3 (some d) (some d2) o6 o7 o8 o9) = .ok (.nx (EL ns o1 x2 o3 (some d) (some d2) o6 o7 o8 o9)) := by
  have e1 := clash_eq h h2
  have e2 := clash_eq h2 h
  rw [comm_eq h h2] at e2
  generalize ((t == t2) && !alB w w2 l l2 (empB l)) = c at e1 e2
  simp [q3, e1, e2]
def q4 : Fs := (gIf (fTB (fOp neZ (fCall m_do_clash [(false, (fVar 4)), (false, (fVar 4))] []) (fAnd (fOp eqZ (fOp ixZ (fVar 4) (fCon (.int 0))) (fCon (.str "put"))) (fOp neZ (fOp ixZ (fOp ixZ (fVar 4) (fCon (.int 2))) (fCon (.int 2))) (fTup [])))))
  (gRet (fCon (.bl false)))
  gNil)
theorem s4 {x2 : Option Sl} (h : Dt d w t ix l) : q4 (EL ns o1 x2 o3 (some d) o5 o6 o7 o8 o9) = .ok (.nx (EL ns o1 x2 o3 (some d) o5 o6 o7 o8 o9)) := by
  have e1 := clash_eq h h
  rw [self_eq h] at e1
  have e2 := selfE h (ns := ns) (o1 := o1) (o3 := o3) (o5 := o5) (o6 := o6) (o7 := o7) (o8 := o8) (o9 := o9) (x2 := x2)
  generalize ((w == "put") && !(empB l)) = c at e1 e2
  have e3 : fCall m_do_clash [(false, (fVar 4)), (false, (fVar 4))] [] (EL ns o1 x2 o3 (some d) o5 o6 o7 o8 o9) = .ok (.sh (.bl c), EL ns o1 x2 o3 (some d) o5 o6 o7 o8 o9) := by simp [e1]
  unfold q4 gIf fTB fOp
  rw [e3]
  simp only [Rs.bind_ok]
  unfold fOp at e2
  rw [e2]
  simp
def q5 : Fs := (gAsg (fLc (iRng1F (fCon (.int 3))) (ptName 10) ftYes (fOp subD (fCall (noX m__law_draw) [(true, (fVar 2)), (false, (fOp powD (fCon (.int 10)) (fCon (.int 9))))] []) (fOp powD (fCon (.int 10)) (fCon (.int 7)))) [10]) (ptLst [(ptName 6), (ptName 7), (ptName 8)]))
theorem s5 {o4 o5 : Option D} : ∃ v f s a' b', q5 (EL ns o1 (ow_ a b) o3 o4 o5 o6 o7 o8 o9) = .ok (.nx (EL ns o1 (ow_ a' b') o3 o4 o5 (some (.int v)) (some (.int f)) (some (.int s)) o9)) := by
  obtain ⟨v, a1, b1, _, _, e1⟩ := draw (a := a) (b := b) (c := 1000000000) (by omega) (by omega)
  obtain ⟨f, a2, b2, _, _, e2⟩ := draw (a := a1) (b := b1) (c := 1000000000) (by omega) (by omega)
  obtain ⟨s, a3, b3, _, _, e3⟩ := draw (a := a2) (b := b2) (c := 1000000000) (by omega) (by omega)
  exact ⟨v - 10000000, f - 10000000, s - 10000000, a3, b3, by simp [q5, ints3, e1, e2, e3]⟩
def q6 : Fs := (gIf (fAndT (fTB (fOp eqZ (fOp ixZ (fOp ixZ (fVar 4) (fCon (.int 1))) (fCon (.int 0))) (fOp ixZ (fOp ixZ (fVar 5) (fCon (.int 1))) (fCon (.int 0))))) (fNotT (fTru (fCall m_do_clash [(false, (fVar 4)), (false, (fVar 5))] []))))
  (gIf (fNotT (fTru (fCall (noX m__law_same_ends) [(false, (fVar 4)), (false, (fVar 5)), (false, (fVar 6)), (false, (fVar 7)), (false, (fVar 8))] [])))
  (gRet (fCon (.bl false)))
  gNil)
  gNil)
theorem s6 {x2 : Option Sl} {v f s : Int} (h : Dt d w t ix l) (h2 : Dt d2 w2 t2 ix2 l2) : q6 (EL ns o1 x2 o3 (some d) (some d2) (some (.int v)) (some (.int f)) (some (.int s)) o9) = .ok (.nx (EL ns o1 x2 o3 (some d) (some d2) (some (.int v)) (some (.int f)) (some (.int s)) o9)) := by
  have e1 := clash_eq h h2
  have k := fun p q => ends_ok h h2 p q v f s
  have z1 := h.eq
  have z2 := h2.eq
  have zt := eq_str h.to h2.to
  subst z1 z2
  cases ht : (t == t2) with
  | false =>
    rw [ht] at e1
    simp [q6, zt, ht]
  | true =>
    cases hc : ((t == t2) && !alB w w2 l l2 (empB l)) with
    | true =>
      rw [hc] at e1
      simp [q6, zt, ht, e1]
    | false =>
      rw [hc] at e1
      have k := k ht hc
      simp [q6, zt, ht, e1, k]
def b12 : Fs := (gSeq q1
  (gSeq q2
  (gSeq q3
  (gSeq q4
  (gSeq q5
  (gSeq q6
  (gFor (iAnyF (fLst [(fCon .non), (fCon (.int 5)), (fTup []), (fLst [(fCon (.str "read")), (fTup [(fCon (.str "a")), (fCon (.int 1))]), (fCon (.str "x"))]), (fTup [(fCon (.str "read")), (fTup [(fCon (.str "a")), (fCon (.int 1))]), (fCon (.int 5))]), (fCon (.str "read"))])) (ptName 9) b9)))))))
def nwn (x : Option Sl) : Prop := x = none ∨ ∃ d, x = some (.ow d)
def I12 (ns : List Int) (_ : Nat) (es : Ev) : Prop := ∃ o1 a b o3 o4 o5 o6 o7 o8 o9, es = EL ns o1 (ow_ a b) o3 o4 o5 o6 o7 o8 o9
theorem step12 {i : Nat} {x : D} {es : Ev} (h : I12 ns i es) : ∃ e1 e2, ptName 3 x es = some e1 ∧ (b12 e1 = .ok (.nx e2) ∨ b12 e1 = .ok (.ct e2)) ∧ I12 ns (i + 1) e2 := by
  obtain ⟨o1, a, b, o3, o4, o5, o6, o7, o8, o9, rfl⟩ := h
  obtain ⟨d, d2, a1, b1, ⟨w, t, ix, l, h1⟩, ⟨w2, t2, ix2, l2, h2⟩, e1⟩ := s1 (ns := ns) (o1 := o1) (a := a) (b := b) (o3 := some x) (o4 := o4) (o5 := o5) (o6 := o6) (o7 := o7) (o8 := o8) (o9 := o9)
  obtain ⟨v, f, s, a2, b2, e5⟩ := s5 (ns := ns) (o1 := o1) (a := a1) (b := b1) (o3 := some x) (o4 := some d) (o5 := some d2) (o6 := o6) (o7 := o7) (o8 := o8) (o9 := o9)
  obtain ⟨o9', e7⟩ := loop9 (ns := ns) (o1 := o1) (a := a2) (b := b2) (o3 := some x) (o5 := some d2) (o6 := some (.int v)) (o7 := some (.int f)) (o8 := some (.int s)) (o9 := o9) h1
  exact ⟨EL ns o1 (ow_ a b) (some x) o4 o5 o6 o7 o8 o9, _, by simp, .inl ((gSeq_ok e1).trans ((gSeq_ok (s2 h1 h2)).trans ((gSeq_ok (s3 h1 h2)).trans ((gSeq_ok (s4 h1)).trans ((gSeq_ok e5).trans ((gSeq_ok (s6 h1 h2)).trans e7)))))), _, _, _, _, _, _, _, _, _, _, rfl⟩
def b1 : Fs := (gSeq (gOwn (fCall (noX m__law_pool) [(false, (fVar 0)), (false, (fVar 1))] []) 2)
  (gFor (iRng1F (fCon (.int 12))) (ptName 3) b12))
def I1 (ns : List Int) (_ : Nat) (es : Ev) : Prop := ∃ o1 x2 o3 o4 o5 o6 o7 o8 o9, es = EL ns o1 x2 o3 o4 o5 o6 o7 o8 o9 ∧ nwn x2
theorem step1 {i k : Nat} {es : Ev} (h : I1 ns i es) : ∃ e1 e2, ptName 1 (.int (0 + (k : Int))) es = some e1 ∧ (b1 e1 = .ok (.nx e2) ∨ b1 e1 = .ok (.ct e2)) ∧ I1 ns (i + 1) e2 := by
  obtain ⟨o1, x2, o3, o4, o5, o6, o7, o8, o9, rfl, h2⟩ := h
  rw [Int.zero_add]
  obtain ⟨a, b, hp⟩ := pool (ns := ns) (k := k)
  have hx : isIoS x2 = false := by rcases h2 with rfl | ⟨_, rfl⟩ <;> rfl
  have e1 : gOwn (fCall (noX m__law_pool) [(false, (fVar 0)), (false, (fVar 1))] []) 2 (EL ns (some (.int k)) x2 o3 o4 o5 o6 o7 o8 o9) = .ok (.nx (EL ns (some (.int k)) (ow_ a b) o3 o4 o5 o6 o7 o8 o9)) := by
    simp [hp, hx]
  obtain ⟨e3, l1, l2⟩ := forL_go (p := ptName 3) (body := b12) (I12 ns) (ds := intsD 0 12) (k := 0) (es := EL ns (some (.int k)) (ow_ a b) o3 o4 o5 o6 o7 o8 o9) (fun i d e q w => step12 w) ⟨_, _, _, _, _, _, _, _, _, _, rfl⟩
  obtain ⟨p1, a', b', p3, p4, p5, p6, p7, p8, p9, rfl⟩ := l2
  have e2 : gFor (iRng1F (fCon (.int 12))) (ptName 3) b12 (EL ns (some (.int k)) (ow_ a b) o3 o4 o5 o6 o7 o8 o9) = .ok (.nx (EL ns p1 (ow_ a' b') p3 p4 p5 p6 p7 p8 p9)) := by
    unfold gFor
    rw [show iRng1F (fCon (.int 12)) (EL ns (some (.int k)) (ow_ a b) o3 o4 o5 o6 o7 o8 o9) = .ok (intsD 0 12, EL ns (some (.int k)) (ow_ a b) o3 o4 o5 o6 o7 o8 o9) by simp]
    exact l1
  exact ⟨EL ns (some (.int k)) x2 o3 o4 o5 o6 o7 o8 o9, _, by simp, .inl ((gSeq_ok e1).trans e2), _, _, _, _, _, _, _, _, _, rfl, .inr ⟨_, rfl⟩⟩
end
theorem turns8 {ns : List Int} {es : Ev} (h0 : fVar 0 es = .ok (.sh (.rl (ns.map D.int)), es)) (c : Int) (h8 : 0 ≤ c ∧ c ≤ 100) : ∃ n : Nat, iRng1F (fOp maxZ (fCon (.int 1)) (fOp minZ (fCon (.int c)) (fUn DL.lenZ (fVar 0)))) es = .ok (intsD 0 n, es) := by
  have v : fUn DL.lenZ (fVar 0) es = .ok (.sh (.int ns.length), es) := by
    unfold fUn
    rw [h0]
    simp
  refine ⟨(if (if (ns.length : Int) < c then (ns.length : Int) else c) > 1 then (if (ns.length : Int) < c then (ns.length : Int) else c) else 1).toNat, ?_⟩
  generalize hq : (if (if (ns.length : Int) < c then (ns.length : Int) else c) > 1 then (if (ns.length : Int) < c then (ns.length : Int) else c) else 1) = q
  have q0 : 0 ≤ q := by rw [← hq]; split <;> (try split) <;> omega
  have q1 : q ≤ 100 := by rw [← hq]; split <;> (try split) <;> omega
  have v3 : fOp maxZ (fCon (.int 1)) (fOp minZ (fCon (.int c)) (fUn DL.lenZ (fVar 0))) es = .ok (.sh (.int q), es) := by
    have v2 : fOp minZ (fCon (.int c)) (fUn DL.lenZ (fVar 0)) es = .ok (.sh (.int (if (ns.length : Int) < c then (ns.length : Int) else c)), es) := by
      rw [fOp_eq, show fCon (.int c) es = .ok (.sh (.int c), es) from rfl]
      simp only [Rs.bind_ok, v]
      simp
    rw [fOp_eq, show fCon (.int 1) es = .ok (.sh (.int 1), es) from rfl]
    simp only [Rs.bind_ok, v2]
    rw [← hq]
    rfl
  have e1 : -(4611686018427387904 : Int) ≤ q := by omega
  have e2 : q ≤ 16777216 := by omega
  unfold iRng1F
  simp [v3, asInt, e1, e2, -ev_op]
theorem law_true : ∀ ns : List Int, ns.length ≤ 63 → ∃ es, m_law [some (.sh (.rl (ns.map D.int)))] = .ok (.sh (.bl true), es) := by
  intro ns hn
  obtain ⟨n, hr⟩ := turns8 (ns := ns) (es := EL ns none none none none none none none none none) rfl 8 (by omega)
  obtain ⟨e3, l1, l2⟩ := forL_go (p := ptName 1) (body := b1) (I1 ns) (ds := intsD 0 n) (k := 0) (es := EL ns none none none none none none none none none) (fun i d e q w => by
    obtain ⟨k, rfl⟩ : ∃ k : Nat, d = .int (0 + (k : Int)) := by
      unfold intsD at q
      rw [List.getElem?_map] at q
      obtain ⟨k, _, h⟩ := Option.map_eq_some_iff.mp q
      exact ⟨k, h.symm⟩
    exact step1 w) ⟨none, none, none, none, none, none, none, none, none, rfl, .inl rfl⟩
  obtain ⟨p1, p2, p3, p4, p5, p6, p7, p8, p9, rfl, _⟩ := l2
  have s3 : gFor (iRng1F (fOp maxZ (fCon (.int 1)) (fOp minZ (fCon (.int 8)) (fUn DL.lenZ (fVar 0))))) (ptName 1) b1 (EL ns none none none none none none none none none) = .ok (.nx (EL ns p1 p2 p3 p4 p5 p6 p7 p8 p9)) := by
    unfold gFor
    rw [hr]
    exact l1
  have g : g_law (EL ns none none none none none none none none none) = .ok (.rt (.sh (.bl true)) (EL ns p1 p2 p3 p4 p5 p6 p7 p8 p9)) := (gSeq_ok s3).trans rfl
  refine ⟨[some (.sh (.rl (ns.map D.int)))], ?_⟩
  simp only [m_law, mDef]
  rw [show ([some (.sh (.rl (ns.map D.int)))] ++ List.replicate (11 - [some (Sl.sh (.rl (ns.map D.int)))].length) none : Ev) = EL ns none none none none none none none none none from rfl, g]
  rfl
end K02

open PySem PySem.W PyProof.Rows
set_option maxRecDepth 100000 in
set_option maxHeartbeats 0 in
theorem PySem.Challenge.cw_finestcuts_k02_whole_clashes_of_deeds_holds : PySem.Challenge.rw_finestcuts_k02_whole_clashes_of_deeds.Holds := by
  w_on; o_law; k_head; (case hw => w_witness2)
  k_fill
  refine L2.walk_of (l := PySem.Challenge.rw_finestcuts_k02_whole_clashes_of_deeds) (n := 63) (k := 7) (x := "_law_script") (CX := fun _ => L2.CX0) (sp := fun w => DL.spLaw _ 63) rfl (by decide) rfl ⟨rfl, by decide, by decide⟩ (fun w h Y => PySem.W.kIn_of Y) ?F (fun _ _ a ns hl _ hS => ⟨a, ns, rfl, hS, hl, fun _ => rfl⟩) (fun _ _ _ _ _ h => h)
  case F =>
    intro w mg fa h KX G hmg
    refine' K02.law_mk hmg (K02.txt_mk KX G ?z_type ?z_int ?z_abs ?z_str ?z_len ?z_all ?z_tuple ?z_range ?z_max ?z_min ?z_sorted ?z_isinstance ?z_ValueError ?z_sum ?a_CutError ?exC_CutError ?tyC_CutError ?kC_CutError ?hdC_CutError ?icC_CutError ?a_InvalidItem ?exC_InvalidItem ?tyC_InvalidItem ?kC_InvalidItem ?hdC_InvalidItem ?icC_InvalidItem ?ga_InvalidItem ?gg_InvalidItem ?nfh_InvalidItem ?xL_InvalidItem ?rv_InvalidItem ?sa_InvalidItem ?ih_InvalidItem ?th_InvalidItem ?l_InvalidItem ?c_InvalidItem ?k_InvalidItem ?ha_InvalidItem ?hn_InvalidItem ?ht_InvalidItem ?hm_InvalidItem ?su_InvalidItem_CutError ?su_InvalidItem_ValueError ?sc_InvalidItem_InvalidItem ?a_RESERVED' ?l_RESERVED ?e_RESERVED ?v_RESERVED ?a_CHANGES' ?l_CHANGES ?e_CHANGES ?v_CHANGES ?a_is_short_integer ?l_is_short_integer ?c_is_short_integer ?k_is_short_integer ?a_is_name ?l_is_name ?c_is_name ?k_is_name ?a_is_pair ?l_is_pair ?c_is_pair ?k_is_pair ?a_is_headed ?l_is_headed ?c_is_headed ?k_is_headed ?a_is_place ?l_is_place ?c_is_place ?k_is_place ?a_is_term ?l_is_term ?c_is_term ?k_is_term ?a_is_sum ?l_is_sum ?c_is_sum ?k_is_sum ?a_is_deed ?l_is_deed ?c_is_deed ?k_is_deed ?a_are_alike ?l_are_alike ?c_are_alike ?k_are_alike ?a_are_clashing ?l_are_clashing ?c_are_clashing ?k_are_clashing ?a_do_clash ?l_do_clash ?c_do_clash ?k_do_clash ?a_apply ?l_apply ?c_apply ?k_apply ?a__law_pool ?l__law_pool ?c__law_pool ?k__law_pool ?a__law_draw ?l__law_draw ?c__law_draw ?k__law_draw ?a__law_sum ?l__law_sum ?c__law_sum ?k__law_sum ?a__law_deed ?l__law_deed ?c__law_deed ?k__law_deed ?a__law_clash ?l__law_clash ?c__law_clash ?k__law_clash ?a__law_error ?l__law_error ?c__law_error ?k__law_error ?a__law_amount ?l__law_amount ?c__law_amount ?k__law_amount ?a__law_same_ends ?l__law_same_ends ?c__law_same_ends ?k__law_same_ends ?a_law ?l_law ?c_law ?k_law) K02.law_true
    (case z_type => k_is)
    (case z_int => k_is)
    (case z_abs => k_is)
    (case z_str => k_is)
    (case z_len => k_is)
    (case z_all => k_is)
    (case z_tuple => k_is)
    (case z_range => k_is)
    (case z_max => k_is)
    (case z_min => k_is)
    (case z_sorted => k_is)
    (case z_isinstance => k_is)
    (case z_ValueError => k_is)
    (case z_sum => k_is)
    (case a_CutError => k_is)
    (case exC_CutError => k_is)
    (case tyC_CutError => k_is)
    (case kC_CutError => k_is)
    (case hdC_CutError => k_is)
    (case icC_CutError => k_is)
    (case a_InvalidItem => k_is)
    (case exC_InvalidItem => k_is)
    (case tyC_InvalidItem => k_is)
    (case kC_InvalidItem => k_is)
    (case hdC_InvalidItem => k_is)
    (case icC_InvalidItem => k_is)
    (case ga_InvalidItem => k_is)
    (case gg_InvalidItem => k_is)
    (case nfh_InvalidItem => k_is)
    (case xL_InvalidItem => k_is)
    (case rv_InvalidItem => first | rfl | decide +kernel)
    (case sa_InvalidItem => k_is)
    (case ih_InvalidItem => k_is)
    (case th_InvalidItem => k_is)
    (case l_InvalidItem => k_is)
    (case c_InvalidItem => k_is)
    (case k_InvalidItem => k_is)
    (case ha_InvalidItem => k_is)
    (case hn_InvalidItem => k_is)
    (case ht_InvalidItem => k_is)
    (case hm_InvalidItem => k_is)
    (case su_InvalidItem_CutError => k_is)
    (case su_InvalidItem_ValueError => k_is)
    (case sc_InvalidItem_InvalidItem => k_is)
    (case a_RESERVED' => k_is)
    (case l_RESERVED => k_is)
    (case e_RESERVED => exact ⟨rfl, rfl⟩)
    (case v_RESERVED => (intro P; exact (.cons (by first | exact ⟨.str _, ⟨_, rfl⟩, .str _⟩ | exact ⟨.int _, rfl, .int _⟩) (.cons (by first | exact ⟨.str _, ⟨_, rfl⟩, .str _⟩ | exact ⟨.int _, rfl, .int _⟩) (.cons (by first | exact ⟨.str _, ⟨_, rfl⟩, .str _⟩ | exact ⟨.int _, rfl, .int _⟩) (.cons (by first | exact ⟨.str _, ⟨_, rfl⟩, .str _⟩ | exact ⟨.int _, rfl, .int _⟩) (.cons (by first | exact ⟨.str _, ⟨_, rfl⟩, .str _⟩ | exact ⟨.int _, rfl, .int _⟩) (.cons (by first | exact ⟨.str _, ⟨_, rfl⟩, .str _⟩ | exact ⟨.int _, rfl, .int _⟩) (.cons (by first | exact ⟨.str _, ⟨_, rfl⟩, .str _⟩ | exact ⟨.int _, rfl, .int _⟩) (.cons (by first | exact ⟨.str _, ⟨_, rfl⟩, .str _⟩ | exact ⟨.int _, rfl, .int _⟩) (.cons (by first | exact ⟨.str _, ⟨_, rfl⟩, .str _⟩ | exact ⟨.int _, rfl, .int _⟩) (.cons (by first | exact ⟨.str _, ⟨_, rfl⟩, .str _⟩ | exact ⟨.int _, rfl, .int _⟩) (.cons (by first | exact ⟨.str _, ⟨_, rfl⟩, .str _⟩ | exact ⟨.int _, rfl, .int _⟩) (.cons (by first | exact ⟨.str _, ⟨_, rfl⟩, .str _⟩ | exact ⟨.int _, rfl, .int _⟩) (.cons (by first | exact ⟨.str _, ⟨_, rfl⟩, .str _⟩ | exact ⟨.int _, rfl, .int _⟩) (.cons (by first | exact ⟨.str _, ⟨_, rfl⟩, .str _⟩ | exact ⟨.int _, rfl, .int _⟩) .nil))))))))))))))))
    (case a_CHANGES' => k_is)
    (case l_CHANGES => k_is)
    (case e_CHANGES => exact ⟨rfl, rfl⟩)
    (case v_CHANGES => (intro P; exact (.cons (by first | exact ⟨.str _, ⟨_, rfl⟩, .str _⟩ | exact ⟨.int _, rfl, .int _⟩) (.cons (by first | exact ⟨.str _, ⟨_, rfl⟩, .str _⟩ | exact ⟨.int _, rfl, .int _⟩) (.cons (by first | exact ⟨.str _, ⟨_, rfl⟩, .str _⟩ | exact ⟨.int _, rfl, .int _⟩) (.cons (by first | exact ⟨.str _, ⟨_, rfl⟩, .str _⟩ | exact ⟨.int _, rfl, .int _⟩) .nil))))))
    (case a_is_short_integer => k_is)
    (case l_is_short_integer => k_is)
    (case c_is_short_integer => k_is)
    (case k_is_short_integer => k_is)
    (case a_is_name => k_is)
    (case l_is_name => k_is)
    (case c_is_name => k_is)
    (case k_is_name => k_is)
    (case a_is_pair => k_is)
    (case l_is_pair => k_is)
    (case c_is_pair => k_is)
    (case k_is_pair => k_is)
    (case a_is_headed => k_is)
    (case l_is_headed => k_is)
    (case c_is_headed => k_is)
    (case k_is_headed => k_is)
    (case a_is_place => k_is)
    (case l_is_place => k_is)
    (case c_is_place => k_is)
    (case k_is_place => k_is)
    (case a_is_term => k_is)
    (case l_is_term => k_is)
    (case c_is_term => k_is)
    (case k_is_term => k_is)
    (case a_is_sum => k_is)
    (case l_is_sum => k_is)
    (case c_is_sum => k_is)
    (case k_is_sum => k_is)
    (case a_is_deed => k_is)
    (case l_is_deed => k_is)
    (case c_is_deed => k_is)
    (case k_is_deed => k_is)
    (case a_are_alike => k_is)
    (case l_are_alike => k_is)
    (case c_are_alike => k_is)
    (case k_are_alike => k_is)
    (case a_are_clashing => k_is)
    (case l_are_clashing => k_is)
    (case c_are_clashing => k_is)
    (case k_are_clashing => k_is)
    (case a_do_clash => k_is)
    (case l_do_clash => k_is)
    (case c_do_clash => k_is)
    (case k_do_clash => k_is)
    (case a_apply => k_is)
    (case l_apply => k_is)
    (case c_apply => k_is)
    (case k_apply => k_is)
    (case a__law_pool => k_is)
    (case l__law_pool => k_is)
    (case c__law_pool => k_is)
    (case k__law_pool => k_is)
    (case a__law_draw => k_is)
    (case l__law_draw => k_is)
    (case c__law_draw => k_is)
    (case k__law_draw => k_is)
    (case a__law_sum => k_is)
    (case l__law_sum => k_is)
    (case c__law_sum => k_is)
    (case k__law_sum => k_is)
    (case a__law_deed => k_is)
    (case l__law_deed => k_is)
    (case c__law_deed => k_is)
    (case k__law_deed => k_is)
    (case a__law_clash => k_is)
    (case l__law_clash => k_is)
    (case c__law_clash => k_is)
    (case k__law_clash => k_is)
    (case a__law_error => k_is)
    (case l__law_error => k_is)
    (case c__law_error => k_is)
    (case k__law_error => k_is)
    (case a__law_amount => k_is)
    (case l__law_amount => k_is)
    (case c__law_amount => k_is)
    (case k__law_amount => k_is)
    (case a__law_same_ends => k_is)
    (case l__law_same_ends => k_is)
    (case c__law_same_ends => k_is)
    (case k__law_same_ends => k_is)
    (case a_law => k_is)
    (case l_law => k_is)
    (case c_law => k_is)
    (case k_law => k_is)

